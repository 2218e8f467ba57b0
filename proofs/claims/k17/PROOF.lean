import PyProof.Rows.All
import Wide.All
import OpenK.AllK
import Wide.FinOn
import Lean
import PyProof.EqAt
import PyProof.EqKinds
import PyProof.TupleCall
import PyProof.NeKinds
import PyProof.ZipIter
import PyProof.EnumFor
import PyProof.EnumMake
import PyProof.EnumStmt
import PyProof.Draws
import KE.KDictSum
import PyProof.Rows.SortStr
import PyProof.StrWalks
import KE.KRevIter
import KE.KDictList
import PyProof.CollectIter
import PyProof.SliceStr2
import PyProof.StrBlockI
import KE.KListMore
import PyProof.DictWalks
import PyProof.TupleOfSeq
import PyProof.AttrMissHeap
import PyProof.AttrMissSeq
import KE.KDictOf
import PyProof.WalksMore
import KE.KSortTup
import KE.KSortKey
import PyProof.Rows.StrJoin2
import PyProof.ListMulRoad
import PyProof.FactsAll.tuple_2
import PySem.Challenge.RW_allmeet_k17_sets_made
set_option Elab.async false
set_option linter.all false
set_option maxRecDepth 100000
noncomputable section
abbrev VSP := PySem.Value → PySem.Shared → Prop
abbrev PNS := List (PySem.Addr × PySem.Obj)
namespace L2
open PySem PySem.Spec PyProof.Rows
noncomputable abbrev Key := Sum Int Str
noncomputable def bG6 : Key → Value → Bool
 | .inl k, v => Value.isInt k v
 | .inr x, v => Value.isStrOf x v
noncomputable def eC8 (w : World) : Key → Int
 | .inl k => hashInt k
 | .inr x => hashStr w x
theorem M6 : ∀ {k : Key} {v : Value}, bG6 k v = true → (∃ i t, k = Sum.inl i ∧ v = Value.int i t) ∨ (∃ x t, k = Sum.inr x ∧ v = Value.str x t)
 | .inl i, v, h => by
   obtain ⟨t, e⟩ := Value.isInt_shape (k := i) (v := v) h
   exact .inl ⟨i, t, rfl, e⟩
 | .inr x, v, h => by
   obtain ⟨t, e⟩ := Value.isStrOf_shape (x := x) (v := v) h
   exact .inr ⟨x, t, rfl, e⟩
theorem cQ5 (i : Int) (t : Tok) : bG6 (.inl i) (.int i t) = true := by simp [bG6, Value.isInt]
theorem cP7 (x : Str) (t : Tok) : bG6 (.inr x) (.str x t) = true := by simp [bG6, Value.isStrOf]
theorem dN7 (a b : Int) : decide ((Sum.inl a : Key) = Sum.inl b) = (a == b) := by
 by_cases e : a = b
 · subst e; simp
 · have h : ¬ (Sum.inl a : Key) = Sum.inl b := fun q => e (Sum.inl.inj q)
   rw [decide_eq_false h]
   exact (beq_eq_false_iff_ne.mpr e).symm
theorem dM2 (a b : Str) : decide ((Sum.inr a : Key) = Sum.inr b) = decide (a = b) := by
 by_cases e : a = b
 · subst e; simp
 · have h : ¬ (Sum.inr a : Key) = Sum.inr b := fun q => e (Sum.inr.inj q)
   rw [decide_eq_false h, decide_eq_false e]
theorem dT3 (a : Int) (b : Str) : decide ((Sum.inl a : Key) = Sum.inr b) = false := decide_eq_false (fun q => nomatch q)
theorem dQ2 (a : Str) (b : Int) : decide ((Sum.inr a : Key) = Sum.inl b) = false := decide_eq_false (fun q => nomatch q)
def Q9 (prog : Program) (w : World) : PySem.KeyKind prog w Key where
 is := bG6
 hash := eC8 w
 inj := fun v a b ha hb => by
  rcases M6 ha with ⟨i, t, rfl, rfl⟩ | ⟨x, t, rfl, rfl⟩
  · rcases M6 hb with ⟨j, u, rfl, e⟩ | ⟨y, u, rfl, e⟩
    · injection e with e1 _; rw [e1]
    · exact nomatch e
  · rcases M6 hb with ⟨j, u, rfl, e⟩ | ⟨y, u, rfl, e⟩
    · exact nomatch e
    · injection e with e1 _; rw [e1]
 byValue := fun k v h => by
  rcases M6 h with ⟨i, t, rfl, rfl⟩ | ⟨x, t, rfl, rfl⟩ <;> rfl
 pyHash := fun hv h => by
  rcases M6 hv with ⟨i, t, rfl, rfl⟩ | ⟨x, t, rfl, rfl⟩
  · exact wpAny_pyHash_int h
  · exact wpAny_pyHash_str h
 eqBool := fun hu hv h => by
  rcases M6 hu with ⟨i, t, rfl, rfl⟩ | ⟨x, t, rfl, rfl⟩
  · rcases M6 hv with ⟨j, u, rfl, rfl⟩ | ⟨y, u, rfl, rfl⟩
    · rw [dN7] at h; exact wpAny_eqBool_int h
    · rw [dT3] at h; exact SeqAt.EqAt.int_str i t y u _ _ _ _ h
  · rcases M6 hv with ⟨j, u, rfl, rfl⟩ | ⟨y, u, rfl, rfl⟩
    · rw [dQ2] at h; exact SeqAt.EqAt.str_int x t j u _ _ _ _ h
    · rw [dM2] at h; exact wpAny_eqBool_str h
 «strs» := fun k x t v h => by
  rcases M6 h with ⟨i, u, rfl, e⟩ | ⟨y, u, rfl, e⟩
  · exact nomatch e
  · injection e with e1 _
    subst e1
    cases v <;> rfl
theorem bY3 (prog : Program) (w : World) (i : Int) (t : Tok) : (Q9 prog w).is (.inl i) (.int i t) = true := cQ5 i t
theorem bW8 (prog : Program) (w : World) (x : Str) (t : Tok) : (Q9 prog w).is (.inr x) (.str x t) = true := cP7 x t
inductive V where
 | non | bl (b : Bool) | int (i : Int) | str (x : Str) | byt (b : Array UInt8) | flt (b : UInt64) | ref (a : Addr) | ty (n : String)
 deriving DecidableEq
noncomputable def J7 : V → Value → Prop
 | .non, u => u = Value.none
 | .bl b, u => u = Value.bool b
 | .int i, u => ∃ t, u = Value.int i t
 | .str x, u => ∃ t, u = Value.str x t
 | .byt b, u => ∃ t, u = Value.bytes b t
 | .flt b, u => ∃ t, u = Value.float b t
 | .ref a, u => u = Value.ref a
 | .ty n, u => u = Value.type n
abbrev w6 : List V → List Value → Prop := Paired J7
theorem w6.length {xs : List V} {us : List Value} (r : w6 xs us) : xs.length = us.length := Paired.length r
theorem w6.get : ∀ {xs : List V} {us : List Value} {i : Nat} {x : V}, w6 xs us → xs[i]? = some x → ∃ u, us[i]? = some u ∧ J7 x u
 | _, _, _, _, .nil, e => by simp at e
 | _, _, 0, _, .cons r _, e => by simp at e; subst e; exact ⟨_, rfl, r⟩
 | _, _, i + 1, x, .cons _ t, e => by
   obtain ⟨u, h1, h2⟩ := w6.get (i := i) (x := x) t (by simpa using e)
   exact ⟨u, by simpa using h1, h2⟩
theorem w6.set {x : V} {u : Value} (r : J7 x u) : ∀ {xs : List V} {us : List Value} (i : Nat), w6 xs us → w6 (xs.set i x) (us.set i u)
 | _, _, _, .nil => .nil
 | _, _, 0, .cons _ t => .cons r t
 | _, _, i + 1, .cons q t => .cons q (w6.set r i t)
theorem w6.append {xs ys : List V} {us ws : List Value} (h : w6 xs us) (k : w6 ys ws) : w6 (xs ++ ys) (us ++ ws) := by
 induction h with
 | nil => exact k
 | cons r t ih => exact .cons r ih
theorem w6.take : ∀ {xs : List V} {us : List Value} (n : Nat), w6 xs us → w6 (xs.take n) (us.take n)
 | _, _, 0, _ => .nil
 | _, _, _ + 1, .nil => .nil
 | _, _, n + 1, .cons r t => .cons r (w6.take n t)
theorem w6.drop : ∀ {xs : List V} {us : List Value} (n : Nat), w6 xs us → w6 (xs.drop n) (us.drop n)
 | _, _, 0, r => r
 | _, _, _ + 1, .nil => .nil
 | _, _, n + 1, .cons _ t => w6.drop n t
def cT8 : Option V → Option Value → Prop
 | some v, some u => J7 v u
 | none, none => True
 | _, _ => False
def KV {κ : Type} : List (κ × V) → List (κ × Value) → Prop := Paired fun (p : κ × V) (q : κ × Value) => p.1 = q.1 ∧ J7 p.2 q.2
noncomputable def kV : Key → V
 | .inl i => .int i
 | .inr x => .str x
inductive HO where
 /-- a list -/
 | lst (xs : List V)
 /-- a tuple (never changes) -/
 | tup (xs : List V)
 /-- a dict whose keys are ints and texts; one whose keys are tuples of ints and texts (the empty one is both) -/
 | dK (kvs : List (Key × V)) | dT (kvs : List (List Key × V))
 /-- a set of ints: its members, its size -/
 | set (S : Int → Bool) (n : Nat)
 /-- an instance of the class at C, its dict at dx, its attributes -/
 | ins (C dx : Addr) (fs : List (Str × V))
 /-- the dict of the instance at x -/
 | own (x : Addr)
 /-- the dict of an exception -/
 | xd (fs : List (Str × V))
 /-- a bound method, f of x -/
 | met (f x : Addr)
 /-- a range object lo, lo + 1, .. below hi -/
 | rng (lo hi : Int)
 /-- a thing that is known to the object (the script; a dict while a loop walks it): read, never written while it is so -/
 | frz (o : Obj) (u : HO)
 /-- a code object's table -/
 | tbl (ps : Array Value)
 /-- any other thing, by what is true of its one object (a def of one's own: SetO a S n := HO.ext fun h => ..) -/
 | ext (φ : Heap → Prop)
noncomputable abbrev Hp := Addr → Option HO
noncomputable def upd (H : Hp) (a : Addr) (o : HO) : Hp := fun b => if b = a then some o else H b
theorem M8 {H : Hp} {a : Addr} {o : HO} : upd H a o a = some o := by unfold upd; rw [if_pos rfl]
theorem t8 {H : Hp} {a b : Addr} {o : HO} (h : b ≠ a) : upd H a o b = H b := by unfold upd; rw [if_neg h]
theorem eA3 {H : Hp} {a b : Addr} {o u : HO} (h : H a = some o) (h' : H b = some u) (d : o ≠ u) : a ≠ b := by
 intro e; subst e; rw [h] at h'; exact d (Option.some.inj h')
theorem J0 {H : Hp} {a b : Addr} {o : HO} (h : H a = some o) (h' : H b = none) : a ≠ b := by
 intro e; subst e; rw [h] at h'; cases h'
section
variable (P : Program) (w : World)
noncomputable def aC3 (h : Heap) (a : Addr) (items : Array Value) : Prop := ∃ o, h.get? a = some o ∧ o.cls = .type "tuple" ∧ ∃ n, (o.data, o.dict) = (Data.seq items n, none)
theorem aC3.tup {h : Heap} {a : Addr} {items : Array Value} (x : aC3 h a items) : IsTup h a items := by
 obtain ⟨o, e, c, n, d⟩ := x
 exact ⟨o, e, c, n, (Prod.mk.inj d).1⟩
theorem aC3.new (h : Heap) (items : Array Value) : aC3 (h.push { cls := .type "tuple", data := .seq items }) h.objs.size items := ⟨_, Heap.get?_push_size _ rfl, rfl, _, rfl⟩
def R9 (H : Hp) (h : Heap) (a : Addr) : HO → Prop
 | .lst xs => xs.length ≤ sizeLine ∧ ∃ (its : List Value) (n : Nat), w6 xs its ∧ h.get? a = some { cls := .type "list", data := .seq its.toArray n }
 | .tup xs => xs.length ≤ sizeLine ∧ ∃ its : List Value, w6 xs its ∧ aC3 h a its.toArray
 | .dK kvs => kvs.length ≤ sizeLine ∧ (a == sysModules) = false ∧ ∃ vs, KV kvs vs ∧ h.DictOf (Q9 P w) a vs
 | .dT kvs => kvs.length ≤ sizeLine ∧ (a == sysModules) = false ∧ ∃ xs : List (List Key × Addr × Value),
    Paired (fun (p : List Key × V) (q : List Key × Addr × Value) => p.1 = q.1 ∧ H q.2.1 = some (.tup (p.1.map kV)) ∧ J7 p.2 q.2.2) kvs xs ∧
    ∃ o es ep, h.get? a = some o ∧ o.ExactDict ∧ o.data = .dict es ep ∧ es.toList = xs.map (entryOfKey (tupleKind (Q9 P w))) ∧ (xs.map (·.1)).Nodup
 | .set S n => h.SetOf (intKind P w) a S n
 | .ins C dx fs => H dx = some (.own a) ∧ fs.length ≤ 1000 ∧ dx ≠ a ∧ h.get? a = some (PySem.W.instObj C dx) ∧
    ∃ mA, h.Ns1 dx mA ∧ (∀ f, cT8 (fs.lookup f) (mA f)) ∧ PySem.Within mA (fs.map (·.1))
 | .own _ => ∃ o, h.get? a = some o
 | .xd fs => ∃ mA, h.Ns1 a mA ∧ ∀ f, cT8 (fs.lookup f) (mA f)
 | .rng lo hi => ∃ t u v, h.get? a = some { cls := .type "range", data := .fields #[.int lo t, .int hi u, .int 1 v] }
 | .frz o u => h.get? a = some o ∧ R9 H h a u
 | .tbl ps => h.get? a = some { cls := .none, data := .fields ps }
 | .met f x => h.get? a = some (PySem.W.methodObj (.ref f) (.ref x))
 | .ext φ => φ h ∧ (∃ o, h.get? a = some o) ∧ ∀ h1 h2 : Heap, φ h1 → (∀ o, h1.get? a = some o → h2.get? a = some o) → φ h2
def HOk (H : Hp) (h : Heap) : Prop := ∀ a o, H a = some o → R9 P w H h a o
end
section
variable {P : Program} {w : World} {H H' : Hp} {h h' : Heap} {a : Addr} {o : HO}
theorem R9.lt (x : R9 P w H h a o) : a < h.objs.size := by
 cases o with
 | lst xs => obtain ⟨_, _, _, _, e⟩ := x; exact Heap.lt_size e
 | tup xs => obtain ⟨_, _, _, p⟩ := x; exact (aC3.tup p).lt
 | dK kvs => obtain ⟨_, _, _, _, o, _, _, e, _⟩ := x; exact Heap.lt_size e
 | dT kvs => obtain ⟨_, _, _, _, o, _, _, e, _⟩ := x; exact Heap.lt_size e
 | set S n => obtain ⟨o, _, _, _, e, _⟩ := x; exact Heap.lt_size e
 | ins C dx fs => obtain ⟨_, _, _, e, _⟩ := x; exact Heap.lt_size e
 | own y => obtain ⟨_, e⟩ := x; exact Heap.lt_size e
 | xd fs => obtain ⟨_, ⟨_, _, _, e, _⟩, _⟩ := x; exact Heap.lt_size e
 | rng lo hi => obtain ⟨_, _, _, e⟩ := x; exact Heap.lt_size e
 | frz ob u => obtain ⟨e, _⟩ := x; exact Heap.lt_size e
 | tbl ps => exact Heap.lt_size (show h.get? a = some _ from x)
 | met f y => exact Heap.lt_size (show h.get? a = some _ from x)
 | ext φ => obtain ⟨_, ⟨_, e⟩, _⟩ := x; exact Heap.lt_size e
theorem Paired.mapP {α β : Type} {F G : α → β → Prop} {l₁ : List α} {l₂ : List β} (h : Paired F l₁ l₂) (f : ∀ a b, F a b → G a b) : Paired G l₁ l₂ := by
 induction h with
 | nil => exact .nil
 | cons r t ih => exact .cons (f _ _ r) ih
theorem R9.stay (x : R9 P w H h a o) (k : ∀ b u, (b = a ∨ H b = some (.own a)) → h.get? b = some u → h'.get? b = some u)
 (ho : ∀ b, H b = some (.own a) → H' b = some (.own a)) (ht : ∀ b xs, H b = some (.tup xs) → H' b = some (.tup xs)) : R9 P w H' h' a o := by
 induction o with
 | lst xs => obtain ⟨z, its, n, r, e⟩ := x; exact ⟨z, its, n, r, k _ _ (.inl rfl) e⟩
 | tup xs => obtain ⟨z, its, r, ob, e, c⟩ := x; exact ⟨z, its, r, ob, k _ _ (.inl rfl) e, c⟩
 | dK kvs => obtain ⟨z, y, vs, r, ob, es, ep, e, c⟩ := x; exact ⟨z, y, vs, r, ob, es, ep, k _ _ (.inl rfl) e, c⟩
 | dT kvs =>
   obtain ⟨z, y, xs, r, ob, es, ep, e, c⟩ := x
   exact ⟨z, y, xs, Paired.mapP r fun p q z => ⟨z.1, ht _ _ z.2.1, z.2.2⟩, ob, es, ep, k _ _ (.inl rfl) e, c⟩
 | set S n => obtain ⟨ob, es, ep, t, e, c⟩ := x; exact ⟨ob, es, ep, t, k _ _ (.inl rfl) e, c⟩
 | ins C dx fs =>
   obtain ⟨d, z, ne, e, mA, ⟨od, es, ep, e2, c⟩, r⟩ := x
   exact ⟨ho _ d, z, ne, k _ _ (.inl rfl) e, mA, ⟨od, es, ep, k _ _ (.inr d) e2, c⟩, r⟩
 | own y => obtain ⟨ob, e⟩ := x; exact ⟨ob, k _ _ (.inl rfl) e⟩
 | xd fs => obtain ⟨mA, ⟨od, es, ep, e, c⟩, r⟩ := x; exact ⟨mA, ⟨od, es, ep, k _ _ (.inl rfl) e, c⟩, r⟩
 | rng lo hi => obtain ⟨t, u, v, e⟩ := x; exact ⟨t, u, v, k _ _ (.inl rfl) e⟩
 | frz ob u ih => obtain ⟨e, q⟩ := x; exact ⟨k _ _ (.inl rfl) e, ih q⟩
 | tbl ps =>
   have e : h.get? a = some { cls := .none, data := .fields ps } := x
   show h'.get? a = some { cls := .none, data := .fields ps }
   exact k a _ (.inl rfl) e
 | met f y =>
   have e : h.get? a = some (PySem.W.methodObj (.ref f) (.ref y)) := x
   show h'.get? a = some (PySem.W.methodObj (.ref f) (.ref y))
   exact k a _ (.inl rfl) e
 | ext φ => obtain ⟨p, ⟨o, e⟩, st⟩ := x; exact ⟨st _ _ p fun o q => k _ _ (.inl rfl) q, ⟨o, k _ _ (.inl rfl) e⟩, st⟩
theorem HOk.lt (x : HOk P w H h) (e : H a = some o) : a < h.objs.size := (x a o e).lt
theorem HOk.fresh (x : HOk P w H h) (e : h.objs.size ≤ a) : H a = none := by
 rcases q : H a with _ | u
 · rfl
 · exact absurd (Nat.lt_of_lt_of_le (x.lt q) e) (Nat.lt_irrefl _)
theorem HOk.kept (x : HOk P w H h) (k : ∀ b u, h.get? b = some u → h'.get? b = some u) : HOk P w H h' := fun a o e =>
 (x a o e).stay (fun b u _ q => k b u q) (fun _ q => q) fun _ _ q => q
theorem HOk.laid (x : HOk P w H h) (k : ∀ b u, h.get? b = some u → h'.get? b = some u) (hp : h.objs.size ≤ a) (new : R9 P w (upd H a o) h' a o) : HOk P w (upd H a o) h' := fun b u e => by
 have hn := x.fresh hp
 by_cases hb : b = a
 · subst hb; rw [M8] at e; cases e; exact new
 · rw [t8 hb] at e
   exact (x b u e).stay (fun c v _ q => k c v q) (fun c q => by rw [t8 (J0 q hn)]; exact q) fun c xs q => by rw [t8 (J0 q hn)]; exact q
end
noncomputable def Rd (H : Hp) (a : Addr) (u : HO) : Prop := H a = some u ∨ ∃ o, H a = some (.frz o u)
theorem Rd.ok {P : Program} {w : World} {H : Hp} {h : Heap} {a : Addr} {u : HO} (r : Rd H a u) (x : HOk P w H h) : R9 P w H h a u := by
 rcases r with r | ⟨o, r⟩
 · exact x a u r
 · obtain ⟨_, q⟩ := x a _ r
   exact q
noncomputable def Mut : Option HO → Prop
 | some (.lst _) => True
 | some (.dK _) => True
 | some (.dT _) => True
 | some (.set _ _) => True
 | some (.ins _ _ _) => True
 | some (.ext _) => True
 | _ => False
section
variable {P : Program} {w : World} {H : Hp} {h h' : Heap} {x e : Addr} {o' : HO}
theorem HOk.write (ok : HOk P w H h) (mu : Mut (H x)) (he : e = x ∨ H e = some (.own x)) (k : ∀ b u, b ≠ e → h.get? b = some u → h'.get? b = some u) (heo : ∃ u, h'.get? e = some u)
 (new : R9 P w (upd H x o') h' x o') : HOk P w (upd H x o') h' := fun b u q => by
 have nown : ∀ c y, H c = some (.own y) → c ≠ x := fun c y r z => by subst z; rw [r] at mu; exact mu
 have ntup : ∀ c xs, H c = some (.tup xs) → c ≠ x := fun c xs r z => by subst z; rw [r] at mu; exact mu
 by_cases hb : b = x
 · subst hb; rw [M8] at q; cases q; exact new
 · rw [t8 hb] at q
   by_cases hbe : b = e
   · have q' : H b = some (.own x) := by
      rcases he with z | z
      · exact absurd (hbe.trans z) hb
      · rw [hbe]; exact z
     rw [q] at q'; cases q'
     obtain ⟨v, hv⟩ := heo
     exact ⟨v, by rw [hbe]; exact hv⟩
   · refine (ok b u q).stay (fun c v hc r => k c v ?_ r) (fun c r => by rw [t8 (nown c b r)]; exact r) fun c xs r => by rw [t8 (ntup c xs r)]; exact r
     rcases hc with rfl | hc
     · exact hbe
     · rintro rfl
       rcases he with z | z
       · exact nown c b hc z
       · rw [hc] at z; cases z; exact hb rfl
end
structure Un (fs ex : List Addr) (H H' : Hp) (h h' : Heap) : Prop where
 keep : ∀ b o, h.get? b = some o → H b = none → b ∉ fs → b ∉ ex → h'.get? b = some o
 slot : ∀ b o, h.get? b = some o → H b = none → b ∈ fs → b ∉ ex → ∃ sl, h'.get? b = some { o with slots := sl }
 free : ∀ b o, h.get? b = some o → H b = none → b ∉ ex → H' b = none
 there : ∀ b o, h.get? b = some o → b ∉ ex → ∃ o', h'.get? b = some o'
 tups : ∀ b xs, H b = some (.tup xs) → H' b = some (.tup xs)
 frzs : ∀ b o u, H b = some (.frz o u) → H' b = some (.frz o u)
 tbls : ∀ b ps, H b = some (.tbl ps) → ∃ more, H' b = some (.tbl (ps ++ more))
section
variable {fs fs' ex ex' : List Addr} {H H1 H2 : Hp} {h h1 h2 h' : Heap} {a x e : Addr} {o : HO}
theorem Un.any (u : Un fs ex H H1 h h1) {b : Addr} {ob : Obj} (q : h.get? b = some ob) (n : H b = none) (hx : b ∉ ex) : ∃ sl, h1.get? b = some { ob with slots := sl } := by
 by_cases hb : b ∈ fs
 · exact u.slot b ob q n hb hx
 · exact ⟨ob.slots, u.keep b ob q n hb hx⟩
theorem Un.kept (k : ∀ b u, h.get? b = some u → h'.get? b = some u) : Un fs ex H H h h' :=
 ⟨fun b ob q _ _ _ => k b ob q, fun b ob q _ _ _ => ⟨ob.slots, k b ob q⟩, fun _ _ _ n _ => n, fun b ob q _ => ⟨ob, k b ob q⟩, fun _ _ q => q, fun _ _ _ q => q, fun _ ps q => ⟨#[], by rw [q]; simp⟩⟩
theorem Un.refl : Un fs ex H H h h := Un.kept fun _ _ q => q
theorem Un.laid (k : ∀ b u, h.get? b = some u → h'.get? b = some u) (hp : h.objs.size ≤ a) (hn : H a = none) : Un fs ex H (upd H a o) h h' where
 keep := fun b u q _ _ _ => k b u q
 slot := fun b u q _ _ _ => ⟨u.slots, k b u q⟩
 free := fun b u q n _ => by rw [t8 (Nat.ne_of_lt (Nat.lt_of_lt_of_le (Heap.lt_size q) hp))]; exact n
 there := fun b u q _ => ⟨u, k b u q⟩
 tups := fun b xs q => by rw [t8 (J0 q hn)]; exact q
 frzs := fun b u xs q => by rw [t8 (J0 q hn)]; exact q
 tbls := fun b ps q => ⟨#[], by rw [t8 (J0 q hn), q]; simp⟩
theorem Un.write (mu : Mut (H x)) (he : e = x ∨ H e = some (.own x)) (k : ∀ b u, b ≠ e → h.get? b = some u → h'.get? b = some u) (heo : ∃ u, h'.get? e = some u) : Un fs ex H (upd H x o) h h' := by
 have hx : ∀ b, H b = none → b ≠ x := fun b n z => by subst z; rw [n] at mu; exact mu
 have hb : ∀ b, H b = none → b ≠ e := fun b n z => by
  subst z
  rcases he with r | r
  · exact hx b n r
  · rw [n] at r; cases r
 have hm : ∀ b u, H b = some u → ¬ Mut (some u) → b ≠ x := fun b u q nm z => by subst z; rw [q] at mu; exact nm mu
 refine ⟨fun b u q n _ _ => k b u (hb b n) q, fun b u q n _ _ => ⟨u.slots, k b u (hb b n) q⟩, fun b u q n _ => by rw [t8 (hx b n)]; exact n, fun b u q _ => ?_,
  fun b xs q => by rw [t8 (hm b _ q fun z => z)]; exact q, fun b u xs q => by rw [t8 (hm b _ q fun z => z)]; exact q, fun b ps q => ⟨#[], by rw [t8 (hm b _ q fun z => z), q]; simp⟩⟩
 by_cases hbe : b = e
 · subst hbe; exact heo
 · exact ⟨u, k b u hbe q⟩
end
noncomputable def trk (h : Heap) (H : Hp) : List Addr := (List.range h.objs.size).filter fun a => (H a).isSome
def bR8 (h : Heap) (H : Hp) : Heap := PySem.W.hideAll h (trk h H)
theorem cM4 (h : Heap) (H : Hp) : (bR8 h H).objs.size = h.objs.size := PySem.W.hideAll_size _ _
theorem cV2 {h : Heap} {H : Hp} {b : Addr} {o : Obj} (e : h.get? b = some o) (n : H b = none) : (bR8 h H).get? b = some o :=
 PySem.W.hideAll_get _ e fun hm => by
  have q : (H b).isSome = true := (List.mem_filter.mp hm).2
  rw [n] at q; simp at q
theorem dG4 {h : Heap} {H : Hp} {b : Addr} {o : Obj} (e : (bR8 h H).get? b = some o) : h.get? b = some o ∧ H b = none := by
 have e' : h.get? b = some o := PySem.W.of_hideAll (trk h H) e
 refine ⟨e', ?_⟩
 rcases q : H b with _ | x
 · rfl
 ·
   have hm : b ∈ trk h H := List.mem_filter.mpr ⟨List.mem_range.mpr (Heap.lt_size e'), by simp [q]⟩
   have z : (bR8 h H).get? b = none := PySem.W.hideAll_none (trk h H) hm
   rw [z] at e; cases e
noncomputable def dB0 (g h : Heap) (L : Addr) : PNS := (List.range h.objs.size).filterMap fun a => if a = L ∨ (g.get? a).isSome = true then none else (h.get? a).map fun o => (a, o)
def Z4 (g h : Heap) (L d : Addr) : PNS := (dB0 g h L).filter fun p => decide (p.1 ≠ d)
structure Mod (K : PySem.W.Frag) (mg : Str → Option Value) (base : Heap) : Prop where
 kin : K.In base
 glob : base.Ns mainGlobals mg
 blt : ∃ mb, base.Ns builtinsNs mb ∧ ∀ x : Str, x ≠ "__name__" → mb x = bootBuiltins x
 nolimit : base.NoLimit
structure Cx where
 prog : Program
 w : World
 K : PySem.W.Frag
 mg : Str → Option Value
 base : Heap
 A : Around
 N : List Str
 s₀ : Shared
 H₀ : Hp
 env : Env
 outer : List Env
 stack : List Env
 ex : List Addr
 fn : Str → Bool
 calm : Bool
 pn : PNS
 xe : VSP
noncomputable def frs (l : List Env) : List Addr := l.filterMap (·.frame)
abbrev Cx.fs (X : Cx) : List Addr := frs X.outer
noncomputable def Vis (sc : Scope) (x : Str) : Prop := sc.names.lookup x = some .local ∨ sc.names.lookup x = some .cell ∨ sc.names.lookup x = some .free
noncomputable def Loc (sc : Scope) (x : Str) : Prop := sc.names.lookup x = some .local ∨ sc.names.lookup x = some .cell
noncomputable def eE7 (env : Env) (h : Heap) (m : Str → Option Value) (x : Str) (u : Value) : Prop :=
 (env.kindOf x = some .local ∧ m x = some u) ∨ ((env.kindOf x = some .cell ∨ env.kindOf x = some .free) ∧ ∃ c, env.cells.lookup x = some c ∧ h.IsCell c (some u))
structure Cx.Ok (X : Cx) : Prop where
 mod : Mod X.K X.mg X.base
 kind : X.env.scope.kind = .function
 glob : X.env.globals = mainGlobals
 blt : X.env.builtins = builtinsNs
 above : X.s₀.heap.objs.size ≤ X.env.locals
 inj : ∀ x y c, X.env.cells.lookup x = some c → X.env.cells.lookup y = some c → x = y
 has : ∀ x, (X.env.kindOf x = some .cell ∨ X.env.kindOf x = some .free) → ∃ c, X.env.cells.lookup x = some c
 cab : ∀ x c, X.fn x = true → X.env.cells.lookup x = some c → X.s₀.heap.objs.size ≤ c
 hd : X.calm = true → X.A.handled = none
 frames : X.A.frames = some X.stack
 stk : X.stack = X.outer ∨ (X.stack = X.env :: X.outer ∧ X.env.frame = some X.env.locals)
 exf : ∀ b ∈ X.ex, b ≠ X.env.locals ∧ ∀ x c, X.env.cells.lookup x = some c → c ≠ b
 bs : ∀ b o, X.base.get? b = some o → X.s₀.heap.get? b = some o ∧ X.H₀ b = none
 bsz : X.base.objs.size ≤ X.s₀.heap.objs.size
 noex : ∀ b o, X.base.get? b = some o → b ∉ X.ex
 exfs : ∀ b ∈ X.ex, b ∉ X.fs
 funs : X.s₀.heap.FunFrames X.base X.outer
 frf : ∀ b ∈ X.fs, X.H₀ b = none
structure Inv (X : Cx) (pins : PNS) (σ : List (Option V)) (H : Hp) (s : Shared) : Prop where
 ok : X.Ok
 os : s.os = X.s₀.os
 bare : AllBare s.gens
 base : Un X.fs X.ex X.H₀ H X.s₀.heap s.heap
 loc : ∃ m, s.heap.Ns X.env.locals m ∧ ∀ (i : Nat) (x : Str) (v : V), X.N[i]? = some x → σ[i]? = some (some v) → Vis X.env.scope x → ∃ u, J7 v u ∧ eE7 X.env s.heap m x u
 cell : ∀ x c, X.env.cells.lookup x = some c → ∃ v, s.heap.IsCell c v
 free : H X.env.locals = none
 freeC : ∀ x c, X.env.cells.lookup x = some c → H c = none
 pin : ∀ p ∈ X.pn ++ pins, s.heap.get? p.1 = some p.2 ∧ H p.1 = none ∧ p.1 ≠ X.env.locals ∧ p.1 ∉ X.fs ∧ ∀ v, p.2.data ≠ .cell v
 hok : HOk X.prog X.w H s.heap
 len : σ.length = X.N.length
section
variable {X : Cx} {pins : PNS} {σ : List (Option V)} {H H' : Hp} {s : Shared} {h' : Heap}
theorem Cx.Ok.nofr (ok : X.Ok) {b : Addr} {o : Obj} (e : X.base.get? b = some o) : b ∉ X.fs := fun hb => by
 have := (ok.funs.mem hb).1
 rw [e] at this; cases this
theorem Inv.bs (I : Inv X pins σ H s) : ∀ b o, X.base.get? b = some o → s.heap.get? b = some o ∧ H b = none := fun b o e =>
 ⟨I.base.keep b o (I.ok.bs b o e).1 (I.ok.bs b o e).2 (I.ok.nofr e) (I.ok.noex b o e), I.base.free b o (I.ok.bs b o e).1 (I.ok.bs b o e).2 (I.ok.noex b o e)⟩
theorem Inv.bk (I : Inv X pins σ H s) : ∀ b o, X.base.get? b = some o → s.heap.get? b = some o := fun b o e => (I.bs b o e).1
theorem Inv.mod (I : Inv X pins σ H s) : Mod X.K X.mg X.base := I.ok.mod
theorem Inv.kIn (I : Inv X pins σ H s) : X.K.In s.heap := I.ok.mod.kin.keeps I.bk
theorem Inv.lt (I : Inv X pins σ H s) : X.env.locals < s.heap.objs.size := let ⟨_, hn, _⟩ := I.loc; hn.lt
theorem Inv.sz (I : Inv X pins σ H s) : X.s₀.heap.objs.size ≤ s.heap.objs.size := Nat.le_trans I.ok.above (Nat.le_of_lt I.lt)
theorem Inv.nofs (I : Inv X pins σ H s) {a : Addr} (h : s.heap.objs.size ≤ a) : a ∉ X.fs := fun hb => by
 obtain ⟨_, o, ho, _⟩ := I.ok.funs.mem hb
 exact absurd (Nat.lt_of_lt_of_le (Heap.lt_size ho) (Nat.le_trans I.sz h)) (Nat.lt_irrefl _)
theorem Inv.cne (I : Inv X pins σ H s) : ∀ x c, X.env.cells.lookup x = some c → c ≠ X.env.locals := fun x c e z => by
 obtain ⟨v, o, ho, hd⟩ := I.cell x c e
 obtain ⟨m, ⟨o', es, ep, ho', hd', _⟩, _⟩ := I.loc
 rw [z, ho'] at ho; cases ho; rw [hd'] at hd; cases hd
theorem Inv.funs (I : Inv X pins σ H s) : s.heap.FunFrames X.base X.outer := by
 have all : ∀ (l : List Env), (∀ b ∈ frs l, b ∈ X.fs) → X.s₀.heap.FunFrames X.base l → s.heap.FunFrames X.base l := by
  intro l
  induction l with
  | nil => intro _ _; trivial
  | cons env r ih =>
    intro hs hl
    obtain ⟨hk, ⟨L, o, hf, hn, ho, hd⟩, hr⟩ := hl
    have hL : L ∈ X.fs := hs L (by unfold frs; rw [List.filterMap_cons, hf]; exact List.mem_cons_self)
    obtain ⟨sl, e⟩ := I.base.slot L o ho (I.ok.frf L hL) hL fun z => I.ok.exfs L z hL
    exact ⟨hk, ⟨L, _, hf, hn, e, hd⟩, ih (fun b hb => hs b (by unfold frs; rw [List.filterMap_cons, hf]; exact List.mem_cons_of_mem _ hb)) hr⟩
 exact all X.outer (fun _ hb => hb) I.ok.funs
theorem Inv.stack (I : Inv X pins σ H s) : s.heap.FunFrames X.base X.stack := by
 rcases I.ok.stk with e | ⟨e, hf⟩
 · rw [e]; exact I.funs
 · rw [e]
   obtain ⟨m, hn, _⟩ := I.loc
   refine .cons (by rw [I.ok.kind]; decide) hf hn ?_ I.funs
   exact Heap.get?_none_of_le (Nat.le_trans I.ok.bsz I.ok.above)
theorem Inv.stkSub (I : Inv X pins σ H s) : ∀ b ∈ frs X.stack, b ∈ X.env.locals :: X.fs := fun b hb => by
 rcases I.ok.stk with e | ⟨e, hf⟩
 · rw [e] at hb; exact List.mem_cons_of_mem _ hb
 · rw [e] at hb
   unfold frs at hb
   rw [List.filterMap_cons, hf] at hb
   exact hb
theorem Inv.stkFree (I : Inv X pins σ H s) : ∀ b ∈ frs X.stack, H b = none := fun b hb => by
 rcases List.mem_cons.mp (I.stkSub b hb) with e | hb
 · rw [e]; exact I.free
 · obtain ⟨_, o, ho, _⟩ := I.ok.funs.mem hb
   exact I.base.free b o ho (I.ok.frf b hb) fun z => I.ok.exfs b z hb
theorem Inv.step {g' : Array GenState} {t' : Nat} {d' : Drawn} {ch : List Addr} (I : Inv X pins σ H s)
 (hch : ∀ b ∈ ch, (b ∈ X.ex ∨ X.s₀.heap.objs.size ≤ b) ∧ b ≠ X.env.locals ∧ (∀ x c, X.env.cells.lookup x = some c → c ≠ b) ∧ ∀ p ∈ X.pn ++ pins, p.1 ≠ b)
 (keep : ∀ b o, b ≠ X.env.locals → b ∉ X.fs → b ∉ ch → s.heap.get? b = some o → H b = none → h'.get? b = some o)
 (slot : ∀ b o, b ≠ X.env.locals → b ∈ X.fs → b ∉ ch → s.heap.get? b = some o → H b = none → ∃ sl, h'.get? b = some { o with slots := sl }) (free : ∀ b o, b ∉ ch → s.heap.get? b = some o → H b = none → H' b = none)
 (there : ∀ b o, b ∉ ch → s.heap.get? b = some o → ∃ o', h'.get? b = some o')
 (tups : ∀ b xs, H b = some (.tup xs) → H' b = some (.tup xs)) (frzs : ∀ b o u, H b = some (.frz o u) → H' b = some (.frz o u)) (tbls : ∀ b ps, H b = some (.tbl ps) → ∃ more, H' b = some (.tbl (ps ++ more)))
 (ns : ∀ m, s.heap.Ns X.env.locals m → h'.Ns X.env.locals m) (hok : HOk X.prog X.w H' h') (hg : AllBare g') :
 Inv X pins σ H' { s with heap := h', gens := g', drawn := d', toks := t' } := by
 have neL : ∀ b o, X.s₀.heap.get? b = some o → b ≠ X.env.locals := fun b o e => Nat.ne_of_lt (Nat.lt_of_lt_of_le (Heap.lt_size e) I.ok.above)
 have neC : ∀ b o, X.s₀.heap.get? b = some o → b ∉ X.ex → b ∉ ch := fun b o e hx hb => by
  rcases (hch b hb).1 with z | z
  · exact hx z
  · exact absurd (Nat.lt_of_lt_of_le (Heap.lt_size e) z) (Nat.lt_irrefl _)
 have cellK : ∀ x c, X.env.cells.lookup x = some c → ∀ v, s.heap.IsCell c v → h'.IsCell c v := fun x c e v ⟨o, ho, hd⟩ => by
  have nch : c ∉ ch := fun z => (hch c z).2.2.1 x c e rfl
  by_cases hc : c ∈ X.fs
  · obtain ⟨sl, q⟩ := slot c o (I.cne x c e) hc nch ho (I.freeC x c e)
    exact ⟨_, q, hd⟩
  · exact ⟨o, keep c o (I.cne x c e) hc nch ho (I.freeC x c e), hd⟩
 refine ⟨I.ok, I.os, hg, ⟨fun b o e n hb hx => ?_, fun b o e n hb hx => ?_, fun b o e n hx => ?_, fun b o e hx => ?_, fun b xs e => tups b xs (I.base.tups b xs e), fun b o xs e => frzs b o xs (I.base.frzs b o xs e), fun b ps e => ?_⟩, ?_, fun x c e => ?_, ?_, fun x c e => ?_, fun p hp => ?_, hok, I.len⟩
 · exact keep b o (neL b o e) hb (neC b o e hx) (I.base.keep b o e n hb hx) (I.base.free b o e n hx)
 · obtain ⟨sl, e1⟩ := I.base.slot b o e n hb hx
   obtain ⟨sl', e2⟩ := slot b _ (neL b o e) hb (neC b o e hx) e1 (I.base.free b o e n hx)
   exact ⟨sl', e2⟩
 · obtain ⟨o', e1⟩ := I.base.there b o e hx
   exact free b o' (neC b o e hx) e1 (I.base.free b o e n hx)
 · obtain ⟨o', e1⟩ := I.base.there b o e hx
   exact there b o' (neC b o e hx) e1
 · obtain ⟨m1, e1⟩ := I.base.tbls b ps e
   obtain ⟨m2, e2⟩ := tbls b _ e1
   exact ⟨m1 ++ m2, by rw [e2, Array.append_assoc]⟩
 · obtain ⟨m, hn, hl⟩ := I.loc
   refine ⟨m, ns m hn, fun i x v e1 e2 e3 => ?_⟩
   obtain ⟨u, r, l⟩ := hl i x v e1 e2 e3
   refine ⟨u, r, ?_⟩
   rcases l with l | ⟨k, c, e, z⟩
   · exact .inl l
   · exact .inr ⟨k, c, e, cellK x c e _ z⟩
 · obtain ⟨v, z⟩ := I.cell x c e
   exact ⟨v, cellK x c e v z⟩
 · obtain ⟨m, ⟨o, _, _, ho, _⟩, _⟩ := I.loc
   exact free _ o (fun z => (hch _ z).2.1 rfl) ho I.free
 · obtain ⟨v, o, ho, hd⟩ := I.cell x c e
   exact free c o (fun z => (hch c z).2.2.1 x c e rfl) ho (I.freeC x c e)
 · obtain ⟨e, n, ne, nf, d⟩ := I.pin p hp
   have nch : p.1 ∉ ch := fun z => (hch p.1 z).2.2.2 p hp rfl
   exact ⟨keep p.1 p.2 ne nf nch e n, free p.1 p.2 nch e n, ne, nf, d⟩
theorem Inv.un {t' : Nat} (I : Inv X pins σ H s) (u : Un X.fs [] H H' s.heap h') (hok : HOk X.prog X.w H' h') : Inv X pins σ H' { s with heap := h', toks := t' } := by
 obtain ⟨m, ⟨o, es, ep, ho, r⟩, _⟩ := id I.loc
 obtain ⟨sl, hL⟩ := u.any ho I.free (by simp)
 exact I.step (g' := s.gens) (d' := s.drawn) (ch := []) (fun _ z => nomatch z) (fun b o _ hb _ e n => u.keep b o e n hb (by simp)) (fun b o _ hb _ e n => u.slot b o e n hb (by simp)) (fun b o _ e n => u.free b o e n (by simp)) (fun b o _ e => u.there b o e (by simp)) u.tups u.frzs u.tbls (fun m' hm => by
  obtain ⟨o', es', ep', ho', r'⟩ := hm
  rw [ho] at ho'; cases ho'
  exact ⟨_, es', ep', hL, r'⟩) hok I.bare
theorem Inv.call {g' : Array GenState} {t' : Nat} {d' : Drawn} {ch : List Addr} (I : Inv X pins σ H s) (u : Un (frs X.stack) ch H H' s.heap h') (hok : HOk X.prog X.w H' h') (hg : AllBare g')
 (hch : ∀ b ∈ ch, (b ∈ X.ex ∨ X.s₀.heap.objs.size ≤ b) ∧ b ≠ X.env.locals ∧ (∀ x c, X.env.cells.lookup x = some c → c ≠ b) ∧ ∀ p ∈ X.pn ++ pins, p.1 ≠ b) :
 Inv X pins σ H' { s with heap := h', gens := g', drawn := d', toks := t' } := by
 obtain ⟨m, ⟨o, es, ep, ho, r⟩, _⟩ := id I.loc
 obtain ⟨sl, hL⟩ := u.any ho I.free fun z => (hch _ z).2.1 rfl
 exact I.step (ch := ch) hch (fun b o hL hb hc e n => u.keep b o e n (fun z => (List.mem_cons.mp (I.stkSub b z)).elim hL hb) hc) (fun b o _ _ hc e n => u.any e n hc) (fun b o hc e n => u.free b o e n hc) (fun b o hc e => u.there b o e hc) u.tups u.frzs u.tbls (fun m' hm => by
  obtain ⟨o', es', ep', ho', r'⟩ := hm
  rw [ho] at ho'; cases ho'
  exact ⟨_, es', ep', hL, r'⟩) hok hg
theorem Inv.turned {t' : Nat} {it : Addr} (I : Inv X pins σ H s) (k : ∀ b o, b ≠ it → s.heap.get? b = some o → h'.get? b = some o) (hn : H it = none) (hL : it ≠ X.env.locals)
 (h1 : it ∈ X.ex ∨ X.s₀.heap.objs.size ≤ it) (h2 : ∀ x c, X.env.cells.lookup x = some c → c ≠ it) (h3 : ∀ p ∈ X.pn ++ pins, p.1 ≠ it) : Inv X pins σ H { s with heap := h', toks := t' } := by
 have nit : ∀ b u, H b = some u → b ≠ it := fun b u e z => by rw [z, hn] at e; cases e
 refine I.step (g' := s.gens) (d' := s.drawn) (ch := [it]) (fun b hb => ?_) (fun b o _ _ hc e _ => k b o (fun z => hc (by simp [z])) e) (fun b o _ _ hc e _ => ⟨o.slots, k b o (fun z => hc (by simp [z])) e⟩) (fun _ _ _ _ n => n)
  (fun b o hc e => ⟨o, k b o (fun z => hc (by simp [z])) e⟩) (fun _ _ e => e) (fun _ _ _ e => e) (fun b ps e => ⟨#[], by rw [e]; simp⟩) (fun m hm => ?_) (fun b u e => ?_) I.bare
 · have e : b = it := by simpa using hb
   subst e
   exact ⟨h1, hL, h2, h3⟩
 · obtain ⟨o, es, ep, ho, r⟩ := hm
   exact ⟨o, es, ep, k _ o (Ne.symm hL) ho, r⟩
 · refine (I.hok b u e).stay (fun c v hc q => k c v ?_ q) (fun _ q => q) fun _ _ q => q
   rcases hc with z | z
   · rw [z]; exact nit b u e
   · exact nit c _ z
theorem Inv.tok (I : Inv X pins σ H s) (t : Nat) : Inv X pins σ H { s with toks := t } := I.un (h' := s.heap) (t' := t) Un.refl I.hok
theorem Inv.kept {t' : Nat} (I : Inv X pins σ H s) (k : ∀ b u, s.heap.get? b = some u → h'.get? b = some u) : Inv X pins σ H { s with heap := h', toks := t' } := I.un (Un.kept k) (I.hok.kept k)
theorem Inv.laid {a : Addr} {o : HO} {t' : Nat} (I : Inv X pins σ H s) (k : ∀ b u, s.heap.get? b = some u → h'.get? b = some u) (hp : s.heap.objs.size ≤ a) (new : R9 X.prog X.w (upd H a o) h' a o) :
 Inv X pins σ (upd H a o) { s with heap := h', toks := t' } := I.un (Un.laid k hp (I.hok.fresh hp)) (I.hok.laid k hp new)
theorem Inv.write {x e : Addr} {o : HO} {t' : Nat} (I : Inv X pins σ H s) (mu : Mut (H x)) (he : e = x ∨ H e = some (.own x)) (k : ∀ b u, b ≠ e → s.heap.get? b = some u → h'.get? b = some u) (heo : ∃ u, h'.get? e = some u)
 (new : R9 X.prog X.w (upd H x o) h' x o) : Inv X pins σ (upd H x o) { s with heap := h', toks := t' } := I.un (Un.write mu he k heo) (I.hok.write mu he k heo new)
theorem Inv.pins_of {pins' : PNS} (I : Inv X pins σ H s) (h : ∀ p ∈ pins', s.heap.get? p.1 = some p.2 ∧ H p.1 = none ∧ p.1 ≠ X.env.locals ∧ p.1 ∉ X.fs ∧ ∀ v, p.2.data ≠ .cell v) : Inv X pins' σ H s :=
 ⟨I.ok, I.os, I.bare, I.base, I.loc, I.cell, I.free, I.freeC, fun p hp => (List.mem_append.mp hp).elim (fun z => I.pin p (List.mem_append_left _ z)) (h p), I.hok, I.len⟩
theorem bW2 {N : List Str} (hN : N.Nodup) {i j : Nat} {x : Str} (a : N[i]? = some x) (b : N[j]? = some x) : i = j := by
 obtain ⟨h1, e1⟩ := List.getElem?_eq_some_iff.mp a
 obtain ⟨h2, e2⟩ := List.getElem?_eq_some_iff.mp b
 exact (List.getElem_inj hN).mp (e1.trans e2.symm)
theorem cO1 {M : Model} {A : Around} {E : VSP} {i : Nat} {x : Str} {v : V} {u : Value} {Q : Unit → Shared → Prop} (I : Inv X pins σ H s) (hN : X.N.Nodup) (hi : X.N[i]? = some x) (hx : Loc X.env.scope x) (r : J7 v u)
 (h : ∀ s', Inv X pins (σ.set i (some v)) H s' → (∃ a, Heap.SameBut a s.heap s'.heap ∧ (a = X.env.locals ∨ X.env.cells.lookup x = some a)) → Q () s') (hf : X.fn x = true ∨ X.env.scope.names.lookup x = some .local) : wpAny M A (storeName X.env x u) Q E s := by
 obtain ⟨m, hn, hl⟩ := id I.loc
 have hcls : (X.env.scope.kind == .class || (X.env.scope.kind == .module && X.env.locals != X.env.globals)) = false := by rw [I.ok.kind]; rfl
 have hiσ : i < σ.length := by rw [I.len]; exact (List.getElem?_eq_some_iff.mp hi).1
 have cne := I.cne
 have tracked : ∀ {a : Addr} {h' : Heap}, (∃ o, s.heap.get? a = some o ∧ H a = none) → Heap.SameBut a s.heap h' → HOk X.prog X.w H h' := fun {a h'} ha hs b ob e => by
  obtain ⟨_, _, hfree⟩ := ha
  refine (I.hok b ob e).stay (fun c w' hc q => (hs.2 c ?_).trans q) (fun _ q => q) fun _ _ q => q
  rintro rfl
  rcases hc with rfl | hc
  · rw [hfree] at e; cases e
  · rw [hfree] at hc; cases hc
 rcases hx with hk | hk
 · refine wpAny_storeName_local hk hn (fun h' hn' hs => ?_) hcls
   obtain ⟨oL, _, _, hoL, _⟩ := id hn
   refine h _ ⟨I.ok, I.os, I.bare, ⟨fun b o e n hb hx => ?_, fun b o e n hb hx => ?_, I.base.free, fun b o e hx => ?_, I.base.tups, I.base.frzs, I.base.tbls⟩, ⟨_, hn', fun j y v' e1 e2 e3 => ?_⟩, fun y c e => ?_, I.free, I.freeC, fun p hp => ?_, tracked ⟨oL, hoL, I.free⟩ hs, by simpa using I.len⟩ ⟨_, hs, .inl rfl⟩
   · exact (hs.2 b (Nat.ne_of_lt (Nat.lt_of_lt_of_le (Heap.lt_size e) I.ok.above))).trans (I.base.keep b o e n hb hx)
   · obtain ⟨sl, e1⟩ := I.base.slot b o e n hb hx
     exact ⟨sl, (hs.2 b (Nat.ne_of_lt (Nat.lt_of_lt_of_le (Heap.lt_size e) I.ok.above))).trans e1⟩
   · obtain ⟨o', e1⟩ := I.base.there b o e hx
     exact ⟨o', (hs.2 b (Nat.ne_of_lt (Nat.lt_of_lt_of_le (Heap.lt_size e) I.ok.above))).trans e1⟩
   · by_cases hj : j = i
     · subst hj
       rw [hi] at e1; cases e1
       rw [List.getElem?_set_self hiσ] at e2
       cases e2
       exact ⟨u, r, .inl ⟨hk, by simp⟩⟩
     · rw [List.getElem?_set_ne (Ne.symm hj)] at e2
       obtain ⟨u', r', q⟩ := hl j y v' e1 e2 e3
       refine ⟨u', r', ?_⟩
       rcases q with ⟨k, e⟩ | ⟨k, c, e, z⟩
       · refine .inl ⟨k, ?_⟩
         have : y ≠ x := fun e => hj (bW2 hN e1 (e ▸ hi))
         simp [this, e]
       · exact .inr ⟨k, c, e, z.sameBut hs (cne y c e)⟩
   · obtain ⟨w', z⟩ := I.cell y c e
     exact ⟨w', z.sameBut hs (cne y c e)⟩
   · obtain ⟨e, n, ne, nf, d⟩ := I.pin p hp
     exact ⟨(hs.2 p.1 ne).trans e, n, ne, nf, d⟩
 · have hfn : X.fn x = true := by
    rcases hf with z | z
    · exact z
    · rw [z] at hk; cases hk
   obtain ⟨c, hc⟩ := I.ok.has x (.inl hk)
   obtain ⟨w', z⟩ := I.cell x c hc
   refine wpAny_storeName_cell I.ok.kind hk hc z (fun h' hc' hs => ?_)
   obtain ⟨oc, hoc, hocd⟩ := id z
   refine h { s with heap := h' } ⟨I.ok, I.os, I.bare, ⟨fun b o e n hb hx => ?_, fun b o e n hb hx => ?_, I.base.free, fun b o e hx => ?_, I.base.tups, I.base.frzs, I.base.tbls⟩, ⟨m, hn.sameBut hs (Ne.symm (cne x c hc)), fun j y v' e1 e2 e3 => ?_⟩, fun y c' e => ?_, I.free, I.freeC, fun p hp => ?_, tracked ⟨oc, hoc, I.freeC x c hc⟩ hs, by simpa using I.len⟩ ⟨c, hs, .inr hc⟩
   · exact (hs.2 b (Nat.ne_of_lt (Nat.lt_of_lt_of_le (Heap.lt_size e) (I.ok.cab x c hfn hc)))).trans (I.base.keep b o e n hb hx)
   · obtain ⟨sl, e1⟩ := I.base.slot b o e n hb hx
     exact ⟨sl, (hs.2 b (Nat.ne_of_lt (Nat.lt_of_lt_of_le (Heap.lt_size e) (I.ok.cab x c hfn hc)))).trans e1⟩
   · obtain ⟨o', e1⟩ := I.base.there b o e hx
     exact ⟨o', (hs.2 b (Nat.ne_of_lt (Nat.lt_of_lt_of_le (Heap.lt_size e) (I.ok.cab x c hfn hc)))).trans e1⟩
   · by_cases hj : j = i
     · subst hj
       rw [hi] at e1; cases e1
       rw [List.getElem?_set_self hiσ] at e2
       cases e2
       exact ⟨u, r, .inr ⟨.inl hk, c, hc, hc'⟩⟩
     · rw [List.getElem?_set_ne (Ne.symm hj)] at e2
       obtain ⟨u', r', q⟩ := hl j y v' e1 e2 e3
       refine ⟨u', r', ?_⟩
       rcases q with q | ⟨k, c', e, z'⟩
       · exact .inl q
       · refine .inr ⟨k, c', e, z'.sameBut hs ?_⟩
         rintro rfl
         exact hj (bW2 hN e1 (I.ok.inj _ _ _ e hc ▸ hi))
   · by_cases hcc : c' = c
     · subst hcc; exact ⟨_, hc'⟩
     · obtain ⟨w2, z2⟩ := I.cell y c' e
       exact ⟨w2, z2.sameBut hs hcc⟩
   · obtain ⟨e, n, ne, nf, d⟩ := I.pin p hp
     refine ⟨(hs.2 p.1 ?_).trans e, n, ne, nf, d⟩
     intro q
     rw [q, hoc] at e
     have q' : oc = p.2 := Option.some.inj e
     exact d w' (by rw [← q']; exact hocd)
theorem cS9 {M : Model} {A : Around} {E : VSP} {i : Nat} {x : Str} {v : V} {u : Value} {Q : Unit → Shared → Prop} (I : Inv X pins σ H s) (hN : X.N.Nodup) (hi : X.N[i]? = some x) (hx : Loc X.env.scope x) (r : J7 v u)
 (h : ∀ s', Inv X pins (σ.set i (some v)) H s' → Q () s') (hf : X.fn x = true ∨ X.env.scope.names.lookup x = some .local) : wpAny M A (storeName X.env x u) Q E s :=
 cO1 I hN hi hx r (fun s' I' _ => h s' I') hf
end
noncomputable abbrev XK := Value → Option Addr → Hp → Prop
noncomputable abbrev St := List (Option V)
noncomputable abbrev VK := V → Hp → Prop
noncomputable abbrev TE := St → Hp → VK → Prop
noncomputable abbrev TT := St → Hp → (Bool → Hp → Prop) → Prop
noncomputable abbrev TA := St → Hp → (List V → Hp → Prop) → Prop
structure bH9 where
 nx : St → Hp → Prop
 rt : VK
 bk : St → Hp → Prop := fun _ _ => False
 ct : St → Hp → Prop := fun _ _ => False
noncomputable abbrev TS := bH9 → St → Hp → Prop
def EP (X : Cx) (pins : PNS) (σ : St) (Q : VK) (u : Value) (s' : Shared) : Prop := ∃ v H', Inv X pins σ H' s' ∧ J7 v u ∧ Q v H'
noncomputable def TP (X : Cx) (pins : PNS) (σ : St) (Q : Bool → Hp → Prop) (b : Bool) (s' : Shared) : Prop := ∃ H', Inv X pins σ H' s' ∧ Q b H'
noncomputable def AP (X : Cx) (pins : PNS) (σ : St) (Q : List V → Hp → Prop) (us : List Value) (s' : Shared) : Prop := ∃ vs H', Inv X pins σ H' s' ∧ w6 vs us ∧ Q vs H'
theorem EP.elim {X : Cx} {pins : PNS} {σ : St} {Q : VK} {u : Value} {s : Shared} {P : Prop} (h : EP X pins σ Q u s) (k : ∀ v H, Inv X pins σ H s → J7 v u → Q v H → P) : P := by
 obtain ⟨a, b, c, d, e⟩ := h
 exact k a b c d e
theorem TP.elim {X : Cx} {pins : PNS} {σ : St} {Q : Bool → Hp → Prop} {u : Bool} {s : Shared} {P : Prop} (h : TP X pins σ Q u s) (k : ∀ H, Inv X pins σ H s → Q u H → P) : P := by
 obtain ⟨b, c, e⟩ := h
 exact k b c e
theorem AP.elim {X : Cx} {pins : PNS} {σ : St} {Q : List V → Hp → Prop} {u : List Value} {s : Shared} {P : Prop} (h : AP X pins σ Q u s) (k : ∀ v H, Inv X pins σ H s → w6 v u → Q v H → P) : P := by
 obtain ⟨a, b, c, d, e⟩ := h
 exact k a b c d e
def SP (X : Cx) (pins : PNS) (D : bH9) (f : Flow) (s' : Shared) : Prop :=
 match f with
 | .next => ∃ σ' H', Inv X pins σ' H' s' ∧ D.nx σ' H'
 | .brk => ∃ σ' H', Inv X pins σ' H' s' ∧ D.bk σ' H'
 | .cont => ∃ σ' H', Inv X pins σ' H' s' ∧ D.ct σ' H'
 | .ret u => ∃ v σ' H', Inv X pins σ' H' s' ∧ J7 v u ∧ D.rt v H'
def PE (X : Cx) (e : Expr) (t : TE) : Prop :=
 ∀ (pins : PNS) (s : Shared) (σ : St) (H : Hp) (Q : VK), Inv X pins σ H s → t σ H Q → wpAny (model X.prog X.w) X.A (eval e X.env) (EP X pins σ Q) X.xe s
def PT (X : Cx) (e : Expr) (t : TT) : Prop :=
 ∀ (pins : PNS) (s : Shared) (σ : St) (H : Hp) (Q : Bool → Hp → Prop), Inv X pins σ H s → t σ H Q → wpAny (model X.prog X.w) X.A (isTrue e X.env (eval e X.env)) (TP X pins σ Q) X.xe s
def PW (X : Cx) (e : Expr) (t : TT) : Prop :=
 ∀ (whole : Sem Value) (pins : PNS) (s : Shared) (σ : St) (H : Hp) (Q : Bool → Hp → Prop), Inv X pins σ H s → t σ H Q → wpAny (model X.prog X.w) X.A (isTrue e X.env whole) (TP X pins σ Q) X.xe s
def PA (X : Cx) (es : List Expr) (t : TA) : Prop :=
 ∀ (pos : Pos) (pins : PNS) (s : Shared) (σ : St) (H : Hp) (Q : List V → Hp → Prop), Inv X pins σ H s → t σ H Q → wpAny (model X.prog X.w) X.A (spliced (backTo pos (starEach es X.env))) (AP X pins σ Q) X.xe s
def PS (X : Cx) (st : Stmt) (t : TS) : Prop :=
 ∀ (pins : PNS) (s : Shared) (σ : St) (H : Hp) (D : bH9), Inv X pins σ H s → t D σ H → wpAny (model X.prog X.w) X.A (exec st X.env) (SP X pins D) X.xe s
def PSs (X : Cx) (st : List Stmt) (t : TS) : Prop :=
 ∀ (pins : PNS) (s : Shared) (σ : St) (H : Hp) (D : bH9), Inv X pins σ H s → t D σ H → wpAny (model X.prog X.w) X.A (execs st X.env) (SP X pins D) X.xe s
theorem thn {α : Type} {t : Sem α} {Q Q' : α → Shared → Prop} {M : Model} {A : Around} {E : VSP} {s : Shared} (h : wpAny M A t Q E s) (hQ : ∀ a s, Q a s → Q' a s) : wpAny M A t Q' E s := wpAny_mono h hQ fun _ _ x => x
section
variable {X : Cx}
noncomputable def dZ2 (i : Nat) : TE := fun σ H Q => ∃ v, σ[i]? = some (some v) ∧ Q v H
noncomputable def tC (v : V) : TE := fun _ H Q => Q v H
theorem dN8 {i : Nat} {x : Str} {pos : Pos} (hN : X.N[i]? = some x) (hv : Vis X.env.scope x) (hd : (x == ("__debug__" : Str)) = false) (hcd : (x == ("__classdict__" : Str)) = false) : PE X (.Name x pos) (dZ2 i) := by
 intro pins s σ H Q I h
 obtain ⟨v, e, h⟩ := h
 obtain ⟨m, hn, hl⟩ := I.loc
 obtain ⟨u, r, l⟩ := hl i x v hN e hv
 have fin : EP X pins σ Q u s := ⟨v, H, I, r, h⟩
 rcases l with ⟨hk, hm⟩ | ⟨hk, c, hc, hcell⟩
 · exact wpAny_Name (wpAny_loadName_local I.ok.kind hk hn hm fin) hd
 · rcases hk with hk | hk
   · exact wpAny_Name (wpAny_loadName_cell I.ok.kind hk hc hcell fin) hd
   · exact wpAny_Name (wpAny_loadName_free I.ok.kind hk hc hcell fin hcd) hd
theorem dP3 {i j pos} : PE X (.Constant (.int i) j pos) (tC (.int i)) := fun _ _ _ H _ I h => wpAny_Constant_int ⟨.int i, H, I.tok _, ⟨_, rfl⟩, h⟩
theorem dV3 {b j pos} : PE X (.Constant (.bool b) j pos) (tC (.bl b)) := fun _ _ _ H _ I h => Constant_bool ⟨.bl b, H, I, rfl, h⟩
theorem dN4 {j pos} : PE X (.Constant .none j pos) (tC .non) := fun _ _ _ H _ I h => Constant_none ⟨.non, H, I, rfl, h⟩
theorem dL6 {x j pos} : PE X (.Constant (.str x) j pos) (tC (.str x)) := fun _ _ _ H _ I h => Calls.Constant_str ⟨.str x, H, I.tok _, ⟨_, rfl⟩, h⟩
noncomputable def Gl (X : Cx) (x : Str) : Prop := X.env.kindOf x = some .globalImplicit
theorem bQ7 {E : VSP} {pins : PNS} {s : Shared} {σ : St} {H : Hp} {x : Str} {u : Value} {pos : Pos} {Q : VSP} (I : Inv X pins σ H s) (hg : Gl X x) (hm : X.mg x = some u) (h : Q u s)
 (hd : (x == ("__debug__" : Str)) = false) : wpAny (model X.prog X.w) X.A (eval (.Name x pos) X.env) Q E s :=
 Calls.Name_function_global I.ok.kind hg (Calls.loadGlobal_global (by rw [I.ok.glob]; exact I.mod.glob.keeps I.bk) hm h) hd
theorem aO4 {E : VSP} {pins : PNS} {s : Shared} {σ : St} {H : Hp} {x : Str} {u : Value} {pos : Pos} {Q : VSP} (I : Inv X pins σ H s) (hg : Gl X x) (hm : X.mg x = none) (hv : bootBuiltins x = some u) (h : Q u s)
 (hn : x ≠ "__name__" := by decide) (hd : (x == ("__debug__" : Str)) = false := by decide) : wpAny (model X.prog X.w) X.A (eval (.Name x pos) X.env) Q E s := by
 obtain ⟨mb, h1, h2⟩ := I.mod.blt
 exact Calls.Name_function_global I.ok.kind hg (Calls.loadGlobal_builtin (by rw [I.ok.glob]; exact I.mod.glob.keeps I.bk) hm (by rw [I.ok.blt]; exact h1.keeps I.bk) ((h2 x hn).trans hv) h) hd
theorem dE7 {x : Str} {v : V} {u : Value} {pos : Pos} (hg : Gl X x) (hm : X.mg x = none) (hv : bootBuiltins x = some u) (r : J7 v u) (hn : x ≠ "__name__") (hd : (x == ("__debug__" : Str)) = false) : PE X (.Name x pos) (tC v) :=
 fun _ _ _ H _ I h => aO4 I hg hm hv ⟨v, H, I, r, h⟩ hn hd
variable {a b : Expr} {ta tb : TE} {pos : Pos}
variable {tA tB' : TT} {Z4 : List Expr}
noncomputable def eG8 (t u : TT) : TT := fun σ H Q => t σ H fun c H1 => if c = true then u σ H1 Q else Q false H1
noncomputable def tOr (t u : TT) : TT := fun σ H Q => t σ H fun c H1 => if c = true then Q true H1 else u σ H1 Q
noncomputable def eF0 (t : TT) : TT := fun σ H Q => t σ H fun c H1 => Q (!c) H1
theorem dE5 (ha : PT X a tA) : PW X (.BoolOp .And [a] pos) tA := by
 intro wh pins s σ H Q I h
 refine isTrue_and (thn (ha pins s σ H Q I h) fun c s1 e => ?_)
 rcases c with _ | _
 · exact e
 · exact isTrue_and_nil e
theorem dP0 (ha : PT X a tA) : PW X (.BoolOp .Or [a] pos) tA := by
 intro wh pins s σ H Q I h
 refine isTrue_or (thn (ha pins s σ H Q I h) fun c s1 e => ?_)
 rcases c with _ | _
 · exact isTrue_or_nil e
 · exact e
theorem dS9 (ha : PT X a tA) (hb : PW X (.BoolOp .And (b :: Z4) pos) tB') : PW X (.BoolOp .And (a :: b :: Z4) pos) (eG8 tA tB') := by
 intro wh pins s σ H Q I h
 refine isTrue_and (thn (ha pins s σ H _ I h) fun c s1 hE1 => hE1.elim fun H1 I1 q1 => ?_)
 rcases c with _ | _
 · exact ⟨H1, I1, q1⟩
 · exact hb wh pins s1 σ H1 Q I1 q1
theorem dX6 (ha : PT X a tA) (hb : PW X (.BoolOp .Or (b :: Z4) pos) tB') : PW X (.BoolOp .Or (a :: b :: Z4) pos) (tOr tA tB') := by
 intro wh pins s σ H Q I h
 refine isTrue_or (thn (ha pins s σ H _ I h) fun c s1 hE1 => hE1.elim fun H1 I1 q1 => ?_)
 rcases c with _ | _
 · exact hb wh pins s1 σ H1 Q I1 q1
 · exact ⟨H1, I1, q1⟩
theorem dM0 (ha : PT X a tA) : PT X (.UnaryOp .Not a pos) (eF0 tA) := by
 intro pins s σ H Q I h
 exact isTrue_not (ha pins s σ H (fun c H1 => Q (!c) H1) I h)
noncomputable def dV6 (ta : TE) : TE := fun σ H Q => ta σ H fun x H1 => ∃ c, x = .bl c ∧ Q (.bl (!c)) H1
theorem dL5 {op} {t : TE} (h : PE X a t) : PE X (.BoolOp op [a] pos) t := fun pins s σ H Q I hw => BoolOp_one (h pins s σ H Q I hw)
theorem dM5 (ha : PE X a ta) : PE X (.UnaryOp .Not a pos) (dV6 ta) := by
 intro pins s σ H Q I h
 refine UnaryOp_ (thn (ha pins s σ H _ I h) fun v s1 hE1 => hE1.elim fun x H1 I1 r1 q1 => ?_)
 obtain ⟨c, rfl, q1⟩ := q1
 cases r1
 exact not_of (wpAny_truthy_bool ⟨.bl (!c), H1, I1, rfl, q1⟩)
noncomputable def tIf (t : TT) (ta tb : TE) : TE := fun σ H Q => t σ H fun c H1 => if c = true then ta σ H1 Q else tb σ H1 Q
theorem cX4 {c : Expr} (hc : PT X c tA) (ha : PE X a ta) (hb : PE X b tb) : PE X (.IfExp c a b pos) (tIf tA ta tb) := by
 intro pins s σ H Q I h
 refine wpAny_IfExp (thn (hc pins s σ H _ I h) fun d s1 hE1 => hE1.elim fun H1 I1 q1 => ?_)
 rcases d with _ | _
 · exact hb pins s1 σ H1 Q I1 q1
 · exact ha pins s1 σ H1 Q I1 q1
end
def SqL (K : PySem.W.Frag) (H : Hp) (a : Addr) (xs : List V) : Prop :=
 Rd H a (.lst xs) ∨
  ∃ (o : Obj) (its : Array Value) (n : Nat), K.lookup a = some o ∧ o.cls = .type "list" ∧ o.dict = none ∧ o.data = .seq its n ∧ its.size ≤ sizeLine ∧ w6 xs its.toList
def SqT (K : PySem.W.Frag) (H : Hp) (a : Addr) (xs : List V) : Prop :=
 Rd H a (.tup xs) ∨
  ∃ (o : Obj) (its : Array Value) (n : Nat), K.lookup a = some o ∧ o.cls = .type "tuple" ∧ (o.data, o.dict) = (Data.seq its n, none) ∧ its.size ≤ sizeLine ∧ w6 xs its.toList
noncomputable def eH0 : Value → Option V
 | .none => some .non
 | .bool b => some (.bl b)
 | .int i _ => some (.int i)
 | .str x _ => some (.str x)
 | .bytes b _ => some (.byt b)
 | .float b _ => some (.flt b)
 | .ref a => some (.ref a)
 | .type n => some (.ty n)
 | _ => none
theorem J7.abs {x : V} {u : Value} (r : J7 x u) : eH0 u = some x := by
 rcases x with _ | _ | _ | _ | _ | _ | _ | _
 · cases r; rfl
 · cases r; rfl
 · obtain ⟨t, rfl⟩ := r; rfl
 · obtain ⟨t, rfl⟩ := r; rfl
 · obtain ⟨t, rfl⟩ := r; rfl
 · obtain ⟨t, rfl⟩ := r; rfl
 · cases r; rfl
 · cases r; rfl
theorem J7.inj {x y : V} {u : Value} (r : J7 x u) (q : J7 y u) : x = y := Option.some.inj (r.abs.symm.trans q.abs)
theorem w6.inj {xs ys : List V} {us : List Value} (h : w6 xs us) (k : w6 ys us) : xs = ys := by
 induction h generalizing ys with
 | nil => cases k; rfl
 | cons r t ih => cases k with
   | cons r' t' => rw [r.inj r', ih t']
section
variable {X : Cx} {pins : PNS} {σ : St} {H : Hp} {s : Shared} {a : Addr} {xs ys : List V}
theorem SqL.of {K : PySem.W.Frag} (h : H a = some (.lst xs)) : SqL K H a xs := .inl (.inl h)
theorem SqT.of {K : PySem.W.Frag} (h : H a = some (.tup xs)) : SqT K H a xs := .inl (.inl h)
theorem Inv.list (I : Inv X pins σ H s) (h : SqL X.K H a xs) : ∃ its : List Value, w6 xs its ∧ PlainL s.heap a its.toArray ∧ xs.length ≤ sizeLine := by
 rcases h with h | ⟨o, its, n, hk, hc, hd, hs, hz, r⟩
 · obtain ⟨z, its, n, r, e⟩ := h.ok I.hok
   exact ⟨its, r, ⟨_, n, e, rfl, rfl, rfl⟩, z⟩
 · refine ⟨its.toList, r, ⟨o, n, I.kIn a o hk, hc, hd, by simpa using hs⟩, ?_⟩
   have e := r.length
   simp only [Array.length_toList] at e
   lia
theorem Inv.tuple (I : Inv X pins σ H s) (h : SqT X.K H a xs) : ∃ its : List Value, w6 xs its ∧ IsTup s.heap a its.toArray ∧ xs.length ≤ sizeLine := by
 rcases h with h | ⟨o, its, n, hk, hc, hs, hz, r⟩
 · obtain ⟨z, its, r, p⟩ := h.ok I.hok
   exact ⟨its, r, aC3.tup p, z⟩
 · refine ⟨its.toList, r, ⟨o, I.kIn a o hk, hc, n, by simpa using (Prod.mk.inj hs).1⟩, ?_⟩
   have e := r.length
   simp only [Array.length_toList] at e
   lia
theorem Inv.list_inj (I : Inv X pins σ H s) (h : SqL X.K H a xs) (h' : SqL X.K H a ys) : xs = ys := by
 obtain ⟨its, r, ⟨o, n, e, _, _, d⟩, _⟩ := I.list h
 obtain ⟨its', r', ⟨o', n', e', _, _, d'⟩, _⟩ := I.list h'
 rw [e] at e'; cases e'
 rw [d] at d'
 injection d' with d1 _
 have : its = its' := by simpa using congrArg Array.toList d1
 subst this
 exact r.inj r'
theorem Inv.tuple_inj (I : Inv X pins σ H s) (h : SqT X.K H a xs) (h' : SqT X.K H a ys) : xs = ys := by
 obtain ⟨its, r, ⟨o, e, _, n, d⟩, _⟩ := I.tuple h
 obtain ⟨its', r', ⟨o', e', _, n', d'⟩, _⟩ := I.tuple h'
 rw [e] at e'; cases e'
 rw [d] at d'
 injection d' with d1 _
 have : its = its' := by simpa using congrArg Array.toList d1
 subst this
 exact r.inj r'
end
noncomputable abbrev Cx.wish (X : Cx) (E : VSP) : Cx := { X with xe := E }
noncomputable abbrev Cx.nox (X : Cx) : Cx := X.wish fun _ _ => False
theorem Cx.Ok.wish {X : Cx} (ok : X.Ok) (E : VSP) : (X.wish E).Ok :=
 ⟨ok.mod, ok.kind, ok.glob, ok.blt, ok.above, ok.inj, ok.has, ok.cab, ok.hd, ok.frames, ok.stk, ok.exf, ok.bs, ok.bsz, ok.noex, ok.exfs, ok.funs, ok.frf⟩
theorem Cx.Ok.unwish {X : Cx} {E : VSP} (ok : (X.wish E).Ok) : X.Ok :=
 ⟨ok.mod, ok.kind, ok.glob, ok.blt, ok.above, ok.inj, ok.has, ok.cab, ok.hd, ok.frames, ok.stk, ok.exf, ok.bs, ok.bsz, ok.noex, ok.exfs, ok.funs, ok.frf⟩
section
variable {X : Cx} {pins : PNS} {σ : St} {H : Hp} {s : Shared} {E : VSP}
theorem Inv.wish (I : Inv X pins σ H s) (E : VSP) : Inv (X.wish E) pins σ H s := ⟨I.ok.wish E, I.os, I.bare, I.base, I.loc, I.cell, I.free, I.freeC, I.pin, I.hok, I.len⟩
theorem Inv.unwish (I : Inv (X.wish E) pins σ H s) : Inv X pins σ H s := ⟨I.ok.unwish, I.os, I.bare, I.base, I.loc, I.cell, I.free, I.freeC, I.pin, I.hok, I.len⟩
theorem SP.unwish {D : bH9} {f : Flow} {s' : Shared} (h : SP (X.wish E) pins D f s') : SP X pins D f s' := by
 rcases f with _ | _ | _ | u
 · obtain ⟨σ', H', I, q⟩ := h; exact ⟨σ', H', I.unwish, q⟩
 · obtain ⟨σ', H', I, q⟩ := h; exact ⟨σ', H', I.unwish, q⟩
 · obtain ⟨σ', H', I, q⟩ := h; exact ⟨σ', H', I.unwish, q⟩
 · obtain ⟨v, σ', H', I, r, q⟩ := h; exact ⟨v, σ', H', I.unwish, r, q⟩
theorem PSs.nox {st : List Stmt} {t : TS} (h : PSs X.nox st t) : PSs X st t := fun pins s σ H D I hw =>
 wpAny_mono (h pins s σ H D (I.wish _) hw) (fun _ _ q => q.unwish) fun _ _ z => False.elim z
end
section
variable {X : Cx} {st : Stmt} {Z4 : List Stmt} {t u : TS} {e : Expr} {te : TE} {pos : Pos}
noncomputable def dU8 : TS := fun D σ H => D.nx σ H
noncomputable def eD7 (t u : TS) : TS := fun D σ H => t { D with nx := u D } σ H
theorem dI0 : PSs X [] dU8 := fun _ _ σ H _ I h => wpAny_execs_nil ⟨σ, H, I, h⟩
theorem cV5 (h1 : PS X st t) (h2 : PSs X Z4 u) : PSs X (st :: Z4) (eD7 t u) := by
 intro pins s σ H D I h
 refine wpAny_execs_cons (thn (h1 pins s σ H { D with nx := u D } I h) fun f s1 q => ?_)
 rcases f with _ | _ | _ | v
 ·
   obtain ⟨σ', H', I', q⟩ := q
   exact h2 pins s1 σ' H' D I' q
 · exact q
 · exact q
 · exact q
theorem dC9 (h1 : PS X st t) : PSs X [st] t := by
 intro pins s σ H D I h
 refine wpAny_execs_cons (thn (h1 pins s σ H D I h) fun f s1 q => ?_)
 rcases f with _ | _ | _ | v
 · exact wpAny_execs_nil q
 · exact q
 · exact q
 · exact q
theorem Inv.quiet {pins : PNS} {σ : St} {H : Hp} {s : Shared} (I : Inv X pins σ H s) : interactive X.env = false := by simp [interactive, I.ok.kind]
noncomputable def dW8 (te : TE) : TS := fun D σ H => te σ H fun _ H1 => D.nx σ H1
theorem dI7 (he : PE X e te) (hs : swapsWith e none pos.line X.env = pure false) : PS X (.Expr e pos) (dW8 te) := by
 intro pins s σ H D I h
 exact wpAny_Expr_any (thn (he pins s σ H _ I h) fun v s1 hE1 => hE1.elim fun x H1 I1 r1 q1 => ⟨σ, H1, I1, q1⟩) I.quiet hs
noncomputable def eC3 (te : TE) : TS := fun D σ H => te σ H D.rt
theorem dR7 (he : PE X e te) : PS X (.Return (some e) pos) (eC3 te) := by
 intro pins s σ H D I h
 exact wpAny_Return_some (thn (he pins s σ H _ I h) fun v s1 hE1 => hE1.elim fun x H1 I1 r1 q1 => ⟨x, σ, H1, I1, r1, q1⟩)
noncomputable def eC0 (c : TT) (t u : TS) : TS := fun D σ H => c σ H fun b H1 => if b = true then t D σ H1 else u D σ H1
theorem eA7 {c : Expr} {a b : List Stmt} {tc : TT} (hc : PT X c tc) (ha : PSs X a t) (hb : PSs X b u) : PS X (.If c a b pos) (eC0 tc t u) := by
 intro pins s σ H D I h
 refine wpAny_If (thn (hc pins s σ H _ I h) fun d s1 hE1 => hE1.elim fun H1 I1 q1 => ?_)
 rcases d with _ | _
 · exact hb pins s1 σ H1 D I1 q1
 · exact ha pins s1 σ H1 D I1 q1
end
noncomputable abbrev TG := V → St → Hp → (St → Hp → Prop) → Prop
noncomputable abbrev TGs := List V → St → Hp → (St → Hp → Prop) → Prop
def PG (X : Cx) (target : Expr) (t : TG) : Prop :=
 ∀ (pins : PNS) (s : Shared) (σ : St) (H : Hp) (v : V) (u : Value) (Q : St → Hp → Prop), Inv X pins σ H s → J7 v u → t v σ H Q →
  wpAny (model X.prog X.w) X.A (assign target X.env u) (fun _ s' => ∃ σ' H', Inv X pins σ' H' s' ∧ Q σ' H') X.xe s
noncomputable def PGs (X : Cx) (ts : List Expr) (t : TGs) : Prop :=
 ∀ (pins : PNS) (s : Shared) (σ : St) (H : Hp) (vs : List V) (us : List Value) (Q : St → Hp → Prop), Inv X pins σ H s → w6 vs us → t vs σ H Q →
  wpAny (model X.prog X.w) X.A (assignInOrder ((assignEach ts X.env).map (·.2)) us) (fun _ s' => ∃ σ' H', Inv X pins σ' H' s' ∧ Q σ' H') X.xe s
noncomputable abbrev dI1 := V → V → V → Hp → (Hp → Prop) → Prop
def dT1 (X : Cx) (t : dI1) : Prop :=
 ∀ (pins : PNS) (s : Shared) (σ : St) (H : Hp) (o i v : V) (ov iv u : Value) (Q : Hp → Prop), Inv X pins σ H s → J7 o ov → J7 i iv → J7 v u → t o i v H Q →
  wpAny (model X.prog X.w) X.A (setItem ov iv u) (fun _ s' => ∃ H', Inv X pins σ H' s' ∧ Q H') X.xe s
section
variable {X : Cx} {pos : Pos}
noncomputable def dT9 (i : Nat) : TG := fun v σ H Q => Q (σ.set i (some v)) H
theorem dG5 {i : Nat} {x : Str} (hN : X.N.Nodup) (hi : X.N[i]? = some x) (hx : Loc X.env.scope x) (hf : X.fn x = true ∨ X.env.scope.names.lookup x = some .local) : PG X (.Name x pos) (dT9 i) := by
 intro pins s σ H v u Q I r h
 exact wpAny_assign_Name (cS9 I hN hi hx r (fun s' I' => ⟨_, H, I', h⟩) hf)
noncomputable def eF3 : TGs := fun vs σ H Q => vs = [] ∧ Q σ H
noncomputable def dZ5 (t : TG) (u : TGs) : TGs := fun vs σ H Q => ∃ v r, vs = v :: r ∧ t v σ H fun σ' H' => u r σ' H' Q
theorem dH4 : PGs X [] eF3 := by
 intro pins s σ H vs us Q I r h
 obtain ⟨e, h⟩ := h
 subst e
 cases r
 exact assignInOrder_nil ⟨σ, H, I, h⟩
theorem cU1 {e : Expr} {es : List Expr} {t : TG} {u : TGs} (h1 : PG X e t) (h2 : PGs X es u)
 (hs : (assignEach (e :: es) X.env).map (·.2) = assign e X.env :: (assignEach es X.env).map (·.2)) : PGs X (e :: es) (dZ5 t u) := by
 intro pins s σ H vs us Q I r h
 obtain ⟨v, vr, e1, h⟩ := h
 subst e1
 cases r with
 | cons r rr =>
   rw [hs]
   refine assignInOrder_cons (thn (h1 pins s σ H _ _ _ I r h) fun _ s1 ⟨σ1, H1, I1, q1⟩ => ?_)
   exact h2 pins s1 σ1 H1 _ _ Q I1 rr q1
def eD6 (K : PySem.W.Frag) (n : Nat) (t : TGs) : TG := fun v σ H Q => ∃ a xs, v = .ref a ∧ SqT K H a xs ∧ xs.length = n ∧ t xs σ H Q
theorem dR0 {es : List Expr} {k : Nat} {t : TGs} {n : Nat} (hc : X.calm = true) (h : PGs X es t)
 (hn : (assignEach es X.env).length = n) (hst : (assignEach es X.env).findIdx? (·.1) = none) : PG X (.Tuple es k pos) (eD6 X.K n t) := by
 intro pins s σ H v u Q I r hw
 obtain ⟨a, xs, e1, hq, hl, hw⟩ := hw
 subst e1
 cases r
 obtain ⟨its, rv, ht, hz⟩ := I.tuple hq
 refine assign_Tuple_tuple (I.ok.hd hc) ht (by simp [hn, ← hl, rv.length]) hst fun h' hx => ?_
 have I1 : Inv X pins σ H { s with heap := h' } := I.kept (t' := s.toks) fun b o e => hx b o (Nat.ne_of_lt (Heap.lt_size e)) e
 exact h pins _ σ H xs _ Q I1 (by simpa using rv) hw
noncomputable def eB5 (to ti : TE) (t : dI1) : TG := fun v σ H Q => to σ H fun o H1 => ti σ H1 fun i H2 => t o i v H2 fun H3 => Q σ H3
theorem dQ1 {o i : Expr} {to ti : TE} {t : dI1} (ho : PE X o to) (hi : PE X i ti) (hs : dT1 X t)
 (ha : ∀ v, assign (.Subscript o i pos) X.env v = (do
   let ov ← holding [v] (eval o X.env)
   let iv ← holding [v, ov] (eval i X.env)
   standAt pos
   holding [v, ov, iv] (setItem ov iv v)
   release [v, ov, iv] [])) : PG X (.Subscript o i pos) (eB5 to ti t) := by
 intro pins s σ H v u Q I r h
 rw [ha]
 refine wpAny_bind (wpAny_holding (thn (ho pins s σ H _ I h) fun ov s1 ⟨x, H1, I1, r1, q1⟩ => ?_))
 refine wpAny_bind (wpAny_holding (thn (hi pins s1 σ H1 _ I1 q1) fun iv s2 ⟨y, H2, I2, r2, q2⟩ => ?_))
 refine wpAny_bind (wpAny_standAt (wpAny_bind (wpAny_holding (thn (hs pins s2 σ H2 x y v ov iv u _ I2 r1 r2 r q2) fun _ s3 ⟨H3, I3, q3⟩ => ?_))))
 exact wpAny_release ⟨σ, H3, I3, q3⟩
noncomputable def eE6 (te : TE) (g : TG) : TS := fun D σ H => te σ H fun x H1 => g x σ H1 D.nx
theorem dN9 {tg e : Expr} {te : TE} {g : TG} (he : PE X e te) (hg : PG X tg g) (hs : swapsWithSole [tg] e pos.line X.env = pure false) (hw : swappedStores [tg] e X.env = pure none)
 (h1 : (assignEach [tg] X.env).map (·.2) = [assign tg X.env]) : PS X (.Assign [tg] e pos) (eE6 te g) := by
 intro pins s σ H D I h
 refine wpAny_Assign_stores (thn (he pins s σ H _ I h) fun v s1 hE1 => hE1.elim fun x H1 I1 r1 q1 => ?_) hs hw
 rw [h1]
 exact thn (hg pins s1 σ H1 x v _ I1 r1 q1) fun _ s2 q => q
end
section
variable {X : Cx} {pos : Pos}
noncomputable def dR8 (c : TT) (tb : TS) : TS := fun D σ H => ∃ W : Nat → St → Hp → Prop, (∃ m, W m σ H) ∧ ∀ m σ H, W m σ H →
 c σ H fun b H1 => if b = true then ∃ N : St → Hp → Prop, (∀ σ' H', N σ' H' → ∃ m', m' < m ∧ W m' σ' H') ∧ tb { D with nx := N, ct := N, bk := D.nx } σ H1 else D.nx σ H1
theorem cS3 {c : Expr} {body : List Stmt} {tc : TT} {tb : TS} (hp : PassesOwn (model X.prog X.w) X.A X.env X.xe) (hc : PT X c tc) (hb : PSs X body tb) : PS X (.While c body [] pos) (dR8 tc tb) := by
 intro pins s σ H D I h
 obtain ⟨W, ⟨m0, w0⟩, turn⟩ := h
 refine wpAny_While (codeAny_whileLoop (fun n s' => ∃ σ' H', Inv X pins σ' H' s' ∧ W n σ' H') ?_ m0 ⟨σ, H, I, w0⟩)
 rintro n s1 ⟨σ1, H1, I1, w1⟩
 refine wpAny_passesOwn hp (thn (hc pins s1 σ1 H1 _ I1 (turn n σ1 H1 w1)) fun b s2 hE1 => hE1.elim fun H2 I2 q2 => ?_)
 rcases b with _ | _
 ·
   rw [if_neg Bool.false_ne_true]
   exact wpAny_execs_nil ⟨σ1, H2, I2, q2⟩
 ·
   obtain ⟨N, hN, q2⟩ := q2
   rw [if_pos rfl]
   refine wpAny_passesOwn hp (thn (hb pins s2 σ1 H2 _ I2 q2) fun f s3 q3 => ?_)
   rcases f with _ | _ | _ | v
   ·
     obtain ⟨σ3, H3, I3, n3⟩ := q3
     obtain ⟨m', hm, w3⟩ := hN σ3 H3 n3
     exact ⟨m', hm, σ3, H3, I3, w3⟩
   · exact q3
   ·
     obtain ⟨σ3, H3, I3, n3⟩ := q3
     obtain ⟨m', hm, w3⟩ := hN σ3 H3 n3
     exact ⟨m', hm, σ3, H3, I3, w3⟩
   · exact q3
end
structure It where
 go : Nat → Hp → Prop
 yld : Nat → Hp → V → Hp → Prop
 stop : Nat → Hp → Prop
noncomputable def aP7 (X : Cx) (pins : PNS) (H : Hp) (b : Addr) : Prop :=
 H b = none ∧ b ≠ X.env.locals ∧ b ∉ X.fs ∧ (b ∈ X.ex ∨ X.s₀.heap.objs.size ≤ b) ∧ (∀ x c, X.env.cells.lookup x = some c → c ≠ b) ∧ ∀ p ∈ X.pn ++ pins, p.1 ≠ b
theorem Inv.fpOk {X : Cx} {pins : PNS} {σ : St} {H H' : Hp} {s : Shared} {b : Addr} (I : Inv X pins σ H s) (hb : s.heap.objs.size ≤ b) (hn : H' b = none) : aP7 X pins H' b := by
 refine ⟨hn, Nat.ne_of_gt (Nat.lt_of_lt_of_le I.lt hb), I.nofs hb, .inr (Nat.le_trans I.sz hb), fun x c e z => ?_, fun p hp z => ?_⟩
 · obtain ⟨v, q⟩ := I.cell x c e
   exact absurd (Nat.lt_of_lt_of_le q.lt (by rw [z]; exact hb)) (Nat.lt_irrefl _)
 · exact absurd (Nat.lt_of_lt_of_le (Heap.lt_size (I.pin p hp).1) (by rw [z]; exact hb)) (Nat.lt_irrefl _)
inductive TIt (X : Cx) (pins : PNS) (σ : St) (J : It) (fp : List Addr) (tn : Nat → Heap → Prop) (i : Nat) (H : Hp) (u : Value) (s2 : Shared) : Prop
 | mk (x : V) (H' : Hp) (I : Inv X pins σ H' s2) (r : J7 x u) (y : J.yld i H x H') (st : tn (i + 1) s2.heap) (fr : ∀ b ∈ fp, H' b = none)
structure bH4 (P : Program) (w : World) (K : PySem.W.Frag) (tg : Expr) (J : It) (fp : List Addr) (it : Addr) (tn : Nat → Heap → Prop) : Prop where
 mem : it ∈ fp
 obj : ∀ i h, tn i h → ∀ b ∈ fp, ∃ o, h.get? b = some o ∧ ∀ v, o.data ≠ .cell v
 keep : ∀ i h h', tn i h → (∀ b ∈ fp, ∀ o, h.get? b = some o → h'.get? b = some o) → tn i h'
 item : ∀ (X : Cx), X.prog = P → X.w = w → X.K = K → X.calm = true → ∀ (i : Nat) (pins : PNS) (s : Shared) (σ : St) (H : Hp) (E : VSP), Inv X pins σ H s → (∀ b ∈ fp, aP7 X pins H b) → tn i s.heap → J.go i H →
  wpAny (model P w) X.A (pyNext (.ref it)) (fun r s1 => ∃ u, r = some u ∧
   wpAny (model P w) X.A (letOwnedTupleGo tg (.ref it) u) (fun _ s2 => TIt X pins σ J fp tn i H u s2) E s1) E s
 done : ∀ (X : Cx), X.prog = P → X.w = w → X.K = K → X.calm = true → ∀ (i : Nat) (pins : PNS) (s : Shared) (σ : St) (H : Hp) (E : VSP), Inv X pins σ H s → (∀ b ∈ fp, aP7 X pins H b) → tn i s.heap → J.stop i H →
  wpAny (model P w) X.A (pyNext (.ref it)) (fun r s1 => r = none ∧ Inv X pins σ H s1) E s
 self : ∀ (A : Around) (i : Nat) (s : Shared) (Q : VSP) (E : VSP), tn i s.heap → Q (.ref it) s → wpAny (model P w) A (pyIter (.ref it)) Q E s
noncomputable abbrev TI := St → Hp → (It → Hp → Prop) → Prop
inductive PIE (X : Cx) (pins : PNS) (σ : St) (tg : Expr) (R : It → Hp → Prop) (itv : Value) (s2 : Shared) : Prop
 | mk (it : Addr) (fp : List Addr) (tn : Nat → Heap → Prop) (J : It) (H' : Hp) (e : itv = .ref it) (I : Inv X pins σ H' s2) (T : bH4 X.prog X.w X.K tg J fp it tn) (st : tn 0 s2.heap) (f : ∀ b ∈ fp, aP7 X pins H' b) (r : R J H')
noncomputable def PI (X : Cx) (tg iter : Expr) (wi : TI) : Prop :=
 ∀ (pins : PNS) (s : Shared) (σ : St) (H : Hp) (R : It → Hp → Prop), Inv X pins σ H s → wi σ H R →
  wpAny (model X.prog X.w) X.A (eval iter X.env) (fun v s1 => wpAny (model X.prog X.w) X.A (pyIter v) (PIE X pins σ tg R) X.xe s1) X.xe s
theorem bL6 {M : Model} {A : Around} {E : VSP} {s : Shared} {tg : Expr} {it : Addr} {u : Value} {o : Obj} {n : String} {vs : Array Value} {Q : Unit → Shared → Prop} (ho : s.heap.get? it = some o) (hc : o.cls = .type n) (hd : o.data = .fields vs)
 (hn : ["enumerate", "zip", "dict_itemiterator", "dict_reverseitemiterator", "odict_iterator", "itertools.zip_longest", "itertools.pairwise"].contains n = false) (hQ : Q () s) : wpAny M A (letOwnedTupleGo tg (.ref it) u) Q E s := by
 unfold letOwnedTupleGo
 cases tg <;> first
  | exact wpAny_pure hQ
  | (cases u <;> first
      | exact wpAny_pure hQ
      | (refine wpAny_bind (wpAny_load ho ?_)
         rw [hc, hd]
         show wpAny M A (if (["enumerate", "zip", "dict_itemiterator", "dict_reverseitemiterator", "odict_iterator", "itertools.zip_longest", "itertools.pairwise"].contains n && vs[0]? == some (rawInt _)) = true then _ else _) Q E s
         rw [if_neg (by intro h; rw [hn, Bool.false_and] at h; cases h)]
         exact wpAny_pure hQ))
def Itl (K : PySem.W.Frag) (a : Addr) : It :=
 ⟨fun i H => ∃ xs x, SqL K H a xs ∧ xs[i]? = some x, fun i H x H' => H' = H ∧ ∀ xs, SqL K H a xs → xs[i]? = some x, fun i H => ∃ xs, SqL K H a xs ∧ xs.length ≤ i⟩
def Itt (K : PySem.W.Frag) (a : Addr) : It :=
 ⟨fun i H => ∃ xs x, SqT K H a xs ∧ xs[i]? = some x, fun i H x H' => H' = H ∧ ∀ xs, SqT K H a xs → xs[i]? = some x, fun i H => ∃ xs, SqT K H a xs ∧ xs.length ≤ i⟩
noncomputable def Itr (lo : Int) (n : Nat) : It := ⟨fun i _ => i < n, fun i H x H' => H' = H ∧ x = .int (lo + i), fun i _ => n ≤ i⟩
theorem cO8 {P : Program} {w : World} {K : PySem.W.Frag} {tg : Expr} (a it : Addr) : bH4 P w K tg (Itl K a) [it] it (fun i h => h.IsListIter it a i) where
 mem := by simp
 obj := fun i h st b hb => by
  have e : b = it := by simpa using hb
  subst e
  obtain ⟨o, e, c, d⟩ := st
  exact ⟨o, e, fun v z => by rw [d] at z; cases z⟩
 keep := fun i h h' st k => st.at fun o e => k it (by simp) o e
 item := by
  intro X hP hw hK hc i pins s σ H E I hf st hg
  subst hP hw hK
  obtain ⟨xs, x, hq, hx⟩ := hg
  obtain ⟨its, rv, p, hz⟩ := I.list hq
  obtain ⟨u, hu, ru⟩ := rv.get hx
  obtain ⟨f0, f1, f2, f3, f4, f5⟩ := hf it (by simp)
  refine wpAny_pyNext_list_item st p.isList (x := u) (by simpa using hu) fun h' st' sb => ?_
  have I1 : Inv X pins σ H { s with heap := h' } := I.turned (t' := s.toks) (fun b o hb e => (sb.2 b hb).trans e) f0 f1 f3 f4 f5
  obtain ⟨o, e, c, d⟩ := id st'
  exact ⟨u, rfl, bL6 (s := { s with heap := h' }) e c d (by decide) ⟨x, H, I1, ru, ⟨rfl, fun ys hy => by rw [I.list_inj hy hq]; exact hx⟩, st', fun b hb => (hf b hb).1⟩⟩
 done := by
  intro X hP hw hK hc i pins s σ H E I hf st hg
  subst hP hw hK
  obtain ⟨xs, hq, hx⟩ := hg
  obtain ⟨its, rv, p, hz⟩ := I.list hq
  obtain ⟨f0, f1, f2, f3, f4, f5⟩ := hf it (by simp)
  have hl := rv.length
  exact wpAny_pyNext_list_end (I.ok.hd hc) st p.isList (by simp; lia) fun h' eb => ⟨rfl, I.turned (t' := s.toks) (fun b o hb e => eb b o hb e) f0 f1 f3 f4 f5⟩
 self := fun _ _ _ _ _ st h => wpAny_pyIter_listiter st h
theorem cG6 {P : Program} {w : World} {K : PySem.W.Frag} {tg : Expr} (a it : Addr) : bH4 P w K tg (Itt K a) [it] it (fun i h => h.IsTupleIter it a i) where
 mem := by simp
 obj := fun i h st b hb => by
  have e : b = it := by simpa using hb
  subst e
  obtain ⟨o, e, c, d⟩ := st
  exact ⟨o, e, fun v z => by rw [d] at z; cases z⟩
 keep := fun i h h' st k => st.at fun o e => k it (by simp) o e
 item := by
  intro X hP hw hK hc i pins s σ H E I hf st hg
  subst hP hw hK
  obtain ⟨xs, x, hq, hx⟩ := hg
  obtain ⟨its, rv, p, hz⟩ := I.tuple hq
  obtain ⟨u, hu, ru⟩ := rv.get hx
  obtain ⟨f0, f1, f2, f3, f4, f5⟩ := hf it (by simp)
  refine wpAny_pyNext_tuple_item st (show s.heap.IsTuple a its.toArray from p) (x := u) (by simpa using hu) fun h' st' sb => ?_
  have I1 : Inv X pins σ H { s with heap := h' } := I.turned (t' := s.toks) (fun b o hb e => (sb.2 b hb).trans e) f0 f1 f3 f4 f5
  obtain ⟨o, e, c, d⟩ := id st'
  exact ⟨u, rfl, bL6 (s := { s with heap := h' }) e c d (by decide) ⟨x, H, I1, ru, ⟨rfl, fun ys hy => by rw [I.tuple_inj hy hq]; exact hx⟩, st', fun b hb => (hf b hb).1⟩⟩
 done := by
  intro X hP hw hK hc i pins s σ H E I hf st hg
  subst hP hw hK
  obtain ⟨xs, hq, hx⟩ := hg
  obtain ⟨its, rv, p, hz⟩ := I.tuple hq
  obtain ⟨f0, f1, f2, f3, f4, f5⟩ := hf it (by simp)
  have hl := rv.length
  exact wpAny_pyNext_tuple_end (I.ok.hd hc) st (show s.heap.IsTuple a its.toArray from p) (by simp; lia) fun h' eb => ⟨rfl, I.turned (t' := s.toks) (fun b o hb e => eb b o hb e) f0 f1 f3 f4 f5⟩
 self := fun _ _ _ _ _ st h => wpAny_pyIter_tupleiter st h
theorem cF8 {P : Program} {w : World} {K : PySem.W.Frag} {tg : Expr} (it : Addr) (lo : Int) (n : Nat) : bH4 P w K tg (Itr lo n) [it] it (fun i h => IsRangeIter h it (lo + (i : Nat) * 1) ((n : Int) - (i : Nat)) 1) where
 mem := by simp
 obj := fun i h st b hb => by
  have e : b = it := by simpa using hb
  subst e
  exact ⟨_, st, fun v z => by
   have z' : Data.fields _ = Data.cell v := z
   cases z'⟩
 keep := fun i h h' st k => k it (by simp) _ st
 item := by
  intro X hP hw hK hc i pins s σ H E I hf st hg
  subst hP hw hK
  obtain ⟨f0, f1, f2, f3, f4, f5⟩ := hf it (by simp)
  have W := Walks.range (prog := X.prog) (w := X.w) (I.ok.hd hc) it lo 1 n
  refine W.item i s _ _ hg st fun v h' tk hv st' kk => ?_
  obtain ⟨t, rfl⟩ := hv
  have I1 : Inv X pins σ H { s with heap := h', toks := tk } := I.turned (fun b o hb e => kk b o (by simpa using hb) e) f0 f1 f3 f4 f5
  refine ⟨_, rfl, bL6 (s := { s with heap := h', toks := tk }) (n := "range_iterator") st' rfl rfl (by decide) ⟨.int (lo + i), H, I1, ⟨t, ?_⟩, ⟨rfl, rfl⟩, st', fun b hb => (hf b hb).1⟩⟩
  rw [Int.mul_one]
 done := by
  intro X hP hw hK hc i pins s σ H E I hf st hg
  subst hP hw hK
  obtain ⟨f0, f1, f2, f3, f4, f5⟩ := hf it (by simp)
  exact wpAny_pyNext_range_end (I.ok.hd hc) st (by have : n ≤ i := hg; lia) fun h' eb => ⟨rfl, I.turned (t' := s.toks) (fun b o hb e => eb b o hb e) f0 f1 f3 f4 f5⟩
 self := fun _ _ _ _ _ st h => wpAny_pyIter_rangeiter st h
section
variable {X : Cx} {tg : Expr}
theorem cZ4 {pins : PNS} {σ : St} {H : Hp} {s : Shared} {R : It → Hp → Prop} {E : VSP} {lo hi : Int} {t u v : Tok} {tk : Nat} (I : Inv X pins σ H s) (h1 : -(2 ^ 62) ≤ lo) (h2 : lo < 2 ^ 62) (h3 : -(2 ^ 62) ≤ hi) (h4 : hi < 2 ^ 62)
 (q : R (Itr lo (hi - lo).toNat) H) : wpAny (model X.prog X.w) X.A (pyIter (.ref s.heap.objs.size)) (PIE X pins σ tg R) E { s with heap := s.heap.push { cls := .type "range", data := .fields #[.int lo t, .int hi u, .int 1 v] }, toks := tk } := by
 refine wpAny_pyIter_range (IsRange.new ..) (small_one h1 h2 h3 h4) ?_
 have I1 : Inv X pins σ H { s with heap := s.heap.push { cls := .type "range", data := .fields #[.int lo t, .int hi u, .int 1 v] }, toks := tk } := I.kept fun b o e => Heap.get?_push_of_some _ e
 refine ⟨(s.heap.push { cls := .type "range", data := .fields #[.int lo t, .int hi u, .int 1 v] }).objs.size, [(s.heap.push { cls := .type "range", data := .fields #[.int lo t, .int hi u, .int 1 v] }).objs.size], _, _, H, rfl,
  I1.kept (t' := tk) fun b o e => Heap.get?_push_of_some _ e, cF8 _ lo (hi - lo).toNat, ?_, fun b hb => ?_, q⟩
 · have e1 : lo + ((0 : Nat) : Int) * 1 = lo := by simp
   have e2 : (((hi - lo).toNat : Nat) : Int) - ((0 : Nat) : Int) = Builtin.Range.rangeSize lo hi 1 := by rw [rangeSize_one]; split <;> lia
   show IsRangeIter _ _ (lo + ((0 : Nat) : Int) * 1) ((((hi - lo).toNat : Nat) : Int) - ((0 : Nat) : Int)) 1
   rw [e1, e2]
   exact Heap.get?_push_size _ rfl
 · have e : b = (s.heap.push { cls := .type "range", data := .fields #[.int lo t, .int hi u, .int 1 v] }).objs.size := by simpa using hb
   subst e
   exact I1.fpOk (Nat.le_refl _) (I1.hok.fresh (Nat.le_refl _))
def dV7 (ta : TA) : TI := fun σ H R => ta σ H fun vs H1 => ∃ j : Int, vs = [.int j] ∧ -(2 ^ 62) ≤ j ∧ j < 2 ^ 62 ∧ R (Itr 0 j.toNat) H1
theorem cP3 {a : Expr} {ta : TA} {p pos : Pos} (hg : Gl X "range") (hm : X.mg "range" = none) (ha : PA X [a] ta) (hs : starEach [a] X.env = [(false, eval a X.env)]) : PI X tg (.Call (.Name "range" p) [a] [] pos) (dV7 ta) := by
 intro pins s σ H R I h
 refine Call_ (aO4 I hg hm boot_range (PyProof.Rows.callWith_type1 (thn (ha pos pins s σ H _ I h) fun us s1 hE1 => hE1.elim fun vs H1 I1 r1 q1 => ?_) hs rfl))
 obtain ⟨j, e, q1, q2, q⟩ := q1
 subst e
 cases r1 with
 | cons r rr =>
   cases rr
   obtain ⟨t, rfl⟩ := r
   exact call_range_1 (cZ4 I1 (by lia) (by lia) q1 q2 (by simpa using q))
noncomputable def eD9 (wi : TI) (g : TG) (tb : TS) : TS := fun D σ H => wi σ H fun J H1 => ∃ W : Nat → Nat → St → Hp → Prop, (∃ m, W 0 m σ H1) ∧ ∀ i m σ H, W i m σ H →
 (J.stop i H ∧ D.nx σ H) ∨ (J.go i H ∧ ∃ N : St → Hp → Prop, (∀ σ' H', N σ' H' → ∃ m', m' < m ∧ W (i + 1) m' σ' H') ∧ ∀ x H', J.yld i H x H' → g x σ H' fun σ2 H2 => tb { D with nx := N, ct := N, bk := D.nx } σ2 H2)
noncomputable def bG5 (fp : List Addr) (h : Heap) : PNS := fp.filterMap fun b => (h.get? b).map fun o => (b, o)
theorem aL4 {fp : List Addr} {h : Heap} {b : Addr} {o : Obj} (hb : b ∈ fp) (e : h.get? b = some o) : (b, o) ∈ bG5 fp h := List.mem_filterMap.mpr ⟨b, hb, by rw [e]; rfl⟩
theorem cN7 {fp : List Addr} {h : Heap} {p : Addr × Obj} (hp : p ∈ bG5 fp h) : p.1 ∈ fp ∧ h.get? p.1 = some p.2 := by
 obtain ⟨b, hb, e⟩ := List.mem_filterMap.mp hp
 rcases q : h.get? b with _ | o
 · rw [q] at e; cases e
 ·
   rw [q] at e
   have e' : (b, o) = p := Option.some.inj e
   subst e'
   exact ⟨hb, q⟩
theorem Inv.pinned {pins : PNS} {σ : St} {H : Hp} {s : Shared} {fp : List Addr} (I : Inv X pins σ H s) (hf : ∀ b ∈ fp, aP7 X pins H b) (ho : ∀ b ∈ fp, ∃ o, s.heap.get? b = some o ∧ ∀ v, o.data ≠ .cell v) : Inv X (pins ++ bG5 fp s.heap) σ H s :=
 I.pins_of fun p hp => (List.mem_append.mp hp).elim (fun z => I.pin p (List.mem_append_right _ z)) fun z => by
  obtain ⟨hb, e⟩ := cN7 z
  obtain ⟨f0, f1, f2, _⟩ := hf p.1 hb
  obtain ⟨o, e', d⟩ := ho p.1 hb
  rw [e] at e'; cases e'
  exact ⟨e, f0, f1, f2, d⟩
theorem Inv.unpinned {pins pl : PNS} {σ : St} {H : Hp} {s : Shared} (I : Inv X (pins ++ pl) σ H s) : Inv X pins σ H s := I.pins_of fun p hp => I.pin p (List.mem_append_right _ (List.mem_append_left _ hp))
inductive dP4 (X : Cx) (pins : PNS) (fp : List Addr) (tn : Nat → Heap → Prop) (W : Nat → Nat → St → Hp → Prop) (n : Nat) (s : Shared) : Prop
 | mk (i : Nat) (σ : St) (H : Hp) (I : Inv X pins σ H s) (st : tn i s.heap) (fr : ∀ b ∈ fp, H b = none) (w : W i n σ H)
theorem dE8 {body : List Stmt} {g : TG} {tb : TS} {pins : PNS} {D : bH9} {it : Addr} {fp : List Addr} {tn : Nat → Heap → Prop} {J : It} {W : Nat → Nat → St → Hp → Prop} {EE : VSP} (hp : ∀ e s, X.xe e s → EE e s) (hc : X.calm = true) (hg : PG X tg g) (hb : PSs X body tb)
 (T : bH4 X.prog X.w X.K tg J fp it tn) (stat : ∀ {H' : Hp}, (∀ b ∈ fp, H' b = none) → ∀ b ∈ fp, aP7 X pins H' b)
 (turn : ∀ i m σ H, W i m σ H → (J.stop i H ∧ D.nx σ H) ∨ (J.go i H ∧ ∃ N : St → Hp → Prop, (∀ σ' H', N σ' H' → ∃ m', m' < m ∧ W (i + 1) m' σ' H') ∧ ∀ x H', J.yld i H x H' → g x σ H' fun σ2 H2 => tb { D with nx := N, ct := N, bk := D.nx } σ2 H2))
 {n : Nat} {s3 : Shared} (h3 : dP4 X pins fp tn W n s3) {NX : Shared → Prop} (nx : ∀ m s, m < n → dP4 X pins fp tn W m s → NX s) :
 wpAny (model X.prog X.w) X.A (pyNext (.ref it)) (fun r s₁ => match r with
  | none => wpAny (model X.prog X.w) X.A (execs [] X.env) (fun f s₃ => SP X pins D f s₃) EE s₁
  | some v => wpAny (model X.prog X.w) X.A (letOwnedTupleGo tg (.ref it) v) (fun _ s₁' =>
     wpAny (model X.prog X.w) X.A (assign tg X.env v) (fun _ s₂ => wpAny (model X.prog X.w) X.A (execs body X.env) (fun f s₃ => match f with
      | .next | .cont => NX s₃
      | .brk => SP X pins D .next s₃
      | .ret v => SP X pins D (.ret v) s₃) EE s₂) EE s₁') EE s₁) EE s3 := by
 obtain ⟨i, σ3, H3, I3, st3, fr3, w3⟩ := h3
 rcases turn i n σ3 H3 w3 with ⟨stop, qn⟩ | ⟨go, N, hN, step⟩
 · refine wpAny_mono (T.done X rfl rfl rfl hc i pins s3 σ3 H3 X.xe I3 (stat fr3) st3 stop) (fun r s4 z4 => ?_) hp
   obtain ⟨hr, I4⟩ := z4
   subst hr
   exact wpAny_execs_nil ⟨σ3, H3, I4, qn⟩
 · refine wpAny_mono (T.item X rfl rfl rfl hc i pins s3 σ3 H3 X.xe I3 (stat fr3) st3 go) (fun r s4 z4 => ?_) hp
   obtain ⟨u, hr, h4⟩ := z4
   subst hr
   refine wpAny_mono h4 (fun _ s5 z5 => ?_) hp
   obtain ⟨x, H5, I5, r5, y5, st5, fr5⟩ := z5
   have I5' := I5.pinned (stat fr5) (T.obj _ _ st5)
   refine wpAny_mono (hg _ s5 σ3 H5 x u _ I5' r5 (step x H5 y5)) (fun _ s6 z6 => ?_) hp
   obtain ⟨σ6, H6, I6, q6⟩ := z6
   refine wpAny_mono (hb _ s6 σ6 H6 _ I6 q6) (fun f s7 q7 => ?_) hp
   have again : ∀ {σ7 : St} {H7 : Hp}, Inv X (pins ++ bG5 fp s5.heap) σ7 H7 s7 → N σ7 H7 → NX s7 := fun {σ7 H7} I7 n7 => by
    obtain ⟨m', hm, w7⟩ := hN σ7 H7 n7
    refine nx m' _ hm ⟨i + 1, σ7, H7, I7.unpinned, T.keep _ _ _ st5 fun b hb o e => (I7.pin (b, o) (List.mem_append_right _ (List.mem_append_right _ (aL4 hb e)))).1, fun b hb => ?_, w7⟩
    obtain ⟨o, e, d⟩ := T.obj _ _ st5 b hb
    exact (I7.pin (b, o) (List.mem_append_right _ (List.mem_append_right _ (aL4 hb e)))).2.1
   rcases f with _ | _ | _ | v
   · obtain ⟨σ7, H7, I7, n7⟩ := q7; exact again I7 n7
   · obtain ⟨σ7, H7, I7, q7⟩ := q7; exact ⟨σ7, H7, I7.unpinned, q7⟩
   · obtain ⟨σ7, H7, I7, n7⟩ := q7; exact again I7 n7
   · obtain ⟨x7, σ7, H7, I7, r7, q7⟩ := q7; exact ⟨x7, σ7, H7, I7.unpinned, r7, q7⟩
theorem dQ4 {iter : Expr} {body : List Stmt} {wi : TI} {g : TG} {tb : TS} {pos : Pos} (hp : PassesOwn (model X.prog X.w) X.A X.env X.xe) (hc : X.calm = true) (hi : PI X tg iter wi) (hg : PG X tg g) (hb : PSs X body tb)
 (hs : ∀ x, foldedSetIterable iter X.env x = pure x) : PS X (.For tg iter body [] pos) (eD9 wi g tb) := by
 intro pins s σ H D I h
 refine wpAny_For (thn (hi pins s σ H _ I h) fun v s1 h1 => thn h1 fun itv s2 h2 => ?_) hs
 obtain ⟨it, fp, tn, J, H2, e, I2, T, st2, f2, W, ⟨m0, w0⟩, turn⟩ := h2
 subst e
 -- what stays true of the iterator's objects through the loop
 have stat : ∀ {H' : Hp}, (∀ b ∈ fp, H' b = none) → ∀ b ∈ fp, aP7 X pins H' b := fun hn b hb => ⟨hn b hb, (f2 b hb).2⟩
 exact codeAny_forLoop_any (dP4 X pins fp tn W) (fun n s3 h3 => dE8 hp hc hg hb T stat turn h3 fun m s h1 h2 => ⟨m, h1, h2⟩) m0 ⟨0, σ, H2, I2, st2, fun b hb => (f2 b hb).1, w0⟩
end
noncomputable abbrev R2 := V → V → Hp → VK → Prop
def OpR (X : Cx) (f : Value → Value → Sem Value) (r : R2) : Prop :=
 ∀ (pins : PNS) (s : Shared) (σ : St) (H : Hp) (x y : V) (v u : Value) (Q : VK), Inv X pins σ H s → J7 x v → J7 y u → r x y H Q →
  wpAny (model X.prog X.w) X.A (f v u) (EP X pins σ Q) X.xe s
def UnR (X : Cx) (f : Value → Sem Value) (r : V → Hp → VK → Prop) : Prop :=
 ∀ (pins : PNS) (s : Shared) (σ : St) (H : Hp) (x : V) (v : Value) (Q : VK), Inv X pins σ H s → J7 x v → r x H Q →
  wpAny (model X.prog X.w) X.A (f v) (EP X pins σ Q) X.xe s
def Z8 (X : Cx) (f : Value) (r : List V → Hp → VK → Prop) : Prop :=
 ∀ (pins : PNS) (s : Shared) (σ : St) (H : Hp) (xs : List V) (us : List Value) (Q : VK), Inv X pins σ H s → w6 xs us → r xs H Q →
  wpAny (model X.prog X.w) X.A (call f us) (EP X pins σ Q) X.xe s
def eD2 (X : Cx) (r : V → Hp → (Bool → Hp → Prop) → Prop) : Prop :=
 ∀ (pins : PNS) (s : Shared) (σ : St) (H : Hp) (x : V) (v : Value) (Q : Bool → Hp → Prop), Inv X pins σ H s → J7 x v → r x H Q →
  wpAny (model X.prog X.w) X.A (truthy v) (TP X pins σ Q) X.xe s
noncomputable def tOp (r : R2) (ta tb : TE) : TE := fun σ H Q => ta σ H fun x H1 => tb σ H1 fun y H2 => r x y H2 Q
noncomputable def tUn (r : V → Hp → VK → Prop) (ta : TE) : TE := fun σ H Q => ta σ H fun x H1 => r x H1 Q
noncomputable def rI (C : Int → Int → Prop) (g : Int → Int → V) : R2 := fun x y H Q => ∃ i j, x = .int i ∧ y = .int j ∧ C i j ∧ Q (g i j) H
noncomputable def rI0 (g : Int → Int → V) : R2 := fun x y H Q => ∃ i j, x = .int i ∧ y = .int j ∧ Q (g i j) H
noncomputable def rU (g : Int → V) : V → Hp → VK → Prop := fun x H Q => ∃ i, x = .int i ∧ Q (g i) H
section
variable {X : Cx} {a b c : Expr} {ta tb tc : TE} {pos : Pos}
theorem dR6 (ha : PE X a ta) (hb : PE X b tb) {pins : PNS} {s : Shared} {σ : St} {H : Hp} {R : V → V → Hp → Prop} (I : Inv X pins σ H s)
 (h : ta σ H fun x H1 => tb σ H1 fun y H2 => R x y H2) {Q : VSP} {f : Value → Value → Sem Value}
 (hf : ∀ v u s2 x y H2, Inv X pins σ H2 s2 → J7 x v → J7 y u → R x y H2 → wpAny (model X.prog X.w) X.A (f v u) Q X.xe s2) :
 wpAny (model X.prog X.w) X.A (eval a X.env) (fun v s₁ => wpAny (model X.prog X.w) X.A (eval b X.env) (fun u s₂ => wpAny (model X.prog X.w) X.A (f v u) Q X.xe s₂) X.xe s₁) X.xe s := by
 refine thn (ha pins s σ H _ I h) fun v s1 hE1 => hE1.elim fun x H1 I1 r1 q1 => ?_
 refine thn (hb pins s1 σ H1 _ I1 q1) fun u s2 hE1 => hE1.elim fun y H2 I2 r2 q2 => ?_
 exact hf v u s2 x y H2 I2 r1 r2 q2
theorem dY9 {op : Operator} {r : R2} (ho : OpR X (binaryOp op) r) (ha : PE X a ta) (hb : PE X b tb) : PE X (.BinOp a op b pos) (tOp r ta tb) := by
 intro pins s σ H Q I h
 exact wpAny_BinOp (dR6 ha hb I h fun v u s2 x y H2 I2 rx ry q => ho pins s2 σ H2 x y v u Q I2 rx ry q)
theorem dV4 {op : UnaryOp} {r : V → Hp → VK → Prop} (ho : UnR X (unaryOp op) r) (ha : PE X a ta) : PE X (.UnaryOp op a pos) (tUn r ta) := by
 intro pins s σ H Q I h
 exact UnaryOp_ (thn (ha pins s σ H _ I h) fun v s1 hE1 => hE1.elim fun x H1 I1 r1 q1 => ho pins s1 σ H1 x v Q I1 r1 q1)
theorem opI {f : Value → Value → Sem Value} {C : Int → Int → Prop} {g : Int → Int → Int}
 (rule : ∀ (i j : Int) (t u : Tok) (s : Shared) (Q : VSP) (E : VSP), C i j → Q (.int (g i j) s.toks) { s with toks := s.toks + 1 } → wpAny (model X.prog X.w) X.A (f (.int i t) (.int j u)) Q E s) :
 OpR X f (rI C fun i j => .int (g i j)) := by
 intro pins s σ H x y v u Q I rx ry h
 obtain ⟨i, j, rfl, rfl, hc, q⟩ := h
 obtain ⟨t, rfl⟩ := rx
 obtain ⟨t', rfl⟩ := ry
 exact rule i j t t' s _ _ hc ⟨.int (g i j), H, I.tok _, ⟨_, rfl⟩, q⟩
theorem dY2 {f : Value → Value → Sem Value} {g : Int → Int → Int}
 (rule : ∀ (i j : Int) (t u : Tok) (s : Shared) (Q : VSP) (E : VSP), Q (.int (g i j) s.toks) { s with toks := s.toks + 1 } → wpAny (model X.prog X.w) X.A (f (.int i t) (.int j u)) Q E s) :
 OpR X f (rI0 fun i j => .int (g i j)) := by
 intro pins s σ H x y v u Q I rx ry h
 obtain ⟨i, j, rfl, rfl, q⟩ := h
 obtain ⟨t, rfl⟩ := rx
 obtain ⟨t', rfl⟩ := ry
 exact rule i j t t' s _ _ ⟨.int (g i j), H, I.tok _, ⟨_, rfl⟩, q⟩
theorem dW5 {f : Value → Value → Sem Value} {g : Int → Int → Bool}
 (rule : ∀ (i j : Int) (t u : Tok) (s : Shared) (Q : VSP) (E : VSP), Q (.bool (g i j)) s → wpAny (model X.prog X.w) X.A (f (.int i t) (.int j u)) Q E s) :
 OpR X f (rI0 fun i j => .bl (g i j)) := by
 intro pins s σ H x y v u Q I rx ry h
 obtain ⟨i, j, rfl, rfl, q⟩ := h
 obtain ⟨t, rfl⟩ := rx
 obtain ⟨t', rfl⟩ := ry
 exact rule i j t t' s _ _ ⟨.bl (g i j), H, I, rfl, q⟩
noncomputable def dG2 (i j : Int) : Prop := 0 ≤ j ∧ j ≤ 1000000 ∧ i.natAbs < 2 ^ 64
noncomputable def bL3 (i j : Int) : Prop := (-(2 ^ 64) < i ∧ i < 2 ^ 64) ∨ (-(2 ^ 64) < j ∧ j < 2 ^ 64)
theorem bL3.ok {i j : Int} (h : bL3 i j) : IntMulOk i j := by
 rcases h with ⟨h1, h2⟩ | ⟨h1, h2⟩
 · exact .of_left (intBits_le_64 h1 h2)
 · exact .of_right (intBits_le_64 h1 h2)
theorem dO0 : OpR X (binaryOp .Add) (rI0 fun i j => .int (i + j)) := dY2 fun _ _ _ _ _ _ _ q => add_int q
theorem dP9 : OpR X (binaryOp .Sub) (rI0 fun i j => .int (i - j)) := dY2 fun _ _ _ _ _ _ _ q => sub_int q
theorem dL2 : OpR X (binaryOp .Mult) (rI bL3 fun i j => .int (i * j)) := opI fun _ _ _ _ _ _ _ hc q => mul_int q hc.ok
theorem dO5 : OpR X (binaryOp .Mod) (rI (fun _ j => 0 < j) fun i j => .int (i % j)) := opI fun i j _ _ _ _ _ hc q => by
 have h1 : (0 : Int) < j := hc
 exact mod_int' (by lia) (by rw [Int.fmod_eq_emod_of_nonneg i (by lia)]; exact q)
theorem dR1 : OpR X (binaryOp .Pow) (rI dG2 fun i j => .int (i ^ j.toNat)) := opI fun _ _ _ _ _ _ _ hc q => pow_int_small hc.1 hc.2.1 hc.2.2 q
theorem unI {f : Value → Sem Value} {g : Int → Int}
 (rule : ∀ (i : Int) (t : Tok) (s : Shared) (Q : VSP) (E : VSP), Q (.int (g i) s.toks) { s with toks := s.toks + 1 } → wpAny (model X.prog X.w) X.A (f (.int i t)) Q E s) :
 UnR X f (rU fun i => .int (g i)) := by
 intro pins s σ H x v Q I rx h
 obtain ⟨i, rfl, q⟩ := h
 obtain ⟨t, rfl⟩ := rx
 exact rule i t s _ _ ⟨.int (g i), H, I.tok _, ⟨_, rfl⟩, q⟩
theorem dT2 : UnR X (unaryOp .USub) (rU fun i => .int (-i)) := unI fun _ _ _ _ _ q => neg_int q
end
section
variable {X : Cx} {a b c : Expr} {ta tb tc : TE} {pos : Pos}
theorem cX3 {pins : PNS} {σ : St} {H : Hp} {s : Shared} {Q : VK} {k k' : Bool} (I : Inv X pins σ H s) (q : Q (.bl k) H) (e : k = k') : EP X pins σ Q (.bool k') s := by
 subst e
 exact ⟨.bl k, H, I, rfl, q⟩
theorem dY3 : OpR X (compareOp .LtE) (rI0 fun i j => .bl (decide (i ≤ j))) := dW5 fun _ _ _ _ _ _ _ q => le_int q
theorem dW2 : OpR X (compareOp .Gt) (rI0 fun i j => .bl (decide (j < i))) := dW5 fun _ _ _ _ _ _ _ q => gt_int q
theorem dR2 : OpR X (compareOp .Is) (fun x y H Q => y = .non ∧ Q (.bl (decide (x = .non))) H) := by
 intro pins s σ H x y v u Q I rx ry h
 obtain ⟨rfl, q⟩ := h
 cases ry
 refine is_none_gen (cX3 I q ?_)
 cases x <;> first
  | (cases rx; rfl)
  | (obtain ⟨t, rfl⟩ := rx; rfl)
theorem dI8 : OpR X (compareOp .IsNot) (fun x y H Q => y = .non ∧ Q (.bl (!decide (x = .non))) H) := by
 intro pins s σ H x y v u Q I rx ry h
 obtain ⟨rfl, q⟩ := h
 cases ry
 refine isnot_none_gen (cX3 I q ?_)
 cases x <;> first
  | (cases rx; rfl)
  | (obtain ⟨t, rfl⟩ := rx; rfl)
theorem OpR.or {f : Value → Value → Sem Value} {r r' : R2} (h : OpR X f r) (h' : OpR X f r') : OpR X f (fun x y H Q => r x y H Q ∨ r' x y H Q) := by
 intro pins s σ H x y v u Q I rx ry q
 rcases q with q | q
 · exact h pins s σ H x y v u Q I rx ry q
 · exact h' pins s σ H x y v u Q I rx ry q
theorem dB2 {op : CmpOp} {r : R2} (ho : OpR X (compareOp op) r) (ha : PE X a ta) (hb : PE X b tb) (hm : behindInMarks op b = false) : PE X (.Compare a [op] [b] pos) (tOp r ta tb) := by
 intro pins s σ H Q I h
 exact wpAny_Compare1 (dR6 ha hb I h fun v u s2 x y H2 I2 rx ry q => ho pins s2 σ H2 x y v u Q I2 rx ry q) hm
noncomputable def dW9 (t : TE) : TT := fun σ H Q => t σ H fun x H' => ∃ k, x = .bl k ∧ Q k H'
theorem dE3 {op : CmpOp} {r : R2} (ho : OpR X (compareOp op) r) (ha : PE X a ta) (hb : PE X b tb) (hm : behindInMarks op b = false) : PT X (.Compare a [op] [b] pos) (dW9 (tOp r ta tb)) := by
 intro pins s σ H Q I h
 refine wpAny_isTrue_Compare1 (thn (ha pins s σ H _ I h) fun v s1 hE1 => hE1.elim fun x H1 I1 r1 q1 => thn (hb pins s1 σ H1 _ I1 q1) fun u s2 hE1 => hE1.elim fun y H2 I2 r2 q2 =>
  thn (ho pins s2 σ H2 x y v u _ I2 r1 r2 q2) fun c s3 ⟨z, H3, I3, r3, k, e, q3⟩ => ?_) hm
 subst e
 cases r3
 exact wpAny_truthy_bool ⟨H3, I3, q3⟩
noncomputable def dT4 (r r' : R2) (ta tb tc : TE) : TE := fun σ H Q => ta σ H fun x H1 => tb σ H1 fun y H2 => r x y H2 fun z H3 => ∃ k, z = .bl k ∧
 (if k = true then tc σ H3 fun w' H4 => r' y w' H4 Q else Q (.bl false) H3)
theorem cU2 {op op' : CmpOp} {r r' : R2} (ho : OpR X (compareOp op) r) (ho' : OpR X (compareOp op') r') (ha : PE X a ta) (hb : PE X b tb) (hc : PE X c tc)
 (hm : lastMarks [op, op'] [b, c] = false) : PE X (.Compare a [op, op'] [b, c] pos) (dT4 r r' ta tb tc) := by
 intro pins s σ H Q I h
 refine Compare_chain (thn (ha pins s σ H _ I h) fun v s1 hE1 => hE1.elim fun x H1 I1 r1 q1 => chain_link (thn (hb pins s1 σ H1 _ I1 q1) fun u s2 hE1 => hE1.elim fun y H2 I2 r2 q2 =>
  thn (ho pins s2 σ H2 x y v u _ I2 r1 r2 q2) fun d s3 ⟨z, H3, I3, r3, k, e, q3⟩ => ?_)) hm
 subst e
 cases r3
 refine wpAny_truthy_bool ?_
 rcases k with _ | _
 · exact ite_ff ⟨.bl false, H3, I3, rfl, q3⟩
 · exact ite_tt (chain_last (thn (hc pins s3 σ H3 _ I3 q3) fun w' s4 ⟨z', H4, I4, r4, q4⟩ => ho' pins s4 σ H4 y z' u w' Q I4 r2 r4 q4))
def dO4 (K : PySem.W.Frag) (x : V) (H : Hp) (k : Bool) : Prop :=
 match x with
 | .non => k = false
 | .bl b => k = b
 | .int i => k = (i != 0)
 | .str y => y.length ≤ sizeLine ∧ k = ((y.length : Int) != 0)
 | .byt y => y.size ≤ sizeLine ∧ k = ((y.size : Int) != 0)
 | .ref p => (∃ xs, SqL K H p xs ∧ k = !xs.isEmpty) ∨ (∃ xs, SqT K H p xs ∧ k = !xs.isEmpty) ∨ ∃ kvs, H p = some (.dK kvs) ∧ k = !kvs.isEmpty
 | _ => False
theorem cC7 {κ : Type} {kvs : List (κ × V)} {vs : List (κ × Value)} (r : KV kvs vs) : (!vs.isEmpty) = !kvs.isEmpty := by
 cases r <;> rfl
theorem bH2 {xs : List V} {its : List Value} (r : w6 xs its) : (!its.toArray.isEmpty) = !xs.isEmpty := by
 cases r <;> simp
theorem aU4 : (sizeLine : Nat) < 2 ^ 63 := by rw [sizeLine_eq]; decide
theorem cD4 : eD2 X (fun x H Q => ∃ k, dO4 X.K x H k ∧ Q k H) := by
 intro pins s σ H x v Q I rx h
 obtain ⟨k, e, q⟩ := h
 have hl := aU4
 have hs : sizeLine = 16777216 := sizeLine_eq
 rcases x with _ | b | i | y | y | _ | p | _ <;> try (exact (show False from e).elim; done)
 ·
   cases rx
   have e' : k = false := e
   subst e'
   exact truthy_none ⟨H, I, q⟩
 ·
   cases rx
   have e' : k = b := e
   subst e'
   exact wpAny_truthy_bool ⟨H, I, q⟩
 ·
   obtain ⟨t, rfl⟩ := rx
   have e' : k = (i != 0) := e
   subst e'
   exact PySem.P.truthy_int ⟨H, I, q⟩
 ·
   obtain ⟨t, rfl⟩ := rx
   obtain ⟨hy, e'⟩ : y.length ≤ sizeLine ∧ k = ((y.length : Int) != 0) := e
   subst e'
   exact PySem.P.truthy_str (by lia) ⟨H, I.tok _, q⟩
 ·
   obtain ⟨t, rfl⟩ := rx
   obtain ⟨hy, e'⟩ : y.size ≤ sizeLine ∧ k = ((y.size : Int) != 0) := e
   subst e'
   exact PySem.W.truthy_bytes (by lia) ⟨H, I.tok _, q⟩
 ·
   cases rx
   have e' : (∃ xs, SqL X.K H p xs ∧ k = !xs.isEmpty) ∨ (∃ xs, SqT X.K H p xs ∧ k = !xs.isEmpty) ∨ ∃ kvs, H p = some (.dK kvs) ∧ k = !kvs.isEmpty := e
   rcases e' with ⟨xs, hx, e'⟩ | ⟨xs, hx, e'⟩ | ⟨kvs, hx, e'⟩
   · subst e'
     obtain ⟨its, r, pl, hz⟩ := I.list hx
     have hlen := r.length
     exact wpAny_truthy_list pl.isList (by simp only [List.size_toArray]; lia) ⟨H, I.tok _, by rw [bH2 r]; exact q⟩
   · subst e'
     obtain ⟨its, r, pl, hz⟩ := I.tuple hx
     have hlen := r.length
     exact truthy_tuple pl (by simp only [List.size_toArray]; lia) ⟨H, I.tok _, by rw [bH2 r]; exact q⟩
   · subst e'
     obtain ⟨hz, hS, vs, r, m⟩ : kvs.length ≤ sizeLine ∧ (p == sysModules) = false ∧ ∃ vs, KV kvs vs ∧ s.heap.DictOf (Q9 X.prog X.w) p vs := I.hok p _ hx
     have hlen : kvs.length = vs.length := Paired.length r
     exact wpAny_truthy_dict hS m (by lia) ⟨H, I.tok _, by rw [cC7 r]; exact q⟩
theorem cU9 (ha : PE X a ta) (he : ∀ whole, isTrue a X.env whole = (do let v ← whole; standAt a.pos; holding [v] (truthy v))) :
 PT X a (fun σ H Q => ta σ H fun x H' => ∃ k, dO4 X.K x H' k ∧ Q k H') := by
 intro pins s σ H Q I h
 exact isTrue_plain (thn (ha pins s σ H _ I h) fun v s1 hE1 => hE1.elim fun x H1 I1 r1 q1 => cD4 pins s1 σ H1 x v Q I1 r1 q1) (he _)
theorem cC5 : OpR X (binaryOp .Add) (fun x y H Q => ∃ i j, x = .str i ∧ y = .str j ∧ i.length + j.length ≤ sizeLine ∧ Q (.str (i ++ j)) H) := by
 intro pins s σ H x y v u Q I rx ry h
 obtain ⟨i, j, rfl, rfl, hz, q⟩ := h
 obtain ⟨t, rfl⟩ := rx
 obtain ⟨t', rfl⟩ := ry
 exact add_str (fun t' tk => ⟨.str (i ++ j), H, I.tok _, ⟨_, rfl⟩, q⟩) hz
theorem aM5 {x : V} {us : List Value} (r : w6 [x] us) : ∃ u, us = [u] ∧ J7 x u := by
 cases r with
 | cons r1 r2 => cases r2; exact ⟨_, rfl, r1⟩
theorem bY1 {x y : V} {us : List Value} (r : w6 [x, y] us) : ∃ u w', us = [u, w'] ∧ J7 x u ∧ J7 y w' := by
 cases r with
 | cons r1 r2 =>
   cases r2 with
   | cons r3 r4 => cases r4; exact ⟨_, _, rfl, r1, r3⟩
theorem cL9 (hc : X.calm = true) : Z8 X (.builtin "min") (fun xs H Q => ∃ i j, xs = [.int i, .int j] ∧ Q (.int (if j < i then j else i)) H) := by
 intro pins s σ H xs us Q I r h
 obtain ⟨i, j, rfl, q⟩ := h
 obtain ⟨u, w', rfl, ⟨t, rfl⟩, ⟨t', rfl⟩⟩ := bY1 r
 refine min_two_ints (I.ok.hd hc) fun h' tk k => ⟨_, H, I.kept k, ?_, q⟩
 by_cases hj : j < i
 · rw [if_pos hj, if_pos hj]; exact ⟨_, rfl⟩
 · rw [if_neg hj, if_neg hj]; exact ⟨_, rfl⟩
end
structure ObjM (h : Heap) (x dx C : Addr) (mA : Str → Option Value) : Prop where
 obj : h.get? x = some (PySem.W.instObj C dx)
 ns : h.Ns1 dx mA
 ne : dx ≠ x
section
variable {prog : Program} {w : World} {A : Around} {E : VSP} {s : Shared} {K : PySem.W.Frag} {x dx C f : Addr} {mA : Str → Option Value} {name : Str} {v : Value}
end
section
variable {P : Program} {w : World} {H H' : Hp} {h h' : Heap} {a C dx : Addr} {fs fs' : List (Str × V)}
end
structure Cls (K : PySem.W.Frag) (C : Addr) : Prop where
 pg : PySem.W.plainGet K C Str.empty = true
 hd : PySem.W.hasDictIn K C = true
 po : PySem.W.plainOver K C = true
 sa : PySem.W.findIn K (.ref C) "__setattr__" = some (some (.builtin "object.__setattr__"))
structure Con (K : PySem.W.Frag) (C : Addr) (f : Str) (v : V) (u : Value) : Prop where
 at_ : PySem.W.findIn K (.ref C) f = some (some u)
 rel : J7 v u
 get : PySem.W.specialIn K u "__get__" = some none
 cp : PySem.W.copiedNames.contains f = false
structure Meth (K : PySem.W.Frag) (C : Addr) (m : Str) (f : Addr) : Prop where
 at_ : PySem.W.findIn K (.ref C) m = some (some (.ref f))
 fn : PySem.W.isFn K (.ref f) = true
 kp : PySem.W.keepIn K (.ref f) = true
section
variable {X : Cx} {pins : PNS} {σ : St} {H : Hp} {s : Shared} {a C dx : Addr} {fs : List (Str × V)} {f : Str} {v : V} {A : Around} {E : VSP}
end
section
variable {X : Cx} {o e value : Expr} {f : Str} {pos pos' tpos : Pos} {ta tv : TE}
end
section
variable {X : Cx} {pins : PNS} {σ : St} {H : Hp} {s : Shared} {A : Around} {E : VSP} {Q : VSP} {c : Value} {b : Bool}
inductive bG9 (K : PySem.W.Frag) (H : Hp) : V → Value → Prop where
 | non : bG9 K H .non (.type "NoneType")
 | bl (x : Bool) : bG9 K H (.bl x) (.type "bool")
 | int (i : Int) : bG9 K H (.int i) (.type "int")
 | str (x : Str) : bG9 K H (.str x) (.type "str")
 | flt (x : UInt64) : bG9 K H (.flt x) (.type "float")
 | lst {a : Addr} {xs : List V} (e : H a = some (.lst xs)) : bG9 K H (.ref a) (.type "list")
 | frz {a : Addr} {o : Obj} {xs : List V} (e : H a = some (.frz o (.lst xs))) : bG9 K H (.ref a) (.type "list")
 | tup {a : Addr} {xs : List V} (e : H a = some (.tup xs)) : bG9 K H (.ref a) (.type "tuple")
 | dK {a : Addr} {kvs : List (Key × V)} (e : H a = some (.dK kvs)) : bG9 K H (.ref a) (.type "dict")
 | dT {a : Addr} {kvs : List (List Key × V)} (e : H a = some (.dT kvs)) : bG9 K H (.ref a) (.type "dict")
 | ins {a C dx : Addr} {fs : List (Str × V)} (e : H a = some (.ins C dx fs)) (cl : Cls K C) (ha : PySem.W.findIn K (.ref C) "__class__" = some (some (.builtin "object.__class__")))
    (hn : PySem.W.specialIn K (.builtin "object.__class__") "__get__" = some (some (.builtin "getset_descriptor.__get__"))) (htk : PySem.W.takesIn K (.builtin "object.__class__") = some true)
    (hm : PySem.W.mroIn K C (.type "object") = some true) : bG9 K H (.ref a) (.ref C)
end
structure aH0 (k : Nat) (A : Around) : Prop where
 hd : A.handled = none
 dp : A.depth + 3 * k + 5 < recursionLimit
 un : A.units + 16 * k + 200 < cLine
theorem aH0.mono {j k : Nat} {A : Around} (r : aH0 k A) (h : j ≤ k) : aH0 j A := ⟨r.hd, by have := r.dp; lia, by have := r.un; lia⟩
theorem aH0.deeper {k : Nat} {A : Around} (r : aH0 (k + 1) A) (env : Env) : aH0 k (A.deeper env) :=
 ⟨r.hd, by have := r.dp; show A.depth + 1 + 3 * k + 5 < _; lia, by have := r.un; show A.units + 3 + 16 * k + 200 < _; lia⟩
theorem aH0.depth {k : Nat} {A : Around} (r : aH0 k A) : A.depth < recursionLimit := by have := r.dp; lia
theorem aH0.units {k : Nat} {A : Around} (r : aH0 k A) : A.units + 64 < cLine := by have := r.un; lia
noncomputable def dT8 : TA := fun _ H Q => Q [] H
noncomputable def dU7 (ta : TE) (tr : TA) : TA := fun σ H Q => ta σ H fun x H1 => tr σ H1 fun xs H2 => Q (x :: xs) H2
section
variable {X : Cx} {e : Expr} {es : List Expr} {te : TE} {t : TA} {pos : Pos}
theorem dL9 : PA X [] dT8 := fun _ _ _ _ H Q I h => Calls.spliced_nil ⟨[], H, I, .nil, h⟩
theorem dD0 (ha : PE X e te) (hr : PA X es t) (hs : starEach (e :: es) X.env = (false, eval e X.env) :: starEach es X.env) : PA X (e :: es) (dU7 te t) := by
 intro pos pins s σ H Q I h
 rw [hs]
 show wpAny _ _ (spliced ((false, eval e X.env) :: backTo pos (starEach es X.env))) _ _ s
 refine Calls.spliced_cons (thn (ha pins s σ H _ I h) fun u s1 hE1 => hE1.elim fun x H1 I1 r1 q1 => ?_)
 exact thn (hr pos pins s1 σ H1 _ I1 q1) fun us s2 hE1 => hE1.elim fun xs H2 I2 r2 q2 => ⟨x :: xs, H2, I2, .cons r1 r2, q2⟩
def eF2 (t : TA) : TE := fun σ H Q => t σ H fun xs H1 => xs.length ≤ sizeLine ∧ ∀ p, H1 p = none → Q (.ref p) (upd H1 p (.tup xs))
def eD1 (t : TA) : TE := fun σ H Q => t σ H fun xs H1 => xs.length ≤ sizeLine ∧ ∀ p, H1 p = none → Q (.ref p) (upd H1 p (.lst xs))
theorem dS5 {x1} (h : PA X es t) : PE X (.Tuple es x1 pos) (eF2 t) := by
 intro pins s σ H Q I hq
 refine wpAny_Tuple_spliced (thn (h pos pins s σ H _ I hq) fun us s1 ⟨xs, H1, I1, r, z, q⟩ => ⟨by rw [← r.length]; exact z, ?_⟩)
 have hf : H1 s1.heap.objs.size = none := I1.hok.fresh (Nat.le_refl _)
 refine ⟨.ref s1.heap.objs.size, upd H1 s1.heap.objs.size (.tup xs), I1.laid (t' := s1.toks) (fun b u e => Heap.get?_push_of_some _ e) (Nat.le_refl _) ?_, rfl, q _ hf⟩
 exact ⟨z, us, r, ⟨_, Heap.get?_push_size _ rfl, rfl, _, rfl⟩⟩
theorem dS7 (h : PA X es t) : PE X (.List es pos) (eD1 t) := by
 intro pins s σ H Q I hq
 refine wpAny_List_spliced (thn (h pos pins s σ H _ I hq) fun us s1 ⟨xs, H1, I1, r, z, q⟩ => ⟨by rw [← r.length]; exact z, ?_⟩)
 have hf : H1 s1.heap.objs.size = none := I1.hok.fresh (Nat.le_refl _)
 refine ⟨.ref s1.heap.objs.size, upd H1 s1.heap.objs.size (.lst xs), I1.laid (t' := s1.toks) (fun b u e => Heap.get?_push_of_some _ e) (Nat.le_refl _) ?_, rfl, q _ hf⟩
 exact ⟨z, us, 0, r, Heap.get?_push_size _ rfl⟩
end
noncomputable abbrev Sp := List V → Hp → VK → XK → Prop
noncomputable abbrev CXT := List Env → Hp → Shared → XK → VSP
structure dD5 (P : Program) (w : World) (K : PySem.W.Frag) (mg : Str → Option Value) (base : Heap) (A : Around) (outer : List Env) (s : Shared) (H : Hp) : Prop where
 frames : A.frames = some outer
 mod : Mod K mg base
 bs : ∀ b o, base.get? b = some o → s.heap.get? b = some o ∧ H b = none
 bsz : base.objs.size ≤ s.heap.objs.size
 funs : s.heap.FunFrames base outer
 frf : ∀ b ∈ frs outer, H b = none
 hok : HOk P w H s.heap
 bare : AllBare s.gens
def CE (outer : List Env) (P : Program) (w : World) (H : Hp) (s : Shared) (Q : VK) (u : Value) (s' : Shared) : Prop :=
 ∃ v H', s'.os = s.os ∧ AllBare s'.gens ∧ Un (frs outer) [] H H' s.heap s'.heap ∧ HOk P w H' s'.heap ∧ J7 v u ∧ Q v H'
def CR (CX : CXT) (outer : List Env) (P : Program) (w : World) (H : Hp) (s : Shared) (Q : VK) (E : XK) (r : Result) (s' : Shared) : Prop :=
 match r with
 | .ok (.ret u) => CE outer P w H s Q u s'
 | .ok _ => False
 | .error e => CX outer H s E e s'
structure J9 (P : Program) (w : World) (K : PySem.W.Frag) (mg : Str → Option Value) (base : Heap) (CX : CXT) (k : Nat) (f : Addr) (fd : FuncData) (ps : List Str) (sp : Sp) : Prop where
 len : ∀ vs H Q E, sp vs H Q E → vs.length = ps.length
 run : ∀ (A : Around) (outer : List Env) (s : Shared) (H : Hp) (args : Args) (us : List Value) (vs : List V) (Q : VK) (E : XK), aH0 k A → dD5 P w K mg base A outer s H → BindsTo s fd args (ps.zip us) → w6 vs us → sp vs H Q E →
  codeAny (model P w) A (.call (.ref f) args) (CR CX outer P w H s Q E) s
theorem J9.imp {P : Program} {w : World} {K : PySem.W.Frag} {mg : Str → Option Value} {base : Heap} {CX : CXT} {k : Nat} {f : Addr} {fd : FuncData} {ps : List Str} {sp sp' : Sp} (F : J9 P w K mg base CX k f fd ps sp)
 (h : ∀ vs H Q E, sp' vs H Q E → sp vs H Q E) : J9 P w K mg base CX k f fd ps sp' :=
 ⟨fun vs H Q E q => F.len vs H Q E (h _ _ _ _ q), fun A outer s H args us vs Q E hr he hb hv hs => F.run A outer s H args us vs Q E hr he hb hv (h _ _ _ _ hs)⟩
section
variable {X : Cx} {pins : PNS} {σ : St} {H : Hp} {s s' : Shared}
theorem Inv.env0 (I : Inv X pins σ H s) : dD5 X.prog X.w X.K X.mg X.base X.A X.stack s H :=
 ⟨I.ok.frames, I.ok.mod, I.bs, Nat.le_trans I.ok.bsz I.sz, I.stack, I.stkFree, I.hok, I.bare⟩
theorem Inv.after {Q : VK} {u : Value} (I : Inv X pins σ H s) (h : CE X.stack X.prog X.w H s Q u s') : EP X pins σ Q u s' := by
 obtain ⟨v, H', os, bare, un, hok, r, q⟩ := h
 obtain ⟨hh, g, d, t, os'⟩ := s'
 obtain rfl : os' = s.os := os
 exact ⟨v, H', I.call (h' := hh) (g' := g) (d' := d) (t' := t) (ch := []) un hok bare (fun b z => absurd z (by simp)), r, q⟩
end
noncomputable def dK0 (sp : Sp) (dvs : List V) (E : XK) (t : TA) : TE := fun σ H Q => t σ H fun vs H1 => sp (vs ++ dvs) H1 Q E
noncomputable def aV4 (K : PySem.W.Frag) (fd : FuncData) (ps : List Str) (ds : List Value) : Prop :=
 ∀ (s : Shared) (us : List Value), K.In s.heap → (us ++ ds).length = ps.length → BindsTo s fd ⟨us, []⟩ (ps.zip (us ++ ds))
theorem aV4.all {K : PySem.W.Frag} {fd : FuncData} {ps : List Str} (h : ∀ us : List Value, us.length = ps.length → bindArgs fd ⟨us, []⟩ = pure (ps.zip us)) : aV4 K fd ps [] := fun s us _ hl => by
 rw [List.append_nil] at hl ⊢
 exact .of_eq (h us hl)
noncomputable def bR9 (CX : CXT) (X : Cx) (E : XK) : Prop := ∀ (pins : PNS) (σ : St) (H : Hp) (s : Shared) (e : Value) (s' : Shared), Inv X pins σ H s → CX X.stack H s E e s' → X.xe e s'
section
variable {X : Cx} {CX : CXT} {k : Nat} {f C : Addr} {fd : FuncData} {ps : List Str} {sp : Sp} {dvs : List V} {ds : List Value} {E : XK} {x m : Str} {p pos apos : Pos} {e o : Expr} {es : List Expr} {ta : TE} {t : TA}
theorem dA8 {pins : PNS} {σ : St} {H : Hp} {s : Shared} {Q : VK} {us : List Value} {vs : List V} (F : J9 X.prog X.w X.K X.mg X.base CX k f fd ps sp) (hr : aH0 k X.A) (hb : aV4 X.K fd ps ds) (hd : w6 dvs ds) (hx : bR9 CX X E)
 (I : Inv X pins σ H s) (r : w6 vs us) (h : sp (vs ++ dvs) H Q E) : wpAny (model X.prog X.w) X.A (call (.ref f) us) (EP X pins σ Q) X.xe s := by
 have r2 : w6 (vs ++ dvs) (us ++ ds) := r.append hd
 have hl : (us ++ ds).length = ps.length := by rw [← r2.length]; exact F.len _ _ _ _ h
 refine wpAny_call (codeAny_mono (F.run X.A X.stack s H ⟨us, []⟩ (us ++ ds) (vs ++ dvs) Q E hr I.env0 (hb s us I.kIn hl) r2 h) fun r s' hq => ?_)
 rcases r with e | fl
 · exact hx pins σ H s e s' I hq
 ·
   rcases fl with _ | _ | _ | u
   · exact False.elim hq
   · exact False.elim hq
   · exact False.elim hq
   · exact I.after hq
theorem dE0 (F : J9 X.prog X.w X.K X.mg X.base CX k f fd ps sp) (hr : aH0 k X.A) (hg : Gl X x) (hm : X.mg x = some (.ref f)) (hk : PySem.W.keepIn X.K (.ref f) = true) (hb : aV4 X.K fd ps ds) (hd : w6 dvs ds) (hx : bR9 CX X E)
 (ha : PA X (e :: es) t) (hdb : (x == ("__debug__" : Str)) = false) (he : starEach (e :: es) X.env = (false, eval e X.env) :: starEach es X.env) (hpl : (backTo pos (starEach es X.env)).any (·.1) = false) :
 PE X (.Call (.Name x p) (e :: es) [] pos) (dK0 sp dvs E t) := by
 intro pins s σ H Q I h
 refine wpAny_Call_Name_kw (bQ7 I hg hm ?_ hdb)
 refine PySem.W.callWith_K (h₀ := X.base) I.ok.mod.kin hk (thn (ha pos pins s σ H _ I h) fun us s1 hE1 => hE1.elim fun vs H1 I1 r q => ⟨I1.kIn, ?_⟩) he hpl
 exact dA8 F hr hb hd hx I1 r q
theorem cZ5 (F : J9 X.prog X.w X.K X.mg X.base CX k f fd ps sp) (hr : aH0 k X.A) (hg : Gl X x) (hm : X.mg x = some (.ref f)) (hk : PySem.W.keepIn X.K (.ref f) = true) (hb : aV4 X.K fd ps ds) (hd : w6 dvs ds) (hx : bR9 CX X E)
 (hdb : (x == ("__debug__" : Str)) = false) : PE X (.Call (.Name x p) [] [] pos) (dK0 sp dvs E dT8) := by
 intro pins s σ H Q I h
 refine wpAny_Call_Name_kw (bQ7 I hg hm ?_ hdb)
 exact PySem.W.callWith_K0 I.kIn hk (dA8 (us := []) F hr hb hd hx I .nil h)
structure Mk (K : PySem.W.Frag) (C f : Addr) : Prop where
 makes : PySem.W.makesIn K C = true
 init : PySem.W.findIn K (.ref C) "__init__" = some (some (.ref f))
 fn : PySem.W.isFn K (.ref f) = true
 kp : PySem.W.keepIn K (.ref C) = true
end
section
variable {X : Cx} {CX : CXT} {k : Nat} {f C : Addr} {fd : FuncData} {ps ks : List Str} {sp : Sp} {E : XK} {x m : Str} {p pos apos kpos : Pos} {e o : Expr} {es : List Expr} {kws : List Keyword} {te ta : TE} {t tk : TA} {nm : Option Str}
structure KBinds (K : PySem.W.Frag) (fd : FuncData) (ps ks : List Str) (g : List Value → List Value → List Value) (gV : List V → List V → List V) : Prop where
 to : ∀ (s : Shared) (us ws : List Value), K.In s.heap → (g us ws).length = ps.length → BindsTo s fd ⟨us, ks.zip ws⟩ (ps.zip (g us ws))
 rel : ∀ {vs : List V} {us : List Value} {zs : List V} {ws : List Value}, w6 vs us → w6 zs ws → w6 (gV vs zs) (g us ws)
variable {g : List Value → List Value → List Value} {gV : List V → List V → List V}
end
structure m8 (N P : List Str) (sc : Scope) : Prop where
 kind : sc.kind = .function
 co : sc.isCoroutine = false
 gen : sc.isGenerator = false
 nd : N.Nodup
 pre : N.take P.length = P
 par : ∀ x ∈ P, sc.names.lookup x = some .local ∨ sc.names.lookup x = some .cell
 nofree : ∀ y ∈ sc.names, y.2 ≠ .free
theorem bO8 {kindOf : Str → Option NameKind} {x : Str} : ∀ {binds : List (Str × Value)} {m : Str → Option Value}, (∀ v, (x, v) ∉ binds) → bindL kindOf binds m x = m x
 | [], _, _ => rfl
 | (n, v) :: r, m, h => by
  unfold bindL
  rw [bO8 fun w hw => h w (List.mem_cons_of_mem _ hw)]
  split
  · have : x ≠ n := by rintro rfl; exact h v List.mem_cons_self
    simp [this]
  · rfl
theorem bL9 {kindOf : Str → Option NameKind} {x : Str} : ∀ {binds : List (Str × Value)} {m : Str → Option Value}, (∀ v, (x, v) ∉ binds) → bindC kindOf binds m x = m x
 | [], _, _ => rfl
 | (n, v) :: r, m, h => by
  unfold bindC
  rw [bL9 fun w hw => h w (List.mem_cons_of_mem _ hw)]
  split
  · rfl
  · have : x ≠ n := by rintro rfl; exact h v List.mem_cons_self
    simp [this]
theorem bN3 {kindOf : Str → Option NameKind} {x : Str} {v : Value} : ∀ {P : List Str} {vs : List Value} {i : Nat} {m : Str → Option Value}, P.Nodup → P[i]? = some x → vs[i]? = some v → kindOf x = some .local →
 bindL kindOf (P.zip vs) m x = some v
 | [], _, _, _, _, h, _, _ => by simp at h
 | _ :: _, [], _, _, _, _, h, _ => by simp at h
 | p :: P, w :: vs, 0, m, nd, h1, h2, hk => by
   simp at h1 h2; subst h1; subst h2
   show bindL kindOf ((p, w) :: P.zip vs) m p = _
   unfold bindL
   rw [bO8 fun v hv => (List.nodup_cons.mp nd).1 (List.of_mem_zip hv).1, if_pos hk]
   simp
 | p :: P, w :: vs, i + 1, m, nd, h1, h2, hk => by
   show bindL kindOf ((p, w) :: P.zip vs) m x = _
   unfold bindL
   exact bN3 (i := i) (List.nodup_cons.mp nd).2 (by simpa using h1) (by simpa using h2) hk
theorem bM4 {kindOf : Str → Option NameKind} {x : Str} {v : Value} : ∀ {P : List Str} {vs : List Value} {i : Nat} {m : Str → Option Value}, P.Nodup → P[i]? = some x → vs[i]? = some v → kindOf x ≠ some .local →
 bindC kindOf (P.zip vs) m x = some v
 | [], _, _, _, _, h, _, _ => by simp at h
 | _ :: _, [], _, _, _, _, h, _ => by simp at h
 | p :: P, w :: vs, 0, m, nd, h1, h2, hk => by
   simp at h1 h2; subst h1; subst h2
   show bindC kindOf ((p, w) :: P.zip vs) m p = _
   unfold bindC
   rw [bL9 fun v hv => (List.nodup_cons.mp nd).1 (List.of_mem_zip hv).1, if_neg hk]
   simp
 | p :: P, w :: vs, i + 1, m, nd, h1, h2, hk => by
   show bindC kindOf ((p, w) :: P.zip vs) m x = _
   unfold bindC
   exact bM4 (i := i) (List.nodup_cons.mp nd).2 (by simpa using h1) (by simpa using h2) hk
noncomputable def start (N : List Str) (vs : List V) : St := vs.map some ++ List.replicate (N.length - vs.length) none
noncomputable def cF5 (CX : CXT) (P : Program) (w : World) (K : PySem.W.Frag) (mg : Str → Option Value) (base : Heap) (N : List Str) (qual : Str) (scope : Scope) (f : Addr) (cd : Value) (A : Around) (outer : List Env) (s : Shared) (H : Hp) (E : XK) : Cx where
 prog := P
 w := w
 K := K
 mg := mg
 base := base
 A := A.deeper (envOfC qual scope s.heap.objs.size f cd)
 N := N
 s₀ := s
 H₀ := H
 env := envOfC qual scope s.heap.objs.size f cd
 outer := outer
 stack := envOfC qual scope s.heap.objs.size f cd :: outer
 ex := []
 calm := true
 fn := fun _ => true
 pn := []
 xe := fun e s' => wpAny (model P w) (A.deeper (envOfC qual scope s.heap.objs.size f cd)) (leaving (envOfC qual scope s.heap.objs.size f cd) e) (fun _ s'' => CX outer H s E e s'') (fun e' s'' => CX outer H s E e' s'') s'
theorem bZ0 {sc : Scope} {n : Nat} {x : Str} (h : sc.names.lookup x = some .cell) : ∃ c, (cellsFrom n sc.names []).lookup x = some c := by
 have q := PySem.W.cellsFrom_some sc.names n [] (.inl h)
 exact Option.isSome_iff_exists.mp q
theorem cM7 {CX : CXT} {P : Program} {w : World} {K : PySem.W.Frag} {mg : Str → Option Value} {base : Heap} {N ps : List Str} {qual : Str} {scope : Scope} {f : Addr} {cd : Value} {A : Around} {outer : List Env} {s s1 : Shared} {H : Hp} {E : XK} {us : List Value} {vs : List V}
 (S : m8 N ps scope) (hd : A.handled = none) (e0 : dD5 P w K mg base A outer s H) (hl : vs.length = ps.length) (r : w6 vs us)
 (x : InCallC s s.heap.objs.size (bindL (envOfC qual scope s.heap.objs.size f cd).kindOf (ps.zip us) fun _ => none) (cellsFrom (s.heap.objs.size + 1) scope.names []) (bindC (envOfC qual scope s.heap.objs.size f cd).kindOf (ps.zip us) fun _ => none) s1) :
 Inv (cF5 CX P w K mg base N qual scope f cd A outer s H E) [] (start N vs) H s1 := by
 have hpl : ps.length ≤ N.length := by have := congrArg List.length S.pre; rw [List.length_take] at this; lia
 obtain ⟨h1, tk, rfl, hk⟩ := x.done
 have noA : ∀ b : Addr, b ∉ (cF5 CX P w K mg base N qual scope f cd A outer s H E).ex := fun b z => absurd (show b ∈ ([] : List Addr) from z) (by simp)
 refine ⟨⟨e0.mod, S.kind, rfl, rfl, Nat.le_refl _, fun y z c h1 h2 => ?_, fun y hy => ?_, fun y c _ h => ?_, fun _ => hd, Around.frames_deeper e0.frames, .inr ⟨rfl, rfl⟩, fun b z => absurd z (noA b), e0.bs, e0.bsz, fun b _ _ => noA b, fun b z => absurd z (noA b), e0.funs, e0.frf⟩,
  rfl, e0.bare, Un.kept hk, ⟨_, x.toInCall.ns, fun i y v h1 h2 h3 => ?_⟩, fun y c h => ⟨_, x.cell y c h⟩, e0.hok.fresh (Nat.le_refl _), fun y c h => ?_, fun p hp => absurd (show p ∈ ([] : PNS) from hp) (by simp), e0.hok.kept hk, ?_⟩
 · exact name_of_addr x.apart (PySem.mem_of_lookup h1) (PySem.mem_of_lookup h2)
 · have hy : scope.names.lookup y = some .cell ∨ scope.names.lookup y = some .free := hy
   rcases hy with hy | hy
   · exact bZ0 hy
   · exact absurd rfl (S.nofree _ (PySem.mem_of_lookup hy))
 · exact Nat.le_of_lt (x.above y c (PySem.mem_of_lookup h))
 · have hi : i < vs.length := by
    unfold start at h2
    by_cases hi : i < vs.length
    · exact hi
    · rw [List.getElem?_append_right (by simpa using hi)] at h2
      rw [List.getElem?_replicate] at h2
      split at h2 <;> cases h2
   have ha : vs[i]? = some v := by
    unfold start at h2
    rw [List.getElem?_append_left (by simpa using hi), List.getElem?_map] at h2
    rcases e : vs[i]? with _ | a
    · rw [e] at h2; cases h2
    · rw [e] at h2; cases h2; rfl
   obtain ⟨u, hu, rv⟩ := r.get ha
   have hp : ps[i]? = some y := by
    rw [← S.pre, List.getElem?_take_of_lt (by lia)]; exact h1
   have ndP : ps.Nodup := by rw [← S.pre]; exact S.nd.sublist (List.take_sublist _ _)
   refine ⟨u, rv, ?_⟩
   rcases S.par y (List.mem_of_getElem? hp) with k | k
   · exact .inl ⟨k, bN3 ndP hp hu k⟩
   · obtain ⟨c, e⟩ := bZ0 (n := s.heap.objs.size + 1) k
     refine .inr ⟨.inl k, c, e, ?_⟩
     have q := x.cell y c e
     rw [bM4 ndP hp hu (by show scope.names.lookup y ≠ _; rw [k]; decide)] at q
     exact q
 · exact e0.hok.fresh (Nat.le_of_lt (x.above y c (PySem.mem_of_lookup h)))
 · unfold start
   show _ = N.length
   rw [List.length_append, List.length_map, List.length_replicate]
   lia
theorem dY7 {CX : CXT} {P : Program} {w : World} {K : PySem.W.Frag} {mg : Str → Option Value} {base : Heap} {k : Nat} {f : Addr} {name qual : Str} {params : Arguments} {body : List Stmt} {scope : Scope} {dV kV doc pm cdv ct oc : Value} {an od : Option Addr}
 {osl : Array (Option Value)} {N ps : List Str} {sp : Sp} (lk : K.lookup f = some ⟨oc, od, .func (PySem.W.fnOf name qual params body scope dV kV doc pm an cdv ct), osl⟩) (hcd : PySem.W.codeIn K cdv qual = true) (S : m8 N ps scope)
 (len : ∀ vs H Q E, sp vs H Q E → vs.length = ps.length)
 (hbody : ∀ (A : Around) (outer : List Env) (s : Shared) (H : Hp) (vs : List V) (Q : VK) (E : XK), aH0 k (A.deeper (envOfC qual scope s.heap.objs.size f cdv)) → sp vs H Q E →
   ∃ t, PSs (cF5 CX P w K mg base N qual scope f cdv A outer s H E) body t ∧ t { nx := fun _ H' => Q .non H', rt := Q } (start N vs) H) :
 J9 P w K mg base CX (k + 1) f (PySem.W.fnOf name qual params body scope dV kV doc pm an cdv ct) ps sp := by
 refine ⟨len, fun A outer s H args us vs Q E hr e0 hb r hsp => ?_⟩
 have hl := len _ _ _ _ hsp
 have KX : K.In s.heap := e0.mod.kin.keeps fun b o e => (e0.bs b o e).1
 have lim : s.heap.NoLimit := e0.mod.nolimit.keeps fun b o e => (e0.bs b o e).1
 have hkind : ∀ y ∈ ps.zip us, scope.names.lookup y.1 = some .local ∨ (scope.names.lookup y.1 = some .cell ∧ ((cellsFrom (s.heap.objs.size + 1) scope.names []).lookup y.1).isSome = true) := fun ⟨n, v⟩ hy => by
  rcases S.par n (List.of_mem_zip hy).1 with q | q
  · exact .inl q
  · exact .inr ⟨q, PySem.W.cellsFrom_some _ _ _ (.inl q)⟩
 refine codeAny_call_function hr.depth (KX _ _ lk) rfl S.co S.gen rfl (PySem.W.codeRec_of KX hcd) (hb _ _ _ _ ?_)
 refine wpAny_newFunctionEnv_cells S.kind hkind fun env he s1 x => ?_
 subst he
 refine ⟨lim.keeps x.toInCall.keep, codeAny_func ?_⟩
 obtain ⟨t, ht, hq⟩ := hbody A outer s H vs Q E (hr.deeper _) hsp
 have I : Inv (cF5 CX P w K mg base N qual scope f cdv A outer s H E) [] (start N vs) H s1 := cM7 S hr.hd e0 hl r x
 refine wpAny_mono (ht [] s1 (start N vs) H _ I hq) (fun fl s' hs => ?_) fun e s' hs => hs
 have fin : ∀ {σ' : St} {H' : Hp} {v : V} {u : Value}, Inv (cF5 CX P w K mg base N qual scope f cdv A outer s H E) [] σ' H' s' → J7 v u → Q v H' → CE outer P w H s Q u s' :=
  fun {σ' H' v u} J rv q => ⟨v, H', J.os, J.bare, J.base, J.hok, rv, q⟩
 rcases fl with _ | _ | _ | u
 ·
   obtain ⟨σ', H', J, q⟩ := hs
   exact fin (v := V.non) (u := Value.none) J rfl q
 ·
   obtain ⟨_, _, _, q⟩ := hs
   exact False.elim q
 ·
   obtain ⟨_, _, _, q⟩ := hs
   exact False.elim q
 ·
   obtain ⟨v, σ', H', J, rv, q⟩ := hs
   exact fin J rv q
section
variable {X : Cx} {x : Str} {p pos : Pos} {e : Expr} {es : List Expr} {t : TA} {id T : String} {r : List V → Hp → VK → Prop}
noncomputable def tCB (r : List V → Hp → VK → Prop) (t : TA) : TE := fun σ H Q => t σ H fun vs H1 => r vs H1 Q
theorem cY2 (hc : Z8 X (.builtin id) r) (hg : Gl X x) (hm : X.mg x = none) (hv : bootBuiltins x = some (.builtin id)) (ha : PA X (e :: es) t) (hn : x ≠ "__name__") (hdb : (x == ("__debug__" : Str)) = false)
 (he : starEach (e :: es) X.env = (false, eval e X.env) :: starEach es X.env) (hpl : (backTo pos (starEach es X.env)).any (·.1) = false) : PE X (.Call (.Name x p) (e :: es) [] pos) (tCB r t) := by
 intro pins s σ H Q I h
 refine wpAny_Call_Name_kw (aO4 I hg hm hv ?_ hn hdb)
 exact PyProof.Rows.callWith_builtin1 (thn (ha pos pins s σ H _ I h) fun us s1 hE1 => hE1.elim fun vs H1 I1 r1 q1 => hc pins s1 σ H1 vs us Q I1 r1 q1) he hpl
theorem cQ2 (hc : Z8 X (.type T) r) (hg : Gl X x) (hm : X.mg x = none) (hv : bootBuiltins x = some (.type T)) (ha : PA X (e :: es) t) (hn : x ≠ "__name__") (hdb : (x == ("__debug__" : Str)) = false)
 (he : starEach (e :: es) X.env = (false, eval e X.env) :: starEach es X.env) (hpl : (backTo pos (starEach es X.env)).any (·.1) = false) : PE X (.Call (.Name x p) (e :: es) [] pos) (tCB r t) := by
 intro pins s σ H Q I h
 refine wpAny_Call_Name_kw (aO4 I hg hm hv ?_ hn hdb)
 exact PyProof.Rows.callWith_type1 (thn (ha pos pins s σ H _ I h) fun us s1 hE1 => hE1.elim fun vs H1 I1 r1 q1 => hc pins s1 σ H1 vs us Q I1 r1 q1) he hpl
end
end L2
namespace HT
open PySem PyProof.Rows
section
open PySem.SeqAt
open PySem.AutoSeq1 (wpAny_loadPart')
open PySem.MeetsSeq PySem.MeetsSeq2 PySem.MeetsSeq3
end
section
variable {prog : Program} {w : World} {A : Around} {E : VSP} {s : Shared}
theorem cat_tup {t b : Addr} {vs ws : List Value} {Q : VSP} (ht : IsTup s.heap t vs.toArray) (hb : IsTup s.heap b ws.toArray) (hv : vs ≠ [])
 (h1 : ws = [] → Q (.ref t) s) (h2 : ws ≠ [] → Q (.ref s.heap.objs.size) { s with heap := s.heap.push { cls := .type "tuple", data := .seq (vs ++ ws).toArray } })
 (hsz : vs.length + ws.length ≤ sizeLine) : wpAny (model prog w) A (binaryOp .Add (.ref t) (.ref b)) Q E s := by
 obtain ⟨⟨cls, dd, data, sl⟩, ho, hc, n, hd⟩ := id ht
 obtain ⟨⟨cls2, dd2, data2, sl2⟩, ho2, hc2, n2, hd2⟩ := id hb
 simp only at hc hd hc2 hd2
 subst hc hd hc2 hd2
 have e : vs.toArray ++ ws.toArray = (vs ++ ws).toArray := by simp
 by_cases hw : ws = []
 · exact concat_meets ⟨_, ho, rfl⟩ ⟨_, ho2, rfl⟩ noFill_tuple_add seq_tuple_add PySem.F.slot_tuple_add PySem.F.entry_tuple_add (PySem.F.args_tuple_add_2 _ _)
    (tuple_addW1 t b vs.toArray ws.toArray n n2 dd dd2 sl sl2 (by simpa using hv) (by simp [hw])) ⟨ho, ho2, h1 hw⟩
 · refine concat_meets ⟨_, ho, rfl⟩ ⟨_, ho2, rfl⟩ noFill_tuple_add seq_tuple_add PySem.F.slot_tuple_add PySem.F.entry_tuple_add (PySem.F.args_tuple_add_2 _ _)
    (tuple_addW2 t b vs.toArray ws.toArray n n2 dd dd2 sl sl2 (by simpa using hv) (by simpa using hw) (by rw [List.size_toArray, List.size_toArray]; exact hsz)) ⟨ho, ho2, ?_⟩
   rw [e]
   exact h2 hw
noncomputable def sIx (n d : Nat) : Option Int → Nat
 | none => d
 | some v => if v < 0 then (v + (n : Int)).toNat else min v.toNat n
theorem sIx_none (n d : Nat) : sIx n d none = d := rfl
theorem sIx_nat (n d k : Nat) : sIx n d (some (k : Int)) = min k n := by
 show (if (k : Int) < 0 then ((k : Int) + (n : Int)).toNat else min (k : Int).toNat n) = min k n
 rw [if_neg (by lia), Int.toNat_natCast]
theorem dS2 (n d : Nat) (hd : d ≤ n) (o : Option Int) : sIx n d o ≤ n := by
 rcases o with _ | v
 · exact hd
 ·
   show (if v < 0 then (v + (n : Int)).toNat else min v.toNat n) ≤ n
   by_cases hv : v < 0
   · rw [if_pos hv]; lia
   · rw [if_neg hv]; exact Nat.min_le_right _ _
theorem cH0 (v : Int) (n d : Nat) : (if v < 0 then max (v + (n : Int)) 0 else min v (n : Int)) = ((sIx n d (some v) : Nat) : Int) := by
 show (if v < 0 then max (v + (n : Int)) 0 else min v (n : Int)) = (((if v < 0 then (v + (n : Int)).toNat else min v.toNat n) : Nat) : Int)
 by_cases hv : v < 0
 · simp only [if_pos hv]; lia
 · simp only [if_neg hv]; lia
theorem cF9 (lo hi : Option Int) (n : Nat) : Builtin.Slice.sliceAdjust lo hi 1 (n : Int) = (((sIx n 0 lo : Nat) : Int), ((sIx n n hi : Nat) : Int)) := by
 have h1 : ¬ ((1 : Int) < 0) := by lia
 unfold Builtin.Slice.sliceAdjust
 simp only [h1, if_false]
 refine Prod.ext ?_ ?_
 · rcases lo with _ | v
   · rfl
   · exact cH0 v n 0
 · rcases hi with _ | v
   · rfl
   · exact cH0 v n n
theorem cG0 (i j : Nat) : Builtin.Slice.slicePlaces (i : Int) (j : Int) 1 = j - i := by
 unfold Builtin.Slice.slicePlaces
 have h1 : (1 : Int) > 0 := by lia
 simp only [h1, if_true, Int.ediv_one]
 split <;> lia
theorem bJ2 {v : Value} {o : Option Int} {Q : Option Int → Shared → Prop} (p : IsPart v o) (h : Q o s) : wpAny (model prog w) A (Builtin.Slice.slicePartIndex v) Q E s := by
 cases p with
 | none => exact slicePart_none h
 | int i t => exact slicePart_int h
theorem sliceApplied_gen {sl : Addr} {vl vu : Value} {lo hi : Option Int} {n : Nat} {Q : Int × Int × Nat → Shared → Prop} (hs : s.heap.IsSliceOf sl vl vu .none) (pl : IsPart vl lo) (pu : IsPart vu hi)
 (h : Q (((sIx n 0 lo : Nat) : Int), 1, sIx n n hi - sIx n 0 lo) s) : wpAny (model prog w) A (Builtin.Slice.sliceApplied (.ref sl) (pure (n : Int))) Q E s := by
 obtain ⟨os, hos, hcs, hds⟩ := id hs
 unfold Builtin.Slice.sliceApplied Builtin.Slice.sliceFields
 refine wpAny_bind (wpAny_bind (wpAny_field hos hds (x := vl) rfl (wpAny_bind (wpAny_field hos hds (x := vu) rfl (wpAny_bind (wpAny_field hos hds (x := .none) rfl (wpAny_pure ?_)))))))
 refine wpAny_bind (slicePart_none ?_)
 show wpAny _ _ (if ((1 : Int) == 0) = true then _ else _) _ _ s
 rw [if_neg (by decide)]
 refine wpAny_bind (bJ2 pl (wpAny_bind (bJ2 pu (wpAny_bind (wpAny_pure ?_)))))
 show wpAny _ _ (match Builtin.Slice.sliceAdjust lo hi 1 (n : Int) with | (lo, hi) => pure (lo, (1 : Int), Builtin.Slice.slicePlaces lo hi 1)) _ _ s
 rw [cF9 lo hi n]
 show wpAny _ _ (pure (((sIx n 0 lo : Nat) : Int), (1 : Int), Builtin.Slice.slicePlaces ((sIx n 0 lo : Nat) : Int) ((sIx n n hi : Nat) : Int) 1)) _ _ s
 rw [cG0]
 exact wpAny_pure h
theorem cZ6 (xs : Array Value) (i k : Nat) : ((List.range k).filterMap fun (m : Nat) => xs[((i : Int) + (m : Int) * 1).toNat]?).toArray = ((xs.toList.drop i).take k).toArray := by
 have e : (fun (m : Nat) => xs[((i : Int) + (m : Int) * 1).toNat]?) = fun m => xs[i + m]? := by
  funext m
  have : ((i : Int) + (m : Int) * 1).toNat = i + m := by lia
  rw [this]
 rw [e]
 have := pick_run xs i k
 rw [List.filterMap_map] at this
 have e2 : ((fun x => xs[x]?) ∘ fun x => i + x) = fun m => xs[i + m]? := rfl
 rw [e2] at this
 rw [this]
theorem getItem_tuple_cut {t sl : Addr} {items : Array Value} {vl vu : Value} {lo hi : Option Int} {Q : VSP} (ht : IsTup s.heap t items) (hs : s.heap.IsSliceOf sl vl vu .none) (pl : IsPart vl lo) (pu : IsPart vu hi)
 (hw : ¬ (sIx items.size 0 lo = 0 ∧ sIx items.size items.size hi = items.size))
 (h : Q (.ref s.heap.objs.size) { s with heap := s.heap.push { cls := .type "tuple", data := .seq ((items.toList.drop (sIx items.size 0 lo)).take (sIx items.size items.size hi - sIx items.size 0 lo)).toArray } })
 (hsz : items.size ≤ sizeLine) : wpAny (model prog w) A (getItem (.ref t) (.ref sl)) Q E s := by
 have htake : sizeOk (.seq ((items.toList.drop (sIx items.size 0 lo)).take (sIx items.size items.size hi - sIx items.size 0 lo)).toArray) := by
  show ((items.toList.drop (sIx items.size 0 lo)).take (sIx items.size items.size hi - sIx items.size 0 lo)).toArray.size ≤ sizeLine
  rw [List.size_toArray, List.length_take, List.length_drop, Array.length_toList]
  lia
 have hj : sIx items.size items.size hi ≤ items.size := dS2 _ _ (Nat.le_refl _) hi
 obtain ⟨os, hos, hcs, hds⟩ := id hs
 have hTs : s.TypeIs (.ref sl) "slice" := ⟨os, hos, hcs⟩
 unfold getItem
 try with_reducible refine wpAny_holding ?_
 first | refine wpAny_bind (wpAny_pure ?_) | skip
 refine wpAny_bind (wpAny_sequenceKey ht.typeIs (by decide) ?_)
 refine wpAny_bind (wpAny_callSpecial?_slot (name := Str.ofString "__getitem__") ht.typeIs PyProof.Rows.slot_tuple_getitem
  (wpAny_call_entry PyProof.Rows.slot_tuple_getitem ht.typeIs entry_tuple_getitem ?_ (args_tuple_getitem _ _)))
 show wpAny _ _ (Builtin.Tuple.tupleItemsOf (.ref t) >>= _) _ _ s
 refine wpAny_bind (tupleItemsOf_ ht ?_)
 refine wpAny_bind (wpAny_typeOf hTs ?_)
 rw [if_pos (by decide)]
 refine wpAny_bind (sliceApplied_gen hs pl pu ?_)
 have hno : ¬ ((((sIx items.size 0 lo : Nat) : Int) == 0 && (1 : Int) == 1 && (sIx items.size items.size hi - sIx items.size 0 lo) == items.size) = true) := by
  intro q
  rw [Bool.and_eq_true, Bool.and_eq_true] at q
  have q1 : ((sIx items.size 0 lo : Nat) : Int) = 0 := eq_of_beq q.1.1
  have q2 : sIx items.size items.size hi - sIx items.size 0 lo = items.size := eq_of_beq q.2
  exact hw ⟨by lia, by lia⟩
 show wpAny _ _ (if (((sIx items.size 0 lo : Nat) : Int) == 0 && (1 : Int) == 1 && (sIx items.size items.size hi - sIx items.size 0 lo) == items.size) = true then _ else _) _ _ s
 rw [if_neg hno, cZ6]
 first
  | exact wpAny_bind (m := Builtin.Tuple.tupleExact _) (wpAny_newObj_type (wpAny_pure ⟨_, rfl, wpAny_pure h⟩) htake)
  | exact wpAny_bind (m := Builtin.Tuple.tupleExact _) (wpAny_newObj_type (wpAny_bind (wpAny_pure (wpAny_pure ⟨_, rfl, wpAny_pure h⟩))) htake)
  | exact wpAny_bind (wpAny_bind (m := Builtin.Tuple.tupleExact _) (wpAny_newObj_type (wpAny_pure (wpAny_pure ⟨_, rfl, wpAny_pure h⟩)) htake))
  | exact wpAny_bind (wpAny_bind (m := Builtin.Tuple.tupleExact _) (wpAny_newObj_type (wpAny_pure ⟨_, rfl, wpAny_pure h⟩) htake))
end
end HT
namespace L2
open PySem PySem.Spec PyProof.Rows
noncomputable abbrev TO := St → Hp → (Option Int → Hp → Prop) → Prop
noncomputable def PO (X : Cx) (e : Option Expr) (t : TO) : Prop :=
 ∀ (pins : PNS) (s : Shared) (σ : St) (H : Hp) (Q : Option Int → Hp → Prop), Inv X pins σ H s → t σ H Q →
  wpAny (model X.prog X.w) X.A (evalPart e X.env) (fun u s' => ∃ o H', Inv X pins σ H' s' ∧ IsPart u o ∧ Q o H') X.xe s
noncomputable def dD6 : TO := fun _ H Q => Q none H
noncomputable def dW3 (t : TE) : TO := fun σ H Q => t σ H fun x H1 => ∃ i, x = .int i ∧ Q (some i) H1
section
variable {X : Cx} {e : Expr} {te : TE} {lo hi : Option Expr} {tl th : TO} {pos p2 : Pos}
theorem dE6 : PO X none dD6 := by
 intro pins s σ H Q I h
 rw [evalPart_none]
 exact wpAny_pure ⟨none, H, I, .none, h⟩
theorem dH8 (h : PE X e te) : PO X (some e) (dW3 te) := by
 intro pins s σ H Q I hw
 rw [evalPart_some]
 refine thn (h pins s σ H _ I hw) fun u s1 hE1 => hE1.elim fun x H1 I1 r1 q1 => ?_
 obtain ⟨i, rfl, q⟩ := q1
 obtain ⟨t, rfl⟩ := r1
 exact ⟨some i, H1, I1, .int i t, q⟩
def SlR (X : Cx) (r : V → Option Int → Option Int → Hp → VK → Prop) : Prop :=
 ∀ (pins : PNS) (s : Shared) (σ : St) (H : Hp) (x : V) (v vl vu : Value) (lo hi : Option Int) (sl : Addr) (Q : VK), Inv X pins σ H s → J7 x v → s.heap.IsSliceOf sl vl vu .none → IsPart vl lo → IsPart vu hi → r x lo hi H Q →
  ∃ T id, typeLookup (.type T) "__getitem__" = pure (some (.builtin id)) ∧ s.TypeIs v T ∧ wpAny (model X.prog X.w) X.A (getItem v (.ref sl)) (EP X pins σ Q) X.xe s
theorem SlR.or {r r' : V → Option Int → Option Int → Hp → VK → Prop} (h : SlR X r) (h' : SlR X r') : SlR X (fun x lo hi H Q => r x lo hi H Q ∨ r' x lo hi H Q) := by
 intro pins s σ H x v vl vu lo hi sl Q I rx hs pl pu q
 rcases q with q | q
 · exact h pins s σ H x v vl vu lo hi sl Q I rx hs pl pu q
 · exact h' pins s σ H x v vl vu lo hi sl Q I rx hs pl pu q
noncomputable def tSl (r : V → Option Int → Option Int → Hp → VK → Prop) (te : TE) (tl th : TO) : TE := fun σ H Q => te σ H fun x H1 => tl σ H1 fun l H2 => th σ H2 fun u H3 => r x l u H3 Q
theorem cX5 {r : V → Option Int → Option Int → Hp → VK → Prop} (hr : SlR X r) (he : PE X e te) (hl : PO X lo tl) (hu : PO X hi th) : PE X (.Subscript e (.Slice lo hi none p2) pos) (tSl r te tl th) := by
 intro pins s σ H Q I h
 refine Subscript_ (thn (he pins s σ H _ I h) fun v s1 hE1 => hE1.elim fun x H1 I1 r1 q1 => ?_)
 refine wpAny_Slice (thn (hl pins s1 σ H1 _ I1 q1) fun vl s2 ⟨l, H2, I2, pl, q2⟩ => thn (hu pins s2 σ H2 _ I2 q2) fun vu s3 ⟨u, H3, I3, pu, q3⟩ => ?_)
 rw [evalPart_none]
 refine wpAny_pure ?_
 have I4 : Inv X pins σ H3 { s3 with heap := s3.heap.push { cls := .type "slice", data := .fields #[vl, vu, .none] } } := I3.kept (t' := s3.toks) fun b ob q => Heap.get?_push_of_some _ q
 obtain ⟨T, id, hT, ht, hg⟩ := hr pins { s3 with heap := s3.heap.push { cls := .type "slice", data := .fields #[vl, vu, .none] } } σ H3 x v vl vu l u s3.heap.objs.size Q I4 r1 (Heap.IsSliceOf.new ..) pl pu q3
 show wpAny (model X.prog X.w) X.A (subscriptTail e (.Slice lo hi none p2) v (.ref s3.heap.objs.size)) (EP X pins σ Q) X.xe { s3 with heap := s3.heap.push { cls := .type "slice", data := .fields #[vl, vu, .none] } }
 exact tail_any (ops := [.ref s3.heap.objs.size, v]) ht hT hg (by with_unfolding_all rfl)
def bK6 (xs : List V) (lo hi : Option Int) : List V := (xs.drop (HT.sIx xs.length 0 lo)).take (HT.sIx xs.length xs.length hi - HT.sIx xs.length 0 lo)
theorem bC0 (xs : List V) (lo hi : Option Int) : (bK6 xs lo hi).length ≤ xs.length := by
 unfold bK6
 rw [List.length_take, List.length_drop]
 lia
def eG4 (K : PySem.W.Frag) : V → Option Int → Option Int → Hp → VK → Prop := fun x lo hi H Q => ∃ a xs, x = .ref a ∧ SqT K H a xs ∧
 ¬ (HT.sIx xs.length 0 lo = 0 ∧ HT.sIx xs.length xs.length hi = xs.length) ∧ ∀ p, H p = none → Q (.ref p) (upd H p (.tup (bK6 xs lo hi)))
theorem sl_tup : SlR X (eG4 X.K) := by
 intro pins s σ H x v vl vu lo hi sl Q I rx hs pl pu h
 obtain ⟨a, xs, rfl, hx, hw, q⟩ := h
 cases rx
 obtain ⟨its, r, ht, hz⟩ := I.tuple hx
 have hlen : its.toArray.size = xs.length := by rw [List.size_toArray]; exact r.length.symm
 refine ⟨"tuple", _, PyProof.Rows.slot_tuple_getitem.lookup, ht.typeIs, ?_⟩
 refine HT.getItem_tuple_cut ht hs pl pu (by rw [hlen]; exact hw) ?_ (by rw [hlen]; exact hz)
 rw [hlen]
 refine ⟨.ref s.heap.objs.size, _, I.laid (t' := s.toks) (o := .tup (bK6 xs lo hi)) (fun b ob q => Heap.get?_push_of_some _ q) (Nat.le_refl _) ?_, rfl, q _ (I.hok.fresh (Nat.le_refl _))⟩
 exact ⟨Nat.le_trans (bC0 xs lo hi) hz, _, (r.drop (HT.sIx xs.length 0 lo)).take (HT.sIx xs.length xs.length hi - HT.sIx xs.length 0 lo), aC3.new _ _⟩
def eA4 (K : PySem.W.Frag) : R2 := fun x y H Q => ∃ a b xs ys, x = .ref a ∧ y = .ref b ∧ SqT K H a xs ∧ SqT K H b ys ∧ xs ≠ [] ∧ xs.length + ys.length ≤ sizeLine ∧
 (ys = [] → Q (.ref a) H) ∧ (ys ≠ [] → ∀ p, H p = none → Q (.ref p) (upd H p (.tup (xs ++ ys))))
theorem w6.nil_iff {xs : List V} {us : List Value} (r : w6 xs us) : us = [] ↔ xs = [] := by
 rcases r with _ | ⟨_, _⟩
 · simp
 · simp
theorem dB8 : OpR X (binaryOp .Add) (eA4 X.K) := by
 intro pins s σ H x y v u Q I rx ry h
 obtain ⟨a, b, xs, ys, rfl, rfl, ha, hb, hx, hz, q1, q2⟩ := h
 cases rx
 cases ry
 obtain ⟨its, r1, p1, _⟩ := I.tuple ha
 obtain ⟨its2, r2, p2, _⟩ := I.tuple hb
 refine HT.cat_tup p1 p2 (fun z => hx (r1.nil_iff.mp z)) (fun z => ⟨.ref a, H, I, rfl, q1 (r2.nil_iff.mp z)⟩) (fun z => ?_) (by rw [← r1.length, ← r2.length]; exact hz)
 refine ⟨.ref s.heap.objs.size, _, I.laid (t' := s.toks) (o := .tup (xs ++ ys)) (fun b ob q => Heap.get?_push_of_some _ q) (Nat.le_refl _) ?_, rfl, q2 (fun w => z (r2.nil_iff.mpr w)) _ (I.hok.fresh (Nat.le_refl _))⟩
 exact ⟨by rw [List.length_append]; exact hz, _, r1.append r2, aC3.new _ _⟩
end
noncomputable def ixN (n : Nat) (i : Int) : Option Nat := if 0 ≤ i then (if i < n then some i.toNat else none) else if -(n : Int) ≤ i then some (i + n).toNat else none
def atI {α : Type} (xs : List α) (i : Int) : Option α := (ixN xs.length i).bind fun j => xs[j]?
theorem cK2 {n : Nat} {i : Int} {j : Nat} (h : ixN n i = some j) : seqIndex? i n = some j ∧ j < n ∧ -(n : Int) ≤ i ∧ i < n := by
 unfold ixN at h
 by_cases h0 : 0 ≤ i
 · rw [if_pos h0] at h
   by_cases h1 : i < n
   · rw [if_pos h1] at h
     have e : i.toNat = j := Option.some.inj h
     exact ⟨by rw [seqIndex_of h0 h1, e], by lia, by lia, h1⟩
   · rw [if_neg h1] at h; cases h
 · rw [if_neg h0] at h
   by_cases h1 : -(n : Int) ≤ i
   · rw [if_pos h1] at h
     have e : (i + n).toNat = j := Option.some.inj h
     exact ⟨by rw [seqIndex_neg (by lia) h1, e], by lia, h1, by lia⟩
   · rw [if_neg h1] at h; cases h
theorem bU6 {α : Type} {xs : List α} {i : Int} {v : α} (h : atI xs i = some v) : ∃ j, seqIndex? i xs.length = some j ∧ xs[j]? = some v ∧ j < xs.length ∧ -(xs.length : Int) ≤ i ∧ i < xs.length := by
 unfold atI at h
 rcases e : ixN xs.length i with _ | j
 · rw [e] at h; cases h
 ·
   rw [e] at h
   obtain ⟨h1, h2, h3, h4⟩ := cK2 e
   exact ⟨j, h1, h, h2, h3, h4⟩
theorem atI_nat {α : Type} {xs : List α} {j : Nat} {v : α} (h : xs[j]? = some v) : atI xs (j : Int) = some v := by
 have hj : j < xs.length := (List.getElem?_eq_some_iff.mp h).1
 have e : ixN xs.length (j : Int) = some j := by
  unfold ixN
  rw [if_pos (by lia), if_pos (by lia)]; simp
 unfold atI; rw [e]; exact h
theorem atI_last {α : Type} (xs : List α) (v : α) : atI (xs ++ [v]) (-1) = some v := by
 have hl : (xs ++ [v]).length = xs.length + 1 := by simp
 have e : ixN (xs ++ [v]).length (-1) = some xs.length := by
  unfold ixN
  rw [hl, if_neg (by decide), if_pos (by lia)]
  congr 1
  lia
 unfold atI
 rw [e]
 show (xs ++ [v])[xs.length]? = some v
 simp
noncomputable def bP4 (b : Expr) : Prop := ∀ o i, subscripted b false o i = operate [o, i] (getItem o i)
def IxR (X : Cx) (r : R2) : Prop :=
 ∀ (value slice : Expr) (pins : PNS) (s : Shared) (σ : St) (H : Hp) (x y : V) (v u : Value) (Q : VK), Inv X pins σ H s → J7 x v → J7 y u → r x y H Q →
  subscripted slice false v u = operate [v, u] (getItem v u) → wpAny (model X.prog X.w) X.A (subscriptTail value slice v u) (EP X pins σ Q) X.xe s
def MtR (X : Cx) (id : String) (r : V → List V → Hp → VK → Prop) : Prop :=
 ∀ (pins : PNS) (s : Shared) (σ : St) (H : Hp) (x : V) (xs : List V) (v : Value) (us : List Value) (Q : VK), Inv X pins σ H s → J7 x v → w6 xs us → r x xs H Q →
  wpAny (model X.prog X.w) X.A (call (.builtin id) (v :: us)) (EP X pins σ Q) X.xe s
section
variable {X : Cx} {a b : Expr} {ta tb : TE} {pos : Pos}
theorem IxR.or {r r' : R2} (h : IxR X r) (h' : IxR X r') : IxR X (fun x y H Q => r x y H Q ∨ r' x y H Q) := by
 intro value slice pins s σ H x y v u Q I rx ry q hs
 rcases q with q | q
 · exact h value slice pins s σ H x y v u Q I rx ry q hs
 · exact h' value slice pins s σ H x y v u Q I rx ry q hs
theorem dW6 {r : R2} (hr : IxR X r) (ha : PE X a ta) (hb : PE X b tb) (hs : bP4 b) : PE X (.Subscript a b pos) (tOp r ta tb) := by
 intro pins s σ H Q I h
 exact Subscript_ (dR6 ha hb I h fun v u s2 x y H2 I2 rx ry q => hr a b pins s2 σ H2 x y v u Q I2 rx ry q (hs _ _))
def eE9 (K : PySem.W.Frag) : R2 := fun x y H Q => ∃ p xs i v, x = .ref p ∧ y = .int i ∧ SqL K H p xs ∧ atI xs i = some v ∧ Q v H
def eE1 (K : PySem.W.Frag) : R2 := fun x y H Q => ∃ p xs i v, x = .ref p ∧ y = .int i ∧ SqT K H p xs ∧ atI xs i = some v ∧ Q v H
def eE8 : R2 := fun x y H Q => ∃ z i c, x = .str z ∧ y = .int i ∧ z.length ≤ sizeLine ∧ atI z.cps.toList i = some c ∧ Q (.str ⟨#[c]⟩) H
theorem dI6 : IxR X (eE9 X.K) := by
 intro value slice pins s σ H x y v u Q I rx ry h hs
 obtain ⟨p, xs, i, z, rfl, rfl, hq, he, q⟩ := h
 cases rx
 obtain ⟨t, rfl⟩ := ry
 obtain ⟨its, r, pl, hz⟩ := I.list hq
 obtain ⟨j, h1, h2, h3, h4, h5⟩ := bU6 he
 obtain ⟨w, ew, rw'⟩ := r.get h2
 have hl := r.length
 have hn := aU4
 have fin : EP X pins σ Q w s := ⟨z, H, I, rw', q⟩
 by_cases h0 : 0 ≤ i
 · have hj : i.toNat = j := by
    rw [seqIndex_of h0 h5] at h1
    exact Option.some.inj h1
   exact item_listR pl.isList h0 (by lia) (by rw [hj]; simpa using ew) fin hs
 · have hj : (i + (its.toArray.size : Int)).toNat = j := by
    rw [seqIndex_neg (by lia) h4] at h1
    rw [List.size_toArray, ← hl]
    exact Option.some.inj h1
   exact subscriptTail_builtinR (x := w) pl.isList.typeIs slot_list_getitem.lookup
    (wpAny_getItem_list_neg (Q := fun r s' => r = w ∧ EP X pins σ Q r s') pl.isList (by lia) (by rw [List.size_toArray] <;> lia) (by lia) (by rw [hj]; simpa using ew) ⟨rfl, fin⟩) hs
theorem ix_tup : IxR X (eE1 X.K) := by
 intro value slice pins s σ H x y v u Q I rx ry h hs
 obtain ⟨p, xs, i, z, rfl, rfl, hq, he, q⟩ := h
 cases rx
 obtain ⟨t, rfl⟩ := ry
 obtain ⟨its, r, pl, hz⟩ := I.tuple hq
 obtain ⟨j, h1, h2, h3, h4, h5⟩ := bU6 he
 obtain ⟨w, ew, rw'⟩ := r.get h2
 have hl := r.length
 have hn := aU4
 have fin : EP X pins σ Q w s := ⟨z, H, I, rw', q⟩
 exact subscriptTail_builtinR (x := w) pl.typeIs slot_tuple_getitem.lookup
  (getItem_tuple (j := j) (Q := fun r s' => r = w ∧ EP X pins σ Q r s') pl (by lia) (by lia) (by rw [List.size_toArray, ← hl]; exact h1) (by simpa using ew) ⟨rfl, fin⟩) hs
theorem ix_str : IxR X eE8 := by
 intro value slice pins s σ H x y v u Q I rx ry h hs
 obtain ⟨z, i, c, rfl, rfl, hz, he, q⟩ := h
 obtain ⟨t, rfl⟩ := rx
 obtain ⟨t', rfl⟩ := ry
 obtain ⟨j, h1, h2, h3, h4, h5⟩ := bU6 he
 have hl : z.cps.toList.length = z.length := by simp [Str.length]
 rw [hl] at h1 h4 h5
 have hn := aU4
 exact tail_any (typeIs_str s z t) slot_str_getitem.lookup (getItem_str (c := c) (by
  have e1 : decide (i < -(2 ^ 63 : Int)) = false := decide_eq_false (by lia)
  have e2 : decide (i ≥ 2 ^ 63) = false := decide_eq_false (by lia)
  rw [e1, e2, Bool.or_false]) (by rw [h1]; simpa using h2) ⟨.str ⟨#[c]⟩, H, I.tok _, ⟨_, rfl⟩, q⟩) hs
theorem cF6 (its : List Value) (n j : Nat) (u : Value) : Obj.mapSeq (·.setIfInBounds j u) { cls := .type "list", data := .seq its.toArray n } = { cls := .type "list", data := .seq (its.set j u).toArray n } := by
 simp [Obj.mapSeq]
theorem Inv.lst {pins : PNS} {σ : St} {H : Hp} {s : Shared} {p : Addr} {xs : List V} (I : Inv X pins σ H s) (h : H p = some (.lst xs)) :
 ∃ (its : List Value) (n : Nat), w6 xs its ∧ s.heap.get? p = some { cls := .type "list", data := .seq its.toArray n } ∧ xs.length ≤ sizeLine := by
 obtain ⟨z, its, n, r, e⟩ := I.hok p _ h
 exact ⟨its, n, r, e, z⟩
theorem Inv.lstUpd {pins : PNS} {σ : St} {H : Hp} {s : Shared} {p : Addr} {xs ys : List V} {its its' : List Value} {n n' : Nat} {f : Obj → Obj} (I : Inv X pins σ H s) (h : H p = some (.lst xs))
 (ho : s.heap.get? p = some { cls := .type "list", data := .seq its.toArray n }) (hf : f { cls := .type "list", data := .seq its.toArray n } = { cls := .type "list", data := .seq its'.toArray n' }) (r : w6 ys its') (hz : ys.length ≤ sizeLine) (t : Nat) :
 Inv X pins σ (upd H p (.lst ys)) { s with heap := s.heap.update p f, toks := t } := by
 have e : (s.heap.update p f).get? p = some { cls := .type "list", data := .seq its'.toArray n' } := by
  rw [Heap.get?_update_self f ho (by rw [hf] <;> rfl), hf]
 refine I.write (x := p) (e := p) (by rw [h]; trivial) (.inl rfl) (fun b u hb q => (Heap.get?_update_other _ _ (Ne.symm hb)).trans q) ⟨_, e⟩ ?_
 exact ⟨hz, its', n', r, e⟩
def dX3 : V → V → V → Hp → (Hp → Prop) → Prop := fun o i v H Q => ∃ p xs k j, o = .ref p ∧ i = .int k ∧ H p = some (.lst xs) ∧ ixN xs.length k = some j ∧ Q (upd H p (.lst (xs.set j v)))
theorem cU6 : dT1 X dX3 := by
 intro pins s σ H o i v ov iv u Q I ro ri rv h
 obtain ⟨p, xs, k, j, rfl, rfl, hp, hj, q⟩ := h
 cases ro
 obtain ⟨t, rfl⟩ := ri
 obtain ⟨its, n, r, ho, hz⟩ := I.lst hp
 obtain ⟨h1, h2, h3, h4⟩ := cK2 hj
 have hl := r.length
 have hn := aU4
 have I' : Inv X pins σ (upd H p (.lst (xs.set j v))) { s with heap := s.heap.update p (Obj.mapSeq (·.setIfInBounds j u)) } :=
  I.lstUpd hp ho (cF6 its n j u) (r.set rv j) (by rw [List.length_set]; exact hz) s.toks
 by_cases h0 : 0 ≤ k
 · have hk : k.toNat = j := by
    rw [seqIndex_of h0 h4] at h1
    exact Option.some.inj h1
   exact PySem.W.ki_setAt ho h0 (by lia) (by rw [List.size_toArray, ← hl]; exact h4) (by rw [hk]; exact ⟨_, I', q⟩)
 · have hk : (k + (its.toArray.size : Int)).toNat = j := by
    rw [seqIndex_neg (by lia) h3] at h1
    rw [List.size_toArray, ← hl]
    exact Option.some.inj h1
   exact PySem.W.ki_setBack ho (by lia) (by rw [List.size_toArray, ← hl]; exact h3) (by lia) (by rw [hk]; exact ⟨_, I', q⟩)
theorem bS0 (lo hi : Option Int) (n : Nat) : (sliceBounds lo hi none n).1 = ((HT.sIx n 0 lo : Nat) : Int) ∧ (sliceBounds lo hi none n).2.1 = ((HT.sIx n n hi : Nat) : Int) ∧ (sliceBounds lo hi none n).2.2 = 1 := by
 refine ⟨?_, ?_, rfl⟩
 · rcases lo with _ | i
   · simp [sliceBounds, HT.sIx]
   ·
     simp only [sliceBounds, HT.sIx, Option.getD_none, show (1 : Int) > 0 by decide, if_true]
     by_cases h : i < 0
     · simp only [h, if_true] <;> lia
     · simp only [h, if_false] <;> lia
 · rcases hi with _ | i
   · simp [sliceBounds, HT.sIx]
   ·
     simp only [sliceBounds, HT.sIx, Option.getD_none, show (1 : Int) > 0 by decide, if_true]
     by_cases h : i < 0
     · simp only [h, if_true] <;> lia
     · simp only [h, if_false] <;> lia
theorem bK3 (its : List Value) (lo hi : Option Int) : slicePick its.toArray lo hi none = ((its.drop (HT.sIx its.length 0 lo)).take (HT.sIx its.length its.length hi - HT.sIx its.length 0 lo)).toArray := by
 obtain ⟨h1, h2, h3⟩ := bS0 lo hi its.toArray.size
 unfold slicePick
 rw [h1, h2, h3]
 simp only [sliceRange_one, pick_run, List.size_toArray] <;> rfl
def eG9 (K : PySem.W.Frag) : V → Option Int → Option Int → Hp → VK → Prop := fun x lo hi H Q => ∃ a xs, x = .ref a ∧ SqL K H a xs ∧ ∀ p, H p = none → Q (.ref p) (upd H p (.lst (bK6 xs lo hi)))
theorem dH0 : SlR X (eG9 X.K) := by
 intro pins s σ H x v vl vu lo hi sl Q I rx hs pl pu h
 obtain ⟨a, xs, rfl, hx, q⟩ := h
 cases rx
 obtain ⟨its, r, ht, hz⟩ := I.list hx
 have hlen := r.length
 refine ⟨"list", _, slot_list_getitem.lookup, ht.isList.typeIs, ?_⟩
 refine wpAny_getItem_list_slice ht.isList hs pl pu .none (by simp) ?_ (by rw [List.size_toArray] <;> lia)
 rw [bK3, ← hlen]
 refine ⟨.ref s.heap.objs.size, _, I.laid (t' := s.toks) (o := .lst (bK6 xs lo hi)) (fun b ob q => Heap.get?_push_of_some _ q) (Nat.le_refl _) ?_, rfl, q _ (I.hok.fresh (Nat.le_refl _))⟩
 exact ⟨Nat.le_trans (bC0 xs lo hi) hz, _, 0, (r.drop (HT.sIx xs.length 0 lo)).take (HT.sIx xs.length xs.length hi - HT.sIx xs.length 0 lo), Heap.get?_push_size _ rfl⟩
theorem bU4 : Z8 X (.builtin "len") (fun xs H Q => ∃ p ys, xs = [.ref p] ∧ (SqL X.K H p ys ∨ SqT X.K H p ys) ∧ Q (.int ys.length) H) := by
 intro pins s σ H xs us Q I r h
 obtain ⟨p, ys, rfl, hq, q⟩ := h
 obtain ⟨u, rfl, rx⟩ := aM5 r
 cases rx
 have hn := aU4
 rcases hq with hq | hq
 · obtain ⟨its, r', pl, hz⟩ := I.list hq
   have hlen := r'.length
   exact Calls.call_len_list pl.isList (by simp only [List.size_toArray] <;> lia) ⟨.int ys.length, H, I.tok _, ⟨s.toks + 1, by rw [List.size_toArray, hlen]⟩, q⟩
 · obtain ⟨its, r', pl, hz⟩ := I.tuple hq
   have hlen := r'.length
   exact len_tuple pl (by simp only [List.size_toArray] <;> lia) ⟨.int ys.length, H, I.tok _, ⟨s.toks + 1, by rw [List.size_toArray, hlen]⟩, q⟩
theorem bQ2 : Z8 X (.builtin "len") (fun xs H Q => ∃ z, xs = [.str z] ∧ z.length ≤ sizeLine ∧ Q (.int z.length) H) := by
 intro pins s σ H xs us Q I r h
 obtain ⟨z, rfl, hz, q⟩ := h
 obtain ⟨u, rfl, t, rfl⟩ := aM5 r
 have hn := aU4
 exact len_str (by lia) ⟨.int z.length, H, I.tok _, ⟨_, rfl⟩, q⟩
theorem Z8.or {f : Value} {r r' : List V → Hp → VK → Prop} (h : Z8 X f r) (h' : Z8 X f r') : Z8 X f (fun xs H Q => r xs H Q ∨ r' xs H Q) := by
 intro pins s σ H xs us Q I rs q
 rcases q with q | q
 · exact h pins s σ H xs us Q I rs q
 · exact h' pins s σ H xs us Q I rs q
theorem bR7 : Z8 X (.type "list") (fun xs H Q => ∃ p ys, xs = [.ref p] ∧ (SqL X.K H p ys ∨ SqT X.K H p ys) ∧ ∀ l, H l = none → Q (.ref l) (upd H l (.lst ys))) := by
 intro pins s σ H xs us Q I r h
 obtain ⟨p, ys, rfl, hq, q⟩ := h
 obtain ⟨u, rfl, rx⟩ := aM5 r
 cases rx
 have fin : ∀ (its : List Value), w6 ys its → ys.length ≤ sizeLine → ∀ (h' : Heap) (c' : Nat), (∀ b o', s.heap.get? b = some o' → h'.get? b = some o') →
  h'.get? s.heap.objs.size = some { cls := .type "list", dict := none, data := .seq its.toArray c', slots := #[] } → EP X pins σ Q (.ref s.heap.objs.size) { s with heap := h' } := fun its r' hz h' c' kp e =>
  ⟨.ref s.heap.objs.size, _, I.laid (t' := s.toks) kp (Nat.le_refl _) (show R9 X.prog X.w _ h' _ (.lst ys) from ⟨hz, its, c', r', e⟩), rfl, q _ (I.hok.fresh (Nat.le_refl _))⟩
 rcases hq with hq | hq
 · obtain ⟨its, r', pl, hz⟩ := I.list hq
   have hlen := r'.length
   obtain ⟨o, ho, hc, n, hd⟩ := pl.isList
   exact call_list_seq p (.inl rfl) ho hc hd (fun h' c' kp e => fin its r' hz h' c' kp e) (by simp only [List.size_toArray] <;> lia)
 · obtain ⟨its, r', pl, hz⟩ := I.tuple hq
   have hlen := r'.length
   obtain ⟨o, ho, hc, n, hd⟩ := pl
   exact call_list_seq p (.inr rfl) ho hc hd (fun h' c' kp e => fin its r' hz h' c' kp e) (by simp only [List.size_toArray] <;> lia)
theorem bK2 : Z8 X (.type "tuple") (fun xs H Q => ∃ p ys, xs = [.ref p] ∧ ((SqL X.K H p ys ∧ ∀ l, H l = none → Q (.ref l) (upd H l (.tup ys))) ∨ (SqT X.K H p ys ∧ Q (.ref p) H))) := by
 intro pins s σ H xs us Q I r h
 obtain ⟨p, ys, rfl, h⟩ := h
 obtain ⟨u, rfl, rx⟩ := aM5 r
 cases rx
 rcases h with ⟨hq, q⟩ | ⟨hq, q⟩
 · obtain ⟨its, r', pl, hz⟩ := I.list hq
   have hlen := r'.length
   refine call_tuple_list pl.isList (fun h' kp => ?_) (by simp only [List.size_toArray] <;> lia)
   have I1 : Inv X pins σ H { s with heap := h' } := I.kept (t' := s.toks) kp
   have I2 : Inv X pins σ (upd H h'.objs.size (.tup ys)) { s with heap := h'.push { cls := .type "tuple", data := .seq its.toArray } } :=
    I1.laid (t' := s.toks) (fun b o e => Heap.get?_push_of_some _ e) (Nat.le_refl _) (show R9 X.prog X.w _ _ _ (.tup ys) from ⟨hz, its, r', aC3.new _ _⟩)
   exact ⟨.ref h'.objs.size, _, I2, rfl, q _ (I1.hok.fresh (Nat.le_refl _))⟩
 · obtain ⟨its, r', pl, hz⟩ := I.tuple hq
   exact call_tuple_same pl ⟨.ref p, H, I, rfl, q⟩
def tyV (K : PySem.W.Frag) (T : String) (x : V) (H : Hp) : Prop := match x with
 | .str _ => T = "str"
 | .int _ => T = "int"
 | .ref p => (T = "list" ∧ ∃ xs, SqL K H p xs) ∨ (T = "tuple" ∧ ∃ o, K.lookup p = some o ∧ o.cls = .type "tuple" ∧ o.dict = none) ∨
    (T = "dict" ∧ ((∃ kvs, H p = some (.dK kvs)) ∨ ∃ kvs, H p = some (.dT kvs))) ∨ (T = "set" ∧ ∃ S n, H p = some (.set S n))
 | _ => False
theorem cW4 {pins : PNS} {σ : St} {H : Hp} {s : Shared} {T : String} {x : V} {v : Value} (I : Inv X pins σ H s) (r : J7 x v) (ty : tyV X.K T x H) :
 s.TypeIs v T ∧ ∀ a, v = .ref a → ∃ ob, s.heap.get? a = some ob ∧ ob.dict = none := by
 rcases x with _ | _ | i | z | _ | _ | p | _ <;> try (exact False.elim ty; done)
 ·
   obtain ⟨t, rfl⟩ := r
   cases (show T = "int" from ty)
   exact ⟨typeIs_int s i t, fun _ e => nomatch e⟩
 ·
   obtain ⟨t, rfl⟩ := r
   cases (show T = "str" from ty)
   exact ⟨typeIs_str s z t, fun _ e => nomatch e⟩
 ·
   cases r
   rcases ty with ⟨rfl, xs, hq⟩ | ⟨rfl, o, hk, hc, hd⟩ | ⟨rfl, hk⟩ | ⟨rfl, S, n, hk⟩
   · obtain ⟨its, _, pl, _⟩ := I.list hq
     refine ⟨pl.isList.typeIs, fun a e => ?_⟩
     cases e
     obtain ⟨o, n, e, c, hd, _⟩ := pl
     exact ⟨o, e, hd⟩
   · refine ⟨⟨o, I.kIn p o hk, hc⟩, fun a e => ?_⟩
     cases e
     exact ⟨o, I.kIn _ o hk, hd⟩
   · have z : ∃ o, s.heap.get? p = some o ∧ o.ExactDict := by
      rcases hk with ⟨kvs, hk⟩ | ⟨kvs, hk⟩
      · obtain ⟨_, _, _, _, o, _, _, e, ex, _⟩ := I.hok p _ hk
        exact ⟨o, e, ex⟩
      · obtain ⟨_, _, _, _, o, _, _, e, ex, _⟩ := I.hok p _ hk
        exact ⟨o, e, ex⟩
     obtain ⟨o, e, ex⟩ := z
     refine ⟨⟨o, e, ex.1⟩, fun a e2 => ?_⟩
     cases e2
     exact ⟨o, e, ex.2.1⟩
   · obtain ⟨o, _, _, _, e, ex, _⟩ := I.hok p _ hk
     refine ⟨⟨o, e, ex.1⟩, fun a e2 => ?_⟩
     cases e2
     exact ⟨o, e, ex.2.1⟩
def eC4 (K : PySem.W.Frag) (T : String) (r : V → List V → Hp → VK → Prop) (to : TE) : TE := fun σ H Q => to σ H fun x H1 => tyV K T x H1 ∧ r x [] H1 Q
def tBM (K : PySem.W.Frag) (T : String) (r : V → List V → Hp → VK → Prop) (to : TE) (t : TA) : TE := fun σ H Q => to σ H fun x H1 => tyV K T x H1 ∧ t σ H1 fun xs H2 => r x xs H2 Q
variable {o e : Expr} {es : List Expr} {to : TE} {t : TA} {name : Str} {apos cpos : Pos} {T id : String} {r : V → List V → Hp → VK → Prop}
theorem dQ8 (pa : PlainAttrs T) (slot : Slot T name id) (hty : typeOf (.builtin id) = pure (.type "method_descriptor")) (hm : MtR X id r) (ho : PE X o to)
 (hbase : attributeBase o name X.env (eval o X.env) = eval o X.env) (hline : (apos.endLine == cpos.line) = true) : PE X (.Call (.Attribute o name apos) [] [] cpos) (eC4 X.K T r to) := by
 intro pins s σ H Q I h
 refine wpAny_Call_method0_late hbase hline (thn (ho pins s σ H _ I h) fun v s1 ⟨x, H1, I1, r1, ty, q1⟩ => ?_)
 obtain ⟨h1, h2⟩ := cW4 I1 r1 ty
 exact ⟨T, id, pa, slot, hty, h1, h2, Calls.callWith_builtin rfl (PySem.evalArgs_none (hm pins s1 σ H1 x [] v [] Q I1 r1 .nil q1))⟩
theorem eA6 (pa : PlainAttrs T) (slot : Slot T name id) (hty : typeOf (.builtin id) = pure (.type "method_descriptor")) (hm : MtR X id r) (ho : PE X o to) (ha : PA X (e :: es) t)
 (hbase : attributeBase o name X.env (eval o X.env) = eval o X.env)
 (hfew : ((backTo cpos (starEach (e :: es) X.env)).all (fun x => !x.1) && (backToKw cpos (keywordEach [] X.env)).all (fun x => x.1.isSome)
   && decide ((e :: es).length + ([] : List Keyword).length + (if ([] : List Keyword).isEmpty then 0 else 1) < 30)) = true)
 (hline : (apos.endLine == cpos.line) = true) (hs : starEach (e :: es) X.env = (false, eval e X.env) :: starEach es X.env) (hplain : (backTo cpos (starEach es X.env)).any (·.1) = false) :
 PE X (.Call (.Attribute o name apos) (e :: es) [] cpos) (tBM X.K T r to t) := by
 intro pins s σ H Q I h
 refine wpAny_Call_method_late hbase hfew hline rfl (thn (ho pins s σ H _ I h) fun v s1 ⟨x, H1, I1, r1, ty, q1⟩ => ?_)
 obtain ⟨h1, h2⟩ := cW4 I1 r1 ty
 refine ⟨T, id, pa, slot, hty, h1, h2, ?_⟩
 have hA := ha cpos pins s1 σ H1 _ I1 q1
 rw [hs] at hA ⊢
 refine Calls.callWith_builtin (by show (false || (backTo cpos (starEach es X.env)).any (·.1)) = false; rw [hplain] <;> rfl) (Calls.evalArgs_plain ?_)
 exact thn hA fun us s2 hE1 => hE1.elim fun vs H2 I2 r2 q2 => hm pins s2 σ H2 x vs v us Q I2 r1 r2 q2
end
def MtM (X : Cx) (id : String) (r : V → List V → Hp → VK → Prop) : Prop :=
 ∀ (pins : PNS) (s : Shared) (σ : St) (H : Hp) (x : V) (xs : List V) (v : Value) (us : List Value) (Q : VK), Inv X pins σ H s → J7 x v → w6 xs us → r x xs H Q →
  wpAny (model X.prog X.w) X.A (call (.builtin id) (v :: us)) (EP X pins σ Q) X.xe s
theorem w6.one {x : V} {us : List Value} (h : w6 [x] us) : ∃ u, us = [u] ∧ J7 x u := by
 cases h with
 | cons r t => cases t; exact ⟨_, rfl, r⟩
theorem w6.zero : ∀ {us : List Value}, w6 [] us → us = []
 | _, .nil => rfl
theorem w6.dropLast {xs : List V} {us : List Value} (h : w6 xs us) : w6 xs.dropLast us.dropLast := by
 induction h with
 | nil => exact .nil
 | cons r t ih =>
   rcases t with _ | ⟨q, t'⟩
   · exact .nil
   · exact .cons r ih
theorem cF2 {α : Type} (l : List α) : l.eraseIdx (l.length - 1) = l.dropLast := by
 induction l with
 | nil => rfl
 | cons a r ih =>
   rcases r with _ | ⟨b, r⟩
   · rfl
   ·
     have e : (a :: b :: r).length - 1 = ((b :: r).length - 1) + 1 := by
      have h1 : (a :: b :: r).length = r.length + 2 := rfl
      have h2 : (b :: r).length = r.length + 1 := rfl
      lia
     rw [e, List.eraseIdx_cons_succ, ih]
     all_goals rfl
section
variable {X : Cx} {pins : PNS} {σ : St} {H : Hp} {s : Shared} {l b : Addr} {xs ys zs : List V}
theorem Inv.lset {its its' : List Value} {n : Nat} {f : Array Value → Array Value} {t' : Nat} (I : Inv X pins σ H s) (hH : H l = some (.lst xs))
 (e : s.heap.get? l = some { cls := .type "list", data := .seq its.toArray n }) (hf : f its.toArray = its'.toArray) (hv : w6 ys its') (hz : ys.length ≤ sizeLine) :
 Inv X pins σ (upd H l (.lst ys)) { s with heap := s.heap.update l (Obj.mapSeq f), toks := t' } := by
 have q := PySem.IsL.update e f
 rw [hf] at q
 refine I.write (x := l) (e := l) (by rw [hH]; exact trivial) (.inl rfl) (fun b' u hb hu => (Heap.get?_update_other s.heap (Obj.mapSeq f) (Ne.symm hb)).trans hu) ⟨_, q⟩ ?_
 exact ⟨hz, its', _, hv, q⟩
theorem Inv.lnew {its : List Value} {t' : Nat} (I : Inv X pins σ H s) (hv : w6 ys its) (hz : ys.length ≤ sizeLine) :
 Inv X pins σ (upd H s.heap.objs.size (.lst ys)) { s with heap := s.heap.push { cls := .type "list", data := .seq its.toArray }, toks := t' } :=
 I.laid (fun _ _ q => Heap.get?_push_of_some _ q) (Nat.le_refl _) ⟨hz, its, 0, hv, Heap.get?_push_size _ rfl⟩
theorem Inv.fresh (I : Inv X pins σ H s) : H s.heap.objs.size = none := I.hok.fresh (Nat.le_refl _)
theorem Inv.lstM (I : Inv X pins σ H s) (hH : H l = some (.lst xs)) : xs.length ≤ sizeLine ∧ ∃ (its : List Value) (n : Nat), w6 xs its ∧ xs.length = its.length ∧ s.heap.get? l = some { cls := .type "list", data := .seq its.toArray n } := by
 obtain ⟨z, its, n, r, e⟩ := I.hok l _ hH
 exact ⟨z, its, n, r, r.length, e⟩
theorem cT3 {n : Nat} (h : n ≤ sizeLine) : Builtin.List.listTooLong n = false := by
 unfold Builtin.List.listTooLong
 exact decide_eq_false (by lia)
end
section
variable {X : Cx}
def dG6 : V → List V → Hp → VK → Prop := fun x vs H Q => ∃ l xs y, x = .ref l ∧ vs = [y] ∧ H l = some (.lst xs) ∧ xs.length < sizeLine ∧ Q .non (upd H l (.lst (xs ++ [y])))
theorem bP0 : MtM X "list.append" dG6 := by
 intro pins s σ H x vs v us Q I rx rv h
 obtain ⟨l, xs, y, rfl, rfl, hH, hz, q⟩ := h
 cases rx
 obtain ⟨u, rfl, ru⟩ := rv.one
 obtain ⟨z, its, n, r, hl, e⟩ := I.lstM hH
 refine call_meets F.slot_list_append ⟨_, e, rfl⟩ F.entry_list_append (F.args_list_append_2 _ _) (PySem.list_append l its.toArray n u (by rw [List.size_toArray]; lia)) ⟨e, ?_⟩
 refine ⟨.non, _, I.lset (its' := its ++ [u]) hH e (by simp) (r.append (.cons ru .nil)) ?_, rfl, q⟩
 rw [List.length_append, List.length_singleton]
 lia
def dB1 : V → List V → Hp → VK → Prop := fun x vs H Q => ∃ l b xs zs, x = .ref l ∧ vs = [.ref b] ∧ H l = some (.lst xs) ∧ H b = some (.lst zs) ∧ xs.length + zs.length ≤ sizeLine ∧ Q .non (upd H l (.lst (xs ++ zs)))
theorem cR7 : MtM X "list.extend" dB1 := by
 intro pins s σ H x vs v us Q I rx rv h
 obtain ⟨l, b, xs, zs, rfl, rfl, hH, hB, hz, q⟩ := h
 cases rx
 obtain ⟨u, rfl, ru⟩ := rv.one
 cases ru
 obtain ⟨z, its, n, r, hl, e⟩ := I.lstM hH
 obtain ⟨z2, its2, n2, r2, hl2, e2⟩ := I.lstM hB
 have hsz : its.toArray.size + its2.toArray.size ≤ sizeLine := by rw [List.size_toArray, List.size_toArray]; lia
 have hlong : ¬ (!its.toArray.isEmpty && Builtin.List.listTooLong (its.toArray.size + its2.toArray.size)) = true := by
  rw [cT3 hsz, Bool.and_false]
  exact Bool.false_ne_true
 refine call_meets F.slot_list_extend ⟨_, e, rfl⟩ F.entry_list_extend (F.args_list_extend_2 _ _)
  (AutoSeq1.list_extend_list_list_0 l its.toArray n b its2.toArray n2 hlong (by rw [List.size_toArray]; lia) (by lia)) ⟨e, e2, ?_⟩
 refine ⟨.non, _, I.lset (its' := its ++ its2) hH e (by simp) (r.append r2) ?_, rfl, q⟩
 rw [List.length_append]
 lia
def eD5 : V → List V → Hp → VK → Prop := fun x vs H Q => ∃ l xs y, x = .ref l ∧ vs = [] ∧ H l = some (.lst xs) ∧ xs[xs.length - 1]? = some y ∧ Q y (upd H l (.lst xs.dropLast))
theorem dO6 : MtM X "list.pop" eD5 := by
 intro pins s σ H x vs v us Q I rx rv h
 obtain ⟨l, xs, y, rfl, rfl, hH, hy, q⟩ := h
 cases rx
 have hus := rv.zero
 subst hus
 obtain ⟨z, its, n, r, hl, e⟩ := I.lstM hH
 obtain ⟨u, hu, ru⟩ := r.get hy
 have hy' : its.toArray[its.toArray.size - 1]? = some u := by
  show its.toArray[its.length - 1]? = some u
  rw [← Array.getElem?_toList, ← hl]
  exact hu
 refine call_meets F.slot_list_pop ⟨_, e, rfl⟩ F.entry_list_pop (F.args_list_pop_1 _) (MeetsSeq.list_pop_last l its.toArray n u hy' (by rw [List.size_toArray]; lia)) ⟨e, ?_⟩
 refine ⟨y, _, I.lset (its' := its.dropLast) hH e ?_ r.dropLast ?_, ru, q⟩
 · show its.toArray.eraseIdxIfInBounds (its.toArray.size - 1) = its.dropLast.toArray
   rw [List.size_toArray, List.eraseIdxIfInBounds_toArray, cF2]
 · rw [List.length_dropLast]
   lia
def eG2 : R2 := fun x y H Q => ∃ l b xs zs, x = .ref l ∧ y = .ref b ∧ H l = some (.lst xs) ∧ H b = some (.lst zs) ∧ xs.length + zs.length ≤ sizeLine ∧ ∀ p, H p = none → Q (.ref p) (upd H p (.lst (xs ++ zs)))
theorem dQ0 : OpR X (binaryOp .Add) eG2 := by
 intro pins s σ H x y v u Q I rx ry h
 obtain ⟨l, b, xs, zs, rfl, rfl, hH, hB, hz, q⟩ := h
 cases rx
 cases ry
 obtain ⟨z, its, n, r, hl, e⟩ := I.lstM hH
 obtain ⟨z2, its2, n2, r2, hl2, e2⟩ := I.lstM hB
 refine PySem.P.add_list e e2 ?_ (by rw [List.size_toArray, List.size_toArray]; lia)
 have ea : its.toArray ++ its2.toArray = (its ++ its2).toArray := by simp
 rw [ea]
 exact ⟨.ref _, _, I.lnew (t' := s.toks) (r.append r2) (by rw [List.length_append]; lia), rfl, q _ I.fresh⟩
end
section
variable {prog : Program} {w : World} {A : Around} {E : VSP} {s : Shared}
end
section
variable {X : Cx}
end
end L2
namespace Att
open PySem PySem.W PySem.Calls PyProof.Rows
theorem bD3 {P : Params} {h : Heap} : ∀ (ns : List Int) (vs : List Value), WellAll P h vs (ns.map WData.int) → IntsAre vs ns := by
 intro ns
 induction ns with
 | nil =>
   intro vs w
   rw [List.map_nil] at w
   cases w
   exact .nil
 | cons n ns ih =>
   intro vs w
   rw [List.map_cons] at w
   cases w with
   | cons a b =>
     cases a
     exact .cons _ _ (ih _ b)
theorem cQ7 {l : OpenLaw} {n : Nat} (hn : l.most = some n) {P : Params} {h : Heap} {args : List WData} {vals : List Value}
 (hpre : l.row.toRowW.claim.pre args = true) (hwl : WellAll P h vals args) :
 ∃ a vs ns, vals = [Value.ref a] ∧ args = [WData.list (ns.map WData.int)] ∧ h.get? a = some { cls := .type "list", data := .seq vs.toArray } ∧ IntsAre vs ns ∧ ns.length ≤ n := by
 have hsh : WShape.hasAll [] args [.list .int] = true := (pre_splitW hpre).1
 have hc : l.pre.holds [] { args := args } = true := (pre_splitW hpre).2
 obtain ⟨d, r, rfl, h1, h2⟩ := hasAllW_cons hsh
 obtain rfl := hasAllW_nil h2
 obtain ⟨xs, rfl, h3⟩ := hasW_list h1
 obtain ⟨ns, rfl⟩ := items_int h3
 have hlen : ns.length ≤ n := by
  unfold OpenLaw.pre at hc
  have h4 : (WTm.not (.lt (.lit (.int (n : Int))) (.len (.arg 0)))).holds [] { args := [.list (ns.map .int)] } = true := by
   have h4 := (holds_andW hc).1
   rw [hn] at h4
   exact h4
  have h5 := condW_of h4 (w_not (w_lt w_lit (w_len_list (w_arg rfl))))
  rw [List.length_map] at h5
  refine Nat.le_of_not_lt fun q => ?_
  have q' : (n : Int) < ((ns.length : Nat) : Int) := by lia
  first
   | (rw [decide_eq_true q'] at h5; exact absurd h5 (by decide))
   | (simp at h5; lia)
 cases hwl with
 | cons w1 w2 =>
   cases w2
   cases w1 with
   | list ho hall => exact ⟨_, _, ns, rfl, rfl, ho, bD3 ns _ hall, hlen⟩
theorem cN4 (l : OpenLaw) (args : List WData) : l.row.toRowW.claim.post args (.bool true) args = true :=
 postW_of (r := l.row.toRowW) (X := (true == true))
  (show WShape.has [] (.bool true) .bool = true by first | rfl | decide | simp [WShape.has, WShape.arms, WShape.armsAll])
  (show (WTm.eq .res (.lit (.bool true))).value [] { args := args, res := some (.bool true), after := args } = some (.bool (true == true)) from w_eq_bool (w_res rfl) w_lit) rfl
theorem attach_call {l : OpenLaw} {n : Nat} {q : Program} {loose : List Str} {XP : (Str → Option Value) → Heap → Prop} {YP : World → Heap → Prop} {d : DefRec}
 (hn : l.most = some n) (hdf : d.params.defaults = [])
 (call : ∀ (w : World) (s₀ s₁ : Shared) (mg mb : Str → Option Value) (fa : Addr) (o : Obj) (pm cd doc : Value) (a : Addr) (vs : List Value) (ns : List Int),
   Ground q loose [] XP w s₀ mg mb s₁.heap → YP w s₁.heap →
   s₁.heap.get? fa = some o → o.data = .func (docDef d.name d.params d.body d.scope pm cd doc) → s₁.heap.CodeRec cd d.name → mg d.name = some (.ref fa) →
   s₁.heap.get? a = some { cls := .type "list", data := .seq vs.toArray } → IntsAre vs ns → ns.length ≤ n → s₁.gens = #[] →
   codeAny (model l.prog w) callerA (.call (.ref fa) ⟨[.ref a], []⟩) (fun r s' => r = .ok (.ret (.bool true)) ∧ OldK s₁.heap s'.heap ∧ s'.os = s₁.os ∧ AllBare s'.gens) s₁) :
 WalkO q loose XP YP l.row.toRowW d [] (fun f vs => PySem.call f vs) := by
 intro w s₀ s₁ mg mb G Y fa o pm cd doc dV kV ho hd hcd hD hmg hg args vals as hpre hlay hrd hwl hlo
 obtain rfl : dV = .none := Dflts.none hD hdf
 obtain rfl : kV = .none := Dflts.noKw hD
 obtain ⟨a, vs, ns, rfl, rfl, hobj, hints, hlen⟩ := cQ7 hn hpre hwl
 refine enter_call (codeAny_mono (call w s₀ s₁ mg mb fa o pm cd doc a vs ns G Y ho (fd_plain hd) hcd hmg hobj hints hlen hg) fun r s' hq => ?_)
 obtain ⟨rfl, h2, h3, h4⟩ := hq
 exact ⟨.inl ⟨.bool true, .bool true, [], rfl, fun _ => rfl, .bool true, cN4 l _, fun _ => ⟨List.Pairwise.nil, fun _ hm => (nomatch hm)⟩⟩, h2, h3, h4⟩
section
variable {prog : Program} {w : World} {A : Around} {E : VSP} {s : Shared} {K : Frag}
end
end Att
namespace L2
open PySem PySem.Spec PyProof.Rows
theorem bN1 : ∀ {vs : List Value} {ns : List Int}, IntsAre vs ns → w6 (ns.map V.int) vs
 | _, _, .nil => .nil
 | _, _, .cons n t h => .cons ⟨t, rfl⟩ (bN1 h)
noncomputable def dI5 (H : Hp) : Prop := ∀ b, H b = none ∨ ∃ o xs, H b = some (.frz o (.lst xs))
theorem cV6 {P : Program} {w : World} {K : PySem.W.Frag} {mg mb : Str → Option Value} {CX : CXT} {k : Nat} {fa a : Addr} {fd : FuncData} {x : Str} {sp : Sp} {s₁ : Shared} {vs : List Value} {ns : List Int}
 (KX : K.In s₁.heap) (hns : s₁.heap.Ns mainGlobals mg) (hb : s₁.heap.Ns builtinsNs mb) (hbb : ∀ x : Str, x ≠ "__name__" → mb x = bootBuiltins x) (hlim : s₁.heap.NoLimit) (hg : s₁.gens = #[])
 (ha : s₁.heap.get? a = some { cls := .type "list", data := .seq vs.toArray }) (hi : IntsAre vs ns) (hl : ns.length ≤ sizeLine) (hr : aH0 k callerA)
 (F : ∀ base : Heap, K.In base → base.Ns mainGlobals mg → J9 P w K mg base CX k fa fd [x] sp) (hbind : ∀ (s : Shared) (u : Value), BindsTo s fd ⟨[u], []⟩ [(x, u)])
 (hsp : ∀ H : Hp, dI5 H → SqL K H a (ns.map V.int) → sp [.ref a] H (fun v _ => v = .bl true) fun _ _ _ => False)
 (hCX : ∀ H e s', CX [] H s₁ (fun _ _ _ => False) e s' → False) :
 codeAny (model P w) callerA (.call (.ref fa) ⟨[.ref a], []⟩) (fun r s' => r = .ok (.ret (.bool true)) ∧ OldK s₁.heap s'.heap ∧ s'.os = s₁.os ∧ AllBare s'.gens) s₁ := by
 have rv := bN1 hi
 have lenV := hi.length
 -- from an abstract heap in which nothing but the script may be tracked
 have core : ∀ H : Hp, dI5 H → SqL K H a (ns.map V.int) → HOk P w H s₁.heap → (∀ b, H b ≠ none → b = a) → (H a ≠ none → K.lookup a = none) →
  codeAny (model P w) callerA (.call (.ref fa) ⟨[.ref a], []⟩) (fun r s' => r = .ok (.ret (.bool true)) ∧ OldK s₁.heap s'.heap ∧ s'.os = s₁.os ∧ AllBare s'.gens) s₁ := by
  intro H hO hS hok hA hK
  have base_of : ∀ {b : Addr} {o : Obj}, s₁.heap.get? b = some o → H b = none → (bR8 s₁.heap H).get? b = some o := fun e n => cV2 e n
  have noA : ∀ {b : Addr} {o : Obj} {es : Array DictEntry} {ep : Nat}, s₁.heap.get? b = some o → o.data = .dict es ep → H b = none := fun {b o es ep} e d => by
   rcases q : H b with _ | u
   · rfl
   ·
     have e' : b = a := hA b (by rw [q]; simp)
     subst e'
     rw [ha] at e; cases e
     have d' : Data.seq vs.toArray _ = Data.dict es ep := d
     cases d'
  have nsK : ∀ {b : Addr} {m : Str → Option Value}, s₁.heap.Ns b m → (bR8 s₁.heap H).Ns b m := fun {b m} ⟨o, es, ep, e, d, r⟩ => ⟨o, es, ep, base_of e (noA e d), d, r⟩
  have hKb : K.In (bR8 s₁.heap H) := fun b o e => base_of (KX b o e) (by
   rcases q : H b with _ | u
   · rfl
   ·
     have e' : b = a := hA b (by rw [q]; simp)
     subst e'
     rw [hK (by rw [q]; simp)] at e; cases e)
  have hM : Mod K mg (bR8 s₁.heap H) := ⟨hKb, nsK hns, ⟨mb, nsK hb, hbb⟩, let ⟨mc, h1, h2⟩ := hlim; ⟨mc, nsK h1, h2⟩⟩
  have e0 : dD5 P w K mg (bR8 s₁.heap H) callerA [] s₁ H := ⟨rfl, hM, fun b o e => dG4 e, Nat.le_of_eq (cM4 _ _), trivial, fun b hb => absurd (show b ∈ ([] : List Addr) from hb) (by simp), hok, .of_eq hg⟩
  refine codeAny_mono ((F _ hKb (nsK hns)).run callerA [] s₁ H ⟨[.ref a], []⟩ [.ref a] [.ref a] _ _ hr e0 (hbind s₁ (.ref a)) (.cons rfl .nil) (hsp H hO hS)) fun r s' h => ?_
  rcases r with e | fl
  · exact (hCX H e s' h).elim
  ·
    rcases fl with _ | _ | _ | u
    · exact False.elim h
    · exact False.elim h
    · exact False.elim h
    ·
      obtain ⟨v, H', os, bare, un, hok', r', q⟩ := h
      have q' : v = .bl true := q
      subst q'
      obtain rfl : u = Value.bool true := r'
      refine ⟨rfl, OldK.of_keep fun b o e => ?_, os, bare⟩
      rcases q : H b with _ | u
      · exact un.keep b o e q (by intro z; exact absurd (show b ∈ ([] : List Addr) from z) (by simp)) (by simp)
      ·
        rcases hO b with z | ⟨ob, xs, z⟩
        · rw [q] at z; cases z
        · have z2 := un.frzs b ob _ z
          obtain ⟨e1, _⟩ := hok b _ z
          obtain ⟨e2, _⟩ := hok' b _ z2
          rw [e] at e1; cases e1
          exact e2
 rcases hk : K.lookup a with _ | o
 ·
   refine core (fun b => if b = a then some (.frz { cls := .type "list", data := .seq vs.toArray } (.lst (ns.map V.int))) else none) (fun b => ?_) (.inl (.inr ⟨{ cls := .type "list", data := .seq vs.toArray }, if_pos rfl⟩)) (fun b u z => ?_) (fun b z => ?_) fun _ => hk
   · by_cases hb : b = a
     · exact .inr ⟨_, _, if_pos hb⟩
     · exact .inl (if_neg hb)
   · by_cases hb : b = a
     · have z' := (if_pos hb).symm.trans z
       cases z'
       subst hb
       exact ⟨ha, by rw [List.length_map]; exact hl, vs, _, rv, ha⟩
     · have z' := (if_neg hb).symm.trans z
       cases z'
   · by_cases hb : b = a
     · exact hb
     · exact absurd (if_neg hb) z
 ·
   -- the script is one of the module's own objects
   have e := KX a o hk
   rw [ha] at e
   cases e
   refine core (fun _ => none) (fun _ => .inl rfl) (.inr ⟨_, vs.toArray, _, hk, rfl, rfl, rfl, by rw [List.size_toArray, lenV]; exact hl, by simpa using rv⟩) (fun b u z => by have z' : (none : Option HO) = some u := z; cases z') (fun b z => absurd rfl z) fun z => absurd rfl z
theorem walk_of {l : PySem.W.OpenLaw} {n k : Nat} {q : Program} {loose : List Str} {XP : (Str → Option Value) → Heap → Prop} {YP : World → Heap → Prop} {d : DefRec} {K : Params → PySem.W.Frag} {CX : World → CXT} {sp : World → Sp} {x : Str}
 (hn : l.most = some n) (hn2 : n ≤ sizeLine) (hdf : d.params.defaults = []) (hr : aH0 k callerA)
 (hY : ∀ (w : World) (h : Heap), YP w h → (K w.params).In h)
 (F : ∀ (w : World) (mg : Str → Option Value) (fa : Addr) (h : Heap), (K w.params).In h → h.Ns mainGlobals mg → mg d.name = some (.ref fa) →
   ∃ fd : FuncData, (∀ (s : Shared) (u : Value), BindsTo s fd ⟨[u], []⟩ [(x, u)]) ∧
    ∀ base : Heap, (K w.params).In base → base.Ns mainGlobals mg → J9 l.prog w (K w.params) mg base (CX w) k fa fd [x] (sp w))
 (hsp : ∀ (w : World) (H : Hp) (a : Addr) (ns : List Int), ns.length ≤ n → dI5 H → SqL (K w.params) H a (ns.map V.int) → sp w [.ref a] H (fun v _ => v = .bl true) fun _ _ _ => False)
 (hCX : ∀ (w : World) (H : Hp) (s : Shared) (e : Value) (s' : Shared), CX w [] H s (fun _ _ _ => False) e s' → False) :
 PySem.W.WalkO q loose XP YP l.row.toRowW d [] (fun f vs => PySem.call f vs) := by
 refine Att.attach_call hn hdf fun w s₀ s₁ mg mb fa o pm cd doc a vs ns G Y ho hd hcd hmg hobj hints hlen hg => ?_
 have KX := hY w _ Y
 obtain ⟨fd, hb, hF⟩ := F w mg fa _ KX G.T.g hmg
 exact cV6 KX G.T.g G.T.b G.T.builtins G.T.nolimit hg hobj hints (Nat.le_trans hlen hn2) hr hF hb (fun H hO hS => hsp w H a ns hlen hO hS) fun H e s' => hCX w H s₁ e s'
noncomputable def W3 (s : Stmt) : Arguments := match s with
 | .FunctionDef _ a _ _ _ _ _ _ _ _ => a
 | _ => { posonlyargs := [], args := [], vararg := none, kwonlyargs := [], kw_defaults := [], kwarg := none, defaults := [] }
noncomputable def T9 (s : Stmt) : List Stmt := match s with
 | .FunctionDef _ _ b _ _ _ _ _ _ _ => b
 | _ => []
noncomputable def j6 (s : Stmt) : Scope := match s with
 | .FunctionDef _ _ _ _ _ _ sc _ _ _ => sc
 | _ => { kind := .function, names := [], isGenerator := false, isCoroutine := false }
noncomputable abbrev CX0 : CXT := fun _ _ _ _ _ _ => False
noncomputable abbrev E0 : XK := fun _ _ _ => False
theorem dK5 {X : Cx} : bR9 CX0 X E0 := fun _ _ _ _ _ _ _ h => h.elim
structure Fun (K : PySem.W.Frag) (x qual : Str) (st : Stmt) (f : Addr) (fd : FuncData) : Prop where
 ex : ∃ (oc : Value) (od : Option Addr) (kV doc pm : Value) (an : Option Addr) (cdv ct : Value) (osl : Array (Option Value)),
  fd = PySem.W.fnOf x qual (W3 st) (T9 st) (j6 st) .none kV doc pm an cdv ct ∧ K.lookup f = some ⟨oc, od, .func fd, osl⟩ ∧ PySem.W.codeIn K cdv qual = true
 kp : PySem.W.keepIn K (.ref f) = true
section
variable {P : Program} {w : World} {K : PySem.W.Frag} {mg : Str → Option Value} {base : Heap}
theorem Fun.ok {x qual : Str} {st : Stmt} {f : Addr} {fd : FuncData} {N ps : List Str} {k : Nat} {sp : Sp} (F : Fun K x qual st f fd) (S : m8 N ps (j6 st)) (len : ∀ vs H Q E, sp vs H Q E → vs.length = ps.length)
 (hbody : ∀ (cdv : Value) (A : Around) (outer : List Env) (s : Shared) (H : Hp) (vs : List V) (Q : VK) (E : XK), aH0 k (A.deeper (envOfC qual (j6 st) s.heap.objs.size f cdv)) → sp vs H Q E →
   ∃ t, PSs (cF5 CX0 P w K mg base N qual (j6 st) f cdv A outer s H E).nox (T9 st) t ∧ t { nx := fun _ H' => Q .non H', rt := Q } (start N vs) H) : J9 P w K mg base CX0 (k + 1) f fd ps sp := by
 obtain ⟨oc, od, kV, doc, pm, an, cdv, ct, osl, rfl, lk, hcd⟩ := F.ex
 refine dY7 lk hcd S len fun A outer s H vs Q E hr hsp => ?_
 obtain ⟨t, h, q⟩ := hbody cdv A outer s H vs Q E hr hsp
 exact ⟨t, h.nox, q⟩
theorem Fun.binds {x qual : Str} {st : Stmt} {f : Addr} {fd : FuncData} {ps : List Str} (F : Fun K x qual st f fd)
 (h : ∀ (kV doc pm : Value) (an : Option Addr) (cdv ct : Value) (us : List Value), us.length = ps.length → bindArgs (PySem.W.fnOf x qual (W3 st) (T9 st) (j6 st) .none kV doc pm an cdv ct) ⟨us, []⟩ = pure (ps.zip us)) : aV4 K fd ps [] := by
 obtain ⟨oc, od, kV, doc, pm, an, cdv, ct, osl, rfl, lk, hcd⟩ := F.ex
 exact .all (h kV doc pm an cdv ct)
theorem bQ0 {x qual : Str} {st : Stmt} {f : Addr} {oc : Value} {od an : Option Addr} {osl : Array (Option Value)} {kV doc pm cdv ct : Value} (l : K.lookup f = some ⟨oc, od, .func (PySem.W.fnOf x qual (W3 st) (T9 st) (j6 st) .none kV doc pm an cdv ct), osl⟩)
 (c : PySem.W.codeIn K cdv qual = true) (k : PySem.W.keepIn K (.ref f) = true) : Fun K x qual st f (PySem.W.fnOf x qual (W3 st) (T9 st) (j6 st) .none kV doc pm an cdv ct) := ⟨⟨oc, od, kV, doc, pm, an, cdv, ct, osl, rfl, l, c⟩, k⟩
end
section
variable {X : Cx}
end
section
variable {κ : Type} [DecidableEq κ]
noncomputable def cD1 (kvs : List (κ × V)) (k : κ) : Option V := (kvs.find? fun kv => decide (kv.1 = k)).map (·.2)
noncomputable def aY3 (kvs : List (κ × V)) (k : κ) (v : V) : List (κ × V) :=
 if (kvs.any fun kv => decide (kv.1 = k)) = true then kvs.map (fun kv => if kv.1 = k then (kv.1, v) else kv) else kvs ++ [(k, v)]
theorem bX0 {p : κ × V} {r : List (κ × V)} {k : κ} (e : p.1 = k) : cD1 (p :: r) k = some p.2 := by simp [cD1, List.find?_cons, e]
theorem bX2 {p : κ × V} {r : List (κ × V)} {k : κ} (e : ¬ p.1 = k) : cD1 (p :: r) k = cD1 r k := by simp [cD1, List.find?_cons, e]
theorem bY7 (k : κ) : ∀ kvs : List (κ × V), (kvs.any fun kv => decide (kv.1 = k)) = (cD1 kvs k).isSome
 | [] => rfl
 | p :: r => by
   rw [List.any_cons]
   by_cases e : p.1 = k
   · simp only [bX0 e, decide_eq_true e, Bool.true_or, Option.isSome_some]
   · rw [bX2 e, decide_eq_false e, Bool.false_or]; exact bY7 k r
theorem bB9 (kvs : List (κ × V)) (k : κ) (v : V) : (aY3 kvs k v).length ≤ kvs.length + 1 := by
 unfold aY3
 split
 · rw [List.length_map]; lia
 · rw [List.length_append, List.length_cons, List.length_nil]; lia
theorem cT8.isSome_eq {o : Option V} {u : Option Value} (r : cT8 o u) : o.isSome = u.isSome := by
 rcases o with _ | _
 · cases u with
   | none => rfl
   | some _ => exact (show False from r).elim
 · cases u with
   | none => exact (show False from r).elim
   | some _ => rfl
theorem KV.any {kvs : List (κ × V)} {vs : List (κ × Value)} (r : KV kvs vs) (k : κ) : (kvs.any fun kv => decide (kv.1 = k)) = vs.any fun kv => decide (kv.1 = k) := by
 unfold KV at r
 induction r with
 | nil => rfl
 | cons h t ih => rw [List.any_cons, List.any_cons, ih, h.1]
theorem KV.repl {kvs : List (κ × V)} {vs : List (κ × Value)} (r : KV kvs vs) (k : κ) {y : V} {u : Value} (ry : J7 y u) :
 KV (kvs.map fun kv => if kv.1 = k then (kv.1, y) else kv) (vs.map fun kv => if kv.1 = k then (kv.1, u) else kv) := by
 unfold KV at r ⊢
 induction r with
 | nil => exact .nil
 | @cons p q ps qs h t ih =>
   rw [List.map_cons, List.map_cons]
   refine .cons ?_ ih
   obtain ⟨h1, h2⟩ := h
   by_cases e : p.1 = k
   · rw [if_pos e, if_pos (h1.symm.trans e)]; exact ⟨h1, ry⟩
   · rw [if_neg e, if_neg (fun z => e (h1.trans z))]; exact ⟨h1, h2⟩
theorem KV.put {kvs : List (κ × V)} {vs : List (κ × Value)} (r : KV kvs vs) (k : κ) {y : V} {u : Value} (ry : J7 y u) : KV (aY3 kvs k y) (stored vs k u) := by
 unfold aY3 stored
 rw [r.any k]
 by_cases e : (vs.any fun kv => decide (kv.1 = k)) = true
 · rw [if_pos e, if_pos e]; exact r.repl k ry
 · rw [if_neg e, if_neg e]; exact Paired.snoc r ⟨rfl, ry⟩
theorem KV.length {kvs : List (κ × V)} {vs : List (κ × Value)} (r : KV kvs vs) : kvs.length = vs.length := Paired.length r
end
theorem dK7 {P : Program} {w : World} {k : Key} {u : Value} (r : J7 (kV k) u) : (Q9 P w).is k u = true := by
 rcases k with i | x
 · obtain ⟨t, e⟩ := (show ∃ t, u = Value.int i t from r); subst e; exact bY3 P w i t
 · obtain ⟨t, e⟩ := (show ∃ t, u = Value.str x t from r); subst e; exact bW8 P w x t
theorem bM7 {P : Program} {w : World} : ∀ {ks : List Key} {us : List Value}, w6 (ks.map kV) us → ItemsAre (Q9 P w) ks us
 | [], _, r => by rw [List.map_nil] at r; cases r; exact .nil
 | k :: ks, _, r => by
   rw [List.map_cons] at r
   cases r with
   | cons h t => exact .cons (dK7 h) (bM7 t)
abbrev KT (H : Hp) : List (List Key × V) → List (List Key × Addr × Value) → Prop := Paired fun p q => p.1 = q.1 ∧ H q.2.1 = some (.tup (p.1.map kV)) ∧ J7 p.2 q.2.2
theorem KT.val {H : Hp} {kvs : List (List Key × V)} {xs : List (List Key × Addr × Value)} (r : KT H kvs xs) (k : List Key) : cT8 (cD1 kvs k) ((atKey xs k).map (·.2)) := by
 induction r with
 | nil => exact True.intro
 | @cons p q ps qs h t ih =>
   obtain ⟨h1, _, h2⟩ := h
   by_cases e : p.1 = k
   · have e' : q.1 = k := h1.symm.trans e
     have b : atKey (q :: qs) k = some q.2 := by simp [atKey, List.find?_cons, e']
     rw [bX0 e, b]; exact h2
   · have e' : ¬ q.1 = k := fun z => e (h1.trans z)
     have b : atKey (q :: qs) k = atKey qs k := by simp [atKey, List.find?_cons, e']
     rw [bX2 e, b]; exact ih
theorem KT.repl {H : Hp} {kvs : List (List Key × V)} {xs : List (List Key × Addr × Value)} (r : KT H kvs xs) (k : List Key) {y : V} {u : Value} (ry : J7 y u) :
 KT H (kvs.map fun kv => if kv.1 = k then (kv.1, y) else kv) (xs.map (putAt k u)) := by
 induction r with
 | nil => exact .nil
 | @cons p q ps qs h t ih =>
   rw [List.map_cons, List.map_cons]
   refine .cons ?_ ih
   obtain ⟨h1, h2, h3⟩ := h
   unfold putAt
   by_cases e : p.1 = k
   · rw [if_pos e, if_pos (h1.symm.trans e)]; exact ⟨h1, h2, ry⟩
   · rw [if_neg e, if_neg (fun z => e (h1.trans z))]; exact ⟨h1, h2, h3⟩
theorem KT.put {H : Hp} {kvs : List (List Key × V)} {xs : List (List Key × Addr × Value)} (r : KT H kvs xs) (k : List Key) {b : Addr} {y : V} {u : Value} (hb : H b = some (.tup (k.map kV))) (ry : J7 y u) :
 KT H (aY3 kvs k y) (storedH xs k b u) := by
 have e : (kvs.any fun kv => decide (kv.1 = k)) = (atKey xs k).isSome := by
  rw [bY7, (r.val k).isSome_eq, Option.isSome_map]
 unfold aY3 storedH
 rw [e]
 by_cases q : (atKey xs k).isSome = true
 · rw [if_pos q, if_pos q]; exact r.repl k ry
 · rw [if_neg q, if_neg q]; exact Paired.snoc r ⟨rfl, hb, ry⟩
theorem KT.keeps {H H' : Hp} {kvs : List (List Key × V)} {xs : List (List Key × Addr × Value)} (r : KT H kvs xs) (ht : ∀ b ys, H b = some (.tup ys) → H' b = some (.tup ys)) : KT H' kvs xs :=
 Paired.mapP r fun _ _ z => ⟨z.1, ht _ _ z.2.1, z.2.2⟩
section
variable {P : Program} {w : World} {H : Hp} {h : Heap} {a : Addr}
theorem dK6 {u : HO} (ok : HOk P w H h) (e : Rd H a u) : R9 P w H h a u := e.ok ok
theorem dK4 {kvs : List (Key × V)} (ok : HOk P w H h) (e : Rd H a (.dK kvs)) : kvs.length ≤ sizeLine ∧ (a == sysModules) = false ∧ ∃ vs, KV kvs vs ∧ h.DictOf (Q9 P w) a vs :=
 show R9 P w H h a (.dK kvs) from dK6 ok e
theorem cY7 {kvs : List (Key × V)} (ok : HOk P w H h) (e : H a = some (.dK kvs)) : kvs.length ≤ sizeLine ∧ (a == sysModules) = false ∧ ∃ vs, KV kvs vs ∧ h.DictOf (Q9 P w) a vs := dK4 ok (.inl e)
theorem cT1 {ks : List Key} (ok : HOk P w H h) (e : H a = some (.tup (ks.map kV))) : (tupleKind (Q9 P w)).is h ks a := by
 obtain ⟨_, its, r, o, h1, h2, n, h3⟩ := (show R9 P w H h a (.tup (ks.map kV)) from ok a _ e)
 exact ⟨o, its.toArray, n, h1, h2, (Prod.mk.inj h3).1, by simpa using bM7 r⟩
theorem dV5 {kvs : List (List Key × V)} (ok : HOk P w H h) (e : Rd H a (.dT kvs)) : kvs.length ≤ sizeLine ∧ (a == sysModules) = false ∧
 ∃ xs, KT H kvs xs ∧ h.DictOfH (tupleKind (Q9 P w)) a xs := by
 obtain ⟨z, y, xs, r, o, es, ep, h1, h2, h3, h4, h5⟩ := (show R9 P w H h a (.dT kvs) from dK6 ok e)
 refine ⟨z, y, xs, r, o, es, ep, h1, h2, h3, h4, fun x hx => ?_, h5⟩
 have all : ∀ {l : List (List Key × V)} {m : List (List Key × Addr × Value)}, KT H l m → ∀ x ∈ m, (tupleKind (Q9 P w)).is h x.1 x.2.1 := by
  intro l m q
  induction q with
  | nil => intro x hx; exact nomatch hx
  | @cons p q ps qs hq t ih =>
    intro x hx
    rcases List.mem_cons.mp hx with e | hx
    · subst e
      exact cT1 ok (by rw [← hq.1]; exact hq.2.1)
    · exact ih x hx
 exact all r x hx
theorem eA1 {kvs : List (List Key × V)} (ok : HOk P w H h) (e : H a = some (.dT kvs)) : kvs.length ≤ sizeLine ∧ (a == sysModules) = false ∧
 ∃ xs, KT H kvs xs ∧ h.DictOfH (tupleKind (Q9 P w)) a xs := dV5 ok (.inl e)
end
def dE1 (H : Hp) (a : Addr) (y v : V) (H' : Hp) : Prop :=
 (∃ kvs k, H a = some (.dK kvs) ∧ y = kV k ∧ kvs.length < sizeLine ∧ H' = upd H a (.dK (aY3 kvs k v))) ∨
 ∃ kvs k b, H a = some (.dT kvs) ∧ y = .ref b ∧ H b = some (.tup (k.map kV)) ∧ kvs.length < sizeLine ∧ H' = upd H a (.dT (aY3 kvs k v))
theorem dE1.k {H : Hp} {a : Addr} {kvs : List (Key × V)} {k : Key} {v : V} (e : H a = some (.dK kvs)) (hl : kvs.length < sizeLine) : dE1 H a (kV k) v (upd H a (.dK (aY3 kvs k v))) := .inl ⟨kvs, k, e, rfl, hl, rfl⟩
section
variable {X : Cx} {pins : PNS} {σ : St} {H : Hp} {s : Shared} {a : Addr} {y v : V} {u r : Value} {o : Option V} {A : Around} {E : VSP}
theorem Inv.big (I : Inv X pins σ H s) : sysModules < s.heap.objs.size := by
 have h : mainGlobals < s.heap.objs.size := (I.mod.glob.keeps I.bk).lt
 exact Nat.lt_trans (by decide) h
theorem cI7 {h' : Heap} {t' : Nat} {ob : HO} (I : Inv X pins σ H s) (mu : Mut (H a)) (hs : Heap.SameBut a s.heap h') (he : ∃ q, h'.get? a = some q) (new : R9 X.prog X.w (upd H a ob) h' a ob) :
 Inv X pins σ (upd H a ob) { s with heap := h', toks := t' } :=
 I.write (x := a) (e := a) mu (.inl rfl) (fun b q hb z => (hs.2 b hb).trans z) he new
theorem dM8 {P : Program} {w : World} {H' : Hp} {h' : Heap} {kvs : List (Key × V)} {vs : List (Key × Value)} (z : kvs.length ≤ sizeLine) (hd : (a == sysModules) = false) (rel : KV kvs vs) (dd : h'.DictOf (Q9 P w) a vs) :
 R9 P w H' h' a (.dK kvs) := ⟨z, hd, vs, rel, dd⟩
theorem cM2 {H' : Hp} {Q : Unit → Shared → Prop} (hu : A.units + 1 < cLine) (I : Inv X pins σ H s) (g : dE1 H a y v H') (ry : J7 y u) (rv : J7 v r) (h : ∀ s', Inv X pins σ H' s' → Q () s') :
 wpAny (model X.prog X.w) A (setItem (.ref a) u r) Q E s := by
 rcases g with ⟨kvs, k, e, ey, l, eH⟩ | ⟨kvs, k, b, e, ey, eb, l, eH⟩
 · subst ey eH
   obtain ⟨z, hd, vs, rel, dd⟩ := cY7 I.hok e
   have hz : vs.length ≤ sizeLine := by rw [← rel.length]; exact z
   have hl : (aY3 kvs k v).length ≤ sizeLine := by have := bB9 kvs k v; lia
   refine wpAny_setItem_pairs (hsz := hz) (dK7 ry) dd fun h' dd' hs => h _ ?_
   have he : ∃ q, h'.get? a = some q := let ⟨q, _, _, hq, _⟩ := dd'; ⟨q, hq⟩
   exact cI7 I (by rw [e]; exact True.intro) hs he (dM8 hl hd (rel.put k rv) dd')
 · subst ey eH
   cases (show u = Value.ref b from ry)
   obtain ⟨z, hd, xs, rel, dd⟩ := eA1 I.hok e
   have hz : xs.length ≤ sizeLine := by rw [← Paired.length rel]; exact z
   have hl : (aY3 kvs k v).length ≤ sizeLine := by have := bB9 kvs k v; lia
   refine wpAny_setItem_heap (hsz := hz) (tupleKind_room_in1 hu) (cT1 I.hok eb) dd fun h' dd' hs => h _ ?_
   obtain ⟨q, es, ep, hq, h2, h3, h4, _, h5⟩ := dd'
   refine cI7 I (by rw [e]; exact True.intro) hs ⟨q, hq⟩ ⟨hl, hd, _, (rel.put k eb rv).keeps fun c ys ec => ?_, q, es, ep, hq, h2, h3, h4, h5⟩
   rw [t8 (eA3 ec e (fun z => nomatch z))]
   exact ec
end
section
variable {X : Cx} {pins : PNS} {σ : St} {H : Hp} {s : Shared} {a : Addr} {kvs : List (Key × V)} {k : Key} {u : Value} {A : Around} {E : VSP}
theorem dU3 {Q : VSP} (I : Inv X pins σ H s) (e : Rd H a (.dK kvs)) (h : ∀ t s', Inv X pins σ H s' → Q (.int kvs.length t) s') : wpAny (model X.prog X.w) A (call (.builtin "len") [.ref a]) Q E s := by
 obtain ⟨z, hd, vs, rel, dd⟩ := dK4 I.hok e
 refine call_len_dict hd dd (by rw [← rel.length]; rw [sizeLine_eq] at z; lia) ?_
 rw [← rel.length]
 exact h _ _ (I.tok _)
end
section
variable {X : Cx} {o i e value : Expr} {pos pos' tpos : Pos} {td ty tv : TE}
end
theorem dA9 {P : Program} {w : World} {H : Hp} (h : Heap) (hb : sysModules < h.objs.size) : R9 P w H (h.push { cls := .type "dict", data := .dict #[] }) h.objs.size (.dK []) :=
 ⟨Nat.zero_le _, beq_eq_false_iff_ne.mpr (Ne.symm (Nat.ne_of_lt hb)), [], .nil, Heap.DictOf.new h⟩
def dN2 : TE := fun _ H Q => ∀ p, H p = none → Q (.ref p) (upd H p (.dK []))
section
variable {X : Cx} {pos : Pos}
theorem cS8 : PE X (.Dict [] [] pos) dN2 := fun pins s σ H Q I h =>
 wpAny_Dict_empty ⟨.ref s.heap.objs.size, _, I.laid (a := s.heap.objs.size) (o := .dK []) (t' := s.toks) (fun _ _ q => Heap.get?_push_of_some _ q) (Nat.le_refl _) (dA9 s.heap I.big), rfl, h _ (I.hok.fresh (Nat.le_refl _))⟩
end
structure M1 (X : Cx) (o : Expr) (m : Str) (apos : Pos) (e : Expr) (cpos : Pos) : Prop where
 base : attributeBase o m X.env (eval o X.env) = eval o X.env
 few : ((backTo cpos (starEach [e] X.env)).all (fun x => !x.1) && (backToKw cpos (keywordEach [] X.env)).all (fun x => x.1.isSome)
  && decide (([e] : List Expr).length + ([] : List Keyword).length + (if ([] : List Keyword).isEmpty then 0 else 1) < 30)) = true
 line : (apos.endLine == cpos.line) = true
 trees : backTo cpos (starEach [e] X.env) = [(false, eval e X.env)]
structure M2 (X : Cx) (o : Expr) (m : Str) (apos : Pos) (e f : Expr) (cpos : Pos) : Prop where
 base : attributeBase o m X.env (eval o X.env) = eval o X.env
 few : ((backTo cpos (starEach [e, f] X.env)).all (fun x => !x.1) && (backToKw cpos (keywordEach [] X.env)).all (fun x => x.1.isSome)
  && decide (([e, f] : List Expr).length + ([] : List Keyword).length + (if ([] : List Keyword).isEmpty then 0 else 1) < 30)) = true
 line : (apos.endLine == cpos.line) = true
 trees : backTo cpos (starEach [e, f] X.env) = [(false, eval e X.env), (false, eval f X.env)]
section
variable {X : Cx} {pins : PNS} {σ : St} {H : Hp} {s : Shared} {a : Addr} {y d : V} {u r : Value} {o : Option V} {A : Around} {E : VSP}
end
section
variable {X : Cx} {o e f : Expr} {apos cpos : Pos} {td ty tx : TE}
end
section
variable {X : Cx} {pins : PNS} {σ : St} {H : Hp} {s : Shared} {a : Addr} {kvs : List (Key × V)} {A : Around} {E : VSP}
end
section
variable {X : Cx} {pins : PNS} {σ : St} {H : Hp} {s : Shared} {a : Addr} {y : V} {u : Value} {A : Around} {E : VSP}
end
section
variable {X : Cx}
theorem cR6 : Z8 X (.builtin "len") (fun xs H Q => ∃ a kvs, xs = [V.ref a] ∧ H a = some (.dK kvs) ∧ Q (.int kvs.length) H) := by
 intro pins s σ H xs us Q I r h
 obtain ⟨a, kvs, rfl, ha, q⟩ := h
 obtain ⟨u, rfl, ru⟩ := aM5 r
 cases ru
 exact dU3 I (.inl ha) fun t s' I' => ⟨.int kvs.length, H, I', ⟨t, rfl⟩, q⟩
end
section
variable {κ : Type} [DecidableEq κ]
end
end L2
namespace DL
open PySem PySem.Spec L2
open PyProof.Rows hiding St
inductive D where
 | non | bl (b : Bool) | int (i : Int) | str (x : Str) | tup (l : List D) | ref (i : Nat) | fn (x : Str) | ty (n : String)
inductive DO where
 | lst (l : List D) | rol (l : List D) | dct (l : List (Key × D)) | rod (l : List (Key × D))
noncomputable abbrev DH := List DO
abbrev DPP := D → DH → Prop
noncomputable abbrev DSt := List (Option D)
structure Wc where
 K : PySem.W.Frag
 mg : Str → Option Value
noncomputable abbrev wc (X : Cx) : Wc := ⟨X.K, X.mg⟩
mutual
noncomputable def g8 (c : Wc) (μ : List Addr) (H : Hp) : D → V → Prop
 | .non, v => v = .non
 | .bl b, v => v = .bl b
 | .int i, v => v = .int i
 | .str x, v => v = .str x
 | .ty n, v => v = .ty n
 | .fn x, v => ∃ a, c.mg x = some (.ref a) ∧ v = .ref a
 | .ref i, v => ∃ a, μ[i]? = some a ∧ v = .ref a
 | .tup l, v => ∃ a vs, v = .ref a ∧ SqT c.K H a vs ∧ o6 c μ H l vs
noncomputable def o6 (c : Wc) (μ : List Addr) (H : Hp) : List D → List V → Prop
 | [], vs => vs = []
 | d :: ds, vs => ∃ v r, vs = v :: r ∧ g8 c μ H d v ∧ o6 c μ H ds r
end
def aD6 (c : Wc) (μ : List Addr) (H : Hp) : List (Key × D) → List (Key × V) → Prop
 | [], kvs => kvs = []
 | (k, d) :: r, kvs => ∃ v t, kvs = (k, v) :: t ∧ g8 c μ H d v ∧ aD6 c μ H r t
structure Ext (μ : List Addr) (H : Hp) (μ' : List Addr) (H' : Hp) : Prop where
 pre : μ <+: μ'
 new : ∀ a ∈ μ', a ∉ μ → H a = none
 oth : ∀ b o, H b = some o → b ∉ μ → H' b = some o
 tup : ∀ b xs, H b = some (.tup xs) → H' b = some (.tup xs)
 frz : ∀ b o u, H b = some (.frz o u) → H' b = some (.frz o u)
theorem Ext.refl (μ : List Addr) (H : Hp) : Ext μ H μ H := ⟨List.prefix_refl _, fun a h n => absurd h n, fun _ _ h _ => h, fun _ _ h => h, fun _ _ _ h => h⟩
theorem Ext.trans {μ μ1 μ2 : List Addr} {H H1 H2 : Hp} (a : Ext μ H μ1 H1) (b : Ext μ1 H1 μ2 H2) : Ext μ H μ2 H2 where
 pre := a.pre.trans b.pre
 new := fun x h n => by
  by_cases h1 : x ∈ μ1
  · exact a.new x h1 n
  · have e1 := b.new x h h1
    rcases e : H x with _ | o
    · rfl
    · rw [a.oth x o e n] at e1; cases e1
 oth := fun x o e n => by
  refine b.oth x o (a.oth x o e n) fun h1 => ?_
  have := a.new x h1 n
  rw [e] at this; cases this
 tup := fun x xs e => b.tup x xs (a.tup x xs e)
 frz := fun x o u e => b.frz x o u (a.frz x o u e)
theorem Ext.lay {μ : List Addr} {H : Hp} {p : Addr} (h : H p = none) (o : HO) : Ext μ H μ (upd H p o) :=
 ⟨List.prefix_refl _, fun a h n => absurd h n, fun b o' q _ => by rw [t8 (J0 q h)]; exact q, fun b xs q => by rw [t8 (J0 q h)]; exact q, fun b o' u q => by rw [t8 (J0 q h)]; exact q⟩
theorem Ext.add {μ : List Addr} {H : Hp} {p : Addr} (h : H p = none) (o : HO) : Ext μ H (μ ++ [p]) (upd H p o) :=
 ⟨List.prefix_append _ _, fun a ha n => by
  rcases List.mem_append.mp ha with z | z
  · exact absurd z n
  · rw [List.mem_singleton.mp z]; exact h, fun b o' q _ => by rw [t8 (J0 q h)]; exact q, fun b xs q => by rw [t8 (J0 q h)]; exact q, fun b o' u q => by rw [t8 (J0 q h)]; exact q⟩
theorem Ext.mut {μ : List Addr} {H : Hp} {p : Addr} {o' : HO} (hp : p ∈ μ) (h : H p = some o') (n1 : ∀ xs, o' ≠ .tup xs) (n2 : ∀ o u, o' ≠ .frz o u) (o : HO) : Ext μ H μ (upd H p o) :=
 ⟨List.prefix_refl _, fun a h n => absurd h n, fun b o2 q n => by rw [t8 (fun e => n (by rw [e]; exact hp))]; exact q, fun b xs q => by
  rw [t8 (fun e => by subst e; rw [h] at q; cases q; exact n1 _ rfl)]; exact q,
  fun b oo u q => by
   rw [t8 (fun e => by subst e; rw [h] at q; cases q; exact n2 _ _ rfl)]; exact q⟩
theorem Ext.sqT {μ μ' : List Addr} {K : PySem.W.Frag} {H H' : Hp} (k : Ext μ H μ' H') {a : Addr} {xs : List V} (h : SqT K H a xs) : SqT K H' a xs := by
 rcases h with (h | ⟨o, h⟩) | h
 · exact .inl (.inl (k.tup _ _ h))
 · exact .inl (.inr ⟨o, k.frz _ _ _ h⟩)
 · exact .inr h
def RoL (K : PySem.W.Frag) (H : Hp) (a : Addr) (xs : List V) : Prop := (∃ o, H a = some (.frz o (.lst xs))) ∨ (SqL K (fun _ => none) a xs)
theorem cZ1 {K : PySem.W.Frag} {H : Hp} {a : Addr} {xs : List V} (h : SqL K (fun _ => none) a xs) : SqL K H a xs := by
 rcases h with (h | ⟨o, h⟩) | h
 · cases h
 · cases h
 · exact .inr h
theorem RoL.sq {K : PySem.W.Frag} {H : Hp} {a : Addr} {xs : List V} (h : RoL K H a xs) : SqL K H a xs := by
 rcases h with ⟨o, h⟩ | h
 · exact .inl (.inr ⟨o, h⟩)
 · exact cZ1 h
theorem Ext.roL {μ μ' : List Addr} {K : PySem.W.Frag} {H H' : Hp} (k : Ext μ H μ' H') {a : Addr} {xs : List V} (h : RoL K H a xs) : RoL K H' a xs := by
 rcases h with ⟨o, h⟩ | h
 · exact .inl ⟨o, k.frz _ _ _ h⟩
 · exact .inr h
section
variable {c : Wc} {μ μ' : List Addr} {H H' : Hp}
theorem bU5 {μ μ' : List Addr} (h : μ <+: μ') {i : Nat} {a : Addr} (e : μ[i]? = some a) : μ'[i]? = some a := by
 obtain ⟨t, rfl⟩ := h
 have : i < μ.length := by
  rcases Nat.lt_or_ge i μ.length with q | q
  · exact q
  · rw [List.getElem?_eq_none q] at e; cases e
 rw [List.getElem?_append_left this]; exact e
mutual
theorem g8.mono (x : Ext μ H μ' H') : ∀ {d : D} {v : V}, g8 c μ H d v → g8 c μ' H' d v
 | .non, _, h => h
 | .bl _, _, h => h
 | .int _, _, h => h
 | .str _, _, h => h
 | .ty _, _, h => h
 | .fn _, _, h => h
 | .ref i, v, h => by
   unfold g8 at h ⊢
   obtain ⟨a, e, r⟩ := h
   exact ⟨a, bU5 x.pre e, r⟩
 | .tup l, v, h => by
   unfold g8 at h ⊢
   obtain ⟨a, vs, e, q, r⟩ := h
   exact ⟨a, vs, e, x.sqT q, o6.mono x r⟩
theorem o6.mono (x : Ext μ H μ' H') : ∀ {l : List D} {vs : List V}, o6 c μ H l vs → o6 c μ' H' l vs
 | [], _, h => h
 | d :: ds, vs, h => by
   unfold o6 at h ⊢
   obtain ⟨v, r, e, q, t⟩ := h
   exact ⟨v, r, e, g8.mono x q, o6.mono x t⟩
end
theorem aD6.mono (x : Ext μ H μ' H') : ∀ {l : List (Key × D)} {vs : List (Key × V)}, aD6 c μ H l vs → aD6 c μ' H' l vs
 | [], _, h => h
 | (_, d) :: ds, vs, h => by
  obtain ⟨v, r, e, q, t⟩ := h
  exact ⟨v, r, e, g8.mono x q, aD6.mono x t⟩
theorem o6.nil : o6 c μ H [] [] := rfl
theorem o6.cons {d : D} {v : V} {ds : List D} {vs : List V} (h : g8 c μ H d v) (t : o6 c μ H ds vs) : o6 c μ H (d :: ds) (v :: vs) := ⟨v, vs, rfl, h, t⟩
theorem o6.length : ∀ {l : List D} {vs : List V}, o6 c μ H l vs → l.length = vs.length
 | [], _, h => by cases h; rfl
 | _ :: _, _, h => by obtain ⟨v, r, rfl, _, t⟩ := h; simp [o6.length t]
theorem o6.get : ∀ {l : List D} {vs : List V} {i : Nat} {d : D}, o6 c μ H l vs → l[i]? = some d → ∃ v, vs[i]? = some v ∧ g8 c μ H d v
 | [], _, _, _, _, e => by simp at e
 | _ :: _, _, 0, _, h, e => by
   obtain ⟨v, r, rfl, q, t⟩ := h
   simp at e; subst e
   exact ⟨v, rfl, q⟩
 | _ :: _, _, i + 1, _, h, e => by
   obtain ⟨v, r, rfl, q, t⟩ := h
   simp at e
   obtain ⟨w, h1, h2⟩ := o6.get t e
   exact ⟨w, by simpa using h1, h2⟩
theorem o6.append : ∀ {l l' : List D} {vs vs' : List V}, o6 c μ H l vs → o6 c μ H l' vs' → o6 c μ H (l ++ l') (vs ++ vs')
 | [], _, _, _, h, t => by cases h; exact t
 | _ :: _, _, _, _, h, t => by
   obtain ⟨v, r, rfl, q, u⟩ := h
   exact ⟨v, r ++ _, rfl, q, o6.append u t⟩
theorem o6.take : ∀ (n : Nat) {l : List D} {vs : List V}, o6 c μ H l vs → o6 c μ H (l.take n) (vs.take n)
 | 0, _, _, _ => rfl
 | _ + 1, [], _, h => by cases h; rfl
 | n + 1, _ :: _, _, h => by
   obtain ⟨v, r, rfl, q, u⟩ := h
   exact ⟨v, r.take n, rfl, q, o6.take n u⟩
theorem o6.drop : ∀ (n : Nat) {l : List D} {vs : List V}, o6 c μ H l vs → o6 c μ H (l.drop n) (vs.drop n)
 | 0, _, _, h => h
 | _ + 1, [], _, h => by cases h; rfl
 | n + 1, _ :: _, _, h => by
   obtain ⟨v, r, rfl, q, u⟩ := h
   exact o6.drop n u
theorem o6.set {d : D} {v : V} (hv : g8 c μ H d v) : ∀ (n : Nat) {l : List D} {vs : List V}, o6 c μ H l vs → o6 c μ H (l.set n d) (vs.set n v)
 | _, [], _, h => by cases h; rfl
 | 0, _ :: _, _, h => by
   obtain ⟨w, r, rfl, q, u⟩ := h
   exact ⟨v, r, rfl, hv, u⟩
 | n + 1, _ :: _, _, h => by
   obtain ⟨w, r, rfl, q, u⟩ := h
   exact ⟨w, r.set n v, rfl, q, o6.set hv n u⟩
theorem o6.dropLast {l : List D} {vs : List V} (h : o6 c μ H l vs) : o6 c μ H l.dropLast vs.dropLast := by
 rw [List.dropLast_eq_take, List.dropLast_eq_take, h.length]
 exact h.take _
noncomputable def aK0 : Option DO → Prop
 | some (.rol _) => True
 | some (.rod _) => True
 | _ => False
def aI9 (c : Wc) (μ : List Addr) (H : Hp) (a : Addr) : DO → Prop
 | .lst l => ∃ vs, H a = some (.lst vs) ∧ o6 c μ H l vs
 | .rol l => ∃ vs, RoL c.K H a vs ∧ o6 c μ H l vs
 | .dct l => ∃ kvs, H a = some (.dK kvs) ∧ aD6 c μ H l kvs
 | .rod l => ∃ kvs o, H a = some (.frz o (.dK kvs)) ∧ aD6 c μ H l kvs
structure t7 (c : Wc) (μ : List Addr) (G : DH) (H : Hp) : Prop where
 len : μ.length = G.length
 inj : ∀ (i j : Nat) (a : Addr), μ[i]? = some a → μ[j]? = some a → i = j ∨ aK0 G[i]? ∨ aK0 G[j]?
 obj : ∀ (i : Nat) (o : DO) (a : Addr), G[i]? = some o → μ[i]? = some a → aI9 c μ H a o
variable {G : DH}
theorem lt_of_get {α : Type} {l : List α} {i : Nat} {x : α} (e : l[i]? = some x) : i < l.length := by
 rcases Nat.lt_or_ge i l.length with q | q
 · exact q
 · rw [List.getElem?_eq_none q] at e; cases e
theorem aI9.mono (x : Ext μ H μ' H') {a : Addr} {o : DO} (h : aI9 c μ H a o) (e : H' a = H a ∨ aK0 (some o)) : aI9 c μ' H' a o := by
 rcases o with l | l | l | l
 ·
   obtain ⟨vs, q, r⟩ := h
   rcases e with e | e
   · exact ⟨vs, e.trans q, r.mono x⟩
   · exact e.elim
 · obtain ⟨vs, q, r⟩ := h; exact ⟨vs, x.roL q, r.mono x⟩
 ·
   obtain ⟨vs, q, r⟩ := h
   rcases e with e | e
   · exact ⟨vs, e.trans q, r.mono x⟩
   · exact e.elim
 · obtain ⟨vs, o, q, r⟩ := h; exact ⟨vs, o, x.frz _ _ _ q, r.mono x⟩
theorem aI9.some_of {a : Addr} {o : DO} (h : aI9 c μ H a o) (n : ¬ aK0 (some o)) : ∃ u, H a = some u ∧ (∀ xs, u ≠ .tup xs) ∧ ∀ o' u', u ≠ .frz o' u' := by
 rcases o with l | l | l | l
 · obtain ⟨vs, q, _⟩ := h; exact ⟨_, q, (fun _ z => nomatch z), (fun _ _ z => nomatch z)⟩
 · exact (n trivial).elim
 · obtain ⟨vs, q, _⟩ := h; exact ⟨_, q, (fun _ z => nomatch z), (fun _ _ z => nomatch z)⟩
 · exact (n trivial).elim
theorem t7.same (h : t7 c μ G H) (k : Ext μ H μ H') (e : ∀ a o, H a = some o → (∀ xs, o ≠ .tup xs) → H' a = some o) : t7 c μ G H' :=
 ⟨h.len, h.inj, fun i o a g m => by
  have q := h.obj i o a g m
  by_cases hr : aK0 (some o)
  · exact q.mono k (.inr hr)
  · obtain ⟨u, e1, n1, n2⟩ := q.some_of hr
    exact q.mono k (.inl ((e a u e1 n1).trans e1.symm))⟩
theorem t7.new {p : Addr} {o : DO} {u : HO} (h : t7 c μ G H) (hp : H p = none) (ho : aI9 c (μ ++ [p]) (upd H p u) p o) : t7 c (μ ++ [p]) (G ++ [o]) (upd H p u) := by
 have k : Ext μ H (μ ++ [p]) (upd H p u) := Ext.add hp u
 have old : ∀ (i : Nat) (a : Addr), i < μ.length → (μ ++ [p])[i]? = some a → μ[i]? = some a := fun i a hi e => by
  rw [List.getElem?_append_left hi] at e; exact e
 refine ⟨by simp [h.len], fun i j a ei ej => ?_, fun i o' a g m => ?_⟩
 · have li := lt_of_get ei
   have lj := lt_of_get ej
   simp only [List.length_append, List.length_singleton] at li lj
   by_cases hi : i < μ.length
   · have mi := old i a hi ei
     have gi : (G ++ [o])[i]? = G[i]? := List.getElem?_append_left (by rw [← h.len]; exact hi)
     by_cases hj : j < μ.length
     · have mj := old j a hj ej
       have gj : (G ++ [o])[j]? = G[j]? := List.getElem?_append_left (by rw [← h.len]; exact hj)
       rw [gi, gj]
       exact h.inj i j a mi mj
     · -- j is the new one: a = p
       have ej' : j = μ.length := by lia
       subst ej'
       have ea : a = p := by simpa using ej.symm
       subst ea
       right; left
       rw [gi]
       have hg : i < G.length := by rw [← h.len]; exact hi
       have q := h.obj i G[i] a (List.getElem?_eq_getElem hg) mi
       rw [List.getElem?_eq_getElem hg]
       refine Classical.byContradiction fun n => ?_
       obtain ⟨u', e1, _⟩ := q.some_of n
       rw [hp] at e1; cases e1
   · have ei' : i = μ.length := by lia
     by_cases hj : j < μ.length
     · have mj := old j a hj ej
       have gj : (G ++ [o])[j]? = G[j]? := List.getElem?_append_left (by rw [← h.len]; exact hj)
       subst ei'
       have ea : a = p := by simpa using ei.symm
       subst ea
       right; right
       rw [gj]
       have hg : j < G.length := by rw [← h.len]; exact hj
       have q := h.obj j G[j] a (List.getElem?_eq_getElem hg) mj
       rw [List.getElem?_eq_getElem hg]
       refine Classical.byContradiction fun n => ?_
       obtain ⟨u', e1, _⟩ := q.some_of n
       rw [hp] at e1; cases e1
     · left; lia
 · have li := lt_of_get m
   simp only [List.length_append, List.length_singleton] at li
   by_cases hi : i < μ.length
   · have mi := old i a hi m
     rw [List.getElem?_append_left (by rw [← h.len]; exact hi)] at g
     have q := h.obj i o' a g mi
     by_cases hr : aK0 (some o')
     · exact q.mono k (.inr hr)
     · obtain ⟨u', e1, _⟩ := q.some_of hr
       exact q.mono k (.inl (t8 (J0 e1 hp)))
   · have ei' : i = μ.length := by lia
     subst ei'
     have ea : a = p := by simpa using m.symm
     subst ea
     rw [h.len] at g
     have eo : o' = o := by simpa using g.symm
     subst eo
     exact ho
theorem t7.set {i : Nat} {a : Addr} {o o' : DO} {u : HO} (h : t7 c μ G H) (g : G[i]? = some o) (n : ¬ aK0 (some o)) (m : μ[i]? = some a) (k : Ext μ H μ (upd H a u)) (n' : ¬ aK0 (some o')) (ho : aI9 c μ (upd H a u) a o') : t7 c μ (G.set i o') (upd H a u) := by
 have hi : i < G.length := lt_of_get g
 have get : ∀ j, (G.set i o')[j]? = if i = j then some o' else G[j]? := fun j => by
  rw [List.getElem?_set]
  by_cases e : i = j
  · subst e; simp [hi]
  · simp [e]
 refine ⟨by simp [h.len], fun j l b ej el => ?_, fun j o2 b gj mj => ?_⟩
 · rcases h.inj j l b ej el with e | e | e
   · exact .inl e
   · by_cases ij : i = j
     · subst ij; rw [g] at e; exact (n e).elim
     · right; left; rw [get, if_neg ij]; exact e
   · by_cases ij : i = l
     · subst ij; rw [g] at e; exact (n e).elim
     · right; right; rw [get, if_neg ij]; exact e
 · rw [get] at gj
   by_cases ij : i = j
   · subst ij
     rw [if_pos rfl] at gj
     cases gj
     rw [m] at mj
     cases mj
     exact ho
   · rw [if_neg ij] at gj
     have q := h.obj j o2 b gj mj
     by_cases hr : aK0 (some o2)
     · exact q.mono k (.inr hr)
     · have nb : b ≠ a := fun e => by
        subst e
        rcases h.inj i j b m mj with e | e | e
        · exact ij e
        · rw [g] at e; exact n e
        · rw [gj] at e; exact hr e
       exact q.mono k (.inl (t8 nb))
def J8 (c : Wc) (μ : List Addr) (H : Hp) (dσ : DSt) (σ : St) : Prop := dσ.length = σ.length ∧ ∀ (i : Nat) (d : D), dσ[i]? = some (some d) → ∃ v, σ[i]? = some (some v) ∧ g8 c μ H d v
theorem J8.mono (x : Ext μ H μ' H') {dσ : DSt} {σ : St} (h : J8 c μ H dσ σ) : J8 c μ' H' dσ σ :=
 ⟨h.1, fun i d e => let ⟨v, a, b⟩ := h.2 i d e; ⟨v, a, b.mono x⟩⟩
theorem J8.put {dσ : DSt} {σ : St} (h : J8 c μ H dσ σ) {d : D} {v : V} (r : g8 c μ H d v) (i : Nat) : J8 c μ H (dσ.set i (some d)) (σ.set i (some v)) := by
 refine ⟨by simp [h.1], fun j d' e => ?_⟩
 rw [List.getElem?_set] at e ⊢
 by_cases ij : i = j
 · subst ij
   rw [if_pos rfl] at e ⊢
   rw [← h.1]
   split at e
   · rename_i hl
     rw [if_pos hl]
     cases e
     exact ⟨v, rfl, r⟩
   · cases e
 · rw [if_neg ij] at e ⊢
   exact h.2 j d' e
end
noncomputable def M (α : Type) := DH → Option (Except Str α × DH)
namespace M
noncomputable def pure {α : Type} (a : α) : M α := fun G => some (.ok a, G)
noncomputable def bind {α β : Type} (m : M α) (f : α → M β) : M β := fun G => match m G with
 | none => none
 | some (.ok a, G1) => f a G1
 | some (.error x, G1) => some (.error x, G1)
noncomputable def stuck {α : Type} : M α := fun _ => none
end M
noncomputable instance : Monad M := { pure := M.pure, bind := M.bind }
theorem M.bind_eq {α β : Type} (m : M α) (f : α → M β) (G : DH) : (m >>= f) G = match m G with
 | none => none
 | some (.ok a, G1) => f a G1
 | some (.error x, G1) => some (.error x, G1) := rfl
theorem M.bind_ok {α β : Type} {m : M α} {f : α → M β} {G G1 : DH} {a : α} (h : m G = some (.ok a, G1)) : (m >>= f) G = f a G1 := by rw [M.bind_eq, h]
theorem M.bind_assoc {α β γ : Type} (m : M α) (f : α → M β) (g : β → M γ) : ((m >>= f) >>= g) = (m >>= fun a => f a >>= g) := by
 funext G
 simp only [M.bind_eq]
 rcases m G with _ | p
 · rfl
 · obtain ⟨r, G1⟩ := p; cases r <;> rfl
noncomputable abbrev XC := Str → List Addr → DH → Hp → Prop
noncomputable def ZF : XC := fun _ _ _ _ => False
noncomputable def d9 {α : Type} (c : Wc) (Z : XC) (μ : List Addr) (H : Hp) (r : Option (Except Str α × DH)) (K : α → List Addr → DH → Hp → Prop) : Prop :=
 match r with
 | none => False
 | some (.ok a, G') => ∀ μ' H', Ext μ H μ' H' → t7 c μ' G' H' → K a μ' G' H'
 | some (.error x, G') => ∀ μ' H', Ext μ H μ' H' → t7 c μ' G' H' → Z x μ' G' H'
section
variable {α β : Type} {c : Wc} {Z : XC} {μ μ' : List Addr} {H H' : Hp}
theorem d9.mono {r : Option (Except Str α × DH)} {K K' : α → List Addr → DH → Hp → Prop} (h : d9 c Z μ H r K)
 (k : ∀ a μ' G' H', Ext μ H μ' H' → t7 c μ' G' H' → K a μ' G' H' → K' a μ' G' H') : d9 c Z μ H r K' := by
 match r, h with
 | some (.ok a, G'), h => exact fun μ' H' p e => k a μ' G' H' p e (h μ' H' p e)
 | some (.error x, G'), h => exact h
theorem d9.from {r : Option (Except Str α × DH)} {K : α → List Addr → DH → Hp → Prop} (h : d9 c Z μ H r K) (p : Ext μ H μ' H') : d9 c Z μ' H' r K := by
 match r, h with
 | some (.ok a, G'), h => exact fun μ2 H2 p2 e => h μ2 H2 (p.trans p2) e
 | some (.error x, G'), h => exact fun μ2 H2 p2 e => h μ2 H2 (p.trans p2) e
theorem d9.bind {m : M α} {f : α → M β} {G : DH} {K : β → List Addr → DH → Hp → Prop} (h : d9 c Z μ H ((m >>= f) G) K) :
 d9 c Z μ H (m G) (fun a μ' G' H' => d9 c Z μ' H' (f a G') K) := by
 rw [M.bind_eq] at h
 match m G, h with
 | some (.ok a, G'), h => exact fun μ' H' p e => d9.from h p
 | some (.error x, G'), h => exact h
theorem d9.ok {a : α} {G : DH} {K : α → List Addr → DH → Hp → Prop} (h : d9 c Z μ H (some (.ok a, G)) K) (e : t7 c μ G H) : K a μ G H := h μ H (Ext.refl _ _) e
end
inductive Fl where
 | nx (σ : DSt) | rt (d : D) | bk (σ : DSt) | ct (σ : DSt)
section
variable (c : Wc) (Z : XC)
def bB1 (f : DSt → M D) : TE := fun σ H Q => ∃ dσ μ G, J8 c μ H dσ σ ∧ t7 c μ G H ∧ d9 c Z μ H (f dσ G) fun d μ' _ H' => ∀ v, g8 c μ' H' d v → Q v H'
def bG1 (f : DSt → M Bool) : TT := fun σ H Q => ∃ dσ μ G, J8 c μ H dσ σ ∧ t7 c μ G H ∧ d9 c Z μ H (f dσ G) fun b μ' _ H' => Q b H'
def bV8 (f : DSt → M (List D)) : TA := fun σ H Q => ∃ dσ μ G, J8 c μ H dσ σ ∧ t7 c μ G H ∧ d9 c Z μ H (f dσ G) fun ds μ' _ H' => ∀ vs, o6 c μ' H' ds vs → Q vs H'
def bF7 (E : bH9) (fl : Fl) (μ : List Addr) (H : Hp) : Prop := match fl with
 | .nx dσ => ∀ σ, J8 c μ H dσ σ → E.nx σ H
 | .rt d => ∀ v, g8 c μ H d v → E.rt v H
 | .bk dσ => ∀ σ, J8 c μ H dσ σ → E.bk σ H
 | .ct dσ => ∀ σ, J8 c μ H dσ σ → E.ct σ H
def bI1 (f : DSt → M Fl) : TS := fun E σ H => ∃ dσ μ G, J8 c μ H dσ σ ∧ t7 c μ G H ∧ d9 c Z μ H (f dσ G) fun fl μ' _ H' => bF7 c E fl μ' H'
end
theorem bB1.elim {c : Wc} {Z : XC} {P : Prop} {f : DSt → M D} {σ : St} {H : Hp} {Q : VK} (h : bB1 c Z f σ H Q) (k : ∀ dσ μ G, J8 c μ H dσ σ → t7 c μ G H → d9 c Z μ H (f dσ G) (fun d μ' _ H' => ∀ v, g8 c μ' H' d v → Q v H') → P) : P := by
 obtain ⟨e0, e1, e2, e3, e4, e5⟩ := h
 exact k e0 e1 e2 e3 e4 e5
theorem bG1.elim {c : Wc} {Z : XC} {P : Prop} {f : DSt → M Bool} {σ : St} {H : Hp} {Q : Bool → Hp → Prop} (h : bG1 c Z f σ H Q) (k : ∀ dσ μ G, J8 c μ H dσ σ → t7 c μ G H → d9 c Z μ H (f dσ G) (fun b μ' _ H' => Q b H') → P) : P := by
 obtain ⟨e0, e1, e2, e3, e4, e5⟩ := h
 exact k e0 e1 e2 e3 e4 e5
theorem bV8.elim {c : Wc} {Z : XC} {P : Prop} {f : DSt → M (List D)} {σ : St} {H : Hp} {Q : List V → Hp → Prop} (h : bV8 c Z f σ H Q) (k : ∀ dσ μ G, J8 c μ H dσ σ → t7 c μ G H → d9 c Z μ H (f dσ G) (fun ds μ' _ H' => ∀ vs, o6 c μ' H' ds vs → Q vs H') → P) : P := by
 obtain ⟨e0, e1, e2, e3, e4, e5⟩ := h
 exact k e0 e1 e2 e3 e4 e5
theorem bI1.elim {c : Wc} {Z : XC} {P : Prop} {f : DSt → M Fl} {E : bH9} {σ : St} {H : Hp} (h : bI1 c Z f E σ H) (k : ∀ dσ μ G, J8 c μ H dσ σ → t7 c μ G H → d9 c Z μ H (f dσ G) (fun fl μ' _ H' => bF7 c E fl μ' H') → P) : P := by
 obtain ⟨e0, e1, e2, e3, e4, e5⟩ := h
 exact k e0 e1 e2 e3 e4 e5
structure DE (X : Cx) (Z : XC) (e : Expr) (f : DSt → M D) : Prop where
 h : PE X e (bB1 (wc X) Z f)
structure DT (X : Cx) (Z : XC) (e : Expr) (f : DSt → M Bool) : Prop where
 h : PT X e (bG1 (wc X) Z f)
structure DA (X : Cx) (Z : XC) (e : List Expr) (f : DSt → M (List D)) : Prop where
 h : PA X e (bV8 (wc X) Z f)
structure DS (X : Cx) (Z : XC) (e : Stmt) (f : DSt → M Fl) : Prop where
 h : PS X e (bI1 (wc X) Z f)
structure DB (X : Cx) (Z : XC) (e : List Stmt) (f : DSt → M Fl) : Prop where
 h : PSs X e (bI1 (wc X) Z f)
theorem PE.mono {X : Cx} {e : Expr} {t t' : TE} (h : PE X e t) (k : ∀ σ H Q, t' σ H Q → t σ H Q) : PE X e t' := fun pins s σ H Q I q => h pins s σ H Q I (k σ H Q q)
theorem PT.mono {X : Cx} {e : Expr} {t t' : TT} (h : PT X e t) (k : ∀ σ H Q, t' σ H Q → t σ H Q) : PT X e t' := fun pins s σ H Q I q => h pins s σ H Q I (k σ H Q q)
theorem PW.mono {X : Cx} {e : Expr} {t t' : TT} (h : PW X e t) (k : ∀ σ H Q, t' σ H Q → t σ H Q) : PW X e t' := fun wh pins s σ H Q I q => h wh pins s σ H Q I (k σ H Q q)
theorem PA.mono {X : Cx} {e : List Expr} {t t' : TA} (h : PA X e t) (k : ∀ σ H Q, t' σ H Q → t σ H Q) : PA X e t' := fun pos pins s σ H Q I q => h pos pins s σ H Q I (k σ H Q q)
theorem PS.mono {X : Cx} {e : Stmt} {t t' : TS} (h : PS X e t) (k : ∀ E σ H, t' E σ H → t E σ H) : PS X e t' := fun pins s σ H E I q => h pins s σ H E I (k E σ H q)
theorem PSs.mono {X : Cx} {e : List Stmt} {t t' : TS} (h : PSs X e t) (k : ∀ E σ H, t' E σ H → t E σ H) : PSs X e t' := fun pins s σ H E I q => h pins s σ H E I (k E σ H q)
theorem DE.of {X : Cx} {Z : XC} {e : Expr} {f : DSt → M D} {t : TE} (h : PE X e t) (k : ∀ σ H Q, bB1 (wc X) Z f σ H Q → t σ H Q) : DE X Z e f := ⟨PE.mono h k⟩
theorem DT.of {X : Cx} {Z : XC} {e : Expr} {f : DSt → M Bool} {t : TT} (h : PT X e t) (k : ∀ σ H Q, bG1 (wc X) Z f σ H Q → t σ H Q) : DT X Z e f := ⟨PT.mono h k⟩
theorem DA.of {X : Cx} {Z : XC} {e : List Expr} {f : DSt → M (List D)} {t : TA} (h : PA X e t) (k : ∀ σ H Q, bV8 (wc X) Z f σ H Q → t σ H Q) : DA X Z e f := ⟨PA.mono h k⟩
theorem DS.of {X : Cx} {Z : XC} {e : Stmt} {f : DSt → M Fl} {t : TS} (h : PS X e t) (k : ∀ E σ H, bI1 (wc X) Z f E σ H → t E σ H) : DS X Z e f := ⟨PS.mono h k⟩
theorem DB.of {X : Cx} {Z : XC} {e : List Stmt} {f : DSt → M Fl} {t : TS} (h : PSs X e t) (k : ∀ E σ H, bI1 (wc X) Z f E σ H → t E σ H) : DB X Z e f := ⟨PSs.mono h k⟩
end DL
namespace DL
open PySem PySem.Spec L2
open PyProof.Rows hiding St
noncomputable def V0 : Expr → Bool
 | .Starred .. => false
 | _ => true
theorem q17 {e : Expr} {es : List Expr} {env : Env} (h : V0 e = true) : starEach (e :: es) env = (false, eval e env) :: starEach es env := by
 cases e <;> first
  | rfl
  | cases h
theorem aJ4 {e : Expr} {env : Env} (h : V0 e = true) : starEach [e] env = [(false, eval e env)] := q17 h
theorem bW3 {a b : Expr} {env : Env} (h : V0 a = true) (h' : V0 b = true) : starEach [a, b] env = [(false, eval a env), (false, eval b env)] := by rw [q17 h, aJ4 h']
abbrev Fe := DSt → M D
noncomputable def c7 (i : Nat) : Fe := fun σ G => match σ[i]? with
 | some (some d) => some (.ok d, G)
 | _ => none
def cE (d : D) : Fe := fun _ => pure d
noncomputable def d7 (o : D → D → M D) (a b : Fe) : Fe := fun σ => do o (← a σ) (← b σ)
noncomputable def unE (o : D → M D) (a : Fe) : Fe := fun σ => do o (← a σ)
def q14 : DSt → M (List D) := fun _ => pure []
def q13 (a : Fe) (r : DSt → M (List D)) : DSt → M (List D) := fun σ => do
 let x ← a σ
 let xs ← r σ
 pure (x :: xs)
noncomputable def q15 (F : List D → M D) (a : DSt → M (List D)) : Fe := fun σ => do F (← a σ)
def dA7 : D → M Bool
 | .bl b => pure b
 | _ => M.stuck
def cR5 (a : Fe) : Fe := fun σ => do pure (.bl (!(← dA7 (← a σ))))
noncomputable def ifE (t : DSt → M Bool) (a b : Fe) : Fe := fun σ => do if ← t σ then a σ else b σ
section
variable (c : Wc) (Z : XC)
def aY0 (o : D → D → M D) : R2 := fun x y H Q => ∃ dx dy μ G, g8 c μ H dx x ∧ g8 c μ H dy y ∧ t7 c μ G H ∧ d9 c Z μ H (o dx dy G) fun d μ' _ H' => ∀ v, g8 c μ' H' d v → Q v H'
def cE3 (o : D → M D) : V → Hp → VK → Prop := fun x H Q => ∃ dx μ G, g8 c μ H dx x ∧ t7 c μ G H ∧ d9 c Z μ H (o dx G) fun d μ' _ H' => ∀ v, g8 c μ' H' d v → Q v H'
def aS5 (F : List D → M D) : List V → Hp → VK → Prop := fun xs H Q => ∃ ds μ G, o6 c μ H ds xs ∧ t7 c μ G H ∧ d9 c Z μ H (F ds G) fun d μ' _ H' => ∀ v, g8 c μ' H' d v → Q v H'
end
theorem aY0.elim {c : Wc} {Z : XC} {P : Prop} {o : D → D → M D} {x : V} {y : V} {H : Hp} {Q : VK} (h : aY0 c Z o x y H Q) (k : ∀ dx dy μ G, g8 c μ H dx x → g8 c μ H dy y → t7 c μ G H → d9 c Z μ H (o dx dy G) (fun d μ' _ H' => ∀ v, g8 c μ' H' d v → Q v H') → P) : P := by
 obtain ⟨e0, e1, e2, e3, e4, e5, e6, e7⟩ := h
 exact k e0 e1 e2 e3 e4 e5 e6 e7
theorem cE3.elim {c : Wc} {Z : XC} {P : Prop} {o : D → M D} {x : V} {H : Hp} {Q : VK} (h : cE3 c Z o x H Q) (k : ∀ dx μ G, g8 c μ H dx x → t7 c μ G H → d9 c Z μ H (o dx G) (fun d μ' _ H' => ∀ v, g8 c μ' H' d v → Q v H') → P) : P := by
 obtain ⟨e0, e1, e2, e3, e4, e5⟩ := h
 exact k e0 e1 e2 e3 e4 e5
theorem aS5.elim {c : Wc} {Z : XC} {P : Prop} {F : List D → M D} {xs : List V} {H : Hp} {Q : VK} (h : aS5 c Z F xs H Q) (k : ∀ ds μ G, o6 c μ H ds xs → t7 c μ G H → d9 c Z μ H (F ds G) (fun d μ' _ H' => ∀ v, g8 c μ' H' d v → Q v H') → P) : P := by
 obtain ⟨e0, e1, e2, e3, e4, e5⟩ := h
 exact k e0 e1 e2 e3 e4 e5
structure OpD (X : Cx) (Z : XC) (f : Value → Value → Sem Value) (o : D → D → M D) : Prop where
 h : OpR X f (aY0 (wc X) Z o)
structure UnD (X : Cx) (Z : XC) (f : Value → Sem Value) (o : D → M D) : Prop where
 h : UnR X f (cE3 (wc X) Z o)
structure Z6 (X : Cx) (Z : XC) (f : Value) (F : List D → M D) : Prop where
 h : Z8 X f (aS5 (wc X) Z F)
theorem OpR.mono {X : Cx} {f : Value → Value → Sem Value} {r r' : R2} (h : OpR X f r) (k : ∀ x y H Q, r' x y H Q → r x y H Q) : OpR X f r' := fun pins s σ H x y v u Q I rx ry q => h pins s σ H x y v u Q I rx ry (k x y H Q q)
theorem Z8.mono {X : Cx} {f : Value} {r r' : List V → Hp → VK → Prop} (h : Z8 X f r) (k : ∀ xs H Q, r' xs H Q → r xs H Q) : Z8 X f r' := fun pins s σ H xs us Q I rx q => h pins s σ H xs us Q I rx (k xs H Q q)
theorem OpD.of {X : Cx} {Z : XC} {f : Value → Value → Sem Value} {o : D → D → M D} {r : R2} (h : OpR X f r) (k : ∀ x y H Q, aY0 (wc X) Z o x y H Q → r x y H Q) : OpD X Z f o := ⟨OpR.mono h k⟩
theorem Z6.of {X : Cx} {Z : XC} {f : Value} {F : List D → M D} {r : List V → Hp → VK → Prop} (h : Z8 X f r) (k : ∀ xs H Q, aS5 (wc X) Z F xs H Q → r xs H Q) : Z6 X Z f F := ⟨Z8.mono h k⟩
section
variable {X : Cx} {Z : XC} {a b c e : Expr} {es : List Expr} {fa fb fc : Fe} {pos : Pos}
theorem aU6 {cc : Wc} {o : D → D → M D} (σ : St) (H : Hp) (Q : VK) (h : bB1 cc Z (d7 o fa fb) σ H Q) : tOp (aY0 cc Z o) (bB1 cc Z fa) (bB1 cc Z fb) σ H Q := by
 obtain ⟨dσ, μ, G, s, h, p⟩ := h
 exact ⟨dσ, μ, G, s, h, (d9.bind p).mono fun x μ1 G1 H1 x' h1 p1 v rv => ⟨dσ, μ1, G1, s.mono x', h1, (d9.bind p1).mono fun y μ2 G2 H2 x2 h2 p2 u ru => ⟨x, y, μ2, G2, rv.mono x2, ru, h2, p2⟩⟩⟩
theorem dS6 {i : Nat} (h : PE X e (dZ2 i)) : DE X Z e (c7 i) := DE.of h fun σ H Q hE0 => hE0.elim fun dσ μ G s h p => by
 delta c7 at p
 rcases he : dσ[i]? with _ | _ | d
 · rw [he] at p; exact p.elim
 · rw [he] at p; exact p.elim
 · rw [he] at p
   obtain ⟨v, e1, r⟩ := s.2 i d he
   exact ⟨v, e1, d9.ok p h v r⟩
theorem cS6 {d : D} {v : V} (h : PE X e (tC v)) (r : ∀ μ H, g8 (wc X) μ H d v) : DE X Z e (cE d) := DE.of h fun σ H Q hE0 => hE0.elim fun dσ μ G s h p => d9.ok p h v (r _ _)
theorem q20 {i j pos} : DE X Z (.Constant (.int i) j pos) (cE (.int i)) := cS6 dP3 fun _ _ => by unfold g8; rfl
theorem de_bl {i j pos} : DE X Z (.Constant (.bool i) j pos) (cE (.bl i)) := cS6 dV3 fun _ _ => by unfold g8; rfl
theorem de_non {j pos} : DE X Z (.Constant .none j pos) (cE .non) := cS6 dN4 fun _ _ => by unfold g8; rfl
theorem de_str {i j pos} : DE X Z (.Constant (.str i) j pos) (cE (.str i)) := cS6 dL6 fun _ _ => by unfold g8; rfl
theorem de_v (i : Nat) {x : Str} {pos : Pos} (hN : X.N[i]? = some x) (hv : Vis X.env.scope x) (hd : (x == ("__debug__" : Str)) = false)
 (hcd : (x == ("__classdict__" : Str)) = false) : DE X Z (.Name x pos) (c7 i) := dS6 (dN8 hN hv hd hcd)
theorem de_op {op : Operator} {o : D → D → M D} (ho : OpD X Z (binaryOp op) o) (ha : DE X Z a fa) (hb : DE X Z b fb) : DE X Z (.BinOp a op b pos) (d7 o fa fb) :=
 DE.of (dY9 ho.h ha.h hb.h) aU6
theorem de_cmp {op : CmpOp} {o : D → D → M D} (ho : OpD X Z (compareOp op) o) (ha : DE X Z a fa) (hb : DE X Z b fb) (hm : behindInMarks op b = false) : DE X Z (.Compare a [op] [b] pos) (d7 o fa fb) :=
 DE.of (dB2 ho.h ha.h hb.h hm) aU6
theorem de_un {op : UnaryOp} {o : D → M D} (ho : UnD X Z (unaryOp op) o) (ha : DE X Z a fa) : DE X Z (.UnaryOp op a pos) (unE o fa) :=
 DE.of (dV4 ho.h ha.h) fun σ H Q hE0 => hE0.elim fun dσ μ G s h p => ⟨dσ, μ, G, s, h, (d9.bind p).mono fun x μ1 G1 H1 x' h1 p1 v rv => ⟨x, μ1, G1, rv, h1, p1⟩⟩
theorem bM1 {α : Type} {cc : Wc} {μ : List Addr} {H : Hp} {d : D} {f : Bool → M α} {G : DH} {K : α → List Addr → DH → Hp → Prop} (p : d9 cc Z μ H ((dA7 d >>= f) G) K) : ∃ k, d = .bl k ∧ d9 cc Z μ H (f k G) K := by
 cases d with
 | bl k => exact ⟨k, rfl, p⟩
 | _ => exact p.elim
theorem de_one {op} {f : Fe} (h : DE X Z a f) : DE X Z (.BoolOp op [a] pos) f := ⟨dL5 h.h⟩
theorem de_not (ha : DE X Z a fa) : DE X Z (.UnaryOp .Not a pos) (cR5 fa) :=
 DE.of (dM5 ha.h) fun σ H Q hE0 => hE0.elim fun dσ μ G s h p => ⟨dσ, μ, G, s, h, (d9.bind p).mono fun x μ1 G1 H1 x' h1 p1 v rv => by
  obtain ⟨k', rfl, p2⟩ := bM1 p1
  unfold g8 at rv
  exact ⟨k', rv, d9.ok p2 h1 _ (by unfold g8; rfl)⟩⟩
def v6 (f : Fe) : DSt → M Bool := fun σ => do dA7 (← f σ)
def aB2 (a b : DSt → M Bool) : DSt → M Bool := fun σ => do if ← a σ then b σ else pure false
def orT (a b : DSt → M Bool) : DSt → M Bool := fun σ => do if ← a σ then pure true else b σ
def aD1 (a : DSt → M Bool) : DSt → M Bool := fun σ => do pure (!(← a σ))
structure DW (X : Cx) (Z : XC) (e : Expr) (f : DSt → M Bool) : Prop where
 h : PW X e (bG1 (wc X) Z f)
theorem DW.of {X : Cx} {Z : XC} {e : Expr} {f : DSt → M Bool} {t : TT} (h : PW X e t) (k : ∀ σ H Q, bG1 (wc X) Z f σ H Q → t σ H Q) : DW X Z e f := ⟨PW.mono h k⟩
variable {ta tb : DSt → M Bool} {Z4 : List Expr}
theorem DW.dt (h : DW X Z a ta) : DT X Z a ta := ⟨fun pins s σ H Q I q => h.h _ pins s σ H Q I q⟩
theorem dt_cmp {op : CmpOp} {o : D → D → M D} (ho : OpD X Z (compareOp op) o) (ha : DE X Z a fa) (hb : DE X Z b fb) (hm : behindInMarks op b = false) : DT X Z (.Compare a [op] [b] pos) (v6 (d7 o fa fb)) :=
 DT.of (dE3 ho.h ha.h hb.h hm) fun σ H Q hE0 => hE0.elim fun dσ μ G s h p => aU6 σ H _ ⟨dσ, μ, G, s, h, (d9.bind p).mono fun x μ1 G1 H1 x' h1 p1 v rv => by
  cases x with
  | bl k' => unfold g8 at rv; exact ⟨k', rv, d9.ok p1 h1⟩
  | _ => exact p1.elim⟩
theorem dw_and1 (ha : DT X Z a ta) : DW X Z (.BoolOp .And [a] pos) ta := ⟨dE5 ha.h⟩
theorem dw_or1 (ha : DT X Z a ta) : DW X Z (.BoolOp .Or [a] pos) ta := ⟨dP0 ha.h⟩
theorem dw_and (ha : DT X Z a ta) (hb : DW X Z (.BoolOp .And (b :: Z4) pos) tb) : DW X Z (.BoolOp .And (a :: b :: Z4) pos) (aB2 ta tb) :=
 DW.of (dS9 ha.h hb.h) fun σ H Q hE0 => hE0.elim fun dσ μ G s h p => ⟨dσ, μ, G, s, h, (d9.bind p).mono fun x μ1 G1 H1 x' h1 p1 => by
  cases x with
  | true => exact ⟨dσ, μ1, G1, s.mono x', h1, p1⟩
  | false => exact d9.ok p1 h1⟩
theorem dw_or (ha : DT X Z a ta) (hb : DW X Z (.BoolOp .Or (b :: Z4) pos) tb) : DW X Z (.BoolOp .Or (a :: b :: Z4) pos) (orT ta tb) :=
 DW.of (dX6 ha.h hb.h) fun σ H Q hE0 => hE0.elim fun dσ μ G s h p => ⟨dσ, μ, G, s, h, (d9.bind p).mono fun x μ1 G1 H1 x' h1 p1 => by
  cases x with
  | false => exact ⟨dσ, μ1, G1, s.mono x', h1, p1⟩
  | true => exact d9.ok p1 h1⟩
theorem dt_not (ha : DT X Z a ta) : DT X Z (.UnaryOp .Not a pos) (aD1 ta) :=
 DT.of (dM0 ha.h) fun σ H Q hE0 => hE0.elim fun dσ μ G s h p => ⟨dσ, μ, G, s, h, (d9.bind p).mono fun x μ1 G1 H1 x' h1 p1 => d9.ok p1 h1⟩
theorem de_if (hc : DT X Z c ta) (ha : DE X Z a fa) (hb : DE X Z b fb) : DE X Z (.IfExp c a b pos) (ifE ta fa fb) :=
 DE.of (cX4 hc.h ha.h hb.h) fun σ H Q hE0 => hE0.elim fun dσ μ G s h p => ⟨dσ, μ, G, s, h, (d9.bind p).mono fun x μ1 G1 H1 x' h1 p1 => by
  cases x with
  | true => exact ⟨dσ, μ1, G1, s.mono x', h1, p1⟩
  | false => exact ⟨dσ, μ1, G1, s.mono x', h1, p1⟩⟩
variable {fs : DSt → M (List D)}
theorem q19 : DA X Z [] q14 := DA.of dL9 fun σ H Q hE0 => hE0.elim fun dσ μ G s h p => d9.ok p h [] rfl
theorem q18 (ha : DE X Z e fa) (hr : DA X Z es fs) (hs : starEach (e :: es) X.env = (false, eval e X.env) :: starEach es X.env) : DA X Z (e :: es) (q13 fa fs) :=
 DA.of (dD0 ha.h hr.h hs) fun σ H Q hE0 => hE0.elim fun dσ μ G s h p => ⟨dσ, μ, G, s, h, (d9.bind p).mono fun x μ1 G1 H1 x' h1 p1 v rv =>
  ⟨dσ, μ1, G1, s.mono x', h1, (d9.bind p1).mono fun xs μ2 G2 H2 x2 h2 p2 vs rvs => d9.ok p2 h2 (v :: vs) ⟨v, vs, rfl, rv.mono x2, rvs⟩⟩⟩
def u6 (fs : DSt → M (List D)) : Fe := fun σ => do
 let xs ← fs σ
 if xs.length ≤ sizeLine then pure (.tup xs) else M.stuck
noncomputable def N7 (o : DO) : M D := fun G => some (.ok (.ref G.length), G ++ [o])
def P0 (fs : DSt → M (List D)) : Fe := fun σ => do
 let xs ← fs σ
 if xs.length ≤ sizeLine then N7 (.lst xs) else M.stuck
theorem aV1 {cc : Wc} {μ : List Addr} {H : Hp} {G : DH} {xs : List D} {vs : List V} {Q : VK} (h : t7 cc μ G H) (r : o6 cc μ H xs vs)
 (p : d9 cc Z μ H (some (Except.ok (.tup xs), G)) fun d μ' _ H' => ∀ v, g8 cc μ' H' d v → Q v H') (q : Addr) (hq : H q = none) : Q (.ref q) (upd H q (.tup vs)) := by
 have k : Ext μ H μ (upd H q (.tup vs)) := Ext.lay hq _
 refine p μ _ k (h.same k fun a o e n => ?_) _ ?_
 · rw [t8 (J0 e hq)]; exact e
 · unfold g8
   exact ⟨q, vs, rfl, SqT.of M8, r.mono k⟩
theorem aB1 {cc : Wc} {μ : List Addr} {H : Hp} {G : DH} {xs : List D} {vs : List V} {Q : VK} (h : t7 cc μ G H) (r : o6 cc μ H xs vs)
 (p : d9 cc Z μ H (N7 (.lst xs) G) fun d μ' _ H' => ∀ v, g8 cc μ' H' d v → Q v H') (q : Addr) (hq : H q = none) : Q (.ref q) (upd H q (.lst vs)) := by
 have k : Ext μ H (μ ++ [q]) (upd H q (.lst vs)) := Ext.add hq _
 refine p (μ ++ [q]) _ k (h.new hq ⟨vs, M8, r.mono k⟩) _ ?_
 unfold g8
 exact ⟨q, by rw [← h.len]; simp, rfl⟩
theorem de_tup {x1} (h : DA X Z es fs) : DE X Z (.Tuple es x1 pos) (u6 fs) :=
 DE.of (dS5 h.h) fun σ H Q hE0 => hE0.elim fun dσ μ G s h p => ⟨dσ, μ, G, s, h, (d9.bind p).mono fun xs μ1 G1 H1 x' h1 p1 vs rv => by
  split at p1
  · rename_i hz
    exact ⟨by rw [← rv.length]; exact hz, fun q hq => aV1 h1 rv p1 q hq⟩
  · exact p1.elim⟩
theorem de_lst (h : DA X Z es fs) : DE X Z (.List es pos) (P0 fs) :=
 DE.of (dS7 h.h) fun σ H Q hE0 => hE0.elim fun dσ μ G s h p => ⟨dσ, μ, G, s, h, (d9.bind p).mono fun xs μ1 G1 H1 x' h1 p1 vs rv => by
  split at p1
  · rename_i hz
    exact ⟨by rw [← rv.length]; exact hz, fun q hq => aB1 h1 rv p1 q hq⟩
  · exact p1.elim⟩
theorem bO5 {cc : Wc} {F : List D → M D} (σ : St) (H : Hp) (Q : VK) (h : bB1 cc Z (q15 F fs) σ H Q) : tCB (aS5 cc Z F) (bV8 cc Z fs) σ H Q := by
 obtain ⟨dσ, μ, G, s, h, p⟩ := h
 exact ⟨dσ, μ, G, s, h, (d9.bind p).mono fun x μ1 G1 H1 x' h1 p1 vs rv => ⟨x, μ1, G1, rv, h1, p1⟩⟩
theorem dA3 {F : List D → M D} {id : String} {x : Str} {p : Pos} (hc : Z6 X Z (.builtin id) F) (hg : Gl X x) (hm : X.mg x = none) (hv : bootBuiltins x = some (.builtin id)) (ha : DA X Z (e :: es) fs) (hn : x ≠ "__name__") (hdb : (x == ("__debug__" : Str)) = false)
 (he : starEach (e :: es) X.env = (false, eval e X.env) :: starEach es X.env) (hpl : (backTo pos (starEach es X.env)).any (·.1) = false) : DE X Z (.Call (.Name x p) (e :: es) [] pos) (q15 F fs) :=
 DE.of (cY2 hc.h hg hm hv ha.h hn hdb he hpl) bO5
theorem cM5 {F : List D → M D} {T : String} {x : Str} {p : Pos} (hc : Z6 X Z (.type T) F) (hg : Gl X x) (hm : X.mg x = none) (hv : bootBuiltins x = some (.type T)) (ha : DA X Z (e :: es) fs) (hn : x ≠ "__name__") (hdb : (x == ("__debug__" : Str)) = false)
 (he : starEach (e :: es) X.env = (false, eval e X.env) :: starEach es X.env) (hpl : (backTo pos (starEach es X.env)).any (·.1) = false) : DE X Z (.Call (.Name x p) (e :: es) [] pos) (q15 F fs) :=
 DE.of (cQ2 hc.h hg hm hv ha.h hn hdb he hpl) bO5
def spD (c : Wc) (n : Nat) (F : List D → M D) : Sp := fun vs H Q _ => vs.length = n ∧ ∃ ds μ G, o6 c μ H ds vs ∧ t7 c μ G H ∧ d9 c ZF μ H (F ds G) fun d μ' _ H' => ∀ v, g8 c μ' H' d v → Q v H'
noncomputable def noX {α : Type} (m : M α) : M α := fun G => match m G with
 | some (.ok a, G1) => some (.ok a, G1)
 | _ => none
theorem cB1 {α : Type} {cc : Wc} {μ : List Addr} {H : Hp} {m : M α} {G : DH} {K : α → List Addr → DH → Hp → Prop} (p : d9 cc Z μ H (noX m G) K) : d9 cc ZF μ H (m G) K := by
 unfold noX at p
 match m G, p with
 | some (.ok a, G1), p => exact p
 | some (.error x, G1), p => exact p.elim
 | none, p => exact p.elim
def fnX (n : Nat) (F : List D → M D) : List D → M D := fun ds => if ds.length = n then noX (F ds) else M.stuck
theorem cB5 {cc : Wc} {μ : List Addr} {H : Hp} {n : Nat} {F : List D → M D} {ds : List D} {G : DH} {K : D → List Addr → DH → Hp → Prop} (p : d9 cc Z μ H (fnX n F ds G) K) : ds.length = n ∧ d9 cc ZF μ H (F ds G) K := by
 unfold fnX at p
 split at p
 · rename_i h; exact ⟨h, cB1 p⟩
 · exact p.elim
theorem dG9 {F : List D → M D} {k n : Nat} {f : Addr} {fd : FuncData} {ps : List Str} {x : Str} {p : Pos} (hF : J9 X.prog X.w X.K X.mg X.base CX0 k f fd ps (spD (wc X) n F)) (hr : aH0 k X.A) (hg : Gl X x) (hm : X.mg x = some (.ref f)) (hk : PySem.W.keepIn X.K (.ref f) = true) (hb : aV4 X.K fd ps [])
 (ha : DA X Z (e :: es) fs)
 (hdb : (x == ("__debug__" : Str)) = false) (he : starEach (e :: es) X.env = (false, eval e X.env) :: starEach es X.env) (hpl : (backTo pos (starEach es X.env)).any (·.1) = false) :
 DE X Z (.Call (.Name x p) (e :: es) [] pos) (q15 (fnX n F) fs) :=
 DE.of (dE0 hF hr hg hm hk hb .nil dK5 ha.h hdb he hpl) fun σ H Q hE0 => hE0.elim fun dσ μ G s h p => by
  refine ⟨dσ, μ, G, s, h, (d9.bind p).mono fun ds' μ1 G1 H1 x' h1 p1 vs rv => ?_⟩
  obtain ⟨hl, p2⟩ := cB5 p1
  show spD (wc X) n F (vs ++ []) H1 Q E0
  rw [List.append_nil]
  exact ⟨by rw [← rv.length]; exact hl, ds', μ1, G1, rv, h1, p2⟩
end
abbrev Fs := DSt → M Fl
def J5 : Fs := fun σ => pure (.nx σ)
def j9 (a b : Fs) : Fs := fun σ => do
 match ← a σ with
 | .nx σ' => b σ'
 | r => pure r
def t6 (f : Fe) : Fs := fun σ => do pure (.rt (← f σ))
def aO2 (f : Fe) : Fs := fun σ => do
 let _ ← f σ
 pure (.nx σ)
noncomputable def ifS (t : DSt → M Bool) (a b : Fs) : Fs := fun σ => do if ← t σ then a σ else b σ
abbrev Fg := D → DSt → M DSt
abbrev Fgs := List D → DSt → M DSt
def q16 (i : Nat) : Fg := fun d σ => pure (σ.set i (some d))
def bD9 : Fgs := fun ds σ => match ds with
 | [] => pure σ
 | _ => M.stuck
def Q7 (g : Fg) (r : Fgs) : Fgs := fun ds σ => match ds with
 | d :: t => do r t (← g d σ)
 | [] => M.stuck
def bD2 (n : Nat) (g : Fgs) : Fg := fun d σ => match d with
 | .tup l => if l.length = n then g l σ else M.stuck
 | _ => M.stuck
def J4 (f : Fe) (g : Fg) : Fs := fun σ => do
 let d ← f σ
 let σ' ← g d σ
 pure (.nx σ')
section
variable (c : Wc) (Z : XC)
def cL1 (g : Fg) : TG := fun v σ H Q => ∃ d dσ μ G, g8 c μ H d v ∧ J8 c μ H dσ σ ∧ t7 c μ G H ∧ d9 c Z μ H (g d dσ G) fun dσ' μ' _ H' => ∀ σ', J8 c μ' H' dσ' σ' → Q σ' H'
def bS7 (g : Fgs) : TGs := fun vs σ H Q => ∃ ds dσ μ G, o6 c μ H ds vs ∧ J8 c μ H dσ σ ∧ t7 c μ G H ∧ d9 c Z μ H (g ds dσ G) fun dσ' μ' _ H' => ∀ σ', J8 c μ' H' dσ' σ' → Q σ' H'
end
theorem cL1.elim {c : Wc} {Z : XC} {P : Prop} {g : Fg} {v : V} {σ : St} {H : Hp} {Q : St → Hp → Prop} (h : cL1 c Z g v σ H Q) (k : ∀ d dσ μ G, g8 c μ H d v → J8 c μ H dσ σ → t7 c μ G H → d9 c Z μ H (g d dσ G) (fun dσ' μ' _ H' => ∀ σ', J8 c μ' H' dσ' σ' → Q σ' H') → P) : P := by
 obtain ⟨e0, e1, e2, e3, e4, e5, e6, e7⟩ := h
 exact k e0 e1 e2 e3 e4 e5 e6 e7
theorem bS7.elim {c : Wc} {Z : XC} {P : Prop} {g : Fgs} {vs : List V} {σ : St} {H : Hp} {Q : St → Hp → Prop} (h : bS7 c Z g vs σ H Q) (k : ∀ ds dσ μ G, o6 c μ H ds vs → J8 c μ H dσ σ → t7 c μ G H → d9 c Z μ H (g ds dσ G) (fun dσ' μ' _ H' => ∀ σ', J8 c μ' H' dσ' σ' → Q σ' H') → P) : P := by
 obtain ⟨e0, e1, e2, e3, e4, e5, e6, e7⟩ := h
 exact k e0 e1 e2 e3 e4 e5 e6 e7
structure DG (X : Cx) (Z : XC) (tg : Expr) (g : Fg) : Prop where
 h : PG X tg (cL1 (wc X) Z g)
structure DGs (X : Cx) (Z : XC) (tgs : List Expr) (g : Fgs) : Prop where
 h : PGs X tgs (bS7 (wc X) Z g)
theorem PG.mono {X : Cx} {e : Expr} {t t' : TG} (h : PG X e t) (k : ∀ v σ H Q, t' v σ H Q → t v σ H Q) : PG X e t' := fun pins s σ H v u Q I r q => h pins s σ H v u Q I r (k v σ H Q q)
theorem PGs.mono {X : Cx} {e : List Expr} {t t' : TGs} (h : PGs X e t) (k : ∀ v σ H Q, t' v σ H Q → t v σ H Q) : PGs X e t' := fun pins s σ H v u Q I r q => h pins s σ H v u Q I r (k v σ H Q q)
theorem DG.of {X : Cx} {Z : XC} {e : Expr} {g : Fg} {t : TG} (h : PG X e t) (k : ∀ v σ H Q, cL1 (wc X) Z g v σ H Q → t v σ H Q) : DG X Z e g := ⟨PG.mono h k⟩
theorem DGs.of {X : Cx} {Z : XC} {e : List Expr} {g : Fgs} {t : TGs} (h : PGs X e t) (k : ∀ v σ H Q, bS7 (wc X) Z g v σ H Q → t v σ H Q) : DGs X Z e g := ⟨PGs.mono h k⟩
section
variable {X : Cx} {Z : XC} {a b c e tg : Expr} {es : List Expr} {fa fb : Fe} {pos : Pos} {st : Stmt} {Z4 sa sb : List Stmt} {f g : Fs}
theorem db_nil : DB X Z [] J5 := DB.of dI0 fun E σ H hE0 => hE0.elim fun dσ μ G s h p => d9.ok p h σ s
theorem dH1 {cc : Wc} {E : bH9} {μ : List Addr} {G : DH} {H : Hp} {fl : Fl} (h : t7 cc μ G H)
 (p : d9 cc Z μ H ((match fl with | .nx σ' => g σ' | r => pure r : M Fl) G) fun fl μ' _ H' => bF7 cc E fl μ' H') : bF7 cc { E with nx := bI1 cc Z g E } fl μ H := by
 cases fl with
 | nx dσ => exact fun σ s => ⟨dσ, μ, G, s, h, p⟩
 | rt d => exact d9.ok p h
 | bk dσ => exact d9.ok p h
 | ct dσ => exact d9.ok p h
theorem db_cons (h1 : DS X Z st f) (h2 : DB X Z Z4 g) : DB X Z (st :: Z4) (j9 f g) :=
 DB.of (cV5 h1.h h2.h) fun E σ H hE0 => hE0.elim fun dσ μ G s h p => ⟨dσ, μ, G, s, h, (d9.bind p).mono fun fl μ1 G1 H1 x' h1 p1 => dH1 h1 p1⟩
theorem db_one (h1 : DS X Z st f) : DB X Z [st] f := ⟨dC9 h1.h⟩
theorem ds_expr (he : DE X Z e fa) (hs : swapsWith e none pos.line X.env = pure false) : DS X Z (.Expr e pos) (aO2 fa) :=
 DS.of (dI7 he.h hs) fun E σ H hE0 => hE0.elim fun dσ μ G s h p => ⟨dσ, μ, G, s, h, (d9.bind p).mono fun d μ1 G1 H1 x' h1 p1 v rv => d9.ok p1 h1 σ (s.mono x')⟩
theorem ds_ret (he : DE X Z e fa) : DS X Z (.Return (some e) pos) (t6 fa) :=
 DS.of (dR7 he.h) fun E σ H hE0 => hE0.elim fun dσ μ G s h p => ⟨dσ, μ, G, s, h, (d9.bind p).mono fun d μ1 G1 H1 x' h1 p1 v rv => d9.ok p1 h1 v rv⟩
theorem ds_if {t : DSt → M Bool} (hc : DT X Z c t) (ha : DB X Z sa f) (hb : DB X Z sb g) : DS X Z (.If c sa sb pos) (ifS t f g) :=
 DS.of (eA7 hc.h ha.h hb.h) fun E σ H hE0 => hE0.elim fun dσ μ G s h p => ⟨dσ, μ, G, s, h, (d9.bind p).mono fun x μ1 G1 H1 x' h1 p1 => by
  cases x with
  | true => exact ⟨dσ, μ1, G1, s.mono x', h1, p1⟩
  | false => exact ⟨dσ, μ1, G1, s.mono x', h1, p1⟩⟩
theorem dg_name {i : Nat} {x : Str} (hN : X.N.Nodup) (hi : X.N[i]? = some x) (hx : Loc X.env.scope x) (hf : X.fn x = true ∨ X.env.scope.names.lookup x = some .local) : DG X Z (.Name x pos) (q16 i) :=
 DG.of (dG5 hN hi hx hf) fun v σ H Q hE0 => hE0.elim fun d dσ μ G r s h p => d9.ok p h _ (s.put r i)
theorem dgs_nil : DGs X Z [] bD9 := DGs.of dH4 fun vs σ H Q hE0 => hE0.elim fun ds dσ μ G r s h p => by
 cases ds with
 | nil => cases r; exact ⟨rfl, d9.ok p h _ s⟩
 | cons _ _ => exact p.elim
theorem dgs_cons {gg : Fg} {gr : Fgs} (h1 : DG X Z e gg) (h2 : DGs X Z es gr) (hs : (assignEach (e :: es) X.env).map (·.2) = assign e X.env :: (assignEach es X.env).map (·.2)) : DGs X Z (e :: es) (Q7 gg gr) :=
 DGs.of (cU1 h1.h h2.h hs) fun vs σ H Q hE0 => hE0.elim fun ds dσ μ G r s h p => by
  cases ds with
  | nil => exact p.elim
  | cons d t =>
    obtain ⟨v, vr, rfl, rv, rt⟩ := r
    exact ⟨v, vr, rfl, d, dσ, μ, G, rv, s, h, (d9.bind p).mono fun dσ1 μ1 G1 H1 x' h1 p1 σ1 s1 => ⟨t, dσ1, μ1, G1, rt.mono x', s1, h1, p1⟩⟩
theorem dg_tup {gs : Fgs} {k n : Nat} (hc : X.calm = true) (h : DGs X Z es gs) (hn : (assignEach es X.env).length = n) (hst : (assignEach es X.env).findIdx? (·.1) = none) : DG X Z (.Tuple es k pos) (bD2 n gs) :=
 DG.of (dR0 hc h.h hn hst) fun v σ H Q hE0 => hE0.elim fun d dσ μ G r s h p => by
  cases d with
  | tup l =>
    unfold g8 at r
    obtain ⟨a, vs, rfl, q, rl⟩ := r
    have p' : d9 (wc X) Z μ H ((if l.length = n then gs l dσ else M.stuck : M DSt) G) fun dσ' μ' _ H' => ∀ σ', J8 (wc X) μ' H' dσ' σ' → Q σ' H' := p
    split at p'
    · rename_i hl
      exact ⟨a, vs, rfl, q, by rw [← rl.length]; exact hl, l, dσ, μ, G, rl, s, h, p'⟩
    · exact p'.elim
  | _ => exact p.elim
theorem ds_asg {gg : Fg} (he : DE X Z e fa) (hg : DG X Z tg gg) (hs : swapsWithSole [tg] e pos.line X.env = pure false) (hw : swappedStores [tg] e X.env = pure none)
 (h1 : (assignEach [tg] X.env).map (·.2) = [assign tg X.env]) : DS X Z (.Assign [tg] e pos) (J4 fa gg) :=
 DS.of (dN9 he.h hg.h hs hw h1) fun E σ H hE0 => hE0.elim fun dσ μ G s h p => ⟨dσ, μ, G, s, h, (d9.bind p).mono fun d μ1 G1 H1 x' h1 p1 v rv =>
  ⟨d, dσ, μ1, G1, rv, s.mono x', h1, (d9.bind p1).mono fun dσ2 μ2 G2 H2 x2 h2 p2 σ2 s2 => d9.ok p2 h2 σ2 s2⟩⟩
end
def U0 : Nat → (DSt → M Bool) → Fs → Fs
 | 0, _, _ => fun _ => M.stuck
 | n + 1, t, b => fun σ => do
   if ← t σ then
    match ← b σ with
    | .nx σ' => U0 n t b σ'
    | .ct σ' => U0 n t b σ'
    | .bk σ' => pure (.nx σ')
    | .rt d => pure (.rt d)
   else pure (.nx σ)
open Classical in
def aN4 (t : DSt → M Bool) (b : Fs) : Fs := fun σ G => if h : ∃ n, (U0 n t b σ G).isSome = true then U0 (Classical.choose h) t b σ G else none
theorem M.bind_mono {α β : Type} {m : M α} {f g : α → M β} {G : DH} {r : Except Str β × DH} (h : (m >>= f) G = some r) (k : ∀ a G', f a G' = some r → g a G' = some r) : (m >>= g) G = some r := by
 rw [M.bind_eq] at h ⊢
 match m G, h with
 | some (.ok a, G'), h => exact k a G' h
 | some (.error x, G'), h => exact h
theorem aP8 {t : DSt → M Bool} {b : Fs} : ∀ {n : Nat} {σ : DSt} {G : DH} {r : Except Str Fl × DH}, U0 n t b σ G = some r → U0 (n + 1) t b σ G = some r
 | 0, _, _, _, h => by cases h
 | n + 1, σ, G, r, h => by
   unfold U0 at h ⊢
   refine M.bind_mono h fun c G1 h1 => ?_
   cases c with
   | true =>
     refine M.bind_mono h1 fun fl G2 h2 => ?_
     cases fl with
     | nx σ' => exact aP8 h2
     | ct σ' => exact aP8 h2
     | bk σ' => exact h2
     | rt d => exact h2
   | false => exact h1
theorem bO1 {t : DSt → M Bool} {b : Fs} {n m : Nat} (hm : n ≤ m) {σ : DSt} {G : DH} {r : Except Str Fl × DH} (h : U0 n t b σ G = some r) : U0 m t b σ G = some r := by
 induction hm with
 | refl => exact h
 | step _ ih => exact aP8 ih
section
variable {X : Cx} {Z : XC} {c : Expr} {pos : Pos} {body : List Stmt} {t : DSt → M Bool} {f : Fs}
theorem ds_while (hp : PassesOwn (model X.prog X.w) X.A X.env X.xe) (hc : DT X Z c t) (hb : DB X Z body f) : DS X Z (.While c body [] pos) (aN4 t f) :=
 DS.of (cS3 hp hc.h hb.h) fun E σ H hE0 => hE0.elim fun dσ μ G s h p => by
  unfold aN4 at p
  split at p
  · rename_i ex
    refine ⟨fun m σ H => ∃ dσ μ G, J8 (wc X) μ H dσ σ ∧ t7 (wc X) μ G H ∧ d9 (wc X) Z μ H (U0 m t f dσ G) fun fl μ' _ H' => bF7 (wc X) E fl μ' H', ⟨_, dσ, μ, G, s, h, p⟩, ?_⟩
    rintro m σ H ⟨dσ, μ, G, s, h, p⟩
    cases m with
    | zero => exact p.elim
    | succ m =>
      refine ⟨dσ, μ, G, s, h, (d9.bind p).mono fun x μ1 G1 H1 x' h1 p1 => ?_⟩
      cases x with
      | false => exact d9.ok p1 h1 σ (s.mono x')
      | true =>
        refine ⟨fun σ' H' => ∃ dσ μ G, J8 (wc X) μ H' dσ σ' ∧ t7 (wc X) μ G H' ∧ d9 (wc X) Z μ H' (U0 m t f dσ G) fun fl μ' _ H' => bF7 (wc X) E fl μ' H', fun σ' H' w => ⟨m, Nat.lt_succ_self _, w⟩, dσ, μ1, G1, s.mono x', h1, (d9.bind p1).mono fun fl μ2 G2 H2 x2 h2 p2 => ?_⟩
        cases fl with
        | nx dσ' => exact fun σ' s' => ⟨dσ', μ2, G2, s', h2, p2⟩
        | ct dσ' => exact fun σ' s' => ⟨dσ', μ2, G2, s', h2, p2⟩
        | bk dσ' => exact fun σ' s' => d9.ok p2 h2 σ' s'
        | rt d => exact fun v r => d9.ok p2 h2 v r
  · exact p.elim
end
def aD5 (g : Fg) (b : Fs) (ck : DH → Bool) : List D → Fs
 | [] => fun σ G => if ck G then some (.ok (.nx σ), G) else none
 | d :: r => fun σ G => if ck G then (do
    match ← b (← g d σ) with
    | .nx σ' => aD5 g b ck r σ'
    | .ct σ' => aD5 g b ck r σ'
    | .bk σ' => pure (.nx σ')
    | .rt d => pure (.rt d) : M Fl) G else none
structure Src where
 items : List D
 ck : DH → Bool
def aA0 (it : DSt → M Src) (g : Fg) (b : Fs) : Fs := fun σ => do
 let s ← it σ
 aD5 g b s.ck s.items σ
def ItD (c : Wc) (μ : List Addr) (H : Hp) (J : It) (s : Src) : Prop := ∀ μ' G' H', Ext μ H μ' H' → t7 c μ' G' H' → s.ck G' = true → ∀ i : Nat,
 (∀ d, s.items[i]? = some d → J.go i H' ∧ ∀ x H2, J.yld i H' x H2 → Ext μ' H' μ' H2 ∧ t7 c μ' G' H2 ∧ g8 c μ' H2 d x) ∧ (s.items.length ≤ i → J.stop i H')
def cJ1 (c : Wc) (Z : XC) (it : DSt → M Src) : TI := fun σ H R => ∃ dσ μ G, J8 c μ H dσ σ ∧ t7 c μ G H ∧ d9 c Z μ H (it dσ G) fun s μ' _ H' => ∀ J, ItD c μ' H' J s → R J H'
theorem cJ1.elim {c : Wc} {Z : XC} {P : Prop} {it : DSt → M Src} {σ : St} {H : Hp} {R : It → Hp → Prop} (h : cJ1 c Z it σ H R) (k : ∀ dσ μ G, J8 c μ H dσ σ → t7 c μ G H → d9 c Z μ H (it dσ G) (fun s μ' _ H' => ∀ J, ItD c μ' H' J s → R J H') → P) : P := by
 obtain ⟨e0, e1, e2, e3, e4, e5⟩ := h
 exact k e0 e1 e2 e3 e4 e5
structure DI (X : Cx) (Z : XC) (tg e : Expr) (it : DSt → M Src) : Prop where
 h : PI X tg e (cJ1 (wc X) Z it)
theorem PI.mono {X : Cx} {tg e : Expr} {t t' : TI} (h : PI X tg e t) (k : ∀ σ H R, t' σ H R → t σ H R) : PI X tg e t' := fun pins s σ H R I q => h pins s σ H R I (k σ H R q)
theorem DI.of {X : Cx} {Z : XC} {tg e : Expr} {it : DSt → M Src} {t : TI} (h : PI X tg e t) (k : ∀ σ H R, cJ1 (wc X) Z it σ H R → t σ H R) : DI X Z tg e it := ⟨PI.mono h k⟩
section
variable {X : Cx} {Z : XC} {iter tg : Expr} {pos : Pos} {body : List Stmt} {f : Fs} {gg : Fg} {it : DSt → M Src}
def eF1 (c : Wc) (E : bH9) (fl : Fl) (μ : List Addr) (_ : DH) (H : Hp) : Prop := bF7 c E fl μ H
inductive dX9 (c : Wc) (Z : XC) (gg : Fg) (f : Fs) (sr : Src) (E : bH9) (μ1 : List Addr) (H1 : Hp) (i : Nat) (σ : St) (H : Hp) : Prop
 | mk (dσ : DSt) (μ : List Addr) (G : DH) (k : Ext μ1 H1 μ H) (s : J8 c μ H dσ σ) (h : t7 c μ G H) (p : d9 c Z μ H (aD5 gg f sr.ck (sr.items.drop i) dσ G) (eF1 c E))
theorem ds_for (hp : PassesOwn (model X.prog X.w) X.A X.env X.xe) (hc : X.calm = true) (hi : DI X Z tg iter it) (hg : DG X Z tg gg) (hb : DB X Z body f) (hs : ∀ x, foldedSetIterable iter X.env x = pure x) :
 DS X Z (.For tg iter body [] pos) (aA0 it gg f) :=
 DS.of (dQ4 hp hc hi.h hg.h hb.h hs) fun E σ H hE0 => hE0.elim fun dσ μ G s h p => ⟨dσ, μ, G, s, h, (d9.bind p).mono fun sr μ1 G1 H1 x' h1 p1 J hJ => by
  refine ⟨fun i m σ' H' => m = sr.items.length - i ∧ i ≤ sr.items.length ∧ dX9 (wc X) Z gg f sr E μ1 H1 i σ' H',
   ⟨sr.items.length, rfl, Nat.zero_le _, dσ, μ1, G1, Ext.refl _ _, s.mono x', h1, p1⟩, ?_⟩
  rintro i m σ' H' ⟨rfl, hi', dσ', μ', G', k', s', h', p'⟩
  by_cases hlt : i < sr.items.length
  · rw [List.drop_eq_getElem_cons hlt] at p'
    unfold aD5 at p'
    split at p'
    · rename_i ck
      obtain ⟨q1, _⟩ := hJ μ' G' H' k' h' ck i
      obtain ⟨go, yl⟩ := q1 _ (List.getElem?_eq_getElem hlt)
      refine .inr ⟨go, fun σ2 H2 => dX9 (wc X) Z gg f sr E μ1 H1 (i + 1) σ2 H2, fun σ2 H2 w => ⟨sr.items.length - (i + 1), Nat.sub_succ_lt_self _ _ hlt, rfl, hlt, w⟩, fun x H2 y => ?_⟩
      obtain ⟨k2, h2, rx⟩ := yl x H2 y
      have p2 := d9.bind (p'.from k2)
      refine ⟨_, dσ', μ', G', rx, s'.mono k2, h2, p2.mono fun dσ3 μ3 G3 H3 x3 h3 p3 σ3 s3 => ?_⟩
      refine ⟨dσ3, μ3, G3, s3, h3, (d9.bind p3).mono fun fl μ4 G4 H4 x4 h4 p4 => ?_⟩
      cases fl with
      | nx dσ4 => exact fun σ4 s4 => ⟨dσ4, μ4, G4, k'.trans (k2.trans (x3.trans x4)), s4, h4, p4⟩
      | ct dσ4 => exact fun σ4 s4 => ⟨dσ4, μ4, G4, k'.trans (k2.trans (x3.trans x4)), s4, h4, p4⟩
      | bk dσ4 => exact fun σ4 s4 => d9.ok p4 h4 σ4 s4
      | rt d => exact fun v r => d9.ok p4 h4 v r
    · exact p'.elim
  · have e : i = sr.items.length := Nat.le_antisymm hi' (Nat.le_of_not_lt hlt)
    subst e
    rw [List.drop_length] at p'
    unfold aD5 at p'
    split at p'
    · rename_i ck
      obtain ⟨_, q2⟩ := hJ μ' G' H' k' h' ck sr.items.length
      exact .inl ⟨q2 (Nat.le_refl _), d9.ok p' h' σ' s'⟩
    · exact p'.elim⟩
end
noncomputable def aJ5 (env : Env) : List (Str × NameKind) → List (Str × Addr) → List (Str × Addr)
 | [], cs => cs
 | (n, k) :: r, cs => aJ5 env r (if k == .free then (match env.cells.lookup n with | some c => (n, c) :: cs | none => cs) else cs)
theorem bV7 {env : Env} : ∀ (l : List (Str × NameKind)) (cs : List (Str × Addr)), (∀ p ∈ l, p.2 = .free → ∃ c, env.cells.lookup p.1 = some c) →
 (forIn l cs (fun (x : Str × NameKind) (cs : List (Str × Addr)) => (match x with | (name, kind) => if (kind == NameKind.free) = true then do let c ← cellOf env name; pure (ForInStep.yield ((name, c) :: cs)) else pure (ForInStep.yield cs) : Sem (ForInStep (List (Str × Addr))))) : Sem (List (Str × Addr))) = pure (aJ5 env l cs)
 | [], cs, _ => rfl
 | (n, k) :: r, cs, h => by
  have ih := fun cs' => bV7 r cs' fun p hp => h p (List.mem_cons_of_mem _ hp)
  rw [List.forIn_cons]
  unfold aJ5
  rcases hk : (k == NameKind.free) with _ | _
  ·
    have e : (match ((n, k) : Str × NameKind) with | (name, kind) => if (kind == NameKind.free) = true then do let c ← cellOf env name; pure (ForInStep.yield ((name, c) :: cs)) else pure (ForInStep.yield cs) : Sem (ForInStep (List (Str × Addr)))) = pure (ForInStep.yield cs) := by
     show (if (k == NameKind.free) = true then _ else _) = _
     rw [hk]; rfl
    rw [e]
    exact ih cs
  ·
    obtain ⟨c, hc⟩ := h (n, k) List.mem_cons_self (by simpa using hk)
    have hcell : cellOf env n = pure c := by unfold cellOf; rw [hc]
    have e : (match ((n, k) : Str × NameKind) with | (name, kind) => if (kind == NameKind.free) = true then do let c ← cellOf env name; pure (ForInStep.yield ((name, c) :: cs)) else pure (ForInStep.yield cs) : Sem (ForInStep (List (Str × Addr)))) = pure (ForInStep.yield ((n, c) :: cs)) := by
     show (if (k == NameKind.free) = true then (do let c ← cellOf env n; pure (ForInStep.yield ((n, c) :: cs))) else _) = _
     rw [hk, hcell]; rfl
    rw [e, hc]
    exact ih ((n, c) :: cs)
theorem aY2 {env : Env} {scope : Scope} (h : ∀ p ∈ scope.names, p.2 = .free → ∃ c, env.cells.lookup p.1 = some c) : closureFor scope env = pure (aJ5 env scope.names []) := by
 have q := bV7 scope.names [] h
 unfold closureFor
 dsimp only
 rw [q]
 rfl
theorem bM3 {env : Env} {x : Str} {c : Addr} : ∀ (l : List (Str × NameKind)) (cs : List (Str × Addr)), (cs.lookup x = some c → env.cells.lookup x = some c) → (aJ5 env l cs).lookup x = some c → env.cells.lookup x = some c
 | [], cs, h, e => h e
 | (n, k) :: r, cs, h, e => by
  unfold aJ5 at e
  refine bM3 r _ (fun e1 => ?_) e
  split at e1
  · split at e1
    · rename_i c' hc
      rw [List.lookup_cons] at e1
      split at e1
      · rename_i hx
        have hx' : x = n := by simpa using hx
        subst hx'
        cases e1
        exact hc
      · exact h e1
    · exact h e1
  · exact h e1
theorem V9 {env : Env} {x : Str} {c : Addr} {l : List (Str × NameKind)} (h : (aJ5 env l []).lookup x = some c) : env.cells.lookup x = some c := bM3 l [] (fun z => by cases z) h
theorem bG2 {env : Env} {x : Str} : ∀ (l : List (Str × NameKind)) (cs : List (Str × Addr)), (∃ c, cs.lookup x = some c) → ∃ c, (aJ5 env l cs).lookup x = some c
 | [], cs, h => h
 | (n, k) :: r, cs, h => by
  unfold aJ5
  refine bG2 r _ ?_
  split
  · split
    · rename_i c' hc
      rw [List.lookup_cons]
      split
      · exact ⟨_, rfl⟩
      · exact h
    · exact h
  · exact h
theorem aY8 {env : Env} {x : Str} {c : Addr} (hc : env.cells.lookup x = some c) : ∀ (l : List (Str × NameKind)) (cs : List (Str × Addr)), (x, NameKind.free) ∈ l → ∃ c, (aJ5 env l cs).lookup x = some c
 | [], cs, h => by simp at h
 | (n, k) :: r, cs, h => by
  unfold aJ5
  rcases List.mem_cons.mp h with e | h
  · cases e
    refine bG2 r _ ?_
    rw [hc]
    simp
  · exact aY8 hc r _ h
section
variable {prog : Program} {w : World} {A : Around} {E : VSP} {R : Result → Shared → Prop} {s : Shared}
theorem bS2 {elt target iter : Expr} {ifs : List Expr} {scope : Scope} {pos : Pos} {it acc : Value} {env : Env} (I : Nat → Shared → Prop)
 (turn : ∀ n s, I n s → wpAny (model prog w) A (pyNext it) (fun r s₁ => match r with
   | none => R (.ok .next) s₁
   | some v => wpAny (model prog w) A (letOwnedTupleGo target it v) (fun _ s₁' => wpAny (model prog w) A (assign target env v) (fun _ s₂ =>
      wpAny (model prog w) A (forIn ifs true fun c r => if r = true then do let ok ← isTrue c env (eval c env); pure (ForInStep.yield ok) else pure (ForInStep.yield r)) (fun ok s₃ =>
       if ok = true then wpAny (model prog w) A (eval elt env) (fun x s₄ =>
        wpAny (model prog w) A (call (.builtin "list.append") [acc, x]) (fun _ s₅ => ∃ m, m < n ∧ I m s₅) (fun _ _ => False) s₄) (fun _ _ => False) s₃
       else ∃ m, m < n ∧ I m s₃) (fun _ _ => False) s₂) (fun _ _ => False) s₁') (fun _ _ => False) s₁) (fun _ _ => False) s)
 (n : Nat) (h : I n s) :
 codeAny (model prog w) A (.compLoop (.ListComp elt [⟨target, iter, ifs, 0⟩] scope pos) 0 it acc env) R s := by
 refine codeAny_loop rfl I (fun n s hI => ?_) n h
 show wpAny _ A ((compTurn (.ListComp elt [⟨target, iter, ifs, 0⟩] scope pos) 0 it acc env).onRaise (fun x => do noteFrame x env; theTreesLotGoes x)) _ _ s
 refine wpAny_noted ?_
 rw [compTurn_list]
 refine wpAny_bind (wpAny_standAt (wpAny_bind (wpAny_mono (turn n s hI) (fun r s₁ h₁ => ?_) fun _ _ h' => h'.elim)))
 rcases r with _ | v
 · exact wpAny_pure h₁
 ·
   refine wpAny_bind (wpAny_mono h₁ (fun _ s₁' h₁' => ?_) fun _ _ h' => h'.elim)
   refine wpAny_bind (wpAny_mono h₁' (fun _ s₂ h₂ => wpAny_bind (wpAny_mono h₂ (fun ok s₃ h₃ => ?_) fun _ _ h' => h'.elim)) fun _ _ h' => h'.elim)
   rcases ok with _ | _
   ·
     exact wpAny_pure ⟨rfl, h₃⟩
   ·
     exact wpAny_bind (wpAny_bind (wpAny_mono h₃ (fun x s₄ h₄ => wpAny_bind (wpAny_mono h₄ (fun _ s₅ h₅ => wpAny_pure (wpAny_pure ⟨rfl, h₅⟩)) fun _ _ h' => h'.elim)) fun _ _ h' => h'.elim))
end
def W6 (X : Cx) (scope : Scope) (N : List Str) (C : Addr) (s : Shared) (H : Hp) (ex : List Addr) : Cx where
 prog := X.prog
 w := X.w
 K := X.K
 mg := X.mg
 base := X.base
 A := X.A
 N := N
 s₀ := s
 H₀ := H
 env := compEnvC scope (aJ5 X.env scope.names []) C X.env
 outer := X.stack
 stack := X.stack
 ex := ex
 fn := fun _ => false
 calm := X.calm
 pn := []
 xe := fun _ _ => False
structure aF2 (X : Cx) (scope : Scope) (N : List Str) (caps : List (Option Nat)) : Prop where
 kind : scope.kind = .function
 cell : ∀ y ∈ scope.names, y.2 ≠ .cell
 names : ∀ y ∈ scope.names, y.2 = .local → scope.names.lookup y.1 = some .local
 free : ∀ y ∈ scope.names, y.2 = .free → X.env.kindOf y.1 = some .cell ∨ X.env.kindOf y.1 = some .free
 frees : ∀ y ∈ scope.names, y.2 = .free → scope.names.lookup y.1 = some .free
 len : caps.length = N.length
 caps : ∀ (i j : Nat), caps[i]? = some (some j) → ∃ x, N[i]? = some x ∧ X.N[j]? = some x ∧ (x, NameKind.free) ∈ scope.names
def X3 {α : Type} (caps : List (Option Nat)) (σ : List (Option α)) : List (Option α) := caps.map fun o => o.bind fun j => (σ[j]?).join
theorem aS6 {env : Env} {x : Str} : ∀ names : List (Str × NameKind), (names.map fun (n, k) => if (k == NameKind.free && env.scope.kind == .function && env.kindOf n == some .cell) then (n, NameKind.cell) else (n, k)).lookup x =
 (names.lookup x).map fun k => if (k == NameKind.free && env.scope.kind == .function && env.kindOf x == some .cell) then NameKind.cell else k
 | [] => rfl
 | (n, k) :: r => by
  have ih := aS6 (env := env) (x := x) r
  rw [List.map_cons]
  by_cases hx : x = n
  · subst hx
    dsimp only
    split
    · rename_i h; simp [List.lookup_cons]; simp at h; simp [h]
    · rename_i h; simp [List.lookup_cons]; simp at h; intro a b c; exact absurd c (h a b)
  · have hb : (x == n) = false := by simpa using hx
    dsimp only
    split
    · rw [List.lookup_cons, List.lookup_cons, hb]; exact ih
    · rw [List.lookup_cons, List.lookup_cons, hb]; exact ih
section
variable {X : Cx} {scope : Scope} {N : List Str} {caps : List (Option Nat)} {C : Addr} {pins : PNS} {σ : St} {H : Hp} {s : Shared} {ex : List Addr}
theorem aF2.isFree (k : aF2 X scope N caps) {x : Str} (h : (relabel scope X.env).names.lookup x = some .cell ∨ (relabel scope X.env).names.lookup x = some .free) : (x, NameKind.free) ∈ scope.names := by
 have e : (relabel scope X.env).names.lookup x = (scope.names.lookup x).map fun k => if (k == NameKind.free && X.env.scope.kind == .function && X.env.kindOf x == some .cell) then NameKind.cell else k := aS6 scope.names
 rw [e] at h
 rcases hl : scope.names.lookup x with _ | kd
 · rw [hl] at h; rcases h with h | h <;> cases h
 ·
   rw [hl] at h
   have hm := PySem.mem_of_lookup hl
   have hn := k.cell _ hm
   simp only [Option.map_some] at h
   cases kd with
   | free => exact hm
   | cell => exact absurd rfl hn
   | _ => rcases h with h | h <;> simp at h
theorem aF2.cells (k : aF2 X scope N caps) (ok : X.Ok) : ∀ p ∈ scope.names, p.2 = .free → ∃ c, X.env.cells.lookup p.1 = some c := fun p hp e => ok.has p.1 (k.free p hp e)
theorem cP2 (I : Inv X pins σ H s) (k : aF2 X scope N caps) (hC : s.heap.objs.size ≤ C) (hex : ∀ b ∈ ex, aP7 X pins H b) (hlt : ∀ b ∈ ex, b < s.heap.objs.size) : (W6 X scope N C s H ex).Ok where
 mod := I.ok.mod
 kind := k.kind
 glob := I.ok.glob
 blt := I.ok.blt
 above := hC
 inj := fun x y c h1 h2 => I.ok.inj x y c (V9 h1) (V9 h2)
 has := fun x hx => by
  have hm := k.isFree hx
  obtain ⟨c, hc⟩ := k.cells I.ok _ hm rfl
  exact aY8 hc _ _ hm
 cab := fun x c h => by cases h
 hd := I.ok.hd
 frames := I.ok.frames
 stk := .inl rfl
 exf := fun b hb => ⟨Nat.ne_of_lt (Nat.lt_of_lt_of_le (hlt b hb) hC), fun x c e => (hex b hb).2.2.2.2.1 x c (V9 e)⟩
 bs := I.bs
 bsz := Nat.le_trans I.ok.bsz I.sz
 noex := fun b o e hb => by
  rcases (hex b hb).2.2.2.1 with z | z
  · exact I.ok.noex b o e z
  · exact absurd (Nat.lt_of_lt_of_le (Heap.lt_size (I.ok.bs b o e).1) z) (Nat.lt_irrefl _)
 exfs := fun b hb z => by
  rcases List.mem_cons.mp (I.stkSub b z) with e | e
  · exact (hex b hb).2.1 e
  · exact (hex b hb).2.2.1 e
 funs := I.stack
 frf := I.stkFree
theorem bO6 {α : Type} {caps : List (Option Nat)} {σ : List (Option α)} {i : Nat} {v : α} (h : (X3 caps σ)[i]? = some (some v)) : ∃ j, caps[i]? = some (some j) ∧ σ[j]? = some (some v) := by
 unfold X3 at h
 rw [List.getElem?_map] at h
 rcases e : caps[i]? with _ | o
 · rw [e] at h; cases h
 ·
   rw [e] at h
   rcases o with _ | j
   · cases h
   ·
     refine ⟨j, rfl, ?_⟩
     simp only [Option.map_some, Option.bind_some, Option.some.injEq] at h
     rcases e2 : σ[j]? with _ | w
     · rw [e2] at h; cases h
     · rw [e2] at h; simp at h; rw [h]
theorem cG7 {h₁ : Heap} {tk : Nat} (I : Inv X pins σ H s) (k : aF2 X scope N caps) (hC : s.heap.objs.size < C) (hex : ∀ b ∈ ex, aP7 X pins H b) (hlt : ∀ b ∈ ex, b < s.heap.objs.size)
 (old : ∀ b o, s.heap.get? b = some o → h₁.get? b = some o) (hns : h₁.Ns C fun _ => none) (hacc : h₁.get? s.heap.objs.size = some { cls := .type "list", data := .seq ([] : List Value).toArray 0 }) :
 Inv (W6 X scope N C s H ex) [] (X3 caps σ) (upd H s.heap.objs.size (.lst [])) { s with heap := h₁, toks := tk } := by
 have hD : H s.heap.objs.size = none := I.hok.fresh (Nat.le_refl _)
 refine ⟨cP2 I k (Nat.le_of_lt hC) hex hlt, rfl, I.bare, Un.laid old (Nat.le_refl _) hD, ⟨_, hns, fun i x v h1 h2 h3 => ?_⟩, fun x c e => ?_, ?_, fun x c e => ?_, fun p hp => absurd (show p ∈ ([] : PNS) from hp) (by simp), ?_, ?_⟩
 · obtain ⟨j, e1, e2⟩ := bO6 h2
   obtain ⟨y, e3, e4, e5⟩ := k.caps i j e1
   have exy : y = x := by
    have : some y = some x := e3.symm.trans h1
    exact Option.some.inj this
   subst exy
   have hk := k.free _ e5 rfl
   obtain ⟨m, hn, hl⟩ := I.loc
   obtain ⟨u, r, l⟩ := hl j y v e4 e2 (by rcases hk with z | z; exact .inr (.inl z); exact .inr (.inr z))
   refine ⟨u, r, .inr ?_⟩
   rcases l with ⟨z, _⟩ | ⟨_, c, ec, hc⟩
   · rcases hk with z' | z' <;> (rw [z] at z'; cases z')
   · refine ⟨?_, c, ?_, ?_⟩
     · rcases h3 with h3 | h3 | h3
       · exfalso
         have e : (relabel scope X.env).names.lookup y = (scope.names.lookup y).map fun k => if (k == NameKind.free && X.env.scope.kind == .function && X.env.kindOf y == some .cell) then NameKind.cell else k := aS6 scope.names
         have h3' : (relabel scope X.env).names.lookup y = some .local := h3
         rw [e] at h3'
         rw [k.frees _ e5 rfl] at h3'
         simp only [Option.map_some] at h3'
         split at h3' <;> cases h3'
       · exact .inl h3
       · exact .inr h3
     · obtain ⟨c', ec'⟩ := aY8 ec scope.names [] e5
       have := V9 ec'
       rw [ec] at this
       cases this
       exact ec'
     · obtain ⟨o, ho, hd⟩ := hc
       exact ⟨o, old _ _ ho, hd⟩
 · obtain ⟨v, o, ho, hd⟩ := I.cell x c (V9 e)
   exact ⟨v, o, old _ _ ho, hd⟩
 · show upd H s.heap.objs.size (.lst []) C = none
   rw [t8 (Nat.ne_of_gt hC)]
   exact I.hok.fresh (Nat.le_of_lt hC)
 · obtain ⟨v, o, ho, hd⟩ := I.cell x c (V9 e)
   rw [t8 (Nat.ne_of_lt (Heap.lt_size ho))]
   exact I.freeC x c (V9 e)
 · exact I.hok.laid old (Nat.le_refl _) ⟨Nat.zero_le _, [], 0, .nil, hacc⟩
 · show (X3 caps σ).length = N.length
   unfold X3
   rw [List.length_map]; exact k.len
theorem cV7 {pins' : PNS} {σ' : St} {H' : Hp} {s' : Shared} {h' : Heap} (I : Inv X pins σ H s) (hex : ∀ b ∈ ex, aP7 X pins H b) (hC : s.heap.objs.size < C)
 (I' : Inv (W6 X scope N C s H ex) pins' σ' H' s') (sb : Heap.SameBut C s'.heap h') : Inv X pins σ H' { s' with heap := h' } := by
 have hos : s'.os = s.os := I'.os
 have hfree : H' C = none := I'.free
 have neC : ∀ b o, s.heap.get? b = some o → b ≠ C := fun b o e z => by
  have := Heap.lt_size e
  rw [z] at this
  exact absurd (Nat.lt_trans hC this) (Nat.lt_irrefl _)
 have hun : Un (frs X.stack) ex H H' s.heap s'.heap := I'.base
 have hun2 : Un (frs X.stack) ex H H' s.heap h' := by
  refine ⟨fun b o e n hb hx => (sb.2 b (neC b o e)).trans (hun.keep b o e n hb hx), fun b o e n hb hx => ?_, hun.free, fun b o e hx => ?_, hun.tups, hun.frzs, hun.tbls⟩
  · obtain ⟨sl, q⟩ := hun.slot b o e n hb hx
    exact ⟨sl, (sb.2 b (neC b o e)).trans q⟩
  · obtain ⟨o', q⟩ := hun.there b o e hx
    exact ⟨o', (sb.2 b (neC b o e)).trans q⟩
 have hok2 : HOk X.prog X.w H' h' := fun a o e => by
  have nc : ∀ c u, H' c = some u → c ≠ C := fun c u q z => by rw [z, hfree] at q; cases q
  refine (I'.hok a o e).stay (fun b u hb q => ?_) (fun _ q => q) fun _ _ q => q
  rcases hb with rfl | hb
  · exact (sb.2 b (nc b o e)).trans q
  · exact (sb.2 b (nc b _ hb)).trans q
 obtain ⟨hh, g, d, t, os'⟩ := s'
 obtain rfl : os' = s.os := hos
 have fin := I.call (h' := h') (g' := g) (d' := d) (t' := t) (ch := ex) hun2 hok2 I'.bare fun b hb => ⟨(hex b hb).2.2.2.1, (hex b hb).2.1, (hex b hb).2.2.2.2.1, (hex b hb).2.2.2.2.2⟩
 exact fin
end
noncomputable def hide (q : Addr) (H : Hp) : Hp := fun b => if b = q then none else H b
theorem aE9 {q : Addr} {H : Hp} : hide q H q = none := by unfold hide; rw [if_pos rfl]
theorem T8 {q b : Addr} {H : Hp} (h : b ≠ q) : hide q H b = H b := by unfold hide; rw [if_neg h]
theorem R1 {q b : Addr} {H : Hp} {o : HO} (h : hide q H b = some o) : b ≠ q ∧ H b = some o := by
 by_cases e : b = q
 · rw [e, aE9] at h; cases h
 · rw [T8 e] at h; exact ⟨e, h⟩
theorem cS2 {q : Addr} {H : Hp} {o : HO} (h : H q = some o) : upd (hide q H) q o = H := by
 funext b
 by_cases e : b = q
 · rw [e, M8, h]
 · rw [t8 e, T8 e]
theorem aO9 {q : Addr} {H : Hp} {o : HO} : hide q (upd H q o) = hide q H := by
 funext b
 by_cases e : b = q
 · rw [e, aE9, aE9]
 · rw [T8 e, T8 e, t8 e]
theorem aQ8 {q : Addr} {H : Hp} (h : H q = none) : hide q H = H := by
 funext b
 by_cases e : b = q
 · rw [e, aE9, h]
 · rw [T8 e]
section
variable {c : Wc} {μ μ' : List Addr} {H H' : Hp} {G : DH} {q : Addr} {vs : List V}
mutual
theorem g8.sq (k : ∀ a xs, SqT c.K H a xs → SqT c.K H' a xs) : ∀ {d : D} {v : V}, g8 c μ H d v → g8 c μ H' d v
 | .non, _, h => h
 | .bl _, _, h => h
 | .int _, _, h => h
 | .str _, _, h => h
 | .ty _, _, h => h
 | .fn _, _, h => h
 | .ref i, v, h => by unfold g8 at h ⊢; exact h
 | .tup l, v, h => by
   unfold g8 at h ⊢
   obtain ⟨a, vs, e, q, r⟩ := h
   exact ⟨a, vs, e, k _ _ q, o6.sq k r⟩
theorem o6.sq (k : ∀ a xs, SqT c.K H a xs → SqT c.K H' a xs) : ∀ {l : List D} {vs : List V}, o6 c μ H l vs → o6 c μ H' l vs
 | [], _, h => h
 | d :: ds, vs, h => by
   unfold o6 at h ⊢
   obtain ⟨v, r, e, q, t⟩ := h
   exact ⟨v, r, e, g8.sq k q, o6.sq k t⟩
end
theorem aD6.sq (k : ∀ a xs, SqT c.K H a xs → SqT c.K H' a xs) : ∀ {l : List (Key × D)} {vs : List (Key × V)}, aD6 c μ H l vs → aD6 c μ H' l vs
 | [], _, h => h
 | (_, d) :: ds, vs, h => by
  obtain ⟨v, r, e, q, t⟩ := h
  exact ⟨v, r, e, g8.sq k q, aD6.sq k t⟩
theorem aG5 (hq : H q = some (.lst vs)) {K : PySem.W.Frag} (a : Addr) (xs : List V) (h : SqT K H a xs) : SqT K (hide q H) a xs := by
 rcases h with (h | ⟨o, h⟩) | h
 · exact .inl (.inl (by rw [T8 (fun e => by rw [e, hq] at h; cases h)]; exact h))
 · exact .inl (.inr ⟨o, by rw [T8 (fun e => by rw [e, hq] at h; cases h)]; exact h⟩)
 · exact .inr h
theorem aG0 {K : PySem.W.Frag} (a : Addr) (xs : List V) (h : SqT K (hide q H) a xs) : SqT K H a xs := by
 rcases h with (h | ⟨o, h⟩) | h
 · exact .inl (.inl (R1 h).2)
 · exact .inl (.inr ⟨o, (R1 h).2⟩)
 · exact .inr h
theorem J8.sq (k : ∀ a xs, SqT c.K H a xs → SqT c.K H' a xs) {dσ : DSt} {σ : St} (h : J8 c μ H dσ σ) : J8 c μ H' dσ σ := ⟨h.1, fun i d e => let ⟨v, a, b⟩ := h.2 i d e; ⟨v, a, b.sq k⟩⟩
theorem Ext.hide (x : Ext μ H μ' H') (n : q ∉ μ) (hq : H q = some (.lst vs)) : H' q = some (.lst vs) ∧ q ∉ μ' ∧ Ext μ (DL.hide q H) μ' (DL.hide q H') := by
 refine ⟨x.oth q _ hq n, fun h => ?_, x.pre, fun a h1 h2 => ?_, fun b o e nb => ?_, fun b xs e => ?_, fun b o u e => ?_⟩
 · have := x.new q h n; rw [hq] at this; cases this
 · by_cases e : a = q
   · rw [e, aE9]
   · rw [T8 e]; exact x.new a h1 h2
 · obtain ⟨e1, e2⟩ := R1 e; rw [T8 e1]; exact x.oth b o e2 nb
 · obtain ⟨e1, e2⟩ := R1 e; rw [T8 e1]; exact x.tup b xs e2
 · obtain ⟨e1, e2⟩ := R1 e; rw [T8 e1]; exact x.frz b o u e2
theorem Ext.unhide (x : Ext μ H μ' (DL.hide q H')) : Ext μ H μ' H' :=
 ⟨x.pre, x.new, fun b o e n => (R1 (x.oth b o e n)).2, fun b xs e => (R1 (x.tup b xs e)).2, fun b o u e => (R1 (x.frz b o u e)).2⟩
theorem t7.hide (h : t7 c μ G H) (n : q ∉ μ) (hq : H q = some (.lst vs)) : t7 c μ G (DL.hide q H) :=
 ⟨h.len, h.inj, fun i o a g m => by
  have na : a ≠ q := fun e => n (by rw [← e]; exact List.mem_of_getElem? m)
  have r := h.obj i o a g m
  cases o with
  | lst l => obtain ⟨ws, e, r⟩ := r; exact ⟨ws, by rw [T8 na]; exact e, r.sq (aG5 hq)⟩
  | dct l => obtain ⟨ws, e, r⟩ := r; exact ⟨ws, by rw [T8 na]; exact e, r.sq (aG5 hq)⟩
  | rod l => obtain ⟨ws, o, e, r⟩ := r; exact ⟨ws, o, by rw [T8 na]; exact e, r.sq (aG5 hq)⟩
  | rol l =>
    obtain ⟨ws, e, r⟩ := r
    refine ⟨ws, ?_, r.sq (aG5 hq)⟩
    rcases e with ⟨o, e⟩ | e
    · exact .inl ⟨o, by rw [T8 na]; exact e⟩
    · exact .inr e⟩
theorem t7.unhide (h : t7 c μ G (DL.hide q H)) : t7 c μ G H :=
 ⟨h.len, h.inj, fun i o a g m => by
  have r := h.obj i o a g m
  cases o with
  | lst l => obtain ⟨ws, e, r⟩ := r; exact ⟨ws, (R1 e).2, r.sq aG0⟩
  | dct l => obtain ⟨ws, e, r⟩ := r; exact ⟨ws, (R1 e).2, r.sq aG0⟩
  | rod l => obtain ⟨ws, o, e, r⟩ := r; exact ⟨ws, o, (R1 e).2, r.sq aG0⟩
  | rol l =>
    obtain ⟨ws, e, r⟩ := r
    refine ⟨ws, ?_, r.sq aG0⟩
    rcases e with ⟨o, e⟩ | e
    · exact .inl ⟨o, (R1 e).2⟩
    · exact .inr e⟩
inductive UH {α : Type} (c : Wc) (q : Addr) (vs : List V) (μ : List Addr) (H : Hp) (K : α → List Addr → DH → Hp → Prop) (a : α) (μ' : List Addr) (G' : DH) (H' : Hp) : Prop
 | mk (e : H' q = some (.lst vs)) (n : q ∉ μ') (h : t7 c μ' G' (DL.hide q H')) (x : Ext μ (DL.hide q H) μ' (DL.hide q H')) (k : K a μ' G' (DL.hide q H'))
theorem d9.unhide {α : Type} {Z : XC} {r : Option (Except Str α × DH)} {K : α → List Addr → DH → Hp → Prop} (n : q ∉ μ) (hq : H q = some (.lst vs)) (p : d9 c ZF μ (DL.hide q H) r K) :
 d9 c Z μ H r (UH c q vs μ H K) := by
 match r, p with
 | some (.ok a, G'), p =>
   intro μ' H' x h
   obtain ⟨e1, e2, e3⟩ := x.hide n hq
   have h2 := h.hide e2 e1
   exact ⟨e1, e2, h2, e3, p μ' _ e3 h2⟩
 | some (.error z, G'), p =>
   intro μ' H' x h
   obtain ⟨e1, e2, e3⟩ := x.hide n hq
   exact (p μ' _ e3 (h.hide e2 e1)).elim
theorem t7.mem_lt {X : Cx} {pins : PNS} {σ : St} {s : Shared} (I : Inv X pins σ H s) (h : t7 (wc X) μ G H) {a : Addr} (ha : a ∈ μ) : a < s.heap.objs.size := by
 obtain ⟨i, hi⟩ := List.getElem?_of_mem ha
 have hl : i < G.length := by rw [← h.len]; exact lt_of_get hi
 have r := h.obj i G[i] a (List.getElem?_eq_getElem hl) hi
 rcases e : G[i] with l | l | l | l
 · rw [e] at r; obtain ⟨_, e, _⟩ := r; exact I.hok.lt e
 ·
   rw [e] at r
   obtain ⟨ws, e, _⟩ := r
   rcases e with ⟨o, e⟩ | e
   · exact I.hok.lt e
   · rcases e with (e | ⟨o, e⟩) | ⟨o, its, n, e, _⟩
     · cases e
     · cases e
     · exact Heap.lt_size (I.kIn a o e)
 · rw [e] at r; obtain ⟨_, e, _⟩ := r; exact I.hok.lt e
 · rw [e] at r; obtain ⟨_, _, e, _⟩ := r; exact I.hok.lt e
end
def PTs (X : Cx) (ifs : List Expr) (t : TT) : Prop :=
 ∀ (pins : PNS) (s : Shared) (σ : St) (H : Hp) (Q : Bool → Hp → Prop), Inv X pins σ H s → t σ H Q →
  wpAny (model X.prog X.w) X.A (forIn ifs true fun c r => if r = true then do let ok ← isTrue c X.env (eval c X.env); pure (ForInStep.yield ok) else pure (ForInStep.yield r)) (TP X pins σ Q) X.xe s
structure DTs (X : Cx) (Z : XC) (ifs : List Expr) (f : DSt → M Bool) : Prop where
 h : PTs X ifs (bG1 (wc X) Z f)
def U4 : DSt → M Bool := fun _ => pure true
theorem dts_nil {X : Cx} {Z : XC} : DTs X Z [] U4 := ⟨fun pins s σ H Q I hE0 => hE0.elim fun dσ μ G sr h p => wpAny_tests_nil ⟨H, I, d9.ok p h⟩⟩
theorem dts_one {X : Cx} {Z : XC} {c : Expr} {t : DSt → M Bool} (h : DT X Z c t) : DTs X Z [c] t := ⟨fun pins s σ H Q I q => wpAny_tests_one (h.h pins s σ H Q I q)⟩
def M5 (g : Fg) (t : DSt → M Bool) (e : Fe) (ck : DH → Bool) : List D → DSt → M (List D)
 | [] => fun _ G => if ck G then some (.ok [], G) else none
 | d :: r => fun σ G => if ck G then (do
    let σ1 ← g d σ
    if ← t σ1 then do
     let y ← e σ1
     let ys ← M5 g t e ck r σ1
     pure (y :: ys)
    else M5 g t e ck r σ1 : M (List D)) G else none
def Q8 (it : DSt → M Src) (caps : List (Option Nat)) (g : Fg) (t : DSt → M Bool) (e : Fe) : Fe := fun σ => do
 let s ← it σ
 if s.items.length ≤ sizeLine then do
  let ys ← noX (M5 g t e s.ck s.items (X3 caps σ))
  N7 (.lst ys)
 else M.stuck
theorem cQ0 {c : Wc} {μ : List Addr} {H : Hp} {caps : List (Option Nat)} {dσ : DSt} {σ : St} (h : J8 c μ H dσ σ) : J8 c μ H (X3 caps dσ) (X3 caps σ) := by
 refine ⟨by simp [X3], fun i d e => ?_⟩
 obtain ⟨j, e1, e2⟩ := bO6 e
 obtain ⟨v, e3, r⟩ := h.2 j d e2
 refine ⟨v, ?_, r⟩
 unfold X3
 rw [List.getElem?_map, e1]
 simp [e3]
section
variable {X : Cx} {Z : XC} {elt tg iter : Expr} {ifs : List Expr} {scope : Scope} {pos : Pos} {N : List Str} {caps : List (Option Nat)} {it : DSt → M Src} {gg : Fg} {tt : DSt → M Bool} {fe : Fe}
set_option maxHeartbeats 1000000 in
def CKV (c : Wc) (Q : VK) (d : D) (μ' : List Addr) (_ : DH) (H' : Hp) : Prop := ∀ v, g8 c μ' H' d v → Q v H'
def CKR (c : Wc) (Z : XC) (Q : VK) (ys Z4 : List D) (μ : List Addr) (G : DH) (H : Hp) : Prop := d9 c Z μ H (N7 (.lst (ys ++ Z4)) G) (CKV c Q)
def dJ0 (gg : Fg) (tt : DSt → M Bool) (fe : Fe) (ck : DH → Bool) (items : List D) (σ : DSt) (y : D) : M (List D) := do let ys ← M5 gg tt fe ck items σ; pure (y :: ys)
def cK7 (gg : Fg) (tt : DSt → M Bool) (fe : Fe) (ck : DH → Bool) (items : List D) (σ : DSt) (b : Bool) : M (List D) := if b = true then (do let y ← fe σ; let ys ← M5 gg tt fe ck items σ; pure (y :: ys)) else M5 gg tt fe ck items σ
def dK9 (gg : Fg) (tt : DSt → M Bool) (fe : Fe) (ck : DH → Bool) (items : List D) (σ : DSt) : M (List D) := do if ← tt σ then do { let y ← fe σ; let ys ← M5 gg tt fe ck items σ; pure (y :: ys) } else M5 gg tt fe ck items σ
inductive CG (X : Cx) (Z : XC) (Q : VK) (vs : List V) (DD : Addr) (ys : List D) (μ' : List Addr) (H5 : Hp) (m : DSt → M (List D)) (σ6 : St) (H6 : Hp) : Prop
 | mk (dσ6 : DSt) (μ6 : List Addr) (G6 : DH) (s : J8 (wc X) μ6 H6 dσ6 σ6) (h : t7 (wc X) μ6 G6 H6) (u : UH (wc X) DD vs μ' H5 (fun dσ μ G H => d9 (wc X) ZF μ H (m dσ G) (CKR (wc X) Z Q ys)) dσ6 μ6 G6 H6)
inductive CT (X : Cx) (Z : XC) (Q : VK) (vs : List V) (DD : Addr) (ys : List D) (dσ6 : DSt) (σ6 : St) (μ6 : List Addr) (H6 : Hp) (m : Bool → M (List D)) (b : Bool) (H7 : Hp) : Prop
 | mk (μ7 : List Addr) (G7 : DH) (s : J8 (wc X) μ7 H7 dσ6 σ6) (h : t7 (wc X) μ7 G7 H7) (u : UH (wc X) DD vs μ6 H6 (fun b μ G H => d9 (wc X) ZF μ H (m b G) (CKR (wc X) Z Q ys)) b μ7 G7 H7)
inductive CE (X : Cx) (Z : XC) (Q : VK) (vs : List V) (DD : Addr) (ys : List D) (dσ6 : DSt) (σ6 : St) (μ7 : List Addr) (H7 : Hp) (m : D → M (List D)) (v : V) (H8 : Hp) : Prop
 | mk (y : D) (μ8 : List Addr) (G8 : DH) (r : g8 (wc X) μ8 H8 y v) (s : J8 (wc X) μ8 H8 dσ6 σ6) (h : t7 (wc X) μ8 G8 H8) (u : UH (wc X) DD vs μ7 H7 (fun y μ G H => d9 (wc X) ZF μ H (m y G) (CKR (wc X) Z Q ys)) y μ8 G8 H8)
inductive dP7 (Y : Cx) (Z : XC) (Q : VK) (gg : Fg) (tt : DSt → M Bool) (fe : Fe) (src : Src) (fp : List Addr) (tn : Nat → Heap → Prop) (DD : Addr) (μ2 : List Addr) (H2 : Hp) (n : Nat) (s' : Shared) : Prop
 | mk (i : Nat) (ys : List D) (vs : List V) (σ' : St) (H' : Hp) (dσ' : DSt) (μ' : List Addr) (G' : DH) (e : n = src.items.length - i) (hi : i ≤ src.items.length) (hv : vs.length ≤ i)
    (I : Inv Y [] σ' H' s') (st : tn i s'.heap) (fr : ∀ b ∈ fp, H' b = none) (hs : H' DD = some (.lst vs)) (nD : DD ∉ μ')
    (x : Ext μ2 H2 μ' (hide DD H')) (h : t7 (wc Y) μ' G' (hide DD H')) (sr : J8 (wc Y) μ' (hide DD H') dσ' σ') (rl : o6 (wc Y) μ' (hide DD H') ys vs)
    (p : d9 (wc Y) ZF μ' (hide DD H') (M5 gg tt fe src.ck (src.items.drop i) dσ' G') (CKR (wc Y) Z Q ys))
theorem cQ4 {Y : Cx} {Q : VK} {src : Src} {fp : List Addr} {tn : Nat → Heap → Prop} {DD it : Addr} {μ2 : List Addr} {H2 : Hp} {J : It} {R : Result → Shared → Prop} (hcX : Y.calm = true) (hg : DG Y ZF tg gg) (ht : DTs Y ZF ifs tt) (he : DE Y ZF elt fe) (T : bH4 Y.prog Y.w Y.K tg J fp it tn)
 (fpX : ∀ (H' : Hp) (b : Addr), b ∈ fp → H' b = none → aP7 Y [] H' b) (hJ : ItD (wc Y) μ2 H2 J src) (hlen : src.items.length ≤ sizeLine) (fin : ∀ (H' : Hp) (σ' : St) (s4 : Shared), Inv Y [] σ' H' s4 → Q (.ref DD) H' → R (.ok .next) s4) (n : Nat) (s' : Shared) (h : dP7 Y Z Q gg tt fe src fp tn DD μ2 H2 n s') {NX : Shared → Prop} (nx : ∀ m s, m < n → dP7 Y Z Q gg tt fe src fp tn DD μ2 H2 m s → NX s) :
 wpAny (model Y.prog Y.w) Y.A (pyNext (.ref it)) (fun r s₁ => match r with
  | none => R (.ok .next) s₁
  | some v => wpAny (model Y.prog Y.w) Y.A (letOwnedTupleGo tg (.ref it) v) (fun _ s₁' => wpAny (model Y.prog Y.w) Y.A (assign tg Y.env v) (fun _ s₂ =>
     wpAny (model Y.prog Y.w) Y.A (forIn ifs true fun c r => if r = true then do let ok ← isTrue c Y.env (eval c Y.env); pure (ForInStep.yield ok) else pure (ForInStep.yield r)) (fun ok s₃ =>
      if ok = true then wpAny (model Y.prog Y.w) Y.A (eval elt Y.env) (fun x s₄ =>
       wpAny (model Y.prog Y.w) Y.A (call (.builtin "list.append") [.ref DD, x]) (fun _ s₅ => NX s₅) Y.xe s₄) Y.xe s₃
      else NX s₃) Y.xe s₂) Y.xe s₁') Y.xe s₁) Y.xe s' := by
 obtain ⟨i, ys, vs, σ', H', dσ', μ', G', rfl, hi', hvl, I', st', fr', hvs, nD', x', h', sr', rl, p'⟩ := h
 by_cases hlt : i < src.items.length
 · rw [List.drop_eq_getElem_cons hlt] at p'
   unfold M5 at p'
   split at p'
   case isFalse => exact p'.elim
   rename_i ck
   obtain ⟨q1, _⟩ := hJ μ' G' H' x'.unhide h'.unhide ck i
   obtain ⟨go, yl⟩ := q1 _ (List.getElem?_eq_getElem hlt)
   refine thn (T.item (Y) rfl rfl rfl hcX i [] s' σ' H' Y.xe I' (fun b hb => fpX H' b hb (fr' b hb)) st' go) fun r s4 z4 => ?_
   obtain ⟨u, rfl, h4⟩ := z4
   refine thn h4 fun _ s5 z5 => ?_
   obtain ⟨x, H5, I5, r5, y5, st5, fr5⟩ := z5
   obtain ⟨k5, h5, rx5⟩ := yl x H5 y5
   obtain ⟨e5, n5, k5'⟩ := k5.hide nD' hvs
   have I5' := I5.pinned (fun b hb => fpX H5 b hb (fr5 b hb)) (T.obj _ _ st5)
   have keepIt : ∀ {σ7 : St} {H7 : Hp} {s7 : Shared}, Inv (Y) ([] ++ bG5 fp s5.heap) σ7 H7 s7 → Inv (Y) [] σ7 H7 s7 ∧ tn (i + 1) s7.heap ∧ ∀ b ∈ fp, H7 b = none := fun {σ7 H7 s7} I7 => by
    refine ⟨I7.unpinned, T.keep _ _ _ st5 fun b hb o e => (I7.pin (b, o) (List.mem_append_right _ (List.mem_append_right _ (aL4 hb e)))).1, fun b hb => ?_⟩
    obtain ⟨o, e, d⟩ := T.obj _ _ st5 b hb
    exact (I7.pin (b, o) (List.mem_append_right _ (List.mem_append_right _ (aL4 hb e)))).2.1
   have p5 := d9.unhide (Z := ZF) n5 e5 (d9.bind (p'.from k5'))
   refine thn (hg.h _ s5 σ' H5 x u _ I5' r5 ⟨_, dσ', μ', G', rx5, (sr'.mono k5').sq aG0, h5, p5.mono fun dσ6 μ6 G6 H6 x6 h6 q6 σ6 sr6 => (⟨dσ6, μ6, G6, sr6, h6, q6⟩ : CG Y Z Q vs DD ys μ' H5 (dK9 gg tt fe src.ck (src.items.drop (i + 1))) σ6 H6)⟩) fun _ s6 z6 => ?_
   obtain ⟨σ6, H6, I6, dσ6, μ6, G6, sr6, h6, e6, n6, hh6, x6, p6⟩ := z6
   have p6' := d9.unhide (Z := ZF) n6 e6 (d9.bind p6)
   refine thn (ht.h _ s6 σ6 H6 (CT Y Z Q vs DD ys dσ6 σ6 μ6 H6 (cK7 gg tt fe src.ck (src.items.drop (i + 1)) dσ6)) I6 ⟨dσ6, μ6, G6, sr6, h6, p6'.mono fun b μ7 G7 H7 x7 h7 q7 => ⟨μ7, G7, sr6.mono x7, h7, q7⟩⟩) fun b s7 z7 => ?_
   obtain ⟨H7, I7, μ7, G7, sr7, h7, e7, n7, hh7, x7, p7⟩ := z7
   unfold cK7 at p7
   have x27 : Ext μ2 H2 μ7 (hide DD H7) := x'.trans (k5'.trans (x6.trans x7))
   have rl7 : o6 (wc Y) μ7 (hide DD H7) ys vs := rl.mono (k5'.trans (x6.trans x7))
   rcases b with _ | _
   ·
     rw [if_neg Bool.false_ne_true] at p7 ⊢
     obtain ⟨I8, st8, fr8⟩ := keepIt I7
     exact nx _ _ (Nat.sub_succ_lt_self _ _ hlt) ⟨i + 1, ys, vs, σ6, H7, dσ6, μ7, G7, rfl, hlt, Nat.le_succ_of_le hvl, I8, st8, fr8, e7, n7, x27, hh7, sr7.sq (aG5 e7), rl7, p7⟩
   ·
     rw [if_pos rfl] at p7 ⊢
     have p7' := d9.unhide (Z := ZF) n7 e7 (d9.bind p7)
     refine thn (he.h _ s7 σ6 H7 (CE Y Z Q vs DD ys dσ6 σ6 μ7 H7 (dJ0 gg tt fe src.ck (src.items.drop (i + 1)) dσ6)) I7 ⟨dσ6, μ7, G7, sr7, h7, p7'.mono fun y μ8 G8 H8 x8 h8 q8 v rv => ⟨y, μ8, G8, rv, sr7.mono x8, h8, q8⟩⟩) fun yu s8 z8 => ?_
     obtain ⟨yv, H8, I8, ry, y, μ8, G8, ryd, sr8, h8, e8, n8, hh8, x8, p8⟩ := z8
     unfold dJ0 at p8
     refine thn (bP0 _ s8 σ6 H8 (.ref DD) [yv] (.ref DD) [yu] (fun _ H9 => H9 = upd H8 DD (.lst (vs ++ [yv]))) I8 rfl (.cons ry .nil) ⟨DD, vs, yv, rfl, rfl, e8, by lia, rfl⟩) fun _ s9 z9 => ?_
     obtain ⟨_, H9, I9, _, rfl⟩ := z9
     obtain ⟨I10, st10, fr10⟩ := keepIt I9
     have hd9 : hide DD (upd H8 DD (.lst (vs ++ [yv]))) = hide DD H8 := aO9
     refine nx _ _ (Nat.sub_succ_lt_self _ _ hlt) ⟨i + 1, ys ++ [y], vs ++ [yv], σ6, _, dσ6, μ8, G8, rfl, hlt, by rw [List.length_append]; exact Nat.succ_le_succ hvl, I10, st10, fr10, M8, n8, ?_, ?_, ?_, ?_, ?_⟩
     · rw [hd9]; exact x27.trans x8
     · rw [hd9]; exact hh8
     · rw [hd9]; exact sr8.sq (aG5 e8)
     · rw [hd9]; exact (rl7.mono x8).append ⟨yv, [], rfl, ryd.sq (aG5 e8), rfl⟩
     · rw [hd9]
       refine (d9.bind p8).mono fun Z4 μ'' G'' H'' x'' h'' q'' => ?_
       have q3 := d9.ok q'' h''
       show d9 (wc Y) Z μ'' H'' (N7 (.lst (ys ++ [y] ++ Z4)) G'') (CKV (wc Y) Q)
       rw [List.append_assoc]
       exact q3
 · have e : i = src.items.length := by lia
   subst e
   rw [List.drop_length] at p'
   unfold M5 at p'
   split at p'
   case isFalse => exact p'.elim
   rename_i ck
   obtain ⟨_, q2⟩ := hJ μ' G' H' x'.unhide h'.unhide ck src.items.length
   refine thn (T.done (Y) rfl rfl rfl hcX src.items.length [] s' σ' H' Y.xe I' (fun b hb => fpX H' b hb (fr' b hb)) st' (q2 (Nat.le_refl _))) fun r s4 ⟨hr, I4⟩ => ?_
   subst hr
   have p9 : d9 (wc Y) Z μ' (hide DD H') (N7 (.lst (ys ++ [])) G') (CKV (wc Y) Q) := d9.ok p' h'
   rw [List.append_nil] at p9
   have q9 := aB1 (q := DD) h' rl p9 aE9
   rw [cS2 hvs] at q9
   exact fin H' σ' s4 I4 q9
theorem cO0 {use : Option (Value → Sem Unit)} {PQ : VSP} {Q : VK} {ps : Pos} {pins : PNS} {s : Shared} {σ : St} {H : Hp} {dσ : DSt} {μ : List Addr} {G : DH} (hc : X.calm = true) (hi : DI X Z tg iter it) (k : aF2 X scope N caps)
 (hg : ∀ C s H ex, DG (W6 X scope N C s H ex) ZF tg gg) (ht : ∀ C s H ex, DTs (W6 X scope N C s H ex) ZF ifs tt) (he : ∀ C s H ex, DE (W6 X scope N C s H ex) ZF elt fe)
 (hs : ∀ x, foldedSetIterable iter X.env x = pure x) (I : Inv X pins σ H s) (sr : J8 (wc X) μ H dσ σ) (hr : t7 (wc X) μ G H) (p : d9 (wc X) Z μ H (Q8 it caps gg tt fe dσ G) fun d μ' _ H' => ∀ v, g8 (wc X) μ' H' d v → Q v H')
 (fin : ∀ (DD C : Addr) (s4 : Shared) (H' : Hp) (m : Str → Option Value) (o : Flow), s4.heap.Ns C m → (∀ h'', Heap.SameBut C s4.heap h'' → Inv X pins σ H' { s4 with heap := h'' }) → H' C = none → (∀ H9 : Hp, H9 C = none → aP7 X pins H9 C) → Q (.ref DD) H' → compPost (model X.prog X.w) X.A X.xe use PQ (.ref DD) C (.ok o) s4) :
 wpAny (model X.prog X.w) X.A (comprehension (.ListComp elt [⟨tg, iter, ifs, 0⟩] scope pos) scope X.env ps (newList []) false (eval iter X.env) use) PQ X.xe s := by
 replace p : d9 (wc X) Z μ H (Q8 it caps gg tt fe dσ G) (CKV (wc X) Q) := p
 have p1 := d9.bind p
 refine wpAny_comprehension_free (use := use) rfl hs (aY2 (k.cells I.ok)) k.kind k.names ?_
 refine thn (hi.h pins s σ H (fun J H1 => ∃ src μ1 G1, Ext μ H μ1 H1 ∧ t7 (wc X) μ1 G1 H1 ∧ ItD (wc X) μ1 H1 J src ∧
  d9 (wc X) Z μ1 H1 ((if src.items.length ≤ sizeLine then (do let ys ← noX (M5 gg tt fe src.ck src.items (X3 caps dσ)); N7 (.lst ys)) else M.stuck : M D) G1) (CKV (wc X) Q))
  I ⟨dσ, μ, G, sr, hr, p1.mono fun src μ1 G1 H1 x1 h1 p1 J hJ => ⟨src, μ1, G1, x1, h1, hJ, p1⟩⟩) fun v s1 q1 => thn q1 fun itv s2 q2 => ?_
 obtain ⟨itA, fp, tn, J, H2, rfl, I2, T, st2, f2, src, μ2, G2, x2, h2, hJ, p2⟩ := q2
 split at p2
 case isFalse => exact p2.elim
 rename_i hlen
 have hfp : ∀ b ∈ fp, b < s2.heap.objs.size := fun b hb => by obtain ⟨o, e, _⟩ := T.obj _ _ st2 b hb; exact Heap.lt_size e
 refine wpAny_newObj_type (wpAny_newFunctionEnv k.cell (by intro y hy; simp at hy) (fun h₁ hns₁ hsb₁ => ?_) k.kind)
 dsimp only at hns₁ hsb₁ ⊢
 generalize hHP : s2.heap.push { cls := .type "list", dict := none, data := .seq ([] : List Value).toArray } = HP at hns₁ hsb₁ ⊢
 have hC : HP.objs.size = s2.heap.objs.size + 1 := by rw [← hHP, Heap.size_push]
 have hCl : s2.heap.objs.size < HP.objs.size := by rw [hC]; exact Nat.lt_succ_self _
 have hDC : s2.heap.objs.size ≠ HP.objs.size := Nat.ne_of_lt hCl
 have old : ∀ b o, s2.heap.get? b = some o → h₁.get? b = some o := fun b o e => hsb₁.extBut b o (by have := Heap.lt_size e; exact Nat.ne_of_lt (Nat.lt_trans this hCl)) (Heap.get?_push_of_some _ (hHP ▸ Heap.get?_push_of_some _ e))
 have hacc : h₁.get? s2.heap.objs.size = some { cls := .type "list", data := .seq ([] : List Value).toArray 0 } := hsb₁.extBut _ _ hDC (Heap.get?_push_of_some _ (hHP ▸ Heap.get?_push_size _ rfl))
 have hD : H2 s2.heap.objs.size = none := I2.hok.fresh (Nat.le_refl _)
 have nD : s2.heap.objs.size ∉ μ2 := fun z => Nat.lt_irrefl _ (h2.mem_lt I2 z)
 have st1 : tn 0 h₁ := T.keep _ _ _ st2 fun b _ o e => old b o e
 have fpX : ∀ (H' : Hp) (b : Addr), b ∈ fp → H' b = none → aP7 (W6 X scope N HP.objs.size s2 H2 fp) [] H' b := fun H' b hb hn =>
  ⟨hn, Nat.ne_of_lt (Nat.lt_trans (hfp b hb) hCl), fun z => by
   rcases List.mem_cons.mp (I2.stkSub b z) with e | e
   · exact (f2 b hb).2.1 e
   · exact (f2 b hb).2.2.1 e, .inl hb, fun x c e => (f2 b hb).2.2.2.2.1 x c (V9 e), fun p hp => absurd (show p ∈ ([] : PNS) from hp) (by simp)⟩
 have hcX : (W6 X scope N HP.objs.size s2 H2 fp).calm = true := hc
 have p3 := cB1 (d9.bind p2)
 generalize hDD : s2.heap.objs.size = DD at *
 have loop : ∀ s₃ : Shared, s₃ = { s2 with heap := h₁, toks := s2.toks + ([] : List (Str × Value)).length } →
  codeAny (model X.prog X.w) X.A (.compLoop (.ListComp elt [⟨tg, iter, ifs, 0⟩] scope pos) 0 (.ref itA) (.ref DD) (compEnvC scope (aJ5 X.env scope.names []) HP.objs.size X.env))
   (compPost (model X.prog X.w) X.A X.xe use PQ (.ref DD) HP.objs.size) s₃ := by
  rintro s₃ rfl
  refine bS2 (dP7 (W6 X scope N HP.objs.size s2 H2 fp) Z Q gg tt fe src fp tn DD μ2 H2) (fun n s' h => cQ4 (Y := W6 X scope N HP.objs.size s2 H2 fp) hcX (hg _ _ _ _) (ht _ _ _ _) (he _ _ _ _) T fpX hJ hlen (fun H' σ' s4 I4 q9 => ?_) n s' h fun m s h1 h2 => ⟨m, h1, h2⟩) src.items.length
   ⟨0, [], [], X3 caps σ, upd H2 DD (.lst []), X3 caps dσ, μ2, G2, rfl, Nat.zero_le _, Nat.le_refl _, ?_, st1, fun b hb => ?_, M8, nD, ?_, ?_, ?_, rfl, ?_⟩
  · obtain ⟨m, hn, _⟩ := I4.loc
    exact fin DD HP.objs.size s4 H' m _ hn (fun h'' sb => cV7 I2 (fun b hb => f2 b hb) (by rw [hDD]; exact hCl) I4 sb) I4.free (fun H9 hn9 => I2.fpOk (by rw [hDD]; exact Nat.le_of_lt hCl) hn9) q9
  · have := cG7 (h₁ := h₁) (tk := s2.toks + ([] : List (Str × Value)).length) I2 k (C := HP.objs.size) (by rw [hDD]; exact hCl) f2 (fun b hb => by rw [hDD]; exact hfp b hb) old hns₁ (by rw [hDD]; exact hacc)
    rw [hDD] at this
    exact this
  · rw [t8 (Nat.ne_of_lt (hfp b hb))]; exact (f2 b hb).1
  · rw [aO9, aQ8 hD]; exact Ext.refl _ _
  · rw [aO9, aQ8 hD]; exact h2
  · rw [aO9, aQ8 hD]; exact cQ0 (sr.mono x2)
  · rw [aO9, aQ8 hD, List.drop_zero]
    exact p3
 exact codeAny_compStart_list (loop _ rfl) (T.self _ 0 _ _ _ st1 (loop _ rfl))
theorem dC1 (hc : X.calm = true) (hi : DI X Z tg iter it) (k : aF2 X scope N caps)
 (hg : ∀ C s H ex, DG (W6 X scope N C s H ex) ZF tg gg) (ht : ∀ C s H ex, DTs (W6 X scope N C s H ex) ZF ifs tt) (he : ∀ C s H ex, DE (W6 X scope N C s H ex) ZF elt fe)
 (hs : ∀ x, foldedSetIterable iter X.env x = pure x) : DE X Z (.ListComp elt [⟨tg, iter, ifs, 0⟩] scope pos) (Q8 it caps gg tt fe) := ⟨by
 intro pins s σ H Q I hE0
 refine hE0.elim fun dσ μ G sr hr p => ?_
 rw [eval_ListComp]
 exact cO0 (use := none) hc hi k hg ht he hs I sr hr p fun DD C s4 H' m o hn fin _ _ q9 => ⟨m, hn, fun h'' sb => ⟨.ref DD, H', fin h'' sb, rfl, q9⟩⟩⟩
end
noncomputable def Q3 (r : Nat) : M DO := fun G => match G[r]? with
 | some o => some (.ok o, G)
 | none => none
def listOf : DO → M (List D)
 | .lst l => pure l
 | .rol l => pure l
 | .dct _ => M.stuck
 | .rod _ => M.stuck
def eC2 : D → M (List D)
 | .tup l => pure l
 | .ref r => Q3 r >>= listOf
 | _ => M.stuck
def aL8 {α : Type} : Option α → M α
 | some a => pure a
 | none => M.stuck
section
variable {X : Cx} {Z : XC}
theorem IxR.mono {r r' : R2} (h : IxR X r) (k : ∀ x y H Q, r' x y H Q → r x y H Q) : IxR X r' := fun va sl pins s σ H x y v u Q I rx ry q hs => h va sl pins s σ H x y v u Q I rx ry (k x y H Q q) hs
variable {c : Wc} {μ : List Addr} {H : Hp} {G : DH}
theorem N8 {α : Type} {r : Nat} {f : DO → M α} {K : α → List Addr → DH → Hp → Prop} (p : d9 c Z μ H ((Q3 r >>= f) G) K) : ∃ o, G[r]? = some o ∧ d9 c Z μ H (f o G) K := by
 rw [M.bind_eq] at p
 unfold Q3 at p
 rcases e : G[r]? with _ | o
 · rw [e] at p; exact p.elim
 · rw [e] at p; exact ⟨o, rfl, p⟩
theorem aE8 {α β : Type} {r : Option β} {f : β → M α} {K : α → List Addr → DH → Hp → Prop} (p : d9 c Z μ H ((aL8 r >>= f) G) K) : ∃ o, r = some o ∧ d9 c Z μ H (f o G) K := by
 rcases r with _ | o
 · exact p.elim
 · exact ⟨o, rfl, p⟩
theorem aZ9 {α : Type} {d : D} {v : V} {f : List D → M α} {K : α → List Addr → DH → Hp → Prop} (h : t7 c μ G H) (r : g8 c μ H d v) (p : d9 c Z μ H ((eC2 d >>= f) G) K) :
 ∃ l a vs, v = .ref a ∧ o6 c μ H l vs ∧ d9 c Z μ H (f l G) K ∧ ((d = .tup l ∧ SqT c.K H a vs) ∨ (∃ i, d = .ref i ∧ μ[i]? = some a ∧ ((G[i]? = some (.lst l) ∧ H a = some (.lst vs)) ∨ (G[i]? = some (.rol l) ∧ RoL c.K H a vs)))) := by
 rcases d with _ | _ | _ | _ | l | i | _ | _ <;> try (exact p.elim; done)
 ·
   unfold g8 at r
   obtain ⟨a, vs, e, q, rl⟩ := r
   exact ⟨l, a, vs, e, rl, p, .inl ⟨rfl, q⟩⟩
 ·
   unfold g8 at r
   obtain ⟨a, m, e⟩ := r
   have p' : d9 c Z μ H ((Q3 i >>= fun o => listOf o >>= f) G) K := by rw [← M.bind_assoc]; exact p
   obtain ⟨o, g, p2⟩ := N8 p'
   have ro := h.obj i o a g m
   rcases o with l | l | l | l
   · obtain ⟨vs, q, rl⟩ := ro; exact ⟨l, a, vs, e, rl, p2, .inr ⟨i, rfl, m, .inl ⟨g, q⟩⟩⟩
   · obtain ⟨vs, q, rl⟩ := ro; exact ⟨l, a, vs, e, rl, p2, .inr ⟨i, rfl, m, .inr ⟨g, q⟩⟩⟩
   · exact p2.elim
   · exact p2.elim
theorem aE5 {i : Int} {v : V} (r : g8 c μ H (.int i) v) : v = .int i := by unfold g8 at r; exact r
theorem bE0 {i : Str} {v : V} (r : g8 c μ H (.str i) v) : v = .str i := by unfold g8 at r; exact r
theorem bU3 {i : Bool} {v : V} (r : g8 c μ H (.bl i) v) : v = .bl i := by unfold g8 at r; exact r
theorem cY9 {v : V} (r : g8 c μ H .non v) : v = .non := by unfold g8 at r; exact r
theorem ofI {i : Int} : g8 c μ H (.int i) (.int i) := by unfold g8; rfl
theorem ofS {i : Str} : g8 c μ H (.str i) (.str i) := by unfold g8; rfl
theorem ofB {i : Bool} : g8 c μ H (.bl i) (.bl i) := by unfold g8; rfl
theorem ofN : g8 c μ H .non .non := by unfold g8; rfl
def cG1 (g : Int → Int → M D) : D → D → M D := fun x y => match x, y with
 | .int i, .int j => g i j
 | _, _ => M.stuck
theorem bS3 {f : Value → Value → Sem Value} {C : Int → Int → Prop} [∀ i j, Decidable (C i j)] {g : Int → Int → Int} (h : OpR X f (rI C fun i j => .int (g i j))) : OpD X Z f (cG1 fun i j => if C i j then pure (.int (g i j)) else M.stuck) :=
 OpD.of h fun x y H Q hE0 => hE0.elim fun dx dy μ G rx ry hr p => by
  rcases dx with _ | _ | _ | _ | _ | _ | _ | _ <;> rcases dy with _ | _ | _ | _ | _ | _ | _ | _ <;> first
   | exact p.elim
   | skip
  rename_i i j
  unfold cG1 at p
  dsimp only at p
  split at p
  · rename_i hc
    exact ⟨i, j, aE5 rx, aE5 ry, hc, d9.ok p hr _ ofI⟩
  · exact p.elim
theorem cV9 {f : Value → Value → Sem Value} {g : Int → Int → Int} (h : OpR X f (rI0 fun i j => .int (g i j))) : OpD X Z f (cG1 fun i j => pure (.int (g i j))) :=
 OpD.of h fun x y H Q hE0 => hE0.elim fun dx dy μ G rx ry hr p => by
  rcases dx with _ | _ | _ | _ | _ | _ | _ | _ <;> rcases dy with _ | _ | _ | _ | _ | _ | _ | _ <;> first
   | exact p.elim
   | exact ⟨_, _, aE5 rx, aE5 ry, d9.ok p hr _ ofI⟩
def bD1 : D → D → M D := cG1 fun i j => pure (.int (i - j))
theorem od_sub : OpD X Z (binaryOp .Sub) bD1 := cV9 dP9
noncomputable instance (i j : Int) : Decidable (bL3 i j) := by unfold bL3; infer_instance
noncomputable def bM6 (_ j : Int) : Prop := 0 < j ∧ j < 2 ^ 100
noncomputable instance (i j : Int) : Decidable (bM6 i j) := by unfold bM6; infer_instance
theorem cT4 : OpR X (binaryOp .FloorDiv) (rI bM6 fun i j => .int (i / j)) := opI fun i j _ _ _ _ _ hc q => by
 have h1 : (0 : Int) < j := hc.1
 have h2 : j < 2 ^ 100 := hc.2
 refine floordiv_int (by lia) (by rw [Int.fdiv_eq_ediv_of_nonneg i (by lia)]; exact q) (.inl (PyProof.noPylong_of_log2 ?_))
 have h3 : j.natAbs < 2 ^ 100 := by lia
 have h4 : j.natAbs ≠ 0 := by lia
 have := (Nat.log2_lt h4).mpr h3
 lia
def cC1 : D → D → M D := cG1 fun i j => if bM6 i j then pure (.int (i / j)) else M.stuck
theorem od_fdiv : OpD X Z (binaryOp .FloorDiv) cC1 := bS3 cT4
def bK7 : D → D → M D := cG1 fun i j => if 0 < j then pure (.int (i % j)) else M.stuck
theorem od_mod : OpD X Z (binaryOp .Mod) bK7 := bS3 (C := fun _ j => 0 < j) dO5
noncomputable instance (i j : Int) : Decidable (dG2 i j) := by unfold dG2; infer_instance
def cC9 : D → D → M D := cG1 fun i j => if dG2 i j then pure (.int (i ^ j.toNat)) else M.stuck
theorem od_pow : OpD X Z (binaryOp .Pow) cC9 := bS3 dR1
theorem cY6 {prog : Program} {w : World} {A : Around} {E : VSP} {s : Shared} {t b : Addr} {ws : List Value} {Q : VSP} (ht : IsTup s.heap t #[]) (hb : IsTup s.heap b ws.toArray)
 (h1 : Q (.ref b) s) : wpAny (model prog w) A (binaryOp .Add (.ref t) (.ref b)) Q E s := by
 obtain ⟨⟨cls, dd, data, sl⟩, ho, hc, n, hd⟩ := id ht
 obtain ⟨⟨cls2, dd2, data2, sl2⟩, ho2, hc2, n2, hd2⟩ := id hb
 simp only at hc hd hc2 hd2
 subst hc hd hc2 hd2
 exact concat_meets ⟨_, ho, rfl⟩ ⟨_, ho2, rfl⟩ noFill_tuple_add seq_tuple_add PySem.F.slot_tuple_add PySem.F.entry_tuple_add (PySem.F.args_tuple_add_2 _ _)
  (tuple_addW0 t b #[] ws.toArray n n2 dd dd2 sl sl2 (by simp)) ⟨ho, ho2, h1⟩
def dP5 (K : PySem.W.Frag) : R2 := fun x y H Q => ∃ a b ys, x = .ref a ∧ y = .ref b ∧ SqT K H a [] ∧ SqT K H b ys ∧ Q (.ref b) H
theorem cV4 : OpR X (binaryOp .Add) (dP5 X.K) := by
 intro pins s σ H x y v u Q I rx ry h
 obtain ⟨a, b, ys, rfl, rfl, ha, hb, q⟩ := h
 cases rx
 cases ry
 obtain ⟨its, r, p, _⟩ := I.tuple ha
 obtain ⟨its2, r2, p2, _⟩ := I.tuple hb
 cases r
 exact cY6 p p2 ⟨.ref b, H, I, rfl, q⟩
def T4 : D → D → M D := fun x y => match x, y with
 | .int i, .int j => pure (.int (i + j))
 | .str a, .str b => if a.length + b.length ≤ sizeLine then pure (.str (a ++ b)) else M.stuck
 | .tup a, .tup b => if a.length + b.length ≤ sizeLine then pure (.tup (a ++ b)) else M.stuck
 | .ref i, .ref j => do
   match ← Q3 i, ← Q3 j with
   | .lst a, .lst b => if a.length + b.length ≤ sizeLine then N7 (.lst (a ++ b)) else M.stuck
   | _, _ => M.stuck
 | _, _ => M.stuck
theorem aZ7 {xs : List D} {vs : List V} {Q : VK} (h : t7 c μ G H) {a : Addr} (q : SqT c.K H a vs) (r : o6 c μ H xs vs)
 (p : d9 c Z μ H (some (Except.ok (.tup xs), G)) fun d μ' _ H' => ∀ v, g8 c μ' H' d v → Q v H') : Q (.ref a) H := d9.ok p h _ (by unfold g8; exact ⟨a, vs, rfl, q, r⟩)
theorem od_add : OpD X Z (binaryOp .Add) T4 :=
 OpD.of (OpR.or dO0 (OpR.or cC5 (OpR.or dB8 (OpR.or cV4 dQ0)))) fun x y H Q hE0 => hE0.elim fun dx dy μ G rx ry hr p => by
  rcases dx with _ | _ | _ | _ | _ | _ | _ | _ <;> rcases dy with _ | _ | _ | _ | _ | _ | _ | _ <;> first
   | exact p.elim
   | skip
  · exact .inl ⟨_, _, aE5 rx, aE5 ry, d9.ok p hr _ ofI⟩
  · rename_i a b
    refine .inr (.inl ?_)
    unfold T4 at p
    dsimp only at p
    split at p
    · rename_i hz
      exact ⟨a, b, bE0 rx, bE0 ry, hz, d9.ok p hr _ ofS⟩
    · exact p.elim
  · rename_i a b
    unfold g8 at rx ry
    obtain ⟨ax, vx, rfl, qx, lx⟩ := rx
    obtain ⟨ay, vy, rfl, qy, ly⟩ := ry
    unfold T4 at p
    dsimp only at p
    split at p
    · rename_i hz
      by_cases hv : vx = []
      · subst hv
        rcases a with _ | ⟨_, _⟩
        · exact .inr (.inr (.inr (.inl ⟨ax, ay, vy, rfl, rfl, qx, qy, aZ7 hr qy ly p⟩)))
        · obtain ⟨_, _, z, _⟩ := lx; cases z
      · refine .inr (.inr (.inl ⟨ax, ay, vx, vy, rfl, rfl, qx, qy, hv, by rw [← lx.length, ← ly.length]; exact hz, ?_⟩))
        refine ⟨fun hy => ?_, fun hy q hq => aV1 hr (lx.append ly) p q hq⟩
        subst hy
        refine aZ7 hr qx ?_ p
        rcases b with _ | ⟨_, _⟩
        · rw [List.append_nil]; exact lx
        · obtain ⟨_, _, z, _⟩ := ly; cases z
    · exact p.elim
  · rename_i i j
    unfold g8 at rx ry
    obtain ⟨ax, mx, rfl⟩ := rx
    obtain ⟨ay, my, rfl⟩ := ry
    obtain ⟨ox, gx, p⟩ := N8 p
    obtain ⟨oy, gy, p⟩ := N8 p
    have hx := hr.obj i ox ax gx mx
    have hy := hr.obj j oy ay gy my
    rcases ox with _ | _ | _ | _ <;> rcases oy with _ | _ | _ | _ <;> first
     | exact p.elim
     | skip
    obtain ⟨vx, ex, lx⟩ := hx
    obtain ⟨vy, ey, ly⟩ := hy
    dsimp only at p
    split at p
    · rename_i hz
      exact .inr (.inr (.inr (.inr ⟨ax, ay, vx, vy, rfl, rfl, ex, ey, by rw [← lx.length, ← ly.length]; exact hz, fun q hq => aB1 hr (lx.append ly) p q hq⟩)))
    · exact p.elim
end
noncomputable def X7 (G : DH) : D → Option (Bool × List D)
 | .tup l => some (true, l)
 | .ref i => match G[i]? with
   | some (.lst l) => some (false, l)
   | some (.rol l) => some (false, l)
   | _ => none
 | _ => none
noncomputable def aI3 : D → Bool
 | .non => true
 | .bl _ => true
 | .int _ => true
 | .str _ => true
 | _ => false
def eqS : D → D → Option Bool
 | .non, .non => some true
 | .bl a, .bl b => some (a == b)
 | .int a, .int b => some (a == b)
 | .str a, .str b => some (a == b)
 | .bl a, .int b => some ((if a then (1 : Int) else 0) == b)
 | .int a, .bl b => some (a == (if b then (1 : Int) else 0))
 | x, y => if aI3 x && aI3 y then some false else none
noncomputable def eqL (f : D → D → Option Bool) : List D → List D → Option Bool
 | [], [] => some true
 | [], _ :: _ => some false
 | _ :: _, [] => some false
 | x :: xs, y :: ys => match f x y, eqL f xs ys with
   | some e, some r => some (e && r)
   | _, _ => none
def eqN : Nat → DH → D → D → Option Bool
 | 0, _, _, _ => none
 | n + 1, G, x, y => match X7 G x, X7 G y with
   | some (k1, a), some (k2, b) => if k1 = k2 then (if k1 = false ∧ a.length ≠ b.length then some false else eqL (eqN n G) a b) else some false
   | some _, none => if aI3 y then some false else none
   | none, some _ => if aI3 x then some false else none
   | none, none => eqS x y
theorem aR5 {n : Nat} {G : DH} {x y : D} : eqN (n + 1) G x y = match X7 G x, X7 G y with
 | some (k1, a), some (k2, b) => if k1 = k2 then (if k1 = false ∧ a.length ≠ b.length then some false else eqL (eqN n G) a b) else some false
 | some _, none => if aI3 y then some false else none
 | none, some _ => if aI3 x then some false else none
 | none, none => eqS x y := rfl
theorem bC3 {f : D → D → Option Bool} {x y : D} {xs ys : List D} : eqL f (x :: xs) (y :: ys) = match f x y, eqL f xs ys with
 | some e, some r => some (e && r)
 | _, _ => none := rfl
theorem bL5 {f : D → D → Option Bool} {e : Nat → Bool} : ∀ (a b : List D) (r : Bool), eqL f a b = some r → (∀ (j : Nat) x y, a[j]? = some x → b[j]? = some y → f x y = some (e j)) → r = ((List.range (min a.length b.length)).all e && a.length == b.length)
 | [], [], r, h, _ => by cases h; rfl
 | [], _ :: _, r, h, _ => by cases h; simp
 | _ :: _, [], r, h, _ => by cases h; simp
 | x :: xs, y :: ys, r, h, he => by
   rw [bC3] at h
   have h0 := he 0 x y rfl rfl
   rw [h0] at h
   rcases hr : eqL f xs ys with _ | r'
   · rw [hr] at h; cases h
   ·
     rw [hr] at h
     have ih := bL5 (e := fun j => e (j + 1)) xs ys r' hr fun j x' y' h1 h2 => he (j + 1) x' y' (by simpa using h1) (by simpa using h2)
     cases h
     rw [ih]
     have : min (x :: xs).length (y :: ys).length = min xs.length ys.length + 1 := by simp only [List.length_cons]; lia
     rw [this, List.range_succ_eq_map, List.all_cons, List.all_map]
     simp [Bool.and_assoc, Function.comp_def]
theorem bI6 {f : D → D → Option Bool} : ∀ (a b : List D) (r : Bool), eqL f a b = some r → ∀ (j : Nat) x y, a[j]? = some x → b[j]? = some y → ∃ e, f x y = some e
 | [], _, _, _, _, _, _, h, _ => by simp at h
 | _ :: _, [], _, _, _, _, _, _, h => by simp at h
 | x :: xs, y :: ys, r, h, j, x', y', h1, h2 => by
   rw [bC3] at h
   rcases hf : f x y with _ | e
   · rw [hf] at h; cases h
   ·
     rcases hr : eqL f xs ys with _ | r'
     · rw [hf, hr] at h; cases h
     ·
       cases j with
       | zero => simp at h1 h2; subst h1 h2; exact ⟨e, hf⟩
       | succ j => exact bI6 xs ys r' hr j x' y' (by simpa using h1) (by simpa using h2)
section
variable {X : Cx} {pins : PNS} {σ : St} {H : Hp} {s : Shared} {μ : List Addr} {G : DH}
noncomputable def bZ4 (s : Shared) (k : Bool) (a : Addr) (its : List Value) : Prop := if k then s.heap.IsTuple a its.toArray else s.heap.IsList a its.toArray
theorem aE6 (I : Inv X pins σ H s) (h : t7 (wc X) μ G H) {d : D} {x : V} {v : Value} {k : Bool} {l : List D} (e : X7 G d = some (k, l)) (r : g8 (wc X) μ H d x) (rv : J7 x v) :
 ∃ a vs its, x = .ref a ∧ v = .ref a ∧ o6 (wc X) μ H l vs ∧ w6 vs its ∧ bZ4 s k a its ∧ (if k then SqT X.K H a vs else SqL X.K H a vs) := by
 rcases d with _ | _ | _ | _ | l' | i | _ | _ <;> try (cases e; done)
 ·
   unfold X7 at e
   cases e
   unfold g8 at r
   obtain ⟨a, vs, rfl, q, rl⟩ := r
   obtain ⟨its, rr, p, _⟩ := I.tuple q
   exact ⟨a, vs, its, rfl, rv, rl, rr, p, q⟩
 ·
   have e' : (match G[i]? with | some (.lst l) => some (false, l) | some (.rol l) => some (false, l) | _ => none) = some (k, l) := e
   unfold g8 at r
   obtain ⟨a, m, rfl⟩ := r
   have key : ∀ vs, SqL X.K H a vs → o6 (wc X) μ H l vs → k = false → ∃ a' vs its, V.ref a = .ref a' ∧ v = .ref a' ∧ o6 (wc X) μ H l vs ∧ w6 vs its ∧ bZ4 s k a' its ∧ (if k then SqT X.K H a' vs else SqL X.K H a' vs) := fun vs q rl hk => by
    subst hk
    obtain ⟨its, rr, p, _⟩ := I.list q
    exact ⟨a, vs, its, rfl, rv, rl, rr, p.isList, q⟩
   generalize g : G[i]? = o at e'
   rcases o with _ | l' | l' | _ | _ <;> cases e'
   · obtain ⟨vs, q, rl⟩ := h.obj i _ a g m
     exact key vs (SqL.of q) rl rfl
   · obtain ⟨vs, q, rl⟩ := h.obj i _ a g m
     exact key vs q.sq rl rfl
theorem bI7 {d : D} {a : Addr} {c : Wc} (hs : aI3 d = true) (r : g8 c μ H d (.ref a)) : False := by
 cases d <;> first
  | exact absurd (show false = true from hs) Bool.false_ne_true
  | (unfold g8 at r; cases r)
theorem cB3 {x y : D} {b : Bool} (h : eqS x y = some b) : aI3 x = true ∧ aI3 y = true := by
 rcases x with _ | _ | _ | _ | _ | _ | _ | _ <;> rcases y with _ | _ | _ | _ | _ | _ | _ | _ <;> first
  | exact ⟨rfl, rfl⟩
  | (cases h; done)
theorem cT6 {x y : D} {b : Bool} {v : V} {c : Wc} (h : eqS x y = some b) (rx : g8 c μ H x v) (ry : g8 c μ H y v) : b = true := by
 obtain ⟨s1, s2⟩ := cB3 h
 rcases x with _ | _ | _ | _ | _ | _ | _ | _ <;> rcases y with _ | _ | _ | _ | _ | _ | _ | _ <;> first
  | (cases s1; done)
  | (cases s2; done)
  | (unfold g8 at rx ry; rw [rx] at ry; cases ry; done)
  | (unfold g8 at rx ry; rw [rx] at ry; cases ry; cases h; first | rfl | simp)
theorem cE1 (I : Inv X pins σ H s) {k k' : Bool} {a : Addr} {its its' : List Value} (h1 : bZ4 s k a its) (h2 : bZ4 s k' a its') : k = k' := by
 cases k <;> cases k' <;> first
  | rfl
  | exact absurd rfl (SeqAt.ne_of_list_tuple h1 h2)
  | exact absurd rfl (SeqAt.ne_of_list_tuple h2 h1)
theorem eqL_same {c : Wc} {f : D → D → Option Bool} : ∀ (l l' : List D) (vs : List V) (b : Bool), o6 c μ H l vs → o6 c μ H l' vs → (∀ d d' v b, v ∈ vs → g8 c μ H d v → g8 c μ H d' v → f d d' = some b → b = true) → eqL f l l' = some b → b = true
 | [], [], _, b, _, _, _, e => by cases e; rfl
 | [], _ :: _, vs, b, r1, r2, _, _ => by cases r1; obtain ⟨_, _, z, _⟩ := r2; cases z
 | _ :: _, [], vs, b, r1, r2, _, _ => by cases r2; obtain ⟨_, _, z, _⟩ := r1; cases z
 | d :: ds, d' :: ds', vs, b, r1, r2, k, e => by
   obtain ⟨v0, vr, rfl, q0, t0⟩ := r1
   obtain ⟨v1, vr', e1, q1, t1⟩ := r2
   cases e1
   rw [bC3] at e
   rcases hf : f d d' with _ | e0
   · rw [hf] at e; cases e
   ·
     rcases hr : eqL f ds ds' with _ | r'
     · rw [hf, hr] at e; cases e
     ·
       rw [hf, hr] at e
       cases e
       have z1 := k d d' v0 e0 List.mem_cons_self q0 q1 hf
       have z2 := eqL_same ds ds' vr r' t0 t1 (fun a a' v b hm => k a a' v b (List.mem_cons_of_mem _ hm)) hr
       rw [z1, z2]; rfl
theorem cA1 (I : Inv X pins σ H s) (h : t7 (wc X) μ G H) : ∀ (n : Nat) {dx dy : D} {x : V} {v : Value} {b : Bool}, g8 (wc X) μ H dx x → g8 (wc X) μ H dy x → J7 x v → eqN n G dx dy = some b → b = true
 | 0, _, _, _, _, _, _, _, _, e => by cases e
 | n + 1, dx, dy, x, v, b, rx, ry, rv, e => by
   rw [aR5] at e
   rcases hx : X7 G dx with _ | p
   ·
     rw [hx] at e
     rcases hy : X7 G dy with _ | p
     · rw [hy] at e; exact cT6 e rx ry
     ·
       obtain ⟨k, l⟩ := p
       rw [hy] at e
       dsimp only at e
       split at e
       · rename_i hs
         obtain ⟨a, _, _, rfl, _⟩ := aE6 I h hy ry rv
         exact (bI7 hs rx).elim
       · cases e
   ·
     obtain ⟨k, l⟩ := p
     rw [hx] at e
     rcases hy : X7 G dy with _ | p'
     ·
       rw [hy] at e
       dsimp only at e
       split at e
       · rename_i hs
         obtain ⟨a, _, _, rfl, _⟩ := aE6 I h hx rx rv
         exact (bI7 hs ry).elim
       · cases e
     ·
       obtain ⟨k', l'⟩ := p'
       rw [hy] at e
       dsimp only at e
       obtain ⟨a, vs, its, rfl, rfl, rl, rr, sq, q⟩ := aE6 I h hx rx rv
       obtain ⟨a', vs', its', ea, _, rl', rr', sq', q'⟩ := aE6 I h hy ry rv
       cases ea
       have hk : k = k' := cE1 I sq sq'
       subst hk
       have hvs : vs = vs' := by
        rcases k with _ | _
        · exact I.list_inj q q'
        · exact I.tuple_inj q q'
       subst hvs
       rw [if_pos rfl, if_neg (by rw [rl.length, rl'.length]; simp)] at e
       have hv : ∀ v ∈ vs, ∃ u, J7 v u := fun v hv => by
        obtain ⟨i, hi⟩ := List.getElem?_of_mem hv
        obtain ⟨u, _, ru⟩ := rr.get hi
        exact ⟨u, ru⟩
       exact eqL_same l l' vs b rl rl' (fun d d' v b hm r1 r2 ef => by
        obtain ⟨u, ru⟩ := hv v hm
        exact cA1 I h n r1 r2 ru ef) e
theorem dO7 {A : Around} {dx dy : D} {x y : V} {v u : Value} {b : Bool} {c : Wc} (rx : g8 c μ H dx x) (ry : g8 c μ H dy y) (rv : J7 x v) (ru : J7 y u) (e : eqS dx dy = some b) :
 SeqAt.RcAt A s v u b ∧ SeqAt.RcNeAt A s v u (!b) ∧ SeqAt.EqAt A s v u b := by
 obtain ⟨s1, s2⟩ := cB3 e
 rcases dx with _ | i | i | i | _ | _ | _ | _ <;> try (cases s1; done)
 ·
   unfold g8 at rx; subst rx; cases rv
   rcases dy with _ | j | j | j | _ | _ | _ | _ <;> try (cases s2; done)
   · unfold g8 at ry; subst ry; cases ru; cases e; exact ⟨SeqAt.RcAt.none_none, SeqAt.RcNeAt.none_none, SeqAt.EqAt.same _⟩
   · unfold g8 at ry; subst ry; cases ru; cases e; exact ⟨SeqAt.RcAt.none_bool _, SeqAt.RcNeAt.none_bool _, SeqAt.EqAt.none_bool _⟩
   · unfold g8 at ry; subst ry; obtain ⟨t, rfl⟩ := ru; cases e; exact ⟨SeqAt.RcAt.none_int _ _, SeqAt.RcNeAt.none_int _ _, SeqAt.EqAt.none_int _ _⟩
   · unfold g8 at ry; subst ry; obtain ⟨t, rfl⟩ := ru; cases e; exact ⟨SeqAt.RcAt.none_str _ _, SeqAt.RcNeAt.none_str _ _, SeqAt.EqAt.none_str _ _⟩
 ·
   unfold g8 at rx; subst rx; cases rv
   rcases dy with _ | j | j | j | _ | _ | _ | _ <;> try (cases s2; done)
   · unfold g8 at ry; subst ry; cases ru; cases e; exact ⟨SeqAt.RcAt.bool_none _, SeqAt.RcNeAt.bool_none _, SeqAt.EqAt.bool_none _⟩
   · unfold g8 at ry; subst ry; cases ru; cases e; exact ⟨SeqAt.RcAt.bool_bool _ _, SeqAt.RcNeAt.bool_bool _ _, SeqAt.EqAt.bool_bool _ _⟩
   · unfold g8 at ry; subst ry; obtain ⟨t, rfl⟩ := ru; cases e; exact ⟨SeqAt.RcAt.bool_int _ _ _, SeqAt.RcNeAt.bool_int _ _ _, SeqAt.EqAt.bool_int _ _ _⟩
   · unfold g8 at ry; subst ry; obtain ⟨t, rfl⟩ := ru; cases e; exact ⟨SeqAt.RcAt.bool_str _ _ _, SeqAt.RcNeAt.bool_str _ _ _, SeqAt.EqAt.bool_str _ _ _⟩
 ·
   unfold g8 at rx; subst rx; obtain ⟨t, rfl⟩ := rv
   rcases dy with _ | j | j | j | _ | _ | _ | _ <;> try (cases s2; done)
   · unfold g8 at ry; subst ry; cases ru; cases e; exact ⟨SeqAt.RcAt.int_none _ _, SeqAt.RcNeAt.int_none _ _, SeqAt.EqAt.int_none _ _⟩
   · unfold g8 at ry; subst ry; cases ru; cases e; exact ⟨SeqAt.RcAt.int_bool _ _ _, SeqAt.RcNeAt.int_bool _ _ _, SeqAt.EqAt.int_bool _ _ _⟩
   · unfold g8 at ry; subst ry; obtain ⟨t, rfl⟩ := ru; cases e; exact ⟨SeqAt.RcAt.int_int _ _ _ _, SeqAt.RcNeAt.int_int _ _ _ _, SeqAt.EqAt.int_int _ _ _ _⟩
   · unfold g8 at ry; subst ry; obtain ⟨t, rfl⟩ := ru; cases e; exact ⟨SeqAt.RcAt.int_str _ _ _ _, SeqAt.RcNeAt.int_str _ _ _ _, SeqAt.EqAt.int_str _ _ _ _⟩
 ·
   unfold g8 at rx; subst rx; obtain ⟨t, rfl⟩ := rv
   rcases dy with _ | j | j | j | _ | _ | _ | _ <;> try (cases s2; done)
   · unfold g8 at ry; subst ry; cases ru; cases e; exact ⟨SeqAt.RcAt.str_none _ _, SeqAt.RcNeAt.str_none _ _, SeqAt.EqAt.str_none _ _⟩
   · unfold g8 at ry; subst ry; cases ru; cases e; exact ⟨SeqAt.RcAt.str_bool _ _ _, SeqAt.RcNeAt.str_bool _ _ _, SeqAt.EqAt.str_bool _ _ _⟩
   · unfold g8 at ry; subst ry; obtain ⟨t, rfl⟩ := ru; cases e; exact ⟨SeqAt.RcAt.str_int _ _ _ _, SeqAt.RcNeAt.str_int _ _ _ _, SeqAt.EqAt.str_int _ _ _ _⟩
   · unfold g8 at ry; subst ry; obtain ⟨t, rfl⟩ := ru; cases e; exact ⟨SeqAt.RcAt.str_str _ _ _ _, SeqAt.RcNeAt.str_str _ _ _ _, SeqAt.EqAt.str_str _ _ _ _⟩
theorem bC7 {A : Around} (hu : A.units < cLine) {k : Bool} {a : Addr} {its : List Value} (sq : bZ4 s k a its) {dy : D} {y : V} {u : Value} {c : Wc} (ry : g8 c μ H dy y) (ru : J7 y u) (hs : aI3 dy = true) :
 (SeqAt.RcAt A s (.ref a) u false ∧ SeqAt.RcNeAt A s (.ref a) u true ∧ SeqAt.EqAt A s (.ref a) u false) ∧ (SeqAt.RcAt A s u (.ref a) false ∧ SeqAt.RcNeAt A s u (.ref a) true ∧ SeqAt.EqAt A s u (.ref a) false) := by
 rcases k with _ | _
 ·
   rcases dy with _ | j | j | j | _ | _ | _ | _ <;> try (cases hs; done)
   · unfold g8 at ry; subst ry; cases ru; exact ⟨⟨.list_none sq hu, .list_none sq hu, .list_none sq hu⟩, .none_list sq hu, .none_list sq hu, .none_list sq hu⟩
   · unfold g8 at ry; subst ry; cases ru; exact ⟨⟨.list_bool _ sq hu, .list_bool _ sq hu, .list_bool _ sq hu⟩, .bool_list _ sq hu, .bool_list _ sq hu, .bool_list _ sq hu⟩
   · unfold g8 at ry; subst ry; obtain ⟨t, rfl⟩ := ru; exact ⟨⟨.list_int _ _ sq hu, .list_int _ _ sq hu, .list_int _ _ sq hu⟩, .int_list _ _ sq hu, .int_list _ _ sq hu, .int_list _ _ sq hu⟩
   · unfold g8 at ry; subst ry; obtain ⟨t, rfl⟩ := ru; exact ⟨⟨.list_str _ _ sq hu, .list_str _ _ sq hu, .list_str _ _ sq hu⟩, .str_list _ _ sq hu, .str_list _ _ sq hu, .str_list _ _ sq hu⟩
 ·
   rcases dy with _ | j | j | j | _ | _ | _ | _ <;> try (cases hs; done)
   · unfold g8 at ry; subst ry; cases ru; exact ⟨⟨.tuple_none sq hu, .tuple_none sq hu, .tuple_none sq hu⟩, .none_tuple sq hu, .none_tuple sq hu, .none_tuple sq hu⟩
   · unfold g8 at ry; subst ry; cases ru; exact ⟨⟨.tuple_bool _ sq hu, .tuple_bool _ sq hu, .tuple_bool _ sq hu⟩, .bool_tuple _ sq hu, .bool_tuple _ sq hu, .bool_tuple _ sq hu⟩
   · unfold g8 at ry; subst ry; obtain ⟨t, rfl⟩ := ru; exact ⟨⟨.tuple_int _ _ sq hu, .tuple_int _ _ sq hu, .tuple_int _ _ sq hu⟩, .int_tuple _ _ sq hu, .int_tuple _ _ sq hu, .int_tuple _ _ sq hu⟩
   · unfold g8 at ry; subst ry; obtain ⟨t, rfl⟩ := ru; exact ⟨⟨.tuple_str _ _ sq hu, .tuple_str _ _ sq hu, .tuple_str _ _ sq hu⟩, .str_tuple _ _ sq hu, .str_tuple _ _ sq hu, .str_tuple _ _ sq hu⟩
theorem cB4 (I : Inv X pins σ H s) (h : t7 (wc X) μ G H) : ∀ (n : Nat) (A : Around), A.units + n < cLine → ∀ {dx dy : D} {x y : V} {v u : Value} {b : Bool}, g8 (wc X) μ H dx x → g8 (wc X) μ H dy y → J7 x v → J7 y u → eqN n G dx dy = some b →
 SeqAt.RcAt A s v u b ∧ SeqAt.RcNeAt A s v u (!b) ∧ SeqAt.EqAt A s v u b
 | 0, _, _, _, _, _, _, _, _, _, _, _, _, _, e => by cases e
 | n + 1, A, hu, dx, dy, x, y, v, u, b, rx, ry, rv, ru, e => by
   have hu0 : A.units < cLine := by lia
   have hu1 : A.in1.units + n < cLine := by show A.units + 1 + n < cLine; lia
   have e0 := e
   rw [aR5] at e
   rcases hx : X7 G dx with _ | p
   ·
     rw [hx] at e
     rcases hy : X7 G dy with _ | p
     · rw [hy] at e; exact dO7 rx ry rv ru e
     ·
       obtain ⟨k, l⟩ := p
       rw [hy] at e
       dsimp only at e
       split at e
       · rename_i hs
         cases e
         obtain ⟨a, vs, its, rfl, rfl, _, _, sq, _⟩ := aE6 I h hy ry ru
         exact (bC7 hu0 sq rx rv hs).2
       · cases e
   ·
     obtain ⟨k, l⟩ := p
     rw [hx] at e
     obtain ⟨a, vs, its, rfl, rfl, rl, rr, sq, q⟩ := aE6 I h hx rx rv
     rcases hy : X7 G dy with _ | p'
     ·
       rw [hy] at e
       dsimp only at e
       split at e
       · rename_i hs
         cases e
         exact (bC7 hu0 sq ry ru hs).1
       · cases e
     ·
       obtain ⟨k', l'⟩ := p'
       rw [hy] at e
       dsimp only at e
       obtain ⟨a', vs', its', rfl, rfl, rl', rr', sq', q'⟩ := aE6 I h hy ry ru
       -- the two at one place
       have main : SeqAt.RcAt A s (.ref a) (.ref a') b ∧ SeqAt.RcNeAt A s (.ref a) (.ref a') (!b) := by
        have len1 : its.toArray.size = l.length := by rw [List.size_toArray, ← rr.length, rl.length]
        have len2 : its'.toArray.size = l'.length := by rw [List.size_toArray, ← rr'.length, rl'.length]
        by_cases hk : k = k'
        · subst hk
          rw [if_pos rfl] at e
          by_cases hlen : k = false ∧ l.length ≠ l'.length
          · rw [if_pos hlen] at e
            cases e
            obtain ⟨rfl, hne⟩ := hlen
            have hz : (its.toArray.size != its'.toArray.size) = true := by rw [len1, len2]; simpa using hne
            exact ⟨SeqAt.RcAt.lists_lengths sq sq' hz hu0, SeqAt.RcNeAt.lists_lengths sq sq' hz hu0⟩
          · rw [if_neg hlen] at e
            have items : ∀ j (h1 : j < its.toArray.size) (h2 : j < its'.toArray.size), ∃ e, eqN n G (l.getD j .non) (l'.getD j .non) = some e ∧ SeqAt.EqAt A.in1 s its.toArray[j] its'.toArray[j] e := fun j h1 h2 => by
             have j1 : j < l.length := by rw [← len1]; exact h1
             have j2 : j < l'.length := by rw [← len2]; exact h2
             have g1 : l[j]? = some l[j] := List.getElem?_eq_getElem j1
             have g2 : l'[j]? = some l'[j] := List.getElem?_eq_getElem j2
             obtain ⟨e1, he1⟩ := bI6 l l' b e j _ _ g1 g2
             obtain ⟨v1, hv1, r1⟩ := rl.get g1
             obtain ⟨v2, hv2, r2⟩ := rl'.get g2
             obtain ⟨u1, hu1', ru1⟩ := rr.get hv1
             obtain ⟨u2, hu2', ru2⟩ := rr'.get hv2
             have w1 : its.toArray[j] = u1 := by
              have : its.toArray[j]? = some u1 := by simpa using hu1'
              rw [Array.getElem?_eq_getElem h1] at this
              exact Option.some.inj this
             have w2 : its'.toArray[j] = u2 := by
              have : its'.toArray[j]? = some u2 := by simpa using hu2'
              rw [Array.getElem?_eq_getElem h2] at this
              exact Option.some.inj this
             rw [w1, w2]
             refine ⟨e1, ?_, (cB4 I h n A.in1 hu1 r1 r2 ru1 ru2 he1).2.2⟩
             rw [List.getD_eq_getElem?_getD, List.getD_eq_getElem?_getD, g1, g2]
             exact he1
            have hr := bL5 (e := fun j => (eqN n G (l.getD j .non) (l'.getD j .non)).getD false) l l' b e fun j x y g1 g2 => by
             obtain ⟨e1, he1⟩ := bI6 l l' b e j x y g1 g2
             rw [List.getD_eq_getElem?_getD, List.getD_eq_getElem?_getD, g1, g2]
             simp only [Option.getD_some]
             rw [he1]; rfl
            have he : ∀ j (h1 : j < its.toArray.size) (h2 : j < its'.toArray.size), SeqAt.EqAt A.in1 s its.toArray[j] its'.toArray[j] ((eqN n G (l.getD j .non) (l'.getD j .non)).getD false) := fun j h1 h2 => by
             obtain ⟨e1, he1, hh⟩ := items j h1 h2
             rw [he1]; exact hh
            rcases k with _ | _
            ·
              have hl : l.length = l'.length := Classical.byContradiction fun z => hlen ⟨rfl, z⟩
              have hsz : its.toArray.size = its'.toArray.size := by rw [len1, len2, hl]
              have z1 := SeqAt.RcAt.lists (A := A) sq sq' hsz hu0 he
              have z2 := SeqAt.RcNeAt.lists (A := A) sq sq' hsz hu0 he
              have hr2 : b = (List.range its.toArray.size).all fun j => (eqN n G (l.getD j .non) (l'.getD j .non)).getD false := by
               rw [hr, len1, hl]; simp
              rw [← hr2] at z1 z2
              exact ⟨z1, z2⟩
            ·
              have z1 := SeqAt.RcAt.tuples (A := A) sq sq' hu0 he
              have z2 := SeqAt.RcNeAt.tuples (A := A) sq sq' hu0 he
              rw [len1, len2, ← hr] at z1 z2
              exact ⟨z1, z2⟩
        · rw [if_neg hk] at e
          cases e
          cases k <;> cases k' <;> first
           | exact absurd rfl hk
           | exact ⟨SeqAt.RcAt.list_tuple sq sq' hu0, SeqAt.RcNeAt.list_tuple sq sq' hu0⟩
           | exact ⟨SeqAt.RcAt.tuple_list sq sq' hu0, SeqAt.RcNeAt.tuple_list sq sq' hu0⟩
       refine ⟨main.1, main.2, ?_⟩
       by_cases ha : a = a'
       · subst ha
         have : b = true := cA1 I h (n + 1) rx ry rv e0
         rw [this]
         exact SeqAt.EqAt.same _
       · exact SeqAt.EqAt.of_refs ha main.1
end
section
variable {X : Cx} {Z : XC}
def eqD : D → D → M D := fun x y G => match eqN 40 G x y with
 | some b => some (.ok (.bl b), G)
 | none => none
def neD : D → D → M D := fun x y G => match eqN 40 G x y with
 | some b => some (.ok (.bl (!b)), G)
 | none => none
theorem od_eq (hu : X.A.units + 64 < cLine) : OpD X Z (compareOp .Eq) eqD := ⟨by
 intro pins s σ H x y v u Q I rx ry hE0
 refine hE0.elim fun dx dy μ G rdx rdy hr p => ?_
 unfold eqD at p
 rcases e : eqN 40 G dx dy with _ | b
 · rw [e] at p; exact p.elim
 ·
   rw [e] at p
   exact (cB4 I hr 40 X.A (by lia) rdx rdy rx ry e).1 X.prog X.w X.xe _ ⟨.bl b, H, I, rfl, d9.ok p hr _ ofB⟩⟩
theorem od_ne (hu : X.A.units + 64 < cLine) : OpD X Z (compareOp .NotEq) neD := ⟨by
 intro pins s σ H x y v u Q I rx ry hE0
 refine hE0.elim fun dx dy μ G rdx rdy hr p => ?_
 unfold neD at p
 rcases e : eqN 40 G dx dy with _ | b
 · rw [e] at p; exact p.elim
 ·
   rw [e] at p
   exact (cB4 I hr 40 X.A (by lia) rdx rdy rx ry e).2.1 X.prog X.w X.xe _ ⟨.bl (!b), H, I, rfl, d9.ok p hr _ ofB⟩⟩
def leD : D → D → M D := fun x y => match x, y with
 | .int i, .int j => pure (.bl (decide (i ≤ j)))
 | .str i, .str j => pure (.bl (!decide (j.cps.toList < i.cps.toList)))
 | _, _ => M.stuck
def gtD : D → D → M D := fun x y => match x, y with
 | .int i, .int j => pure (.bl (decide (j < i)))
 | .str i, .str j => pure (.bl (decide (j.cps.toList < i.cps.toList)))
 | _, _ => M.stuck
theorem cI1 {op : CmpOp} {fi : Int → Int → Bool} {fs : Str → Str → Bool} {o : D → D → M D} (hi : OpR X (compareOp op) (rI0 fun i j => .bl (fi i j)))
 (hs : ∀ (i j : Str) (t u : Tok) (s : Shared) (Q : VSP) (E : VSP), Q (.bool (fs i j)) s → wpAny (model X.prog X.w) X.A (compareOp op (.str i t) (.str j u)) Q E s)
 (h1 : ∀ i j, o (.int i) (.int j) = pure (.bl (fi i j))) (h2 : ∀ i j, o (.str i) (.str j) = pure (.bl (fs i j)))
 (h3 : ∀ x y, (∀ i j, ¬ (x = .int i ∧ y = .int j)) → (∀ i j, ¬ (x = .str i ∧ y = .str j)) → o x y = M.stuck) : OpD X Z (compareOp op) o := ⟨by
 intro pins s σ H x y v u Q I rx ry hE0
 refine hE0.elim fun dx dy μ G rdx rdy hr p => ?_
 by_cases c1 : ∃ i j, dx = .int i ∧ dy = .int j
 · obtain ⟨i, j, rfl, rfl⟩ := c1
   rw [h1] at p
   exact hi pins s σ H x y v u Q I rx ry ⟨i, j, aE5 rdx, aE5 rdy, d9.ok p hr _ ofB⟩
 · by_cases c2 : ∃ i j, dx = .str i ∧ dy = .str j
   · obtain ⟨i, j, rfl, rfl⟩ := c2
     rw [h2] at p
     have e1 := bE0 rdx
     have e2 := bE0 rdy
     subst e1 e2
     obtain ⟨t, rfl⟩ := rx
     obtain ⟨t', rfl⟩ := ry
     exact hs i j t t' s _ _ ⟨.bl (fs i j), H, I, rfl, d9.ok p hr _ ofB⟩
   · rw [h3 dx dy (fun i j z => c1 ⟨i, j, z⟩) (fun i j z => c2 ⟨i, j, z⟩)] at p
     exact p.elim⟩
theorem od_le : OpD X Z (compareOp .LtE) leD := cI1 dY3 (fun _ _ _ _ _ _ _ q => PySem.P.le_str q) (fun _ _ => rfl) (fun _ _ => rfl) fun x y n1 n2 => by
 rcases x with _ | _ | _ | _ | _ | _ | _ | _ <;> rcases y with _ | _ | _ | _ | _ | _ | _ | _ <;> first
  | rfl
  | exact absurd ⟨rfl, rfl⟩ (n1 _ _)
  | exact absurd ⟨rfl, rfl⟩ (n2 _ _)
theorem od_gt : OpD X Z (compareOp .Gt) gtD := cI1 dW2 (fun _ _ _ _ _ _ _ q => PySem.P.gt_str q) (fun _ _ => rfl) (fun _ _ => rfl) fun x y n1 n2 => by
 rcases x with _ | _ | _ | _ | _ | _ | _ | _ <;> rcases y with _ | _ | _ | _ | _ | _ | _ | _ <;> first
  | rfl
  | exact absurd ⟨rfl, rfl⟩ (n1 _ _)
  | exact absurd ⟨rfl, rfl⟩ (n2 _ _)
noncomputable def cD3 : D → Bool
 | .non => true
 | _ => false
theorem cJ9 {c : Wc} {μ : List Addr} {H : Hp} {d : D} {v : V} (r : g8 c μ H d v) : decide (v = .non) = cD3 d := by
 cases d with
 | non => rw [cY9 r]; rfl
 | tup l => unfold g8 at r; obtain ⟨a, _, rfl, _⟩ := r; rfl
 | ref l => unfold g8 at r; obtain ⟨a, _, rfl⟩ := r; rfl
 | fn l => unfold g8 at r; obtain ⟨a, _, rfl⟩ := r; rfl
 | _ => unfold g8 at r; subst r; rfl
def cE9 : D → M D := fun x => match x with
 | .int i => pure (.int (-i))
 | _ => M.stuck
theorem ud_neg : UnD X Z (unaryOp .USub) cE9 := ⟨by
 intro pins s σ H x v Q I rx hE0
 refine hE0.elim fun dx μ G rdx hr p => ?_
 cases dx <;> first
  | exact p.elim
  | exact dT2 pins s σ H x v Q I rx ⟨_, aE5 rdx, d9.ok p hr _ ofI⟩⟩
noncomputable instance (x : Str) (n : Int) : Decidable (PySem.MulOk x n) := by unfold PySem.MulOk; infer_instance
def aY9 : D → D → M D := fun x y => match x, y with
 | .int i, .int j => if bL3 i j then pure (.int (i * j)) else M.stuck
 | .str x, .int n => if PySem.MulOk x n then pure (.str (Txt.mul x n)) else M.stuck
 | _, _ => M.stuck
theorem cF7 : OpR X (binaryOp .Mult) (fun x y H Q => ∃ z n, x = .str z ∧ y = .int n ∧ PySem.MulOk z n ∧ Q (.str (Txt.mul z n)) H) := by
 intro pins s σ H x y v u Q I rx ry h
 obtain ⟨z, n, rfl, rfl, hk, q⟩ := h
 obtain ⟨t, rfl⟩ := rx
 obtain ⟨t', rfl⟩ := ry
 exact PySem.SB.mul hk fun t' k => ⟨.str _, H, I.tok _, ⟨_, rfl⟩, q⟩
theorem od_mul : OpD X Z (binaryOp .Mult) aY9 :=
 OpD.of (OpR.or dL2 cF7) fun x y H Q hE0 => hE0.elim fun dx dy μ G rdx rdy hr p => by
  rcases dx with _ | _ | _ | _ | _ | _ | _ | _ <;> rcases dy with _ | _ | _ | _ | _ | _ | _ | _ <;> first
   | exact p.elim
   | skip
  · unfold aY9 at p
    dsimp only at p
    split at p
    · rename_i hc; exact .inl ⟨_, _, aE5 rdx, aE5 rdy, hc, d9.ok p hr _ ofI⟩
    · exact p.elim
  · unfold aY9 at p
    dsimp only at p
    split at p
    · rename_i hc; exact .inr ⟨_, _, bE0 rdx, aE5 rdy, hc, d9.ok p hr _ ofS⟩
    · exact p.elim
end
noncomputable def cD8 (A : Around) (s : Shared) (y x : Value) (b : Bool) : Prop :=
 ∀ (prog : Program) (w : World) (E : VSP) (Q : VSP), Q (.bool b) s → wpAny (model prog w) A (richCompare .Lt y x) Q E s
inductive LtR (A : Around) (s : Shared) : List Value → List Value → Bool → Prop
 | nil : LtR A s [] [] false
 | nilc {y ys} : LtR A s [] (y :: ys) true
 | cnil {x xs} : LtR A s (x :: xs) [] false
 | eq {x y xs ys b} : SeqAt.EqAt A s x y true → LtR A s xs ys b → LtR A s (x :: xs) (y :: ys) b
 | ne {x y xs ys b} : SeqAt.EqAt A s x y false → cD8 A s x y b → LtR A s (x :: xs) (y :: ys) b
section
open PySem.SeqAt
open PySem.AutoSeq1 (wpAny_loadPart')
open PySem.MeetsSeq PySem.MeetsSeq2 PySem.MeetsSeq3
theorem cE5 (l b : Addr) (items items2 : Array Value) (n n2 : Nat) (dd dd2 : Option Addr) (sl sl2 : Array (Option Value)) (k : Bool) :
 Meets (Builtin.«tuple.__lt__» ⟨[.ref l, .ref b], []⟩)
  (fun A R s => s.heap.get? l = some { cls := .type "tuple", dict := dd, data := .seq items n, slots := sl } ∧ s.heap.get? b = some { cls := .type "tuple", dict := dd2, data := .seq items2 n2, slots := sl2 } ∧
    LtR A.in1 s items.toList items2.toList k ∧ R (.ok (.ret (.bool k))) s) :=
 .of_wp fun prog w A R s h => by
  obtain ⟨hp, g, d, tk, os⟩ := s; obtain ⟨hl, hb, hk, h⟩ := h
  have f2 := AutoSeq1.sub_tuple_tuple
  wp_walk using wpAny_loadPart' hl, wpAny_loadPart' hb, wpAny_forIn_list _ (fun Z4 b s' => b.1 = none ∧ s' = ⟨hp, g, d, tk, os⟩ ∧ ∃ (vs ws : List Value), Z4 = vs.zip ws ∧
   vs.length + items2.size = ws.length + items.size ∧ LtR A.in1 ⟨hp, g, d, tk, os⟩ vs ws k) _
  case turn =>
   rintro ⟨y, x⟩ Z4 b s' ⟨hb', rfl, vs, ws, hz, hlen, hR⟩
   cases hR with
   | nil => cases hz
   | nilc => cases hz
   | cnil => cases hz
   | eq he hR' =>
     rw [List.zip_cons_cons] at hz
     injection hz with hyx hrest
     injection hyx with hy hx
     subst hy hx
     refine wpAny_bind (he prog w _ _ ?_)
     wp_walk
     simp only [List.length_cons] at hlen
     exact ⟨rfl, rfl, _, _, hrest, by lia, hR'⟩
   | ne he hc =>
     rw [List.zip_cons_cons] at hz
     injection hz with hyx hrest
     injection hyx with hy hx
     subst hy hx
     refine wpAny_bind (he prog w _ _ ?_)
     have hri := hc prog w
     wp_walk using hri
     exact ⟨_, rfl, h⟩
  case fin =>
   rintro ⟨b1, b2⟩ s' ⟨hb', rfl, vs, ws, hz, hlen, hR⟩
   simp only at hb'
   subst hb'
   have hv : k = decide (items.size < items2.size) := by
    cases hR with
    | nil => simp only [List.length_nil] at hlen; exact (decide_eq_false (by lia)).symm
    | nilc => simp only [List.length_nil, List.length_cons] at hlen; exact (decide_eq_true (by lia)).symm
    | cnil => simp only [List.length_nil, List.length_cons] at hlen; exact (decide_eq_false (by lia)).symm
    | eq _ _ => rw [List.zip_cons_cons] at hz; cases hz
    | ne _ _ => rw [List.zip_cons_cons] at hz; cases hz
   rw [hv] at h
   wp_walk
   exact ⟨_, rfl, by simpa [Builtin.Tuple.tupleCompareSizes] using h⟩
  case h =>
   exact ⟨rfl, rfl, items.toList, items2.toList, rfl, by simp; lia, hk⟩
theorem cQ3 (l b : Addr) (items items2 : Array Value) (n n2 : Nat) (dd dd2 : Option Addr) (sl sl2 : Array (Option Value)) (k : Bool) : ∀ (vs ws : List Value) (i : Nat), items.toList.drop i = vs → items2.toList.drop i = ws → i ≤ items.size → i ≤ items2.size →
 Meets (Builtin.«list.__eq__.loop» ⟨[.ref l, .ref b, rawInt i, rawInt 0], []⟩)
  (fun A R s => s.heap.get? l = some { cls := .type "list", dict := dd, data := .seq items n, slots := sl } ∧ s.heap.get? b = some { cls := .type "list", dict := dd2, data := .seq items2 n2, slots := sl2 } ∧
    LtR A.in1 s vs ws k ∧ R (.ok (.ret (.bool k))) s) := by
 have dropn : ∀ (a : Array Value) (i : Nat), a.toList.drop i = [] → i ≤ a.size → i = a.size := fun a i e hi => by
  have := List.drop_eq_nil_iff.mp e
  simp at this; lia
 have dropc : ∀ (a : Array Value) (i : Nat) (v : Value) (r : List Value), a.toList.drop i = v :: r → i < a.size ∧ a[((i : Nat) : Int).toNat]? = some v ∧ a.toList.drop (i + 1) = r := fun a i v r e => by
  have hlt : i < a.toList.length := by
   rcases Nat.lt_or_ge i a.toList.length with q | q
   · exact q
   · rw [List.drop_eq_nil_of_le q] at e; cases e
  rw [List.drop_eq_getElem_cons hlt] at e
  injection e with e1 e2
  refine ⟨by simpa using hlt, ?_, e2⟩
  simp at hlt
  simp [hlt]
  simpa using e1
 intro vs
 induction vs with
 | nil =>
   intro ws i hv hw hi hi2 prog w A R s h
   obtain ⟨hp, g, d, tk, os⟩ := s; obtain ⟨hl, hb, he, h⟩ := h
   have e1 := dropn items i hv hi
   wp_walk using wpAny_loadPart' hl, wpAny_loadPart' hb
   have hi1 : items[((i : Nat) : Int).toNat]? = none := by simp; lia
   rw [hi1]
   rcases ws with _ | ⟨y, ys⟩
   ·
     have e2 := dropn items2 i hw hi2
     cases he
     wp_walk using wpAny_loadPart' hl, wpAny_loadPart' hb
     show R (.ok (.ret (.bool (decide (items.size < items2.size))))) _
     rw [decide_eq_false (by lia)]
     exact h
   ·
     obtain ⟨hlt, _, _⟩ := dropc items2 i y ys hw
     cases he
     wp_walk using wpAny_loadPart' hl, wpAny_loadPart' hb
     show R (.ok (.ret (.bool (decide (items.size < items2.size))))) _
     rw [decide_eq_true (by lia)]
     exact h
 | cons x xs ih =>
   intro ws i hv hw hi hi2 prog w A R s h
   obtain ⟨hp, g, d, tk, os⟩ := s; obtain ⟨hl, hb, he, h⟩ := h
   obtain ⟨hlt, g1, d1⟩ := dropc items i x xs hv
   wp_walk using wpAny_loadPart' hl, wpAny_loadPart' hb
   rcases ws with _ | ⟨y, ys⟩
   ·
     have e2 := dropn items2 i hw hi2
     have hi2' : items2[((i : Nat) : Int).toNat]? = none := by simp; lia
     rw [g1, hi2']
     cases he
     wp_walk using wpAny_loadPart' hl, wpAny_loadPart' hb
     show R (.ok (.ret (.bool (decide (items.size < items2.size))))) _
     rw [decide_eq_false (by lia)]
     exact h
   ·
     obtain ⟨hlt2, g2, d2⟩ := dropc items2 i y ys hw
     have hc : ((i : Int) + 1) = ((i + 1 : Nat) : Int) := by push_cast; rfl
     rw [g1, g2]
     cases he with
     | eq he he' =>
       refine wpAny_bind (he prog w _ _ ?_)
       wp_walk
       rw [hc]
       exact ⟨plainId_quiet plain_eq_loop _, codeAny_builtin entry_eq_loop (by
        rw [Around.under_plainId plain_eq_loop _]
        exact ih ys (i + 1) d1 d2 (by lia) (by lia) prog w A R _ ⟨hl, hb, he', h⟩)⟩
     | ne he hcmp =>
       refine wpAny_bind (he prog w _ _ ?_)
       have hri := hcmp prog w
       wp_walk using wpAny_loadPart' hl, wpAny_loadPart' hb
       rw [g1, g2]
       wp_walk using hri
       exact h
theorem cN9 (l b : Addr) (items items2 : Array Value) (n n2 : Nat) (dd dd2 : Option Addr) (sl sl2 : Array (Option Value)) (k : Bool) :
 Meets (Builtin.«list.__lt__» ⟨[.ref l, .ref b], []⟩)
  (fun A R s => s.heap.get? l = some { cls := .type "list", dict := dd, data := .seq items n, slots := sl } ∧ s.heap.get? b = some { cls := .type "list", dict := dd2, data := .seq items2 n2, slots := sl2 } ∧
    LtR A.in1 s items.toList items2.toList k ∧ R (.ok (.ret (.bool k))) s) := by
 intro prog w A R s h
 obtain ⟨hp, g, d, tk, os⟩ := s; obtain ⟨hl, hb, he, h⟩ := h
 have f3 := AutoSeq1.sub_list_list
 wp_walk using wpAny_loadPart' hl, wpAny_loadPart' hb
 exact ⟨plainId_quiet plain_eq_loop _, codeAny_builtin entry_eq_loop (by
  rw [Around.under_plainId plain_eq_loop _]
  exact cQ3 l b items items2 n n2 dd dd2 sl sl2 k items.toList items2.toList 0 rfl rfl (Nat.zero_le _) (Nat.zero_le _) prog w A R _ ⟨hl, hb, he, h⟩)⟩
end
noncomputable def ltS : D → D → Option Bool
 | .int a, .int b => some (decide (a < b))
 | .str a, .str b => some (decide (a.cps.toList < b.cps.toList))
 | .bl a, .bl b => some (decide (b2i a < b2i b))
 | _, _ => none
noncomputable def ltL (eq lt : D → D → Option Bool) : List D → List D → Option Bool
 | [], [] => some false
 | [], _ :: _ => some true
 | _ :: _, [] => some false
 | x :: xs, y :: ys => match eq x y with
   | some true => ltL eq lt xs ys
   | some false => lt x y
   | none => none
def ltN : Nat → DH → D → D → Option Bool
 | 0, _, _, _ => none
 | n + 1, G, x, y => match X7 G x, X7 G y with
   | some (k1, a), some (k2, b) => if k1 = k2 then ltL (eqN n G) (ltN n G) a b else none
   | none, none => ltS x y
   | _, _ => none
theorem dW4 {n : Nat} {G : DH} {x y : D} : ltN (n + 1) G x y = match X7 G x, X7 G y with
 | some (k1, a), some (k2, b) => if k1 = k2 then ltL (eqN n G) (ltN n G) a b else none
 | none, none => ltS x y
 | _, _ => none := rfl
section
variable {X : Cx} {Z : XC} {pins : PNS} {σ : St} {H : Hp} {s : Shared} {μ : List Addr} {G : DH}
theorem dL7 {A : Around} {dx dy : D} {x y : V} {v u : Value} {b : Bool} {c : Wc} (rx : g8 c μ H dx x) (ry : g8 c μ H dy y) (rv : J7 x v) (ru : J7 y u) (e : ltS dx dy = some b) : cD8 A s v u b := by
 intro prog w E Q hq
 rcases dx with _ | _ | _ | _ | _ | _ | _ | _ <;> rcases dy with _ | _ | _ | _ | _ | _ | _ | _ <;> first
  | (cases e; done)
  | skip
 · cases e
   unfold g8 at rx ry; subst rx ry; cases rv; cases ru
   exact (lt_bool hq : wpAny (model prog w) A (compareOp .Lt _ _) Q E s)
 · cases e
   unfold g8 at rx ry; subst rx ry; obtain ⟨t, rfl⟩ := rv; obtain ⟨t', rfl⟩ := ru
   exact (lt_int hq : wpAny (model prog w) A (compareOp .Lt _ _) Q E s)
 · cases e
   unfold g8 at rx ry; subst rx ry; obtain ⟨t, rfl⟩ := rv; obtain ⟨t', rfl⟩ := ru
   exact (lt_str hq : wpAny (model prog w) A (compareOp .Lt _ _) Q E s)
theorem dJ6 (I : Inv X pins σ H s) (h : t7 (wc X) μ G H) : ∀ (n : Nat) (A : Around), A.units + n < cLine → ∀ {dx dy : D} {x y : V} {v u : Value} {b : Bool}, g8 (wc X) μ H dx x → g8 (wc X) μ H dy y → J7 x v → J7 y u → ltN n G dx dy = some b → cD8 A s v u b
 | 0, _, _, _, _, _, _, _, _, _, _, _, _, _, e => by cases e
 | n + 1, A, hu, dx, dy, x, y, v, u, b, rx, ry, rv, ru, e => by
   have hu0 : A.units < cLine := by lia
   have hu1 : A.in1.units + n < cLine := by show A.units + 1 + n < cLine; lia
   rw [dW4] at e
   rcases hx : X7 G dx with _ | p
   ·
     rw [hx] at e
     rcases hy : X7 G dy with _ | p
     · rw [hy] at e; exact dL7 rx ry rv ru e
     · rw [hy] at e; cases e
   ·
     obtain ⟨k, l⟩ := p
     rw [hx] at e
     rcases hy : X7 G dy with _ | p'
     · rw [hy] at e; cases e
     ·
       obtain ⟨k', l'⟩ := p'
       rw [hy] at e
       dsimp only at e
       split at e
       case isFalse => cases e
       rename_i hk
       subst hk
       obtain ⟨a, vs, its, rfl, rfl, rl, rr, sq, q⟩ := aE6 I h hx rx rv
       obtain ⟨a', vs', its', rfl, rfl, rl', rr', sq', q'⟩ := aE6 I h hy ry ru
       have main : ∀ (l l' : List D) (vs vs' : List V) (its its' : List Value), o6 (wc X) μ H l vs → o6 (wc X) μ H l' vs' → w6 vs its → w6 vs' its' → ltL (eqN n G) (ltN n G) l l' = some b → LtR A.in1 s its its' b := by
        intro l
        induction l with
        | nil =>
          intro l' vs vs' its its' r r' q q' e
          cases r; cases q
          rcases l' with _ | ⟨_, _⟩
          · cases r'; cases q'; cases e; exact .nil
          ·
            obtain ⟨_, _, rfl, _, _⟩ := r'
            cases q'
            cases e
            exact .nilc
        | cons d ds ih =>
          intro l' vs vs' its its' r r' q q' e
          obtain ⟨v0, vr, rfl, r0, rt⟩ := r
          cases q with
          | cons q0 qt =>
            rcases l' with _ | ⟨d', ds'⟩
            · cases r'; cases q'; cases e; exact .cnil
            ·
              obtain ⟨v1, vr', rfl, r1, rt'⟩ := r'
              cases q' with
              | cons q1 qt' =>
                unfold ltL at e
                rcases he : eqN n G d d' with _ | b0
                · rw [he] at e; cases e
                ·
                  rw [he] at e
                  have hE := (cB4 I h n A.in1 hu1 r0 r1 q0 q1 he).2.2
                  rcases b0 with _ | _
                  · exact .ne hE (dJ6 I h n A.in1 hu1 r0 r1 q0 q1 e)
                  · exact .eq hE (ih ds' vr vr' _ _ rt rt' qt qt' e)
       have hR := main l l' vs vs' its its' rl rl' rr rr' e
       intro prog w E Q hq
       rcases k with _ | _
       ·
         obtain ⟨⟨cls, dd, data, sl⟩, ho, hc, m, hd⟩ := id sq
         obtain ⟨⟨cls2, dd2, data2, sl2⟩, ho2, hc2, m2, hd2⟩ := id sq'
         simp only at hc hd hc2 hd2
         subst hc hd hc2 hd2
         exact richCompare_meets_room (op := .Lt) ⟨_, ho, rfl⟩ ⟨_, ho2, rfl⟩ PySem.F.slot_list_lt PySem.F.entry_list_lt (PySem.F.args_list_lt_2 _ _) (cN9 a a' its.toArray its'.toArray m m2 dd dd2 sl sl2 b)
          ⟨ho, ho2, hR, show Value.bool b ≠ Value.notImplemented ∧ Q (.bool b) s from ⟨(fun x => nomatch x), hq⟩⟩ hu0
       ·
         obtain ⟨⟨cls, dd, data, sl⟩, ho, hc, m, hd⟩ := id sq
         obtain ⟨⟨cls2, dd2, data2, sl2⟩, ho2, hc2, m2, hd2⟩ := id sq'
         simp only at hc hd hc2 hd2
         subst hc hd hc2 hd2
         exact richCompare_meets_room (op := .Lt) ⟨_, ho, rfl⟩ ⟨_, ho2, rfl⟩ PySem.F.slot_tuple_lt PySem.F.entry_tuple_lt (PySem.F.args_tuple_lt_2 _ _) (cE5 a a' its.toArray its'.toArray m m2 dd dd2 sl sl2 b)
          ⟨ho, ho2, hR, show Value.bool b ≠ Value.notImplemented ∧ Q (.bool b) s from ⟨(fun x => nomatch x), hq⟩⟩ hu0
def ltD : D → D → M D := fun x y G => match ltN 40 G x y with
 | some b => some (.ok (.bl b), G)
 | none => none
theorem od_lt (hu : X.A.units + 64 < cLine) : OpD X Z (compareOp .Lt) ltD := ⟨by
 intro pins s σ H x y v u Q I rx ry hE0
 refine hE0.elim fun dx dy μ G rdx rdy hr p => ?_
 unfold ltD at p
 rcases e : ltN 40 G dx dy with _ | b
 · rw [e] at p; exact p.elim
 ·
   rw [e] at p
   exact dJ6 I hr 40 X.A (by lia) rdx rdy rx ry e X.prog X.w X.xe _ ⟨.bl b, H, I, rfl, d9.ok p hr _ ofB⟩⟩
end
noncomputable def dC4 : D → Option Key
 | .int i => some (.inl i)
 | .str x => some (.inr x)
 | _ => none
section
variable {X : Cx} {Z : XC} {c : Wc} {μ : List Addr} {H : Hp} {G : DH}
theorem dH5 {d : D} {k : Key} {v : V} (e : dC4 d = some k) (r : g8 c μ H d v) : v = kV k := by
 cases d <;> first
  | (cases e; unfold g8 at r; exact r)
  | cases e
inductive Ty where
 | int | bool | str | tuple | list | dict
 deriving DecidableEq
noncomputable def Ty.name : Ty → String
 | .int => "int" | .bool => "bool" | .str => "str" | .tuple => "tuple" | .list => "list" | .dict => "dict"
noncomputable def Ty.of (n : String) : Option Ty := if n = "int" then some .int else if n = "bool" then some .bool else if n = "str" then some .str else if n = "tuple" then some .tuple else if n = "list" then some .list else if n = "dict" then some .dict else none
theorem Ty.of_name {n : String} {T : Ty} (h : Ty.of n = some T) : n = T.name := by
 unfold Ty.of at h
 split at h
 · rename_i e; cases h; exact e
 split at h
 · rename_i e; cases h; exact e
 split at h
 · rename_i e; cases h; exact e
 split at h
 · rename_i e; cases h; exact e
 split at h
 · rename_i e; cases h; exact e
 split at h
 · rename_i e; cases h; exact e
 · cases h
inductive Kd where
 | non | bool | int | str | tuple | list | dict
noncomputable def Kd.is : Kd → Ty → Bool
 | .bool, .int => true
 | .bool, .bool => true
 | .int, .int => true
 | .str, .str => true
 | .tuple, .tuple => true
 | .list, .list => true
 | .dict, .dict => true
 | _, _ => false
def Kd.name : Kd → String
 | .non => "NoneType" | .bool => "bool" | .int => "int" | .str => "str" | .tuple => "tuple" | .list => "list" | .dict => "dict"
noncomputable def cQ9 (G : DH) : D → Option Kd
 | .non => some .non
 | .bl _ => some .bool
 | .int _ => some .int
 | .str _ => some .str
 | .tup _ => some .tuple
 | .ref i => match G[i]? with
   | some (.lst _) => some .list
   | some (.rol _) => some .list
   | some (.dct _) => some .dict
   | some (.rod _) => some .dict
   | none => none
 | _ => none
def bO9 : List D → Option (List Ty)
 | [] => some []
 | .ty n :: r => match Ty.of n, bO9 r with
   | some T, some Ts => some (T :: Ts)
   | _, _ => none
 | _ => none
def N5 : List D → M D := fun ds G => match ds with
 | [d, .ty n] => match cQ9 G d, Ty.of n with
   | some k, some T => some (.ok (.bl (k.is T)), G)
   | _, _ => none
 | [d, .tup l] => match cQ9 G d, bO9 l with
   | some k, some Ts => some (.ok (.bl (Ts.any k.is)), G)
   | _, _ => none
 | _ => none
theorem dF0 (K : PySem.W.Frag) (k : Kd) (T : Ty) : PySem.W.kitOne K (.type k.name) (.type T.name) = some (k.is T) := by
 cases k <;> cases T <;> rfl
theorem cY3 {A : Around} {E : VSP} {pins : PNS} {σ : St} {s : Shared} {d : D} {x : V} {v : Value} {k : Kd} (I : Inv X pins σ H s) (hr : t7 (wc X) μ G H) (r : g8 (wc X) μ H d x) (rv : J7 x v) (e : cQ9 G d = some k) :
 ∃ HH : Heap → Prop, PySem.W.KitX X.K v (.type k.name) HH ∧ HH s.heap ∧ v ≠ .builtin "__main__.__loader__#opaque" := by
 rcases d with _ | b | b | b | l | i | _ | _ <;> try (cases e; done)
 · cases e; unfold g8 at r; subst r; cases rv; exact ⟨_, PySem.W.kitx_none, True.intro, fun z => nomatch z⟩
 · cases e; unfold g8 at r; subst r; cases rv; exact ⟨_, PySem.W.kitx_bool, True.intro, fun z => nomatch z⟩
 · cases e; unfold g8 at r; subst r; obtain ⟨t, rfl⟩ := rv; exact ⟨_, PySem.W.kitx_int, True.intro, fun z => nomatch z⟩
 · cases e; unfold g8 at r; subst r; obtain ⟨t, rfl⟩ := rv; exact ⟨_, PySem.W.kitx_str, True.intro, fun z => nomatch z⟩
 ·
   cases e
   unfold g8 at r
   obtain ⟨a, vs, rfl, q, _⟩ := r
   cases rv
   obtain ⟨its, _, ⟨o, h1, h2, _⟩, _⟩ := I.tuple q
   exact ⟨_, PySem.W.kitx_tuple, ⟨o, h1, h2⟩, fun z => nomatch z⟩
 ·
   unfold g8 at r
   obtain ⟨a, m, rfl⟩ := r
   cases rv
   unfold cQ9 at e
   rcases g : G[i]? with _ | o
   · simp only [g] at e; cases e
   ·
     have ro := hr.obj i o a g m
     simp only [g] at e
     rcases o with l | l | l | l
     ·
       cases e
       obtain ⟨vs, q, _⟩ := ro
       obtain ⟨its, _, ⟨o, n, h1, h2, _⟩, _⟩ := I.list (SqL.of q)
       exact ⟨_, PySem.W.kitx_list, ⟨o, h1, h2⟩, fun z => nomatch z⟩
     ·
       cases e
       obtain ⟨vs, q, _⟩ := ro
       obtain ⟨its, _, ⟨o, n, h1, h2, _⟩, _⟩ := I.list q.sq
       exact ⟨_, PySem.W.kitx_list, ⟨o, h1, h2⟩, fun z => nomatch z⟩
     ·
       cases e
       obtain ⟨kvs, q, _⟩ := ro
       obtain ⟨_, _, vs, _, o, es, ep, h1, h2, _⟩ := (show R9 X.prog X.w H s.heap a (.dK kvs) from I.hok a _ q)
       exact ⟨_, PySem.W.kitx_dict, ⟨o, h1, h2.1⟩, fun z => nomatch z⟩
     ·
       cases e
       obtain ⟨kvs, ob, q, _⟩ := ro
       obtain ⟨_, _, _, vs, _, o, es, ep, h1, h2, _⟩ := (show R9 X.prog X.w H s.heap a (.frz ob (.dK kvs)) from I.hok a _ q)
       exact ⟨_, PySem.W.kitx_dict, ⟨o, h1, h2.1⟩, fun z => nomatch z⟩
theorem cH9 : ∀ {l : List D} {vs : List V} {us : List Value} {Ts : List Ty}, bO9 l = some Ts → o6 c μ H l vs → w6 vs us → us = Ts.map fun T => .type T.name
 | [], _, _, _, e, r, q => by cases e; cases r; cases q; rfl
 | d :: ds, _, _, Ts, e, r, q => by
   obtain ⟨v, t, rfl, r0, rt⟩ := r
   cases q with
   | cons q0 qt =>
     rcases d with _ | _ | _ | _ | _ | _ | _ | n <;> try (cases e; done)
     ·
       replace e : (match Ty.of n, bO9 ds with | some T, some Ts => some (T :: Ts) | _, _ => none) = some Ts := e
       rcases h1 : Ty.of n with _ | T
       · rw [h1] at e; cases e
       ·
         rcases h2 : bO9 ds with _ | Ts'
         · rw [h1, h2] at e; cases e
         ·
           rw [h1, h2] at e
           cases e
           unfold g8 at r0
           subst r0
           rw [cH9 h2 rt qt, List.map_cons, show _ = Value.type n from q0, Ty.of_name h1]
theorem cH2 (K : PySem.W.Frag) (k : Kd) : ∀ Ts : List Ty, PySem.W.kitAny K (.type k.name) (Ts.map fun T => .type T.name) = some (Ts.any k.is)
 | [] => rfl
 | T :: Ts => by
   have ih := cH2 K k Ts
   cases k <;> cases T <;> first
    | rfl
    | exact ih
theorem cP1 : Z6 X Z (.builtin "isinstance") N5 := ⟨by
 intro pins s σ H xs us Q I r hE0
 obtain ⟨ds, μ, G, rl, hr, p⟩ := hE0
 rcases ds with _ | ⟨d, _ | ⟨_ | _ | _ | _ | l | _ | _ | n, _ | ⟨_, _⟩⟩⟩ <;> try exact p.elim
 all_goals (delta N5 at p; dsimp only at p)
 · obtain ⟨v, t, rfl, r0, v1, t1, rfl, r1, e⟩ := rl
   cases e
   obtain ⟨u, u', rfl, ru, ru'⟩ := bY1 r
   unfold g8 at r1
   obtain ⟨a, vs, rfl, q, rll⟩ := r1
   cases ru'
   rcases hk : cQ9 G d with _ | k
   · rw [hk] at p; exact p.elim
   ·
     rcases hT : bO9 l with _ | Ts
     · rw [hk, hT] at p; exact p.elim
     ·
       rw [hk, hT] at p
       obtain ⟨HH, kx, hh, hne⟩ := cY3 (A := X.A) (E := X.xe) I hr r0 ru hk
       obtain ⟨its, rr, ⟨⟨cls, dd, data, sl⟩, h1, h2, n, h3⟩, _⟩ := I.tuple q
       simp only at h2 h3
       subst h2 h3
       exact PySem.W.kia_tup kx I.kIn hh h1 (by rw [cH9 hT rll rr]; exact cH2 X.K k Ts) hne fun tk => ⟨.bl _, H, I.tok tk, rfl, d9.ok p hr _ ofB⟩
 · obtain ⟨v, t, rfl, r0, v1, t1, rfl, r1, e⟩ := rl
   cases e
   obtain ⟨u, u', rfl, ru, ru'⟩ := bY1 r
   unfold g8 at r1
   subst r1
   cases ru'
   rcases hk : cQ9 G d with _ | k
   · rw [hk] at p; exact p.elim
   ·
     rcases hT : Ty.of n with _ | T
     · rw [hk, hT] at p; exact p.elim
     ·
       rw [hk, hT] at p
       rw [Ty.of_name hT]
       obtain ⟨HH, kx, hh, hne⟩ := cY3 (A := X.A) (E := X.xe) I hr r0 ru hk
       exact PySem.W.kia_one kx I.kIn hh (dF0 X.K k T) hne fun tk => ⟨.bl _, H, I.tok tk, rfl, d9.ok p hr _ ofB⟩⟩
end
theorem cL6 {c : Wc} {μ : List Addr} {H : Hp} {l : List D} {vs : List V} {i : Int} {d : D} (r : o6 c μ H l vs) (e : atI l i = some d) : ∃ v, atI vs i = some v ∧ g8 c μ H d v := by
 unfold atI at e ⊢
 rw [← r.length]
 cases h : ixN l.length i with
 | none => rw [h] at e; cases e
 | some j =>
   rw [h] at e
   obtain ⟨v, h1, h2⟩ := r.get e
   exact ⟨v, h1, h2⟩
def ixD : D → D → M D := fun x y => match x, y with
 | .tup l, .int i => aL8 (atI l i)
 | .str z, .int i => if z.length ≤ sizeLine then do
    let c ← aL8 (atI z.cps.toList i)
    pure (.str ⟨#[c]⟩)
   else M.stuck
 | .ref r, .int i => do
   let l ← Q3 r >>= listOf
   aL8 (atI l i)
 | _, _ => M.stuck
section
variable {X : Cx} {Z : XC} {a b e : Expr} {fa fb : Fe} {pos : Pos}
def IxD (X : Cx) (Z : XC) (o : D → D → M D) : Prop := IxR X (aY0 (wc X) Z o)
theorem dK8 {o : D → D → M D} (ho : IxD X Z o) (ha : DE X Z a fa) (hb : DE X Z b fb) (hs : bP4 b) : DE X Z (.Subscript a b pos) (d7 o fa fb) := DE.of (dW6 ho ha.h hb.h hs) aU6
theorem bV4 {c : Wc} {μ : List Addr} {H : Hp} {G : DH} {r : Option D} {K : D → List Addr → DH → Hp → Prop} (h : t7 c μ G H) (p : d9 c Z μ H (aL8 r G) K) : ∃ d, r = some d ∧ K d μ G H := by
 cases r with
 | none => exact p.elim
 | some d => exact ⟨d, rfl, d9.ok p h⟩
theorem dZ0 : IxD X Z ixD := IxR.mono (dI6.or (ix_tup.or ix_str)) fun x y H Q hE0 => hE0.elim fun dx dy μ G rx ry hr p => by
 rcases dx with _ | _ | _ | _ | _ | _ | _ | _ <;> rcases dy with _ | _ | _ | _ | _ | _ | _ | _ <;> first
  | exact p.elim
  | skip
 · rename_i z i
   refine .inr (.inr ?_)
   unfold ixD at p
   dsimp only at p
   split at p
   · rename_i hz
     obtain ⟨c, ec, p2⟩ := aE8 p
     exact ⟨z, i, c, bE0 rx, aE5 ry, hz, ec, d9.ok p2 hr _ ofS⟩
   · exact p.elim
 · rename_i l i
   refine .inr (.inl ?_)
   unfold g8 at rx
   obtain ⟨a, vs, rfl, q, rl⟩ := rx
   obtain ⟨d, ed, k⟩ := bV4 hr p
   obtain ⟨v, ev, rv⟩ := cL6 rl ed
   exact ⟨a, vs, i, v, rfl, aE5 ry, q, ev, k v rv⟩
 · rename_i r i
   refine .inl ?_
   obtain ⟨l, a, vs, rfl, rl, p2, hq⟩ := aZ9 (d := .ref r) (f := fun l => aL8 (atI l i)) hr rx p
   obtain ⟨d, ed, k⟩ := bV4 hr p2
   obtain ⟨v, ev, rv⟩ := cL6 rl ed
   rcases hq with ⟨z, _⟩ | ⟨_, _, _, ⟨_, q⟩ | ⟨_, q⟩⟩
   · cases z
   · exact ⟨a, vs, i, v, rfl, aE5 ry, SqL.of q, ev, k v rv⟩
   · exact ⟨a, vs, i, v, rfl, aE5 ry, q.sq, ev, k v rv⟩
theorem de_ix (ha : DE X Z a fa) (hb : DE X Z b fb) (hs : bP4 b) : DE X Z (.Subscript a b pos) (d7 ixD fa fb) := dK8 dZ0 ha hb hs
def cutD (xs : List D) (lo hi : Option Int) : List D := (xs.drop (HT.sIx xs.length 0 lo)).take (HT.sIx xs.length xs.length hi - HT.sIx xs.length 0 lo)
abbrev Fo := DSt → M (Option Int)
def aB5 : Fo := fun _ => pure none
def aE0 (f : Fe) : Fo := fun σ => do
 match ← f σ with
 | .int i => pure (some i)
 | _ => M.stuck
def cI4 (c : Wc) (Z : XC) (f : Fo) : TO := fun σ H Q => ∃ dσ μ G, J8 c μ H dσ σ ∧ t7 c μ G H ∧ d9 c Z μ H (f dσ G) fun o _ _ H' => Q o H'
theorem cI4.elim {c : Wc} {Z : XC} {P : Prop} {f : Fo} {σ : St} {H : Hp} {Q : Option Int → Hp → Prop} (h : cI4 c Z f σ H Q) (k : ∀ dσ μ G, J8 c μ H dσ σ → t7 c μ G H → d9 c Z μ H (f dσ G) (fun o _ _ H' => Q o H') → P) : P := by
 obtain ⟨e0, e1, e2, e3, e4, e5⟩ := h
 exact k e0 e1 e2 e3 e4 e5
structure DOp (X : Cx) (Z : XC) (e : Option Expr) (f : Fo) : Prop where
 h : PO X e (cI4 (wc X) Z f)
theorem PO.mono {e : Option Expr} {t t' : TO} (h : PO X e t) (k : ∀ σ H Q, t' σ H Q → t σ H Q) : PO X e t' := fun pins s σ H Q I q => h pins s σ H Q I (k σ H Q q)
theorem DOp.of {e : Option Expr} {f : Fo} {t : TO} (h : PO X e t) (k : ∀ σ H Q, cI4 (wc X) Z f σ H Q → t σ H Q) : DOp X Z e f := ⟨PO.mono h k⟩
theorem do_none : DOp X Z none aB5 := DOp.of dE6 fun σ H Q hE0 => hE0.elim fun dσ μ G s h p => d9.ok p h
theorem do_some (h : DE X Z e fa) : DOp X Z (some e) (aE0 fa) := DOp.of (dH8 h.h) fun σ H Q hE0 => hE0.elim fun dσ μ G s h p => ⟨dσ, μ, G, s, h, (d9.bind p).mono fun d μ1 G1 H1 x1 h1 p1 v rv => by
 cases d with
 | int i => exact ⟨i, aE5 rv, d9.ok p1 h1⟩
 | _ => exact p1.elim⟩
def slD : D → Option Int → Option Int → M D := fun x lo hi => match x with
 | .tup l => pure (.tup (cutD l lo hi))
 | .ref r => do
   let l ← Q3 r >>= listOf
   N7 (.lst (cutD l lo hi))
 | _ => M.stuck
def SlD (X : Cx) (Z : XC) (o : D → Option Int → Option Int → M D) : Prop :=
 SlR X fun x lo hi H Q => ∃ dx μ G, g8 (wc X) μ H dx x ∧ t7 (wc X) μ G H ∧ d9 (wc X) Z μ H (o dx lo hi G) fun d μ' _ H' => ∀ v, g8 (wc X) μ' H' d v → Q v H'
theorem SlR.mono {r r' : V → Option Int → Option Int → Hp → VK → Prop} (h : SlR X r) (k : ∀ x lo hi H Q, r' x lo hi H Q → r x lo hi H Q) : SlR X r' := fun pins s σ H x v vl vu lo hi sl Q I rx hs pl pu q => h pins s σ H x v vl vu lo hi sl Q I rx hs pl pu (k x lo hi H Q q)
theorem aR0 {prog : Program} {w : World} {A : Around} {E : VSP} {s : Shared} {t sl : Addr} {items : Array Value} {vl vu : Value} {lo hi : Option Int} {Q : VSP} (ht : IsTup s.heap t items) (hs : s.heap.IsSliceOf sl vl vu .none) (pl : IsPart vl lo) (pu : IsPart vu hi)
 (hw : HT.sIx items.size 0 lo = 0 ∧ HT.sIx items.size items.size hi = items.size) (h : Q (.ref t) s) : wpAny (model prog w) A (getItem (.ref t) (.ref sl)) Q E s := by
 obtain ⟨os, hos, hcs, hds⟩ := id hs
 have hTs : s.TypeIs (.ref sl) "slice" := ⟨os, hos, hcs⟩
 unfold getItem
 try with_reducible refine wpAny_holding ?_
 first | refine wpAny_bind (wpAny_pure ?_) | skip
 refine wpAny_bind (wpAny_sequenceKey ht.typeIs (by decide) ?_)
 refine wpAny_bind (wpAny_callSpecial?_slot (name := Str.ofString "__getitem__") ht.typeIs PyProof.Rows.slot_tuple_getitem
  (wpAny_call_entry PyProof.Rows.slot_tuple_getitem ht.typeIs entry_tuple_getitem ?_ (args_tuple_getitem _ _)))
 show wpAny _ _ (Builtin.Tuple.tupleItemsOf (.ref t) >>= _) _ _ s
 refine wpAny_bind (tupleItemsOf_ ht ?_)
 refine wpAny_bind (wpAny_typeOf hTs ?_)
 rw [if_pos (by decide)]
 refine wpAny_bind (HT.sliceApplied_gen hs pl pu ?_)
 have hyes : (((HT.sIx items.size 0 lo : Nat) : Int) == 0 && (1 : Int) == 1 && (HT.sIx items.size items.size hi - HT.sIx items.size 0 lo) == items.size) = true := by
  rw [hw.1, hw.2]; simp
 show wpAny _ _ (if (((HT.sIx items.size 0 lo : Nat) : Int) == 0 && (1 : Int) == 1 && (HT.sIx items.size items.size hi - HT.sIx items.size 0 lo) == items.size) = true then _ else _) _ _ s
 rw [if_pos hyes]
 unfold Builtin.Tuple.tupleIsExact
 refine wpAny_bind (wpAny_bind (wpAny_typeOf ht.typeIs (wpAny_pure ?_)))
 rw [if_pos (by decide)]
 exact wpAny_bind (wpAny_rule (wpAny_pure ⟨_, rfl, wpAny_pure h⟩))
def eB7 (K : PySem.W.Frag) : V → Option Int → Option Int → Hp → VK → Prop := fun x lo hi H Q => ∃ a xs, x = .ref a ∧ SqT K H a xs ∧ (HT.sIx xs.length 0 lo = 0 ∧ HT.sIx xs.length xs.length hi = xs.length) ∧ Q (.ref a) H
theorem dH3 : SlR X (eB7 X.K) := by
 intro pins s σ H x v vl vu lo hi sl Q I rx hs pl pu h
 obtain ⟨a, xs, rfl, hx, hw, q⟩ := h
 cases rx
 obtain ⟨its, r, ht, hz⟩ := I.tuple hx
 have hlen : its.toArray.size = xs.length := by rw [List.size_toArray]; exact r.length.symm
 exact ⟨"tuple", _, PyProof.Rows.slot_tuple_getitem.lookup, ht.typeIs, aR0 ht hs pl pu (by rw [hlen]; exact hw) ⟨.ref a, H, I, rfl, q⟩⟩
theorem bR6 {c : Wc} {μ : List Addr} {H : Hp} {l : List D} {vs : List V} (r : o6 c μ H l vs) (lo hi : Option Int) : o6 c μ H (cutD l lo hi) (bK6 vs lo hi) := by
 unfold cutD bK6
 rw [r.length]
 exact (r.drop _).take _
theorem dY4 : SlD X Z slD := SlR.mono (sl_tup.or (dH3.or dH0)) fun x lo hi H Q ⟨dx, μ, G, rx, hr, p⟩ => by
 rcases dx with _ | _ | _ | _ | l | r | _ | _ <;> try (exact p.elim; done)
 ·
   unfold g8 at rx
   obtain ⟨a, vs, rfl, q, rl⟩ := rx
   by_cases hw : HT.sIx vs.length 0 lo = 0 ∧ HT.sIx vs.length vs.length hi = vs.length
   · refine .inr (.inl ⟨a, vs, rfl, q, hw, aZ7 hr q ?_ p⟩)
     have e : bK6 vs lo hi = vs := by unfold bK6; rw [hw.1, hw.2]; simp
     have := bR6 rl lo hi
     rw [e] at this
     exact this
   · exact .inl ⟨a, vs, rfl, q, hw, fun p' hp => aV1 hr (bR6 rl lo hi) p p' hp⟩
 ·
   obtain ⟨l, a, vs, rfl, rl, p2, hq⟩ := aZ9 (d := .ref r) (f := fun l => N7 (.lst (cutD l lo hi))) hr rx p
   have hs : SqL (wc X).K H a vs := by
    rcases hq with ⟨z, _⟩ | ⟨_, _, _, ⟨_, q⟩ | ⟨_, q⟩⟩
    · cases z
    · exact SqL.of q
    · exact q.sq
   exact .inr (.inr ⟨a, vs, rfl, hs, fun p' hp => aB1 hr (bR6 rl lo hi) p2 p' hp⟩)
variable {lo hi : Option Expr} {fl fh : Fo} {p2 : Pos}
end
noncomputable def bD8 (r : Nat) (o : DO) : M Unit := fun G => some (.ok (), G.set r o)
noncomputable def bA7 (l : List (Key × D)) (k : Key) (d : D) : List (Key × D) := if l.any (fun kv => decide (kv.1 = k)) then l.map (fun kv => if kv.1 = k then (kv.1, d) else kv) else l ++ [(k, d)]
def cD2 : D → D → D → M Unit := fun o i d => match o with
 | .ref r => do
   match ← Q3 r with
   | .lst l => match i with
     | .int k => match ixN l.length k with
       | some j => bD8 r (.lst (l.set j d))
       | none => M.stuck
     | _ => M.stuck
   | .dct l => match dC4 i with
     | some k => if l.length < sizeLine then bD8 r (.dct (bA7 l k d)) else M.stuck
     | none => M.stuck
   | .rol _ => M.stuck
   | .rod _ => M.stuck
 | _ => M.stuck
def bD0 (fo fi : Fe) : Fg := fun d σ => do
 let o ← fo σ
 let i ← fi σ
 let _ ← cD2 o i d
 pure σ
section
variable {X : Cx} {Z : XC} {c : Wc} {μ : List Addr} {H : Hp} {G : DH}
theorem cY5 {k : Key} {d : D} {v : V} (rv : g8 c μ H d v) : ∀ {l : List (Key × D)} {kvs : List (Key × V)}, aD6 c μ H l kvs → aD6 c μ H (bA7 l k d) (aY3 kvs k v) := by
 have any_eq : ∀ {l : List (Key × D)} {kvs : List (Key × V)}, aD6 c μ H l kvs → (l.any fun kv => decide (kv.1 = k)) = (kvs.any fun kv => decide (kv.1 = k)) := by
  intro l
  induction l with
  | nil => intro kvs r; cases r; rfl
  | cons p t ih =>
    intro kvs r
    obtain ⟨v', kt, rfl, _, rt⟩ := r
    rw [List.any_cons, List.any_cons, ih rt]
 have map_eq : ∀ {l : List (Key × D)} {kvs : List (Key × V)}, aD6 c μ H l kvs → aD6 c μ H (l.map fun kv => if kv.1 = k then (kv.1, d) else kv) (kvs.map fun kv => if kv.1 = k then (kv.1, v) else kv) := by
  intro l
  induction l with
  | nil => intro kvs r; cases r; rfl
  | cons p t ih =>
    intro kvs r
    obtain ⟨k', d'⟩ := p
    obtain ⟨v', kt, rfl, q, rt⟩ := r
    rw [List.map_cons, List.map_cons]
    by_cases e : k' = k
    · simp only [e, if_true]
      exact ⟨v, _, rfl, rv, ih rt⟩
    · simp only [e, if_false]
      exact ⟨v', _, rfl, q, ih rt⟩
 have app_eq : ∀ {l : List (Key × D)} {kvs : List (Key × V)}, aD6 c μ H l kvs → aD6 c μ H (l ++ [(k, d)]) (kvs ++ [(k, v)]) := by
  intro l
  induction l with
  | nil => intro kvs r; cases r; exact ⟨v, [], rfl, rv, rfl⟩
  | cons p t ih =>
    intro kvs r
    obtain ⟨v', kt, rfl, q, rt⟩ := r
    exact ⟨v', _, rfl, q, ih rt⟩
 intro l kvs r
 unfold bA7 aY3
 rw [any_eq r]
 split
 · exact map_eq r
 · exact app_eq r
theorem aD6.length : ∀ {l : List (Key × D)} {kvs : List (Key × V)}, aD6 c μ H l kvs → l.length = kvs.length
 | [], _, r => by cases r; rfl
 | _ :: _, _, r => by obtain ⟨_, _, rfl, _, t⟩ := r; simp [aD6.length t]
theorem bZ2 {r : Nat} {a : Addr} {o o' : DO} {u : HO} {Q : List Addr → DH → Hp → Prop} (h : t7 c μ G H) (g : G[r]? = some o) (n : ¬ aK0 (some o)) (m : μ[r]? = some a) (n' : ¬ aK0 (some o')) (ho : ∀ x : Ext μ H μ (upd H a u), aI9 c μ (upd H a u) a o')
 (p : d9 c Z μ H (bD8 r o' G) fun _ μ' G' H' => Q μ' G' H') : Q μ (G.set r o') (upd H a u) := by
 obtain ⟨u', e, n1, n2⟩ := (h.obj r o a g m).some_of n
 have x : Ext μ H μ (upd H a u) := Ext.mut (List.mem_of_getElem? m) e n1 n2 u
 exact p μ _ x (h.set g n m x n' (ho x))
def dE4 (c : Wc) (Z : XC) (f : D → D → D → M Unit) : dI1 := fun o i v H Q => ∃ d1 d2 d3 μ G, g8 c μ H d1 o ∧ g8 c μ H d2 i ∧ g8 c μ H d3 v ∧ t7 c μ G H ∧ d9 c Z μ H (f d1 d2 d3 G) fun _ _ _ H' => Q H'
theorem dN1 (hu : X.A.units + 64 < cLine) : dT1 X (dE4 (wc X) Z cD2) := by
 intro pins s σ H o i v ov iv u Q I ro ri rv hE0
 obtain ⟨d1, d2, d3, μ, G, r1, r2, r3, hr, p⟩ := hE0
 rcases d1 with _ | _ | _ | _ | _ | r | _ | _ <;> try (exact p.elim; done)
 ·
   unfold g8 at r1
   obtain ⟨a, m, rfl⟩ := r1
   obtain ⟨ob, g, p1⟩ := N8 p
   have rob := hr.obj r ob a g m
   rcases ob with l | l | l | l
   ·
     obtain ⟨vs, ea, rl⟩ := rob
     rcases d2 with _ | _ | k | _ | _ | _ | _ | _ <;> try (exact p1.elim; done)
     ·
       dsimp only at p1
       rcases hk : ixN l.length k with _ | j
       · simp only [hk] at p1; exact p1.elim
       ·
         simp only [hk] at p1
         exact cU6 pins s σ H (.ref a) i v ov iv u Q I ro ri rv ⟨a, vs, k, j, rfl, aE5 r2, ea, by rw [← rl.length]; exact hk, bZ2 (o' := .lst (l.set j d3)) (Q := fun _ _ H' => Q H') hr g (fun z => z) m (fun z => z) (fun x => ⟨_, M8, (rl.mono x).set (r3.mono x) j⟩) p1⟩
   · exact p1.elim
   ·
     obtain ⟨kvs, ea, rk⟩ := rob
     dsimp only at p1
     rcases hk : dC4 d2 with _ | k
     · simp only [hk] at p1; exact p1.elim
     ·
       simp only [hk] at p1
       split at p1
       · rename_i hz
         have ei := dH5 hk r2
         subst ei
         cases ro
         refine cM2 (by lia) I (dE1.k ea (by rw [← rk.length]; exact hz)) ri rv fun s' I' => ⟨_, I', ?_⟩
         exact bZ2 (o' := .dct (bA7 l k d3)) (Q := fun _ _ H' => Q H') hr g (fun z => z) m (fun z => z) (fun x => ⟨_, M8, cY5 (r3.mono x) (rk.mono x)⟩) p1
       · exact p1.elim
   · exact p1.elim
variable {a b e o i : Expr} {fa fb fo fi : Fe} {pos : Pos}
theorem dg_sub (hu : X.A.units + 64 < cLine) (ho : DE X Z o fo) (hi : DE X Z i fi)
 (ha : ∀ v, assign (.Subscript o i pos) X.env v = (do
   let ov ← holding [v] (eval o X.env)
   let iv ← holding [v, ov] (eval i X.env)
   standAt pos
   holding [v, ov, iv] (setItem ov iv v)
   release [v, ov, iv] [])) : DG X Z (.Subscript o i pos) (bD0 fo fi) :=
 DG.of (dQ1 ho.h hi.h (dN1 hu) ha) fun v σ H Q hE0 => hE0.elim fun d dσ μ G r s h p => ⟨dσ, μ, G, s, h, (d9.bind p).mono fun d1 μ1 G1 H1 x1 h1 p1 v1 r1 =>
  ⟨dσ, μ1, G1, s.mono x1, h1, (d9.bind p1).mono fun d2 μ2 G2 H2 x2 h2 p2 v2 r2 => ⟨d1, d2, d, μ2, G2, r1.mono x2, r2, r.mono (x1.trans x2), h2, (d9.bind p2).mono fun _ μ3 G3 H3 x3 h3 p3 => d9.ok p3 h3 σ (s.mono (x1.trans (x2.trans x3)))⟩⟩⟩
def aN3 : Fe := fun _ => N7 (.dct [])
theorem de_dict0 : DE X Z (.Dict [] [] pos) aN3 := DE.of cS8 fun σ H Q hE0 => hE0.elim fun dσ μ G s h p q hq => by
 have k : Ext μ H (μ ++ [q]) (upd H q (.dK [])) := Ext.add hq _
 refine p (μ ++ [q]) _ k (h.new hq ⟨[], M8, rfl⟩) _ ?_
 unfold g8
 exact ⟨q, by rw [← h.len]; simp, rfl⟩
def U9 : D → M Unit := fun x => match x with
 | .ref r => do
   match ← Q3 r with
   | .lst _ => pure ()
   | _ => M.stuck
 | _ => M.stuck
noncomputable def mtE (t : D → M Unit) (m : D → List D → M D) (fo : Fe) (fs : DSt → M (List D)) : Fe := fun σ => do
 let x ← fo σ
 let _ ← t x
 let xs ← fs σ
 m x xs
def lstM (r : Nat) : M (List D) := do
 match ← Q3 r with
 | .lst l => pure l
 | _ => M.stuck
def aQ9 : D → List D → M D := fun x xs => match x, xs with
 | .ref r, [y] => do
   let l ← lstM r
   if l.length < sizeLine then do
    let _ ← bD8 r (.lst (l ++ [y]))
    pure .non
   else M.stuck
 | _, _ => M.stuck
def aI6 : D → List D → M D := fun x xs => match x, xs with
 | .ref r, [.ref q] => do
   let l ← lstM r
   let k ← lstM q
   if l.length + k.length ≤ sizeLine then do
    let _ ← bD8 r (.lst (l ++ k))
    pure .non
   else M.stuck
 | _, _ => M.stuck
def dD1 : D → List D → M D := fun x xs => match x, xs with
 | .ref r, [] => do
   let l ← lstM r
   match l.getLast? with
   | some y => do
     let _ ← bD8 r (.lst l.dropLast)
     pure y
   | none => M.stuck
 | _, _ => M.stuck
theorem aQ3 {α : Type} {r : Nat} {a : Addr} {f : List D → M α} {K : α → List Addr → DH → Hp → Prop} (h : t7 c μ G H) (m : μ[r]? = some a) (p : d9 c Z μ H ((lstM r >>= f) G) K) :
 ∃ l vs, G[r]? = some (.lst l) ∧ H a = some (.lst vs) ∧ o6 c μ H l vs ∧ d9 c Z μ H (f l G) K := by
 have p' : d9 c Z μ H ((Q3 r >>= fun o => (match o with | .lst l => pure l | _ => M.stuck : M (List D)) >>= f) G) K := by rw [← M.bind_assoc]; exact p
 obtain ⟨o, g, p2⟩ := N8 p'
 have ro := h.obj r o a g m
 rcases o with l | _ | _ | _ <;> try (exact p2.elim; done)
 · obtain ⟨vs, e, rl⟩ := ro; exact ⟨l, vs, g, e, rl, p2⟩
def MtD (X : Cx) (Z : XC) (id : String) (m : D → List D → M D) : Prop :=
 MtR X id fun x xs H Q => ∃ d ds μ G, g8 (wc X) μ H d x ∧ o6 (wc X) μ H ds xs ∧ t7 (wc X) μ G H ∧ d9 (wc X) Z μ H (m d ds G) fun d μ' _ H' => ∀ v, g8 (wc X) μ' H' d v → Q v H'
theorem bJ0 {α : Type} {r : Nat} {a : Addr} {l l' : List D} {vs' : List V} {f : M α} {K : α → List Addr → DH → Hp → Prop} (h : t7 c μ G H) (g : G[r]? = some (.lst l)) (m : μ[r]? = some a) (rl : ∀ x : Ext μ H μ (upd H a (.lst vs')), o6 c μ (upd H a (.lst vs')) l' vs')
 (p : d9 c Z μ H ((bD8 r (.lst l') >>= fun _ => f) G) K) : Ext μ H μ (upd H a (.lst vs')) ∧ t7 c μ (G.set r (.lst l')) (upd H a (.lst vs')) ∧ d9 c Z μ (upd H a (.lst vs')) (f (G.set r (.lst l'))) K := by
 obtain ⟨u', e, n1, n2⟩ := (h.obj r _ a g m).some_of (fun z => z)
 have x : Ext μ H μ (upd H a (.lst vs')) := Ext.mut (List.mem_of_getElem? m) e n1 n2 _
 have h' : t7 c μ (G.set r (.lst l')) (upd H a (.lst vs')) := h.set g (fun z => z) m x (fun z => z) ⟨vs', M8, rl x⟩
 exact ⟨x, h', d9.from p x⟩
theorem md_append : MtD X Z "list.append" aQ9 := by
 intro pins s σ H x xs v us Q I rx rs hE0
 obtain ⟨d, ds, μ, G, rd, rds, hr, p⟩ := hE0
 rcases d with _ | _ | _ | _ | _ | r | _ | _ <;> try (exact p.elim; done)
 ·
   unfold g8 at rd
   obtain ⟨a, m, rfl⟩ := rd
   rcases ds with _ | ⟨y, t⟩
   · exact p.elim
   ·
     rcases t with _ | ⟨_, _⟩
     ·
       obtain ⟨yv, tv, rfl, ry, e⟩ := rds
       cases e
       obtain ⟨l, vs, g, ea, rl, p1⟩ := aQ3 hr m p
       split at p1
       · rename_i hz
         obtain ⟨x1, h1, p2⟩ := bJ0 (l' := l ++ [y]) (vs' := vs ++ [yv]) hr g m (fun x => (rl.mono x).append (o6.cons (ry.mono x) o6.nil)) p1
         exact bP0 pins s σ H (.ref a) [yv] v us Q I rx rs ⟨a, vs, yv, rfl, rfl, ea, by rw [← rl.length]; exact hz, d9.ok p2 h1 _ ofN⟩
       · exact p1.elim
     · exact p.elim
theorem md_extend : MtD X Z "list.extend" aI6 := by
 intro pins s σ H x xs v us Q I rx rs hE0
 obtain ⟨d, ds, μ, G, rd, rds, hr, p⟩ := hE0
 rcases d with _ | _ | _ | _ | _ | r | _ | _ <;> try (exact p.elim; done)
 ·
   unfold g8 at rd
   obtain ⟨a, m, rfl⟩ := rd
   rcases ds with _ | ⟨y, t⟩
   · exact p.elim
   ·
     rcases t with _ | ⟨_, _⟩
     ·
       obtain ⟨yv, tv, rfl, ry, e⟩ := rds
       cases e
       rcases y with _ | _ | _ | _ | _ | q | _ | _ <;> try (exact p.elim; done)
       ·
         unfold g8 at ry
         obtain ⟨b, m2, rfl⟩ := ry
         obtain ⟨l, vs, g, ea, rl, p1⟩ := aQ3 hr m p
         obtain ⟨k, ws, g2, eb, rk, p2⟩ := aQ3 hr m2 p1
         split at p2
         · rename_i hz
           obtain ⟨x1, h1, p3⟩ := bJ0 (vs' := vs ++ ws) hr g m (fun x => (rl.mono x).append (rk.mono x)) p2
           exact cR7 pins s σ H (.ref a) [.ref b] v us Q I rx rs ⟨a, b, vs, ws, rfl, rfl, ea, eb, by rw [← rl.length, ← rk.length]; exact hz, d9.ok p3 h1 _ ofN⟩
         · exact p2.elim
     · cases y <;> exact p.elim
theorem md_pop : MtD X Z "list.pop" dD1 := by
 intro pins s σ H x xs v us Q I rx rs hE0
 obtain ⟨d, ds, μ, G, rd, rds, hr, p⟩ := hE0
 rcases d with _ | _ | _ | _ | _ | r | _ | _ <;> try (exact p.elim; done)
 ·
   unfold g8 at rd
   obtain ⟨a, m, rfl⟩ := rd
   rcases ds with _ | ⟨_, _⟩
   ·
     cases rds
     obtain ⟨l, vs, g, ea, rl, p1⟩ := aQ3 hr m p
     rcases hy : l.getLast? with _ | y
     · simp only [hy] at p1; exact p1.elim
     ·
       simp only [hy] at p1
       obtain ⟨x1, h1, p2⟩ := bJ0 (vs' := vs.dropLast) hr g m (fun x => (rl.mono x).dropLast) p1
       rw [List.getLast?_eq_getElem?] at hy
       obtain ⟨yv, e1, ry⟩ := rl.get hy
       rw [rl.length] at e1
       exact dO6 pins s σ H (.ref a) [] v us Q I rx rs ⟨a, vs, yv, rfl, rfl, ea, e1, d9.ok p2 h1 _ (ry.mono x1)⟩
   · exact p.elim
variable {es : List Expr} {fs : DSt → M (List D)} {name : Str} {apos cpos : Pos} {id : String} {mm : D → List D → M D}
theorem bA2 {α : Type} {d : D} {v : V} {f : Unit → M α} {K : α → List Addr → DH → Hp → Prop} (h : t7 c μ G H) (r : g8 c μ H d v) (p : d9 c Z μ H ((U9 d >>= f) G) K) : tyV c.K "list" v H ∧ d9 c Z μ H (f () G) K := by
 rcases d with _ | _ | _ | _ | _ | i | _ | _ <;> try (exact p.elim; done)
 ·
   unfold g8 at r
   obtain ⟨a, m, rfl⟩ := r
   have p' : d9 c Z μ H ((Q3 i >>= fun o => (match o with | .lst _ => pure () | _ => M.stuck : M Unit) >>= f) G) K := by rw [← M.bind_assoc]; exact p
   obtain ⟨o, g, p2⟩ := N8 p'
   have ro := h.obj i o a g m
   rcases o with l | _ | _ | _ <;> try (exact p2.elim; done)
   · obtain ⟨vs, e, rl⟩ := ro; exact ⟨.inl ⟨rfl, vs, SqL.of e⟩, p2⟩
theorem de_mt (slot : Slot "list" name id) (hty : typeOf (.builtin id) = pure (.type "method_descriptor")) (hm : MtD X Z id mm) (ho : DE X Z o fo) (ha : DA X Z (e :: es) fs)
 (hbase : attributeBase o name X.env (eval o X.env) = eval o X.env)
 (hfew : ((backTo cpos (starEach (e :: es) X.env)).all (fun x => !x.1) && (backToKw cpos (keywordEach [] X.env)).all (fun x => x.1.isSome)
   && decide ((e :: es).length + ([] : List Keyword).length + (if ([] : List Keyword).isEmpty then 0 else 1) < 30)) = true)
 (hline : (apos.endLine == cpos.line) = true) (hs : starEach (e :: es) X.env = (false, eval e X.env) :: starEach es X.env) (hplain : (backTo cpos (starEach es X.env)).any (·.1) = false) :
 DE X Z (.Call (.Attribute o name apos) (e :: es) [] cpos) (mtE U9 mm fo fs) :=
 DE.of (eA6 PySem.F.plainAttrs_list slot hty hm ho.h ha.h hbase hfew hline hs hplain) fun σ H Q hE0 => hE0.elim fun dσ μ G s h p => ⟨dσ, μ, G, s, h, (d9.bind p).mono fun d μ1 G1 H1 x1 h1 p1 v rv => by
  obtain ⟨ty, p2⟩ := bA2 h1 rv p1
  exact ⟨ty, dσ, μ1, G1, s.mono x1, h1, (d9.bind p2).mono fun ds μ2 G2 H2 x2 h2 p3 vs rvs => ⟨d, ds, μ2, G2, rv.mono x2, rvs, h2, p3⟩⟩⟩
theorem de_mt0 (slot : Slot "list" name id) (hty : typeOf (.builtin id) = pure (.type "method_descriptor")) (hm : MtD X Z id mm) (ho : DE X Z o fo)
 (hbase : attributeBase o name X.env (eval o X.env) = eval o X.env) (hline : (apos.endLine == cpos.line) = true) : DE X Z (.Call (.Attribute o name apos) [] [] cpos) (mtE U9 mm fo q14) :=
 DE.of (dQ8 PySem.F.plainAttrs_list slot hty hm ho.h hbase hline) fun σ H Q hE0 => hE0.elim fun dσ μ G s h p => ⟨dσ, μ, G, s, h, (d9.bind p).mono fun d μ1 G1 H1 x1 h1 p1 v rv => by
  obtain ⟨ty, p2⟩ := bA2 h1 rv p1
  exact ⟨ty, d, [], μ1, G1, rv, rfl, h1, p2⟩⟩
end
noncomputable def SI (k : Bool) (h : Heap) (it a : Addr) (i : Nat) : Prop := if k then h.IsTupleIter it a i else h.IsListIter it a i
noncomputable def SC (k : Bool) (h : Heap) (a : Addr) (items : Array Value) : Prop := if k then h.IsTuple a items else h.IsList a items
section
variable {prog : Program} {w : World} {A : Around} {E : VSP} {s : Shared} {k : Bool}
theorem SI.keep {h h' : Heap} {it a : Addr} {i : Nat} (x : SI k h it a i) (q : ∀ o, h.get? it = some o → h'.get? it = some o) : SI k h' it a i := by
 rcases k with _ | _
 · exact Heap.IsListIter.at (show h.IsListIter it a i from x) q
 · exact Heap.IsTupleIter.at (show h.IsTupleIter it a i from x) q
theorem SC.keep {h h' : Heap} {a : Addr} {its : Array Value} (x : SC k h a its) (q : ∀ o, h.get? a = some o → h'.get? a = some o) : SC k h' a its := by
 rcases k with _ | _
 · obtain ⟨o, e, r⟩ := (show h.IsList a its from x); exact ⟨o, q o e, r⟩
 · obtain ⟨o, e, r⟩ := (show h.IsTuple a its from x); exact ⟨o, q o e, r⟩
theorem SI.there {h : Heap} {it a : Addr} {i : Nat} (x : SI k h it a i) : ∃ o, h.get? it = some o ∧ ∀ v, o.data ≠ .cell v := by
 rcases k with _ | _
 · obtain ⟨o, e, c, d⟩ := (show h.IsListIter it a i from x); exact ⟨o, e, fun v z => by rw [d] at z; cases z⟩
 · obtain ⟨o, e, c, d⟩ := (show h.IsTupleIter it a i from x); exact ⟨o, e, fun v z => by rw [d] at z; cases z⟩
theorem aX9 {it t : Addr} {i : Nat} {items : Array Value} {x : Value} {Q : VSP} (hit : s.heap.IsTupleIter it t i) (ht : s.heap.IsTuple t items) (hx : items[i]? = some x)
 (hQ : ∀ h', h'.IsTupleIter it t (i + 1) → Heap.SameBut it s.heap h' → Q x { s with heap := h' }) : wpAny (model prog w) A (Builtin.SmallTypes.nextOf (.ref it)) Q E s := by
 obtain ⟨ob, hob, hcls, hdat⟩ := id hit
 obtain ⟨ot, hot, _, nt, hdt⟩ := ht
 unfold Builtin.SmallTypes.nextOf
 refine wpAny_bind (wpAny_callSpecial?_slot (name := Str.ofString "__next__") hit.typeIs F.slot_tuple_iterator_next (wpAny_call_entry F.slot_tuple_iterator_next hit.typeIs F.entry_tuple_iterator_next ?_ (F.args_tuple_iterator_next_1 _)))
 show wpAny _ _ (field (.ref it) 0 >>= _) _ _ s
 refine wpAny_bind (wpAny_field hob hdat (x := .ref t) rfl ?_)
 show wpAny _ _ (if (Value.ref t == Value.none) = true then _ else _) _ _ s
 rw [if_neg (show ¬ ((Value.ref t == Value.none) = true) from Bool.false_ne_true)]
 show wpAny _ _ (field (.ref it) 1 >>= _) _ _ s
 refine wpAny_bind (wpAny_field hob hdat (x := .int i 0) rfl ?_)
 show wpAny _ _ (seqItems? (.ref t) >>= _) _ _ s
 refine wpAny_bind (wpAny_seqItems hot hdt ?_)
 simp only [Int.toNat_natCast, hx]
 refine wpAny_bind (wpAny_setField hob hdat (by simp) (wpAny_pure ⟨x, rfl, wpAny_pure (hQ _ ?_ (Heap.SameBut.update ..))⟩))
 exact ⟨_, Heap.get?_update_self _ hob (Obj.isFreed_of_fields (Obj.data_mapFields hdat _)), (Obj.cls_mapFields ..).trans hcls, by rw [Obj.data_mapFields hdat]; simp [rawInt]⟩
theorem aY6 {it t : Addr} {i : Nat} {items : Array Value} {Q : VSP} (hh : A.handled = none) (hit : s.heap.IsTupleIter it t i) (ht : s.heap.IsTuple t items) (hx : items[i]? = none)
 (hE : ∀ h' e, Heap.ExtBut it s.heap h' → (∃ o, h'.get? e = some o ∧ o.cls = .type "StopIteration") → E (.ref e) { s with heap := h' }) : wpAny (model prog w) A (Builtin.SmallTypes.nextOf (.ref it)) Q E s := by
 obtain ⟨ob, hob, hcls, hdat⟩ := id hit
 obtain ⟨ot, hot, _, nt, hdt⟩ := ht
 unfold Builtin.SmallTypes.nextOf
 refine wpAny_bind (wpAny_callSpecial?_slot (name := Str.ofString "__next__") hit.typeIs F.slot_tuple_iterator_next (wpAny_call_entry F.slot_tuple_iterator_next hit.typeIs F.entry_tuple_iterator_next ?_ (F.args_tuple_iterator_next_1 _)))
 show wpAny _ _ (field (.ref it) 0 >>= _) _ _ s
 refine wpAny_bind (wpAny_field hob hdat (x := .ref t) rfl ?_)
 show wpAny _ _ (if (Value.ref t == Value.none) = true then _ else _) _ _ s
 rw [if_neg (show ¬ ((Value.ref t == Value.none) = true) from Bool.false_ne_true)]
 show wpAny _ _ (field (.ref it) 1 >>= _) _ _ s
 refine wpAny_bind (wpAny_field hob hdat (x := .int i 0) rfl ?_)
 show wpAny _ _ (seqItems? (.ref t) >>= _) _ _ s
 refine wpAny_bind (wpAny_seqItems hot hdt ?_)
 simp only [Int.toNat_natCast, hx]
 refine wpAny_bind (wpAny_rule (wpAny_bind (wpAny_setField hob hdat (by simp) ?_)))
 show wpAny _ _ (newExc (.type "StopIteration") [] >>= _) _ _ _
 refine wpAny_bind ?_
 simp only [newExc, newTuple]
 refine wpAny_bind (wpAny_newObj_type ?_ (by size_fits))
 refine wpAny_bind (m := firstArgMember _ _) (wpAny_of_eq (a := Value.none) (by first | rfl | (simp only [firstArgMember]; rfl)) ?_)
 refine wpAny_newObj_type ?_ (by size_fits)
 delta raiseNew; dsimp only
 refine wpAny_bind (wpAny_handled ?_)
 first | rw [show A.in1.handled = none from hh] | rw [hh]
 refine wpAny_bind (wpAny_pure (wpAny_throw ?_))
 exact hE _ _ (((Heap.SameBut.update ..).extBut.push _).push _) ⟨_, Heap.get?_push_size _ rfl, rfl⟩
theorem Z5 {it a : Addr} {i : Nat} {items : Array Value} {x : Value} {Q : VSP} (hit : SI k s.heap it a i) (hl : SC k s.heap a items) (hx : items[i]? = some x)
 (hQ : ∀ h', SI k h' it a (i + 1) → Heap.SameBut it s.heap h' → Q x { s with heap := h' }) : wpAny (model prog w) A (Builtin.SmallTypes.nextOf (.ref it)) Q E s := by
 rcases k with _ | _
 · exact wpAny_nextOf_list_item hit hl hx hQ
 · exact aX9 hit hl hx hQ
theorem aL3 {it a : Addr} {i : Nat} {items : Array Value} {Q : VSP} (hh : A.handled = none) (hit : SI k s.heap it a i) (hl : SC k s.heap a items) (hx : items[i]? = none)
 (hE : ∀ h' e, Heap.ExtBut it s.heap h' → (∃ o, h'.get? e = some o ∧ o.cls = .type "StopIteration") → E (.ref e) { s with heap := h' }) : wpAny (model prog w) A (Builtin.SmallTypes.nextOf (.ref it)) Q E s := by
 rcases k with _ | _
 · exact wpAny_nextOf_list_end hh hit hl hx hE
 · exact aY6 hh hit hl hx hE
structure ZA (z TI TO i1 i2 : Addr) : Prop where
 TIz : TI ≠ z
 TOz : TO ≠ z
 i1z : i1 ≠ z
 i2z : i2 ≠ z
 TITO : TI ≠ TO
 TIi1 : TI ≠ i1
 TIi2 : TI ≠ i2
 TOi1 : TO ≠ i1
 TOi2 : TO ≠ i2
 i12 : i1 ≠ i2
theorem dJ9 (n : Nat) : ZA (n + 4 : Nat) (n + 2 : Nat) (n + 3 : Nat) n (n + 1 : Nat) := ⟨(by show @Ne Nat _ _; lia), (by show @Ne Nat _ _; lia), (by show @Ne Nat _ _; lia), (by show @Ne Nat _ _; lia), (by show @Ne Nat _ _; lia), (by show @Ne Nat _ _; lia), (by show @Ne Nat _ _; lia), (by show @Ne Nat _ _; lia), (by show @Ne Nat _ _; lia), (by show @Ne Nat _ _; lia)⟩
theorem bI8 {l n : Nat} (h : l < n) : ¬ @Membership.mem Addr (List Addr) List.instMembership [(n + 4 : Nat), (n + 3 : Nat), n, (n + 1 : Nat)] l := by
 simp only [List.mem_cons, List.not_mem_nil, or_false, not_or]
 exact ⟨(by show ¬ @Eq Nat _ _; lia), (by show ¬ @Eq Nat _ _; lia), (by show ¬ @Eq Nat _ _; lia), (by show ¬ @Eq Nat _ _; lia)⟩
theorem dV1 {l1 l2 n m : Nat} (h1 : l1 < n) (h2 : l2 < n) (e : m = n + 5) : ∀ b, @Membership.mem Addr (List Addr) List.instMembership [(n + 4 : Nat), (n + 2 : Nat), (n + 3 : Nat), n, (n + 1 : Nat), l1, l2] b → @LT.lt Nat instLTNat b m := fun b hb => by
 subst e
 simp only [List.mem_cons, List.not_mem_nil, or_false] at hb
 rcases hb with rfl | rfl | rfl | rfl | rfl | rfl | rfl <;> (show @LT.lt Nat instLTNat _ _; lia)
theorem eB1 {n : Nat} {b : Addr} (hb : @Membership.mem Addr (List Addr) List.instMembership [(n + 4 : Nat), (n + 2 : Nat), (n + 3 : Nat), n, (n + 1 : Nat)] b) : @LE.le Nat instLENat n b := by
 simp only [List.mem_cons, List.not_mem_nil, or_false] at hb
 rcases hb with rfl | rfl | rfl | rfl | rfl <;> (show @LE.le Nat instLENat _ _; lia)
theorem dL4 {b n : Nat} (h : b < n) : ¬ @Membership.mem Addr (List Addr) List.instMembership [(n + 4 : Nat), (n + 3 : Nat), n, (n + 1 : Nat)] b := bI8 h
variable {z TI TO i1 i2 l1 l2 : Addr} {xs ys : Array Value} {k1 k2 : Bool} {i : Nat}
theorem cX9 {x y a b : Value} {Q : VSP} (Ap : ZA z TI TO i1 i2) (n1 : l1 ∉ [z, TO, i1, i2]) (n2 : l2 ∉ [z, TO, i1, i2])
 (hz : IsZip s.heap z TI TO .none) (hTI : IsPair s.heap TI (.ref i1) (.ref i2)) (hTO : IsPair s.heap TO a b)
 (h1 : SI k1 s.heap i1 l1 i) (h2 : SI k2 s.heap i2 l2 i) (hl1 : SC k1 s.heap l1 xs) (hl2 : SC k2 s.heap l2 ys) (hx : xs[i]? = some x) (hy : ys[i]? = some y)
 (hQ : ∀ h', IsZip h' z TI TO (rawInt s.heap.objs.size) → IsPair h' TO x y → SI k1 h' i1 l1 (i + 1) → SI k2 h' i2 l2 (i + 1) → IsPair h' s.heap.objs.size x y → h'.objs.size = s.heap.objs.size + 1 →
   (∀ c o, c ≠ z → c ≠ TO → c ≠ i1 → c ≠ i2 → s.heap.get? c = some o → h'.get? c = some o) → Q (.ref s.heap.objs.size) { s with heap := h' }) :
 wpAny (model prog w) A (Builtin.«zip.__next__» ⟨[.ref z], []⟩) (fun fin s' => ∃ v, fin = .done (.ret v) ∧ Q v s') E s := by
 simp only [List.mem_cons, List.not_mem_nil, or_false, not_or] at n1 n2
 show wpAny _ _ (field (.ref z) 2 >>= _) _ _ _
 refine wpAny_bind (wpAny_field hz rfl (x := .bool false) rfl ?_)
 show wpAny _ _ (field (.ref z) 3 >>= _) _ _ _
 refine wpAny_bind (wpAny_field hz rfl (x := .ref TI) rfl ?_)
 refine wpAny_bind (wpAny_seqItems hTI rfl ?_)
 show wpAny _ _ (Builtin.SmallTypes.ownedTupleIsFree (.ref z) >>= _) _ _ _
 refine wpAny_bind ?_
 unfold Builtin.SmallTypes.ownedTupleIsFree
 refine wpAny_bind (wpAny_field hz rfl (x := .none) rfl (wpAny_pure ?_))
 simp only [if_true]
 refine wpAny_bind (wpAny_rule ?_)
 refine wpAny_bind (wpAny_field hz rfl (x := .ref TO) rfl ?_)
 refine wpAny_bind (wpAny_setField_rec hz (by simp) fun g₁ hz₁ hs₁ => ?_)
 replace hz₁ : IsZip g₁ z TI TO .ellipsis := hz₁
 refine wpAny_bind ?_
 simp only [List.zipIdx_cons, List.zipIdx_nil, List.forIn_cons, List.forIn_nil]
 refine wpAny_bind (wpAny_bind (wpAny_onRaise ?_))
 show wpAny _ _ (Builtin.SmallTypes.nextOf (.ref i1) >>= _) _ _ _
 refine wpAny_bind (Z5 (h1.keep fun o e => hs₁.extBut _ _ Ap.i1z e) (hl1.keep fun o e => hs₁.extBut _ _ n1.1 e) hx fun g₂ h1₂ hs₂ => wpAny_pure ?_)
 have hTO₂ : IsPair g₂ TO a b := hs₂.extBut _ _ Ap.TOi1 (hs₁.extBut _ _ Ap.TOz hTO)
 refine wpAny_bind (wpAny_seqItems hTO₂ rfl ?_)
 refine wpAny_bind (wpAny_updateSeq_pair hTO₂ fun g₃ hTO₃ hs₃ => ?_)
 replace hTO₃ : IsPair g₃ TO x b := hTO₃
 refine wpAny_bind (wpAny_letGo (wpAny_pure ?_))
 refine wpAny_bind (wpAny_bind (wpAny_onRaise ?_))
 show wpAny _ _ (Builtin.SmallTypes.nextOf (.ref i2) >>= _) _ _ _
 have up3 : ∀ c o, c ≠ z → c ≠ TO → c ≠ i1 → s.heap.get? c = some o → g₃.get? c = some o := fun c o c1 c2 c3 e => hs₃.extBut _ _ c2 (hs₂.extBut _ _ c3 (hs₁.extBut _ _ c1 e))
 refine wpAny_bind (Z5 (h2.keep fun o e => up3 _ _ Ap.i2z Ap.TOi2.symm Ap.i12.symm e) (hl2.keep fun o e => up3 _ _ n2.1 n2.2.1 n2.2.2.1 e) hy fun g₄ h2₄ hs₄ => wpAny_pure ?_)
 have hTO₄ : IsPair g₄ TO x b := hs₄.extBut _ _ Ap.TOi2 hTO₃
 refine wpAny_bind (wpAny_seqItems hTO₄ rfl ?_)
 refine wpAny_bind (wpAny_updateSeq_pair hTO₄ fun g₅ hTO₅ hs₅ => ?_)
 replace hTO₅ : IsPair g₅ TO x y := hTO₅
 refine wpAny_bind (wpAny_letGo (wpAny_pure (wpAny_pure ?_)))
 refine wpAny_bind (wpAny_seqItems hTO₅ rfl ?_)
 refine wpAny_bind (wpAny_newTuple ?_)
 have hsz : g₅.objs.size = s.heap.objs.size := by rw [hs₅.1, hs₄.1, hs₃.1, hs₂.1, hs₁.1]
 have hz₅ : IsZip g₅ z TI TO .ellipsis := hs₅.extBut _ _ Ap.TOz.symm (hs₄.extBut _ _ Ap.i2z.symm (hs₃.extBut _ _ Ap.TOz.symm (hs₂.extBut _ _ Ap.i1z.symm hz₁)))
 have hk₅ : ∀ c o, c ≠ z → c ≠ TO → c ≠ i1 → c ≠ i2 → s.heap.get? c = some o → g₅.get? c = some o := fun c o c1 c2 c3 c4 e => hs₅.extBut _ _ c2 (hs₄.extBut _ _ c4 (up3 c o c1 c2 c3 e))
 have h1₅ : SI k1 g₅ i1 l1 (i + 1) := h1₂.keep fun o e => hs₅.extBut _ _ Ap.TOi1.symm (hs₄.extBut _ _ Ap.i12 (hs₃.extBut _ _ Ap.TOi1.symm e))
 have h2₅ : SI k2 g₅ i2 l2 (i + 1) := h2₄.keep fun o e => hs₅.extBut _ _ Ap.TOi2.symm e
 have hzlt : z < g₅.objs.size := Heap.lt_size hz₅
 show wpAny _ _ (Builtin.SmallTypes.ownedTupleHandOut (.ref z) (.ref g₅.objs.size) >>= _) _ _ _
 refine wpAny_bind ?_
 unfold Builtin.SmallTypes.ownedTupleHandOut
 have hz₆ : IsZip (g₅.push { cls := .type "tuple", data := .seq #[x, y] }) z TI TO .ellipsis := Heap.get?_push_of_some _ hz₅
 refine wpAny_bind (wpAny_setField_rec hz₆ (by simp) fun g₇ hz₇ hs₇ => ?_)
 replace hz₇ : IsZip g₇ z TI TO (rawInt g₅.objs.size) := hz₇
 refine wpAny_setField_rec hz₇ (by simp) fun g₈ hz₈ hs₈ => ?_
 replace hz₈ : IsZip g₈ z TI TO (rawInt g₅.objs.size) := hz₈
 have up : ∀ c o, c ≠ z → g₅.get? c = some o → g₈.get? c = some o := fun c o c1 e => hs₈.extBut _ _ c1 (hs₇.extBut _ _ c1 (Heap.get?_push_of_some _ e))
 have hT₈ : IsPair g₈ g₅.objs.size x y := hs₈.extBut _ _ (Nat.ne_of_gt hzlt) (hs₇.extBut _ _ (Nat.ne_of_gt hzlt) (Heap.get?_push_size _ rfl))
 have hz8 : g₈.objs.size = g₅.objs.size + 1 := by rw [hs₈.1, hs₇.1, Heap.size_push]
 rw [hsz] at hz₈ hT₈ hz8
 refine wpAny_pure ⟨_, rfl, ?_⟩
 show Q (.ref g₅.objs.size) _
 rw [hsz]
 exact hQ g₈ hz₈ (up _ _ Ap.TOz hTO₅) (h1₅.keep fun o e => up _ o Ap.i1z e) (h2₅.keep fun o e => up _ o Ap.i2z e) hT₈ hz8 fun c o c1 c2 c3 c4 e => up c o c1 (hk₅ c o c1 c2 c3 c4 e)
theorem dF5 {a b : Value} {Q : Fin → Shared → Prop} (hh : A.handled = none) (Ap : ZA z TI TO i1 i2) (n1 : l1 ∉ [z, TO, i1, i2]) (n2 : l2 ∉ [z, TO, i1, i2])
 (hz : IsZip s.heap z TI TO .none) (hTI : IsPair s.heap TI (.ref i1) (.ref i2)) (hTO : IsPair s.heap TO a b)
 (h1 : SI k1 s.heap i1 l1 i) (h2 : SI k2 s.heap i2 l2 i) (hl1 : SC k1 s.heap l1 xs) (hl2 : SC k2 s.heap l2 ys) (hend : xs[i]? = none ∨ ys[i]? = none)
 (hE : ∀ h' e, (∀ c o, c ≠ z → c ≠ TO → c ≠ i1 → c ≠ i2 → s.heap.get? c = some o → h'.get? c = some o) → (∃ o, h'.get? e = some o ∧ o.cls = .type "StopIteration") → E (.ref e) { s with heap := h' }) :
 wpAny (model prog w) A (Builtin.«zip.__next__» ⟨[.ref z], []⟩) Q E s := by
 simp only [List.mem_cons, List.not_mem_nil, or_false, not_or] at n1 n2
 show wpAny _ _ (field (.ref z) 2 >>= _) _ _ _
 refine wpAny_bind (wpAny_field hz rfl (x := .bool false) rfl ?_)
 show wpAny _ _ (field (.ref z) 3 >>= _) _ _ _
 refine wpAny_bind (wpAny_field hz rfl (x := .ref TI) rfl ?_)
 refine wpAny_bind (wpAny_seqItems hTI rfl ?_)
 show wpAny _ _ (Builtin.SmallTypes.ownedTupleIsFree (.ref z) >>= _) _ _ _
 refine wpAny_bind ?_
 unfold Builtin.SmallTypes.ownedTupleIsFree
 refine wpAny_bind (wpAny_field hz rfl (x := .none) rfl (wpAny_pure ?_))
 simp only [if_true]
 refine wpAny_bind (wpAny_rule ?_)
 refine wpAny_bind (wpAny_field hz rfl (x := .ref TO) rfl ?_)
 refine wpAny_bind (wpAny_setField_rec hz (by simp) fun g₁ hz₁ hs₁ => ?_)
 replace hz₁ : IsZip g₁ z TI TO .ellipsis := hz₁
 refine wpAny_bind ?_
 simp only [List.zipIdx_cons, List.zipIdx_nil, List.forIn_cons, List.forIn_nil]
 refine wpAny_bind (wpAny_bind (wpAny_onRaise ?_))
 show wpAny _ _ (Builtin.SmallTypes.nextOf (.ref i1) >>= _) _ _ _
 rcases hx : xs[i]? with _ | x
 ·
   refine wpAny_bind (aL3 hh (h1.keep fun o e => hs₁.extBut _ _ Ap.i1z e) (hl1.keep fun o e => hs₁.extBut _ _ n1.1 e) hx fun g₂ e hs₂ he => ?_)
   obtain ⟨oe, hoe, hce⟩ := he
   have hz₂ : IsZip g₂ z TI TO .ellipsis := hs₂ _ _ Ap.i1z.symm hz₁
   have hez : e ≠ z := fun q => by subst q; rw [hz₂] at hoe; cases hoe; simp at hce
   exact wpAny_setField_rec hz₂ (by simp) fun g₃ _ hs₃ => hE g₃ e (fun c o c1 _ c3 _ q => hs₃.extBut _ _ c1 (hs₂ _ _ c3 (hs₁.extBut _ _ c1 q))) ⟨oe, hs₃.extBut _ _ hez hoe, hce⟩
 ·
   have hy : ys[i]? = none := by
    rcases hend with h | h
    · rw [hx] at h; cases h
    · exact h
   refine wpAny_bind (Z5 (h1.keep fun o e => hs₁.extBut _ _ Ap.i1z e) (hl1.keep fun o e => hs₁.extBut _ _ n1.1 e) hx fun g₂ h1₂ hs₂ => wpAny_pure ?_)
   have hTO₂ : IsPair g₂ TO a b := hs₂.extBut _ _ Ap.TOi1 (hs₁.extBut _ _ Ap.TOz hTO)
   refine wpAny_bind (wpAny_seqItems hTO₂ rfl ?_)
   refine wpAny_bind (wpAny_updateSeq_pair hTO₂ fun g₃ hTO₃ hs₃ => ?_)
   refine wpAny_bind (wpAny_letGo (wpAny_pure ?_))
   refine wpAny_bind (wpAny_bind (wpAny_onRaise ?_))
   show wpAny _ _ (Builtin.SmallTypes.nextOf (.ref i2) >>= _) _ _ _
   have up3 : ∀ c o, c ≠ z → c ≠ TO → c ≠ i1 → s.heap.get? c = some o → g₃.get? c = some o := fun c o c1 c2 c3 e => hs₃.extBut _ _ c2 (hs₂.extBut _ _ c3 (hs₁.extBut _ _ c1 e))
   refine wpAny_bind (aL3 hh (h2.keep fun o e => up3 _ _ Ap.i2z Ap.TOi2.symm Ap.i12.symm e) (hl2.keep fun o e => up3 _ _ n2.1 n2.2.1 n2.2.2.1 e) hy fun g₄ e hs₄ he => ?_)
   obtain ⟨oe, hoe, hce⟩ := he
   have hz₄ : IsZip g₄ z TI TO .ellipsis := hs₄ _ _ Ap.i2z.symm (hs₃.extBut _ _ Ap.TOz.symm (hs₂.extBut _ _ Ap.i1z.symm hz₁))
   have hez : e ≠ z := fun q => by subst q; rw [hz₄] at hoe; cases hoe; simp at hce
   exact wpAny_setField_rec hz₄ (by simp) fun g₅ _ hs₅ => hE g₅ e (fun c o c1 c2 c3 c4 q => hs₅.extBut _ _ c1 (hs₄ _ _ c4 (up3 c o c1 c2 c3 q))) ⟨oe, hs₅.extBut _ _ hez hoe, hce⟩
theorem aM3 {x y a b : Value} {Q : Option Value → Shared → Prop} (Ap : ZA z TI TO i1 i2) (n1 : l1 ∉ [z, TO, i1, i2]) (n2 : l2 ∉ [z, TO, i1, i2])
 (hz : IsZip s.heap z TI TO .none) (hTI : IsPair s.heap TI (.ref i1) (.ref i2)) (hTO : IsPair s.heap TO a b)
 (h1 : SI k1 s.heap i1 l1 i) (h2 : SI k2 s.heap i2 l2 i) (hl1 : SC k1 s.heap l1 xs) (hl2 : SC k2 s.heap l2 ys) (hx : xs[i]? = some x) (hy : ys[i]? = some y)
 (hQ : ∀ h', IsZip h' z TI TO (rawInt s.heap.objs.size) → IsPair h' TO x y → SI k1 h' i1 l1 (i + 1) → SI k2 h' i2 l2 (i + 1) → IsPair h' s.heap.objs.size x y → h'.objs.size = s.heap.objs.size + 1 →
   (∀ c o, c ≠ z → c ≠ TO → c ≠ i1 → c ≠ i2 → s.heap.get? c = some o → h'.get? c = some o) → Q (some (.ref s.heap.objs.size)) { s with heap := h' }) :
 wpAny (model prog w) A (pyNext (.ref z)) Q E s := by
 have hT : s.TypeIs (.ref z) "zip" := ⟨_, hz, rfl⟩
 unfold pyNext
 exact wpAny_bind (wpAny_attempt (wpAny_callSpecial?_slot (name := Str.ofString "__next__") hT F.slot_zip_next (wpAny_call_entry F.slot_zip_next hT F.entry_zip_next
  (cX9 Ap n1 n2 hz hTI hTO h1 h2 hl1 hl2 hx hy fun h' a1 a2 a3 a4 a5 a6 a7 => wpAny_pure (hQ h' a1 a2 a3 a4 a5 a6 a7)) (F.args_zip_next_1 _))))
theorem aP9 {a b : Value} {Q : Option Value → Shared → Prop} (hh : A.handled = none) (Ap : ZA z TI TO i1 i2) (n1 : l1 ∉ [z, TO, i1, i2]) (n2 : l2 ∉ [z, TO, i1, i2])
 (hz : IsZip s.heap z TI TO .none) (hTI : IsPair s.heap TI (.ref i1) (.ref i2)) (hTO : IsPair s.heap TO a b)
 (h1 : SI k1 s.heap i1 l1 i) (h2 : SI k2 s.heap i2 l2 i) (hl1 : SC k1 s.heap l1 xs) (hl2 : SC k2 s.heap l2 ys) (hend : xs[i]? = none ∨ ys[i]? = none)
 (hQ : ∀ h', (∀ c o, c ≠ z → c ≠ TO → c ≠ i1 → c ≠ i2 → s.heap.get? c = some o → h'.get? c = some o) → Q none { s with heap := h' }) : wpAny (model prog w) A (pyNext (.ref z)) Q E s := by
 have hT : s.TypeIs (.ref z) "zip" := ⟨_, hz, rfl⟩
 unfold pyNext
 refine wpAny_bind (wpAny_attempt (wpAny_callSpecial?_slot (name := Str.ofString "__next__") hT F.slot_zip_next (wpAny_call_entry F.slot_zip_next hT F.entry_zip_next
  (dF5 hh Ap n1 n2 hz hTI hTO h1 h2 hl1 hl2 hend fun h' e hk he => ?_) (F.args_zip_next_1 _))))
 obtain ⟨o, ho, hc⟩ := he
 exact wpAny_bind (wpAny_isInstance (T := "StopIteration") (b := true) ⟨o, ho, hc⟩ isSubtype_stop (wpAny_pure (hQ _ hk)))
end
noncomputable def bN2 (k : Bool) (a : Addr) : Obj := { cls := .type (if k then "tuple_iterator" else "list_iterator"), data := .fields #[.ref a, .int 0 0] }
abbrev zh1 (k1 : Bool) (h : Heap) (l1 : Addr) : Heap := h.push (bN2 k1 l1)
abbrev zh2 (k1 k2 : Bool) (h : Heap) (l1 l2 : Addr) : Heap := (zh1 k1 h l1).push (bN2 k2 l2)
noncomputable abbrev zh3 (k1 k2 : Bool) (h : Heap) (l1 l2 : Addr) : Heap := (zh2 k1 k2 h l1 l2).push { cls := .type "tuple", data := .seq #[.ref h.objs.size, .ref (zh1 k1 h l1).objs.size] }
noncomputable abbrev zh4 (k1 k2 : Bool) (h : Heap) (l1 l2 : Addr) : Heap := (zh3 k1 k2 h l1 l2).push { cls := .type "tuple", data := .seq #[.none, .none] }
noncomputable abbrev zh5 (k1 k2 : Bool) (h : Heap) (l1 l2 : Addr) : Heap := (zh4 k1 k2 h l1 l2).push { cls := .type "zip", data := .fields #[.none, .bool false, .bool false, .ref (zh2 k1 k2 h l1 l2).objs.size, .ref (zh3 k1 k2 h l1 l2).objs.size] }
theorem bH5 {prog : Program} {w : World} {A : Around} {E : VSP} {s : Shared} {k : Bool} {a : Addr} {items : Array Value} {Q : VSP} (hl : SC k s.heap a items) (h : Q (.ref s.heap.objs.size) { s with heap := s.heap.push (bN2 k a) }) : wpAny (model prog w) A (pyIter (.ref a)) Q E s := by
 rcases k with _ | _
 · exact wpAny_pyIter_list hl h
 · exact wpAny_pyIter_tuple hl h
theorem dC2 (k1 k2 : Bool) (l1 l2 : Addr) (xs ys : Array Value) :
 Meets (Builtin.«zip.__new__» ⟨[.type "zip", .ref l1, .ref l2], []⟩) (fun _ R s => SC k1 s.heap l1 xs ∧ SC k2 s.heap l2 ys ∧ R (.ok (.ret (.ref (zh4 k1 k2 s.heap l1 l2).objs.size))) { s with heap := zh5 k1 k2 s.heap l1 l2 }) :=
 .of_wp fun prog w A R s h => by
  obtain ⟨hp, g, d, tk, os⟩ := s
  obtain ⟨hl1, hl2, h⟩ := h
  have hsub := sub_zip
  have hL1 : SC k1 (Shared.heap ⟨hp, g, d, tk, os⟩) l1 xs := hl1
  have hL2 : SC k2 (Shared.heap ⟨hp.push (bN2 k1 l1), g, d, tk, os⟩) l2 ys := hl2.keep fun o e => Heap.get?_push_of_some _ e
  wp_walk using bH5 hL1, bH5 hL2
  exact ⟨_, rfl, h⟩
section
variable {X : Cx} {pins : PNS} {σ : St} {H : Hp} {s : Shared}
theorem bM5 {h' : Heap} {t' : Nat} {ch : List Addr} {vs : List V} {us : List Value} (I : Inv X pins σ H s) (hf : ∀ b ∈ ch, aP7 X pins H b) (k : ∀ b o, b ∉ ch → s.heap.get? b = some o → h'.get? b = some o)
 (hz : vs.length ≤ sizeLine) (rv : w6 vs us) (ht : aC3 h' s.heap.objs.size us.toArray) : Inv X pins σ (upd H s.heap.objs.size (.tup vs)) { s with heap := h', toks := t' } := by
 have hq : H s.heap.objs.size = none := I.hok.fresh (Nat.le_refl _)
 have neq : ∀ b o, s.heap.get? b = some o → b ≠ s.heap.objs.size := fun b o e => Nat.ne_of_lt (Heap.lt_size e)
 have nch : ∀ b u, H b = some u → b ∉ ch := fun b u e z => by rw [(hf b z).1] at e; cases e
 refine I.step (g' := s.gens) (d' := s.drawn) (ch := ch) (fun b hb => ⟨(hf b hb).2.2.2.1, (hf b hb).2.1, (hf b hb).2.2.2.2.1, (hf b hb).2.2.2.2.2⟩) (fun b o _ _ hc e _ => k b o hc e) (fun b o _ _ hc e _ => ⟨o.slots, k b o hc e⟩)
  (fun b o _ e n => by rw [t8 (neq b o e)]; exact n) (fun b o hc e => ⟨o, k b o hc e⟩) (fun b xs e => by rw [t8 (J0 e hq)]; exact e) (fun b o u e => by rw [t8 (J0 e hq)]; exact e)
  (fun b ps e => ⟨#[], by rw [t8 (J0 e hq), e]; simp⟩) (fun m hm => ?_) (fun b u e => ?_) I.bare
 · obtain ⟨o, es, ep, ho, r⟩ := hm
   exact ⟨o, es, ep, k _ o (fun z => (hf _ z).2.1 rfl) ho, r⟩
 · by_cases hb : b = s.heap.objs.size
   · subst hb
     rw [M8] at e
     cases e
     exact ⟨hz, us, rv, ht⟩
   · rw [t8 hb] at e
     refine (I.hok b u e).stay (fun c v hc q => k c v ?_ q) (fun c q => by rw [t8 (J0 q hq)]; exact q) fun c xs q => by rw [t8 (J0 q hq)]; exact q
     rcases hc with z | z
     · rw [z]; exact nch b u e
     · exact nch c _ z
theorem bH6 {h' : Heap} {t' : Nat} {ch : List Addr} (I : Inv X pins σ H s) (hf : ∀ b ∈ ch, aP7 X pins H b) (k : ∀ b o, b ∉ ch → s.heap.get? b = some o → h'.get? b = some o) : Inv X pins σ H { s with heap := h', toks := t' } := by
 have nch : ∀ b u, H b = some u → b ∉ ch := fun b u e z => by rw [(hf b z).1] at e; cases e
 refine I.step (g' := s.gens) (d' := s.drawn) (ch := ch) (fun b hb => ⟨(hf b hb).2.2.2.1, (hf b hb).2.1, (hf b hb).2.2.2.2.1, (hf b hb).2.2.2.2.2⟩) (fun b o _ _ hc e _ => k b o hc e) (fun b o _ _ hc e _ => ⟨o.slots, k b o hc e⟩)
  (fun _ _ _ _ n => n) (fun b o hc e => ⟨o, k b o hc e⟩) (fun _ _ e => e) (fun _ _ _ e => e) (fun b ps e => ⟨#[], by rw [e]; simp⟩) (fun m hm => ?_) (fun b u e => ?_) I.bare
 · obtain ⟨o, es, ep, ho, r⟩ := hm
   exact ⟨o, es, ep, k _ o (fun z => (hf _ z).2.1 rfl) ho, r⟩
 · refine (I.hok b u e).stay (fun c v hc q => k c v ?_ q) (fun _ q => q) fun _ _ q => q
   rcases hc with z | z
   · rw [z]; exact nch b u e
   · exact nch c _ z
end
def Sq (K : PySem.W.Frag) (k : Bool) (H : Hp) (a : Addr) (vs : List V) : Prop := if k then SqT K H a vs else SqL K H a vs
theorem bN5 {X : Cx} {pins : PNS} {σ : St} {H : Hp} {s : Shared} {k : Bool} {a : Addr} {vs : List V} (I : Inv X pins σ H s) (h : Sq X.K k H a vs) : ∃ its : List Value, w6 vs its ∧ SC k s.heap a its.toArray ∧ vs.length ≤ sizeLine := by
 rcases k with _ | _
 · obtain ⟨its, r, p, z⟩ := I.list h; exact ⟨its, r, p.isList, z⟩
 · obtain ⟨its, r, p, z⟩ := I.tuple h; exact ⟨its, r, p, z⟩
theorem cZ2 {X : Cx} {pins : PNS} {σ : St} {H : Hp} {s : Shared} {k : Bool} {a : Addr} {vs ws : List V} (I : Inv X pins σ H s) (h : Sq X.K k H a vs) (h' : Sq X.K k H a ws) : vs = ws := by
 rcases k with _ | _
 · exact I.list_inj h h'
 · exact I.tuple_inj h h'
def Itz (K : PySem.W.Frag) (k1 k2 : Bool) (a b : Addr) : It :=
 ⟨fun i H => ∃ xs ys x y, Sq K k1 H a xs ∧ Sq K k2 H b ys ∧ xs[i]? = some x ∧ ys[i]? = some y,
  fun i H v H' => ∃ q x y, H q = none ∧ v = .ref q ∧ H' = upd H q (.tup [x, y]) ∧ (∀ xs, Sq K k1 H a xs → xs[i]? = some x) ∧ ∀ ys, Sq K k2 H b ys → ys[i]? = some y,
  fun i H => ∃ xs ys, Sq K k1 H a xs ∧ Sq K k2 H b ys ∧ (xs.length ≤ i ∨ ys.length ≤ i)⟩
theorem aX3 {vs : List V} {its : List Value} (r : w6 vs its) {i : Nat} {x : V} (h : vs[i]? = some x) : ∃ u, its.toArray[i]? = some u ∧ J7 x u := by
 obtain ⟨u, e, ru⟩ := r.get h
 exact ⟨u, by simpa using e, ru⟩
theorem dA1 {P : Program} {w : World} {K : PySem.W.Frag} {es : List Expr} {x1 : Nat} {tp : Pos} {k1 k2 : Bool} {l1 l2 z TI TO i1 i2 : Addr} (Ap : ZA z TI TO i1 i2) (n1 : l1 ∉ [z, TO, i1, i2]) (n2 : l2 ∉ [z, TO, i1, i2]) :
 bH4 P w K (.Tuple es x1 tp) (Itz K k1 k2 l1 l2) [z, TI, TO, i1, i2] z (fun i h => IsZip h z TI TO .none ∧ IsPair h TI (.ref i1) (.ref i2) ∧ (∃ a b, IsPair h TO a b) ∧ SI k1 h i1 l1 i ∧ SI k2 h i2 l2 i) where
 mem := by simp
 obj := fun i h st b hb => by
  obtain ⟨s1, s2, ⟨a, c, s3⟩, s4, s5⟩ := st
  simp only [List.mem_cons, List.not_mem_nil, or_false] at hb
  rcases hb with rfl | rfl | rfl | rfl | rfl
  · exact ⟨_, s1, fun v z => nomatch z⟩
  · exact ⟨_, s2, fun v z => nomatch z⟩
  · exact ⟨_, s3, fun v z => nomatch z⟩
  · exact s4.there
  · exact s5.there
 keep := fun i h h' st k => by
  obtain ⟨s1, s2, ⟨a, c, s3⟩, s4, s5⟩ := st
  exact ⟨k _ (by simp) _ s1, k _ (by simp) _ s2, ⟨a, c, k _ (by simp) _ s3⟩, s4.keep (k _ (by simp)), s5.keep (k _ (by simp))⟩
 item := by
  intro X hP hw hK hc i pins s σ H E I hf st hg
  subst hP hw hK
  obtain ⟨xs, ys, x, y, q1, q2, hx, hy⟩ := hg
  obtain ⟨its1, r1, c1, z1⟩ := bN5 I q1
  obtain ⟨its2, r2, c2, z2⟩ := bN5 I q2
  obtain ⟨u1, e1, ru1⟩ := aX3 r1 hx
  obtain ⟨u2, e2, ru2⟩ := aX3 r2 hy
  obtain ⟨s1, s2, ⟨a, c, s3⟩, s4, s5⟩ := st
  refine aM3 Ap n1 n2 s1 s2 s3 s4 s5 c1 c2 e1 e2 fun g b1 b2 b3 b4 b5 b6 b7 => ⟨_, rfl, ?_⟩
  refine wpAny_letOwnedTupleGo_zip b1 fun g2 c1' sb => ?_
  have keep : ∀ b o, b ∉ [z, TI, TO, i1, i2] → s.heap.get? b = some o → g2.get? b = some o := fun b o hb e => by
   simp only [List.mem_cons, List.not_mem_nil, or_false, not_or] at hb
   exact (sb.2 b hb.1).trans (b7 b o hb.1 hb.2.2.1 hb.2.2.2.1 hb.2.2.2.2 e)
  have zlt : z < s.heap.objs.size := Heap.lt_size s1
  have hnew : aC3 g2 s.heap.objs.size [u1, u2].toArray := ⟨_, (sb.2 _ (Nat.ne_of_gt zlt)).trans b5, rfl, _, rfl⟩
  have hq : H s.heap.objs.size = none := I.hok.fresh (Nat.le_refl _)
  refine ⟨.ref s.heap.objs.size, upd H s.heap.objs.size (.tup [x, y]), bM5 I hf keep (by show 2 ≤ sizeLine; decide) (.cons ru1 (.cons ru2 .nil)) hnew, rfl, ⟨_, x, y, hq, rfl, rfl, fun xs' h => by rw [cZ2 I h q1]; exact hx, fun ys' h => by rw [cZ2 I h q2]; exact hy⟩, ?_, fun b hb => ?_⟩
  · refine ⟨c1', ?_, ⟨_, _, (sb.2 _ Ap.TOz).trans b2⟩, b3.keep fun o e => (sb.2 _ Ap.i1z).trans e, b4.keep fun o e => (sb.2 _ Ap.i2z).trans e⟩
    exact (sb.2 _ Ap.TIz).trans (b7 TI _ Ap.TIz Ap.TITO Ap.TIi1 Ap.TIi2 s2)
  · have hb' : b < s.heap.objs.size := by
     simp only [List.mem_cons, List.not_mem_nil, or_false] at hb
     rcases hb with rfl | rfl | rfl | rfl | rfl
     · exact zlt
     · exact Heap.lt_size s2
     · exact Heap.lt_size s3
     · obtain ⟨_, e, _⟩ := s4.there; exact Heap.lt_size e
     · obtain ⟨_, e, _⟩ := s5.there; exact Heap.lt_size e
    rw [t8 (Nat.ne_of_lt hb')]
    exact (hf b hb).1
 done := by
  intro X hP hw hK hc i pins s σ H E I hf st hg
  subst hP hw hK
  obtain ⟨xs, ys, q1, q2, hend⟩ := hg
  obtain ⟨its1, r1, c1, z1⟩ := bN5 I q1
  obtain ⟨its2, r2, c2, z2⟩ := bN5 I q2
  obtain ⟨s1, s2, ⟨a, c, s3⟩, s4, s5⟩ := st
  have hl1 := r1.length
  have hl2 := r2.length
  refine aP9 (I.ok.hd hc) Ap n1 n2 s1 s2 s3 s4 s5 c1 c2 (by rcases hend with h | h; left; simp; lia; right; simp; lia) fun g b7 => ⟨rfl, bH6 (t' := s.toks) I hf fun b o hb e => ?_⟩
  simp only [List.mem_cons, List.not_mem_nil, or_false, not_or] at hb
  exact b7 b o hb.1 hb.2.2.1 hb.2.2.2.1 hb.2.2.2.2 e
 self := fun _ _ _ _ _ st h => wpAny_pyIter_zip st.1 h
def eF4 (K : PySem.W.Frag) (ta : TA) : TI := fun σ H R => ta σ H fun vs H1 => ∃ k1 k2 a b xs ys, vs = [.ref a, .ref b] ∧ Sq K k1 H1 a xs ∧ Sq K k2 H1 b ys ∧ R (Itz K k1 k2 a b) H1
section
variable {X : Cx} {Z : XC}
theorem bT9 {prog : Program} {w : World} {A : Around} {E : VSP} {s : Shared} {k1 k2 : Bool} {l1 l2 : Addr} {xs ys : Array Value} {Q : VSP} (hl1 : SC k1 s.heap l1 xs) (hl2 : SC k2 s.heap l2 ys)
 (h : Q (.ref (zh4 k1 k2 s.heap l1 l2).objs.size) { s with heap := zh5 k1 k2 s.heap l1 l2 }) : wpAny (model prog w) A (call (.type "zip") [.ref l1, .ref l2]) Q E s := by
 refine callType_new F.called_zip (by decide) (F.typeCall_zip_2 _ _) (F.newCall_zip_2 _ _) (fun obj => F.args_object_init_3 obj _ _) F.entry_zip_new (dC2 k1 k2 l1 l2 xs ys) ⟨hl1, hl2, ?_⟩
 exact ⟨⟨_, Heap.get?_push_size _ rfl, rfl⟩, h⟩
structure ZMk (k1 k2 : Bool) (h h5 : Heap) (l1 l2 : Addr) (n : Nat) : Prop where
 keep : ∀ b o, h.get? b = some o → h5.get? b = some o
 sz : h5.objs.size = n + 5
 g5 : IsZip h5 (n + 4 : Nat) (n + 2 : Nat) (n + 3 : Nat) .none
 g4 : IsPair h5 (n + 3 : Nat) .none .none
 g3 : IsPair h5 (n + 2 : Nat) (.ref n) (.ref (n + 1 : Nat))
 s1 : SI k1 h5 n l1 0
 s2 : SI k2 h5 (n + 1 : Nat) l2 0
theorem zmk {k1 k2 : Bool} {h : Heap} {l1 l2 : Addr} : (zh4 k1 k2 h l1 l2).objs.size = h.objs.size + 4 ∧ ZMk k1 k2 h (zh5 k1 k2 h l1 l2) l1 l2 h.objs.size := by
 have z1 : (zh1 k1 h l1).objs.size = h.objs.size + 1 := Heap.size_push ..
 have z2 : (zh2 k1 k2 h l1 l2).objs.size = h.objs.size + 2 := by rw [Heap.size_push, z1]
 have z3 : (zh3 k1 k2 h l1 l2).objs.size = h.objs.size + 3 := by rw [Heap.size_push, z2]
 have z4 : (zh4 k1 k2 h l1 l2).objs.size = h.objs.size + 4 := by rw [Heap.size_push, z3]
 have z5 : (zh5 k1 k2 h l1 l2).objs.size = h.objs.size + 5 := by rw [Heap.size_push, z4]
 have g5 : IsZip (zh5 k1 k2 h l1 l2) (zh4 k1 k2 h l1 l2).objs.size (zh2 k1 k2 h l1 l2).objs.size (zh3 k1 k2 h l1 l2).objs.size .none := Heap.get?_push_size _ rfl
 have g4 : IsPair (zh5 k1 k2 h l1 l2) (zh3 k1 k2 h l1 l2).objs.size .none .none := Heap.get?_push_of_some _ (Heap.get?_push_size _ rfl)
 have g3 : IsPair (zh5 k1 k2 h l1 l2) (zh2 k1 k2 h l1 l2).objs.size (.ref h.objs.size) (.ref (zh1 k1 h l1).objs.size) := Heap.get?_push_of_some _ (Heap.get?_push_of_some _ (Heap.get?_push_size _ rfl))
 have g2 : (zh5 k1 k2 h l1 l2).get? (zh1 k1 h l1).objs.size = some (bN2 k2 l2) := Heap.get?_push_of_some _ (Heap.get?_push_of_some _ (Heap.get?_push_of_some _ (Heap.get?_push_size _ (by cases k2 <;> rfl))))
 have g1 : (zh5 k1 k2 h l1 l2).get? h.objs.size = some (bN2 k1 l1) := Heap.get?_push_of_some _ (Heap.get?_push_of_some _ (Heap.get?_push_of_some _ (Heap.get?_push_of_some _ (Heap.get?_push_size _ (by cases k1 <;> rfl)))))
 rw [z4, z2, z3] at g5
 rw [z3] at g4
 rw [z2, z1] at g3
 rw [z1] at g2
 refine ⟨z4, fun b o e => Heap.get?_push_of_some _ (Heap.get?_push_of_some _ (Heap.get?_push_of_some _ (Heap.get?_push_of_some _ (Heap.get?_push_of_some _ e)))), z5, g5, g4, g3, ?_, ?_⟩
 · rcases k1 with _ | _
   · exact ⟨_, g1, rfl, rfl⟩
   · exact ⟨_, g1, rfl, rfl⟩
 · rcases k2 with _ | _
   · exact ⟨_, g2, rfl, rfl⟩
   · exact ⟨_, g2, rfl, rfl⟩
theorem SC.lt {k : Bool} {h : Heap} {a : Addr} {xs : Array Value} (c : SC k h a xs) : @LT.lt Nat instLTNat a h.objs.size := by
 rcases k with _ | _
 · obtain ⟨o, e, _⟩ := (show h.IsList a _ from c); exact Heap.lt_size e
 · obtain ⟨o, e, _⟩ := (show h.IsTuple a _ from c); exact Heap.lt_size e
theorem bC4 {prog : Program} {w : World} {A : Around} {E : VSP} {s : Shared} {k1 k2 : Bool} {l1 l2 : Addr} {xs ys : Array Value} {Q : VSP} (hl1 : SC k1 s.heap l1 xs) (hl2 : SC k2 s.heap l2 ys)
 (h : ∀ (h5 : Heap) (n : Nat), n = s.heap.objs.size → ZMk k1 k2 s.heap h5 l1 l2 n → Q (.ref (n + 4 : Nat)) { s with heap := h5 }) : wpAny (model prog w) A (call (.type "zip") [.ref l1, .ref l2]) Q E s := by
 refine bT9 hl1 hl2 ?_
 have := zmk (k1 := k1) (k2 := k2) (h := s.heap) (l1 := l1) (l2 := l2)
 rw [this.1]
 exact h _ _ rfl this.2
theorem dS0 {es : List Expr} {x1 : Nat} {tp : Pos} {a b : Expr} {ta : TA} {p pos : Pos} (hg : Gl X "zip") (hm : X.mg "zip" = none) (ha : PA X [a, b] ta) (hs : starEach [a, b] X.env = [(false, eval a X.env), (false, eval b X.env)]) (hs2 : starEach [b] X.env = [(false, eval b X.env)]) (hbt : bootBuiltins "zip" = some (.type "zip")) :
 PI X (.Tuple es x1 tp) (.Call (.Name "zip" p) [a, b] [] pos) (eF4 X.K ta) := by
 intro pins s σ H R I h
 refine Call_ (aO4 I hg hm hbt (PyProof.Rows.callWith_type1 (thn (ha pos pins s σ H _ I h) fun us s1 hE1 => hE1.elim fun vs H1 I1 r1 q1 => ?_) (by rw [hs, hs2]) (by rw [hs2]; rfl)))
 obtain ⟨k1, k2, l1, l2, xs, ys, rfl, q1, q2, q⟩ := q1
 obtain ⟨u1, u2, rfl, ru1, ru2⟩ := bY1 r1
 cases ru1
 cases ru2
 obtain ⟨its1, rr1, c1, z1⟩ := bN5 I1 q1
 obtain ⟨its2, rr2, c2, z2⟩ := bN5 I1 q2
 refine bC4 c1 c2 fun h5 n en Z => ?_
 have n1 := bI8 (en ▸ c1.lt)
 have n2 := bI8 (en ▸ c2.lt)
 refine wpAny_pyIter_zip Z.g5 ?_
 refine ⟨(n + 4 : Nat), _, _, Itz X.K k1 k2 l1 l2, H1, rfl, I1.kept (t' := s1.toks) Z.keep, dA1 (dJ9 n) n1 n2, ⟨Z.g5, Z.g3, ⟨_, _, Z.g4⟩, Z.s1, Z.s2⟩, fun b hb => ?_, q⟩
 have hb' : s1.heap.objs.size ≤ b := en ▸ eB1 hb
 exact I1.fpOk hb' (I1.hok.fresh hb')
end
def Ite (K : PySem.W.Frag) (a : Addr) : It :=
 ⟨fun i H => ∃ xs x, SqL K H a xs ∧ xs[i]? = some x,
  fun i H v H' => ∃ q x, H q = none ∧ v = .ref q ∧ H' = upd H q (.tup [.int i, x]) ∧ ∀ xs, SqL K H a xs → xs[i]? = some x,
  fun i H => ∃ xs, SqL K H a xs ∧ xs.length ≤ i⟩
theorem cO6 {P : Program} {w : World} {K : PySem.W.Frag} {es : List Expr} {x1 : Nat} {tp : Pos} {l e it : Addr} (hne : e ≠ it) :
 bH4 P w K (.Tuple es x1 tp) (Ite K l) [e, it] e (fun i h => (∃ old, IsEnum h e it i old) ∧ h.IsListIter it l i) where
 mem := by simp
 obj := fun i h st b hb => by
  obtain ⟨⟨old, s1⟩, s2⟩ := st
  simp only [List.mem_cons, List.not_mem_nil, or_false] at hb
  rcases hb with rfl | rfl
  · exact ⟨_, s1, fun v z => nomatch z⟩
  · obtain ⟨o, q, c, d⟩ := s2
    exact ⟨o, q, fun v z => by rw [d] at z; cases z⟩
 keep := fun i h h' st k => by
  obtain ⟨⟨old, s1⟩, s2⟩ := st
  exact ⟨⟨old, k _ (by simp) _ s1⟩, s2.at fun o q => k _ (by simp) o q⟩
 item := by
  intro X hP hw hK hc i pins s σ H E I hf st hg
  subst hP hw hK
  obtain ⟨xs, x, q1, hx⟩ := hg
  obtain ⟨its, r1, c1, z1⟩ := I.list q1
  obtain ⟨u, e1, ru⟩ := aX3 r1 hx
  obtain ⟨⟨old, s1⟩, s2⟩ := st
  refine wpAny_pyNext_enum_item s1 s2 c1.isList e1 hne fun g b1 b2 b3 b4 b5 => ⟨_, rfl, ?_⟩
  refine wpAny_letOwnedTupleGo_enum b1 fun g2 c1' sb => ?_
  have elt : e < s.heap.objs.size := Heap.lt_size s1
  have ilt : it < s.heap.objs.size := by obtain ⟨_, q, _⟩ := s2; exact Heap.lt_size q
  have keep : ∀ b o, b ∉ [e, it] → s.heap.get? b = some o → g2.get? b = some o := fun b o hb q => by
   simp only [List.mem_cons, List.not_mem_nil, or_false, not_or] at hb
   exact (sb.2 b hb.1).trans (b5 b o hb.1 hb.2 q)
  have hnew : aC3 g2 s.heap.objs.size [.int (i : Int) s.toks, u].toArray := ⟨_, (sb.2 _ (Nat.ne_of_gt elt)).trans b3, rfl, _, rfl⟩
  have hq : H s.heap.objs.size = none := I.hok.fresh (Nat.le_refl _)
  refine ⟨.ref s.heap.objs.size, upd H s.heap.objs.size (.tup [.int i, x]), bM5 I hf keep (by show 2 ≤ sizeLine; decide) (.cons ⟨_, rfl⟩ (.cons ru .nil)) hnew, rfl, ⟨_, x, hq, rfl, rfl, fun xs' h => by rw [I.list_inj h q1]; exact hx⟩, ?_, fun b hb => ?_⟩
  · exact ⟨⟨_, c1'⟩, b2.at fun o q => (sb.2 _ (Ne.symm hne)).trans q⟩
  · have hb' : b < s.heap.objs.size := by
     simp only [List.mem_cons, List.not_mem_nil, or_false] at hb
     rcases hb with rfl | rfl
     · exact elt
     · exact ilt
    rw [t8 (Nat.ne_of_lt hb')]
    exact (hf b hb).1
 done := by
  intro X hP hw hK hc i pins s σ H E I hf st hg
  subst hP hw hK
  obtain ⟨xs, q1, hend⟩ := hg
  obtain ⟨its, r1, c1, z1⟩ := I.list q1
  obtain ⟨⟨old, s1⟩, s2⟩ := st
  have hl := r1.length
  refine wpAny_pyNext_enum_end (I.ok.hd hc) s1 s2 c1.isList (by simp; lia) fun g b7 => ⟨rfl, bH6 (t' := s.toks) I hf fun b o hb q => ?_⟩
  simp only [List.mem_cons, List.not_mem_nil, or_false, not_or] at hb
  exact b7 b o hb.2 q
 self := fun _ _ _ _ _ st h => by obtain ⟨⟨old, s1⟩, _⟩ := st; exact wpAny_pyIter_enum s1 h
def dX4 (K : PySem.W.Frag) (ta : TA) : TI := fun σ H R => ta σ H fun vs H1 => ∃ a xs, vs = [.ref a] ∧ SqL K H1 a xs ∧ R (Ite K a) H1
section
variable {X : Cx} {Z : XC}
theorem dI3 {es : List Expr} {x1 : Nat} {tp : Pos} {a : Expr} {ta : TA} {p pos : Pos} (hg : Gl X "enumerate") (hm : X.mg "enumerate" = none) (ha : PA X [a] ta) (hs : starEach [a] X.env = [(false, eval a X.env)]) (hbt : bootBuiltins "enumerate" = some (.type "enumerate")) :
 PI X (.Tuple es x1 tp) (.Call (.Name "enumerate" p) [a] [] pos) (dX4 X.K ta) := by
 intro pins s σ H R I h
 refine Call_ (aO4 I hg hm hbt (PyProof.Rows.callWith_type1 (thn (ha pos pins s σ H _ I h) fun us s1 hE1 => hE1.elim fun vs H1 I1 r1 q1 => ?_) hs rfl))
 obtain ⟨l, xs, rfl, q1, q⟩ := q1
 obtain ⟨u1, rfl, ru1⟩ := aM5 r1
 cases ru1
 obtain ⟨its, rr, c1, z1⟩ := I1.list q1
 refine call_enumerate_list c1.isList fun g b1 b2 b3 b4 => wpAny_pyIter_enum b1 ?_
 have hne : @Ne Nat (s1.heap.objs.size + 1) s1.heap.objs.size := by lia
 refine ⟨s1.heap.objs.size + 1, [s1.heap.objs.size + 1, s1.heap.objs.size], _, Ite X.K l, H1, rfl, I1.kept (t' := s1.toks) b4, cO6 hne, ⟨⟨_, b1⟩, b2⟩, fun b hb => ?_, q⟩
 have hb' : s1.heap.objs.size ≤ b := by
  simp only [List.mem_cons, List.not_mem_nil, or_false] at hb
  rcases hb with rfl | rfl
  · exact Nat.le_succ _
  · exact Nat.le_refl _
 exact I1.fpOk hb' (I1.hok.fresh hb')
variable {tg e : Expr}
open Classical in
noncomputable def ckO (r : Nat) (o : DO) : DH → Bool := fun G => decide (G[r]? = some o)
def aH6 : D → M Src := fun x => match x with
 | .tup l => pure ⟨l, fun _ => true⟩
 | .ref r => do
   let o ← Q3 r
   let l ← listOf o
   pure ⟨l, ckO r o⟩
 | _ => M.stuck
def dW0 (c : Wc) (μ : List Addr) (H : Hp) (k : Bool) (a : Addr) (s : Src) : Prop := ∀ μ' G' H', Ext μ H μ' H' → t7 c μ' G' H' → s.ck G' = true → ∃ vs, Sq c.K k H' a vs ∧ o6 c μ' H' s.items vs
theorem aQ6 {α : Type} {c : Wc} {μ : List Addr} {H : Hp} {G : DH} {d : D} {v : V} {f : Src → M α} {K : α → List Addr → DH → Hp → Prop} (h : t7 c μ G H) (r : g8 c μ H d v) (p : d9 c Z μ H ((aH6 d >>= f) G) K) :
 ∃ s k a vs, v = .ref a ∧ Sq c.K k H a vs ∧ o6 c μ H s.items vs ∧ dW0 c μ H k a s ∧ s.ck G = true ∧ (∀ i, d = .ref i → k = false) ∧ d9 c Z μ H (f s G) K := by
 rcases d with _ | _ | _ | _ | l | i | _ | _ <;> try (exact p.elim; done)
 ·
   unfold g8 at r
   obtain ⟨a, vs, rfl, q, rl⟩ := r
   exact ⟨⟨l, fun _ => true⟩, true, a, vs, rfl, q, rl, fun μ' G' H' x h' _ => ⟨vs, x.sqT q, rl.mono x⟩, rfl, (fun i z => nomatch z), p⟩
 ·
   unfold g8 at r
   obtain ⟨a, m, rfl⟩ := r
   have p' : d9 c Z μ H ((Q3 i >>= fun o => (listOf o >>= fun l => (pure ⟨l, ckO i o⟩ : M Src)) >>= f) G) K := by rw [← M.bind_assoc]; exact p
   obtain ⟨o, g, p2⟩ := N8 p'
   have ro := h.obj i o a g m
   have ck : ckO i o G = true := by unfold ckO; simp [g]
   cases o with
   | lst l =>
     obtain ⟨vs, q, rl⟩ := ro
     refine ⟨⟨l, ckO i (.lst l)⟩, false, a, vs, rfl, SqL.of q, rl, fun μ' G' H' x h' hck => ?_, ck, (fun _ _ => rfl), p2⟩
     have g' : G'[i]? = some (.lst l) := by unfold ckO at hck; simpa using hck
     obtain ⟨vs', q', rl'⟩ := h'.obj i _ a g' (bU5 x.pre m)
     exact ⟨vs', SqL.of q', rl'⟩
   | rol l =>
     obtain ⟨vs, q, rl⟩ := ro
     refine ⟨⟨l, ckO i (.rol l)⟩, false, a, vs, rfl, q.sq, rl, fun μ' G' H' x h' hck => ?_, ck, (fun _ _ => rfl), p2⟩
     have g' : G'[i]? = some (.rol l) := by unfold ckO at hck; simpa using hck
     obtain ⟨vs', q', rl'⟩ := h'.obj i _ a g' (bU5 x.pre m)
     exact ⟨vs', q'.sq, rl'⟩
   | dct l => exact p2.elim
   | rod l => exact p2.elim
theorem cJ4 {c : Wc} {μ : List Addr} {H : Hp} {l : List D} {vs : List V} {i : Nat} {d : D} {x : V} (r : o6 c μ H l vs) (h : l[i]? = some d) (hx : vs[i]? = some x) : g8 c μ H d x := by
 obtain ⟨v, e, q⟩ := r.get h
 rw [hx] at e
 cases e
 exact q
noncomputable def K8 (lo : Int) (n : Nat) : List D := (List.range n).map fun (i : Nat) => D.int (lo + (i : Int))
def U6 (fs : DSt → M (List D)) : DSt → M Src := fun σ => do
 match ← fs σ with
 | [.int j] => if -(2 ^ 62) ≤ j ∧ j < 2 ^ 62 then pure ⟨K8 0 j.toNat, fun _ => true⟩ else M.stuck
 | _ => M.stuck
theorem cR3 {c : Wc} {μ : List Addr} {H : Hp} (lo : Int) (n : Nat) : ItD c μ H (Itr lo n) ⟨K8 lo n, fun _ => true⟩ := fun μ' G' H' x' h' _ i => by
 refine ⟨fun d hd => ?_, fun hi => ?_⟩
 · have hi : i < n := by have := lt_of_get hd; simpa [K8] using this
   have e : d = .int (lo + i) := by
    unfold K8 at hd
    rw [List.getElem?_map, List.getElem?_range hi] at hd
    simp at hd
    exact hd.symm
   subst e
   exact ⟨hi, fun x H2 ⟨e1, e2⟩ => by subst e1 e2; exact ⟨Ext.refl _ _, h', ofI⟩⟩
 · show n ≤ i
   simpa [K8] using hi
theorem dD8 {a : Expr} {fs : DSt → M (List D)} {p pos : Pos} (hg : Gl X "range") (hm : X.mg "range" = none) (ha : DA X Z [a] fs) (hs : starEach [a] X.env = [(false, eval a X.env)]) : DI X Z tg (.Call (.Name "range" p) [a] [] pos) (U6 fs) :=
 DI.of (cP3 hg hm ha.h hs) fun σ H R hE0 => hE0.elim fun dσ μ G s h p => ⟨dσ, μ, G, s, h, (d9.bind p).mono fun ds μ1 G1 H1 x1 h1 p1 vs rv => by
  rcases ds with _ | ⟨_ | _ | j | _ | _ | _ | _ | _, _ | ⟨_, _⟩⟩ <;> dsimp only at p1 <;> try exact p1.elim
  · split at p1
    · rename_i hj
      obtain ⟨v, t, rfl, r0, e⟩ := rv
      cases e
      exact ⟨j, by rw [aE5 r0], hj.1, hj.2, d9.ok p1 h1 _ (cR3 0 _)⟩
    · exact p1.elim⟩
def bI3 (fs : DSt → M (List D)) : DSt → M Src := fun σ => do
 match ← fs σ with
 | [a, b] => do
   let s1 ← aH6 a
   let s2 ← aH6 b
   pure ⟨(s1.items.zip s2.items).map fun p => .tup [p.1, p.2], fun G => s1.ck G && s2.ck G⟩
 | _ => M.stuck
def aY4 (fs : DSt → M (List D)) : DSt → M Src := fun σ => do
 match ← fs σ with
 | [.ref r] => do
   let s ← aH6 (.ref r)
   pure ⟨s.items.zipIdx.map fun p => .tup [.int ((p.2 : Nat) : Int), p.1], s.ck⟩
 | _ => M.stuck
theorem cJ7 {c : Wc} {μ : List Addr} {H : Hp} {G : DH} {q : Addr} {ds : List D} {vs : List V} (h : t7 c μ G H) (hq : H q = none) (r : o6 c μ H ds vs) : Ext μ H μ (upd H q (.tup vs)) ∧ t7 c μ G (upd H q (.tup vs)) ∧ g8 c μ (upd H q (.tup vs)) (.tup ds) (.ref q) := by
 have k : Ext μ H μ (upd H q (.tup vs)) := Ext.lay hq _
 refine ⟨k, h.same k fun a o e n => by rw [t8 (J0 e hq)]; exact e, ?_⟩
 unfold g8
 exact ⟨q, vs, rfl, SqT.of M8, r.mono k⟩
theorem dN3 {es : List Expr} {x1 : Nat} {tp : Pos} {a b : Expr} {fs : DSt → M (List D)} {p pos : Pos} (hg : Gl X "zip") (hm : X.mg "zip" = none) (ha : DA X Z [a, b] fs) (hs : starEach [a, b] X.env = [(false, eval a X.env), (false, eval b X.env)]) (hs2 : starEach [b] X.env = [(false, eval b X.env)]) (hbt : bootBuiltins "zip" = some (.type "zip")) :
 DI X Z (.Tuple es x1 tp) (.Call (.Name "zip" p) [a, b] [] pos) (bI3 fs) :=
 DI.of (dS0 hg hm ha.h hs hs2 hbt) fun σ H R hE0 => hE0.elim fun dσ μ G s h p => ⟨dσ, μ, G, s, h, (d9.bind p).mono fun ds μ1 G1 H1 x1 h1 p1 vs rv => by
  rcases ds with _ | ⟨d1, _ | ⟨d2, _ | ⟨_, _⟩⟩⟩ <;> dsimp only at p1 <;> try exact p1.elim
  · obtain ⟨v1, t1, rfl, r1, v2, t2, rfl, r2, e⟩ := rv
    cases e
    obtain ⟨s1, k1, a1, w1, rfl, q1, l1, is1, ck1, _, p2⟩ := aQ6 h1 r1 p1
    obtain ⟨s2, k2, a2, w2, rfl, q2, l2, is2, ck2, _, p3⟩ := aQ6 h1 r2 p2
    refine ⟨k1, k2, a1, a2, w1, w2, rfl, q1, q2, d9.ok p3 h1 _ fun μ' G' H' x' h' ck' i => ?_⟩
    have ck'' : s1.ck G' = true ∧ s2.ck G' = true := by simpa using ck'
    obtain ⟨u1, q1', l1'⟩ := is1 μ' G' H' x' h' ck''.1
    obtain ⟨u2, q2', l2'⟩ := is2 μ' G' H' x' h' ck''.2
    refine ⟨fun d hd => ?_, fun hi => ?_⟩
    · rw [List.getElem?_map] at hd
      rcases hz : (s1.items.zip s2.items)[i]? with _ | pr
      · rw [hz] at hd; cases hd
      ·
        rw [hz] at hd
        obtain ⟨e1, e2⟩ := pr
        have hd' : d = .tup [e1, e2] := by simpa using hd.symm
        subst hd'
        rw [List.getElem?_zip_eq_some] at hz
        obtain ⟨y1, hy1, ry1⟩ := l1'.get hz.1
        obtain ⟨y2, hy2, ry2⟩ := l2'.get hz.2
        refine ⟨⟨u1, u2, y1, y2, q1', q2', hy1, hy2⟩, fun x H2 ⟨q, z1, z2, hq, ex, eH, f1, f2⟩ => ?_⟩
        subst ex eH
        have g1 := f1 u1 q1'
        have g2 := f2 u2 q2'
        rw [hy1] at g1
        rw [hy2] at g2
        cases g1
        cases g2
        exact cJ7 h' hq ⟨y1, _, rfl, ry1, y2, _, rfl, ry2, rfl⟩
    · refine ⟨u1, u2, q1', q2', ?_⟩
      rw [← l1'.length, ← l2'.length]
      simp at hi
      lia⟩
theorem dE2 {es : List Expr} {x1 : Nat} {tp : Pos} {a : Expr} {fs : DSt → M (List D)} {p pos : Pos} (hg : Gl X "enumerate") (hm : X.mg "enumerate" = none) (ha : DA X Z [a] fs) (hs : starEach [a] X.env = [(false, eval a X.env)]) (hbt : bootBuiltins "enumerate" = some (.type "enumerate")) :
 DI X Z (.Tuple es x1 tp) (.Call (.Name "enumerate" p) [a] [] pos) (aY4 fs) :=
 DI.of (dI3 hg hm ha.h hs hbt) fun σ H R hE0 => hE0.elim fun dσ μ G s h p => ⟨dσ, μ, G, s, h, (d9.bind p).mono fun ds μ1 G1 H1 x1 h1 p1 vs rv => by
  rcases ds with _ | ⟨_ | _ | _ | _ | _ | r | _ | _, _ | ⟨_, _⟩⟩ <;> dsimp only at p1 <;> try exact p1.elim
  · obtain ⟨v1, t1, rfl, r1, e⟩ := rv
    cases e
    obtain ⟨s1, k1, a1, w1, rfl, q1, l1, is1, ck1, hk, p2⟩ := aQ6 h1 r1 p1
    have hk := hk r rfl
    subst hk
    refine ⟨a1, w1, rfl, q1, d9.ok p2 h1 _ fun μ' G' H' x' h' ck' i => ?_⟩
    obtain ⟨u1, q1', l1'⟩ := is1 μ' G' H' x' h' ck'
    refine ⟨fun d hd => ?_, fun hi => ?_⟩
    · rw [List.getElem?_map, List.getElem?_zipIdx] at hd
      rcases hz : s1.items[i]? with _ | e1
      · rw [hz] at hd; cases hd
      ·
        rw [hz] at hd
        have hd' : d = .tup [.int ((i : Nat) : Int), e1] := by simpa using hd.symm
        subst hd'
        obtain ⟨y1, hy1, ry1⟩ := l1'.get hz
        refine ⟨⟨u1, y1, q1', hy1⟩, fun x H2 ⟨q, z1, hq, ex, eH, f1⟩ => ?_⟩
        subst ex eH
        have g1 := f1 u1 q1'
        rw [hy1] at g1
        cases g1
        exact cJ7 h' hq ⟨_, _, rfl, ofI, y1, _, rfl, ry1, rfl⟩
    · refine ⟨u1, q1', ?_⟩
      rw [← l1'.length]
      simpa using hi⟩
end
def aT8 : List D → M D := fun ds => match ds with
 | [.str z] => if z.length ≤ sizeLine then pure (.int z.length) else M.stuck
 | [.tup l] => pure (.int l.length)
 | [.ref r] => do
   match ← Q3 r with
   | .lst l => pure (.int l.length)
   | .rol l => pure (.int l.length)
   | .dct l => pure (.int l.length)
   | .rod _ => M.stuck
 | _ => M.stuck
def aB9 : List D → M D := fun ds => match ds with
 | [.tup l] => pure (.tup l)
 | [.ref r] => do
   let l ← Q3 r >>= listOf
   pure (.tup l)
 | _ => M.stuck
def cG9 : List D → M D := fun ds => match ds with
 | [.tup l] => N7 (.lst l)
 | [.ref r] => do
   let l ← Q3 r >>= listOf
   N7 (.lst l)
 | _ => M.stuck
def cN0 : List D → M D := fun ds => match ds with
 | [.int i, .int j] => pure (.int (if j < i then j else i))
 | _ => M.stuck
noncomputable def aN8 : List D → Option (List Int)
 | [] => some []
 | .int i :: r => (aN8 r).map (i :: ·)
 | _ => none
noncomputable def aX8 : List D → Option (List Bool)
 | [] => some []
 | .bl b :: r => (aX8 r).map (b :: ·)
 | _ => none
def cM6 : List D → M D := fun ds => match ds with
 | [.ref r] => do
   let l ← Q3 r >>= listOf
   let ns ← aL8 (aN8 l)
   pure (.int ns.sum)
 | _ => M.stuck
def aK1 : List D → M D := fun ds => match ds with
 | [.ref r] => do
   let l ← Q3 r >>= listOf
   let bs ← aL8 (aX8 l)
   pure (.bl (bs.all id))
 | _ => M.stuck
def cM8 : List D → M D := fun ds => match ds with
 | [.ref r] => do
   let l ← Q3 r >>= listOf
   let bs ← aL8 (aX8 l)
   pure (.bl (bs.any id))
 | _ => M.stuck
theorem cE8 {α : Type} {F : List D → M α} {c : Wc} {Z : XC} {μ : List Addr} {H : Hp} {G : DH} {K : α → List Addr → DH → Hp → Prop} {ds : List D} (p : d9 c Z μ H (F ds G) K) (h0 : F [] = M.stuck) (h2 : ∀ a b t, F (a :: b :: t) = M.stuck) (hn : F [.non] = M.stuck) (hb : ∀ b, F [.bl b] = M.stuck) (hi : ∀ b, F [.int b] = M.stuck) (hs : ∀ b, F [.str b] = M.stuck) (ht : ∀ b, F [.tup b] = M.stuck) (hf : ∀ b, F [.fn b] = M.stuck) (hy : ∀ b, F [.ty b] = M.stuck) : ∃ r, ds = [.ref r] := by
 rcases ds with _ | ⟨d, _ | ⟨_, _⟩⟩
 · rw [h0] at p; exact p.elim
 · rcases d with _ | b | b | b | b | b | b | b
   · rw [hn] at p; exact p.elim
   · rw [hb] at p; exact p.elim
   · rw [hi] at p; exact p.elim
   · rw [hs] at p; exact p.elim
   · rw [ht] at p; exact p.elim
   · exact ⟨b, rfl⟩
   · rw [hf] at p; exact p.elim
   · rw [hy] at p; exact p.elim
 · rw [h2] at p; exact p.elim
section
variable {X : Cx} {Z : XC} {c : Wc} {μ : List Addr} {H : Hp} {G : DH}
theorem bA0 {d : D} {vs : List V} (r : o6 c μ H [d] vs) : ∃ v, vs = [v] ∧ g8 c μ H d v := by
 obtain ⟨v, t, rfl, q, e⟩ := r
 cases e
 exact ⟨v, rfl, q⟩
theorem eD8 {d e : D} {vs : List V} (r : o6 c μ H [d, e] vs) : ∃ v w, vs = [v, w] ∧ g8 c μ H d v ∧ g8 c μ H e w := by
 obtain ⟨v, t, rfl, q, v', t', rfl, q', z⟩ := r
 cases z
 exact ⟨v, v', rfl, q, q'⟩
theorem dQ5 : Z6 X Z (.builtin "len") aT8 := Z6.of (Z8.or bU4 (Z8.or bQ2 cR6)) fun xs H Q hE0 => hE0.elim fun ds μ G rl hr p => by
 rcases ds with _ | ⟨_ | _ | _ | z | l | i | _ | _, _ | ⟨_, _⟩⟩ <;> try exact p.elim
 all_goals (delta aT8 at p; dsimp only at p)
 · obtain ⟨v, rfl, r⟩ := bA0 rl
   split at p
   · rename_i hz
     exact .inr (.inl ⟨z, by rw [bE0 r], hz, d9.ok p hr _ ofI⟩)
   · exact p.elim
 · obtain ⟨v, rfl, r⟩ := bA0 rl
   unfold g8 at r
   obtain ⟨a, vs, rfl, q, rl'⟩ := r
   exact .inl ⟨a, vs, rfl, .inr q, by rw [← rl'.length]; exact d9.ok p hr _ ofI⟩
 · obtain ⟨v, rfl, r⟩ := bA0 rl
   unfold g8 at r
   obtain ⟨a, m, rfl⟩ := r
   obtain ⟨o, g, p1⟩ := N8 p
   have ro := hr.obj i o a g m
   rcases o with l | l | l | l
   · obtain ⟨vs, q, rl'⟩ := ro; exact .inl ⟨a, vs, rfl, .inl (SqL.of q), by rw [← rl'.length]; exact d9.ok p1 hr _ ofI⟩
   · obtain ⟨vs, q, rl'⟩ := ro; exact .inl ⟨a, vs, rfl, .inl q.sq, by rw [← rl'.length]; exact d9.ok p1 hr _ ofI⟩
   · obtain ⟨kvs, q, rk⟩ := ro; exact .inr (.inr ⟨a, kvs, rfl, q, by rw [← rk.length]; exact d9.ok p1 hr _ ofI⟩)
   · exact p1.elim
theorem X4 {α : Type} {r : Nat} {v : V} {f : List D → M α} {K : α → List Addr → DH → Hp → Prop} (h : t7 c μ G H) (rv : g8 c μ H (.ref r) v) (p : d9 c Z μ H (((Q3 r >>= listOf) >>= f) G) K) :
 ∃ l a vs, v = .ref a ∧ o6 c μ H l vs ∧ SqL c.K H a vs ∧ d9 c Z μ H (f l G) K := by
 obtain ⟨l, a, vs, rfl, rl, p2, hq⟩ := aZ9 (d := .ref r) (f := f) h rv p
 refine ⟨l, a, vs, rfl, rl, ?_, p2⟩
 rcases hq with ⟨z, _⟩ | ⟨_, _, _, ⟨_, q⟩ | ⟨_, q⟩⟩
 · cases z
 · exact SqL.of q
 · exact q.sq
theorem cU5 : Z6 X Z (.type "tuple") aB9 := Z6.of bK2 fun xs H Q hE0 => hE0.elim fun ds μ G rl hr p => by
 rcases ds with _ | ⟨_ | _ | _ | _ | l | i | _ | _, _ | ⟨_, _⟩⟩ <;> try exact p.elim
 all_goals (delta aB9 at p; dsimp only at p)
 · obtain ⟨v, rfl, r⟩ := bA0 rl
   have r' := r
   unfold g8 at r'
   obtain ⟨a, vs, rfl, q, rl'⟩ := r'
   exact ⟨a, vs, rfl, .inr ⟨q, d9.ok p hr _ r⟩⟩
 · obtain ⟨v, rfl, r⟩ := bA0 rl
   obtain ⟨l, a, vs, rfl, rl', q, p2⟩ := X4 hr r p
   exact ⟨a, vs, rfl, .inl ⟨q, fun l' hl => aV1 hr rl' p2 l' hl⟩⟩
theorem dC8 : Z6 X Z (.type "list") cG9 := Z6.of bR7 fun xs H Q hE0 => hE0.elim fun ds μ G rl hr p => by
 rcases ds with _ | ⟨_ | _ | _ | _ | l | i | _ | _, _ | ⟨_, _⟩⟩ <;> try exact p.elim
 all_goals (delta cG9 at p; dsimp only at p)
 · obtain ⟨v, rfl, r⟩ := bA0 rl
   unfold g8 at r
   obtain ⟨a, vs, rfl, q, rl'⟩ := r
   exact ⟨a, vs, rfl, .inr q, fun l' hl => aB1 hr rl' p l' hl⟩
 · obtain ⟨v, rfl, r⟩ := bA0 rl
   obtain ⟨l, a, vs, rfl, rl', q, p2⟩ := X4 hr r p
   exact ⟨a, vs, rfl, .inl q, fun l' hl => aB1 hr rl' p2 l' hl⟩
theorem dN0 (hc : X.calm = true) : Z6 X Z (.builtin "min") cN0 := Z6.of (cL9 hc) fun xs H Q hE0 => hE0.elim fun ds μ G rl hr p => by
 delta cN0 at p
 rcases ds with _ | ⟨_ | _ | i | _ | _ | _ | _ | _, t⟩ <;> try exact p.elim
 rcases t with _ | ⟨_ | _ | j | _ | _ | _ | _ | _, _ | ⟨_, _⟩⟩ <;> try exact p.elim
 obtain ⟨v, w, rfl, r, r'⟩ := eD8 rl
 exact ⟨_, _, by rw [aE5 r, aE5 r'], d9.ok p hr _ ofI⟩
theorem bN7 : ∀ {l : List D} {ns : List Int} {vs : List V} {us : List Value}, aN8 l = some ns → o6 c μ H l vs → w6 vs us → us.length = ns.length ∧ ∀ (i : Nat) (u : Value), us[i]? = some u → ∃ t, u = Value.int (ns.getD i 0) t
 | [], _, _, _, e, r, q => by cases e; cases r; cases q; exact ⟨rfl, fun i u h => by simp at h⟩
 | d :: ds, ns, _, _, e, r, q => by
   obtain ⟨v, t, rfl, r0, rt⟩ := r
   cases q with
   | cons q0 qt =>
     rcases d with _ | _ | n | _ | _ | _ | _ | _ <;> try (cases e; done)
     ·
       replace e : (aN8 ds).map (n :: ·) = some ns := e
       rcases h : aN8 ds with _ | ms
       · rw [h] at e; cases e
       ·
         rw [h] at e
         cases e
         obtain ⟨h1, h2⟩ := bN7 h rt qt
         refine ⟨by simp [h1], fun i u hu => ?_⟩
         cases i with
         | zero =>
           simp at hu; subst hu
           rw [aE5 r0] at q0
           exact q0
         | succ i => simpa using h2 i u (by simpa using hu)
theorem bG3 : ∀ {l : List D} {bs : List Bool} {vs : List V} {us : List Value}, aX8 l = some bs → o6 c μ H l vs → w6 vs us → us.length = bs.length ∧ ∀ (i : Nat) (u : Value), us[i]? = some u → u = Value.bool (bs.getD i false)
 | [], _, _, _, e, r, q => by cases e; cases r; cases q; exact ⟨rfl, fun i u h => by simp at h⟩
 | d :: ds, ns, _, _, e, r, q => by
   obtain ⟨v, t, rfl, r0, rt⟩ := r
   cases q with
   | cons q0 qt =>
     rcases d with _ | n | _ | _ | _ | _ | _ | _ <;> try (cases e; done)
     ·
       replace e : (aX8 ds).map (n :: ·) = some ns := e
       rcases h : aX8 ds with _ | ms
       · rw [h] at e; cases e
       ·
         rw [h] at e
         cases e
         obtain ⟨h1, h2⟩ := bG3 h rt qt
         refine ⟨by simp [h1], fun i u hu => ?_⟩
         cases i with
         | zero =>
           simp at hu; subst hu
           rw [bU3 r0] at q0
           exact q0
         | succ i => simpa using h2 i u (by simpa using hu)
theorem cR9 (bs : List Bool) : ((List.range bs.length).all fun i => bs.getD i false) = bs.all id := by
 induction bs with
 | nil => rfl
 | cons b t ih => rw [List.length_cons, List.range_succ_eq_map, List.all_cons, List.all_map, List.all_cons]; simp [Function.comp_def]; rw [← ih]; simp
theorem cQ8 (bs : List Bool) : ((List.range bs.length).any fun i => bs.getD i false) = bs.any id := by
 induction bs with
 | nil => rfl
 | cons b t ih => rw [List.length_cons, List.range_succ_eq_map, List.any_cons, List.any_map, List.any_cons]; simp [Function.comp_def]; rw [← ih]; simp
theorem aY7 {pins : PNS} {σ : St} {s : Shared} {a : Addr} {its : List Value} (hc : X.calm = true) (I : Inv X pins σ H s) (hl : s.heap.IsList a its.toArray) {Q : VSP} {E : VSP}
 (h : Walks X.prog X.w X.A.in1 s.heap.objs.size [s.heap.objs.size, a] [s.heap.objs.size] its.toArray.size (fun i v => its.toArray[i]? = some v) (fun i h => h.IsListIter s.heap.objs.size a i ∧ h.IsList a its.toArray) →
   ∀ h2 : Heap, (h2.IsListIter s.heap.objs.size a 0 ∧ h2.IsList a its.toArray) → (∀ b ∈ [s.heap.objs.size, a], b < h2.objs.size) → (∀ h' tk, (∀ b o, b ∉ [s.heap.objs.size] → h2.get? b = some o → h'.get? b = some o) → Inv X pins σ H { s with heap := h', toks := tk }) → Q (.ref s.heap.objs.size) { s with heap := h2 }) :
 wpAny (model X.prog X.w) X.A.in1 (pyIter (.ref a)) Q E s := by
 have hlt : a < s.heap.objs.size := by obtain ⟨_, e, _⟩ := hl; exact Heap.lt_size e
 refine wpAny_pyIter_list hl ?_
 have hh : X.A.in1.handled = none := I.ok.hd hc
 refine h (Walks.list hh s.heap.objs.size a (Nat.ne_of_lt hlt) its.toArray) _ ⟨⟨_, Heap.get?_push_size _ rfl, rfl, rfl⟩, hl.push _⟩ (fun b hb => ?_) fun h' tk k => ?_
 · rw [Heap.size_push]
   simp only [List.mem_cons, List.not_mem_nil, or_false] at hb
   rcases hb with rfl | rfl
   · exact Nat.lt_succ_self _
   · exact Nat.lt_succ_of_lt hlt
 · exact I.kept fun b o e => k b o (by simp only [List.mem_singleton]; exact Nat.ne_of_lt (Heap.lt_size e)) (Heap.get?_push_of_some _ e)
theorem dR9 (hc : X.calm = true) : Z6 X Z (.builtin "sum") cM6 := ⟨by
 intro pins s σ H xs us Q I r hE0
 obtain ⟨ds, μ, G, rl, hr, p⟩ := hE0
 obtain ⟨i, rfl⟩ := cE8 (F := cM6) p rfl (fun a _ _ => by cases a <;> rfl) rfl (fun _ => rfl) (fun _ => rfl) (fun _ => rfl) (fun _ => rfl) (fun _ => rfl) fun _ => rfl
 · obtain ⟨v, rfl, rv⟩ := bA0 rl
   obtain ⟨u, rfl, ru⟩ := aM5 r
   obtain ⟨l, a, vs, rfl, rl', q, p2⟩ := X4 hr rv p
   cases ru
   obtain ⟨ns, en, p3⟩ := aE8 p2
   obtain ⟨its, rr, pl, hz⟩ := I.list q
   obtain ⟨h1, h2⟩ := bN7 en rl' rr
   refine call_sum_walkG (aY7 hc I pl.isList fun W g hg hb hk => ⟨_, _, _, _, _, _, fun i => ns.getD i 0, rfl, W, hg, hb, fun i v hv => h2 i v (by simpa using hv), fun h' tk t' k => ?_⟩)
   refine ⟨.int ns.sum, H, hk h' tk k, ⟨t', ?_⟩, d9.ok p3 hr _ ofI⟩
   have e := preSum_getD ns its.toArray.size
   rw [e, List.take_of_length_le (by rw [List.size_toArray]; lia)]⟩
theorem dO2 (hc : X.calm = true) : Z6 X Z (.builtin "all") aK1 := ⟨by
 intro pins s σ H xs us Q I r hE0
 obtain ⟨ds, μ, G, rl, hr, p⟩ := hE0
 obtain ⟨i, rfl⟩ := cE8 (F := aK1) p rfl (fun a _ _ => by cases a <;> rfl) rfl (fun _ => rfl) (fun _ => rfl) (fun _ => rfl) (fun _ => rfl) (fun _ => rfl) fun _ => rfl
 · obtain ⟨v, rfl, rv⟩ := bA0 rl
   obtain ⟨u, rfl, ru⟩ := aM5 r
   obtain ⟨l, a, vs, rfl, rl', q, p2⟩ := X4 hr rv p
   cases ru
   obtain ⟨bs, en, p3⟩ := aE8 p2
   obtain ⟨its, rr, pl, hz⟩ := I.list q
   obtain ⟨h1, h2⟩ := bG3 en rl' rr
   refine call_all_walk (aY7 hc I pl.isList fun W g hg hb hk => ⟨_, _, _, _, _, _, fun i => bs.getD i false, rfl, W, hg, fun i v s' Q' E' hv hq => ?_, fun h' tk k => ?_⟩)
   · rw [h2 i v (by simpa using hv)]
     exact wpAny_truthy_bool hq
   · refine ⟨.bl (bs.all id), H, hk h' tk k, ?_, d9.ok p3 hr _ ofB⟩
     have e : its.toArray.size = bs.length := by rw [List.size_toArray]; exact h1
     rw [e, cR9]; rfl⟩
theorem dQ3 (hc : X.calm = true) : Z6 X Z (.builtin "any") cM8 := ⟨by
 intro pins s σ H xs us Q I r hE0
 obtain ⟨ds, μ, G, rl, hr, p⟩ := hE0
 obtain ⟨i, rfl⟩ := cE8 (F := cM8) p rfl (fun a _ _ => by cases a <;> rfl) rfl (fun _ => rfl) (fun _ => rfl) (fun _ => rfl) (fun _ => rfl) (fun _ => rfl) fun _ => rfl
 · obtain ⟨v, rfl, rv⟩ := bA0 rl
   obtain ⟨u, rfl, ru⟩ := aM5 r
   obtain ⟨l, a, vs, rfl, rl', q, p2⟩ := X4 hr rv p
   cases ru
   obtain ⟨bs, en, p3⟩ := aE8 p2
   obtain ⟨its, rr, pl, hz⟩ := I.list q
   obtain ⟨h1, h2⟩ := bG3 en rl' rr
   refine call_any_walk (aY7 hc I pl.isList fun W g hg hb hk => ⟨_, _, _, _, _, _, fun i => bs.getD i false, rfl, W, hg, fun i v s' Q' E' hv hq => ?_, fun h' tk k => ?_⟩)
   · rw [h2 i v (by simpa using hv)]
     exact wpAny_truthy_bool hq
   · refine ⟨.bl (bs.any id), H, hk h' tk k, ?_, d9.ok p3 hr _ ofB⟩
     have e : its.toArray.size = bs.length := by rw [List.size_toArray]; exact h1
     rw [e, cQ8]; rfl⟩
theorem dV9 {x : Str} {n : String} {pos : Pos} (hg : Gl X x) (hm : X.mg x = none) (hv : bootBuiltins x = some (.type n)) (hn : x ≠ "__name__") (hd : (x == ("__debug__" : Str)) = false) : DE X Z (.Name x pos) (cE (.ty n)) :=
 cS6 (v := .ty n) (dE7 hg hm hv rfl hn hd) fun _ _ => by unfold g8; rfl
end
def aC5 : D → M Bool := fun x => match x with
 | .non => pure false
 | .bl b => pure b
 | .int i => pure (i != 0)
 | .str y => if y.length ≤ sizeLine then pure ((y.length : Int) != 0) else M.stuck
 | .tup l => pure (!l.isEmpty)
 | .ref r => do
   match ← Q3 r with
   | .lst l => pure (!l.isEmpty)
   | .rol l => pure (!l.isEmpty)
   | .dct l => pure (!l.isEmpty)
   | .rod _ => M.stuck
 | _ => M.stuck
def v7 (f : Fe) : DSt → M Bool := fun σ => do aC5 (← f σ)
section
variable {X : Cx} {Z : XC} {a b c e : Expr} {fa fb fc : Fe} {pos : Pos}
theorem aC0 {cc : Wc} {μ : List Addr} {H : Hp} {l : List D} {vs : List V} (r : o6 cc μ H l vs) : vs.isEmpty = l.isEmpty := by
 cases l with
 | nil => cases r; rfl
 | cons _ _ => obtain ⟨_, _, rfl, _⟩ := r; rfl
theorem bG7 {cc : Wc} {μ : List Addr} {H : Hp} {l : List (Key × D)} {vs : List (Key × V)} (r : aD6 cc μ H l vs) : vs.isEmpty = l.isEmpty := by
 cases l with
 | nil => cases r; rfl
 | cons _ _ => obtain ⟨_, _, rfl, _⟩ := r; rfl
theorem dt_truth (ha : DE X Z a fa) (he : ∀ whole, isTrue a X.env whole = (do let v ← whole; standAt a.pos; holding [v] (truthy v))) : DT X Z a (v7 fa) :=
 DT.of (cU9 ha.h he) fun σ H Q hE0 => hE0.elim fun dσ μ G s h p => ⟨dσ, μ, G, s, h, (d9.bind p).mono fun d μ1 G1 H1 x1 h1 p1 v rv => by
  cases d with
  | non => rw [cY9 rv]; exact ⟨false, rfl, d9.ok p1 h1⟩
  | bl b => rw [bU3 rv]; exact ⟨b, rfl, d9.ok p1 h1⟩
  | int b => rw [aE5 rv]; exact ⟨_, rfl, d9.ok p1 h1⟩
  | str y =>
    rw [bE0 rv]
    unfold aC5 at p1
    dsimp only at p1
    split at p1
    · rename_i hz; exact ⟨_, ⟨hz, rfl⟩, d9.ok p1 h1⟩
    · exact p1.elim
  | tup l =>
    unfold g8 at rv
    obtain ⟨a, vs, rfl, q, rl⟩ := rv
    exact ⟨!vs.isEmpty, .inr (.inl ⟨vs, q, rfl⟩), by rw [aC0 rl]; exact d9.ok p1 h1⟩
  | ref r =>
    unfold g8 at rv
    obtain ⟨a, m, rfl⟩ := rv
    obtain ⟨o, g, p2⟩ := N8 p1
    have ro := h1.obj r o a g m
    cases o with
    | lst l => obtain ⟨vs, q, rl⟩ := ro; exact ⟨!vs.isEmpty, .inl ⟨vs, SqL.of q, rfl⟩, by rw [aC0 rl]; exact d9.ok p2 h1⟩
    | rol l => obtain ⟨vs, q, rl⟩ := ro; exact ⟨!vs.isEmpty, .inl ⟨vs, q.sq, rfl⟩, by rw [aC0 rl]; exact d9.ok p2 h1⟩
    | dct l => obtain ⟨vs, q, rl⟩ := ro; exact ⟨!vs.isEmpty, .inr (.inr ⟨vs, q, rfl⟩), by rw [bG7 rl]; exact d9.ok p2 h1⟩
    | rod l => exact p2.elim
  | _ => exact p1.elim⟩
def bP8 (o o' : D → D → M D) (fa fb fc : Fe) : Fe := fun σ => do
 let x ← fa σ
 let y ← fb σ
 if ← dA7 (← o x y) then o' y (← fc σ) else pure (.bl false)
theorem de_chain {op op' : CmpOp} {o o' : D → D → M D} (ho : OpD X Z (compareOp op) o) (ho' : OpD X Z (compareOp op') o') (ha : DE X Z a fa) (hb : DE X Z b fb) (hc : DE X Z c fc)
 (hm : lastMarks [op, op'] [b, c] = false) : DE X Z (.Compare a [op, op'] [b, c] pos) (bP8 o o' fa fb fc) :=
 DE.of (cU2 ho.h ho'.h ha.h hb.h hc.h hm) fun σ H Q hE0 => hE0.elim fun dσ μ G s h p => ⟨dσ, μ, G, s, h, (d9.bind p).mono fun x μ1 G1 H1 x1 h1 p1 v rv =>
  ⟨dσ, μ1, G1, s.mono x1, h1, (d9.bind p1).mono fun y μ2 G2 H2 x2 h2 p2 u ru => ⟨x, y, μ2, G2, rv.mono x2, ru, h2, (d9.bind p2).mono fun z μ3 G3 H3 x3 h3 p3 w rw' => by
   obtain ⟨k, rfl, p4⟩ := bM1 p3
   refine ⟨k, bU3 rw', ?_⟩
   cases k with
   | true => exact ⟨dσ, μ3, G3, s.mono (x1.trans (x2.trans x3)), h3, (d9.bind p4).mono fun t μ4 G4 H4 x4 h4 p5 q rq => ⟨y, t, μ4, G4, ru.mono (x3.trans x4), rq, h4, p5⟩⟩
   | false => exact d9.ok p4 h3 _ ofB⟩⟩⟩
end
noncomputable def bS6 (osc scope : Scope) (N XN : List Str) (caps : List (Option Nat)) : Bool :=
 decide (scope.kind = .function) && scope.names.all (fun y => decide (y.2 ≠ .cell)) && scope.names.all (fun y => decide (y.2 = .local → scope.names.lookup y.1 = some .local)) &&
 scope.names.all (fun y => decide (y.2 = .free → (osc.names.lookup y.1 = some .cell ∨ osc.names.lookup y.1 = some .free))) && scope.names.all (fun y => decide (y.2 = .free → scope.names.lookup y.1 = some .free)) &&
 decide (caps.length = N.length) && (List.range caps.length).all fun i => match caps[i]? with
  | some (some j) => match N[i]?, XN[j]? with
    | some x, some y => decide (x = y) && decide ((x, NameKind.free) ∈ scope.names)
    | _, _ => false
  | _ => true
theorem aF2.of {X : Cx} {osc scope : Scope} {N XN : List Str} {caps : List (Option Nat)} (h : bS6 osc scope N XN caps = true) (hs : X.env.scope = osc) (hN : X.N = XN) : aF2 X scope N caps := by
 unfold bS6 at h
 simp only [Bool.and_eq_true, decide_eq_true_eq, List.all_eq_true] at h
 obtain ⟨⟨⟨⟨⟨⟨h1, h2⟩, h3⟩, h4⟩, h5⟩, h6⟩, h7⟩ := h
 refine ⟨h1, h2, h3, fun y hy e => ?_, h5, h6, fun i j e => ?_⟩
 · have := h4 y hy e
   show X.env.scope.names.lookup y.1 = _ ∨ X.env.scope.names.lookup y.1 = _
   rw [hs]; exact this
 · have hi : i ∈ List.range caps.length := by rw [List.mem_range]; exact lt_of_get e
   have q := h7 i hi
   simp only [e] at q
   rw [hN]
   split at q
   · rename_i x y e1 e2
     simp only [Bool.and_eq_true, decide_eq_true_eq] at q
     exact ⟨x, e1, by rw [e2, q.1], q.2⟩
   · cases q
def J2 (m : Nat) (fb : Fs) : List D → M D := fun ds => do
 match ← fb (ds.map some ++ List.replicate (m - ds.length) none) with
 | .nx _ => pure .non
 | .rt d => pure d
 | _ => M.stuck
structure FF (K : PySem.W.Frag) (mg : Str → Option Value) (x : Str) (st : Stmt) (ps : List Str) (f : Addr) (fd : FuncData) : Prop where
 F : Fun K x x st f fd
 b : aV4 K fd ps []
 m : mg x = some (.ref f)
theorem cP6 {c : Wc} {μ : List Addr} {H : Hp} {N : List Str} {ds : List D} {vs : List V} (r : o6 c μ H ds vs) : J8 c μ H (ds.map some ++ List.replicate (N.length - ds.length) none) (L2.start N vs) := by
 unfold L2.start
 rw [r.length]
 refine ⟨by simp [r.length], fun i d e => ?_⟩
 by_cases hi : i < ds.length
 · rw [List.getElem?_append_left (by simpa using hi), List.getElem?_map] at e
   have hd : ds[i]? = some d := by
    cases h : ds[i]? with
    | none => rw [h] at e; cases e
    | some d' => rw [h] at e; simpa using e
   obtain ⟨v, hv, rv⟩ := r.get hd
   refine ⟨v, ?_, rv⟩
   rw [List.getElem?_append_left (by simp; rw [← r.length]; exact hi), List.getElem?_map, hv]
   rfl
 · rw [List.getElem?_append_right (by simpa using hi), List.getElem?_replicate] at e
   split at e <;> cases e
theorem R6 {P : Program} {w : World} {K : PySem.W.Frag} {mg : Str → Option Value} {base : Heap} {x : Str} {st : Stmt} {f : Addr} {fd : FuncData} {N ps : List Str} {k n m : Nat} {fb : Fs} (F : FF K mg x st ps f fd) (S : m8 N ps (j6 st)) (hn : ps.length = n) (hm : N.length = m)
 (hbody : ∀ (cdv : Value) (A : Around) (outer : List Env) (s : Shared) (H : Hp) (E : XK), aH0 k (A.deeper (envOfC x (j6 st) s.heap.objs.size f cdv)) → DB (cF5 CX0 P w K mg base N x (j6 st) f cdv A outer s H E).nox ZF (T9 st) fb) :
 J9 P w K mg base CX0 (k + 1) f fd ps (spD ⟨K, mg⟩ n (J2 m fb)) := by
 refine F.F.ok S (fun vs H Q E h => by rw [hn]; exact h.1) fun cdv A outer s H vs Q E hr h => ⟨_, (hbody cdv A outer s H E hr).h, ?_⟩
 obtain ⟨hl, ds, μ, G, rl, hG, p⟩ := h
 subst hm
 refine ⟨_, μ, G, cP6 rl, hG, (d9.bind p).mono fun fl μ1 G1 H1 x1 h1 p1 => ?_⟩
 cases fl with
 | nx dσ => exact fun σ _ => d9.ok p1 h1 _ ofN
 | rt d => exact fun v rv => d9.ok p1 h1 v rv
 | bk _ => exact p1.elim
 | ct _ => exact p1.elim
def cJ2 (K : PySem.W.Frag) : Sp := fun vs H Q _ => ∃ (a : Addr) (ns : List Int), vs = [.ref a] ∧ SqL K H a (ns.map V.int) ∧ dI5 H ∧ ns.length ≤ 63 ∧ ∀ H', Q (.bl true) H'
theorem cA9 {c : Wc} {μ : List Addr} {H : Hp} : ∀ ns : List Int, o6 c μ H (ns.map D.int) (ns.map V.int)
 | [] => rfl
 | n :: t => ⟨.int n, _, rfl, ofI, cA9 t⟩
theorem dO9 {P : Program} {w : World} {K : PySem.W.Frag} {mg : Str → Option Value} {base : Heap} {f : Addr} {fd : FuncData} {k : Nat} {F : List D → M D} (hF : J9 P w K mg base CX0 k f fd ["script"] (spD ⟨K, mg⟩ 1 F))
 (pure : ∀ ns : List Int, ns.length ≤ 63 → ∃ G', F [.ref 0] [.rol (ns.map D.int)] = some (.ok (.bl true), G')) : J9 P w K mg base CX0 k f fd ["script"] (cJ2 K) :=
 hF.imp fun vs H Q E h => by
  obtain ⟨a, ns, rfl, hS, hO, hl, q⟩ := h
  obtain ⟨G', e⟩ := pure ns hl
  refine ⟨rfl, [.ref 0], [a], [.rol (ns.map D.int)], ⟨.ref a, [], rfl, by unfold g8; exact ⟨a, rfl, rfl⟩, rfl⟩, ⟨rfl, fun i j b e1 e2 => ?_, fun i o b e1 e2 => ?_⟩, ?_⟩
  · have h1 := lt_of_get e1
    have h2 := lt_of_get e2
    simp at h1 h2
    left; lia
  · have h1 := lt_of_get e2
    simp at h1
    subst h1
    have e1' : o = .rol (ns.map D.int) := by simpa using e1.symm
    have e2' : b = a := by simpa using e2.symm
    subst e1' e2'
    refine ⟨ns.map V.int, ?_, cA9 ns⟩
    rcases hS with (hS | ⟨o, hS⟩) | hS
    · rcases hO b with z | ⟨o, xs, z⟩
      · rw [z] at hS; cases hS
      · rw [z] at hS; cases hS
    · exact .inl ⟨o, hS⟩
    · exact .inr (.inr hS)
  · rw [e]
    exact fun μ' H' _ _ v rv => by rw [bU3 rv]; exact q H'
theorem dR4 : bootBuiltins "len" = some (.builtin "len") := by decide +kernel
theorem bK4 : bootBuiltins "isinstance" = some (.builtin "isinstance") := by decide +kernel
theorem dP1 : bootBuiltins "all" = some (.builtin "all") := by decide +kernel
theorem dM6 : bootBuiltins "any" = some (.builtin "any") := by decide +kernel
theorem dN6 : bootBuiltins "sum" = some (.builtin "sum") := by decide +kernel
theorem dP8 : bootBuiltins "min" = some (.builtin "min") := by decide +kernel
theorem cP5 : bootBuiltins "sorted" = some (.builtin "sorted") := by decide +kernel
theorem cW5 : bootBuiltins "tuple" = some (.type "tuple") := by decide +kernel
theorem cH3 : bootBuiltins "list" = some (.type "list") := by decide +kernel
theorem dA6 : bootBuiltins "zip" = some (.type "zip") := by decide +kernel
theorem bV3 : bootBuiltins "enumerate" = some (.type "enumerate") := by decide +kernel
end DL
namespace DL
open PySem L2
noncomputable def Wp {α : Type} (m : M α) (G : DH) (Q : α → DH → Prop) : Prop := ∃ a G', m G = some (.ok a, G') ∧ Q a G'
section
variable {α β : Type} {G : DH} {Q Q' : α → DH → Prop}
theorem Wp.mono {m : M α} (h : Wp m G Q) (k : ∀ a G', Q a G' → Q' a G') : Wp m G Q' := let ⟨a, G', e, q⟩ := h; ⟨a, G', e, k a G' q⟩
theorem j7 {a : α} : Wp (pure a) G Q ↔ Q a G := by
 constructor
 · rintro ⟨b, G', e, q⟩
   cases e
   exact q
 · exact fun q => ⟨a, G, rfl, q⟩
theorem aH4 : Wp (M.stuck : M α) G Q ↔ False := by
 constructor
 · rintro ⟨b, G', e, q⟩
   cases e
 · exact False.elim
theorem j8 {m : M β} {f : β → M α} : Wp (m >>= f) G Q ↔ Wp m G fun a G1 => Wp (f a) G1 Q := by
 constructor
 · rintro ⟨a, G', e, q⟩
   rw [M.bind_eq] at e
   match h : m G, e with
   | some (.ok b, G1), e => exact ⟨b, G1, h, a, G', e, q⟩
 · rintro ⟨b, G1, e, a, G', e', q⟩
   exact ⟨a, G', by rw [M.bind_ok e]; exact e', q⟩
theorem aM0 {m : M α} {a : α} {G' : DH} (h : m G = some (.ok a, G')) : Wp m G Q ↔ Q a G' := ⟨fun ⟨b, G2, e, q⟩ => by rw [h] at e; cases e; exact q, fun q => ⟨a, G', h, q⟩⟩
theorem aO3 {o : Option α} : Wp (aL8 o) G Q ↔ ∃ a, o = some a ∧ Q a G := by
 rcases o with _ | a
 ·
   constructor
   · rintro ⟨_, _, e, _⟩
     cases e
   · rintro ⟨_, e, _⟩
     cases e
 ·
   constructor
   · rintro ⟨_, _, e, q⟩
     cases e
     exact ⟨_, rfl, q⟩
   · rintro ⟨_, e, q⟩
     cases e
     exact ⟨_, _, rfl, q⟩
theorem Q4 {r : Nat} {Q : DO → DH → Prop} : Wp (Q3 r) G Q ↔ ∃ o, G[r]? = some o ∧ Q o G := by
 constructor
 · rintro ⟨a, G', e, q⟩
   delta Q3 at e
   rcases h : G[r]? with _ | o
   · rw [h] at e; cases e
   · rw [h] at e; cases e; exact ⟨_, rfl, q⟩
 · rintro ⟨o, e, q⟩
   refine ⟨o, G, ?_, q⟩
   delta Q3
   rw [e]
theorem aA7 {o : DO} {Q : DPP} : Wp (N7 o) G Q ↔ Q (.ref G.length) (G ++ [o]) := aM0 rfl
theorem aY5 {r : Nat} {o : DO} {Q : Unit → DH → Prop} : Wp (bD8 r o) G Q ↔ Q () (G.set r o) := aM0 rfl
end
section
variable {G : DH} {σ : DSt} {Q : DPP} {a b c : Fe} {t u : DSt → M Bool} {P : Fl → DH → Prop} {B : Bool → DH → Prop}
theorem dM4 {i : Nat} : Wp (c7 i σ) G Q ↔ ∃ d, σ[i]? = some (some d) ∧ Q d G := by
 constructor
 · rintro ⟨d, G', e, q⟩
   delta c7 at e
   rcases h : σ[i]? with _ | o
   · rw [h] at e; cases e
   ·
     rw [h] at e
     rcases o with _ | d'
     · cases e
     · cases e; exact ⟨_, rfl, q⟩
 · rintro ⟨d, h, q⟩
   exact ⟨d, G, by delta c7; rw [h], q⟩
theorem eE0 {d : D} : Wp (cE d σ) G Q ↔ Q d G := j7
theorem cZ3 {o : D → D → M D} : Wp (d7 o a b σ) G Q ↔ Wp (a σ) G fun x G1 => Wp (b σ) G1 fun y G2 => Wp (o x y) G2 Q := by unfold d7; simp only [j8]
theorem aO8 {α : Type} {k : Bool} {m n : M α} {R : α → DH → Prop} : Wp (if k = true then m else n) G R ↔ if k = true then Wp m G R else Wp n G R := by cases k <;> exact Iff.rfl
theorem bT7 {d : D} : Wp (dA7 d) G B ↔ ∃ k, d = .bl k ∧ B k G := by
 constructor
 · rintro ⟨k, G', e, q⟩
   rcases d with _ | b | _ | _ | _ | _ | _ | _ <;> try (cases e; done)
   · cases e; exact ⟨_, rfl, q⟩
 · rintro ⟨k, e, q⟩
   subst e
   exact ⟨k, G, rfl, q⟩
theorem cX2 : Wp (cR5 a σ) G Q ↔ Wp (a σ) G fun x G1 => ∃ k, x = .bl k ∧ Q (.bl (!k)) G1 := by unfold cR5; simp only [j8, bT7, j7]
theorem bJ4 : Wp (ifE t a b σ) G Q ↔ Wp (t σ) G fun k G1 => if k = true then Wp (a σ) G1 Q else Wp (b σ) G1 Q := by unfold ifE; simp only [j8, aO8]
theorem dF3 : Wp (v6 a σ) G B ↔ Wp (a σ) G fun x G1 => ∃ k, x = .bl k ∧ B k G1 := by unfold v6; simp only [j8, bT7]
theorem aQ0 : Wp (v7 a σ) G B ↔ Wp (a σ) G fun x G1 => Wp (aC5 x) G1 B := by unfold v7; simp only [j8]
theorem bQ6 : Wp (aB2 t u σ) G B ↔ Wp (t σ) G fun k G1 => if k = true then Wp (u σ) G1 B else B false G1 := by unfold aB2; simp only [j8, aO8, j7]
theorem dQ9 : Wp (orT t u σ) G B ↔ Wp (t σ) G fun k G1 => if k = true then B true G1 else Wp (u σ) G1 B := by unfold orT; simp only [j8, aO8, j7]
theorem bE7 : Wp (aD1 t σ) G B ↔ Wp (t σ) G fun k G1 => B (!k) G1 := by unfold aD1; simp only [j8, j7]
variable {R : List D → DH → Prop} {fs : DSt → M (List D)}
theorem u0 : Wp (q14 σ) G R ↔ R [] G := j7
theorem bT2 : Wp (q13 a fs σ) G R ↔ Wp (a σ) G fun x G1 => Wp (fs σ) G1 fun xs G2 => R (x :: xs) G2 := by unfold q13; simp only [j8, j7]
theorem bP6 {F : List D → M D} : Wp (q15 F fs σ) G Q ↔ Wp (fs σ) G fun ds G1 => Wp (F ds) G1 Q := by unfold q15; simp only [j8]
theorem cF4 {α : Type} {m : M α} {R : α → DH → Prop} : Wp (noX m) G R ↔ Wp m G R := by
 constructor
 · rintro ⟨x, G', e, q⟩
   delta noX at e
   rcases h : m G with _ | p
   · rw [h] at e; cases e
   ·
     rw [h] at e
     obtain ⟨_ | y, G1⟩ := p
     · cases e
     · cases e; exact ⟨_, _, h, q⟩
 · rintro ⟨x, G', e, q⟩
   exact ⟨x, G', by delta noX; rw [e], q⟩
theorem aT4 {n : Nat} {F : List D → M D} {ds : List D} : Wp (fnX n F ds) G Q ↔ ds.length = n ∧ Wp (F ds) G Q := by
 unfold fnX
 by_cases h : ds.length = n
 · rw [if_pos h, cF4]; exact ⟨fun q => ⟨h, q⟩, fun q => q.2⟩
 · rw [if_neg h]; exact ⟨fun q => (aH4.mp q).elim, fun q => (h q.1).elim⟩
theorem aG3 : Wp (u6 fs σ) G Q ↔ Wp (fs σ) G fun xs G1 => xs.length ≤ sizeLine ∧ Q (.tup xs) G1 := by
 unfold u6
 simp only [j8]
 constructor
 · rintro ⟨xs, G1, e, q⟩
   refine ⟨xs, G1, e, ?_⟩
   by_cases h : xs.length ≤ sizeLine
   · rw [if_pos h] at q; exact ⟨h, j7.mp q⟩
   · rw [if_neg h] at q; exact (aH4.mp q).elim
 · rintro ⟨xs, G1, e, h, q⟩
   exact ⟨xs, G1, e, by dsimp only; rw [if_pos h]; exact j7.mpr q⟩
theorem aL9 : Wp (P0 fs σ) G Q ↔ Wp (fs σ) G fun xs G1 => xs.length ≤ sizeLine ∧ Q (.ref G1.length) (G1 ++ [.lst xs]) := by
 unfold P0
 simp only [j8]
 constructor
 · rintro ⟨xs, G1, e, q⟩
   refine ⟨xs, G1, e, ?_⟩
   by_cases h : xs.length ≤ sizeLine
   · rw [if_pos h] at q; exact ⟨h, aA7.mp q⟩
   · rw [if_neg h] at q; exact (aH4.mp q).elim
 · rintro ⟨xs, G1, e, h, q⟩
   exact ⟨xs, G1, e, by dsimp only; rw [if_pos h]; exact aA7.mpr q⟩
variable {f g : Fs} {gg : Fg}
theorem G9 : Wp (J5 σ) G P ↔ P (.nx σ) G := j7
theorem m7 : Wp (j9 f g σ) G P ↔ Wp (f σ) G fun fl G1 => match fl with
 | .nx σ' => Wp (g σ') G1 P
 | r => P r G1 := by
 delta j9
 refine Iff.trans j8 ?_
 constructor
 · rintro ⟨fl, G1, e, q⟩
   refine ⟨fl, G1, e, ?_⟩
   cases fl <;> first
    | exact q
    | exact j7.mp q
 · rintro ⟨fl, G1, e, q⟩
   refine ⟨fl, G1, e, ?_⟩
   cases fl <;> first
    | exact q
    | exact j7.mpr q
theorem cX1 : Wp (t6 a σ) G P ↔ Wp (a σ) G fun d G1 => P (.rt d) G1 := by unfold t6; simp only [j8, j7]
theorem aQ4 : Wp (aO2 a σ) G P ↔ Wp (a σ) G fun _ G1 => P (.nx σ) G1 := by unfold aO2; simp only [j8, j7]
theorem cT5 : Wp (ifS t f g σ) G P ↔ Wp (t σ) G fun k G1 => if k = true then Wp (f σ) G1 P else Wp (g σ) G1 P := by unfold ifS; simp only [j8, aO8]
theorem aK5 : Wp (J4 a gg σ) G P ↔ Wp (a σ) G fun d G1 => Wp (gg d σ) G1 fun σ' G2 => P (.nx σ') G2 := by unfold J4; simp only [j8, j7]
theorem aH8 {i : Nat} {d : D} {S : DSt → DH → Prop} : Wp (q16 i d σ) G S ↔ S (σ.set i (some d)) G := j7
theorem cK0 {m : Nat} {ds : List D} : Wp (J2 m f ds) G Q ↔ Wp (f (ds.map some ++ List.replicate (m - ds.length) none)) G fun fl G1 => match fl with
 | .nx _ => Q .non G1
 | .rt d => Q d G1
 | _ => False := by
 delta J2
 refine Iff.trans j8 ?_
 constructor
 · rintro ⟨fl, G1, e, q⟩
   refine ⟨fl, G1, e, ?_⟩
   cases fl <;> first
    | exact j7.mp q
    | exact aH4.mp q
 · rintro ⟨fl, G1, e, q⟩
   refine ⟨fl, G1, e, ?_⟩
   cases fl <;> first
    | exact j7.mpr q
    | exact aH4.mpr q
noncomputable def eG0 (o : Option Bool) (g : Bool → Bool) (G : DH) : Option (Except Str D × DH) := match o with
 | some b => some (.ok (.bl (g b)), G)
 | none => none
theorem bR5 {m : M D} {o : Option Bool} {g : Bool → Bool} (h : m G = eG0 o g G) : Wp m G Q ↔ ∃ k, o = some k ∧ Q (.bl (g k)) G := by
 unfold Wp
 rw [h]
 rcases o with _ | k
 ·
   constructor
   · rintro ⟨_, _, e, _⟩
     cases e
   · rintro ⟨_, e, _⟩
     cases e
 ·
   constructor
   · rintro ⟨_, _, e, q⟩
     cases e
     exact ⟨_, rfl, q⟩
   · rintro ⟨_, e, q⟩
     cases e
     exact ⟨_, _, rfl, q⟩
theorem bL4 {x y : D} : Wp (eqD x y) G Q ↔ ∃ k, eqN 40 G x y = some k ∧ Q (.bl k) G := bR5 (g := id) rfl
theorem dA5 {x y : D} : Wp (neD x y) G Q ↔ ∃ k, eqN 40 G x y = some k ∧ Q (.bl (!k)) G := bR5 (g := not) rfl
theorem cS0 {x y : D} : Wp (ltD x y) G Q ↔ ∃ k, ltN 40 G x y = some k ∧ Q (.bl k) G := bR5 (g := id) rfl
end
end DL
namespace DL
open PySem PySem.Spec L2
open PyProof.Rows hiding St
section
variable {X : Cx} {Z : XC} {elt tg iter : Expr} {ifs : List Expr} {scope : Scope} {pos : Pos} {N : List Str} {caps : List (Option Nat)} {it : DSt → M Src} {gg : Fg} {tt : DSt → M Bool} {fe : Fe}
end
noncomputable def aD7 : List D → Option (List Str)
 | [] => some []
 | .str x :: r => (aD7 r).map (x :: ·)
 | _ => none
noncomputable def o9 : List (Key × D) → Option (List Str)
 | [] => some []
 | (.inr x, _) :: r => (o9 r).map (x :: ·)
 | _ => none
noncomputable def leS (a b : Str) : Bool := !decide (b.cps.toList < a.cps.toList)
def W9 (l : List Str) : List Str := l.mergeSort leS
theorem bE4 {a b : Str} : leS a b = true ↔ a.cps.toList ≤ b.cps.toList := by unfold leS; simp
theorem aZ3 (a b c : Str) (h1 : leS a b = true) (h2 : leS b c = true) : leS a c = true := by
 rw [bE4] at *; exact List.le_trans h1 h2
theorem bO2 (a b : Str) : (leS a b || leS b a) = true := by
 rw [Bool.or_eq_true, bE4, bE4]; exact List.le_total _ _
theorem aW1 {a b : Str} (h1 : leS a b = true) (h2 : leS b a = true) : a = b := by
 rw [bE4] at *
 have e : a.cps.toList = b.cps.toList := List.le_antisymm h1 h2
 cases a; cases b
 congr 1
 exact Array.toList_inj.mp e
theorem bM8 : ∀ (l : List Str) (p : Str), risingS p l = true → (p :: l).Pairwise fun a b => leS a b = true
 | [], p, _ => by simp
 | x :: r, p, h => by
   unfold risingS at h
   rw [Bool.and_eq_true] at h
   have ih := bM8 r x h.2
   have hpx : leS p x = true := by unfold leS; rw [← ltCps_eq]; exact h.1
   refine List.pairwise_cons.mpr ⟨fun y hy => ?_, ih⟩
   rcases List.mem_cons.mp hy with rfl | hy
   · exact hpx
   · exact aZ3 _ _ _ hpx ((List.pairwise_cons.mp ih).1 y hy)
theorem bX7 {l l' : List Str} (hp : l'.Perm l) (hs : sortedS l' = true) : l' = W9 l := by
 have h1 : l'.Pairwise fun a b => leS a b = true := by
  rcases l' with _ | ⟨x, r⟩
  · simp
  · exact bM8 r x hs
 have h2 : (W9 l).Pairwise fun a b => leS a b = true := List.pairwise_mergeSort aZ3 bO2 l
 exact List.Perm.eq_of_pairwise (fun a b _ _ h1 h2 => aW1 h1 h2) h1 h2 (hp.trans (List.mergeSort_perm l leS).symm)
section
variable {prog : Program} {w : World} {A : Around} {E : VSP} {s : Shared} {T : String} {r d : Addr} {n : Nat} {P : Nat → Value → Prop} {OK : Heap → Prop} {Q : VSP}
theorem cG2 (K : PySem.W.KdlSrc prog w T r d n P OK) (hh : A.handled = none) (hok : OK s.heap) (hn : n < 64) {ss : List Str} (hP : ∀ vs : List Value, vs.length = n → (∀ (j : Nat) (v : Value), vs[j]? = some v → P j v) → StrsAre vs ss)
 (h : ∀ (h1 h' : Heap) (tk e : Nat) (out : List Value) (ss' : List Str), (∀ b o, s.heap.get? b = some o → h1.get? b = some o) → (∀ b o, h1.get? b = some o → h'.get? b = some o) → h'.get? h1.objs.size = some (seqObj "list" out.toArray e) → StrsAre out ss' → ss'.Perm ss → sortedS ss' = true → Q (.ref h1.objs.size) { s with heap := h', toks := tk }) :
 wpAny (model prog w) A (call (.builtin "sorted") [.ref r]) Q E s := by
 have hz : n ≤ sizeLine := Nat.le_trans (Nat.le_of_lt hn) (by decide)
 refine Calls.call_function_entry kind_sorted plain_sorted entry_sorted (args_sorted1 _) ?_
 unfold Builtin.«sorted»
 refine wpAny_bind (m := checkCount "sorted" 1 1 _) (wpAny_pure ?_)
 refine wpAny_bind (PySem.W.kdu_collect (A := A.in1) K hh hok hz fun h1 tk acc hk hacc => ?_)
 have hl : acc.toList.length = n := by rw [Array.length_toList]; exact hacc.1
 refine wpAny_bind (wpAny_newList ?_ (by rw [hl]; exact hz))
 have hS : StrsAre acc.toList ss := hP acc.toList hl fun j v e => hacc.2 j v (by rw [← Array.getElem?_toList]; exact e)
 have hoL : (h1.push (seqObj "list" acc.toList.toArray 0)).get? h1.objs.size = some (seqObj "list" acc.toList.toArray 0) := Heap.get?_push_size _ rfl
 refine wpAny_bind (wpAny_holding (wpAny_call_entry slot_list_sort ⟨_, hoL, rfl⟩ entry_list_sort (list_sort_treeK strKind_oneLt hoL hS.keysOf (fun v₁ v₂ Z4 e => keyKind_strs (by rw [← e]; exact hS)) (by rw [hl]; exact hn) fun st' a1 a2 => ⟨_, rfl, ?_⟩) (args_list_sort _)))
 obtain ⟨ss', b1, b2, b3⟩ := sorted_out_str hS a1 a2
 obtain ⟨e, he⟩ := sortedHeap_at (vs := acc.toList) (out := (arrOf st').map (·.2)) hoL
 refine wpAny_pure ⟨_, rfl, h h1 _ tk e ((arrOf st').map (·.2)).toList ss' hk (fun b o hb => ?_) (by rw [Array.toArray_toList]; exact he) b1 b2 b3⟩
 have hlt : b < h1.objs.size := Heap.lt_size hb
 rw [sortedHeap_old (Nat.ne_of_lt hlt) (by rw [size_push']; exact Nat.lt_succ_of_lt hlt), Heap.get?_push_ne _ _ _ (Nat.ne_of_lt hlt)]
 exact hb
end
def bP9 : List D → M D := fun ds => match ds with
 | [.ref r] => do
   match ← Q3 r with
   | .dct l => do
     let ss ← aL8 (o9 l)
     if ss.length < 64 then N7 (.lst ((W9 ss).map .str)) else M.stuck
   | _ => M.stuck
 | _ => M.stuck
section
variable {X : Cx} {Z : XC} {c : Wc} {μ : List Addr} {H : Hp} {G : DH}
theorem aP4 : ∀ {l : List (Key × D)} {ss : List Str}, o9 l = some ss → ss.length = l.length
 | [], _, e => by cases e; rfl
 | (.inr x, _) :: r, ss, e => by
  replace e := show (o9 r).map (_ :: ·) = some _ from e
  rcases h : o9 r with _ | t
  · rw [h] at e; cases e
  · rw [h] at e; cases e; simp [aP4 h]
 | (.inl _, _) :: _, _, e => by cases e
theorem aV8 {P : Program} {w : World} : ∀ {l : List (Key × D)} {ss : List Str} {kvs : List (Key × V)} {xs : List (Key × Value)} {vs : List Value}, o9 l = some ss → aD6 c μ H l kvs → KV kvs xs → vs.length = xs.length →
 (∀ (j : Nat) (v : Value), vs[j]? = some v → ∃ k x, xs[j]? = some (k, x) ∧ (Q9 P w).is k v = true) → StrsAre vs ss
 | [], _, _, xs, vs, e, r, kv, hl, hv => by
   cases e; cases r; cases kv
   rcases vs with _ | ⟨_, _⟩
   · exact .nil
   · simp at hl
 | (.inr x, d) :: t, ss, kvs, xs, vs, e, r, kv, hl, hv => by
  replace e := show (o9 t).map (_ :: ·) = some _ from e
  rcases h : o9 t with _ | q
  · rw [h] at e; cases e
  ·
    rw [h] at e
    cases e
    obtain ⟨v0, tl, rfl, r0, rt⟩ := r
    cases kv with
    | cons hk ht =>
      cases vs with
      | nil => simp at hl
      | cons u us =>
        obtain ⟨k, y, e1, e2⟩ := hv 0 u rfl
        simp only [List.getElem?_cons_zero, Option.some.injEq] at e1
        have hk1 : (Sum.inr x : Key) = _ := hk.1
        rw [e1] at hk1
        have e3 : bG6 (.inr x) u = true := by rw [hk1]; exact e2
        rcases M6 e3 with ⟨_, _, z, _⟩ | ⟨x', t', z, eu⟩
        · cases z
        · cases z
          subst eu
          exact .cons _ _ (aV8 (P := P) (w := w) h rt ht (by simpa using hl) fun j v hj => by simpa using hv (j + 1) v (by simpa using hj))
 | (.inl _, _) :: _, _, _, _, _, e, _, _, _, _ => by cases e
theorem bJ9 : ∀ {out : List Value} {ss : List Str}, StrsAre out ss → ∃ vs, vs = ss.map V.str ∧ w6 vs out ∧ o6 c μ H (ss.map D.str) vs
 | _, _, .nil => ⟨[], rfl, .nil, rfl⟩
 | _, _, .cons x t q => by
   obtain ⟨vs, e, h1, h2⟩ := bJ9 q
   subst e
   exact ⟨_, rfl, .cons ⟨t, rfl⟩ h1, _, _, rfl, by unfold g8; rfl, h2⟩
theorem cN6 (hc : X.calm = true) : Z6 X Z (.builtin "sorted") bP9 := ⟨by
 intro pins s σ H xs us Q I r hE0
 obtain ⟨ds, μ, G, rl, hr, p⟩ := hE0
 rcases ds with _ | ⟨_ | _ | _ | _ | _ | i | _ | _, _ | ⟨_, _⟩⟩ <;> try exact p.elim
 all_goals (delta bP9 at p; dsimp only at p)
 · obtain ⟨v, rfl, rv⟩ := bA0 rl
   obtain ⟨u, rfl, ru⟩ := aM5 r
   unfold g8 at rv
   obtain ⟨a, m, rfl⟩ := rv
   cases ru
   obtain ⟨o, g, p1⟩ := N8 p
   have ro := hr.obj i o a g m
   cases o with
   | dct l =>
     obtain ⟨kvs, q, rk⟩ := ro
     obtain ⟨ss, es, p2⟩ := aE8 p1
     split at p2
     case isFalse => exact p2.elim
     rename_i h64
     obtain ⟨z, hd, vs, rel, dd⟩ := cY7 I.hok q
     obtain ⟨ep, hat⟩ := dd.dictAt
     have hn : vs.length = ss.length := by rw [aP4 es, ← rel.length, ← rk.length]
     refine cG2 (PySem.W.kdl_dict (knd := Q9 X.prog X.w) (kvs := vs) (ep := ep) hd) (I.ok.hd hc) hat (by omega) (ss := ss) (fun us hl hu => aV8 es rk rel (by omega) hu) fun h1 h' tk e out ss' k1 k2 he hS hp hs => ?_
     have e2 := bX7 hp hs
     subst e2
     obtain ⟨ws, ew, rv, rl2⟩ := bJ9 (c := wc X) (μ := μ) (H := H) hS
     have I1 : Inv X pins σ H { s with heap := h1, toks := tk } := I.kept k1
     have hf := I1.hok.fresh (Nat.le_refl _)
     have hlen : ws.length ≤ sizeLine := by
      rw [ew, List.length_map]
      have := (List.mergeSort_perm ss leS).length_eq
      have e3 : (W9 ss).length = ss.length := this
      have : (64 : Nat) ≤ sizeLine := by decide
      omega
     refine ⟨.ref h1.objs.size, upd H h1.objs.size (.lst ws), I1.laid (t' := tk) k2 (Nat.le_refl _) ⟨hlen, out, e, rv, he⟩, rfl, aB1 hr rl2 p2 _ hf⟩
   | lst l => exact p1.elim
   | rod l => exact p1.elim
   | rol l => exact p1.elim⟩
end
noncomputable def Its (z : Str) : It := ⟨fun i _ => ∃ c, z.cps[i]? = some c, fun i H x H' => H' = H ∧ ∃ c, z.cps[i]? = some c ∧ x = .str ⟨#[c]⟩, fun i _ => z.cps[i]? = none⟩
theorem cC8 {P : Program} {w : World} {K : PySem.W.Frag} {tg : Expr} (z : Str) (t : Tok) (it : Addr) : bH4 P w K tg (Its z) [it] it (fun i h => h.IsStrIter it "str_ascii_iterator" z t i) where
 mem := by simp
 obj := fun i h st b hb => by
  have e : b = it := by simpa using hb
  subst e
  obtain ⟨o, e, c, d⟩ := st
  exact ⟨o, e, fun v z => by rw [d] at z; cases z⟩
 keep := fun i h h' st k => let ⟨o, ho, r⟩ := st; ⟨o, k it (by simp) o ho, r⟩
 item := by
  intro X hP hw hK hc i pins s σ H E I hf st hg
  subst hP hw hK
  obtain ⟨c, hx⟩ := hg
  obtain ⟨f0, f1, f2, f3, f4, f5⟩ := hf it (by simp)
  refine wpAny_pyNext_ascii_item st hx fun h' st' sb => ?_
  have I1 : Inv X pins σ H { s with heap := h', toks := s.toks + 1 } := I.turned (t' := s.toks + 1) (fun b o hb e => (sb.2 b hb).trans e) f0 f1 f3 f4 f5
  obtain ⟨o, e, cc, d⟩ := id st'
  exact ⟨_, rfl, bL6 (s := { s with heap := h', toks := s.toks + 1 }) e cc d (by decide) ⟨.str ⟨#[c]⟩, H, I1, ⟨_, rfl⟩, ⟨rfl, c, hx, rfl⟩, st', fun b hb => (hf b hb).1⟩⟩
 done := by
  intro X hP hw hK hc i pins s σ H E I hf st hg
  subst hP hw hK
  obtain ⟨f0, f1, f2, f3, f4, f5⟩ := hf it (by simp)
  exact wpAny_pyNext_ascii_end (I.ok.hd hc) st hg fun h' eb => ⟨rfl, I.turned (t' := s.toks) (fun b o hb e => eb b o hb e) f0 f1 f3 f4 f5⟩
 self := fun _ _ _ _ _ st h => wpAny_pyIter_striter_ascii st h
theorem cP8 {P : Program} {w : World} {K : PySem.W.Frag} {tg : Expr} (z : Str) (t : Tok) (it : Addr) : bH4 P w K tg (Its z) [it] it (fun i h => h.IsStrIter it "str_iterator" z t i) where
 mem := by simp
 obj := fun i h st b hb => by
  have e : b = it := by simpa using hb
  subst e
  obtain ⟨o, e, c, d⟩ := st
  exact ⟨o, e, fun v z => by rw [d] at z; cases z⟩
 keep := fun i h h' st k => let ⟨o, ho, r⟩ := st; ⟨o, k it (by simp) o ho, r⟩
 item := by
  intro X hP hw hK hc i pins s σ H E I hf st hg
  subst hP hw hK
  obtain ⟨c, hx⟩ := hg
  obtain ⟨f0, f1, f2, f3, f4, f5⟩ := hf it (by simp)
  refine wpAny_pyNext_wide_item st hx fun h' st' sb => ?_
  have I1 : Inv X pins σ H { s with heap := h', toks := s.toks + 1 } := I.turned (t' := s.toks + 1) (fun b o hb e => (sb.2 b hb).trans e) f0 f1 f3 f4 f5
  obtain ⟨o, e, cc, d⟩ := id st'
  exact ⟨_, rfl, bL6 (s := { s with heap := h', toks := s.toks + 1 }) e cc d (by decide) ⟨.str ⟨#[c]⟩, H, I1, ⟨_, rfl⟩, ⟨rfl, c, hx, rfl⟩, st', fun b hb => (hf b hb).1⟩⟩
 done := by
  intro X hP hw hK hc i pins s σ H E I hf st hg
  subst hP hw hK
  obtain ⟨f0, f1, f2, f3, f4, f5⟩ := hf it (by simp)
  exact wpAny_pyNext_wide_end (I.ok.hd hc) st hg fun h' eb => ⟨rfl, I.turned (t' := s.toks) (fun b o hb e => eb b o hb e) f0 f1 f3 f4 f5⟩
 self := fun _ _ _ _ _ st h => wpAny_pyIter_striter_wide st h
section
variable {X : Cx} {Z : XC} {tg e : Expr}
noncomputable def aF9 (z : Str) : List D := z.cps.toList.map fun c => .str ⟨#[c]⟩
def dE9 : D → M Src := fun x => match x with
 | .str z => pure ⟨aF9 z, fun _ => true⟩
 | .tup l => aH6 (.tup l)
 | .ref r => aH6 (.ref r)
 | _ => M.stuck
end
section
variable {X : Cx} {Z : XC} {pos p q : Pos}
end
theorem cW0 {P : Program} {w : World} {K : PySem.W.Frag} {mg : Str → Option Value} {base : Heap} {CX : CXT} {k n : Nat} {f : Addr} {fd : FuncData} {ps : List Str} (hn : ps.length = n) : J9 P w K mg base CX k f fd ps (spD ⟨K, mg⟩ n fun _ => M.stuck) :=
 ⟨fun vs H Q E h => by rw [hn]; exact h.1, fun A outer s H args us vs Q E hr => by
  intros
  rename_i h
  first
   | exact h.2.elim
   | (obtain ⟨_, _, _, _, _, _, z⟩ := h; exact z.elim)⟩
end DL
namespace W
open PySem PySem.Spec L2 DL
open PyProof.Rows hiding St
theorem st1 {d : D} {n : Nat} : ([d].map some ++ List.replicate n none : DSt)[0]? = some (some d) := by rfl
theorem S5 {α : Type} {b : α} {P : α → Prop} : (∃ k, some b = some k ∧ P k) ↔ P b := ⟨fun ⟨k, e, p⟩ => by cases e; exact p, fun p => ⟨b, rfl, p⟩⟩
theorem ix_tup {l : List D} {i : Int} {G : DH} {Q : DPP} : Wp (ixD (.tup l) (.int i)) G Q ↔ ∃ d, atI l i = some d ∧ Q d G := aO3
theorem aJ8 {b : Bool} {G : DH} {B : Bool → DH → Prop} : Wp (aC5 (.bl b)) G B ↔ B b G := j7
theorem aI7 {i j : Int} {G : DH} {Q : DPP} : Wp (eqD (.int i) (.int j)) G Q ↔ Q (.bl (decide (i = j))) G := by
 have e : eqN 40 G (.int i) (.int j) = some (decide (i = j)) := by rfl
 rw [bL4, e]; exact S5
theorem bM9 {α : Type} {m : M α} {G : DH} {x : α} (h : Wp m G fun a G' => a = x ∧ G' = G) : m G = some (.ok x, G) := by
 obtain ⟨a, G', e, e1, e2⟩ := h
 subst e1 e2
 exact e
theorem bL8 {g : Fg} {t : DSt → M Bool} {e : Fe} {ck : DH → Bool} {f : D → D} {G : DH} {I : DSt → Prop} (hck : ck G = true) : ∀ (items : List D) (σ : DSt), I σ →
 (∀ d ∈ items, ∀ σ, I σ → ∃ σ1, g d σ G = some (.ok σ1, G) ∧ I σ1 ∧ t σ1 G = some (.ok true, G) ∧ e σ1 G = some (.ok (f d), G)) → M5 g t e ck items σ G = some (.ok (items.map f), G)
 | [], σ, _, _ => by unfold M5; simp only [hck, if_true, List.map]
 | d :: r, σ, i, h => by
   obtain ⟨σ1, h1, i1, h2, h3⟩ := h d (by simp) σ i
   have h4 := bL8 hck r σ1 i1 fun d hd => h d (by simp [hd])
   unfold M5
   simp only [hck, if_true]
   rw [M.bind_ok h1, M.bind_ok h2, if_pos rfl, M.bind_ok h3, M.bind_ok h4]
   rfl
theorem bS1 {α : Type} {f : α → Bool} : ∀ l : List α, aX8 (l.map fun x => D.bl (f x)) = some (l.map f)
 | [] => rfl
 | a :: r => by show (aX8 (r.map fun x => D.bl (f x))).map (f a :: ·) = _; rw [bS1 r]; rfl
theorem cV0 {G : DH} {r : Nat} {l : List D} {f : D → Bool} {Q : DPP} (h : G[r]? = some (.lst (l.map fun x => .bl (f x)))) : Wp (aK1 [.ref r]) G Q ↔ Q (.bl (l.all f)) G := by
 unfold aK1
 simp only [j8, Q4, h, S5, DL.listOf, j7, aO3, bS1]
 simp [List.all_map, Function.comp_def]
theorem bQ8 {i j : Int} {G : DH} {Q : DPP} : Wp (ltD (.int i) (.int j)) G Q ↔ Q (.bl (decide (i < j))) G := by
 have e : ltN 40 G (.int i) (.int j) = some (decide (i < j)) := by rfl
 rw [cS0, e]; exact S5
theorem aI1 {i j : Int} {G : DH} {Q : DPP} : Wp (T4 (.int i) (.int j)) G Q ↔ Q (.int (i + j)) G := j7
theorem dJ7 (l : List D) : DL.cutD l (some 1) none = l.drop 1 := by
 unfold DL.cutD
 rw [HT.sIx_none, show (some (1 : Int)) = some ((1 : Nat) : Int) from rfl, HT.sIx_nat]
 rcases l with _ | ⟨a, r⟩
 · rfl
 · simp [List.length_cons]
section
variable {G : DH} {σ : DSt} {P : Fl → DH → Prop} {g : Fg} {b : Fs} {ck : DH → Bool}
theorem aE3 : Wp (aD5 g b ck [] σ) G P ↔ ck G = true ∧ P (.nx σ) G := by
 unfold aD5
 constructor
 · rintro ⟨a, G', e, q⟩
   by_cases h : ck G = true
   · simp only [h, if_true] at e; cases e; exact ⟨h, q⟩
   · simp only [h] at e; cases e
 · rintro ⟨h, q⟩
   exact ⟨_, G, by simp only [h, if_true], q⟩
theorem aE7 {d : D} {r : List D} : Wp (aD5 g b ck (d :: r) σ) G P ↔ ck G = true ∧ Wp (g d σ) G fun σ1 G1 => Wp (b σ1) G1 fun fl G2 => match fl with
 | .nx σ' => Wp (aD5 g b ck r σ') G2 P
 | .ct σ' => Wp (aD5 g b ck r σ') G2 P
 | .bk σ' => P (.nx σ') G2
 | .rt d => P (.rt d) G2 := by
 have e : Wp (aD5 g b ck (d :: r) σ) G P ↔ ck G = true ∧ Wp (do
  match ← b (← g d σ) with
  | .nx σ' => aD5 g b ck r σ'
  | .ct σ' => aD5 g b ck r σ'
  | .bk σ' => pure (.nx σ')
  | .rt d => pure (.rt d) : M Fl) G P := by
  rw [aD5]
  constructor
  · rintro ⟨a, G', e, q⟩
    by_cases h : ck G = true
    · simp only [h, if_true] at e; exact ⟨h, a, G', e, q⟩
    · simp only [h] at e; cases e
  · rintro ⟨h, a, G', e, q⟩
    exact ⟨a, G', by simp only [h, if_true]; exact e, q⟩
 rw [e]
 simp only [j8]
 refine and_congr_right fun _ => ?_
 constructor
 · rintro ⟨σ1, G1, e1, fl, G2, e2, q⟩
   refine ⟨σ1, G1, e1, fl, G2, e2, ?_⟩
   cases fl <;> first
    | exact q
    | exact j7.mp q
 · rintro ⟨σ1, G1, e1, fl, G2, e2, q⟩
   refine ⟨σ1, G1, e1, fl, G2, e2, ?_⟩
   cases fl <;> first
    | exact q
    | exact j7.mpr q
theorem aD8 {it : DSt → M Src} : Wp (aA0 it g b σ) G P ↔ Wp (it σ) G fun s G1 => Wp (aD5 g b s.ck s.items σ) G1 P := by unfold aA0; simp only [j8]
end
theorem cI2 {i j : Int} {G : DH} {Q : DPP} : Wp (bD1 (.int i) (.int j)) G Q ↔ Q (.int (i - j)) G := j7
theorem atI_nat {l : List D} {k : Nat} {s : D} (h : l[k]? = some s) : atI l (k : Int) = some s := by
 have hk : k < l.length := by
  by_cases hk : k < l.length
  · exact hk
  · rw [List.getElem?_eq_none (by omega)] at h; cases h
 unfold atI ixN
 rw [if_pos (by omega), if_pos (by omega)]
 simpa using h
section
variable {G : DH} {σ : DSt} {Q : DPP}
theorem aL7 {i j : Int} (h : 0 < j) : Wp (bK7 (.int i) (.int j)) G Q ↔ Q (.int (i % j)) G := by
 have e : bK7 (.int i) (.int j) = if 0 < j then pure (.int (i % j)) else M.stuck := rfl
 rw [e, if_pos h]; exact j7
theorem bZ3 {i j : Int} (h : 0 < j ∧ j < 2 ^ 100) : Wp (cC1 (.int i) (.int j)) G Q ↔ Q (.int (i / j)) G := by
 have e : cC1 (.int i) (.int j) = if bM6 i j then pure (.int (i / j)) else M.stuck := rfl
 rw [e, if_pos (show bM6 i j from h)]; exact j7
theorem aU7 {i j : Int} (h : bL3 i j) : Wp (aY9 (.int i) (.int j)) G Q ↔ Q (.int (i * j)) G := by
 have e : aY9 (.int i) (.int j) = if bL3 i j then pure (.int (i * j)) else M.stuck := rfl
 rw [e, if_pos h]; exact j7
theorem cD7 {r : Nat} {l : List D} {i : Int} (h : G[r]? = some (.lst l)) : Wp (ixD (.ref r) (.int i)) G Q ↔ ∃ d, atI l i = some d ∧ Q d G := by
 have e : ixD (.ref r) (.int i) = (do
  let l ← Q3 r >>= DL.listOf
  aL8 (atI l i)) := rfl
 rw [e]
 simp only [j8, Q4, h, S5, DL.listOf, j7, aO3]
theorem dB4 {r : Nat} {l : List D} {k : Int} {j : Nat} {d : D} {R : Unit → DH → Prop} (h : G[r]? = some (.lst l)) (hj : ixN l.length k = some j) : Wp (cD2 (.ref r) (.int k) d) G R ↔ R () (G.set r (.lst (l.set j d))) := by
 unfold cD2
 simp only [j8, Q4, h, S5, hj, aY5]
theorem cG3 {fo fi : Fe} {d : D} {S : DSt → DH → Prop} : Wp (bD0 fo fi d σ) G S ↔ Wp (fo σ) G fun o G1 => Wp (fi σ) G1 fun i G2 => Wp (cD2 o i d) G2 fun _ G3 => S σ G3 := by
 unfold bD0; simp only [j8, j7]
end
noncomputable def M9 (G : DH) (r : Nat) : Prop := ∃ a b c e : Int, G[r]? = some (.lst [.int a, .int b, .int c, .int e]) ∧ 0 ≤ b ∧ b < 2 ^ 40
def Fr (r : Nat) (G G' : DH) : Prop := G.length ≤ G'.length ∧ (∀ i, i ≠ r → i < G.length → G'[i]? = G[i]?) ∧ M9 G' r
theorem M9.lt {G : DH} {r : Nat} (h : M9 G r) : r < G.length := by
 obtain ⟨a, b, c, e, hr, _⟩ := h
 by_cases hi : r < G.length
 · exact hi
 · rw [List.getElem?_eq_none (by omega)] at hr; cases hr
theorem M9.app {G t : DH} {r : Nat} (h : M9 G r) : M9 (G ++ t) r := by
 have hl := h.lt
 obtain ⟨a, b, c, e, hr, hb⟩ := h
 exact ⟨a, b, c, e, by rw [List.getElem?_append_left hl]; exact hr, hb⟩
theorem Fr.refl {r : Nat} {G : DH} (h : M9 G r) : Fr r G G := ⟨Nat.le_refl _, fun _ _ _ => rfl, h⟩
theorem Fr.trans {r : Nat} {G G1 G2 : DH} (h : Fr r G G1) (k : Fr r G1 G2) : Fr r G G2 :=
 ⟨Nat.le_trans h.1 k.1, fun i hi hl => by rw [k.2.1 i hi (by have := h.1; omega), h.2.1 i hi hl], k.2.2⟩
theorem Fr.app {r : Nat} {G t : DH} (h : M9 G r) : Fr r G (G ++ t) := ⟨by simp, fun i _ hl => List.getElem?_append_left hl, h.app⟩
theorem Fr.set {r : Nat} {G : DH} {o : DO} (h : M9 (G.set r o) r) : Fr r G (G.set r o) := ⟨by simp, fun i hi hl => by rw [List.getElem?_set_ne (Ne.symm hi)], h⟩
theorem dC0 {i : Int} {G : DH} {Q : DPP} : Wp (cE9 (.int i)) G Q ↔ Q (.int (-i)) G := j7
theorem bY5 {l : List D} {k : Int} (h0 : 0 ≤ k) (h1 : k < l.length) : ∃ d, d ∈ l ∧ atI l k = some d := by
 obtain ⟨n, rfl⟩ := Int.eq_ofNat_of_zero_le h0
 have hn : n < l.length := by omega
 exact ⟨l[n], List.getElem_mem hn, atI_nat (List.getElem?_eq_getElem hn)⟩
theorem sz {l : List D} (h : Nat.ble l.length 100 = true := by rfl) : l.length ≤ sizeLine := Nat.le_trans (Nat.le_of_ble_eq_true h) (by decide)
theorem Fr.at {r p : Nat} {G G' : DH} {o : DO} (h : Fr r G G') (hp : p ≠ r) (e : G[p]? = some o) : G'[p]? = some o := by
 have hl : p < G.length := by
  by_cases hi : p < G.length
  · exact hi
  · rw [List.getElem?_eq_none (by omega)] at e; cases e
 rw [h.2.1 p hp hl]; exact e
theorem dO3 {G t : DH} {k : Nat} : (G ++ t)[G.length + k]? = t[k]? := by
 rw [List.getElem?_append_right (by omega)]; congr 1; omega
theorem cH5 {G t : DH} : (G ++ t)[G.length]? = t[0]? := dO3 (k := 0)
section
variable {G : DH} {σ : DSt} {Q : DPP}
theorem dG8 {i j : Int} : Wp (cN0 [.int i, .int j]) G Q ↔ Q (.int (if j < i then j else i)) G := j7
theorem bB5 {t : D → M Unit} {m : D → List D → M D} {fo : Fe} {fs : DSt → M (List D)} : Wp (mtE t m fo fs σ) G Q ↔ Wp (fo σ) G fun x G1 => Wp (t x) G1 fun _ G2 => Wp (fs σ) G2 fun xs G3 => Wp (m x xs) G3 Q := by
 unfold mtE; simp only [j8]
theorem V5 {r : Nat} {l : List D} {R : Unit → DH → Prop} (h : G[r]? = some (.lst l)) : Wp (U9 (.ref r)) G R ↔ R () G := by
 delta U9; exact j8.trans ((Q4.trans (by rw [h]; exact S5)).trans j7)
theorem aT0 {r : Nat} {l : List D} {y : D} (h : G[r]? = some (.lst l)) (hl : l.length < sizeLine) : Wp (aQ9 (.ref r) [y]) G Q ↔ Q .non (G.set r (.lst (l ++ [y]))) := by
 have e : aQ9 (.ref r) [y] = (do
  let l ← lstM r
  if l.length < sizeLine then do
   let _ ← bD8 r (.lst (l ++ [y]))
   pure .non
  else M.stuck) := rfl
 rw [e]
 unfold lstM
 simp only [j8, Q4, h, S5, j7, hl, if_true, aY5]
theorem aF0 {r : Nat} {l : List D} (h : G[r]? = some (.lst l)) : Wp (aB9 [.ref r]) G Q ↔ Q (.tup l) G := by
 have e : aB9 [.ref r] = (do
  let l ← Q3 r >>= DL.listOf
  pure (.tup l)) := rfl
 rw [e]
 simp only [j8, Q4, h, S5, DL.listOf, j7]
theorem cG5 {fs : DSt → M (List D)} {R : Src → DH → Prop} : Wp (U6 fs σ) G R ↔ Wp (fs σ) G fun xs G1 => Wp (match xs with
 | [.int j] => if -(2 ^ 62) ≤ j ∧ j < 2 ^ 62 then pure ⟨K8 0 j.toNat, fun _ => true⟩ else M.stuck
 | _ => M.stuck : M Src) G1 R := by
 delta U6; exact j8
theorem aG1 {j : Int} {R : Src → DH → Prop} (h : -(2 ^ 62) ≤ j ∧ j < 2 ^ 62) : Wp (match [D.int j] with
 | [.int j] => if -(2 ^ 62) ≤ j ∧ j < 2 ^ 62 then pure ⟨K8 0 j.toNat, fun _ => true⟩ else M.stuck
 | _ => M.stuck : M Src) G R ↔ R ⟨K8 0 j.toNat, fun _ => true⟩ G := by
 show Wp (if -(2 ^ 62) ≤ j ∧ j < 2 ^ 62 then pure ⟨K8 0 j.toNat, fun _ => true⟩ else M.stuck : M Src) G R ↔ _
 rw [if_pos h]; exact j7
theorem cJ8 {i j : Nat} {a b : List D} (ha : G[i]? = some (.lst a)) (hb : G[j]? = some (.lst b)) (hl : a.length + b.length ≤ sizeLine) : Wp (T4 (.ref i) (.ref j)) G Q ↔ Q (.ref G.length) (G ++ [.lst (a ++ b)]) := by
 have e : T4 (.ref i) (.ref j) = (do
  match ← Q3 i, ← Q3 j with
  | .lst a, .lst b => if a.length + b.length ≤ sizeLine then N7 (.lst (a ++ b)) else M.stuck
  | _, _ => M.stuck) := rfl
 rw [e]
 simp only [j8, Q4, ha, hb, S5, if_pos hl, aA7]
theorem bN8 {R : Option Int → DH → Prop} : Wp (aB5 σ) G R ↔ R none G := j7
theorem cI0 {f : Fe} {R : Option Int → DH → Prop} : Wp (aE0 f σ) G R ↔ Wp (f σ) G fun x G1 => ∃ i, x = .int i ∧ R (some i) G1 := by
 delta aE0
 refine Iff.trans j8 ?_
 constructor
 · rintro ⟨x, G1, e, q⟩
   refine ⟨x, G1, e, ?_⟩
   rcases x with _ | _ | i | _ | _ | _ | _ | _ <;> try (exact (aH4.mp q).elim; done)
   · exact ⟨i, rfl, j7.mp q⟩
 · rintro ⟨x, G1, e, i, rfl, q⟩
   exact ⟨_, G1, e, j7.mpr q⟩
theorem sl_tup {l : List D} {lo hi : Option Int} : Wp (slD (.tup l) lo hi) G Q ↔ Q (.tup (DL.cutD l lo hi)) G := j7
theorem eC5 {i : Int} {P : Int → Prop} : (∃ k, D.int i = .int k ∧ P k) ↔ P i := ⟨fun ⟨k, e, p⟩ => by cases e; exact p, fun p => ⟨i, rfl, p⟩⟩
end
def Fr2 (r p : Nat) (G G' : DH) : Prop := G.length ≤ G'.length ∧ (∀ i, i ≠ r → i ≠ p → i < G.length → G'[i]? = G[i]?) ∧ M9 G' r
theorem Fr2.trans {r p : Nat} {G G1 G2 : DH} (h : Fr2 r p G G1) (k : Fr2 r p G1 G2) : Fr2 r p G G2 :=
 ⟨Nat.le_trans h.1 k.1, fun i hi hp hl => by rw [k.2.1 i hi hp (by have := h.1; omega), h.2.1 i hi hp hl], k.2.2⟩
theorem Fr.two {r p : Nat} {G G1 : DH} (h : Fr r G G1) : Fr2 r p G G1 := ⟨h.1, fun i hi _ hl => h.2.1 i hi hl, h.2.2⟩
theorem Fr2.set {r p : Nat} {G : DH} {o : DO} (hp : p ≠ r) (h : M9 G r) : Fr2 r p G (G.set p o) := by
 refine ⟨by simp, fun i _ hi hl => by rw [List.getElem?_set_ne (Ne.symm hi)], ?_⟩
 obtain ⟨a, b, c, e, hr, hb⟩ := h
 exact ⟨a, b, c, e, by rw [List.getElem?_set_ne hp]; exact hr, hb⟩
theorem o4 {G : DH} {o : DO} : (G ++ [o])[G.length]? = some o := cH5
theorem R0 {G t : DH} {p : Nat} {o : DO} (e : G[p]? = some o) : (G ++ t)[p]? = some o := by
 have hlt : p < G.length := by
  by_cases hi : p < G.length
  · exact hi
  · rw [List.getElem?_eq_none (by omega)] at e; cases e
 rw [List.getElem?_append_left hlt]; exact e
noncomputable def Gr (G G' : DH) : Prop := G.length ≤ G'.length ∧ ∀ i, i < G.length → G'[i]? = G[i]?
theorem Gr.refl {G : DH} : Gr G G := ⟨Nat.le_refl _, fun _ _ => rfl⟩
theorem Gr.trans {G G1 G2 : DH} (h : Gr G G1) (k : Gr G1 G2) : Gr G G2 := ⟨Nat.le_trans h.1 k.1, fun i hi => by rw [k.2 i (by have := h.1; omega), h.2 i hi]⟩
theorem Gr.app {G t : DH} : Gr G (G ++ t) := ⟨by simp, fun i hi => List.getElem?_append_left hi⟩
theorem Gr.of {r : Nat} {G G1 G2 : DH} (h : Gr G G1) (f : Fr r G1 G2) (hr : G.length ≤ r) : Gr G G2 := ⟨Nat.le_trans h.1 f.1, fun i hi => by rw [f.2.1 i (by omega) (by have := h.1; omega), h.2 i hi]⟩
theorem Gr.at {p : Nat} {G G' : DH} {o : DO} (h : Gr G G') (e : G[p]? = some o) : G'[p]? = some o := by
 have hl : p < G.length := by
  by_cases hi : p < G.length
  · exact hi
  · rw [List.getElem?_eq_none (by omega)] at e; cases e
 rw [h.2 p hl]; exact e
theorem bZ1 : ∀ ns : List Int, aN8 (ns.map D.int) = some ns
 | [] => rfl
 | a :: r => by show (aN8 (r.map D.int)).map (a :: ·) = _; rw [bZ1 r]; rfl
theorem dH2 {G : DH} {p : Nat} {ns : List Int} {Q : DPP} (e : G[p]? = some (.rol (ns.map D.int))) : Wp (cM6 [.ref p]) G Q ↔ Q (.int ns.sum) G := by
 have h : cM6 [.ref p] = (do
  let l ← Q3 p >>= DL.listOf
  let ns ← aL8 (aN8 l)
  pure (.int ns.sum)) := rfl
 rw [h]
 simp only [j8, Q4, e, S5, DL.listOf, j7, aO3, bZ1]
theorem dF7 {G : DH} {p q : Nat} {xs : List D} {Q : DPP} (e : G[p]? = some (.rol xs)) (eq : G[q]? = some (.lst [])) : Wp (neD (.ref p) (.ref q)) G Q ↔ Q (.bl (!xs.isEmpty)) G := by
 have h : eqN 40 G (.ref p) (.ref q) = some xs.isEmpty := by
  have h1 : X7 G (.ref p) = some (false, xs) := by delta X7; dsimp only; rw [e]
  have h2 : X7 G (.ref q) = some (false, []) := by delta X7; dsimp only; rw [eq]
  rw [aR5, h1, h2]
  cases xs <;> rfl
 rw [dA5, h]; exact S5
theorem bE8 {G : DH} {σ : DSt} {p : Nat} {l : List D} {R : Src → DH → Prop} (e : G[p]? = some (.lst l)) : Wp (aH6 (.ref p)) G R ↔ R ⟨l, ckO p (.lst l)⟩ G := by
 have h : aH6 (.ref p) = (do
  let o ← Q3 p
  let l ← DL.listOf o
  pure ⟨l, ckO p o⟩) := rfl
 rw [h]
 simp only [j8, Q4, e, S5, DL.listOf, j7]
theorem dQ6 {G : DH} {p : Nat} {l : List D} {lo hi : Option Int} {Q : DPP} (e : G[p]? = some (.rol l)) : Wp (slD (.ref p) lo hi) G Q ↔ Q (.ref G.length) (G ++ [.lst (DL.cutD l lo hi)]) := by
 have h : slD (.ref p) lo hi = (do
  let l ← Q3 p >>= DL.listOf
  N7 (.lst (DL.cutD l lo hi))) := rfl
 rw [h]
 simp only [j8, Q4, e, S5, DL.listOf, j7, aA7]
theorem cS4 {G : DH} {σ : DSt} {fs : DSt → M (List D)} {R : Src → DH → Prop} : Wp (aY4 fs σ) G R ↔ Wp (fs σ) G fun xs G1 => Wp (match xs with
 | [.ref r] => do
   let s ← aH6 (.ref r)
   pure ⟨s.items.zipIdx.map fun p => .tup [.int ((p.2 : Nat) : Int), p.1], s.ck⟩
 | _ => M.stuck : M Src) G1 R := by
 delta aY4; exact j8
theorem cS1 {G : DH} {p : Nat} {l : List D} {R : Src → DH → Prop} (e : G[p]? = some (.lst l)) : Wp (match [D.ref p] with
 | [.ref r] => do
   let s ← aH6 (.ref r)
   pure ⟨s.items.zipIdx.map fun p => .tup [.int ((p.2 : Nat) : Int), p.1], s.ck⟩
 | _ => M.stuck : M Src) G R ↔ R ⟨l.zipIdx.map fun p => .tup [.int ((p.2 : Nat) : Int), p.1], ckO p (.lst l)⟩ G := by
 show Wp (do
  let s ← aH6 (.ref p)
  pure ⟨s.items.zipIdx.map fun p => .tup [.int ((p.2 : Nat) : Int), p.1], s.ck⟩ : M Src) G R ↔ _
 simp only [j8]
 rw [bE8 (σ := []) e]
 exact j7
section
variable {G : DH} {σ : DSt} {Q : DPP}
theorem cU4 {o o' : D → D → M D} {a b c : Fe} : Wp (bP8 o o' a b c σ) G Q ↔ Wp (a σ) G fun x G1 => Wp (b σ) G1 fun y G2 => Wp (o x y) G2 fun z G3 => ∃ k, z = .bl k ∧ if k = true then Wp (c σ) G3 fun w G4 => Wp (o' y w) G4 Q else Q (.bl false) G3 := by
 unfold bP8; simp only [j8, bT7, aO8, j7]
theorem wp_trueT {B : Bool → DH → Prop} : Wp (U4 σ) G B ↔ B true G := j7
variable {g : Fg} {t : DSt → M Bool} {e : Fe} {ck : DH → Bool} {R : List D → DH → Prop}
theorem cA6 : Wp (M5 g t e ck [] σ) G R ↔ ck G = true ∧ R [] G := by
 unfold M5
 constructor
 · rintro ⟨a, G', e, q⟩
   by_cases h : ck G = true
   · simp only [h, if_true] at e; cases e; exact ⟨h, q⟩
   · simp only [h] at e; cases e
 · rintro ⟨h, q⟩
   exact ⟨_, G, by simp only [h, if_true], q⟩
theorem cB8 {d : D} {r : List D} : Wp (M5 g t e ck (d :: r) σ) G R ↔ ck G = true ∧ Wp (g d σ) G fun σ1 G1 => Wp (t σ1) G1 fun b G2 => if b = true then Wp (e σ1) G2 fun y G3 => Wp (M5 g t e ck r σ1) G3 fun ys G4 => R (y :: ys) G4 else Wp (M5 g t e ck r σ1) G2 R := by
 have h0 : Wp (M5 g t e ck (d :: r) σ) G R ↔ ck G = true ∧ Wp (do
  let σ1 ← g d σ
  if ← t σ1 then do
   let y ← e σ1
   let ys ← M5 g t e ck r σ1
   pure (y :: ys)
  else M5 g t e ck r σ1 : M (List D)) G R := by
  rw [M5]
  constructor
  · rintro ⟨a, G', e, q⟩
    by_cases h : ck G = true
    · simp only [h, if_true] at e; exact ⟨h, a, G', e, q⟩
    · simp only [h] at e; cases e
  · rintro ⟨h, a, G', e, q⟩
    exact ⟨a, G', by simp only [h, if_true]; exact e, q⟩
 rw [h0]
 simp only [j8, aO8, j7]
theorem wp_comp {it : DSt → M Src} {caps : List (Option Nat)} : Wp (Q8 it caps g t e σ) G Q ↔ Wp (it σ) G fun s G1 => s.items.length ≤ sizeLine ∧ Wp (M5 g t e s.ck s.items (X3 caps σ)) G1 fun ys G2 => Q (.ref G2.length) (G2 ++ [.lst ys]) := by
 unfold Q8
 simp only [j8]
 constructor
 · rintro ⟨s, G1, e1, q⟩
   refine ⟨s, G1, e1, ?_⟩
   by_cases h : s.items.length ≤ sizeLine
   · rw [if_pos h] at q
     simp only [j8, cF4, aA7] at q
     exact ⟨h, q⟩
   · rw [if_neg h] at q; exact (aH4.mp q).elim
 · rintro ⟨s, G1, e1, h, q⟩
   refine ⟨s, G1, e1, ?_⟩
   dsimp only
   rw [if_pos h]
   simp only [j8, cF4, aA7]
   exact q
theorem bO4 (J : DH → Prop) (S : DSt → Prop) (P : D → Prop) (hck : ∀ G, J G → ck G = true) : ∀ (items : List D) (σ : DSt) (G : DH), S σ → J G →
 (∀ d ∈ items, ∀ σ G, S σ → J G → Wp (g d σ) G fun σ1 G1 => G1 = G ∧ S σ1 ∧ Wp (t σ1) G fun b G2 => b = true ∧ G2 = G ∧ Wp (e σ1) G fun y G3 => J G3 ∧ P y) →
 Wp (M5 g t e ck items σ) G fun ys G' => J G' ∧ ys.length = items.length ∧ ∀ y ∈ ys, P y
 | [], σ, G, s, j, _ => by
   rw [cA6]
   exact ⟨hck G j, j, rfl, fun y hy => by cases hy⟩
 | d :: r, σ, G, s, j, step => by
   rw [cB8]
   refine ⟨hck G j, Wp.mono (step d (by simp) σ G s j) fun σ1 G1 ⟨e1, s1, w1⟩ => ?_⟩
   subst e1
   refine Wp.mono w1 fun b G2 ⟨eb, e2, w2⟩ => ?_
   subst eb e2
   rw [if_pos rfl]
   refine Wp.mono w2 fun y G3 ⟨j3, py⟩ => ?_
   refine Wp.mono (bO4 J S P hck r σ1 G3 s1 j3 fun d hd => step d (by simp [hd])) fun ys G4 ⟨j4, l4, p4⟩ => ⟨j4, by simp [l4], fun z hz => ?_⟩
   rcases List.mem_cons.mp hz with rfl | hz
   · exact py
   · exact p4 z hz
theorem aC7 {p : D → Bool} {G : DH} (hck : ck G = true) (S : DSt → Prop) : ∀ (items : List D) (σ : DSt), S σ →
 (∀ d ∈ items, ∀ σ, S σ → ∃ σ1, g d σ G = some (.ok σ1, G) ∧ S σ1 ∧ t σ1 G = some (.ok (p d), G) ∧ e σ1 G = some (.ok d, G)) → M5 g t e ck items σ G = some (.ok (items.filter p), G)
 | [], σ, _, _ => by unfold M5; simp only [hck, if_true, List.filter_nil]
 | d :: r, σ, i, h => by
   obtain ⟨σ1, h1, i1, h2, h3⟩ := h d (by simp) σ i
   have h4 := aC7 hck S r σ1 i1 fun d hd => h d (by simp [hd])
   unfold M5
   simp only [hck, if_true]
   rw [M.bind_ok h1, M.bind_ok h2]
   by_cases hp : p d = true
   · rw [if_pos hp, M.bind_ok h3, M.bind_ok h4, List.filter_cons_of_pos hp]
     rfl
   · rw [if_neg hp, h4, List.filter_cons_of_neg hp]
end
section
variable {G : DH} {σ : DSt} {Q : DPP}
theorem cL2 {a b : Str} : Wp (leD (.str a) (.str b)) G Q ↔ Q (.bl (!decide (b.cps.toList < a.cps.toList))) G := j7
theorem cX0 {a b : Str} (h : a.length + b.length ≤ sizeLine) : Wp (T4 (.str a) (.str b)) G Q ↔ Q (.str (a ++ b)) G := by
 have e : T4 (.str a) (.str b) = if a.length + b.length ≤ sizeLine then pure (.str (a ++ b)) else M.stuck := rfl
 rw [e, if_pos h]; exact j7
theorem bF1 {z : Str} (h : z.length ≤ sizeLine) : Wp (aT8 [.str z]) G Q ↔ Q (.int z.length) G := by
 have e : aT8 [.str z] = if z.length ≤ sizeLine then pure (.int z.length) else M.stuck := rfl
 rw [e, if_pos h]; exact j7
theorem cZ0 {p : Nat} {l : List D} {R : Src → DH → Prop} (e : G[p]? = some (.lst l)) : Wp (dE9 (.ref p)) G R ↔ R ⟨l, ckO p (.lst l)⟩ G := bE8 (σ := []) e
end
noncomputable def cA4 (c : Nat) : Bool := decide (97 ≤ c) && decide (c ≤ 122)
def aH5 (z : Str) : Bool := z.cps.toList.all cA4
theorem eF8 (c : Nat) : (!decide ((⟨#[c]⟩ : Str).cps.toList < ("a" : Str).cps.toList)) = decide (97 ≤ c) := by
 have e : ("a" : Str).cps.toList = [97] := by rfl
 rw [e]
 show (!decide ([c] < [97])) = _
 by_cases h : 97 ≤ c
 · have : ¬ c < 97 := by lia
   simp [h, List.cons_lt_cons_iff, this]
 · have : c < 97 := by lia
   simp [h, List.cons_lt_cons_iff, this]
theorem eG1 (c : Nat) : (!decide (("z" : Str).cps.toList < (⟨#[c]⟩ : Str).cps.toList)) = decide (c ≤ 122) := by
 have e : ("z" : Str).cps.toList = [122] := by rfl
 rw [e]
 show (!decide ([122] < [c])) = _
 by_cases h : c ≤ 122
 · have : ¬ 122 < c := by lia
   simp [h, List.cons_lt_cons_iff, this]
 · have : 122 < c := by lia
   simp [h, List.cons_lt_cons_iff, this]
end W
namespace DL
open PySem PySem.Spec L2
open PyProof.Rows hiding St
section
variable {prog : Program} {w : World} {A : Around} {E : VSP} {s : Shared} {I l : Addr} {items : Array Value}
end
section
variable {X : Cx} {Z : XC} {e : Expr} {fa : Fe} {p1 p2 pos1 pos2 : Pos}
end
end DL
namespace DL
open PySem PySem.Spec L2 Builtin Builtin.Str
open PyProof.Rows hiding St
section
variable {X : Cx} {Z : XC} {e : Expr} {fa : Fe} {p2 pos : Pos} {lo hi : Option Expr} {fl fh : Fo}
theorem cJ6 {v : Value} {o : Option Int} (p : IsPart v o) : ∃ l : Option (Int × Tok), v = partValue l ∧ l.map (·.1) = o := by
 cases p with
 | none => exact ⟨none, rfl, rfl⟩
 | int i t => exact ⟨some (i, t), rfl, rfl⟩
theorem dS1 : SlR X (fun x lo hi H Q => ∃ z, x = .str z ∧ z.length ≤ sizeLine ∧ Q (.str (Txt.slice z lo hi)) H) := by
 intro pins s σ H x v vl vu lo hi sl Q I rx hs pl pu h
 obtain ⟨z, rfl, hz, q⟩ := h
 obtain ⟨t, rfl⟩ := rx
 obtain ⟨l, el, eml⟩ := cJ6 pl
 obtain ⟨u, eu, emu⟩ := cJ6 pu
 subst el eu eml emu
 refine ⟨"str", _, PySem.F.slot_str_getitem.lookup, typeIs_str _ z t, ?_⟩
 refine wpAny_getItem_str_slice (l := l) (u := u) (st := none) (let ⟨o, h1, h2, h3⟩ := hs; ⟨o, h1, h2, h3⟩) rfl ?_
 unfold sliceMade
 unfold Txt.slice at q
 unfold slicePicked
 have e1 : ((Option.map (fun x : Int × Tok => x.1) none).getD 1) = (1 : Int) := rfl
 simp only [e1]
 by_cases hc : ((1 : Int) == 1 && (strSliceIndices (l.map (·.1)) (u.map (·.1)) 1 z.length).length == z.length) = true
 · rw [if_pos hc] at q
   rw [if_pos hc]
   exact ⟨.str z, H, I, ⟨t, rfl⟩, q⟩
 · rw [if_neg hc] at q
   rw [if_neg hc]
   refine ⟨?_, .str _, H, I.tok _, ⟨_, rfl⟩, q⟩
   have hle := Txt.slice_le z (l.map (·.1)) (u.map (·.1))
   unfold Txt.slice at hle
   rw [if_neg hc] at hle
   exact Nat.le_trans hle hz
def slT : D → Option Int → Option Int → M D := fun x lo hi => match x with
 | .str z => if z.length ≤ sizeLine then pure (.str (Txt.slice z lo hi)) else M.stuck
 | .tup l => slD (.tup l) lo hi
 | .ref r => slD (.ref r) lo hi
 | _ => M.stuck
def X8 (f : Fe) (lo hi : Fo) : Fe := fun σ => do
 let x ← f σ
 let l ← lo σ
 let h ← hi σ
 slT x l h
theorem dL0 : SlD X Z slT := SlR.mono (dS1.or (dY4 (Z := Z))) fun x lo hi H Q ⟨dx, μ, G, rx, hr, p⟩ => by
 rcases dx with _ | _ | _ | z | l | r | _ | _ <;> try (exact p.elim; done)
 ·
   unfold slT at p
   dsimp only at p
   split at p
   · rename_i hz
     exact .inl ⟨z, bE0 rx, hz, d9.ok p hr _ (by unfold g8; rfl)⟩
   · exact p.elim
 · exact .inr ⟨.tup l, μ, G, rx, hr, p⟩
 · exact .inr ⟨.ref r, μ, G, rx, hr, p⟩
theorem de_sliceT (he : DE X Z e fa) (hl : DOp X Z lo fl) (hu : DOp X Z hi fh) : DE X Z (.Subscript e (.Slice lo hi none p2) pos) (X8 fa fl fh) :=
 DE.of (cX5 dL0 he.h hl.h hu.h) fun σ H Q hE0 => hE0.elim fun dσ μ G s h p => ⟨dσ, μ, G, s, h, (d9.bind p).mono fun d μ1 G1 H1 x1 h1 p1 v rv =>
  ⟨dσ, μ1, G1, s.mono x1, h1, (d9.bind p1).mono fun l μ2 G2 H2 x2 h2 p2 => ⟨dσ, μ2, G2, s.mono (x1.trans x2), h2, (d9.bind p2).mono fun u μ3 G3 H3 x3 h3 p3 => ⟨d, μ3, G3, rv.mono (x2.trans x3), h3, p3⟩⟩⟩⟩
end
section
variable {X : Cx} {Z : XC} {e : Expr} {fa : Fe} {p2 pos : Pos}
end
end DL
namespace W
open PySem PySem.Spec L2 DL Builtin Builtin.Str
open PyProof.Rows hiding St
section
variable {G : DH} {σ : DSt} {Q : DPP}
theorem aZ2 {f : Fe} {lo hi : Fo} : Wp (X8 f lo hi σ) G Q ↔ Wp (f σ) G fun x G1 => Wp (lo σ) G1 fun l G2 => Wp (hi σ) G2 fun h G3 => Wp (slT x l h) G3 Q := by
 unfold X8; simp only [j8]
end
end W
namespace DL
open PySem PySem.Spec L2
open PyProof.Rows hiding St
def bX1 : D → D → M D := fun x y => match y with
 | .non => pure (.bl (cD3 x))
 | .bl c => match x with
   | .bl d => pure (.bl (d == c))
   | _ => M.stuck
 | _ => M.stuck
def aF6 : D → D → M D := fun x y => match y with
 | .non => pure (.bl (!cD3 x))
 | .bl c => match x with
   | .bl d => pure (.bl (d != c))
   | _ => M.stuck
 | _ => M.stuck
def dQ7 (a b : Fe) : Fe := fun σ => do
 let x ← a σ
 if ← aC5 x then pure x else b σ
def V8 (a b : Fe) : Fe := fun σ => do
 let x ← a σ
 if ← aC5 x then b σ else pure x
section
variable {X : Cx} {Z : XC} {a b : Expr} {fa fb : Fe} {pos : Pos}
theorem dO1 : OpR X (compareOp .Is) (fun x y H Q => (y = .non ∧ Q (.bl (decide (x = .non))) H) ∨ ∃ c d, x = .bl c ∧ y = .bl d ∧ Q (.bl (c == d)) H) := by
 intro pins s σ H x y v u Q I rx ry h
 rcases h with h | ⟨c, d, rfl, rfl, q⟩
 · exact dR2 pins s σ H x y v u Q I rx ry h
 · cases rx
   cases ry
   exact is_bool ⟨.bl (c == d), H, I, rfl, q⟩
theorem cN2 : OpR X (compareOp .IsNot) (fun x y H Q => (y = .non ∧ Q (.bl (!decide (x = .non))) H) ∨ ∃ c d, x = .bl c ∧ y = .bl d ∧ Q (.bl (c != d)) H) := by
 intro pins s σ H x y v u Q I rx ry h
 rcases h with h | ⟨c, d, rfl, rfl, q⟩
 · exact dI8 pins s σ H x y v u Q I rx ry h
 · cases rx
   cases ry
   exact isnot_bool ⟨.bl (c != d), H, I, rfl, q⟩
theorem od_isC : OpD X Z (compareOp .Is) bX1 := OpD.of dO1 fun x y H Q hE0 => hE0.elim fun dx dy μ G rdx rdy hr p => by
 rcases dy with _ | d | _ | _ | _ | _ | _ | _ <;> try (exact p.elim; done)
 · exact .inl ⟨cY9 rdy, by rw [cJ9 rdx]; exact d9.ok p hr _ ofB⟩
 ·
   rcases dx with _ | c | _ | _ | _ | _ | _ | _ <;> try (exact p.elim; done)
   · exact .inr ⟨c, d, bU3 rdx, bU3 rdy, d9.ok p hr _ ofB⟩
theorem od_isnotC : OpD X Z (compareOp .IsNot) aF6 := OpD.of cN2 fun x y H Q hE0 => hE0.elim fun dx dy μ G rdx rdy hr p => by
 rcases dy with _ | d | _ | _ | _ | _ | _ | _ <;> try (exact p.elim; done)
 · exact .inl ⟨cY9 rdy, by rw [cJ9 rdx]; exact d9.ok p hr _ ofB⟩
 ·
   rcases dx with _ | c | _ | _ | _ | _ | _ | _ <;> try (exact p.elim; done)
   · exact .inr ⟨c, d, bU3 rdx, bU3 rdy, d9.ok p hr _ ofB⟩
theorem bA4 {α : Type} {μ : List Addr} {H : Hp} {G : DH} {d : D} {v : V} {f : Bool → M α} {K : α → List Addr → DH → Hp → Prop} (h : t7 (wc X) μ G H) (rv : g8 (wc X) μ H d v) (p : d9 (wc X) Z μ H ((aC5 d >>= f) G) K) :
 ∃ k, dO4 X.K v H k ∧ d9 (wc X) Z μ H (f k G) K := by
 have p1 := d9.bind p
 rcases d with _ | b | b | y | l | r | _ | _ <;> try (exact p1.elim; done)
 · rw [cY9 rv]; exact ⟨false, rfl, d9.ok p1 h⟩
 · rw [bU3 rv]; exact ⟨b, rfl, d9.ok p1 h⟩
 · rw [aE5 rv]; exact ⟨_, rfl, d9.ok p1 h⟩
 ·
   rw [bE0 rv]
   unfold aC5 at p1
   dsimp only at p1
   split at p1
   · rename_i hz; exact ⟨_, ⟨hz, rfl⟩, d9.ok p1 h⟩
   · exact p1.elim
 ·
   unfold g8 at rv
   obtain ⟨a, vs, rfl, q, rl⟩ := rv
   exact ⟨!vs.isEmpty, .inr (.inl ⟨vs, q, rfl⟩), by rw [aC0 rl]; exact d9.ok p1 h⟩
 ·
   unfold g8 at rv
   obtain ⟨a, m, rfl⟩ := rv
   obtain ⟨o, g, p2⟩ := N8 p1
   have ro := h.obj r o a g m
   rcases o with l | l | l | l
   · obtain ⟨vs, q, rl⟩ := ro; exact ⟨!vs.isEmpty, .inl ⟨vs, SqL.of q, rfl⟩, by rw [aC0 rl]; exact d9.ok p2 h⟩
   · obtain ⟨vs, q, rl⟩ := ro; exact ⟨!vs.isEmpty, .inl ⟨vs, q.sq, rfl⟩, by rw [aC0 rl]; exact d9.ok p2 h⟩
   · obtain ⟨vs, q, rl⟩ := ro; exact ⟨!vs.isEmpty, .inr (.inr ⟨vs, q, rfl⟩), by rw [bG7 rl]; exact d9.ok p2 h⟩
   · exact p2.elim
theorem de_orV {Z4 : List Expr} (ha : DE X Z a fa) (hb : DE X Z (.BoolOp .Or (b :: Z4) pos) fb) : DE X Z (.BoolOp .Or (a :: b :: Z4) pos) (dQ7 fa fb) := by
 refine ⟨?_⟩
 intro pins s σ H Q I hE0
 refine hE0.elim fun dσ μ G sr h p => ?_
 refine BoolOp_or (thn (ha.h pins s σ H _ I ⟨dσ, μ, G, sr, h, (d9.bind p).mono fun d μ1 G1 H1 x1 h1 p1 v rv => (⟨d, μ1, G1, x1, rv, h1, p1⟩ : ∃ d μ1 G1, Ext μ H μ1 H1 ∧ g8 (wc X) μ1 H1 d v ∧ t7 (wc X) μ1 G1 H1 ∧ d9 (wc X) Z μ1 H1 ((aC5 d >>= fun k => if k = true then pure d else fb dσ) G1) fun d μ' _ H' => ∀ v, g8 (wc X) μ' H' d v → Q v H')⟩) fun v s1 ⟨x, H1, I1, r1, d, μ1, G1, x1, rd, h1, p1⟩ => ?_)
 obtain ⟨k, tk, p2⟩ := bA4 h1 rd p1
 refine thn (cD4 pins s1 σ H1 x v (fun c H' => c = k ∧ H' = H1) I1 r1 ⟨k, tk, rfl, rfl⟩) fun c s2 ⟨H2, I2, e1, e2⟩ => ?_
 subst e1 e2
 rcases c with _ | _
 · exact hb.h pins s2 σ H2 Q I2 ⟨dσ, μ1, G1, sr.mono x1, h1, p2⟩
 · exact ⟨x, H2, I2, r1, d9.ok p2 h1 _ rd⟩
theorem de_andV {Z4 : List Expr} (ha : DE X Z a fa) (hb : DE X Z (.BoolOp .And (b :: Z4) pos) fb) : DE X Z (.BoolOp .And (a :: b :: Z4) pos) (V8 fa fb) := by
 refine ⟨?_⟩
 intro pins s σ H Q I hE0
 refine hE0.elim fun dσ μ G sr h p => ?_
 refine BoolOp_and (thn (ha.h pins s σ H _ I ⟨dσ, μ, G, sr, h, (d9.bind p).mono fun d μ1 G1 H1 x1 h1 p1 v rv => (⟨d, μ1, G1, x1, rv, h1, p1⟩ : ∃ d μ1 G1, Ext μ H μ1 H1 ∧ g8 (wc X) μ1 H1 d v ∧ t7 (wc X) μ1 G1 H1 ∧ d9 (wc X) Z μ1 H1 ((aC5 d >>= fun k => if k = true then fb dσ else pure d) G1) fun d μ' _ H' => ∀ v, g8 (wc X) μ' H' d v → Q v H')⟩) fun v s1 ⟨x, H1, I1, r1, d, μ1, G1, x1, rd, h1, p1⟩ => ?_)
 obtain ⟨k, tk, p2⟩ := bA4 h1 rd p1
 refine thn (cD4 pins s1 σ H1 x v (fun c H' => c = k ∧ H' = H1) I1 r1 ⟨k, tk, rfl, rfl⟩) fun c s2 ⟨H2, I2, e1, e2⟩ => ?_
 subst e1 e2
 rcases c with _ | _
 · exact ⟨x, H2, I2, r1, d9.ok p2 h1 _ rd⟩
 · exact hb.h pins s2 σ H2 Q I2 ⟨dσ, μ1, G1, sr.mono x1, h1, p2⟩
end
end DL
namespace W
open PySem PySem.Spec L2 DL
open PyProof.Rows hiding St
section
variable {G : DH} {σ : DSt} {Q : DPP} {a b : Fe}
theorem bE6 : Wp (V8 a b σ) G Q ↔ Wp (a σ) G fun x G1 => Wp (aC5 x) G1 fun k G2 => if k = true then Wp (b σ) G2 Q else Q x G2 := by unfold V8; simp only [j8, aO8, j7]
theorem dG1 {c d : Bool} : Wp (aF6 (.bl c) (.bl d)) G Q ↔ Q (.bl (c != d)) G := j7
end
end W
namespace DL
open PySem PySem.Spec L2
open PyProof.Rows hiding St
structure b8 (F : List D → M D) (n : Nat) (x : Str) (P : Program) (w : World) (K : PySem.W.Frag) (mg : Str → Option Value) (base : Heap) (k : Nat) : Prop where
 ex : ∃ f fd ps, J9 P w K mg base CX0 k f fd ps (spD ⟨K, mg⟩ n F) ∧ mg x = some (.ref f) ∧ PySem.W.keepIn K (.ref f) = true ∧ aV4 K fd ps []
theorem b8.of {P : Program} {w : World} {K : PySem.W.Frag} {mg : Str → Option Value} {base : Heap} {k n : Nat} {x : Str} {st : Stmt} {ps : List Str} {f : Addr} {fd : FuncData} {F : List D → M D} (c : FF K mg x st ps f fd) (h : J9 P w K mg base CX0 k f fd ps (spD ⟨K, mg⟩ n F)) : b8 F n x P w K mg base k :=
 ⟨f, fd, ps, h, c.m, c.F.kp, c.b⟩
noncomputable def bltL : List Str := ["len", "isinstance", "all", "any", "sum", "min", "max", "abs", "sorted", "tuple", "list", "int", "str", "bool", "dict", "zip", "enumerate", "range", "reversed"]
structure BLs (mg : Str → Option Value) : Prop where
 h : ∀ b ∈ bltL, mg b = none
theorem aS9 {p : Pos} {l : List (Bool × Sem Value)} : (backTo p l).any (·.1) = l.any (·.1) := by
 unfold backTo
 rw [List.any_map]
 rfl
theorem aW5 {env : Env} : ∀ {es : List Expr}, es.all V0 = true → (starEach es env).any (·.1) = false
 | [], _ => rfl
 | e :: es, h => by
   rw [List.all_cons, Bool.and_eq_true] at h
   rw [q17 h.1, List.any_cons, aW5 h.2]
   rfl
section
variable {X : Cx} {Z : XC} {a b c e : Expr} {es : List Expr} {fa fb fc : Fe} {fs : DSt → M (List D)} {pos p : Pos} {x : Str}
theorem dg_nm {i : Nat} (hN : ∃ N ps sc, m8 N ps sc ∧ X.N = N) (hi : X.N[i]? = some x) (hx : Loc X.env.scope x) (hf : X.fn x = true ∨ X.env.scope.names.lookup x = some .local) : DG X Z (.Name x pos) (q16 i) := by
 obtain ⟨N, ps, sc, S, e⟩ := hN
 exact dg_name (by rw [e]; exact S.nd) hi hx hf
theorem da_c (ha : DE X Z e fa) (hr : DA X Z es fs) (hs : V0 e = true) : DA X Z (e :: es) (q13 fa fs) := q18 ha hr (q17 hs)
theorem de_callC {F : List D → M D} {n : Nat} (hF : ∃ k kk, b8 F n x X.prog X.w X.K X.mg X.base k ∧ aH0 kk X.A ∧ k ≤ kk) (hg : Gl X x) (ha : DA X Z (e :: es) fs) (hdb : (x == ("__debug__" : Str)) = false) (hs : (e :: es).all V0 = true) :
 DE X Z (.Call (.Name x p) (e :: es) [] pos) (q15 (fnX n F) fs) := by
 obtain ⟨k, kk, hF, hr, hk⟩ := hF
 obtain ⟨f, fd, ps, h1, h2, h3, h4⟩ := hF.ex
 rw [List.all_cons, Bool.and_eq_true] at hs
 exact dG9 h1 (hr.mono hk) hg h2 h3 h4 ha hdb (q17 hs.1) (by rw [aS9]; exact aW5 hs.2)
structure BD (F : List D → M D) (x : Str) (X : Cx) (Z : XC) : Prop where
 ex : (∃ id, Z6 X Z (.builtin id) F ∧ bootBuiltins x = some (.builtin id)) ∨ (∃ T, Z6 X Z (.type T) F ∧ bootBuiltins x = some (.type T))
theorem de_blt {F : List D → M D} (hc : X.calm = true) (hF : X.calm = true → BD F x X Z) (hb : BLs X.mg) (hx : bltL.elem x = true) (hg : Gl X x) (ha : DA X Z (e :: es) fs) (hn : x ≠ "__name__") (hdb : (x == ("__debug__" : Str)) = false) (hs : (e :: es).all V0 = true) :
 DE X Z (.Call (.Name x p) (e :: es) [] pos) (q15 F fs) := by
 have hm := hb.h x (List.elem_iff.mp hx)
 rw [List.all_cons, Bool.and_eq_true] at hs
 rcases (hF hc).ex with ⟨id, h1, h2⟩ | ⟨T, h1, h2⟩
 · exact dA3 h1 hg hm h2 ha hn hdb (q17 hs.1) (by rw [aS9]; exact aW5 hs.2)
 · exact cM5 h1 hg hm h2 ha hn hdb (q17 hs.1) (by rw [aS9]; exact aW5 hs.2)
theorem bd_len (_ : X.calm = true) : BD aT8 "len" X Z := ⟨.inl ⟨_, dQ5, dR4⟩⟩
theorem bd_isinstance (_ : X.calm = true) : BD N5 "isinstance" X Z := ⟨.inl ⟨_, cP1, bK4⟩⟩
theorem bd_all (h : X.calm = true) : BD aK1 "all" X Z := ⟨.inl ⟨_, dO2 h, dP1⟩⟩
theorem bd_any (h : X.calm = true) : BD cM8 "any" X Z := ⟨.inl ⟨_, dQ3 h, dM6⟩⟩
theorem bd_sum (h : X.calm = true) : BD cM6 "sum" X Z := ⟨.inl ⟨_, dR9 h, dN6⟩⟩
theorem bd_min (h : X.calm = true) : BD cN0 "min" X Z := ⟨.inl ⟨_, dN0 h, dP8⟩⟩
theorem bd_tuple (_ : X.calm = true) : BD aB9 "tuple" X Z := ⟨.inr ⟨_, cU5, cW5⟩⟩
theorem bd_list (_ : X.calm = true) : BD cG9 "list" X Z := ⟨.inr ⟨_, dC8, cH3⟩⟩
theorem dI4 : ∀ n ∈ ["int", "bool", "str", "tuple", "list", "dict"], bootBuiltins (Str.ofString n) = some (.type n) := by decide +kernel
theorem de_tyN {n : String} (hb : BLs X.mg) (hn : n ∈ ["int", "bool", "str", "tuple", "list", "dict"]) (hx : bltL.elem (Str.ofString n) = true) (hg : Gl X (Str.ofString n)) (hnn : Str.ofString n ≠ "__name__") (hd : (Str.ofString n == ("__debug__" : Str)) = false) : DE X Z (.Name (Str.ofString n) pos) (cE (.ty n)) :=
 dV9 hg (hb.h _ (List.elem_iff.mp hx)) (dI4 n hn) hnn hd
variable {tg : Expr} {tp : Pos} {x1 : Nat} {es1 : List Expr}
theorem di_r1 (hb : BLs X.mg) (hg : Gl X "range") (ha : DA X Z [a] fs) (hs : V0 a = true) : DI X Z tg (.Call (.Name "range" p) [a] [] pos) (U6 fs) := dD8 hg (hb.h _ (by decide +kernel)) ha (aJ4 hs)
theorem di_z (hb : BLs X.mg) (hg : Gl X "zip") (ha : DA X Z [a, b] fs) (hs : V0 a = true) (hs2 : V0 b = true) : DI X Z (.Tuple es1 x1 tp) (.Call (.Name "zip" p) [a, b] [] pos) (bI3 fs) := dN3 hg (hb.h _ (by decide +kernel)) ha (bW3 hs hs2) (aJ4 hs2) dA6
theorem di_e (hb : BLs X.mg) (hg : Gl X "enumerate") (ha : DA X Z [a] fs) (hs : V0 a = true) : DI X Z (.Tuple es1 x1 tp) (.Call (.Name "enumerate" p) [a] [] pos) (aY4 fs) := dE2 hg (hb.h _ (by decide +kernel)) ha (aJ4 hs) bV3
noncomputable def aY1 (sc : Scope) : List Str := (sc.names.filterMap fun y => if y.2 == .local && y.1 != (".0" : Str) then some y.1 else none) ++ (sc.names.filterMap fun y => if y.2 == .free then some y.1 else none)
variable {elt iter : Expr} {ifs : List Expr} {scope : Scope} {caps : List (Option Nat)} {it : DSt → M Src} {gg : Fg} {tt : DSt → M Bool} {fe : Fe}
theorem de_cmpr (hc : X.calm = true) (hi : DI X Z tg iter it) (k : ∃ XN ps osc, m8 XN ps osc ∧ X.env.scope = osc ∧ X.N = XN ∧ bS6 osc scope (aY1 scope) XN caps = true) (nd : (aY1 scope).Nodup)
 (hg : (aY1 scope).Nodup → ∀ C s H ex, DG (W6 X scope (aY1 scope) C s H ex) ZF tg gg) (ht : ∀ C s H ex, DTs (W6 X scope (aY1 scope) C s H ex) ZF ifs tt) (he : ∀ C s H ex, DE (W6 X scope (aY1 scope) C s H ex) ZF elt fe)
 (hf : ∀ x, foldedSetIterable iter X.env x = pure x) : DE X Z (.ListComp elt [⟨tg, iter, ifs, 0⟩] scope pos) (Q8 it caps gg tt fe) := let ⟨_, _, _, _, hs, hN, k⟩ := k; dC1 hc hi (aF2.of k hs hN) (hg nd) ht he hf
end
section
variable {X : Cx} {Z : XC}
end
end DL
namespace W
open PySem PySem.Spec L2 DL
open PyProof.Rows hiding St
section
variable {G : DH} {Q : DPP}
end
end W
namespace DL
open PySem PySem.Spec L2
open PyProof.Rows hiding St
def Itd (a : Addr) (o : Obj) (kvs : List (Key × V)) : It :=
 ⟨fun i H => H a = some (.frz o (.dK kvs)) ∧ ∃ kv, kvs[i]? = some kv, fun i H x H' => H' = H ∧ ∃ kv, kvs[i]? = some kv ∧ x = kV kv.1, fun i H => H a = some (.frz o (.dK kvs)) ∧ kvs.length ≤ i⟩
theorem dA0 {κ : Type} : ∀ {kvs : List (κ × V)} {vs : List (κ × Value)} {i : Nat} {kv : κ × V}, KV kvs vs → kvs[i]? = some kv → ∃ v, vs[i]? = some (kv.1, v)
 | _, _, _, _, .nil, e => by simp at e
 | _, _, 0, _, .cons h t, e => by
   simp only [List.getElem?_cons_zero, Option.some.injEq] at e
   subst e
   exact ⟨_, by rw [List.getElem?_cons_zero, h.1]⟩
 | _, _, i + 1, _, .cons h t, e => by
   simp only [List.getElem?_cons_succ] at e ⊢
   exact dA0 t e
theorem dN5 {P : Program} {w : World} {k : Key} {u : Value} (h : (Q9 P w).is k u = true) : J7 (kV k) u := by
 rcases M6 (k := k) (v := u) h with ⟨i, t, rfl, rfl⟩ | ⟨x, t, rfl, rfl⟩
 · exact ⟨t, rfl⟩
 · exact ⟨t, rfl⟩
theorem cT0 {X : Cx} {pins : PNS} {s : Shared} {σ : St} {H : Hp} {a : Addr} {o : Obj} {es : Array DictEntry} {ep : Nat} {kvs : List (Key × V)} (I : Inv X pins σ H s) (ho : o.data = .dict es ep) (e : H a = some (.frz o (.dK kvs))) :
 (a == sysModules) = false ∧ ∃ vs, KV kvs vs ∧ s.heap.DictAt (Q9 X.prog X.w) a vs ep := by
 obtain ⟨hget, hz, hS, vs, r, m⟩ := (show R9 X.prog X.w H s.heap a (.frz o (.dK kvs)) from I.hok a _ e)
 obtain ⟨ep', dat⟩ := m.dictAt
 have hep : ep' = ep := by
  obtain ⟨o', es', h1, _, h3, _⟩ := id dat
  rw [hget] at h1
  cases h1
  rw [ho] at h3
  cases h3
  rfl
 subst hep
 exact ⟨hS, vs, r, dat⟩
theorem bP2 {P : Program} {w : World} {K : PySem.W.Frag} {tg : Expr} {a : Addr} {o : Obj} {es : Array DictEntry} {ep : Nat} {kvs : List (Key × V)} (ho : o.data = .dict es ep) (it : Addr) : bH4 P w K tg (Itd a o kvs) [it] it (fun i h => h.IsKeyIter it a i kvs.length ep) where
 mem := by simp
 obj := fun i h st b hb => by
  have e : b = it := by simpa using hb
  subst e
  obtain ⟨o, e, c, d⟩ := st
  exact ⟨o, e, fun v z => by rw [d] at z; cases z⟩
 keep := fun i h h' st k => let ⟨o, ho, r⟩ := st; ⟨o, k it (by simp) o ho, r⟩
 item := by
  intro X hP hw hK hc i pins s σ H E I hf st hg
  subst hP hw hK
  obtain ⟨hfr, kv, hx⟩ := hg
  obtain ⟨f0, f1, f2, f3, f4, f5⟩ := hf it (by simp)
  obtain ⟨hS, vs, rel, dat⟩ := cT0 I ho hfr
  obtain ⟨v, hv⟩ := dA0 rel hx
  have hlen : kvs.length = vs.length := Paired.length rel
  rw [hlen] at st
  refine wpAny_pyNext_dict_item st dat hv fun key h' hk st' sb => ?_
  have I1 : Inv X pins σ H { s with heap := h' } := I.turned (t' := s.toks) (fun b o hb e => (sb.2 b hb).trans e) f0 f1 f3 f4 f5
  obtain ⟨o', e, cc, d⟩ := id st'
  refine ⟨_, rfl, bL6 (s := { s with heap := h' }) e cc d (by decide) ⟨kV kv.1, H, I1, dN5 hk, ⟨rfl, kv, hx, rfl⟩, by rw [hlen]; exact st', fun b hb => (hf b hb).1⟩⟩
 done := by
  intro X hP hw hK hc i pins s σ H E I hf st hg
  subst hP hw hK
  obtain ⟨hfr, hi⟩ := hg
  obtain ⟨f0, f1, f2, f3, f4, f5⟩ := hf it (by simp)
  obtain ⟨hS, vs, rel, dat⟩ := cT0 I ho hfr
  have hlen : kvs.length = vs.length := Paired.length rel
  rw [hlen] at st hi
  exact wpAny_pyNext_dict_end (I.ok.hd hc) st dat (List.getElem?_eq_none hi) fun h' eb => ⟨rfl, I.turned (t' := s.toks) (fun b o hb e => eb b o hb e) f0 f1 f3 f4 f5⟩
 self := fun _ _ _ _ _ st h => wpAny_pyIter_keyiter st h
theorem t7.setR {c : Wc} {μ : List Addr} {G : DH} {H : Hp} {i : Nat} {a : Addr} {o o' : DO} {u : HO} (h : t7 c μ G H) (g : G[i]? = some o) (n : ¬ aK0 (some o)) (m : μ[i]? = some a) (k : Ext μ H μ (upd H a u)) (ho : aI9 c μ (upd H a u) a o') : t7 c μ (G.set i o') (upd H a u) := by
 have hi : i < G.length := lt_of_get g
 have get : ∀ j, (G.set i o')[j]? = if i = j then some o' else G[j]? := fun j => by
  rw [List.getElem?_set]
  by_cases e : i = j
  · subst e; simp [hi]
  · simp [e]
 refine ⟨by simp [h.len], fun j l b ej el => ?_, fun j o2 b gj mj => ?_⟩
 · rcases h.inj j l b ej el with e | e | e
   · exact .inl e
   · by_cases ij : i = j
     · subst ij; rw [g] at e; exact (n e).elim
     · right; left; rw [get, if_neg ij]; exact e
   · by_cases ij : i = l
     · subst ij; rw [g] at e; exact (n e).elim
     · right; right; rw [get, if_neg ij]; exact e
 · rw [get] at gj
   by_cases ij : i = j
   · subst ij
     rw [if_pos rfl] at gj
     cases gj
     rw [m] at mj
     cases mj
     exact ho
   · rw [if_neg ij] at gj
     have q := h.obj j o2 b gj mj
     by_cases hr : aK0 (some o2)
     · exact q.mono k (.inr hr)
     · have nb : b ≠ a := fun e => by
        subst e
        rcases h.inj i j b m mj with e | e | e
        · exact ij e
        · rw [g] at e; exact n e
        · rw [gj] at e; exact hr e
       exact q.mono k (.inl (t8 nb))
section
variable {X : Cx} {Z : XC} {tg e : Expr}
theorem Inv.freeze {pins : PNS} {s : Shared} {σ : St} {H : Hp} {a : Addr} {o : Obj} {kvs : List (Key × V)} (I : Inv X pins σ H s) (e : H a = some (.dK kvs)) (ho : s.heap.get? a = some o) : Inv X pins σ (upd H a (.frz o (.dK kvs))) s := by
 have q : R9 X.prog X.w H s.heap a (.dK kvs) := I.hok a _ e
 exact I.write (x := a) (e := a) (t' := s.toks) (h' := s.heap) (by rw [e]; exact trivial) (.inl rfl) (fun b u _ z => z) ⟨o, ho⟩ ⟨ho, q⟩
def iW (K : PySem.W.Frag) (tl : TE) : TI := fun σ H R => tl σ H fun x H1 => ((∃ z, x = .str z ∧ R (Its z) H1) ∨ (∃ k a xs, x = .ref a ∧ Sq K k H1 a xs ∧ R (if k = true then Itt K a else Itl K a) H1)) ∨
 (∃ a kvs, x = .ref a ∧ H1 a = some (.dK kvs) ∧ ∀ o, R (Itd a o kvs) (upd H1 a (.frz o (.dK kvs)))) ∨ (∃ a o kvs, x = .ref a ∧ H1 a = some (.frz o (.dK kvs)) ∧ R (Itd a o kvs) H1)
theorem eG7 {tl : TE} (hl : PE X e tl) : PI X tg e (iW X.K tl) := by
 intro pins s σ H R I h
 refine thn (hl pins s σ H _ I h) fun v s1 hE1 => hE1.elim fun x H1 I1 r1 q1 => ?_
 have fpo : ∀ b ∈ [s1.heap.objs.size], aP7 X pins H1 b := fun b hb => by
  have z : b = s1.heap.objs.size := by simpa using hb
  subst z
  exact I1.fpOk (Nat.le_refl _) (I1.hok.fresh (Nat.le_refl _))
 rcases q1 with (⟨z, rfl, q⟩ | ⟨k, a, xs, rfl, hq, q⟩) | ⟨a, kvs, rfl, hq, q⟩ | ⟨a, o, kvs, rfl, hq, q⟩
 · obtain ⟨t, rfl⟩ := (show ∃ t, v = Value.str z t from r1)
   refine wpAny_pyIter_strU ?_
   have I2 : Inv X pins σ H1 { s1 with heap := s1.heap.push { cls := .type (strIterType z), data := .fields #[.str z t, .int 0 0] } } := I1.kept (t' := s1.toks) fun b o z => Heap.get?_push_of_some _ z
   have hg : (s1.heap.push { cls := .type (strIterType z), data := .fields #[.str z t, .int 0 0] }).get? s1.heap.objs.size = some { cls := .type (strIterType z), data := .fields #[.str z t, .int 0 0] } := Heap.get?_push_size _ rfl
   by_cases ha : z.cps.all (· < 128) = true
   · have e : strIterType z = "str_ascii_iterator" := by unfold strIterType; rw [if_pos ha]
     refine ⟨s1.heap.objs.size, [s1.heap.objs.size], _, _, H1, rfl, I2, cC8 z t _, ?_, fpo, q⟩
     rw [e] at hg ⊢
     exact ⟨_, hg, rfl, rfl⟩
   · have e : strIterType z = "str_iterator" := by unfold strIterType; rw [if_neg ha]
     refine ⟨s1.heap.objs.size, [s1.heap.objs.size], _, _, H1, rfl, I2, cP8 z t _, ?_, fpo, q⟩
     rw [e] at hg ⊢
     exact ⟨_, hg, rfl, rfl⟩
 · cases r1
   rcases k with _ | _
   ·
     obtain ⟨its, rv, p, hz⟩ := I1.list hq
     exact wpAny_pyIter_list p.isList ⟨s1.heap.objs.size, [s1.heap.objs.size], _, _, H1, rfl, I1.kept (t' := s1.toks) fun b o z => Heap.get?_push_of_some _ z, cO8 a _, ⟨_, Heap.get?_push_size _ rfl, rfl, rfl⟩, fpo, q⟩
   ·
     obtain ⟨its, rv, p, hz⟩ := I1.tuple hq
     exact wpAny_pyIter_tuple (show s1.heap.IsTuple a its.toArray from p) ⟨s1.heap.objs.size, [s1.heap.objs.size], _, _, H1, rfl, I1.kept (t' := s1.toks) fun b o z => Heap.get?_push_of_some _ z, cG6 a _, ⟨_, Heap.get?_push_size _ rfl, rfl, rfl⟩, fpo, q⟩
 · cases r1
   obtain ⟨hz, hS, vs, rel, dd⟩ := cY7 I1.hok hq
   obtain ⟨ep, dat⟩ := dd.dictAt
   obtain ⟨o, es, h1, h2, h3, h4⟩ := id dat
   have hlen : kvs.length = vs.length := Paired.length rel
   have I2 := DL.Inv.freeze I1 hq h1
   have fpo2 : ∀ b ∈ [s1.heap.objs.size], aP7 X pins (upd H1 a (.frz o (.dK kvs))) b := fun b hb => by
    have z : b = s1.heap.objs.size := by simpa using hb
    subst z
    exact I2.fpOk (Nat.le_refl _) (I2.hok.fresh (Nat.le_refl _))
   refine wpAny_pyIter_dict hS dat ⟨s1.heap.objs.size, [s1.heap.objs.size], _, _, upd H1 a (.frz o (.dK kvs)), rfl, I2.kept (t' := s1.toks) fun b o z => Heap.get?_push_of_some _ z, bP2 (kvs := kvs) h3 _, ?_, fpo2, q o⟩
   rw [hlen]
   exact ⟨_, Heap.get?_push_size _ rfl, rfl, rfl⟩
 · cases r1
   obtain ⟨hget, hz, hS, vs, rel, dd⟩ := (show R9 X.prog X.w H1 s1.heap a (.frz o (.dK kvs)) from I1.hok a _ hq)
   obtain ⟨ep, dat⟩ := dd.dictAt
   obtain ⟨o', es, h1, h2, h3, h4⟩ := id dat
   rw [hget] at h1
   cases h1
   have hlen : kvs.length = vs.length := Paired.length rel
   refine wpAny_pyIter_dict hS dat ⟨s1.heap.objs.size, [s1.heap.objs.size], _, _, H1, rfl, I1.kept (t' := s1.toks) fun b o z => Heap.get?_push_of_some _ z, bP2 (kvs := kvs) h3 _, ?_, fpo, q⟩
   rw [hlen]
   exact ⟨_, Heap.get?_push_size _ rfl, rfl, rfl⟩
noncomputable def cU0 : Key → D
 | .inl i => .int i
 | .inr x => .str x
def aR7 (l : List (Key × D)) : List D := l.map fun kv => cU0 kv.1
def bK0 : D → M Src := fun x => match x with
 | .ref r => do
   match ← Q3 r with
   | .dct l => do
     let _ ← bD8 r (.rod l)
     pure ⟨aR7 l, fun _ => true⟩
   | .rod l => pure ⟨aR7 l, fun _ => true⟩
   | _ => dE9 (.ref r)
 | d => dE9 d
def itW (f : Fe) : DSt → M Src := fun σ => do bK0 (← f σ)
theorem bT8 {μ1 : List Addr} {G1 : DH} {H1 : Hp} {d : D} {v : V} {R : It → Hp → Prop} (h1 : t7 (wc X) μ1 G1 H1) (rv : g8 (wc X) μ1 H1 d v) (p1 : d9 (wc X) Z μ1 H1 (dE9 d G1) fun s μ' _ H' => ∀ J, ItD (wc X) μ' H' J s → R J H') :
 (∃ z, v = .str z ∧ R (Its z) H1) ∨ (∃ k a xs, v = .ref a ∧ Sq X.K k H1 a xs ∧ R (if k = true then Itt X.K a else Itl X.K a) H1) := by
 have main : ∀ dd : D, (∀ z, dd ≠ .str z) → g8 (wc X) μ1 H1 dd v → d9 (wc X) Z μ1 H1 (aH6 dd G1) (fun s μ' _ H' => ∀ J, ItD (wc X) μ' H' J s → R J H') → (∃ z, v = .str z ∧ R (Its z) H1) ∨ (∃ k a xs, v = .ref a ∧ Sq X.K k H1 a xs ∧ R (if k = true then Itt X.K a else Itl X.K a) H1) := by
  intro dd _ rv p1
  have p1' : d9 (wc X) Z μ1 H1 ((aH6 dd >>= fun s => (pure s : M Src)) G1) fun s μ' _ H' => ∀ J, ItD (wc X) μ' H' J s → R J H' := by
   have e : (aH6 dd >>= fun s => (pure s : M Src)) = aH6 dd := by
    funext G
    rw [M.bind_eq]
    rcases aH6 dd G with _ | q
    · rfl
    · obtain ⟨r, G'⟩ := q; cases r <;> rfl
   rw [e]; exact p1
  obtain ⟨sr, k, a, vs, rfl, q, rl, is, ck, _, p2⟩ := aQ6 h1 rv p1'
  refine .inr ⟨k, a, vs, rfl, q, d9.ok p2 h1 _ fun μ' G' H' x' h' ck' i => ?_⟩
  obtain ⟨vs', q', rl'⟩ := is μ' G' H' x' h' ck'
  refine ⟨fun d hd => ?_, fun hi => ?_⟩
  · obtain ⟨y, hy, ry⟩ := rl'.get hd
    cases k with
    | true =>
      rw [if_pos rfl]
      exact ⟨⟨vs', y, q', hy⟩, fun x H2 ⟨e1, e2⟩ => by subst e1; exact ⟨Ext.refl _ _, h', cJ4 rl' hd (e2 vs' q')⟩⟩
    | false =>
      rw [if_neg Bool.false_ne_true]
      exact ⟨⟨vs', y, q', hy⟩, fun x H2 ⟨e1, e2⟩ => by subst e1; exact ⟨Ext.refl _ _, h', cJ4 rl' hd (e2 vs' q')⟩⟩
  · cases k with
    | true => rw [if_pos rfl]; exact ⟨vs', q', by rw [← rl'.length]; exact hi⟩
    | false => rw [if_neg Bool.false_ne_true]; exact ⟨vs', q', by rw [← rl'.length]; exact hi⟩
 cases d with
 | str z =>
   refine .inl ⟨z, bE0 rv, d9.ok p1 h1 _ fun μ' G' H' x' h' ck' i => ⟨fun d hd => ?_, fun hi => ?_⟩⟩
   · simp only [aF9, List.getElem?_map] at hd
     cases hc : z.cps.toList[i]? with
     | none => rw [hc] at hd; cases hd
     | some c =>
       rw [hc] at hd
       cases hd
       have hc' : z.cps[i]? = some c := by rw [← Array.getElem?_toList]; exact hc
       exact ⟨⟨c, hc'⟩, fun x H2 ⟨e1, c2, e2, e3⟩ => by
        subst e1
        rw [hc'] at e2
        cases e2
        exact ⟨Ext.refl _ _, h', by rw [e3]; unfold g8; rfl⟩⟩
   · simp only [aF9, List.length_map] at hi
     show z.cps[i]? = none
     rw [← Array.getElem?_toList]
     exact List.getElem?_eq_none hi
 | tup l => exact main (.tup l) (fun z q => nomatch q) rv p1
 | ref r => exact main (.ref r) (fun z q => nomatch q) rv p1
 | _ => exact p1.elim
theorem cB0 {c : Wc} {μ : List Addr} {H : Hp} : ∀ {l : List (Key × D)} {kvs : List (Key × V)} {i : Nat} {kd : Key × D}, aD6 c μ H l kvs → l[i]? = some kd → ∃ v, kvs[i]? = some (kd.1, v)
 | [], _, _, _, _, e => by simp at e
 | (k, d) :: r, _, 0, _, h, e => by
  obtain ⟨v, t, rfl, _, _⟩ := h
  simp only [List.getElem?_cons_zero, Option.some.injEq] at e
  subst e
  exact ⟨v, rfl⟩
 | (k, d) :: r, _, i + 1, _, h, e => by
  obtain ⟨v, t, rfl, _, ht⟩ := h
  simp only [List.getElem?_cons_succ] at e ⊢
  exact cB0 ht e
theorem dB9 {c : Wc} {μ : List Addr} {H : Hp} (k : Key) : g8 c μ H (cU0 k) (kV k) := by
 cases k <;> (unfold cU0 g8; rfl)
theorem cW3 {c : Wc} {μ : List Addr} {H : Hp} {a : Addr} {o : Obj} {l : List (Key × D)} {kvs : List (Key × V)} (e : H a = some (.frz o (.dK kvs))) (rk : aD6 c μ H l kvs) : ItD c μ H (Itd a o kvs) ⟨aR7 l, fun _ => true⟩ := by
 intro μ' G' H' x h' _ i
 have e' := x.frz _ _ _ e
 refine ⟨fun d hd => ?_, fun hi => ⟨e', by rw [← rk.length]; simpa [aR7] using hi⟩⟩
 simp only [aR7, List.getElem?_map] at hd
 cases hl : l[i]? with
 | none => rw [hl] at hd; cases hd
 | some kd =>
   rw [hl] at hd
   cases hd
   obtain ⟨v, hv⟩ := cB0 rk hl
   exact ⟨⟨e', _, hv⟩, fun y H2 ⟨e1, kv, e2, e3⟩ => by
    subst e1
    rw [hv] at e2
    cases e2
    exact ⟨Ext.refl _ _, h', by rw [e3]; exact dB9 _⟩⟩
theorem di_W {f : Fe} (he : DE X Z e f) : DI X Z tg e (itW f) :=
 DI.of (eG7 he.h) fun σ H R hE0 => hE0.elim fun dσ μ G s h p => ⟨dσ, μ, G, s, h, (d9.bind p).mono fun d μ1 G1 H1 x1 h1 p1 v rv => by
  cases d with
  | ref r =>
    have rv' := rv
    unfold g8 at rv'
    obtain ⟨a, m, rfl⟩ := rv'
    obtain ⟨o, g, p2⟩ := N8 p1
    have ro := h1.obj r o a g m
    rcases o with l | l | l | l
    · exact .inl (bT8 h1 rv p2)
    · exact .inl (bT8 h1 rv p2)
    ·
      obtain ⟨kvs, q, rk⟩ := ro
      refine .inr (.inl ⟨a, kvs, rfl, q, fun o => ?_⟩)
      have x : Ext μ1 H1 μ1 (upd H1 a (.frz o (.dK kvs))) := Ext.mut (List.mem_of_getElem? m) q (fun _ z => nomatch z) (fun _ _ z => nomatch z) _
      have hk' := rk.mono x
      have h2 : t7 (wc X) μ1 (G1.set r (.rod l)) (upd H1 a (.frz o (.dK kvs))) := h1.setR g (fun z => z) m x ⟨kvs, o, M8, hk'⟩
      have p3 := d9.from p2 x
      exact d9.ok p3 h2 _ (cW3 M8 hk')
    ·
      obtain ⟨kvs, o, q, rk⟩ := ro
      exact .inr (.inr ⟨a, o, kvs, rfl, q, d9.ok p2 h1 _ (cW3 q rk)⟩)
  | _ => exact .inl (bT8 h1 rv p1)⟩
end
end DL
namespace W
open PySem PySem.Spec L2 DL
open PyProof.Rows hiding St
section
variable {G : DH} {σ : DSt} {R : Src → DH → Prop}
theorem wp_itW {f : Fe} : Wp (itW f σ) G R ↔ Wp (f σ) G fun x G1 => Wp (bK0 x) G1 R := by
 unfold itW; simp only [j8]
theorem srcW_tup {l : List D} : Wp (bK0 (.tup l)) G R ↔ R ⟨l, fun _ => true⟩ G := j7
theorem aJ7 {p : Nat} {l : List D} (e : G[p]? = some (.lst l)) : Wp (bK0 (.ref p)) G R ↔ R ⟨l, ckO p (.lst l)⟩ G := by
 unfold bK0
 simp only [j8, Q4, e, S5]
 exact cZ0 e
theorem cT9 {p : Nat} {l : List (Key × D)} (e : G[p]? = some (.dct l)) : Wp (bK0 (.ref p)) G R ↔ R ⟨aR7 l, fun _ => true⟩ (G.set p (.rod l)) := by
 unfold bK0
 simp only [j8, Q4, e, S5, aY5, j7]
theorem cW8 {p : Nat} {l : List (Key × D)} (e : G[p]? = some (.rod l)) : Wp (bK0 (.ref p)) G R ↔ R ⟨aR7 l, fun _ => true⟩ G := by
 unfold bK0
 simp only [j8, Q4, e, S5, j7]
end
end W
namespace DL
open PySem PySem.Spec L2
open PyProof.Rows hiding St
section
variable {prog : Program} {w : World} {A : Around} {E : VSP} {s : Shared} {Q : VSP}
theorem cG4 {a : Addr} {T : String} {o : Obj} {vs : List Value} {n : Nat} (hT : T = "list" ∨ T = "tuple") (ho : s.heap.get? a = some o) (hc : o.cls = .type T) (hd : o.data = .seq vs.toArray n) (h64 : vs.length < 64) {ss : List Str} (hS : StrsAre vs ss)
 (h : ∀ (h1 h' : Heap) (tk e : Nat) (out : List Value) (ss' : List Str), (∀ b o, s.heap.get? b = some o → h1.get? b = some o) → (∀ b o, h1.get? b = some o → h'.get? b = some o) → h'.get? h1.objs.size = some (seqObj "list" out.toArray e) → StrsAre out ss' → ss'.Perm ss → sortedS ss' = true → Q (.ref h1.objs.size) { s with heap := h', toks := tk }) :
 wpAny (model prog w) A (call (.builtin "sorted") [.ref a]) Q E s := by
 have hz : vs.length ≤ sizeLine := Nat.le_trans (Nat.le_of_lt h64) (by decide)
 refine Calls.call_function_entry kind_sorted plain_sorted entry_sorted (args_sorted1 _) ?_
 unfold Builtin.«sorted»
 refine wpAny_bind (m := checkCount "sorted" 1 1 _) (wpAny_pure ?_)
 refine wpAny_bind (wpAny_collect_seq (A := A.in1) a hT ho hc hd (fun h1 hk => ?_) (by rw [List.size_toArray]; exact hz))
 refine wpAny_bind (wpAny_newList ?_ hz)
 have hoL : (h1.push (seqObj "list" vs.toArray 0)).get? h1.objs.size = some (seqObj "list" vs.toArray 0) := Heap.get?_push_size _ rfl
 refine wpAny_bind (wpAny_holding (wpAny_call_entry slot_list_sort ⟨_, hoL, rfl⟩ entry_list_sort (list_sort_treeK strKind_oneLt hoL hS.keysOf (fun v₁ v₂ Z4 e => keyKind_strs (by rw [← e]; exact hS)) h64 fun st' a1 a2 => ⟨_, rfl, ?_⟩) (args_list_sort _)))
 obtain ⟨ss', b1, b2, b3⟩ := sorted_out_str hS a1 a2
 obtain ⟨e, he⟩ := sortedHeap_at (vs := vs) (out := (arrOf st').map (·.2)) hoL
 refine wpAny_pure ⟨_, rfl, h h1 _ s.toks e ((arrOf st').map (·.2)).toList ss' hk (fun b o hb => ?_) (by rw [Array.toArray_toList]; exact he) b1 b2 b3⟩
 have hlt : b < h1.objs.size := Heap.lt_size hb
 rw [sortedHeap_old (Nat.ne_of_lt hlt) (by rw [size_push']; exact Nat.lt_succ_of_lt hlt), Heap.get?_push_ne _ _ _ (Nat.ne_of_lt hlt)]
 exact hb
end
def bZ8 (l : List D) : M D := do
 let ss ← aL8 (aD7 l)
 if ss.length < 64 then N7 (.lst ((W9 ss).map .str)) else M.stuck
def aC6 : List D → M D := fun ds => match ds with
 | [.tup l] => bZ8 l
 | [.ref r] => do
   match ← Q3 r with
   | .lst l => bZ8 l
   | .dct l => do
     let ss ← aL8 (o9 l)
     if ss.length < 64 then N7 (.lst ((W9 ss).map .str)) else M.stuck
   | _ => M.stuck
 | _ => M.stuck
section
variable {X : Cx} {Z : XC}
theorem bW9 {c : Wc} {μ : List Addr} {H : Hp} : ∀ {l : List D} {ss : List Str} {vs : List V} {us : List Value}, aD7 l = some ss → o6 c μ H l vs → w6 vs us → StrsAre us ss
 | [], _, _, _, e, r, v => by cases e; cases r; cases v; exact .nil
 | .str x :: t, ss, _, _, e, r, v => by
   replace e := show (aD7 t).map (_ :: ·) = some _ from e
   rcases h : aD7 t with _ | q
   · rw [h] at e; cases e
   ·
     rw [h] at e
     cases e
     obtain ⟨v0, tl, rfl, r0, rt⟩ := r
     cases v with
     | cons ru rt2 =>
       rw [bE0 r0] at ru
       obtain ⟨tk, rfl⟩ := ru
       exact .cons _ _ (bW9 h rt rt2)
 | .non :: _, _, _, _, e, _, _ => by cases e
 | .bl _ :: _, _, _, _, e, _, _ => by cases e
 | .int _ :: _, _, _, _, e, _, _ => by cases e
 | .tup _ :: _, _, _, _, e, _, _ => by cases e
 | .ref _ :: _, _, _, _, e, _, _ => by cases e
 | .fn _ :: _, _, _, _, e, _, _ => by cases e
 | .ty _ :: _, _, _, _, e, _, _ => by cases e
theorem bW7 : ∀ {l : List D} {ss : List Str}, aD7 l = some ss → ss.length = l.length
 | [], _, e => by cases e; rfl
 | .str x :: t, ss, e => by
   replace e := show (aD7 t).map (_ :: ·) = some _ from e
   rcases h : aD7 t with _ | q
   · rw [h] at e; cases e
   · rw [h] at e; cases e; simp [bW7 h]
 | .non :: _, _, e => by cases e
 | .bl _ :: _, _, e => by cases e
 | .int _ :: _, _, e => by cases e
 | .tup _ :: _, _, e => by cases e
 | .ref _ :: _, _, e => by cases e
 | .fn _ :: _, _, e => by cases e
 | .ty _ :: _, _, e => by cases e
theorem bZ7 {μ : List Addr} {G : DH} {pins : PNS} {s : Shared} {σ : St} {H : Hp} {Q : VK} {a : Addr} {T : String} {o : Obj} {vs : List V} {us : List Value} {n : Nat} {l : List D} (I : Inv X pins σ H s) (hr : t7 (wc X) μ G H) (rl : o6 (wc X) μ H l vs) (rv : w6 vs us) (hT : T = "list" ∨ T = "tuple") (ho : s.heap.get? a = some o) (hc : o.cls = .type T) (hd : o.data = .seq us.toArray n)
 (p : d9 (wc X) Z μ H (bZ8 l G) fun d μ' _ H' => ∀ v, g8 (wc X) μ' H' d v → Q v H') : wpAny (model X.prog X.w) X.A (call (.builtin "sorted") [.ref a]) (EP X pins σ Q) X.xe s := by
 obtain ⟨ss, es, p2⟩ := aE8 p
 split at p2
 case isFalse => exact p2.elim
 rename_i h64
 have hS := bW9 es rl rv
 have hlen0 : us.length = ss.length := by rw [bW7 es, rl.length, rv.length]
 refine cG4 hT ho hc hd (by lia) hS fun h1 h' tk e out ss' k1 k2 he hS' hp hs => ?_
 have e2 := bX7 hp hs
 subst e2
 obtain ⟨ws, ew, rv', rl2⟩ := bJ9 (c := wc X) (μ := μ) (H := H) hS'
 have I1 : Inv X pins σ H { s with heap := h1, toks := tk } := I.kept k1
 have hf := I1.hok.fresh (Nat.le_refl _)
 have hlen : ws.length ≤ sizeLine := by
  rw [ew, List.length_map]
  have e3 : (W9 ss).length = ss.length := (List.mergeSort_perm ss leS).length_eq
  have : (64 : Nat) ≤ sizeLine := by decide
  lia
 exact ⟨.ref h1.objs.size, upd H h1.objs.size (.lst ws), I1.laid (t' := tk) k2 (Nat.le_refl _) ⟨hlen, out, e, rv', he⟩, rfl, aB1 hr rl2 p2 _ hf⟩
theorem cE7 (hc : X.calm = true) : Z6 X Z (.builtin "sorted") aC6 := ⟨by
 intro pins s σ H xs us Q I r hE0
 obtain ⟨ds, μ, G, rl, hr, p⟩ := hE0
 rcases ds with _ | ⟨_ | _ | _ | _ | l | i | _ | _, _ | ⟨_, _⟩⟩ <;> try exact p.elim
 all_goals (delta aC6 at p; dsimp only at p)
 · obtain ⟨v, rfl, rv⟩ := bA0 rl
   obtain ⟨u, rfl, ru⟩ := aM5 r
   unfold g8 at rv
   obtain ⟨a, vs, rfl, q, rl'⟩ := rv
   cases ru
   obtain ⟨its, rv, ⟨o, h1, h2, n, h3⟩, hz⟩ := I.tuple q
   exact bZ7 I hr rl' rv (.inr rfl) h1 h2 h3 p
 · obtain ⟨v, rfl, rv⟩ := bA0 rl
   obtain ⟨u, rfl, ru⟩ := aM5 r
   have rv' := rv
   unfold g8 at rv'
   obtain ⟨a, m, rfl⟩ := rv'
   cases ru
   obtain ⟨o, g, p1⟩ := N8 p
   have ro := hr.obj i o a g m
   rcases o with l | l | l | l
   ·
     obtain ⟨vs, q, rl'⟩ := ro
     obtain ⟨its, rv, pl, hz⟩ := I.list (SqL.of q)
     obtain ⟨o, h1, h2, n, h3⟩ := pl.isList
     exact bZ7 I hr rl' rv (.inl rfl) h1 h2 h3 p1
   · exact p1.elim
   ·
     refine (cN6 (Z := Z) hc).h pins s σ H [.ref a] [.ref a] Q I r ⟨[.ref i], μ, G, rl, hr, ?_⟩
     have eo : Q3 i G = some (.ok (.dct l), G) := by unfold Q3; simp only [g]
     have e : bP9 [.ref i] G = ((do
      let ss ← aL8 (o9 l)
      if ss.length < 64 then N7 (.lst ((W9 ss).map .str)) else M.stuck : M D)) G := by
      show ((Q3 i >>= fun o => match o with
       | .dct l => (do
         let ss ← aL8 (o9 l)
         if ss.length < 64 then N7 (.lst ((W9 ss).map .str)) else M.stuck : M D)
       | _ => M.stuck) : M D) G = _
      rw [M.bind_ok eo]
     rw [e]
     exact p1
   · exact p1.elim⟩
theorem bd_sortedG (h : X.calm = true) : BD aC6 "sorted" X Z := ⟨.inl ⟨_, cE7 h, cP5⟩⟩
end
end DL
namespace W
open PySem PySem.Spec L2 DL
open PyProof.Rows hiding St
section
variable {G : DH} {Q : DPP}
theorem cW1 {l : List D} {ss : List Str} (hs : aD7 l = some ss) (h64 : ss.length < 64) : Wp (bZ8 l) G Q ↔ Q (.ref G.length) (G ++ [.lst ((W9 ss).map .str)]) := by
 unfold bZ8
 simp only [j8, aO3, hs, S5, if_pos h64, aA7]
theorem cR8 {r : Nat} {l : List D} {ss : List Str} (e : G[r]? = some (.lst l)) (hs : aD7 l = some ss) (h64 : ss.length < 64) : Wp (aC6 [.ref r]) G Q ↔ Q (.ref G.length) (G ++ [.lst ((W9 ss).map .str)]) := by
 unfold aC6
 simp only [j8, Q4, e, S5]
 exact cW1 hs h64
theorem cO5 {r : Nat} {l : List (Key × D)} {ss : List Str} (e : G[r]? = some (.dct l)) (hs : o9 l = some ss) (h64 : ss.length < 64) : Wp (aC6 [.ref r]) G Q ↔ Q (.ref G.length) (G ++ [.lst ((W9 ss).map .str)]) := by
 unfold aC6
 simp only [j8, Q4, e, S5, aO3, hs, if_pos h64, aA7]
end
end W
namespace DL
open PySem
section
variable {prog : Program} {w : World} {A : Around} {E : VSP}
end
end DL
namespace DL
open PySem
open PyProof.Rows (IsTup)
section
variable {prog : Program} {w : World} {A : Around} {R : Result → Shared → Prop} {I : Addr} {fp wr : List Addr} {n : Nat} {P : Nat → Value → Prop} {St : Nat → Heap → Prop} {K : Type} [DecidableEq K] {knd : KeyKind prog w K}
end
section
variable {prog : Program} {w : World} {A : Around} {E : VSP} {s : Shared} {K : Type} [DecidableEq K] {knd : KeyKind prog w K}
end
end DL
namespace DL
open PySem PySem.Spec L2
open PyProof.Rows hiding St
section
variable {X : Cx} {Z : XC} {c : Wc} {μ : List Addr} {H : Hp} {G : DH}
end
end DL
namespace W
open PySem PySem.Spec L2 DL
open PyProof.Rows hiding St
end W
namespace DL
open PySem PySem.Spec L2
open PyProof.Rows hiding St
section
variable {X : Cx} {Z : XC} {c : Wc} {μ : List Addr} {H : Hp}
end
end DL
namespace W
open PySem PySem.Spec L2 DL
open PyProof.Rows hiding St
end W
namespace DL
open PySem PySem.Spec L2
open PyProof.Rows hiding St
section
variable {X : Cx} {Z : XC} {a b e : Expr} {fa fb : Fe} {pos : Pos}
end
end DL
namespace W
open PySem PySem.Spec L2 DL
open PyProof.Rows hiding St
end W
namespace DL
open PySem PySem.W
open PyProof.Rows hiding St
section
variable {α β : Type} {lt : Nat → Nat → Bool} {n : Nat}
end
structure OrdN (lt : Nat → Nat → Bool) (n : Nat) : Prop where
 tr : ∀ i j k, lt i j = true → lt j k = true → lt i k = true
 tot : ∀ i j, i < n → j < n → i ≠ j → lt i j = false → lt j i = true
structure PermN (p : Array Nat) (n : Nat) : Prop where
 pm : p.toList.Perm (List.range n)
section
variable {lt : Nat → Nat → Bool} {n : Nat} {p : Array Nat}
end
end DL
namespace DL
open PySem PySem.Spec L2
open PyProof.Rows hiding St
section
variable {X : Cx} {pins : PNS} {σ : St} {H : Hp} {s : Shared} {A : Around}
end
section
variable {X : Cx} {pins : PNS} {σ : St} {A : Around} {F : List D → M D} {k : Nat} {f : Addr} {fd : FuncData} {ps : List Str}
end
section
variable {X : Cx} {pins : PNS} {σ : St} {H : Hp} {s : Shared}
end
section
variable {prog : Program} {w : World} {A : Around} {E : VSP} {s : Shared} {C : Bool → Shared → Prop}
end
section
variable {X : Cx} {Z : XC} {pins : PNS} {σ : St} {H : Hp} {s : Shared} {F : List D → M D} {k : Nat} {f : Addr} {fd : FuncData} {ps : List Str} {μ : List Addr} {G : DH}
end
section
variable {X : Cx} {Z : XC} {e : Expr} {fe : Fe} {p pf kp pos : Pos} {x : Str} {F : List D → M D}
end
def CR (K : PySem.W.Frag) (mg : Str → Option Value) (d : D) (u : Value) : Prop := ∃ v, J7 v u ∧ ∀ μ H, g8 ⟨K, mg⟩ μ H d v
def CRL (K : PySem.W.Frag) (mg : Str → Option Value) (l : List D) (us : List Value) : Prop := ∃ vs, w6 vs us ∧ ∀ μ H, o6 ⟨K, mg⟩ μ H l vs
section
variable {K : PySem.W.Frag} {mg : Str → Option Value}
theorem bI0 {x : Str} {t : Tok} : CR K mg (.str x) (.str x t) := ⟨.str x, ⟨t, rfl⟩, fun μ H => by unfold g8; rfl⟩
theorem dJ3 {b : Bool} : CR K mg (.bl b) (.bool b) := ⟨.bl b, rfl, fun μ H => by unfold g8; rfl⟩
theorem bT4 : CR K mg .non .none := ⟨.non, rfl, fun μ H => by unfold g8; rfl⟩
theorem T5 : CRL K mg [] [] := ⟨[], .nil, fun _ _ => rfl⟩
theorem J6 {d : D} {l : List D} {u : Value} {us : List Value} (h : CR K mg d u) (t : CRL K mg l us) : CRL K mg (d :: l) (u :: us) := by
 obtain ⟨v, r, h⟩ := h
 obtain ⟨vs, rs, t⟩ := t
 exact ⟨v :: vs, .cons r rs, fun μ H => ⟨v, vs, rfl, h μ H, t μ H⟩⟩
theorem X6 {a : Addr} {l : List D} {us : List Value} {n : Nat} {sl : Array (Option Value)} (hl : K.lookup a = some ⟨.type "tuple", none, .seq us.toArray n, sl⟩) (hz : Nat.ble us.length 100 = true) (h : CRL K mg l us) : CR K mg (.tup l) (.ref a) := by
 obtain ⟨vs, rs, t⟩ := h
 refine ⟨.ref a, rfl, fun μ H => ?_⟩
 unfold g8
 refine ⟨a, vs, rfl, .inr ⟨_, us.toArray, n, hl, rfl, rfl, ?_, rs⟩, t μ H⟩
 rw [List.size_toArray]
 exact Nat.le_trans (Nat.le_of_ble_eq_true hz) (by decide)
end
structure cJ5 (K : PySem.W.Frag) (mg : Str → Option Value) (x : Str) (d : D) : Prop where
 ex : ∃ u, mg x = some u ∧ CR K mg d u
section
variable {X : Cx} {Z : XC} {pos : Pos} {x : Str} {d : D}
theorem de_cst (hc : cJ5 X.K X.mg x d) (hg : Gl X x) (hdb : (x == ("__debug__" : Str)) = false) : DE X Z (.Name x pos) (cE d) := ⟨by
 intro pins s σ H Q I hE0
 refine hE0.elim fun dσ μ G sr hr p => ?_
 obtain ⟨u, hm, v, ru, rv⟩ := hc.ex
 exact bQ7 I hg hm ⟨v, H, I, ru, d9.ok p hr v (rv μ H)⟩ hdb⟩
end
section
variable {X : Cx} {Z : XC} {o e : Expr} {es : List Expr} {fo : Fe} {fs : DSt → M (List D)} {name : Str} {id : String} {mm : D → List D → M D} {apos cpos : Pos}
end
section
variable {X : Cx} {Z : XC}
end
end DL
namespace W
open PySem PySem.Spec L2 DL
open PyProof.Rows hiding St
section
variable {G : DH} {σ : DSt} {Q : DPP}
end
end W
namespace DL
open PySem PySem.Spec L2
open PyProof.Rows hiding St
section
variable {X : Cx} {Z : XC} {c : Wc} {μ : List Addr} {H : Hp}
variable {e t : Expr} {lo hi : Option Expr} {fa : Fe} {fl fh ft : Fo} {p2 pos : Pos}
end
end DL
namespace W
open PySem PySem.Spec L2 DL
open PyProof.Rows hiding St
section
variable {G : DH} {σ : DSt} {Q : DPP}
end
end W
namespace DL
open PySem PySem.Spec L2
open PyProof.Rows hiding St
section
variable {X : Cx} {Z : XC} {a b c : Expr} {fa fb fc : Fe} {pos p : Pos} {x : Str}
theorem de_callC0 {F : List D → M D} (hF : ∃ k kk, b8 F 0 x X.prog X.w X.K X.mg X.base k ∧ aH0 kk X.A ∧ k ≤ kk) (hg : Gl X x) (hdb : (x == ("__debug__" : Str)) = false) :
 DE X Z (.Call (.Name x p) [] [] pos) (q15 (fnX 0 F) q14) := by
 obtain ⟨k, kk, hF, hr, hk⟩ := hF
 obtain ⟨f, fd, ps, h1, h2, h3, h4⟩ := hF.ex
 exact DE.of (cZ5 h1 (hr.mono hk) hg h2 h3 h4 .nil dK5 hdb) fun σ H Q hE0 => hE0.elim fun dσ μ G s h p => by
  obtain ⟨hl, p2⟩ := cB5 (show d9 (wc X) Z μ H (fnX 0 F [] G) _ from p)
  exact ⟨rfl, [], μ, G, rfl, h, p2⟩
end
section
variable {X : Cx} {Z : XC} {pos : Pos}
end
end DL
namespace W
open PySem PySem.Spec L2 DL
open PyProof.Rows hiding St
end W
namespace DL
open PySem PySem.Spec L2
open PyProof.Rows hiding St
section
variable {X : Cx} {Z : XC} {o e : Expr} {es : List Expr} {fo : Fe} {fs : DSt → M (List D)} {name : Str} {id : String} {mm : D → List D → M D} {apos cpos : Pos}
end
section
variable {X : Cx} {Z : XC} {a b e : Expr} {fa fb : Fe} {pos : Pos}
end
def aM4 (G : DH) (x : D) : List D → Option Bool
 | [] => some false
 | d :: t => match eqN 40 G d x, aM4 G x t with
   | some a, some b => some (a || b)
   | _, _ => none
theorem dH6 {G : DH} {x d : D} {t : List D} : aM4 G x (d :: t) = match eqN 40 G d x, aM4 G x t with
 | some a, some b => some (a || b)
 | _, _ => none := rfl
def bT0 (x y : D) (G : DH) : Option Bool := match y with
 | .tup l => aM4 G x l
 | .ref r => match G[r]? with
   | some (.lst l) => aM4 G x l
   | some (.rol l) => aM4 G x l
   | _ => none
 | _ => none
def inX : D → D → M D := fun x y G => match bT0 x y G with
 | some b => some (.ok (.bl b), G)
 | none => none
section
variable {X : Cx} {Z : XC} {μ : List Addr} {H : Hp} {G : DH}
theorem cQ6 {pins : PNS} {σ : St} {s : Shared} {x : V} {v : Value} {dx : D} (hu : X.A.units + 64 < cLine) (I : Inv X pins σ H s) (hr : t7 (wc X) μ G H) (rdx : g8 (wc X) μ H dx x) (rx : J7 x v) :
 ∀ {l : List D} {vs : List V} {us : List Value} {b : Bool}, o6 (wc X) μ H l vs → w6 vs us → aM4 G dx l = some b →
  (∀ u ∈ us, ∃ c, SeqAt.EqAt X.A.in1 s u v c) ∧ (b = true → ∃ u ∈ us, SeqAt.EqAt X.A.in1 s u v true) ∧ (b = false → ∀ u ∈ us, SeqAt.EqAt X.A.in1 s u v false) := by
 intro l
 induction l with
 | nil =>
   intro vs us b rl rv e
   cases rl
   cases rv
   cases e
   exact ⟨fun u hu => (by cases hu), fun z => absurd z Bool.false_ne_true, fun _ u hu => (by cases hu)⟩
 | cons d t ih =>
   intro vs us b rl rv e
   obtain ⟨w, tv, rfl, q, rt⟩ := rl
   cases rv with
   | cons r1 rs =>
   rename_i u us1
   rw [dH6] at e
   rcases e1 : eqN 40 G d dx with _ | a
   · rw [e1] at e; cases e
   ·
     rcases e2 : aM4 G dx t with _ | b2
     · rw [e1, e2] at e; cases e
     ·
       rw [e1, e2] at e
       cases e
       have h1 := (cB4 I hr 40 X.A.in1 (by show X.A.units + 1 + 40 < cLine; lia) q rdx r1 rx e1).2.2
       obtain ⟨k1, k2, k3⟩ := ih rt rs e2
       refine ⟨fun u' hu' => ?_, fun z => ?_, fun z u' hu' => ?_⟩
       · rcases List.mem_cons.mp hu' with rfl | hu'
         · exact ⟨a, h1⟩
         · exact k1 u' hu'
       · rcases a with _ | _
         ·
           obtain ⟨u', h3, h4⟩ := k2 z
           exact ⟨u', List.mem_cons_of_mem _ h3, h4⟩
         · exact ⟨u, List.mem_cons_self, h1⟩
       · rcases a with _ | _
         ·
           rcases List.mem_cons.mp hu' with rfl | hu'
           · exact h1
           · exact k3 z u' hu'
         · cases z
open Classical in
theorem cA2 {pins : PNS} {σ : St} {s : Shared} {x : V} {v : Value} {dx : D} (hu : X.A.units + 64 < cLine) (I : Inv X pins σ H s) (hr : t7 (wc X) μ G H) (rdx : g8 (wc X) μ H dx x) (rx : J7 x v)
 {l : List D} {vs : List V} {us : List Value} {b : Bool} (rl : o6 (wc X) μ H l vs) (rv : w6 vs us) (e : aM4 G dx l = some b) :
  ∃ f : Value → Bool, (∀ u ∈ us, SeqAt.EqAt X.A.in1 s u v (f u)) ∧ us.any f = b := by
 obtain ⟨k1, k2, k3⟩ := cQ6 hu I hr rdx rx rl rv e
 rcases b with _ | _
 · exact ⟨fun _ => false, fun u hu => k3 rfl u hu, by simp⟩
 ·
   refine ⟨fun u => decide (SeqAt.EqAt X.A.in1 s u v true), fun u hu => ?_, ?_⟩
   · dsimp only
     by_cases c : SeqAt.EqAt X.A.in1 s u v true
     · rw [decide_eq_true c]; exact c
     · rw [decide_eq_false c]
       obtain ⟨c', hc⟩ := k1 u hu
       rcases c' with _ | _
       · exact hc
       · exact absurd hc c
   · obtain ⟨u, hu, h⟩ := k2 rfl
     exact List.any_eq_true.mpr ⟨u, hu, decide_eq_true h⟩
theorem dR5 (hu : X.A.units + 64 < cLine) {pins : PNS} {σ : St} {s : Shared} {x y : V} {v u : Value} {dx dy : D} {b : Bool} {Q : VK} (I : Inv X pins σ H s) (hr : t7 (wc X) μ G H) (rdx : g8 (wc X) μ H dx x) (rdy : g8 (wc X) μ H dy y) (rx : J7 x v) (ry : J7 y u)
 (e : bT0 dx dy G = some b) :
 (Q (.bl b) H → wpAny (model X.prog X.w) X.A (compareOp .In v u) (EP X pins σ Q) X.xe s) ∧ (Q (.bl (!b)) H → wpAny (model X.prog X.w) X.A (compareOp .NotIn v u) (EP X pins σ Q) X.xe s) := by
 have seq : ∀ (p : Addr) (l : List D) (vs : List V), y = .ref p → (SqL X.K H p vs ∨ SqT X.K H p vs) → o6 (wc X) μ H l vs → aM4 G dx l = some b →
  (Q (.bl b) H → wpAny (model X.prog X.w) X.A (compareOp .In v u) (EP X pins σ Q) X.xe s) ∧ (Q (.bl (!b)) H → wpAny (model X.prog X.w) X.A (compareOp .NotIn v u) (EP X pins σ Q) X.xe s) := by
  intro p l vs hy hq rl e
  subst hy
  cases ry
  rcases hq with hq | hq
  · obtain ⟨its, r, pl, hz⟩ := I.list hq
    obtain ⟨f, h1, h2⟩ := cA2 hu I hr rdx rx rl r e
    have h3 : its.toArray.any f = b := by rw [← h2]; simp
    exact ⟨fun q => SeqAt.in_listAt f pl.isList (fun w hw => h1 w (by simpa using hw)) ⟨.bl _, H, I, rfl, by rw [h3]; exact q⟩, fun q => SeqAt.notIn_listAt f pl.isList (fun w hw => h1 w (by simpa using hw)) ⟨.bl _, H, I, rfl, by rw [h3]; exact q⟩⟩
  · obtain ⟨its, r, pl, hz⟩ := I.tuple hq
    obtain ⟨f, h1, h2⟩ := cA2 hu I hr rdx rx rl r e
    have h3 : its.toArray.any f = b := by rw [← h2]; simp
    exact ⟨fun q => SeqAt.in_tupleAt f pl (fun w hw => h1 w (by simpa using hw)) ⟨.bl _, H, I, rfl, by rw [h3]; exact q⟩, fun q => SeqAt.notIn_tupleAt f pl (fun w hw => h1 w (by simpa using hw)) ⟨.bl _, H, I, rfl, by rw [h3]; exact q⟩⟩
 rcases dy with _ | _ | _ | _ | l | i | _ | _ <;> try (cases e; done)
 ·
   unfold g8 at rdy
   obtain ⟨a, vs, hy, q, rl⟩ := rdy
   exact seq a l vs hy (.inr q) rl e
 ·
   unfold g8 at rdy
   obtain ⟨a, m, hy⟩ := rdy
   rcases g : G[i]? with _ | o
   · unfold bT0 at e; simp only [g] at e; cases e
   ·
     have ro := hr.obj i o a g m
     rcases o with l | l | _ | _ <;> try (unfold bT0 at e; simp only [g] at e; cases e; done)
     ·
       obtain ⟨vs, q, rl⟩ := ro
       unfold bT0 at e; simp only [g] at e
       exact seq a l vs hy (.inl (SqL.of q)) rl e
     ·
       obtain ⟨vs, q, rl⟩ := ro
       unfold bT0 at e; simp only [g] at e
       exact seq a l vs hy (.inl q.sq) rl e
theorem od_inX (hu : X.A.units + 64 < cLine) : OpD X Z (compareOp .In) inX := ⟨by
 intro pins s σ H x y v u Q I rx ry hE0
 refine hE0.elim fun dx dy μ G rdx rdy hr p => ?_
 unfold inX at p
 rcases e : bT0 dx dy G with _ | b
 · rw [e] at p; exact p.elim
 · rw [e] at p; exact (dR5 hu I hr rdx rdy rx ry e).1 (d9.ok p hr _ ofB)⟩
end
section
variable {X : Cx} {Z : XC}
end
end DL
namespace W
open PySem PySem.Spec L2 DL
open PyProof.Rows hiding St
end W
namespace DL
open PySem PySem.Spec L2
open PyProof.Rows hiding St
section
variable {prog : Program} {w : World} {A : Around} {E : VSP} {s : Shared} {j t : Addr} {k : Nat} {ys : Array Value}
end
section
variable {X : Cx} {Z : XC}
end
end DL
namespace W
open PySem PySem.Spec L2 DL
open PyProof.Rows hiding St
end W
namespace DL
open PySem PySem.Spec L2
open PyProof.Rows hiding St
theorem dZ4 {α : Type} {m m' : M α} {G G' : DH} {Q : α → DH → Prop} (e : m G = m' G') (w : Wp m' G' Q) : Wp m G Q := by
 unfold Wp at w ⊢; rw [e]; exact w
theorem d8 {α : Type} {m : M α} {a : α} {G G' : DH} {Q : α → DH → Prop} (e : m G = some (.ok a, G')) (q : Q a G') : Wp m G Q := ⟨a, G', e, q⟩
noncomputable def PB (Q : DPP) : Fl → DH → Prop
 | .nx _, G => Q .non G
 | .rt d, G => Q d G
 | _, _ => False
section
variable {m : Nat} {f S g : Fs} {ds as : List D} {d : D} {G G' : DH} {Q : DPP} {P A : Fl → DH → Prop} {σ σ' : DSt} {F : List D → M D} {e : Fe}
theorem J3 (w : Wp (f (ds.map some ++ List.replicate (m - ds.length) none)) G (PB Q)) : Wp (J2 m f ds) G Q :=
 cK0.mpr (w.mono fun fl G1 h => match fl, h with
  | .nx _, h => h
  | .rt _, h => h
  | .bk _, h => h.elim
  | .ct _, h => h.elim)
theorem K9 (q : Q d G) : PB Q (.rt d) G := q
theorem aI4 (e : f (ds.map some ++ List.replicate (m - ds.length) none) G = some (.ok (.rt d), G')) (q : Q d G') : Wp (J2 m f ds) G Q := J3 (d8 e q)
theorem dF6 (e : f (ds.map some ++ List.replicate (m - ds.length) none) G = g σ G') (w : Wp (g σ) G' (PB Q)) : Wp (J2 m f ds) G Q := J3 (dZ4 e w)
theorem cS5 (C : Fs → Fs) (g : Fs) (σ : DSt) (h : f = C g) (e : ∀ g, C g (ds.map some ++ List.replicate (m - ds.length) none) G = g σ G') (w : Wp (g σ) G' (PB Q)) : Wp (J2 m f ds) G Q := by
 subst h; exact dF6 (e g) w
theorem K1 (e : S σ G = some (.ok (.nx σ'), G')) (w : Wp (g σ') G' P) : Wp (j9 S g σ) G P := m7.mpr (d8 e w)
theorem dM3 (e : S σ G = some (.ok (.rt d), G')) (q : P (.rt d) G') : Wp (j9 S g σ) G P := m7.mpr (d8 e q)
end
section
variable {α : Type} {m n : Nat} {f g : Fs} {a b c : Fe} {t : DSt → M Bool} {fs : DSt → M (List D)} {as : List D} {d x y z : D} {k : Bool} {G G1 G2 : DH} {Q : DPP} {P : Fl → DH → Prop} {R : List D → DH → Prop} {B : Bool → DH → Prop} {σ : DSt} {F : List D → M D} {o : D → D → M D}
theorem dP6 (e : t σ G = some (.ok true, G1)) (w : Wp (f σ) G1 P) : Wp (ifS t f g σ) G P := cT5.mpr (d8 e w)
theorem eB2 (e : t σ G = some (.ok false, G1)) (w : Wp (g σ) G1 P) : Wp (ifS t f g σ) G P := cT5.mpr (d8 e w)
theorem aM9 (w : Wp (t σ) G fun k G1 => (k = true → Wp (f σ) G1 P) ∧ (k = false → Wp (g σ) G1 P)) : Wp (ifS t f g σ) G P :=
 cT5.mpr (w.mono fun k G1 h => by cases k with | true => exact h.1 rfl | false => exact h.2 rfl)
theorem aR3 {u : DSt → M Bool} (w : Wp (t σ) G fun k G1 => (k = true → Wp (u σ) G1 B) ∧ (k = false → B false G1)) : Wp (aB2 t u σ) G B :=
 bQ6.mpr (w.mono fun k G1 h => by cases k with | true => exact h.1 rfl | false => exact h.2 rfl)
theorem cR2 {u : DSt → M Bool} (w : Wp (t σ) G fun k G1 => (k = true → B true G1) ∧ (k = false → Wp (u σ) G1 B)) : Wp (orT t u σ) G B :=
 dQ9.mpr (w.mono fun k G1 h => by cases k with | true => exact h.1 rfl | false => exact h.2 rfl)
theorem aQ5 {i : Nat} {S : DSt → Prop} {R : DPP} (hS : S (σ.set i (some d))) (w : Wp (a (σ.set i (some d))) G R) : Wp (q16 i d σ) G fun σ1 G1 => G1 = G ∧ S σ1 ∧ Wp (U4 σ1) G fun b G2 => b = true ∧ G2 = G ∧ Wp (a σ1) G R :=
 aH8.mpr ⟨rfl, hS, W.wp_trueT.mpr ⟨rfl, rfl, w⟩⟩
theorem aC9 {g : Fg} {caps : List (Option Nat)} {l : List D} (e : b σ G = some (.ok (.tup l), G1)) (h : l.length ≤ 10000) (w : Wp (M5 g t a (fun _ => true) l (X3 caps σ)) G1 fun ys G2 => Q (.ref G2.length) (G2 ++ [.lst ys])) : Wp (Q8 (itW b) caps g t a σ) G Q :=
 W.wp_comp.mpr (W.wp_itW.mpr (d8 e (W.srcW_tup.mpr ⟨Nat.le_trans h (show 10000 ≤ sizeLine by decide), w⟩)))
theorem bI4 {A : Fl → DH → Prop} (w : Wp (t σ) G fun k G1 => (k = true → Wp (f σ) G1 A) ∧ (k = false → Wp (g σ) G1 A)) (k : ∀ fl G1, A fl G1 → P fl G1) : Wp (ifS t f g σ) G P := (aM9 w).mono k
theorem dX2 (e : t σ G = some (.ok true, G1)) (w : Wp (a σ) G1 Q) : Wp (ifE t a b σ) G Q := bJ4.mpr (d8 e w)
theorem dK1 (e : t σ G = some (.ok false, G1)) (w : Wp (b σ) G1 Q) : Wp (ifE t a b σ) G Q := bJ4.mpr (d8 e w)
theorem V6 {i : Nat} (w : Wp (a σ) G fun d G1 => P (.nx (σ.set i (some d))) G1) : Wp (J4 a (q16 i) σ) G P := aK5.mpr (w.mono fun _ _ h => aH8.mpr h)
theorem M7 (w : Wp (a σ) G fun d G1 => P (.rt d) G1) : Wp (t6 a σ) G P := cX1.mpr w
theorem m6 (e : fs σ G = some (.ok as, G1)) (h : as.length = n) (w : Wp (F as) G1 Q) : Wp (q15 (fnX n F) fs σ) G Q := bP6.mpr (d8 e (aT4.mpr ⟨h, w⟩))
theorem bC8 (e : fs σ G = some (.ok as, G1)) (w : Wp (F as) G1 Q) : Wp (q15 F fs σ) G Q := bP6.mpr (d8 e w)
theorem X5 (w : Wp (fs σ) G fun as G1 => Wp (F as) G1 Q) : Wp (q15 F fs σ) G Q := bP6.mpr w
theorem aD9 (ea : a σ G = some (.ok x, G1)) (eb : b σ G1 = some (.ok y, G2)) (w : Wp (o x y) G2 Q) : Wp (d7 o a b σ) G Q := cZ3.mpr (d8 ea (d8 eb w))
theorem J1 (w : Wp (a σ) G fun x G1 => Wp (b σ) G1 fun y G2 => Wp (o x y) G2 Q) : Wp (d7 o a b σ) G Q := cZ3.mpr w
theorem M4 (e : a σ G = some (.ok x, G1)) (w : Wp (fs σ) G1 fun xs G2 => R (x :: xs) G2) : Wp (q13 a fs σ) G R := bT2.mpr (d8 e w)
theorem o8 (w : Wp (a σ) G fun x G1 => Wp (fs σ) G1 fun xs G2 => R (x :: xs) G2) : Wp (q13 a fs σ) G R := bT2.mpr w
theorem K5 (w : Wp (a σ) G fun x G1 => ∃ k, x = .bl k ∧ B k G1) : Wp (v6 a σ) G B := dF3.mpr w
end
def FH (K : PySem.W.Frag) (x : Str) (st : Stmt) : Prop := ∃ (f : Addr) (od an : Option Addr) (sl : Array (Option Value)) (oc kV dc pm cd ct : Value), PySem.W.nsIn K mainGlobals x = some (some (.ref f)) ∧
 K.lookup f = some ⟨oc, od, .func (PySem.W.fnOf x x (W3 st) (T9 st) (j6 st) .none kV dc pm an cd ct), sl⟩ ∧ PySem.W.codeIn K cd x = true ∧ PySem.W.keepIn K (.ref f) = true
section
variable {K : PySem.W.Frag} {h : Heap} {mg : Str → Option Value} {x : Str} {st : Stmt}
theorem FH.of {f : Addr} {od an : Option Addr} {sl : Array (Option Value)} {oc kV dc pm cd ct : Value} (a : PySem.W.nsIn K mainGlobals x = some (some (.ref f)))
 (l : K.lookup f = some ⟨oc, od, .func (PySem.W.fnOf x x (W3 st) (T9 st) (j6 st) .none kV dc pm an cd ct), sl⟩) (e : PySem.W.codeIn K cd x = true) (k : PySem.W.keepIn K (.ref f) = true) : FH K x st :=
 ⟨f, od, an, sl, oc, kV, dc, pm, cd, ct, a, l, e, k⟩
variable {ps : List Str} {p1 p2 p3 p4 p5 p6 : Str}
theorem FH.ff (H : FH K x st) (X : K.In h) (G : h.Ns mainGlobals mg) (b : ∀ (kV doc pm : Value) (an : Option Addr) (cdv ct : Value) (us : List Value), us.length = ps.length → bindArgs (PySem.W.fnOf x x (W3 st) (T9 st) (j6 st) .none kV doc pm an cdv ct) ⟨us, []⟩ = pure (ps.zip us)) : ∃ f fd, FF K mg x st ps f fd := by
 obtain ⟨f, od, an, sl, oc, kV, dc, pm, cd, ct, a, l, e, k⟩ := H
 exact ⟨_, _, bQ0 l e k, (bQ0 l e k).binds b, PySem.W.mg_of X G a⟩
theorem aO7 {α : Type} {us : List α} {n : Nat} (h : us.length = n + 1) : ∃ a t, us = a :: t ∧ t.length = n := by
 rcases us with _ | ⟨a, t⟩
 · cases h
 · exact ⟨a, t, rfl, Nat.succ.inj h⟩
theorem FH.ff0 (H : FH K x st) (X : K.In h) (G : h.Ns mainGlobals mg) (b : ∀ kV doc pm an cdv ct, bindArgs (PySem.W.fnOf x x (W3 st) (T9 st) (j6 st) .none kV doc pm an cdv ct) ⟨[], []⟩ = pure []) : ∃ f fd, FF K mg x st [] f fd :=
 H.ff X G fun kV doc pm an cdv ct us hl => by cases List.eq_nil_of_length_eq_zero hl; exact b _ _ _ _ _ _
theorem FH.ff1 (H : FH K x st) (X : K.In h) (G : h.Ns mainGlobals mg) (b : ∀ kV doc pm an cdv ct v1, bindArgs (PySem.W.fnOf x x (W3 st) (T9 st) (j6 st) .none kV doc pm an cdv ct) ⟨[v1], []⟩ = pure [(p1, v1)]) : ∃ f fd, FF K mg x st [p1] f fd :=
 H.ff X G fun kV doc pm an cdv ct us h0 => by
  obtain ⟨v1, w1, rfl, h1⟩ := aO7 h0
  cases List.eq_nil_of_length_eq_zero h1
  exact b _ _ _ _ _ _ _
theorem FH.ff2 (H : FH K x st) (X : K.In h) (G : h.Ns mainGlobals mg) (b : ∀ kV doc pm an cdv ct v1 v2, bindArgs (PySem.W.fnOf x x (W3 st) (T9 st) (j6 st) .none kV doc pm an cdv ct) ⟨[v1, v2], []⟩ = pure [(p1, v1), (p2, v2)]) : ∃ f fd, FF K mg x st [p1, p2] f fd :=
 H.ff X G fun kV doc pm an cdv ct us h0 => by
  obtain ⟨v1, w1, rfl, h1⟩ := aO7 h0
  obtain ⟨v2, w2, rfl, h2⟩ := aO7 h1
  cases List.eq_nil_of_length_eq_zero h2
  exact b _ _ _ _ _ _ _ _
theorem FH.ff3 (H : FH K x st) (X : K.In h) (G : h.Ns mainGlobals mg) (b : ∀ kV doc pm an cdv ct v1 v2 v3, bindArgs (PySem.W.fnOf x x (W3 st) (T9 st) (j6 st) .none kV doc pm an cdv ct) ⟨[v1, v2, v3], []⟩ = pure [(p1, v1), (p2, v2), (p3, v3)]) : ∃ f fd, FF K mg x st [p1, p2, p3] f fd :=
 H.ff X G fun kV doc pm an cdv ct us h0 => by
  obtain ⟨v1, w1, rfl, h1⟩ := aO7 h0
  obtain ⟨v2, w2, rfl, h2⟩ := aO7 h1
  obtain ⟨v3, w3, rfl, h3⟩ := aO7 h2
  cases List.eq_nil_of_length_eq_zero h3
  exact b _ _ _ _ _ _ _ _ _
theorem FH.ff5 (H : FH K x st) (X : K.In h) (G : h.Ns mainGlobals mg) (b : ∀ kV doc pm an cdv ct v1 v2 v3 v4 v5, bindArgs (PySem.W.fnOf x x (W3 st) (T9 st) (j6 st) .none kV doc pm an cdv ct) ⟨[v1, v2, v3, v4, v5], []⟩ = pure [(p1, v1), (p2, v2), (p3, v3), (p4, v4), (p5, v5)]) : ∃ f fd, FF K mg x st [p1, p2, p3, p4, p5] f fd :=
 H.ff X G fun kV doc pm an cdv ct us h0 => by
  obtain ⟨v1, w1, rfl, h1⟩ := aO7 h0
  obtain ⟨v2, w2, rfl, h2⟩ := aO7 h1
  obtain ⟨v3, w3, rfl, h3⟩ := aO7 h2
  obtain ⟨v4, w4, rfl, h4⟩ := aO7 h3
  obtain ⟨v5, w5, rfl, h5⟩ := aO7 h4
  cases List.eq_nil_of_length_eq_zero h5
  exact b _ _ _ _ _ _ _ _ _ _ _
theorem BLs.of (X : K.In h) (G : h.Ns mainGlobals mg) (z : ∀ b ∈ bltL, PySem.W.nsIn K mainGlobals b = some none) : BLs mg := ⟨fun b hb => PySem.W.mg_none_of X G (z b hb)⟩
end
theorem cO7 : typeLookup (.type "zip") "__len__" = pure none := by rw [typeLookup_type, builtinLookup_eq_fast]; kernel_rfl
theorem cD9 : typeLookup (.type "zip") "__length_hint__" = pure none := by rw [typeLookup_type, builtinLookup_eq_fast]; kernel_rfl
noncomputable abbrev aF3 (h : Heap) (z TI TO : Addr) (f0 : Value) (b : Bool) : Prop :=
 h.get? z = some { cls := .type "zip", dict := none, data := .fields #[f0, .bool b, .bool false, .ref TI, .ref TO], slots := #[] }
section
variable {prog : Program} {w : World} {A : Around} {E : VSP} {s : Shared} {k1 k2 : Bool} {i : Nat} {z TI TO i1 i2 l1 l2 T : Addr} {xs ys : Array Value} {b : Bool}
theorem cA8 {a : Addr} {Q : Option Obj → Shared → Prop} (h : Q (s.heap.get? a) s) : wpAny (model prog w) A (loadIfAlive a) Q E s := by
 intro Γ p _
 show Sem.wp _ _ (Sem.loadIfAlive a .pure) _ _ _ _
 rw [Sem.wp_loadIfAlive]
 exact h
theorem bW6 {Q : Bool → Shared → Prop} (hz : aF3 s.heap z TI TO (rawInt T) b) (hT : ∃ o, s.heap.get? T = some o)
 (hQ : ∀ h', aF3 h' z TI TO (rawInt T) true → Heap.SameBut z s.heap h' → Q false { s with heap := h' }) : wpAny (model prog w) A (Builtin.SmallTypes.ownedTupleIsFree (.ref z)) Q E s := by
 obtain ⟨o, ho⟩ := hT
 unfold Builtin.SmallTypes.ownedTupleIsFree
 refine wpAny_bind (wpAny_field hz rfl (x := rawInt T) rfl ?_)
 show wpAny _ _ (loadIfAlive (Int.toNat (T : Int)) >>= _) _ _ _
 refine wpAny_bind (cA8 ?_)
 rw [Int.toNat_natCast, ho]
 show wpAny _ _ (field (.ref z) 1 >>= _) _ _ _
 refine wpAny_bind (wpAny_field hz rfl (x := .bool b) rfl ?_)
 cases b with
 | true => exact wpAny_pure (hQ s.heap hz ⟨rfl, fun _ _ => rfl⟩)
 | false =>
   show wpAny _ _ (setField (.ref z) 1 (.bool true) >>= _) _ _ _
   refine wpAny_bind (wpAny_setField_rec hz (by simp) fun g hg hs => wpAny_pure (hQ g hg hs))
theorem cR4 {x y : Value} {Q : VSP} (Ap : ZA z TI TO i1 i2) (n1 : l1 ∉ [z, TO, i1, i2]) (n2 : l2 ∉ [z, TO, i1, i2])
 (hz : aF3 s.heap z TI TO (rawInt T) b) (hT : ∃ o, s.heap.get? T = some o) (hTI : IsPair s.heap TI (.ref i1) (.ref i2))
 (h1 : SI k1 s.heap i1 l1 i) (h2 : SI k2 s.heap i2 l2 i) (hl1 : SC k1 s.heap l1 xs) (hl2 : SC k2 s.heap l2 ys) (hx : xs[i]? = some x) (hy : ys[i]? = some y)
 (hQ : ∀ h', aF3 h' z TI TO (rawInt T) true → SI k1 h' i1 l1 (i + 1) → SI k2 h' i2 l2 (i + 1) → IsPair h' s.heap.objs.size x y → h'.objs.size = s.heap.objs.size + 1 →
   (∀ c o, c ≠ z → c ≠ i1 → c ≠ i2 → s.heap.get? c = some o → h'.get? c = some o) → Q (.ref s.heap.objs.size) { s with heap := h' }) :
 wpAny (model prog w) A (Builtin.«zip.__next__» ⟨[.ref z], []⟩) (fun fin s' => ∃ v, fin = .done (.ret v) ∧ Q v s') E s := by
 simp only [List.mem_cons, List.not_mem_nil, or_false, not_or] at n1 n2
 show wpAny _ _ (field (.ref z) 2 >>= _) _ _ _
 refine wpAny_bind (wpAny_field hz rfl (x := .bool false) rfl ?_)
 show wpAny _ _ (field (.ref z) 3 >>= _) _ _ _
 refine wpAny_bind (wpAny_field hz rfl (x := .ref TI) rfl ?_)
 refine wpAny_bind (wpAny_seqItems hTI rfl ?_)
 show wpAny _ _ (Builtin.SmallTypes.ownedTupleIsFree (.ref z) >>= _) _ _ _
 refine wpAny_bind (bW6 hz hT fun g₁ hz₁ hs₁ => ?_)
 simp only [Bool.false_eq_true, if_false, ← Array.forIn_toList, List.forIn_cons, List.forIn_nil]
 refine wpAny_bind (wpAny_bind (wpAny_bind (wpAny_holding ?_)))
 show wpAny _ _ (Builtin.SmallTypes.nextOf (.ref i1) >>= _) _ _ _
 refine wpAny_bind (Z5 (h1.keep fun o e => hs₁.extBut _ _ Ap.i1z e) (hl1.keep fun o e => hs₁.extBut _ _ n1.1 e) hx fun g₂ h1₂ hs₂ => wpAny_pure (wpAny_pure ?_))
 have up2 : ∀ c o, c ≠ z → c ≠ i1 → s.heap.get? c = some o → g₂.get? c = some o := fun c o c1 c2 e => hs₂.extBut _ _ c2 (hs₁.extBut _ _ c1 e)
 refine wpAny_bind (wpAny_bind (wpAny_holding ?_))
 show wpAny _ _ (Builtin.SmallTypes.nextOf (.ref i2) >>= _) _ _ _
 refine wpAny_bind (Z5 (h2.keep fun o e => up2 _ _ Ap.i2z Ap.i12.symm e) (hl2.keep fun o e => up2 _ _ n2.1 n2.2.2.1 e) hy fun g₃ h2₃ hs₃ => wpAny_pure (wpAny_pure (wpAny_pure ?_)))
 have hsz : g₃.objs.size = s.heap.objs.size := by rw [hs₃.1, hs₂.1, hs₁.1]
 show wpAny _ _ (newTuple [x, y] >>= _) _ _ _
 refine wpAny_bind (wpAny_newTuple ?_)
 refine wpAny_pure ⟨_, rfl, ?_⟩
 have hz₃ : aF3 g₃ z TI TO (rawInt T) true := hs₃.extBut _ _ Ap.i2z.symm (hs₂.extBut _ _ Ap.i1z.symm hz₁)
 have hT₃ : IsPair (g₃.push { cls := .type "tuple", data := .seq #[x, y] }) s.heap.objs.size x y := by rw [← hsz]; exact Heap.get?_push_size _ rfl
 show Q (.ref g₃.objs.size) _
 rw [hsz]
 exact hQ _ (Heap.get?_push_of_some _ hz₃) ((h1₂.keep fun o e => hs₃.extBut _ _ Ap.i12 e).keep fun o e => Heap.get?_push_of_some _ e) (h2₃.keep fun o e => Heap.get?_push_of_some _ e) hT₃ (by rw [Heap.size_push, hsz])
  fun c o c1 c2 c3 e => Heap.get?_push_of_some _ (hs₃.extBut _ _ c3 (up2 c o c1 c2 e))
theorem cU3 {Q : Fin → Shared → Prop} (hh : A.handled = none) (Ap : ZA z TI TO i1 i2) (n1 : l1 ∉ [z, TO, i1, i2]) (n2 : l2 ∉ [z, TO, i1, i2])
 (hz : aF3 s.heap z TI TO (rawInt T) b) (hT : ∃ o, s.heap.get? T = some o) (hTI : IsPair s.heap TI (.ref i1) (.ref i2))
 (h1 : SI k1 s.heap i1 l1 i) (h2 : SI k2 s.heap i2 l2 i) (hl1 : SC k1 s.heap l1 xs) (hl2 : SC k2 s.heap l2 ys) (hend : xs[i]? = none ∨ ys[i]? = none)
 (hE : ∀ h' e, (∀ c o, c ≠ z → c ≠ i1 → c ≠ i2 → s.heap.get? c = some o → h'.get? c = some o) → (∃ o, h'.get? e = some o ∧ o.cls = .type "StopIteration") → E (.ref e) { s with heap := h' }) :
 wpAny (model prog w) A (Builtin.«zip.__next__» ⟨[.ref z], []⟩) Q E s := by
 simp only [List.mem_cons, List.not_mem_nil, or_false, not_or] at n1 n2
 show wpAny _ _ (field (.ref z) 2 >>= _) _ _ _
 refine wpAny_bind (wpAny_field hz rfl (x := .bool false) rfl ?_)
 show wpAny _ _ (field (.ref z) 3 >>= _) _ _ _
 refine wpAny_bind (wpAny_field hz rfl (x := .ref TI) rfl ?_)
 refine wpAny_bind (wpAny_seqItems hTI rfl ?_)
 show wpAny _ _ (Builtin.SmallTypes.ownedTupleIsFree (.ref z) >>= _) _ _ _
 refine wpAny_bind (bW6 hz hT fun g₁ hz₁ hs₁ => ?_)
 simp only [Bool.false_eq_true, if_false, ← Array.forIn_toList, List.forIn_cons, List.forIn_nil]
 refine wpAny_bind (wpAny_bind (wpAny_bind (wpAny_holding ?_)))
 show wpAny _ _ (Builtin.SmallTypes.nextOf (.ref i1) >>= _) _ _ _
 cases hx : xs[i]? with
 | none =>
   exact wpAny_bind (aL3 hh (h1.keep fun o e => hs₁.extBut _ _ Ap.i1z e) (hl1.keep fun o e => hs₁.extBut _ _ n1.1 e) hx fun g₂ e hs₂ he => hE g₂ e (fun c o c1 c2 _ q => hs₂ _ _ c2 (hs₁.extBut _ _ c1 q)) he)
 | some x =>
   have hy : ys[i]? = none := by
    rcases hend with h | h
    · rw [hx] at h; cases h
    · exact h
   refine wpAny_bind (Z5 (h1.keep fun o e => hs₁.extBut _ _ Ap.i1z e) (hl1.keep fun o e => hs₁.extBut _ _ n1.1 e) hx fun g₂ h1₂ hs₂ => wpAny_pure (wpAny_pure ?_))
   have up2 : ∀ c o, c ≠ z → c ≠ i1 → s.heap.get? c = some o → g₂.get? c = some o := fun c o c1 c2 e => hs₂.extBut _ _ c2 (hs₁.extBut _ _ c1 e)
   refine wpAny_bind (wpAny_bind (wpAny_holding ?_))
   show wpAny _ _ (Builtin.SmallTypes.nextOf (.ref i2) >>= _) _ _ _
   exact wpAny_bind (aL3 hh (h2.keep fun o e => up2 _ _ Ap.i2z Ap.i12.symm e) (hl2.keep fun o e => up2 _ _ n2.1 n2.2.2.1 e) hy fun g₃ e hs₃ he => hE g₃ e (fun c o c1 c2 c3 q => hs₃ _ _ c3 (up2 c o c1 c2 q)) he)
theorem aZ8 {x y : Value} {Q : Option Value → Shared → Prop} (Ap : ZA z TI TO i1 i2) (n1 : l1 ∉ [z, TO, i1, i2]) (n2 : l2 ∉ [z, TO, i1, i2])
 (hz : aF3 s.heap z TI TO (rawInt T) b) (hT : ∃ o, s.heap.get? T = some o) (hTI : IsPair s.heap TI (.ref i1) (.ref i2))
 (h1 : SI k1 s.heap i1 l1 i) (h2 : SI k2 s.heap i2 l2 i) (hl1 : SC k1 s.heap l1 xs) (hl2 : SC k2 s.heap l2 ys) (hx : xs[i]? = some x) (hy : ys[i]? = some y)
 (hQ : ∀ h', aF3 h' z TI TO (rawInt T) true → SI k1 h' i1 l1 (i + 1) → SI k2 h' i2 l2 (i + 1) → IsPair h' s.heap.objs.size x y → h'.objs.size = s.heap.objs.size + 1 →
   (∀ c o, c ≠ z → c ≠ i1 → c ≠ i2 → s.heap.get? c = some o → h'.get? c = some o) → Q (some (.ref s.heap.objs.size)) { s with heap := h' }) :
 wpAny (model prog w) A (pyNext (.ref z)) Q E s := by
 have hY : s.TypeIs (.ref z) "zip" := ⟨_, hz, rfl⟩
 unfold pyNext
 exact wpAny_bind (wpAny_attempt (wpAny_callSpecial?_slot (name := Str.ofString "__next__") hY F.slot_zip_next (wpAny_call_entry F.slot_zip_next hY F.entry_zip_next
  (cR4 Ap n1 n2 hz hT hTI h1 h2 hl1 hl2 hx hy fun h' a1 a3 a4 a5 a6 a7 => wpAny_pure (hQ h' a1 a3 a4 a5 a6 a7)) (F.args_zip_next_1 _))))
theorem bD7 {Q : Option Value → Shared → Prop} (hh : A.handled = none) (Ap : ZA z TI TO i1 i2) (n1 : l1 ∉ [z, TO, i1, i2]) (n2 : l2 ∉ [z, TO, i1, i2])
 (hz : aF3 s.heap z TI TO (rawInt T) b) (hT : ∃ o, s.heap.get? T = some o) (hTI : IsPair s.heap TI (.ref i1) (.ref i2))
 (h1 : SI k1 s.heap i1 l1 i) (h2 : SI k2 s.heap i2 l2 i) (hl1 : SC k1 s.heap l1 xs) (hl2 : SC k2 s.heap l2 ys) (hend : xs[i]? = none ∨ ys[i]? = none)
 (hQ : ∀ h', (∀ c o, c ≠ z → c ≠ i1 → c ≠ i2 → s.heap.get? c = some o → h'.get? c = some o) → Q none { s with heap := h' }) : wpAny (model prog w) A (pyNext (.ref z)) Q E s := by
 have hY : s.TypeIs (.ref z) "zip" := ⟨_, hz, rfl⟩
 unfold pyNext
 refine wpAny_bind (wpAny_attempt (wpAny_callSpecial?_slot (name := Str.ofString "__next__") hY F.slot_zip_next (wpAny_call_entry F.slot_zip_next hY F.entry_zip_next
  (cU3 hh Ap n1 n2 hz hT hTI h1 h2 hl1 hl2 hend fun h' e hk he => ?_) (F.args_zip_next_1 _))))
 obtain ⟨o, ho, hc⟩ := he
 exact wpAny_bind (wpAny_isInstance (T := "StopIteration") (b := true) ⟨o, ho, hc⟩ isSubtype_stop (wpAny_pure (hQ _ hk)))
noncomputable def aB6 (n0 m : Nat) : List Value := (List.range m).map fun j => Value.ref (n0 + j : Nat)
theorem bY9 {n0 m : Nat} : (aB6 n0 m).toArray.push (.ref (n0 + m : Nat)) = (aB6 n0 (m + 1)).toArray := by simp [aB6, List.range_succ]
noncomputable def aX1 (xs ys : Array Value) (n0 m : Nat) (h : Heap) : Prop := ∀ j, j < m → ∃ x y, xs[j]? = some x ∧ ys[j]? = some y ∧ IsPair h (n0 + j : Nat) x y
structure ZSt (k1 k2 : Bool) (z TI TO i1 i2 l1 l2 : Addr) (xs ys : Array Value) (n0 i : Nat) (h : Heap) : Prop where
 hz : (IsZip h z TI TO .none ∧ ∃ a b, IsPair h TO a b) ∨ ∃ T b, aF3 h z TI TO (rawInt ((n0 + T : Nat) : Int)) b ∧ T < i
 hTI : IsPair h TI (.ref i1) (.ref i2)
 h1 : SI k1 h i1 l1 i
 h2 : SI k2 h i2 l2 i
 c1 : SC k1 h l1 xs
 c2 : SC k2 h l2 ys
theorem dT6 {a b : Nat} : a ≤ min a b ∨ b ≤ min a b := (Nat.le_total a b).imp (fun h => Nat.le_of_eq (Nat.min_eq_left h).symm) fun h => Nat.le_of_eq (Nat.min_eq_right h).symm
theorem cK8 {n0 m : Nat} : (aB6 n0 m).toArray.size = m := by rw [List.size_toArray, aB6, List.length_map, List.length_range]
theorem dF2 {R : Result → Shared → Prop} (hh : A.handled = none) (Ap : ZA z TI TO i1 i2) (n1 : l1 ∉ [z, TO, i1, i2]) (n2 : l2 ∉ [z, TO, i1, i2]) (S : Addr) (hS : S ∉ [z, TI, TO, i1, i2, l1, l2]) (res : Value) {n0 : Nat}
 (lt : ∀ b ∈ [z, TI, TO, i1, i2, l1, l2, S], @LT.lt Nat instLTNat b n0) {m : Nat} (m1 : m ≤ xs.size) (m2 : m ≤ ys.size) (m3 : xs.size ≤ m ∨ ys.size ≤ m) (hn : m ≤ sizeLine) :
 ∀ (k i : Nat) (s : Shared) (c : Nat), m - i = k → i ≤ m → ZSt k1 k2 z TI TO i1 i2 l1 l2 xs ys n0 i s.heap →
 s.heap.get? S = some { cls := .type "list", dict := none, data := .seq (aB6 n0 i).toArray c, slots := #[] } → s.heap.objs.size = n0 + i → aX1 xs ys n0 i s.heap →
 (∀ h' c', (∀ b o, b ∉ [z, TO, i1, i2, S] → s.heap.get? b = some o → h'.get? b = some o) → h'.get? S = some { cls := .type "list", dict := none, data := .seq (aB6 n0 (m)).toArray c', slots := #[] } →
   aX1 xs ys n0 (m) h' → R (.ok (.ret res)) { s with heap := h' }) →
 codeAny (model prog w) A (.builtin "list.extend.loop" ⟨[.ref S, .ref z, res], []⟩) R s := by
 simp only [List.mem_cons, List.not_mem_nil, or_false, not_or] at hS
 have neA : ∀ {b : Addr} {j : Nat}, b ∈ [z, TI, TO, i1, i2, l1, l2, S] → (n0 + j : Nat) ≠ b := fun hb e => by
  have q := lt _ hb
  rw [← e] at q
  exact absurd q (Nat.not_lt.mpr (Nat.le_add_right _ _))
 intro k
 induction k with
 | zero =>
   intro i s c hk hi hst hL hsz hp hR
   have hin : i = m := Nat.le_antisymm hi (Nat.sub_eq_zero_iff_le.mp hk)
   refine codeAny_builtin F.entry_extend_loop ?_
   rw [Around.under_plainId F.plain_extend_loop _]
   show wpAny _ A.in1 (pyNext (.ref z) >>= _) _ _ s
   have hend : xs[i]? = none ∨ ys[i]? = none := hin ▸ m3.imp Array.getElem?_eq_none Array.getElem?_eq_none
   have fin : ∀ h', (∀ c o, c ≠ z → c ≠ TO → c ≠ i1 → c ≠ i2 → s.heap.get? c = some o → h'.get? c = some o) → R (.ok (.ret res)) { s with heap := h' } := fun h' hk => by
    rw [hin] at hL hp
    refine hR h' c (fun b o hb e => ?_) (hk _ _ hS.1 hS.2.2.1 hS.2.2.2.1 hS.2.2.2.2.1 hL) fun j hj => ?_
    · simp only [List.mem_cons, List.not_mem_nil, or_false, not_or] at hb
      exact hk _ _ hb.1 hb.2.1 hb.2.2.1 hb.2.2.2.1 e
    · obtain ⟨x, y, e1, e2, e3⟩ := hp j hj
      exact ⟨x, y, e1, e2, hk _ _ (neA (by simp)) (neA (by simp)) (neA (by simp)) (neA (by simp)) e3⟩
   rcases hst.hz with ⟨hz, a, b, hTO⟩ | ⟨T, b, hz, hT⟩
   · exact wpAny_bind (aP9 hh Ap n1 n2 hz hst.hTI hTO hst.h1 hst.h2 hst.c1 hst.c2 hend fun h' hk => wpAny_pure (fin h' hk))
   · obtain ⟨x, y, _, _, e3⟩ := hp T hT
     exact wpAny_bind (bD7 hh Ap n1 n2 hz ⟨_, e3⟩ hst.hTI hst.h1 hst.h2 hst.c1 hst.c2 hend fun h' hk => wpAny_pure (fin h' fun c o c1 _ c3 c4 e => hk c o c1 c3 c4 e))
 | succ k ih =>
   intro i s c hk hi hst hL hsz hp hR
   have hlt : i < m := Nat.lt_of_sub_eq_succ hk
   refine codeAny_builtin F.entry_extend_loop ?_
   rw [Around.under_plainId F.plain_extend_loop _]
   show wpAny _ A.in1 (pyNext (.ref z) >>= _) _ _ s
   obtain ⟨x, hx⟩ : ∃ x, xs[i]? = some x := ⟨_, Array.getElem?_eq_getElem (Nat.lt_of_lt_of_le hlt m1)⟩
   obtain ⟨y, hy⟩ : ∃ y, ys[i]? = some y := ⟨_, Array.getElem?_eq_getElem (Nat.lt_of_lt_of_le hlt m2)⟩
   have fin : ∀ h', ((IsZip h' z TI TO .none ∧ ∃ a b, IsPair h' TO a b) ∨ ∃ T b, aF3 h' z TI TO (rawInt ((n0 + T : Nat) : Int)) b ∧ T < i + 1) → SI k1 h' i1 l1 (i + 1) → SI k2 h' i2 l2 (i + 1) → IsPair h' s.heap.objs.size x y → h'.objs.size = s.heap.objs.size + 1 →
    (∀ c o, c ≠ z → c ≠ TO → c ≠ i1 → c ≠ i2 → s.heap.get? c = some o → h'.get? c = some o) →
    wpAny (model prog w) A.in1 (updateSeq S (·.push (.ref s.heap.objs.size)) >>= fun _ => again (.builtin "list.extend.loop" ⟨[.ref S, .ref z, res], []⟩)) (fun fin s' => match fin with | .done f => R (.ok f) s' | .again c' => c'.quiet = true ∧ codeAny (model prog w) A c' R s') (fun e s' => R (.error e) s') { s with heap := h' } := by
    intro h' hz' q1 q2 qp qs qk
    have hL' := qk S _ hS.1 hS.2.2.1 hS.2.2.2.1 hS.2.2.2.2.1 hL
    have oth : ∀ b o, S ≠ b → h'.get? b = some o → (h'.update S (Obj.mapSeq (·.push (.ref s.heap.objs.size)))).get? b = some o := fun b o hb e => (Heap.get?_update_other _ _ hb).trans e
    obtain ⟨c2, hL2⟩ : ∃ c2, (h'.update S (Obj.mapSeq (·.push (.ref s.heap.objs.size)))).get? S = some { cls := .type "list", dict := none, data := .seq (aB6 n0 (i + 1)).toArray c2, slots := #[] } := by
     rw [← bY9, ← hsz]
     exact ⟨_, Heap.get?_update_self (Obj.mapSeq (·.push (Value.ref s.heap.objs.size))) hL' rfl⟩
    refine wpAny_bind (wpAny_updateSeq hL' rfl (wpAny_pure ⟨plainId_quiet F.plain_extend_loop _, ih (i + 1) _ c2 (congrArg Nat.pred hk) hlt ?_ hL2 ?_ ?_ fun h2 c' k2 k3 k4 => ?_⟩) (cK8 ▸ Nat.le_trans hi hn) (by rw [Array.size_push, cK8]; exact Nat.succ_le_succ (Nat.le_trans hi hn)))
    · refine ⟨?_, oth _ _ hS.2.1 (qk _ _ Ap.TIz Ap.TITO Ap.TIi1 Ap.TIi2 hst.hTI), q1.keep fun o e => oth _ o hS.2.2.2.1 e, q2.keep fun o e => oth _ o hS.2.2.2.2.1 e, hst.c1.keep fun o e => oth _ o hS.2.2.2.2.2.1 (qk _ _ ?_ ?_ ?_ ?_ e), hst.c2.keep fun o e => oth _ o hS.2.2.2.2.2.2 (qk _ _ ?_ ?_ ?_ ?_ e)⟩
      · rcases hz' with ⟨a1, a, b, a2⟩ | ⟨T, b, a1, a2⟩
        · exact .inl ⟨oth _ _ hS.1 a1, a, b, oth _ _ hS.2.2.1 a2⟩
        · exact .inr ⟨T, b, oth _ _ hS.1 a1, a2⟩
      all_goals simp only [List.mem_cons, List.not_mem_nil, or_false, not_or] at n1 n2
      · exact n1.1
      · exact n1.2.1
      · exact n1.2.2.1
      · exact n1.2.2.2
      · exact n2.1
      · exact n2.2.1
      · exact n2.2.2.1
      · exact n2.2.2.2
    · show (h'.update S _).objs.size = _
      rw [Heap.size_update, qs, hsz]
      rfl
    · intro j hj
      by_cases q : j = i
      · subst q
        rw [hsz] at qp
        exact ⟨x, y, hx, hy, oth _ _ (neA (by simp)).symm qp⟩
      · obtain ⟨x', y', e1, e2, e3⟩ := hp j (Nat.lt_of_le_of_ne (Nat.le_of_lt_succ hj) q)
        exact ⟨x', y', e1, e2, oth _ _ (neA (by simp)).symm (qk _ _ (neA (by simp)) (neA (by simp)) (neA (by simp)) (neA (by simp)) e3)⟩
    · refine hR h2 c' (fun b o hb e => ?_) k3 k4
      have hb' := hb
      simp only [List.mem_cons, List.not_mem_nil, or_false, not_or] at hb'
      exact k2 b o hb (oth _ _ (Ne.symm hb'.2.2.2.2) (qk _ _ hb'.1 hb'.2.1 hb'.2.2.1 hb'.2.2.2.1 e))
   rcases hst.hz with ⟨hz, a, b, hTO⟩ | ⟨T, b, hz, hT⟩
   · refine wpAny_bind (aM3 Ap n1 n2 hz hst.hTI hTO hst.h1 hst.h2 hst.c1 hst.c2 hx hy fun h' a1 a2 a3 a4 a5 a6 a7 => ?_)
     refine fin h' (.inr ⟨i, false, ?_, Nat.lt_succ_self _⟩) a3 a4 a5 a6 a7
     rw [hsz] at a1
     exact a1
   · obtain ⟨x', y', _, _, e3⟩ := hp T hT
     exact wpAny_bind (aZ8 Ap n1 n2 hz ⟨_, e3⟩ hst.hTI hst.h1 hst.h2 hst.c1 hst.c2 hx hy fun h' a1 a3 a4 a5 a6 a7 => fin h' (.inr ⟨T, true, a1, Nat.lt_succ_of_lt hT⟩) a3 a4 a5 a6 fun c o c1 _ c3 c4 e => a7 c o c1 c3 c4 e)
theorem cN1 {R : Result → Shared → Prop} (hh : A.handled = none) (Ap : ZA z TI TO i1 i2) (n1 : l1 ∉ [z, TO, i1, i2]) (n2 : l2 ∉ [z, TO, i1, i2]) (S : Addr) (hS : S ∉ [z, TI, TO, i1, i2, l1, l2]) (res : Value) {c : Nat}
 (lt : ∀ b ∈ [z, TI, TO, i1, i2, l1, l2, S], @LT.lt Nat instLTNat b s.heap.objs.size) (hn : min xs.size ys.size ≤ sizeLine) (hst : ZSt k1 k2 z TI TO i1 i2 l1 l2 xs ys s.heap.objs.size 0 s.heap) (hL : s.heap.get? S = some { cls := .type "list", data := .seq #[] c })
 (hR : ∀ h' c', (∀ b o, b ∉ [z, TO, i1, i2, S] → s.heap.get? b = some o → h'.get? b = some o) → h'.get? S = some { cls := .type "list", dict := none, data := .seq (aB6 s.heap.objs.size (min xs.size ys.size)).toArray c', slots := #[] } →
   aX1 xs ys s.heap.objs.size (min xs.size ys.size) h' → R (.ok (.ret res)) { s with heap := h' }) :
 wpAny (model prog w) A.in1 (Builtin.List.listExtendWith (.ref S) (.ref z) res)
  (fun fin s' => match fin with | .done f => R (.ok f) s' | .again c' => c'.quiet = true ∧ codeAny (model prog w) A c' R s') (fun e s' => R (.error e) s') s := by
 obtain ⟨hz, hTI, h1, h2, c1, c2⟩ := hst
 rcases hz with ⟨hz, a, b, hTO⟩ | ⟨T, b, _, q⟩
 · have hS' := hS
   simp only [List.mem_cons, List.not_mem_nil, or_false, not_or] at hS'
   have hT : s.TypeIs (.ref z) "zip" := ⟨_, hz, rfl⟩
   unfold Builtin.List.listExtendWith
   refine wpAny_bind (wpAny_typeOf (T := "zip") hT ?_)
   have e1 : Builtin.List.listSameRef (.ref S) (.ref z) = false := by simp [Builtin.List.listSameRef, hS'.1]
   rw [if_neg (by rw [e1]; decide)]
   refine wpAny_bind (wpAny_pyIter_zip hz ?_)
   refine wpAny_bind (wpAny_holding ?_)
   unfold Builtin.List.listLengthHint
   refine wpAny_bind (wpAny_specialOf hT cO7 ?_)
   show wpAny _ A.in1 (specialOf (Value.ref z) (Str.ofString "__length_hint__") >>= _) _ _ _
   refine wpAny_bind (wpAny_specialOf hT cD9 ?_)
   refine wpAny_pure ?_
   show wpAny _ A.in1 (rule "list.extend.makes-room" >>= fun _ => Builtin.List.listTouch (.ref S) >>= fun _ => again (.builtin "list.extend.loop" ⟨[.ref S, .ref z, res], []⟩)) _ _ _
   refine wpAny_bind (wpAny_rule ?_)
   refine wpAny_bind ?_
   show wpAny _ A.in1 (updateSeq S (·.push .none) >>= fun _ => updateSeq S (·.pop)) _ _ _
   refine wpAny_bind (wpAny_updateSeq hL rfl ?_)
   have hS₂ := Heap.get?_update_self (Obj.mapSeq (·.push Value.none)) hL rfl
   refine wpAny_updateSeq hS₂ rfl ?_
   have hS₃ := Heap.get?_update_self (Obj.mapSeq (·.pop)) hS₂ rfl
   have oth : ∀ b o, S ≠ b → s.heap.get? b = some o → ((s.heap.update S (Obj.mapSeq (·.push Value.none))).update S (Obj.mapSeq (·.pop))).get? b = some o :=
    fun b o hb e => (Heap.get?_update_other _ _ hb).trans ((Heap.get?_update_other _ _ hb).trans e)
   have hsz : ((s.heap.update S (Obj.mapSeq (·.push Value.none))).update S (Obj.mapSeq (·.pop))).objs.size = s.heap.objs.size + 0 := by rw [Heap.size_update, Heap.size_update]; rfl
   refine wpAny_pure ⟨plainId_quiet F.plain_extend_loop _, dF2 (k1 := k1) (k2 := k2) (xs := xs) (ys := ys) hh Ap n1 n2 S hS res (n0 := s.heap.objs.size) lt (Nat.min_le_left _ _) (Nat.min_le_right _ _) dT6 hn _ 0 _ _ rfl (Nat.zero_le _)
    ⟨.inl ⟨oth _ _ hS'.1 hz, a, b, oth _ _ hS'.2.2.1 hTO⟩, oth _ _ hS'.2.1 hTI, h1.keep fun o e => oth _ o hS'.2.2.2.1 e, h2.keep fun o e => oth _ o hS'.2.2.2.2.1 e, c1.keep fun o e => oth _ o hS'.2.2.2.2.2.1 e, c2.keep fun o e => oth _ o hS'.2.2.2.2.2.2 e⟩ hS₃ hsz (fun j hj => absurd hj (Nat.not_lt_zero _)) fun h' c' q1 q2 q3 => ?_⟩
   refine hR h' c' (fun b o hb e => q1 b o hb (oth b o ?_ e)) q2 q3
   simp only [List.mem_cons, List.not_mem_nil, or_false, not_or] at hb
   exact Ne.symm hb.2.2.2.2
 · exact absurd q (Nat.not_lt_zero _)
theorem dC6 {Q : VSP} (hh : A.handled = none) (Ap : ZA z TI TO i1 i2) (n1 : l1 ∉ [z, TO, i1, i2]) (n2 : l2 ∉ [z, TO, i1, i2])
 (lt : ∀ b ∈ [z, TI, TO, i1, i2, l1, l2], @LT.lt Nat instLTNat b s.heap.objs.size) (hn : min xs.size ys.size ≤ sizeLine)
 (hz : IsZip s.heap z TI TO .none) (hTO : ∃ a b, IsPair s.heap TO a b) (hTI : IsPair s.heap TI (.ref i1) (.ref i2)) (h1 : SI k1 s.heap i1 l1 0) (h2 : SI k2 s.heap i2 l2 0) (c1 : SC k1 s.heap l1 xs) (c2 : SC k2 s.heap l2 ys)
 (hQ : ∀ h' c', (∀ b o, b ∉ [z, TO, i1, i2] → s.heap.get? b = some o → h'.get? b = some o) → h'.get? s.heap.objs.size = some { cls := .type "list", dict := none, data := .seq (aB6 (s.heap.objs.size + 1) (min xs.size ys.size)).toArray c', slots := #[] } →
   aX1 xs ys (s.heap.objs.size + 1) (min xs.size ys.size) h' → Q (.ref s.heap.objs.size) { s with heap := h' }) :
 wpAny (model prog w) A (call (.type "list") [.ref z]) Q E s := by
 refine callType_codes (Q₁ := fun obj s₁ => obj = .ref s.heap.objs.size ∧ s₁ = { s with heap := s.heap.push { cls := .type "list", data := .seq #[] } }) PySem.F.called_list (PySem.F.typeCall_list_1 _) PySem.F.entry_list_init
  (code_list_new _ ⟨rfl, rfl⟩) fun obj s₁ h₁ => ?_
 obtain ⟨rfl, rfl⟩ := h₁
 have hS : (s.heap.push { cls := .type "list", data := .seq #[] }).get? s.heap.objs.size = some { cls := .type "list", data := .seq #[] } := Heap.get?_push_size _ rfl
 refine ⟨⟨_, hS, rfl⟩, PySem.F.args_list_init_2 _ _, ?_⟩
 show wpAny _ _ (do let old ← Builtin.List.listItems (.ref s.heap.objs.size); Builtin.List.listUpdate (.ref s.heap.objs.size) (fun _ => #[]); letGo old.toList.reverse; Builtin.List.listExtendWith (.ref s.heap.objs.size) (.ref z) .none) _ _ _
 refine wpAny_bind ?_
 unfold Builtin.List.listItems
 refine wpAny_bind (wpAny_seqItems hS rfl (wpAny_pure ?_))
 show wpAny _ _ (updateSeq s.heap.objs.size (fun _ => #[]) >>= fun _ => letGo (#[] : Array Value).toList.reverse >>= fun _ => Builtin.List.listExtendWith (.ref s.heap.objs.size) (.ref z) .none) _ _ _
 refine wpAny_bind (wpAny_updateSeq hS rfl ?_)
 have hS₂ := Heap.get?_update_self (Obj.mapSeq (fun _ => (#[] : Array Value))) hS rfl
 refine wpAny_bind (wpAny_letGo ?_)
 have ne : ∀ b ∈ [z, TI, TO, i1, i2, l1, l2], s.heap.objs.size ≠ b := fun b hb => Ne.symm (Nat.ne_of_lt (lt b hb))
 have oth : ∀ b o, s.heap.get? b = some o → ((s.heap.push { cls := .type "list", data := .seq #[] }).update s.heap.objs.size (Obj.mapSeq (fun _ => (#[] : Array Value)))).get? b = some o :=
  fun b o e => (Heap.get?_update_other _ _ (Ne.symm (Nat.ne_of_lt (Heap.lt_size e)))).trans (Heap.get?_push_of_some _ e)
 have hsz : ((s.heap.push { cls := .type "list", data := .seq #[] }).update s.heap.objs.size (Obj.mapSeq (fun _ => (#[] : Array Value)))).objs.size = s.heap.objs.size + 1 := by rw [Heap.size_update, Heap.size_push]
 obtain ⟨a, b, hTO⟩ := hTO
 refine cN1 (k1 := k1) (k2 := k2) (xs := xs) (ys := ys) (TI := TI) (TO := TO) (i1 := i1) (i2 := i2) (l1 := l1) (l2 := l2) (A := A.in1) hh Ap n1 n2 _ (fun hm => ne _ hm rfl) .none (fun b hb => ?_) hn ⟨.inl ⟨oth _ _ hz, a, b, oth _ _ hTO⟩, oth _ _ hTI, h1.keep fun o e => oth _ o e, h2.keep fun o e => oth _ o e, c1.keep fun o e => oth _ o e, c2.keep fun o e => oth _ o e⟩ hS₂ fun h' c' q1 q2 q3 => ?_
 · show b < (Heap.update _ _ _).objs.size
   rw [hsz]
   rcases List.mem_append.mp (show b ∈ [z, TI, TO, i1, i2, l1, l2] ++ [s.heap.objs.size] from hb) with q | q
   · exact Nat.lt_succ_of_lt (lt b q)
   · rw [List.mem_singleton.mp q]; exact Nat.lt_succ_self _
 · have q2' := q2
   have q3' := q3
   dsimp only at q2' q3'
   rw [hsz] at q2' q3'
   refine ⟨rfl, hQ h' c' (fun b o hb e => q1 b o (fun hm => ?_) (oth b o e)) q2' q3'⟩
   rcases List.mem_append.mp (show b ∈ [z, TO, i1, i2] ++ [s.heap.objs.size] from hm) with q | q
   · exact hb q
   · exact Nat.lt_irrefl _ (by have := Heap.lt_size e; rw [List.mem_singleton.mp q] at this; exact this)
end
theorem cN8 {X : Cx} {pins : PNS} {σ : St} {H H' : Hp} {s : Shared} {h' : Heap} {t' : Nat} (I : Inv X pins σ H s) (k : ∀ b u, s.heap.get? b = some u → h'.get? b = some u) (same : ∀ b u, H b = some u → H' b = some u)
 (new : ∀ b u, H' b = some u → H b = some u ∨ s.heap.objs.size ≤ b ∧ R9 X.prog X.w H' h' b u) : Inv X pins σ H' { s with heap := h', toks := t' } := by
 refine I.un ⟨fun b u q _ _ _ => k b u q, fun b u q _ _ _ => ⟨u.slots, k b u q⟩, fun b o q n _ => ?_, fun b u q _ => ⟨u, k b u q⟩, fun b xs q => same _ _ q, fun b o u q => same _ _ q, fun b ps q => ⟨#[], by rw [same _ _ q]; simp⟩⟩ fun b u e => ?_
 · cases e : H' b with
   | none => rfl
   | some u =>
     rcases new b u e with z | z
     · rw [n] at z; cases z
     · exact absurd (Nat.lt_of_lt_of_le (Heap.lt_size q) z.1) (Nat.lt_irrefl _)
 · rcases new b u e with z | z
   · exact (I.hok b u z).stay (fun c v _ q => k c v q) (fun c q => same _ _ q) fun c xs q => same _ _ q
   · exact z.2
noncomputable def aM7 (H : Hp) (n0 : Nat) (ws : List (V × V)) : Hp := fun b => if (n0 : Nat) ≤ b ∧ b < n0 + ws.length then some (.tup [(ws.getD (b - n0) (.non, .non)).1, (ws.getD (b - n0) (.non, .non)).2]) else H b
section
variable {H : Hp} {n0 : Nat} {ws : List (V × V)}
theorem aJ3 (fr : ∀ b, n0 ≤ b → H b = none) {b : Addr} {u : HO} (e : H b = some u) : aM7 H n0 ws b = some u := by
 unfold aM7
 rw [if_neg, e]
 intro q
 rw [fr b q.1] at e
 cases e
theorem cT2 {j : Nat} {p : V × V} (e : ws[j]? = some p) : aM7 H n0 ws (n0 + j : Nat) = some (.tup [p.1, p.2]) := by
 have hj := lt_of_get e
 unfold aM7
 rw [if_pos ⟨Nat.le_add_right _ _, Nat.add_lt_add_left hj _⟩, Nat.add_sub_cancel_left, List.getD_eq_getElem?_getD, e]
 rfl
theorem cM0 {b : Addr} {u : HO} (e : aM7 H n0 ws b = some u) : H b = some u ∨ ∃ j p, b = (n0 + j : Nat) ∧ ws[j]? = some p ∧ u = .tup [p.1, p.2] := by
 unfold aM7 at e
 by_cases q : n0 ≤ b ∧ b < n0 + ws.length
 · rw [if_pos q] at e
   have hj : b - n0 < ws.length := Nat.sub_lt_left_of_lt_add q.1 q.2
   refine .inr ⟨b - n0, ws[b - n0], (Nat.add_sub_cancel' q.1).symm, List.getElem?_eq_getElem hj, ?_⟩
   rw [List.getD_eq_getElem?_getD, List.getElem?_eq_getElem hj] at e
   cases e; rfl
 · rw [if_neg q] at e; exact .inl e
end
def bC2 : List D → M D := fun ds => match ds with
 | [.ref r, .ref q] => do
   let l ← Q3 r >>= listOf
   let m ← Q3 q >>= listOf
   N7 (.lst ((l.zip m).map fun p => .tup [p.1, p.2]))
 | _ => M.stuck
noncomputable def bA1 (n0 m : Nat) : List V := (List.range m).map fun j => V.ref (n0 + j : Nat)
theorem cN3 {n0 m : Nat} : w6 (bA1 n0 m) (aB6 n0 m) := by
 unfold bA1 aB6
 induction List.range m with
 | nil => exact .nil
 | cons j l ih => exact .cons rfl ih
theorem bF0 {c : Wc} {μ : List Addr} {H : Hp} : ∀ {l : List D} {vs : List V}, l.length = vs.length → (∀ (j : Nat) d v, l[j]? = some d → vs[j]? = some v → g8 c μ H d v) → o6 c μ H l vs
 | [], [], _, _ => rfl
 | d :: l, v :: vs, e, h => ⟨v, vs, rfl, h 0 d v rfl rfl, bF0 (Nat.succ.inj e) fun j d v a b => h (j + 1) d v a b⟩
theorem cY0 {c : Wc} {Z : XC} {μ : List Addr} {H : Hp} {G : DH} {K : D → List Addr → DH → Hp → Prop} {ds : List D} (p : d9 c Z μ H (bC2 ds G) K) : ∃ i j, ds = [.ref i, .ref j] := by
 match ds, p with
 | [.ref i, .ref j], _ => exact ⟨i, j, rfl⟩
theorem bU1 {μ : List Addr} {H : Hp} {n0 : Nat} {ws : List (V × V)} (fr : ∀ b : Addr, n0 ≤ b → H b = none) : Ext μ H μ (aM7 H n0 ws) :=
 ⟨List.prefix_refl _, fun a ha n => absurd ha n, fun b o q _ => aJ3 fr q, fun b xs q => aJ3 fr q, fun b o u q => aJ3 fr q⟩
theorem cO4 {n0 m j : Nat} {v : V} (hj : j < m) (ev : (bA1 n0 m)[j]? = some v) : v = .ref (n0 + j : Nat) := by
 unfold bA1 at ev
 rw [List.getElem?_map, List.getElem?_range hj] at ev
 exact (Option.some.inj ev).symm
theorem dT0 {c : Wc} {μ : List Addr} {H : Hp} {n0 : Nat} {dl1 dl2 : List D} {vs1 vs2 : List V} (fr : ∀ b : Addr, n0 ≤ b → H b = none) (rl1 : o6 c μ H dl1 vs1) (rl2 : o6 c μ H dl2 vs2) :
 o6 c μ (aM7 H n0 (vs1.zip vs2)) ((dl1.zip dl2).map fun p => .tup [p.1, p.2]) (bA1 n0 (vs1.zip vs2).length) := by
 refine bF0 (by rw [List.length_map, List.length_zip, rl1.length, rl2.length, bA1, List.length_map, List.length_range, List.length_zip]) fun j d v ed ev => ?_
 rw [List.getElem?_map] at ed
 obtain ⟨pr, hz, rfl⟩ := Option.map_eq_some_iff.mp ed
 have hz2 := List.getElem?_zip_eq_some.mp hz
 obtain ⟨y1, hy1, ry1⟩ := rl1.get hz2.1
 obtain ⟨y2, hy2, ry2⟩ := rl2.get hz2.2
 have hw : (vs1.zip vs2)[j]? = some (y1, y2) := List.getElem?_zip_eq_some.mpr ⟨hy1, hy2⟩
 unfold g8
 exact ⟨_, [y1, y2], cO4 (lt_of_get hw) ev, SqT.of (cT2 hw), o6.cons (ry1.mono (bU1 fr)) (o6.cons (ry2.mono (bU1 fr)) o6.nil)⟩
theorem dS4 {X : Cx} {pins : PNS} {σ : St} {H : Hp} {s : Shared} {h' : Heap} {n0 L c' : Nat} {vs1 vs2 : List V} {its1 its2 : List Value} (I : Inv X pins σ H s) (k : ∀ b u, s.heap.get? b = some u → h'.get? b = some u)
 (hL : s.heap.objs.size ≤ L) (e0 : n0 = L + 1) (rr1 : w6 vs1 its1) (rr2 : w6 vs2 its2) (z1 : vs1.length ≤ sizeLine)
 (q2 : h'.get? L = some { cls := .type "list", dict := none, data := .seq (aB6 n0 (vs1.zip vs2).length).toArray c', slots := #[] }) (q3 : aX1 its1.toArray its2.toArray n0 (vs1.zip vs2).length h') :
 aM7 H n0 (vs1.zip vs2) L = none ∧ Inv X pins σ (upd (aM7 H n0 (vs1.zip vs2)) L (.lst (bA1 n0 (vs1.zip vs2).length))) { s with heap := h' } := by
 have h0 : s.heap.objs.size ≤ n0 := e0 ▸ Nat.le_trans hL (Nat.le_succ _)
 have fr : ∀ b : Addr, n0 ≤ b → H b = none := fun b hb => I.hok.fresh (Nat.le_trans h0 hb)
 have hS : aM7 H n0 (vs1.zip vs2) L = none := by
  unfold aM7
  rw [if_neg fun q => Nat.not_succ_le_self L (Nat.le_trans (Nat.le_of_eq e0.symm) q.1)]
  exact I.hok.fresh hL
 refine ⟨hS, cN8 (s := s) (t' := s.toks) I k (fun b u q => ?_) fun b u q => ?_⟩
 · have := aJ3 (ws := vs1.zip vs2) fr q
   rw [t8 (J0 this hS)]; exact this
 · by_cases hb : b = L
   · subst hb
     rw [M8] at q
     cases q
     exact .inr ⟨hL, by unfold bA1; rw [List.length_map, List.length_range, List.length_zip]; exact Nat.le_trans (Nat.min_le_left _ _) z1, _, c', cN3, q2⟩
   · rw [t8 hb] at q
     rcases cM0 q with z | ⟨j, pr, rfl, hw, rfl⟩
     · exact .inl z
     · refine .inr ⟨Nat.le_trans h0 (Nat.le_add_right _ _), by show 2 ≤ sizeLine; decide, ?_⟩
       have hw2 := List.getElem?_zip_eq_some.mp (show (vs1.zip vs2)[j]? = some (pr.1, pr.2) from hw)
       obtain ⟨x, y, ex, ey, ep⟩ := q3 j (lt_of_get hw)
       obtain ⟨w1, f1, rw1⟩ := aX3 rr1 hw2.1
       obtain ⟨w2, f2, rw2⟩ := aX3 rr2 hw2.2
       rw [ex] at f1; cases f1
       rw [ey] at f2; cases f2
       exact ⟨[x, y], .cons rw1 (.cons rw2 .nil), _, ep, rfl, _, rfl⟩
section
variable {X : Cx} {Z : XC} {a b : Expr} {fs : DSt → M (List D)} {p1 p2 pos1 pos2 : Pos}
theorem dU9 {pins : PNS} {s1 : Shared} {σ : St} {H1 : Hp} {Q : VK} {vs : List V} {us : List Value} (hc : X.calm = true) (I1 : Inv X pins σ H1 s1) (r1 : w6 vs us) (hl : aS5 (wc X) Z bC2 vs H1 Q) :
 wpAny (model X.prog X.w) X.A (call (.type "zip") us) (fun z s2 => wpAny (model X.prog X.w) X.A (call (.type "list") [z]) (EP X pins σ Q) X.xe s2) X.xe s1 := by
 obtain ⟨ds, μ1, G1, rd, h1, p1⟩ := hl
 obtain ⟨i, j, rfl⟩ := cY0 p1
 obtain ⟨v1, t1, rfl, ra1, v2, t2, rfl, ra2, e⟩ := rd
 cases e
 obtain ⟨dl1, l1, vs1, rfl, rl1, hq1, p2⟩ := X4 h1 ra1 p1
 obtain ⟨dl2, l2, vs2, rfl, rl2, hq2, p3⟩ := X4 h1 ra2 p2
 obtain ⟨u1, u2, rfl, ru1, ru2⟩ := bY1 r1
 cases ru1
 cases ru2
 obtain ⟨its1, rr1, ht1, z1⟩ := I1.list hq1
 obtain ⟨its2, rr2, ht2, z2⟩ := I1.list hq2
 have c1 : SC false s1.heap l1 its1.toArray := ht1.isList
 have c2 : SC false s1.heap l2 its2.toArray := ht2.isList
 refine bC4 c1 c2 fun h5 n en Z => ?_
 have hm : min its1.toArray.size its2.toArray.size = (vs1.zip vs2).length := by rw [List.length_zip, rr1.length, rr2.length, List.size_toArray, List.size_toArray]
 refine dC6 (k1 := false) (k2 := false) (xs := its1.toArray) (ys := its2.toArray) (s := { s1 with heap := h5 }) (I1.ok.hd hc) (dJ9 n) (bI8 (en ▸ c1.lt)) (bI8 (en ▸ c2.lt)) (dV1 (en ▸ c1.lt) (en ▸ c2.lt) Z.sz) (by rw [hm, List.length_zip]; exact Nat.le_trans (Nat.min_le_left _ _) z1) Z.g5 ⟨_, _, Z.g4⟩ Z.g3 Z.s1 Z.s2 (c1.keep fun o e => Z.keep _ o e) (c2.keep fun o e => Z.keep _ o e) fun h' c' q1 q2 q3 => ?_
 rw [hm] at q2 q3
 have e5 : ({ s1 with heap := h5 } : Shared).heap.objs.size = n + 5 := Z.sz
 rw [e5] at q2 q3 ⊢
 obtain ⟨hS, I2⟩ := dS4 (h' := h') (n0 := n + 5 + 1) I1 (fun b u q => q1 b u (dL4 (en ▸ Heap.lt_size q)) (Z.keep _ _ q)) (en ▸ Nat.le_add_right _ _) rfl rr1 rr2 z1 q2 q3
 have fr : ∀ b : Addr, n + 5 + 1 ≤ b → H1 b = none := fun b hb => I1.hok.fresh (en ▸ Nat.le_trans (Nat.le_add_right n 6) hb)
 exact ⟨.ref (n + 5 : Nat), _, I2, rfl, aB1 (h1.same (bU1 fr) fun a o e _ => aJ3 fr e) (dT0 fr rl1 rl2) (d9.from p3 (bU1 fr)) _ hS⟩
theorem cE2 (ha : DA X Z [a, b] fs) (hc : X.calm = true) (hg1 : Gl X "list") (hm1 : X.mg "list" = none) (hg2 : Gl X "zip") (hm2 : X.mg "zip" = none)
 (hs1 : starEach [Expr.Call (.Name "zip" p2) [a, b] [] pos2] X.env = [(false, eval (.Call (.Name "zip" p2) [a, b] [] pos2) X.env)]) (hs : starEach [a, b] X.env = [(false, eval a X.env), (false, eval b X.env)]) (hs2 : starEach [b] X.env = [(false, eval b X.env)])
 (hb1 : bootBuiltins "list" = some (.type "list")) (hb2 : bootBuiltins "zip" = some (.type "zip")) :
 DE X Z (.Call (.Name "list" p1) [.Call (.Name "zip" p2) [a, b] [] pos2] [] pos1) (q15 bC2 fs) := by
 refine ⟨?_⟩
 intro pins s σ H Q I hE0
 refine hE0.elim fun dσ μ G sr h p => ?_
 refine Call_ (aO4 I hg1 hm1 hb1 (PyProof.Rows.callWith_type1 ?_ hs1 rfl))
 rw [hs1]
 refine Calls.spliced_cons (Call_ (aO4 I hg2 hm2 hb2 (PyProof.Rows.callWith_type1 (thn (ha.h pos2 pins s σ H _ I ⟨dσ, μ, G, sr, h, (d9.bind p).mono fun ds μ1 G1 H1 x1 h1 p1 vs rv => (⟨ds, μ1, G1, rv, h1, p1⟩ : aS5 (wc X) Z bC2 vs H1 Q)⟩) fun us s1 hu => hu.elim fun vs H1 I1 r1 hl => ?_) (by rw [hs, hs2]) (by rw [hs2]; rfl))))
 exact wpAny_mono (dU9 hc I1 r1 hl) (fun z s2 h => Calls.spliced_nil h) fun _ _ h => h
theorem de_zipL (ha : DA X Z [a, b] fs) (hc : X.calm = true) (hb : BLs X.mg) (hg1 : Gl X "list") (hg2 : Gl X "zip") (hs : V0 a = true) (hs2 : V0 b = true) : DE X Z (.Call (.Name "list" p1) [.Call (.Name "zip" p2) [a, b] [] pos2] [] pos1) (q15 bC2 fs) :=
 cE2 ha hc hg1 (hb.h _ (by decide +kernel)) hg2 (hb.h _ (by decide +kernel)) (aJ4 rfl) (bW3 hs hs2) (aJ4 hs2) cH3 dA6
end
end DL
namespace W
open PySem PySem.Spec L2 DL
open PyProof.Rows hiding St
def aF8 : Fs := t6 (u6 (q13 (u6 (q14)) (q13 (u6 (q13 (cE (.str ("of" : Str))) (q13 (u6 (q14)) (q14)))) (q13 (u6 (q14)) (q13 (cE .non) (q13 (cE .non) (q14)))))))
def o7 : List D → M D := J2 0 aF8
def aO6 : Fs := j9 (J4 (cE (.int 0)) (q16 3)) (j9 (ifS (v6 (d7 neD (c7 0) (P0 (q14)))) (J4 (d7 bK7 (q15 cM6 (q13 (c7 0) (q14))) (cE (.int 2))) (q16 3)) (J5)) (t6 (P0 (q13 (c7 1) (q13 (d7 bK7 (d7 aY9 (d7 T4 (d7 T4 (d7 bK7 (c7 1) (cE (.int 2147483629))) (d7 aY9 (cE (.int 7919)) (c7 2))) (cE (.int 1))) (cE (.int 48271))) (cE (.int 2147483647))) (q13 (c7 3) (q13 (cE (.int 0)) (q14))))))))
def Z7 : List D → M D := J2 4 aO6
def aD3 : Fs := t6 (ifE (orT (v6 (d7 bX1 (c7 0) (cE .non))) (v6 (d7 inX (cE (.tup [.tup [], .tup [.str ("of" : Str), .tup []], .tup [], .non, .non])) (d7 ixD (c7 0) (cE (.int 0)))))) (cE .non) (c7 0))
def U5 : List D → M D := J2 1 aD3
def aB0 : Fs := j9 (ifS (orT (v6 (d7 bX1 (c7 0) (cE .non))) (v7 (q15 cM8 (q13 (Q8 (itW (d7 ixD (c7 0) (cE (.int 0)))) [none, none, none] (bD2 3 (Q7 (q16 0) (Q7 (q16 1) (Q7 (q16 2) (bD9))))) (U4) (V8 (c7 1) (d7 eqD (c7 2) (cE (.tup [.tup [], .tup [.str ("of" : Str), .tup []], .tup [], .non, .non]))))) (q14))))) (t6 (cE .non)) (J5)) (t6 (u6 (q13 (q15 aB9 (q13 (Q8 (itW (d7 ixD (c7 0) (cE (.int 0)))) [none, some 0] (q16 0) (orT (v7 (d7 ixD (c7 0) (cE (.int 1)))) (v6 (d7 neD (d7 ixD (c7 0) (cE (.int 2))) (d7 ixD (c7 1) (cE (.int 1)))))) (c7 0)) (q14))) (q13 (d7 ixD (c7 0) (cE (.int 1))) (q14)))))
def R3 : List D → M D := J2 1 aB0
def cC2 : Fs := j9 (J4 (u6 (q13 (c7 0) (q13 (c7 1) (q13 (c7 2) (q13 (q15 (fnX 1 U5) (q13 (c7 3) (q14))) (q13 (q15 (fnX 1 R3) (q13 (c7 4) (q14))) (q14))))))) (q16 5)) (t6 (ifE (v6 (d7 eqD (c7 5) (cE (.tup [.tup [.tup [.non, .non]], .tup [.str ("but" : Str), .tup []], .tup [.bl false, .bl true], .tup [.tup [], .str ("any" : Str)], .tup [.tup [], .str ("any" : Str)]])))) (cE (.str ("any" : Str))) (c7 5)))
def aU5 : List D → M D := J2 6 cC2
def FA : Fs := (ifS (aB2 (v6 (d7 aF6 (c7 3) (cE .non))) (v6 (d7 inX (q15 (fnX 0 o7) (q14)) (d7 ixD (c7 3) (cE (.int 0)))))) (J4 (cE .non) (q16 3)) (J5))
def FB : Fs := (ifS (aB2 (v6 (d7 aF6 (c7 4) (cE .non))) (v6 (d7 neD (Q8 (itW (d7 ixD (c7 4) (cE (.int 0)))) [none] (q16 0) (aB2 (v7 (d7 ixD (c7 0) (cE (.int 1)))) (v6 (d7 eqD (d7 ixD (c7 0) (cE (.int 2))) (q15 (fnX 0 o7) (q14))))) (c7 0)) (P0 (q14))))) (J4 (cE .non) (q16 4)) (J5))
def FC : Fs := (ifS (v6 (d7 aF6 (c7 4) (cE .non))) (J4 (u6 (q13 (q15 aB9 (q13 (Q8 (itW (d7 ixD (c7 4) (cE (.int 0)))) [none, some 4] (q16 0) (orT (v7 (d7 ixD (c7 0) (cE (.int 1)))) (v6 (d7 neD (d7 ixD (c7 0) (cE (.int 2))) (d7 ixD (c7 1) (cE (.int 1)))))) (c7 0)) (q14))) (q13 (d7 ixD (c7 4) (cE (.int 1))) (q14)))) (q16 4)) (J5))
def FE : Fs := (J4 (u6 (q13 (c7 0) (q13 (c7 1) (q13 (c7 2) (q13 (c7 3) (q13 (c7 4) (q14))))))) (q16 5))
def FF' : Fs := (J4 (u6 (q13 (u6 (q13 (u6 (q13 (cE .non) (q13 (cE .non) (q14)))) (q14))) (q13 (u6 (q13 (cE (.str ("but" : Str))) (q13 (u6 (q14)) (q14)))) (q13 (u6 (q13 (cE (.bl false)) (q13 (cE (.bl true)) (q14)))) (q13 (u6 (q13 (u6 (q14)) (q13 (cE (.str ("any" : Str))) (q14)))) (q13 (u6 (q13 (u6 (q14)) (q13 (cE (.str ("any" : Str))) (q14)))) (q14))))))) (q16 6))
def FG' : Fs := (t6 (ifE (v6 (d7 eqD (c7 5) (c7 6))) (cE (.str ("any" : Str))) (c7 5)))
def aS3 : Fs := j9 FA (j9 FB (j9 FC (j9 FE (j9 FF' FG'))))
def K7 : List D → M D := J2 7 aS3
def bC5 : Fs := t6 (V8 (q15 N5 (q13 (c7 0) (q13 (cE (.ty "tuple")) (q14)))) (V8 (d7 eqD (q15 aT8 (q13 (c7 0) (q14))) (cE (.int 2))) (q15 N5 (q13 (d7 ixD (c7 0) (cE (.int 0))) (q13 (cE (.ty "tuple")) (q14))))))
def Z9 : List D → M D := J2 1 bC5
def aK2 : Fs := t6 (dQ7 (d7 bX1 (c7 0) (cE .non)) (q15 (fnX 1 Z9) (q13 (c7 0) (q14))))
def R8 : List D → M D := J2 1 aK2
def bZ9 : Fs := t6 (q15 aK1 (q13 (Q8 (bI3 (q13 (c7 0) (q13 (X8 (c7 0) (aE0 (cE (.int 1))) (aB5)) (q14)))) [none, none] (bD2 2 (Q7 (q16 0) (Q7 (q16 1) (bD9)))) (U4) (d7 ltD (c7 0) (c7 1))) (q14)))
def aA6 : List D → M D := J2 1 bZ9
def bH1 : Fs := t6 (Q8 (itW (c7 0)) [none] (q16 0) (U4) (d7 ixD (c7 0) (cE (.int 0))))
def aH3 : List D → M D := J2 1 bH1
def bN4 : Fs := t6 (V8 (q15 N5 (q13 (c7 0) (q13 (cE (.ty "str")) (q14)))) (q15 aK1 (q13 (Q8 (itW (c7 0)) [none] (q16 0) (U4) (bP8 leD leD (cE (.str ("a" : Str))) (c7 0) (cE (.str ("z" : Str))))) (q14))))
def aC4 : List D → M D := J2 1 bN4
def bL7 : Fs := t6 (V8 (q15 (fnX 1 aC4) (q13 (c7 0) (q14))) (d7 gtD (q15 aT8 (q13 (c7 0) (q14))) (cE (.int 0))))
def aJ9 : List D → M D := J2 1 bL7
def bH0 : Fs := t6 (V8 (q15 N5 (q13 (c7 0) (q13 (cE (.ty "tuple")) (q14)))) (V8 (d7 eqD (q15 aT8 (q13 (c7 0) (q14))) (cE (.int 3))) (V8 (q15 (fnX 1 aJ9) (q13 (d7 ixD (c7 0) (cE (.int 0))) (q14))) (q15 N5 (q13 (d7 ixD (c7 0) (cE (.int 1))) (q13 (cE (.ty "bool")) (q14)))))))
def aH1 : List D → M D := J2 1 bH0
def aG2 : Fs := j9 (ifS (v6 (d7 bX1 (c7 0) (cE .non))) (t6 (cE (.bl true))) (J5)) (j9 (ifS (aD1 (aB2 (v7 (q15 (fnX 1 Z9) (q13 (c7 0) (q14)))) (v7 (q15 aK1 (q13 (Q8 (itW (d7 ixD (c7 0) (cE (.int 0)))) [none] (q16 0) (U4) (q15 (fnX 1 aH1) (q13 (c7 0) (q14)))) (q14)))))) (t6 (cE (.bl false))) (J5)) (t6 (q15 (fnX 1 aA6) (q13 (q15 (fnX 1 aH3) (q13 (d7 ixD (c7 0) (cE (.int 0))) (q14))) (q14)))))
def Q0 : List D → M D := J2 1 aG2
def aX6 : Fs := t6 (V8 (d7 aF6 (d7 ixD (c7 0) (cE (.int 1))) (cE .non)) (V8 (d7 aF6 (d7 ixD (c7 1) (cE (.int 0))) (cE .non)) (d7 ltD (d7 T4 (d7 ixD (c7 0) (cE (.int 1))) (cE (.int 1))) (d7 ixD (c7 1) (cE (.int 0))))))
def aA5 : List D → M D := J2 2 aX6
def bJ6 : Fs := t6 (V8 (d7 aF6 (c7 0) (cE .non)) (V8 (d7 aF6 (c7 1) (cE .non)) (d7 gtD (c7 0) (c7 1))))
def aG7 : List D → M D := J2 2 bJ6
def bF2 : Fs := t6 (V8 (q15 N5 (q13 (c7 0) (q13 (cE (.ty "int")) (q14)))) (cR5 (q15 N5 (q13 (c7 0) (q13 (cE (.ty "bool")) (q14))))))
def aL6 : List D → M D := J2 1 bF2
def bY0 : Fs := t6 (dQ7 (d7 bX1 (c7 0) (cE .non)) (q15 (fnX 1 aL6) (q13 (c7 0) (q14))))
def aP3 : List D → M D := J2 1 bY0
def aW7 : Fs := j9 (ifS (aD1 (aB2 (v7 (q15 N5 (q13 (c7 0) (q13 (cE (.ty "tuple")) (q14))))) (v6 (d7 eqD (q15 aT8 (q13 (c7 0) (q14))) (cE (.int 2)))))) (t6 (cE (.bl false))) (J5)) (j9 (ifS (aD1 (aB2 (v7 (q15 (fnX 1 aP3) (q13 (d7 ixD (c7 0) (cE (.int 0))) (q14)))) (v7 (q15 (fnX 1 aP3) (q13 (d7 ixD (c7 0) (cE (.int 1))) (q14)))))) (t6 (cE (.bl false))) (J5)) (t6 (cR5 (q15 (fnX 2 aG7) (q13 (d7 ixD (c7 0) (cE (.int 0))) (q13 (d7 ixD (c7 0) (cE (.int 1))) (q14)))))))
def aA3 : List D → M D := J2 1 aW7
def aV3 : Fs := j9 (ifS (aD1 (aB2 (v7 (q15 N5 (q13 (c7 0) (q13 (cE (.ty "tuple")) (q14))))) (v7 (q15 aK1 (q13 (Q8 (itW (c7 0)) [none] (q16 0) (U4) (q15 (fnX 1 aA3) (q13 (c7 0) (q14)))) (q14)))))) (t6 (cE (.bl false))) (J5)) (t6 (q15 aK1 (q13 (Q8 (bI3 (q13 (c7 0) (q13 (X8 (c7 0) (aE0 (cE (.int 1))) (aB5)) (q14)))) [none, none] (bD2 2 (Q7 (q16 0) (Q7 (q16 1) (bD9)))) (U4) (q15 (fnX 2 aA5) (q13 (c7 0) (q13 (c7 1) (q14))))) (q14))))
def aA4 : List D → M D := J2 1 aV3
def bA5 : Fs := j9 (ifS (aD1 (aB2 (v7 (q15 N5 (q13 (c7 0) (q13 (cE (.ty "tuple")) (q14))))) (v6 (d7 eqD (q15 aT8 (q13 (c7 0) (q14))) (cE (.int 2)))))) (t6 (cE (.bl false))) (J5)) (t6 (V8 (q15 N5 (q13 (d7 ixD (c7 0) (cE (.int 0))) (q13 (cE (.ty "str")) (q14)))) (V8 (d7 eqD (d7 ixD (c7 0) (cE (.int 0))) (c7 1)) (q15 N5 (q13 (d7 ixD (c7 0) (cE (.int 1))) (q13 (cE (.ty "tuple")) (q14)))))))
def aD0 : List D → M D := J2 2 bA5
def aV6 : Fs := t6 (u6 (q13 (q15 aT8 (q13 (c7 0) (q14))) (q13 (c7 0) (q14))))
def aA9 : List D → M D := J2 1 aV6
def bJ5 : Fs := j9 (ifS (aD1 (orT (v7 (q15 (fnX 2 aD0) (q13 (c7 0) (q13 (cE (.str ("of" : Str))) (q14))))) (v7 (q15 (fnX 2 aD0) (q13 (c7 0) (q13 (cE (.str ("but" : Str))) (q14))))))) (t6 (cE (.bl false))) (J5)) (j9 (ifS (aD1 (v7 (q15 aK1 (q13 (Q8 (itW (d7 ixD (c7 0) (cE (.int 1)))) [none] (q16 0) (U4) (q15 (fnX 1 aC4) (q13 (c7 0) (q14)))) (q14))))) (t6 (cE (.bl false))) (J5)) (t6 (q15 (fnX 1 aA6) (q13 (Q8 (itW (d7 ixD (c7 0) (cE (.int 1)))) [none] (q16 0) (U4) (q15 (fnX 1 aA9) (q13 (c7 0) (q14)))) (q14)))))
def aG9 : List D → M D := J2 1 bJ5
def bB2 : Fs := j9 (ifS (aD1 (v7 (q15 N5 (q13 (c7 0) (q13 (cE (.ty "tuple")) (q14)))))) (t6 (cE (.bl false))) (J5)) (t6 (V8 (q15 aK1 (q13 (Q8 (itW (c7 0)) [none] (q16 0) (U4) (q15 N5 (q13 (c7 0) (q13 (cE (.ty "bool")) (q14))))) (q14))) (q15 (fnX 1 aA6) (q13 (c7 0) (q14)))))
def aD2 : List D → M D := J2 1 bB2
def aP5 : Fs := j9 (ifS (v7 (q15 N5 (q13 (c7 0) (q13 (cE (.ty "str")) (q14))))) (t6 (d7 eqD (c7 0) (cE (.str ("any" : Str))))) (J5)) (j9 (ifS (aD1 (aB2 (v7 (q15 N5 (q13 (c7 0) (q13 (cE (.ty "tuple")) (q14))))) (v6 (d7 eqD (q15 aT8 (q13 (c7 0) (q14))) (cE (.int 5)))))) (t6 (cE (.bl false))) (J5)) (j9 (ifS (aD1 (aB2 (v7 (q15 (fnX 1 aA4) (q13 (d7 ixD (c7 0) (cE (.int 0))) (q14)))) (aB2 (v7 (q15 (fnX 1 aG9) (q13 (d7 ixD (c7 0) (cE (.int 1))) (q14)))) (v7 (q15 (fnX 1 aD2) (q13 (d7 ixD (c7 0) (cE (.int 2))) (q14))))))) (t6 (cE (.bl false))) (J5)) (t6 (V8 (q15 (fnX 1 R8) (q13 (d7 ixD (c7 0) (cE (.int 3))) (q14))) (q15 (fnX 1 Q0) (q13 (d7 ixD (c7 0) (cE (.int 4))) (q14)))))))
def Q5 : List D → M D := J2 1 aP5
def IL : Fs := (ifS (v6 (d7 aF6 (d7 ixD (c7 0) (cE (.int 3))) (cE .non))) (aO2 (mtE U9 aI6 (c7 1) (q13 (d7 T4 (q15 cG9 (q13 (d7 ixD (d7 ixD (c7 0) (cE (.int 3))) (cE (.int 0))) (q14))) (P0 (q13 (d7 ixD (d7 ixD (c7 0) (cE (.int 3))) (cE (.int 1))) (q14)))) (q14)))) (J5))
def IR : Fs := (ifS (v6 (d7 aF6 (d7 ixD (c7 0) (cE (.int 4))) (cE .non))) (aO2 (mtE U9 aI6 (c7 1) (q13 (d7 T4 (Q8 (itW (d7 ixD (d7 ixD (c7 0) (cE (.int 4))) (cE (.int 0)))) [none] (q16 0) (U4) (d7 ixD (c7 0) (cE (.int 2)))) (P0 (q13 (d7 ixD (d7 ixD (c7 0) (cE (.int 4))) (cE (.int 1))) (q14)))) (q14)))) (J5))
def aA8 : Fs := j9 (J4 (P0 (q14)) (q16 1)) (j9 (ifS (v6 (d7 eqD (c7 0) (cE (.str ("any" : Str))))) (t6 (c7 1)) (J5)) (j9 IL (j9 IR (t6 (c7 1)))))
def R4 : List D → M D := J2 2 aA8
def aV2 : Fs := j9 (ifS (v6 (d7 eqD (c7 0) (cE (.str ("any" : Str))))) (t6 (u6 (q13 (cE (.str ("any" : Str))) (q14)))) (J5)) (j9 (J4 (ifE (v6 (d7 bX1 (d7 ixD (c7 0) (cE (.int 3))) (cE .non))) (cE .non) (q15 aT8 (q13 (d7 ixD (d7 ixD (c7 0) (cE (.int 3))) (cE (.int 0))) (q14)))) (q16 1)) (j9 (J4 (ifE (v6 (d7 bX1 (d7 ixD (c7 0) (cE (.int 4))) (cE .non))) (cE .non) (Q8 (itW (d7 ixD (d7 ixD (c7 0) (cE (.int 4))) (cE (.int 0)))) [none] (q16 0) (U4) (u6 (q13 (d7 ixD (c7 0) (cE (.int 0))) (q13 (d7 ixD (c7 0) (cE (.int 1))) (q14)))))) (q16 2)) (t6 (u6 (q13 (d7 ixD (c7 0) (cE (.int 0))) (q13 (d7 ixD (c7 0) (cE (.int 1))) (q13 (d7 ixD (c7 0) (cE (.int 2))) (q13 (c7 1) (q13 (c7 2) (q14))))))))))
def W0 : List D → M D := J2 3 aV2
def Z1 : Fs := (J4 (mtE U9 dD1 (c7 2) q14) (q16 3))
def Z2 : Fs := (ifS (v6 (d7 neD (q15 (fnX 1 W0) (q13 (d7 ixD (c7 3) (cE (.int 0))) (q14))) (q15 (fnX 1 W0) (q13 (d7 ixD (c7 3) (cE (.int 1))) (q14))))) (t6 (cE (.bl false))) (J5))
def Z3 : Fs := (aO2 (mtE U9 aI6 (c7 2) (q13 (q15 bC2 (q13 (q15 (fnX 1 R4) (q13 (d7 ixD (c7 3) (cE (.int 0))) (q14))) (q13 (q15 (fnX 1 R4) (q13 (d7 ixD (c7 3) (cE (.int 1))) (q14))) (q14)))) (q14))))
def aK7 : Fs := j9 (J4 (P0 (q13 (u6 (q13 (c7 0) (q13 (c7 1) (q14)))) (q14))) (q16 2)) (j9 (aN4 (v7 (c7 2)) (j9 Z1 (j9 Z2 Z3))) (t6 (cE (.bl true))))
def aH2 : List D → M D := J2 4 aK7
def bV5 : Fs := t6 (ifE (v7 (d7 ixD (c7 0) (cE (.int 1)))) (d7 neD (d7 ixD (c7 0) (cE (.int 2))) (cE (.tup [.tup [], .tup [.str ("of" : Str), .tup []], .tup [], .non, .non]))) (cR5 (q15 (fnX 2 aH2) (q13 (d7 ixD (c7 0) (cE (.int 2))) (q13 (c7 1) (q14))))))
def aJ2 : List D → M D := J2 2 bV5
def aQ1 : Fs := j9 (ifS (v6 (d7 eqD (c7 0) (cE (.str ("any" : Str))))) (t6 (cE (.bl true))) (J5)) (j9 (ifS (aB2 (v6 (d7 aF6 (d7 ixD (c7 0) (cE (.int 3))) (cE .non))) (aD1 (v7 (q15 aK1 (q13 (Q8 (itW (d7 ixD (d7 ixD (c7 0) (cE (.int 3))) (cE (.int 0)))) [none] (q16 0) (U4) (d7 neD (c7 0) (cE (.tup [.tup [], .tup [.str ("of" : Str), .tup []], .tup [], .non, .non])))) (q14)))))) (t6 (cE (.bl false))) (J5)) (j9 (ifS (aB2 (v6 (d7 aF6 (d7 ixD (c7 0) (cE (.int 4))) (cE .non))) (aD1 (v7 (q15 aK1 (q13 (Q8 (itW (d7 ixD (d7 ixD (c7 0) (cE (.int 4))) (cE (.int 0)))) [none, some 0] (q16 0) (U4) (q15 (fnX 2 aJ2) (q13 (c7 0) (q13 (d7 ixD (d7 ixD (c7 1) (cE (.int 4))) (cE (.int 1))) (q14))))) (q14)))))) (t6 (cE (.bl false))) (J5)) (t6 (d7 neD (c7 0) (cE (.tup [.tup [.tup [.non, .non]], .tup [.str ("but" : Str), .tup []], .tup [.bl false, .bl true], .tup [.tup [], .str ("any" : Str)], .tup [.tup [], .str ("any" : Str)]]))))))
def S7 : List D → M D := J2 1 aQ1
def V2 : Fs := (ifS (aD1 (v7 (q15 (fnX 1 Q5) (q13 (c7 3) (q14))))) (t6 (cE (.bl false))) (J5))
def V3 : Fs := (aO2 (mtE U9 aQ9 (c7 1) (q13 (c7 3) (q14))))
def V4 : Fs := (aO2 (mtE U9 aI6 (c7 2) (q13 (q15 (fnX 1 R4) (q13 (c7 3) (q14))) (q14))))
def aW0 : Fs := j9 (J4 (P0 (q14)) (q16 1)) (j9 (J4 (P0 (q13 (c7 0) (q14))) (q16 2)) (j9 (aN4 (v7 (c7 2)) (j9 Z1 (j9 V2 (j9 V3 V4)))) (t6 (q15 aK1 (q13 (Q8 (itW (c7 1)) [none] (q16 0) (U4) (q15 (fnX 1 S7) (q13 (c7 0) (q14)))) (q14))))))
def aN1 : List D → M D := J2 4 aW0
def T3 : Fs := (ifS (aB2 (v6 (d7 neD (c7 6) (cE (.str ("any" : Str))))) (v6 (d7 neD (q15 (fnX 5 aU5) (q13 (d7 ixD (c7 6) (cE (.int 0))) (q13 (d7 ixD (c7 6) (cE (.int 1))) (q13 (d7 ixD (c7 6) (cE (.int 2))) (q13 (d7 ixD (c7 6) (cE (.int 3))) (q13 (d7 ixD (c7 6) (cE (.int 4))) (q14))))))) (c7 6)))) (t6 (cE (.bl false))) (J5))
def bC1 : Fs := j9 (J4 (c7 0) (bD2 5 (Q7 (q16 1) (Q7 (q16 2) (Q7 (q16 3) (Q7 (q16 4) (Q7 (q16 5) (bD9)))))))) (j9 (J4 (q15 (fnX 5 aU5) (q13 (c7 1) (q13 (c7 2) (q13 (c7 3) (q13 (c7 4) (q13 (c7 5) (q14))))))) (q16 6)) (j9 (ifS (orT (v6 (d7 neD (c7 6) (q15 (fnX 5 K7) (q13 (c7 1) (q13 (c7 2) (q13 (c7 3) (q13 (c7 4) (q13 (c7 5) (q14))))))))) (v6 (d7 aF6 (q15 (fnX 1 aN1) (q13 (c7 6) (q14))) (cE (.bl true))))) (t6 (cE (.bl false))) (J5)) (j9 T3 (t6 (d7 eqD (q15 (fnX 5 aU5) (q13 (c7 1) (q13 (c7 2) (q13 (c7 3) (q13 (c7 4) (q13 (c7 5) (q14))))))) (c7 6))))))
def M3 : List D → M D := J2 7 bC1
def aN7 : Fs := j9 (ifS (v6 (d7 eqD (d7 ixD (c7 0) (cE (.int 2))) (cE (.int 0)))) (j9 (J4 (d7 bK7 (d7 ixD (c7 0) (cE (.int 0))) (c7 1)) (q16 2)) (j9 (J4 (d7 cC1 (d7 ixD (c7 0) (cE (.int 0))) (c7 1)) (bD0 (c7 0) (cE (.int 0)))) (t6 (c7 2)))) (J5)) (j9 (J4 (d7 T4 (d7 bK7 (d7 aY9 (d7 ixD (c7 0) (cE (.int 1))) (d7 ixD (c7 0) (cE (.int 1)))) (cE (.int 2147483629))) (cE (.int 3))) (bD0 (c7 0) (cE (.int 1)))) (t6 (d7 bK7 (d7 cC1 (d7 bK7 (d7 aY9 (d7 ixD (c7 0) (cE (.int 1))) (cE (.int 69621))) (cE (.int 2147483563))) (cE (.int 8))) (c7 1))))
def f9 : List D → M D := J2 3 aN7
def LT : Fs := (J4 (d7 T4 (c7 3) (d7 ixD (cE (.str ("abcdefghijklmnopqrstuvwxyz" : Str))) (q15 (fnX 2 f9) (q13 (c7 0) (q13 (cE (.int 26)) (q14)))))) (q16 3))
def aA1 : Fs := j9 (J4 (cE (.str ("" : Str))) (q16 3)) (j9 (aA0 (U6 (q13 (d7 T4 (c7 1) (q15 (fnX 2 f9) (q13 (c7 0) (q13 (d7 T4 (d7 bD1 (c7 2) (c7 1)) (cE (.int 1))) (q14))))) (q14))) (q16 4) LT) (t6 (c7 3)))
def Q6 : List D → M D := J2 5 aA1
def NB : Fs := (j9 (J4 (d7 ixD (P0 (q13 (cE (.str ("a" : Str))) (q13 (cE (.str ("b" : Str))) (q13 (cE (.str ("ab" : Str))) (q13 (cE (.str ("ba" : Str))) (q13 (cE (.str ("abc" : Str))) (q13 (cE (.str ("z" : Str))) (q13 (cE (.str ("zz" : Str))) (q13 (cE (.str ("zzzzzzzz" : Str))) (q14)))))))))) (q15 (fnX 2 f9) (q13 (c7 0) (q13 (cE (.int 8)) (q14))))) (q16 3)) (j9 (ifS (v6 (d7 eqD (q15 (fnX 2 f9) (q13 (c7 0) (q13 (cE (.int 3)) (q14)))) (cE (.int 1)))) (J4 (q15 (fnX 3 Q6) (q13 (c7 0) (q13 (cE (.int 1)) (q13 (cE (.int 8)) (q14))))) (q16 3)) (J5)) (J4 (cE (.bl true)) (bD0 (c7 1) (c7 3)))))
def aE2 : Fs := j9 (J4 (aN3) (q16 1)) (j9 (aA0 (U6 (q13 (q15 (fnX 2 f9) (q13 (c7 0) (q13 (d7 ixD (P0 (q13 (cE (.int 4)) (q13 (cE (.int 9)) (q14)))) (q15 (fnX 2 f9) (q13 (c7 0) (q13 (cE (.int 2)) (q14))))) (q14)))) (q14))) (q16 2) NB) (t6 (q15 aC6 (q13 (c7 1) (q14)))))
def T7 : List D → M D := J2 4 aE2
def aJ1 : Fs := j9 (ifS (v6 (d7 eqD (q15 (fnX 2 f9) (q13 (c7 0) (q13 (cE (.int 3)) (q14)))) (cE (.int 1)))) (t6 (d7 bD1 (q15 (fnX 2 f9) (q13 (c7 0) (q13 (d7 T4 (d7 aY9 (cE (.int 2)) (d7 cC9 (cE (.int 10)) (cE (.int 18)))) (cE (.int 1))) (q14)))) (d7 cC9 (cE (.int 10)) (cE (.int 18))))) (J5)) (t6 (d7 ixD (P0 (q13 (cE (.int 0)) (q13 (cE (.int 1)) (q13 (unE cE9 (cE (.int 1))) (q13 (cE (.int 2)) (q13 (unE cE9 (cE (.int 2))) (q13 (cE (.int 3)) (q13 (cE (.int 10)) (q13 (unE cE9 (cE (.int 10))) (q13 (d7 cC9 (cE (.int 10)) (cE (.int 18))) (q13 (d7 bD1 (cE (.int 0)) (d7 cC9 (cE (.int 10)) (cE (.int 18)))) (q14)))))))))))) (q15 (fnX 2 f9) (q13 (c7 0) (q13 (cE (.int 10)) (q14))))))
def R5 : List D → M D := J2 1 aJ1
def SA : Fs := (j9 (J4 (d7 T4 (d7 T4 (c7 2) (cE (.int 2))) (q15 (fnX 2 f9) (q13 (c7 0) (q13 (d7 ixD (P0 (q13 (cE (.int 3)) (q13 (cE (.int 50)) (q14)))) (q15 (fnX 2 f9) (q13 (c7 0) (q13 (cE (.int 2)) (q14))))) (q14))))) (q16 2)) (j9 (J4 (d7 T4 (c7 2) (d7 ixD (P0 (q13 (cE (.int 0)) (q13 (cE (.int 1)) (q13 (q15 (fnX 2 f9) (q13 (c7 0) (q13 (cE (.int 20)) (q14)))) (q14))))) (q15 (fnX 2 f9) (q13 (c7 0) (q13 (cE (.int 3)) (q14)))))) (q16 5)) (j9 (aO2 (mtE U9 aQ9 (c7 3) (q13 (u6 (q13 (c7 2) (q13 (c7 5) (q14)))) (q14)))) (J4 (c7 5) (q16 2)))))
def SC : Fs := (ifS (aB2 (v6 (d7 neD (c7 3) (P0 (q14)))) (v6 (d7 eqD (q15 (fnX 2 f9) (q13 (c7 0) (q13 (cE (.int 3)) (q14)))) (cE (.int 1))))) (J4 (u6 (q13 (cE .non) (q13 (d7 ixD (d7 ixD (c7 3) (cE (.int 0))) (cE (.int 1))) (q14)))) (bD0 (c7 3) (cE (.int 0)))) (J5))
def SD : Fs := (ifS (aB2 (v6 (d7 neD (c7 3) (P0 (q14)))) (v6 (d7 eqD (q15 (fnX 2 f9) (q13 (c7 0) (q13 (cE (.int 3)) (q14)))) (cE (.int 1))))) (J4 (u6 (q13 (d7 ixD (d7 ixD (c7 3) (unE cE9 (cE (.int 1)))) (cE (.int 0))) (q13 (cE .non) (q14)))) (bD0 (c7 3) (unE cE9 (cE (.int 1))))) (J5))
def W4 : Fs := j9 (J4 (q15 cN0 (q13 (d7 bD1 (d7 cC9 (cE (.int 10)) (cE (.int 18))) (cE (.int 1000))) (q13 (q15 (fnX 1 R5) (q13 (c7 0) (q14))) (q14)))) (q16 2)) (j9 (J4 (P0 (q14)) (q16 3)) (j9 (aA0 (U6 (q13 (q15 (fnX 2 f9) (q13 (c7 0) (q13 (d7 T4 (c7 1) (cE (.int 1))) (q14)))) (q14))) (q16 4) SA) (j9 SC (j9 SD (t6 (q15 aB9 (q13 (c7 3) (q14))))))))
def K6 : List D → M D := J2 6 W4
def aN6 : Fs := j9 (ifS (v6 (d7 eqD (q15 (fnX 2 f9) (q13 (c7 0) (q13 (cE (.int 3)) (q14)))) (cE (.int 1)))) (t6 (q15 (fnX 3 Q6) (q13 (c7 0) (q13 (cE (.int 0)) (q13 (cE (.int 20)) (q14)))))) (J5)) (t6 (d7 ixD (P0 (q13 (cE (.str ("" : Str))) (q13 (cE (.str ("a" : Str))) (q13 (cE (.str ("b" : Str))) (q13 (cE (.str ("aa" : Str))) (q13 (cE (.str ("ab" : Str))) (q13 (cE (.str ("ba" : Str))) (q13 (cE (.str ("abc" : Str))) (q13 (cE (.str ("z" : Str))) (q13 (cE (.str ("true" : Str))) (q13 (d7 aY9 (cE (.str ("z" : Str))) (cE (.int 20))) (q14)))))))))))) (q15 (fnX 2 f9) (q13 (c7 0) (q13 (cE (.int 10)) (q14))))))
def aC8 : List D → M D := J2 1 aN6
def WA : Fs := (J4 (cE (.bl true)) (bD0 (c7 2) (q15 (fnX 1 aC8) (q13 (c7 0) (q14)))))
def WB : Fs := (J4 (d7 T4 (c7 4) (q15 aC6 (q13 (Q8 (itW (c7 2)) [none, some 5] (q16 0) (v6 (d7 eqD (q15 aT8 (q13 (c7 0) (q14))) (c7 1))) (c7 0)) (q14)))) (q16 4))
def aK3 : Fs := j9 (J4 (aN3) (q16 2)) (j9 (aA0 (U6 (q13 (q15 (fnX 2 f9) (q13 (c7 0) (q13 (d7 T4 (c7 1) (cE (.int 1))) (q14)))) (q14))) (q16 3) WA) (j9 (J4 (P0 (q14)) (q16 4)) (j9 (aA0 (U6 (q13 (cE (.int 21)) (q14))) (q16 5) WB) (t6 (u6 (q13 (d7 ixD (P0 (q13 (cE (.str ("of" : Str))) (q13 (cE (.str ("but" : Str))) (q14)))) (q15 (fnX 2 f9) (q13 (c7 0) (q13 (cE (.int 2)) (q14))))) (q13 (q15 aB9 (q13 (c7 4) (q14))) (q14))))))))
def V7 : List D → M D := J2 6 aK3
def aT3 (R : List D → M D) : Fs := j9 (J4 (d7 ixD (P0 (q13 (u6 (q14)) (q13 (u6 (q13 (u6 (q13 (cE .non) (q13 (cE .non) (q14)))) (q14))) (q13 (q15 (fnX 2 K6) (q13 (c7 0) (q13 (cE (.int 3)) (q14)))) (q14))))) (q15 (fnX 2 f9) (q13 (c7 0) (q13 (cE (.int 3)) (q14))))) (q16 2)) (j9 (J4 (d7 ixD (P0 (q13 (u6 (q13 (cE (.str ("of" : Str))) (q13 (u6 (q14)) (q14)))) (q13 (u6 (q13 (cE (.str ("but" : Str))) (q13 (u6 (q14)) (q14)))) (q13 (q15 (fnX 2 V7) (q13 (c7 0) (q13 (cE (.int 3)) (q14)))) (q14))))) (q15 (fnX 2 f9) (q13 (c7 0) (q13 (cE (.int 3)) (q14))))) (q16 3)) (j9 (J4 (d7 ixD (P0 (q13 (u6 (q14)) (q13 (u6 (q13 (cE (.bl false)) (q14))) (q13 (u6 (q13 (cE (.bl true)) (q14))) (q13 (u6 (q13 (cE (.bl false)) (q13 (cE (.bl true)) (q14)))) (q14)))))) (q15 (fnX 2 f9) (q13 (c7 0) (q13 (cE (.int 4)) (q14))))) (q16 4)) (t6 (d7 T4 (u6 (q13 (c7 2) (q13 (c7 3) (q13 (c7 4) (q14))))) (q15 (fnX 2 R) (q13 (c7 0) (q13 (c7 1) (q14))))))))
def aB7 (R : List D → M D) : List D → M D := J2 5 (aT3 R)
def aT9 (R : List D → M D) : Fs := j9 (J4 (d7 T4 (d7 ixD (c7 0) (cE (.int 3))) (cE (.int 1))) (bD0 (c7 0) (cE (.int 3)))) (j9 (J4 (q15 (fnX 2 f9) (q13 (c7 0) (q13 (cE (.int 6)) (q14)))) (q16 2)) (j9 (ifS (v6 (d7 ltD (c7 2) (cE (.int 2)))) (t6 (d7 ixD (P0 (q13 (cE (.str ("any" : Str))) (q13 (q15 (fnX 0 o7) (q14)) (q14)))) (c7 2))) (J5)) (j9 (J4 (q15 (fnX 2 (aB7 R)) (q13 (c7 0) (q13 (c7 1) (q14)))) (bD2 5 (Q7 (q16 3) (Q7 (q16 4) (Q7 (q16 5) (Q7 (q16 6) (Q7 (q16 7) (bD9)))))))) (t6 (q15 (fnX 5 K7) (q13 (c7 3) (q13 (c7 4) (q13 (c7 5) (q13 (c7 6) (q13 (c7 7) (q14)))))))))))
def R7 (R : List D → M D) : List D → M D := J2 8 (aT9 R)
def PD (R : List D → M D) : Fs := (aO2 (mtE U9 aQ9 (c7 4) (q13 (u6 (q13 (c7 5) (q13 (d7 eqD (q15 (fnX 2 f9) (q13 (c7 0) (q13 (cE (.int 2)) (q14)))) (cE (.int 1))) (q13 (q15 (fnX 2 (R7 R)) (q13 (c7 0) (q13 (d7 bD1 (c7 1) (cE (.int 1))) (q14)))) (q14))))) (q14))))
def PL (R : List D → M D) : Fs := (ifS (aB2 (v6 (d7 gtD (c7 1) (cE (.int 1)))) (aB2 (v6 (d7 ltD (d7 ixD (c7 0) (cE (.int 3))) (cE (.int 25)))) (v6 (d7 eqD (q15 (fnX 2 f9) (q13 (c7 0) (q13 (cE (.int 2)) (q14)))) (cE (.int 1)))))) (J4 (u6 (q13 (q15 aB9 (q13 (Q8 (U6 (q13 (q15 (fnX 2 f9) (q13 (c7 0) (q13 (cE (.int 4)) (q14)))) (q14))) [none, some 1, some 0] (q16 0) (U4) (q15 (fnX 2 (R7 R)) (q13 (c7 2) (q13 (d7 bD1 (c7 1) (cE (.int 1))) (q14))))) (q14))) (q13 (q15 (fnX 2 (R7 R)) (q13 (c7 0) (q13 (d7 bD1 (c7 1) (cE (.int 1))) (q14)))) (q14)))) (q16 2)) (J5))
def PR (R : List D → M D) : Fs := (ifS (aB2 (v6 (d7 gtD (c7 1) (cE (.int 1)))) (aB2 (v6 (d7 ltD (d7 ixD (c7 0) (cE (.int 3))) (cE (.int 25)))) (v6 (d7 eqD (q15 (fnX 2 f9) (q13 (c7 0) (q13 (cE (.int 2)) (q14)))) (cE (.int 1)))))) (j9 (J4 (P0 (q14)) (q16 4)) (j9 (aA0 (itW (X8 (q15 (fnX 1 T7) (q13 (c7 0) (q14))) (aB5) (aE0 (cE (.int 4))))) (q16 5) (PD R)) (J4 (u6 (q13 (q15 aB9 (q13 (c7 4) (q14))) (q13 (q15 (fnX 2 (R7 R)) (q13 (c7 0) (q13 (d7 bD1 (c7 1) (cE (.int 1))) (q14)))) (q14)))) (q16 3)))) (J5))
def S6 (R : List D → M D) : Fs := j9 (J4 (cE .non) (q16 2)) (j9 (J4 (cE .non) (q16 3)) (j9 (PL R) (j9 (PR R) (t6 (u6 (q13 (c7 2) (q13 (c7 3) (q14))))))))
def W2 : Nat → List D → M D
 | 0 => fun _ => M.stuck
 | n + 1 => J2 6 (S6 (W2 n))
def S8 : List D → M D := W2 10
def aF4 : List D → M D := aB7 S8
def cF3 : List D → M D := R7 S8
def A2 : Fe := (d7 T4 (d7 T4 (X8 (c7 2) (aB5) (aE0 (c7 3))) (X8 (c7 1) (aE0 (c7 3)) (aE0 (d7 T4 (c7 3) (cE (.int 1)))))) (X8 (c7 2) (aE0 (d7 T4 (c7 3) (cE (.int 1)))) (aB5)))
def A3 : Fe := (d7 T4 (d7 T4 (X8 (c7 2) (aB5) (aE0 (cE (.int 3)))) (u6 (q13 (c7 4) (q14)))) (X8 (c7 2) (aE0 (cE (.int 4))) (aB5)))
def A4 : Fe := (d7 T4 (X8 (c7 2) (aB5) (aE0 (cE (.int 4)))) (u6 (q13 (u6 (q13 (u6 (q13 (c7 6) (q13 (u6 (q13 (cE (.str ("b" : Str))) (q13 (cE (.bl false)) (q13 (c7 1) (q14))))) (q14)))) (q13 (c7 7) (q14)))) (q14))))
def A5 : Fe := (q15 (fnX 2 aF4) (q13 (c7 10) (q13 (c7 11) (q14))))
def E2 : Fs := J4 (u6 (q13 (u6 (q13 (u6 (q13 (cE .non) (q13 (cE .non) (q14)))) (q14))) (q13 (u6 (q13 (cE (.str ("but" : Str))) (q13 (u6 (q14)) (q14)))) (q13 (u6 (q13 (cE (.bl false)) (q13 (cE (.bl true)) (q14)))) (q13 (u6 (q13 (u6 (q14)) (q13 (cE (.str ("any" : Str))) (q14)))) (q13 (u6 (q13 (u6 (q14)) (q13 (cE (.str ("any" : Str))) (q14)))) (q14))))))) (q16 2)
def U3 : Fs := ifS (orT (aD1 (v7 (q15 (fnX 1 M3) (q13 (c7 2) (q14))))) (aD1 (v7 (q15 (fnX 1 M3) (q13 (c7 1) (q14)))))) (t6 (cE (.bl false))) (J5)
def cI6 : Fs := j9 (J4 (q15 (fnX 0 o7) (q14)) (q16 1)) (j9 E2 (j9 U3 (j9 (aA0 (U6 (q13 (cE (.int 5)) (q14))) (q16 3) (ifS (aD1 (v7 (q15 (fnX 1 M3) (q13 A2 (q14))))) (t6 (cE (.bl false))) (J5))) (j9 (aA0 (itW (P0 (q13 (u6 (q13 (u6 (q13 (c7 1) (q14))) (q13 (cE (.str ("any" : Str))) (q14)))) (q13 (u6 (q13 (u6 (q13 (cE (.str ("any" : Str))) (q13 (c7 1) (q14)))) (q13 (c7 1) (q14)))) (q13 (u6 (q13 (u6 (q14)) (q13 (c7 1) (q14)))) (q13 (u6 (q13 (u6 (q13 (cE (.str ("any" : Str))) (q14))) (q13 (cE (.str ("any" : Str))) (q14)))) (q14))))))) (q16 4) (ifS (aD1 (v7 (q15 (fnX 1 M3) (q13 A3 (q14))))) (t6 (cE (.bl false))) (J5))) (j9 (J4 (P0 (q13 (u6 (q13 (cE (.str ("a" : Str))) (q13 (cE (.bl false)) (q13 (cE (.str ("any" : Str))) (q14))))) (q13 (u6 (q13 (cE (.str ("a" : Str))) (q13 (cE (.bl true)) (q13 (cE (.str ("any" : Str))) (q14))))) (q13 (u6 (q13 (cE (.str ("a" : Str))) (q13 (cE (.bl true)) (q13 (c7 1) (q14))))) (q13 (u6 (q13 (cE (.str ("a" : Str))) (q13 (cE (.bl false)) (q13 (c7 1) (q14))))) (q14)))))) (q16 5)) (j9 (aA0 (itW (c7 5)) (q16 6) (aA0 (itW (P0 (q13 (cE (.str ("any" : Str))) (q13 (c7 1) (q14))))) (q16 7) (ifS (aD1 (v7 (q15 (fnX 1 M3) (q13 A4 (q14))))) (t6 (cE (.bl false))) (J5)))) (j9 (aA0 (aY4 (q13 (X8 (c7 0) (aB5) (aE0 (cE (.int 42)))) (q14))) (bD2 2 (Q7 (q16 8) (Q7 (q16 9) (bD9)))) (j9 (J4 (q15 (fnX 3 Z7) (q13 (c7 0) (q13 (c7 9) (q13 (c7 8) (q14))))) (q16 10)) (aA0 (itW (P0 (q13 (cE (.int 4)) (q13 (cE (.int 3)) (q13 (cE (.int 2)) (q14)))))) (q16 11) (ifS (aD1 (v7 (q15 (fnX 1 M3) (q13 A5 (q14))))) (t6 (cE (.bl false))) (J5))))) (t6 (cE (.bl true))))))))))
def bX5 : List D → M D := J2 12 cI6
local macro_rules | `(tactic| walk_at $s:str) => (match s.getString.splitOn " " with | "u" :: l => (l.toArray.mapM fun x => `(Lean.Parser.Tactic.tacticSeq| apply $(Lean.mkIdent x.toName))) >>= fun t => `(tactic| with_reducible first $[| $t]*) | "g" :: n :: c :: l => (l.toArray.mapM fun x => match x with | "a" => `(tactic| assumption) | "d" => `(tactic| decide) | "k" => `(tactic| decide +kernel) | "r" => `(tactic| rfl) | "A" => `(tactic| all_goals walk_at "z") | x => `(tactic| walk_at $(Lean.Syntax.mkStrLit x))) >>= fun t => `(?_) >>= fun h => `(tactic| ((with_reducible refine $(Lean.mkIdent n.toName) $(Array.replicate c.toNat! h)*); ($[$t];*))) | "m" :: f :: l => `(tactic| ((with_reducible apply $(Lean.mkIdent f.toName) $(l.toArray.map fun x => ⟨(Lean.mkIdent x.toName).raw⟩)*) <;> walk_at "z")) | k :: m :: l => ((m :: l).toArray.mapM fun x => `(Lean.Parser.Tactic.tacticSeq| ((with_reducible apply $(Lean.mkIdent x.toName)) <;> walk_at $(Lean.Syntax.mkStrLit (if k == "x" then "c" else "z"))))) >>= fun t => `(tactic| first $[| $t]*) | _ => Lean.Macro.throwUnsupported)
local macro_rules | `(tactic| walk_at "c") => `(tactic| first
 | rfl
 | decide
 | assumption
 | exact .inl rfl
 | exact .inr rfl
 | exact .inr (.inl rfl)
 | exact .inr (.inr rfl)
 | exact aH0.units ‹_›
 | exact fun _ => rfl
 | exact fun _ _ => rfl
 | exact q17 rfl
 | exact PassesOwn.never
 | with_unfolding_all rfl
 | exact ⟨_, _, _, ‹m8 _ _ _›, rfl⟩)
local macro_rules | `(tactic| walk_at "cl") => `(tactic| exact ⟨_, _, by assumption, by assumption, by first | decide | omega⟩)
local macro_rules | `(tactic| walk_at "ck") => `(tactic| exact ⟨_, _, _, by assumption, by rfl, by rfl, by decide +kernel⟩)
local macro_rules | `(tactic| walk_at "z") => `(tactic| first
 | exact rfl
 | (walk_at "u q19 da_c q20 de_bl de_str de_non od_add od_sub od_mul od_fdiv od_mod od_pow od_le od_gt od_isC od_isnotC od_eq od_ne od_lt od_inX bd_len bd_isinstance bd_all bd_any bd_sum bd_tuple bd_list bd_min bd_sortedG do_none do_some de_op de_not de_cmp de_chain de_one de_andV de_orV de_if de_tup de_lst de_dict0 de_sliceT dt_not dt_cmp dw_and1 dw_or1 dw_and dw_or dts_nil dts_one dg_tup dg_sub dgs_nil dgs_cons ds_ret ds_if ds_expr ds_for ds_while db_nil db_one db_cons" <;> walk_at "z")
 | walk_at "x de_v de_cst dg_nm dg_name"
 | walk_at "y de_ix de_zipL di_r1 di_z di_e"
 | walk_at "g de_tyN 6 a d k r d d"
 | walk_at "g de_callC 5 cl r z d r"
 | walk_at "g de_callC0 3 cl r d"
 | walk_at "g de_blt 9 r z a k r z d d r"
 | walk_at "m de_mt PySem.F.slot_list_append PySem.F.type_list_append md_append"
 | walk_at "m de_mt PySem.F.slot_list_extend PySem.F.type_list_extend md_extend"
 | walk_at "m de_mt0 PySem.F.slot_list_pop PySem.F.type_list_pop md_pop"
 | walk_at "g de_cmpr 8 r z ck k A"
 | walk_at "m de_un ud_neg"
 | ((with_reducible apply DW.dt) <;> walk_at "u dw_and1 dw_or1 dw_and dw_or" <;> walk_at "z")
 | walk_at "y ds_asg dt_truth di_W"
 | walk_at "c"
 | (intro _; walk_at "z"))
local macro_rules | `(tactic| walk_at "db0") => `(tactic| ((first | apply db_one | apply db_cons) <;> walk_at "z"))
set_option maxHeartbeats 0
local macro_rules | `(tactic| walk_at "sc") => `(tactic| exact ⟨rfl, rfl, rfl, by decide +kernel, rfl, by decide +kernel, by decide +kernel⟩)
structure BC (K : PySem.W.Frag) (mg : Str → Option Value) : Prop where
 b : BLs mg
 c_NOTHING : cJ5 K mg "NOTHING" (.tup [.tup [], .tup [.str ("of" : Str), .tup []], .tup [], .non, .non])
 c_ALL_PARTS : cJ5 K mg "ALL_PARTS" (.tup [.tup [.tup [.non, .non]], .tup [.str ("but" : Str), .tup []], .tup [.bl false, .bl true], .tup [.tup [], .str ("any" : Str)], .tup [.tup [], .str ("any" : Str)]])
 c_ANY : cJ5 K mg "ANY" (.str ("any" : Str))
noncomputable def top (i : Nat) : Stmt := PySem.Challenge.pw_allmeet_k17_sets_made.main.body.getD i (.Pass ⟨0, 0, 0, 0⟩)
abbrev aF1 : Stmt := top 44
abbrev aN0 : Stmt := top 35
abbrev aD4 : Stmt := top 32
abbrev aA2 : Stmt := top 33
abbrev cE4 : Stmt := top 31
abbrev aI8 : Stmt := top 45
abbrev aN9 : Stmt := top 20
abbrev aB8 : Stmt := top 22
abbrev bG4 : Stmt := top 5
abbrev aS8 : Stmt := top 6
abbrev aZ6 : Stmt := top 2
abbrev aZ4 : Stmt := top 3
abbrev aS7 : Stmt := top 21
abbrev Z0 : Stmt := top 23
abbrev aK4 : Stmt := top 12
abbrev aT1 : Stmt := top 11
abbrev aU0 : Stmt := top 1
abbrev bF8 : Stmt := top 9
abbrev aL1 : Stmt := top 10
abbrev aK9 : Stmt := top 13
abbrev aO1 : Stmt := top 4
abbrev aK8 : Stmt := top 7
abbrev aU3 : Stmt := top 14
abbrev aO5 : Stmt := top 15
abbrev aG6 : Stmt := top 24
abbrev aK6 : Stmt := top 25
abbrev aL2 : Stmt := top 26
abbrev aT7 : Stmt := top 27
abbrev bJ1 : Stmt := top 28
abbrev aG8 : Stmt := top 29
abbrev bH8 : Stmt := top 30
abbrev aP0 : Stmt := top 49
abbrev aN2 : Stmt := top 36
abbrev aF5 : Stmt := top 37
abbrev aL5 : Stmt := top 40
abbrev aJ0 : Stmt := top 39
abbrev aC2 : Stmt := top 42
abbrev aO0 : Stmt := top 38
abbrev aT2 : Stmt := top 43
abbrev S9 : Stmt := top 46
abbrev aB3 : Stmt := top 47
abbrev aC1 : Stmt := top 48
abbrev bE9 : Stmt := top 50
theorem aM8 : m8 [] [] (j6 aF1) := by walk_at "sc"
theorem aW6 : m8 ["script", "cell", "k", "way"] ["script", "cell", "k"] (j6 aN0) := by walk_at "sc"
theorem aJ6 : m8 ["lists"] ["lists"] (j6 aD4) := by walk_at "sc"
theorem aF7 : m8 ["records"] ["records"] (j6 aA2) := by walk_at "sc"
theorem cK3 : m8 ["numbers", "texts", "truths", "lists", "records", "parts"] ["numbers", "texts", "truths", "lists", "records"] (j6 cE4) := by walk_at "sc"
theorem aP2 : m8 ["numbers", "texts", "truths", "lists", "records", "got", "every"] ["numbers", "texts", "truths", "lists", "records"] (j6 aI8) := by walk_at "sc"
theorem aX2 : m8 ["thing"] ["thing"] (j6 aN9) := by walk_at "sc"
theorem aI2 : m8 ["thing"] ["thing"] (j6 aB8) := by walk_at "sc"
theorem bO3 : m8 ["keys"] ["keys"] (j6 bG4) := by walk_at "sc"
theorem bA3 : m8 ["pairs"] ["pairs"] (j6 aS8) := by walk_at "sc"
theorem bF4 : m8 ["thing"] ["thing"] (j6 aZ6) := by walk_at "sc"
theorem bF5 : m8 ["thing"] ["thing"] (j6 aZ4) := by walk_at "sc"
theorem bB8 : m8 ["thing"] ["thing"] (j6 aS7) := by walk_at "sc"
theorem aE1 : m8 ["thing"] ["thing"] (j6 Z0) := by walk_at "sc"
theorem aS2 : m8 ["lower", "upper"] ["lower", "upper"] (j6 aK4) := by walk_at "sc"
theorem bA9 : m8 ["low", "high"] ["low", "high"] (j6 aT1) := by walk_at "sc"
theorem bB3 : m8 ["thing"] ["thing"] (j6 aU0) := by walk_at "sc"
theorem bO7 : m8 ["thing"] ["thing"] (j6 bF8) := by walk_at "sc"
theorem aS4 : m8 ["thing"] ["thing"] (j6 aL1) := by walk_at "sc"
theorem aR4 : m8 ["thing"] ["thing"] (j6 aK9) := by walk_at "sc"
theorem aU9 : m8 ["thing", "word"] ["thing", "word"] (j6 aO1) := by walk_at "sc"
theorem aR9 : m8 ["text"] ["text"] (j6 aK8) := by walk_at "sc"
theorem bB0 : m8 ["thing"] ["thing"] (j6 aU3) := by walk_at "sc"
theorem aV0 : m8 ["thing"] ["thing"] (j6 aO5) := by walk_at "sc"
theorem aM6 : m8 ["thing"] ["thing"] (j6 aG6) := by walk_at "sc"
theorem aS0 : m8 ["thing", "inner"] ["thing"] (j6 aK6) := by walk_at "sc"
theorem aR8 : m8 ["some", "fronts", "fields"] ["some"] (j6 aL2) := by walk_at "sc"
theorem bB4 : m8 ["one", "other", "waiting", "pair"] ["one", "other"] (j6 aT7) := by walk_at "sc"
theorem bO0 : m8 ["field", "more"] ["field", "more"] (j6 bJ1) := by walk_at "sc"
theorem aM2 : m8 ["some"] ["some"] (j6 aG8) := by walk_at "sc"
theorem bN0 : m8 ["thing", "found", "waiting", "some"] ["thing"] (j6 bH8) := by walk_at "sc"
theorem aV9 : m8 ["parts", "numbers", "texts", "truths", "lists", "records", "got"] ["parts"] (j6 aP0) := by walk_at "sc"
theorem aW2 : m8 ["hand", "limit", "got"] ["hand", "limit"] (j6 aN2) := by walk_at "sc"
theorem aM1 : m8 ["hand", "least", "most", "text", "k"] ["hand", "least", "most"] (j6 aF5) := by walk_at "sc"
theorem aS1 : m8 ["hand", "some", "k", "name"] ["hand"] (j6 aL5) := by walk_at "sc"
theorem aP1 : m8 ["hand"] ["hand"] (j6 aJ0) := by walk_at "sc"
theorem aH9 : m8 ["hand", "most", "low", "some", "k", "high"] ["hand", "most"] (j6 aC2) := by walk_at "sc"
theorem aW4 : m8 ["hand"] ["hand"] (j6 aO0) := by walk_at "sc"
theorem bA6 : m8 ["hand", "most", "some", "k", "got", "size"] ["hand", "most"] (j6 aT2) := by walk_at "sc"
theorem aI5 : m8 ["hand", "deep", "lists", "records", "fields", "name"] ["hand", "deep"] (j6 S9) := by walk_at "sc"
theorem bA8 : m8 ["hand", "deep", "numbers", "texts", "truths"] ["hand", "deep"] (j6 aB3) := by walk_at "sc"
theorem bC6 : m8 ["hand", "deep", "kind", "numbers", "texts", "truths", "lists", "records"] ["hand", "deep"] (j6 aC1) := by walk_at "sc"
theorem cZ8 : m8 ["script", "none", "every", "at", "lists", "fields", "field", "more", "k", "cell", "hand", "deep"] ["script"] (j6 bE9) := by walk_at "sc"
section
variable {P : Program} {w : World} {K : PySem.W.Frag} {mg : Str → Option Value} {base : Heap} {a : Addr} {d : FuncData} (zb : BC K mg)
include zb
theorem bC9 (c : FF K mg "_law_nothing" aF1 [] a d) : J9 P w K mg base CX0 1 a d [] (spD ⟨K, mg⟩ 0 o7) := by
 unfold o7
 exact R6 c aM8 rfl rfl fun _ _ _ _ _ _ _ => by obtain ⟨_, _, _, _⟩ := zb; have := aM8; unfold aF8; walk_at "db0"
theorem bP5 (c : FF K mg "_law_hand" aN0 ["script", "cell", "k"] a d) : J9 P w K mg base CX0 1 a d ["script", "cell", "k"] (spD ⟨K, mg⟩ 3 Z7) := by
 unfold Z7
 exact R6 c aW6 rfl rfl fun _ _ _ _ _ _ _ => by obtain ⟨_, _, _, _⟩ := zb; have := aW6; unfold aO6; walk_at "db0"
theorem aZ1 (c : FF K mg "lists_in_form" aD4 ["lists"] a d) : J9 P w K mg base CX0 1 a d ["lists"] (spD ⟨K, mg⟩ 1 U5) := by
 unfold U5
 exact R6 c aJ6 rfl rfl fun _ _ _ _ _ _ _ => by obtain ⟨_, _, _, _⟩ := zb; have := aJ6; unfold aD3; walk_at "db0"
theorem aU2 (c : FF K mg "records_in_form" aA2 ["records"] a d) : J9 P w K mg base CX0 1 a d ["records"] (spD ⟨K, mg⟩ 1 R3) := by
 unfold R3
 exact R6 c aF7 rfl rfl fun _ _ _ _ _ _ _ => by obtain ⟨_, _, _, _⟩ := zb; have := aF7; unfold aB0; walk_at "db0"
theorem dG3 (c : FF K mg "made" cE4 ["numbers", "texts", "truths", "lists", "records"] a d) (k2 : b8 U5 1 "lists_in_form" P w K mg base 1) (k3 : b8 R3 1 "records_in_form" P w K mg base 1) : J9 P w K mg base CX0 2 a d ["numbers", "texts", "truths", "lists", "records"] (spD ⟨K, mg⟩ 5 aU5) := by
 unfold aU5
 exact R6 c cK3 rfl rfl fun _ _ _ _ _ _ _ => by obtain ⟨_, _, _, _⟩ := zb; have := cK3; unfold cC2; walk_at "db0"
theorem bJ3 (c : FF K mg "_law_formed" aI8 ["numbers", "texts", "truths", "lists", "records"] a d) (k0 : b8 o7 0 "_law_nothing" P w K mg base 1) : J9 P w K mg base CX0 2 a d ["numbers", "texts", "truths", "lists", "records"] (spD ⟨K, mg⟩ 5 K7) := by
 unfold K7
 exact R6 c aP2 rfl rfl fun _ _ _ _ _ _ _ => by obtain ⟨_, _, _, _⟩ := zb; have := aP2; unfold aS3; unfold FF' FC FB FA FE FG'; walk_at "db0"
theorem bV2 (c : FF K mg "is_couple" aN9 ["thing"] a d) : J9 P w K mg base CX0 1 a d ["thing"] (spD ⟨K, mg⟩ 1 Z9) := by
 unfold Z9
 exact R6 c aX2 rfl rfl fun _ _ _ _ _ _ _ => by obtain ⟨_, _, _, _⟩ := zb; have := aX2; unfold bC5; walk_at "db0"
theorem aX7 (c : FF K mg "has_lists_form" aB8 ["thing"] a d) (k6 : b8 Z9 1 "is_couple" P w K mg base 1) : J9 P w K mg base CX0 2 a d ["thing"] (spD ⟨K, mg⟩ 1 R8) := by
 unfold R8
 exact R6 c aI2 rfl rfl fun _ _ _ _ _ _ _ => by obtain ⟨_, _, _, _⟩ := zb; have := aI2; unfold aK2; walk_at "db0"
theorem cO9 (c : FF K mg "rising" bG4 ["keys"] a d) : J9 P w K mg base CX0 1 a d ["keys"] (spD ⟨K, mg⟩ 1 aA6) := by
 unfold aA6
 exact R6 c bO3 rfl rfl fun _ _ _ _ _ _ _ => by obtain ⟨_, _, _, _⟩ := zb; have := bO3; unfold bZ9; walk_at "db0"
theorem cB2 (c : FF K mg "names_of" aS8 ["pairs"] a d) : J9 P w K mg base CX0 1 a d ["pairs"] (spD ⟨K, mg⟩ 1 aH3) := by
 unfold aH3
 exact R6 c bA3 rfl rfl fun _ _ _ _ _ _ _ => by obtain ⟨_, _, _, _⟩ := zb; have := bA3; unfold bH1; walk_at "db0"
theorem cG8 (c : FF K mg "is_text" aZ6 ["thing"] a d) : J9 P w K mg base CX0 1 a d ["thing"] (spD ⟨K, mg⟩ 1 aC4) := by
 unfold aC4
 exact R6 c bF4 rfl rfl fun _ _ _ _ _ _ _ => by obtain ⟨_, _, _, _⟩ := zb; have := bF4; unfold bN4; walk_at "db0"
theorem cF1 (c : FF K mg "is_name" aZ4 ["thing"] a d) (k10 : b8 aC4 1 "is_text" P w K mg base 1) : J9 P w K mg base CX0 2 a d ["thing"] (spD ⟨K, mg⟩ 1 aJ9) := by
 unfold aJ9
 exact R6 c bF5 rfl rfl fun _ _ _ _ _ _ _ => by obtain ⟨_, _, _, _⟩ := zb; have := bF5; unfold bL7; walk_at "db0"
theorem bX3 (c : FF K mg "is_field" aS7 ["thing"] a d) (k11 : b8 aJ9 1 "is_name" P w K mg base 2) : J9 P w K mg base CX0 3 a d ["thing"] (spD ⟨K, mg⟩ 1 aH1) := by
 unfold aH1
 exact R6 c bB8 rfl rfl fun _ _ _ _ _ _ _ => by obtain ⟨_, _, _, _⟩ := zb; have := bB8; unfold bH0; walk_at "db0"
theorem aR1 (c : FF K mg "has_records_form" Z0 ["thing"] a d) (k8 : b8 aA6 1 "rising" P w K mg base 1) (k9 : b8 aH3 1 "names_of" P w K mg base 1) (k6 : b8 Z9 1 "is_couple" P w K mg base 1) (k12 : b8 aH1 1 "is_field" P w K mg base 3) : J9 P w K mg base CX0 4 a d ["thing"] (spD ⟨K, mg⟩ 1 Q0) := by
 unfold Q0
 exact R6 c aE1 rfl rfl fun _ _ _ _ _ _ _ => by obtain ⟨_, _, _, _⟩ := zb; have := aE1; unfold aG2; walk_at "db0"
theorem bK8 (c : FF K mg "lies_clear" aK4 ["lower", "upper"] a d) : J9 P w K mg base CX0 1 a d ["lower", "upper"] (spD ⟨K, mg⟩ 2 aA5) := by
 unfold aA5
 exact R6 c aS2 rfl rfl fun _ _ _ _ _ _ _ => by obtain ⟨_, _, _, _⟩ := zb; have := aS2; unfold aX6; walk_at "db0"
theorem bW0 (c : FF K mg "is_empty" aT1 ["low", "high"] a d) : J9 P w K mg base CX0 1 a d ["low", "high"] (spD ⟨K, mg⟩ 2 aG7) := by
 unfold aG7
 exact R6 c bA9 rfl rfl fun _ _ _ _ _ _ _ => by obtain ⟨_, _, _, _⟩ := zb; have := bA9; unfold bJ6; walk_at "db0"
theorem bV6 (c : FF K mg "is_whole" aU0 ["thing"] a d) : J9 P w K mg base CX0 1 a d ["thing"] (spD ⟨K, mg⟩ 1 aL6) := by
 unfold aL6
 exact R6 c bB3 rfl rfl fun _ _ _ _ _ _ _ => by obtain ⟨_, _, _, _⟩ := zb; have := bB3; unfold bF2; walk_at "db0"
theorem cQ1 (c : FF K mg "is_end" bF8 ["thing"] a d) (k16 : b8 aL6 1 "is_whole" P w K mg base 1) : J9 P w K mg base CX0 2 a d ["thing"] (spD ⟨K, mg⟩ 1 aP3) := by
 unfold aP3
 exact R6 c bO7 rfl rfl fun _ _ _ _ _ _ _ => by obtain ⟨_, _, _, _⟩ := zb; have := bO7; unfold bY0; walk_at "db0"
theorem bK5 (c : FF K mg "is_stretch" aL1 ["thing"] a d) (k15 : b8 aG7 2 "is_empty" P w K mg base 1) (k17 : b8 aP3 1 "is_end" P w K mg base 2) : J9 P w K mg base CX0 3 a d ["thing"] (spD ⟨K, mg⟩ 1 aA3) := by
 unfold aA3
 exact R6 c aS4 rfl rfl fun _ _ _ _ _ _ _ => by obtain ⟨_, _, _, _⟩ := zb; have := aS4; unfold aW7; walk_at "db0"
theorem bL0 (c : FF K mg "is_numbers" aK9 ["thing"] a d) (k14 : b8 aA5 2 "lies_clear" P w K mg base 1) (k18 : b8 aA3 1 "is_stretch" P w K mg base 3) : J9 P w K mg base CX0 4 a d ["thing"] (spD ⟨K, mg⟩ 1 aA4) := by
 unfold aA4
 exact R6 c aR4 rfl rfl fun _ _ _ _ _ _ _ => by obtain ⟨_, _, _, _⟩ := zb; have := aR4; unfold aV3; walk_at "db0"
theorem bP3 (c : FF K mg "is_tagged" aO1 ["thing", "word"] a d) : J9 P w K mg base CX0 1 a d ["thing", "word"] (spD ⟨K, mg⟩ 2 aD0) := by
 unfold aD0
 exact R6 c aU9 rfl rfl fun _ _ _ _ _ _ _ => by obtain ⟨_, _, _, _⟩ := zb; have := aU9; unfold bA5; walk_at "db0"
theorem bK9 (c : FF K mg "text_order" aK8 ["text"] a d) : J9 P w K mg base CX0 1 a d ["text"] (spD ⟨K, mg⟩ 1 aA9) := by
 unfold aA9
 exact R6 c aR9 rfl rfl fun _ _ _ _ _ _ _ => by obtain ⟨_, _, _, _⟩ := zb; have := aR9; unfold aV6; walk_at "db0"
theorem bY6 (c : FF K mg "is_texts" aU3 ["thing"] a d) (k8 : b8 aA6 1 "rising" P w K mg base 1) (k20 : b8 aD0 2 "is_tagged" P w K mg base 1) (k21 : b8 aA9 1 "text_order" P w K mg base 1) (k10 : b8 aC4 1 "is_text" P w K mg base 1) : J9 P w K mg base CX0 2 a d ["thing"] (spD ⟨K, mg⟩ 1 aG9) := by
 unfold aG9
 exact R6 c bB0 rfl rfl fun _ _ _ _ _ _ _ => by obtain ⟨_, _, _, _⟩ := zb; have := bB0; unfold bJ5; walk_at "db0"
theorem bQ5 (c : FF K mg "is_truths" aO5 ["thing"] a d) (k8 : b8 aA6 1 "rising" P w K mg base 1) : J9 P w K mg base CX0 2 a d ["thing"] (spD ⟨K, mg⟩ 1 aD2) := by
 unfold aD2
 exact R6 c aV0 rfl rfl fun _ _ _ _ _ _ _ => by obtain ⟨_, _, _, _⟩ := zb; have := aV0; unfold bB2; walk_at "db0"
theorem bD6 (c : FF K mg "has_set_form" aG6 ["thing"] a d) (k7 : b8 R8 1 "has_lists_form" P w K mg base 2) (k13 : b8 Q0 1 "has_records_form" P w K mg base 4) (k19 : b8 aA4 1 "is_numbers" P w K mg base 4) (k22 : b8 aG9 1 "is_texts" P w K mg base 2) (k23 : b8 aD2 1 "is_truths" P w K mg base 2) : J9 P w K mg base CX0 5 a d ["thing"] (spD ⟨K, mg⟩ 1 Q5) := by
 unfold Q5
 exact R6 c aM6 rfl rfl fun _ _ _ _ _ _ _ => by obtain ⟨_, _, _, _⟩ := zb; have := aM6; unfold aP5; walk_at "db0"
theorem bL2 (c : FF K mg "inner_sets" aK6 ["thing"] a d) : J9 P w K mg base CX0 1 a d ["thing"] (spD ⟨K, mg⟩ 1 R4) := by
 unfold R4
 exact R6 c aS0 rfl rfl fun _ _ _ _ _ _ _ => by obtain ⟨_, _, _, _⟩ := zb; have := aS0; unfold aA8; unfold IR IL; walk_at "db0"
theorem bK1 (c : FF K mg "outer_form" aL2 ["some"] a d) : J9 P w K mg base CX0 1 a d ["some"] (spD ⟨K, mg⟩ 1 W0) := by
 unfold W0
 exact R6 c aR8 rfl rfl fun _ _ _ _ _ _ _ => by obtain ⟨_, _, _, _⟩ := zb; have := aR8; unfold aV2; walk_at "db0"
theorem bZ6 (c : FF K mg "same_set" aT7 ["one", "other"] a d) (k26 : b8 W0 1 "outer_form" P w K mg base 1) (k25 : b8 R4 1 "inner_sets" P w K mg base 1) : J9 P w K mg base CX0 2 a d ["one", "other"] (spD ⟨K, mg⟩ 2 aH2) := by
 unfold aH2
 exact R6 c bB4 rfl rfl fun _ _ _ _ _ _ _ => by obtain ⟨_, _, _, _⟩ := zb; have := bB4; unfold aK7; unfold Z3 Z2 Z1; walk_at "db0"
theorem cR0 (c : FF K mg "is_due" bJ1 ["field", "more"] a d) (k27 : b8 aH2 2 "same_set" P w K mg base 2) : J9 P w K mg base CX0 3 a d ["field", "more"] (spD ⟨K, mg⟩ 2 aJ2) := by
 unfold aJ2
 exact R6 c bO0 rfl rfl fun _ _ _ _ _ _ _ => by obtain ⟨_, _, _, _⟩ := zb; have := bO0; unfold bV5; walk_at "db0"
theorem bD5 (c : FF K mg "has_one_form" aG8 ["some"] a d) (k28 : b8 aJ2 2 "is_due" P w K mg base 3) : J9 P w K mg base CX0 4 a d ["some"] (spD ⟨K, mg⟩ 1 S7) := by
 unfold S7
 exact R6 c aM2 rfl rfl fun _ _ _ _ _ _ _ => by obtain ⟨_, _, _, _⟩ := zb; have := aM2; unfold aQ1; walk_at "db0"
theorem cM1 (c : FF K mg "is_set" bH8 ["thing"] a d) (k24 : b8 Q5 1 "has_set_form" P w K mg base 5) (k25 : b8 R4 1 "inner_sets" P w K mg base 1) (k29 : b8 S7 1 "has_one_form" P w K mg base 4) : J9 P w K mg base CX0 6 a d ["thing"] (spD ⟨K, mg⟩ 1 aN1) := by
 unfold aN1
 exact R6 c bN0 rfl rfl fun _ _ _ _ _ _ _ => by obtain ⟨_, _, _, _⟩ := zb; have := bN0; unfold aW0; unfold V4 V2 V3 Z1; walk_at "db0"
theorem bR2 (c : FF K mg "_law_told" aP0 ["parts"] a d) (k4 : b8 aU5 5 "made" P w K mg base 2) (k5 : b8 K7 5 "_law_formed" P w K mg base 2) (k30 : b8 aN1 1 "is_set" P w K mg base 6) : J9 P w K mg base CX0 7 a d ["parts"] (spD ⟨K, mg⟩ 1 M3) := by
 unfold M3
 exact R6 c aV9 rfl rfl fun _ _ _ _ _ _ _ => by obtain ⟨_, _, _, _⟩ := zb; have := aV9; unfold bC1; unfold T3; walk_at "db0"
theorem bQ9 (c : FF K mg "_law_draw" aN2 ["hand", "limit"] a d) : J9 P w K mg base CX0 1 a d ["hand", "limit"] (spD ⟨K, mg⟩ 2 f9) := by
 unfold f9
 exact R6 c aW2 rfl rfl fun _ _ _ _ _ _ _ => by obtain ⟨_, _, _, _⟩ := zb; have := aW2; unfold aN7; walk_at "db0"
theorem bE1 (c : FF K mg "_law_letters" aF5 ["hand", "least", "most"] a d) (k32 : b8 f9 2 "_law_draw" P w K mg base 1) : J9 P w K mg base CX0 2 a d ["hand", "least", "most"] (spD ⟨K, mg⟩ 3 Q6) := by
 unfold Q6
 exact R6 c aM1 rfl rfl fun _ _ _ _ _ _ _ => by obtain ⟨_, _, _, _⟩ := zb; have := aM1; unfold aA1; unfold LT; walk_at "db0"
theorem bL1 (c : FF K mg "_law_names" aL5 ["hand"] a d) (k32 : b8 f9 2 "_law_draw" P w K mg base 1) (k33 : b8 Q6 3 "_law_letters" P w K mg base 2) : J9 P w K mg base CX0 3 a d ["hand"] (spD ⟨K, mg⟩ 1 T7) := by
 unfold T7
 exact R6 c aS1 rfl rfl fun _ _ _ _ _ _ _ => by obtain ⟨_, _, _, _⟩ := zb; have := aS1; unfold aE2; unfold NB; walk_at "db0"
theorem bG8 (c : FF K mg "_law_number" aJ0 ["hand"] a d) (k32 : b8 f9 2 "_law_draw" P w K mg base 1) : J9 P w K mg base CX0 2 a d ["hand"] (spD ⟨K, mg⟩ 1 R5) := by
 unfold R5
 exact R6 c aP1 rfl rfl fun _ _ _ _ _ _ _ => by obtain ⟨_, _, _, _⟩ := zb; have := aP1; unfold aJ1; walk_at "db0"
theorem aX0 (c : FF K mg "_law_stretches" aC2 ["hand", "most"] a d) (k35 : b8 R5 1 "_law_number" P w K mg base 2) (k32 : b8 f9 2 "_law_draw" P w K mg base 1) : J9 P w K mg base CX0 3 a d ["hand", "most"] (spD ⟨K, mg⟩ 2 K6) := by
 unfold K6
 exact R6 c aH9 rfl rfl fun _ _ _ _ _ _ _ => by obtain ⟨_, _, _, _⟩ := zb; have := aH9; unfold W4; unfold SA SD SC; walk_at "db0"
theorem bS5 (c : FF K mg "_law_text" aO0 ["hand"] a d) (k32 : b8 f9 2 "_law_draw" P w K mg base 1) (k33 : b8 Q6 3 "_law_letters" P w K mg base 2) : J9 P w K mg base CX0 3 a d ["hand"] (spD ⟨K, mg⟩ 1 aC8) := by
 unfold aC8
 exact R6 c aW4 rfl rfl fun _ _ _ _ _ _ _ => by obtain ⟨_, _, _, _⟩ := zb; have := aW4; unfold aN6; walk_at "db0"
theorem bX9 (c : FF K mg "_law_row" aT2 ["hand", "most"] a d) (k32 : b8 f9 2 "_law_draw" P w K mg base 1) (k37 : b8 aC8 1 "_law_text" P w K mg base 3) : J9 P w K mg base CX0 4 a d ["hand", "most"] (spD ⟨K, mg⟩ 2 V7) := by
 unfold V7
 exact R6 c bA6 rfl rfl fun _ _ _ _ _ _ _ => by obtain ⟨_, _, _, _⟩ := zb; have := bA6; unfold aK3; unfold WB WA; walk_at "db0"
theorem aV7 (c : FF K mg "_law_raw" aB3 ["hand", "deep"] a d) (k32 : b8 f9 2 "_law_draw" P w K mg base 1) (k36 : b8 K6 2 "_law_stretches" P w K mg base 3) (k38 : b8 V7 2 "_law_row" P w K mg base 4) {R : List D → M D} {lv : Nat} (k_R : b8 R 2 "_law_part_sets" P w K mg base lv) (h2 : 4 ≤ lv) : J9 P w K mg base CX0 (lv + 1) a d ["hand", "deep"] (spD ⟨K, mg⟩ 2 (aB7 R)) := by
 unfold aB7
 exact R6 c bA8 rfl rfl fun _ _ _ _ _ _ _ => by obtain ⟨_, _, _, _⟩ := zb; have := bA8; unfold aT3; walk_at "db0"
theorem aX4 (c : FF K mg "_law_set" aC1 ["hand", "deep"] a d) (k32 : b8 f9 2 "_law_draw" P w K mg base 1) (k5 : b8 K7 5 "_law_formed" P w K mg base 2) (k0 : b8 o7 0 "_law_nothing" P w K mg base 1) {R : List D → M D} {lv : Nat} (k_R : b8 R 2 "_law_part_sets" P w K mg base lv) (k40 : b8 (aB7 R) 2 "_law_raw" P w K mg base (lv + 1)) (h2 : 4 ≤ lv) : J9 P w K mg base CX0 (lv + 2) a d ["hand", "deep"] (spD ⟨K, mg⟩ 2 (R7 R)) := by
 unfold R7
 exact R6 c bC6 rfl rfl fun _ _ _ _ _ _ _ => by obtain ⟨_, _, _, _⟩ := zb; have := bC6; unfold aT9; walk_at "db0"
theorem aR2 (c : FF K mg "_law_part_sets" S9 ["hand", "deep"] a d) (k32 : b8 f9 2 "_law_draw" P w K mg base 1) (k34 : b8 T7 1 "_law_names" P w K mg base 3) {R : List D → M D} {lv : Nat} (k_R : b8 R 2 "_law_part_sets" P w K mg base lv) (k41 : b8 (R7 R) 2 "_law_set" P w K mg base (lv + 2)) (h2 : 4 ≤ lv) : J9 P w K mg base CX0 (lv + 3) a d ["hand", "deep"] (spD ⟨K, mg⟩ 2 (J2 6 (S6 R))) :=
 R6 c aI5 rfl rfl fun _ _ _ _ _ _ _ => by obtain ⟨_, _, _, _⟩ := zb; have := aI5; unfold S6; unfold PR PD PL; walk_at "db0"
theorem aG4 (c : FF K mg "_law_part_sets" S9 ["hand", "deep"] a d) {a40 : Addr} {d40 : FuncData} (c40 : FF K mg "_law_raw" aB3 ["hand", "deep"] a40 d40) {a41 : Addr} {d41 : FuncData} (c41 : FF K mg "_law_set" aC1 ["hand", "deep"] a41 d41) (k32 : b8 f9 2 "_law_draw" P w K mg base 1) (k34 : b8 T7 1 "_law_names" P w K mg base 3) (k36 : b8 K6 2 "_law_stretches" P w K mg base 3) (k38 : b8 V7 2 "_law_row" P w K mg base 4) (k5 : b8 K7 5 "_law_formed" P w K mg base 2) (k0 : b8 o7 0 "_law_nothing" P w K mg base 1) : ∀ n, J9 P w K mg base CX0 (4 + 3 * n) a d ["hand", "deep"] (spD ⟨K, mg⟩ 2 (W2 n))
 | 0 => cW0 rfl
 | n + 1 => by
   have kR := b8.of c (aG4 c c40 c41 k32 k34 k36 k38 k5 k0 n)
   have h40 := b8.of c40 (aV7 zb c40 k32 k36 k38 kR (Nat.le_add_right _ _))
   have h41 := b8.of c41 (aX4 zb c41 k32 k5 k0 kR h40 (Nat.le_add_right _ _))
   exact aR2 zb c k32 k34 kR h41 (Nat.le_add_right _ _)
theorem aW9 (c : FF K mg "_law_part_sets" S9 ["hand", "deep"] a d) {a40 : Addr} {d40 : FuncData} (c40 : FF K mg "_law_raw" aB3 ["hand", "deep"] a40 d40) {a41 : Addr} {d41 : FuncData} (c41 : FF K mg "_law_set" aC1 ["hand", "deep"] a41 d41) (k32 : b8 f9 2 "_law_draw" P w K mg base 1) (k34 : b8 T7 1 "_law_names" P w K mg base 3) (k36 : b8 K6 2 "_law_stretches" P w K mg base 3) (k38 : b8 V7 2 "_law_row" P w K mg base 4) (k5 : b8 K7 5 "_law_formed" P w K mg base 2) (k0 : b8 o7 0 "_law_nothing" P w K mg base 1) : J9 P w K mg base CX0 34 a d ["hand", "deep"] (spD ⟨K, mg⟩ 2 S8) := aG4 zb c c40 c41 k32 k34 k36 k38 k5 k0 10
theorem cA3 (c : FF K mg "_law_raw" aB3 ["hand", "deep"] a d) (k32 : b8 f9 2 "_law_draw" P w K mg base 1) (k36 : b8 K6 2 "_law_stretches" P w K mg base 3) (k38 : b8 V7 2 "_law_row" P w K mg base 4) (k39 : b8 S8 2 "_law_part_sets" P w K mg base 34) : J9 P w K mg base CX0 35 a d ["hand", "deep"] (spD ⟨K, mg⟩ 2 aF4) := aV7 zb c k32 k36 k38 k39 (by decide)
theorem cA7 (c : FF K mg "_law_set" aC1 ["hand", "deep"] a d) (k32 : b8 f9 2 "_law_draw" P w K mg base 1) (k5 : b8 K7 5 "_law_formed" P w K mg base 2) (k0 : b8 o7 0 "_law_nothing" P w K mg base 1) (k39 : b8 S8 2 "_law_part_sets" P w K mg base 34) (k40 : b8 aF4 2 "_law_raw" P w K mg base 35) : J9 P w K mg base CX0 36 a d ["hand", "deep"] (spD ⟨K, mg⟩ 2 cF3) := aX4 zb c k32 k5 k0 k39 k40 (by decide)
theorem dS3 (c : FF K mg "law" bE9 ["script"] a d) (k0 : b8 o7 0 "_law_nothing" P w K mg base 1) (k1 : b8 Z7 3 "_law_hand" P w K mg base 1) (k31 : b8 M3 1 "_law_told" P w K mg base 7) (k40 : b8 aF4 2 "_law_raw" P w K mg base 35) : J9 P w K mg base CX0 36 a d ["script"] (spD ⟨K, mg⟩ 1 bX5) := by
 unfold bX5
 exact R6 c cZ8 rfl rfl fun _ _ _ _ _ _ _ => by obtain ⟨_, _, _, _⟩ := zb; have := cZ8; unfold cI6; unfold E2 A4 A2 U3 A3 A5; walk_at "db0"
end
set_option maxHeartbeats 4000000 in
theorem all_mk {l : PySem.W.OpenLaw} {w : World} {K : PySem.W.Frag} {h : Heap} {mg : Str → Option Value} {fa : Addr} (X : K.In h) (G : h.Ns mainGlobals mg) (hfa : mg "law" = some (.ref fa))
 (Y0 : FH K "_law_nothing" aF1) (Y1 : FH K "_law_hand" aN0) (Y2 : FH K "lists_in_form" aD4) (Y3 : FH K "records_in_form" aA2) (Y4 : FH K "made" cE4) (Y5 : FH K "_law_formed" aI8) (Y6 : FH K "is_couple" aN9) (Y7 : FH K "has_lists_form" aB8) (Y8 : FH K "rising" bG4) (Y9 : FH K "names_of" aS8) (Y10 : FH K "is_text" aZ6) (Y11 : FH K "is_name" aZ4) (Y12 : FH K "is_field" aS7) (Y13 : FH K "has_records_form" Z0) (Y14 : FH K "lies_clear" aK4) (Y15 : FH K "is_empty" aT1) (Y16 : FH K "is_whole" aU0) (Y17 : FH K "is_end" bF8) (Y18 : FH K "is_stretch" aL1) (Y19 : FH K "is_numbers" aK9) (Y20 : FH K "is_tagged" aO1) (Y21 : FH K "text_order" aK8) (Y22 : FH K "is_texts" aU3) (Y23 : FH K "is_truths" aO5) (Y24 : FH K "has_set_form" aG6) (Y25 : FH K "inner_sets" aK6) (Y26 : FH K "outer_form" aL2) (Y27 : FH K "same_set" aT7) (Y28 : FH K "is_due" bJ1) (Y29 : FH K "has_one_form" aG8) (Y30 : FH K "is_set" bH8) (Y31 : FH K "_law_told" aP0) (Y32 : FH K "_law_draw" aN2) (Y33 : FH K "_law_letters" aF5) (Y34 : FH K "_law_names" aL5) (Y35 : FH K "_law_number" aJ0) (Y36 : FH K "_law_stretches" aC2) (Y37 : FH K "_law_text" aO0) (Y38 : FH K "_law_row" aT2) (Y39 : FH K "_law_part_sets" S9) (Y40 : FH K "_law_raw" aB3) (Y41 : FH K "_law_set" aC1) (Y42 : FH K "law" bE9)
 {a_NOTHING : Addr} {n_NOTHING : Nat} {sl_NOTHING : Array (Option Value)} {a_NOTHING_0 : Addr} {n_NOTHING_0 : Nat} {sl_NOTHING_0 : Array (Option Value)} {a_NOTHING_1 : Addr} {n_NOTHING_1 : Nat} {sl_NOTHING_1 : Array (Option Value)} {t_NOTHING_1_0 : Tok} {a_NOTHING_1_1 : Addr} {n_NOTHING_1_1 : Nat} {sl_NOTHING_1_1 : Array (Option Value)} {a_NOTHING_2 : Addr} {n_NOTHING_2 : Nat} {sl_NOTHING_2 : Array (Option Value)}
 (g_NOTHING : PySem.W.nsIn K mainGlobals "NOTHING" = some (some (.ref a_NOTHING))) (l_NOTHING : K.lookup a_NOTHING = some ⟨.type "tuple", none, .seq #[.ref a_NOTHING_0, .ref a_NOTHING_1, .ref a_NOTHING_2, .none, .none] n_NOTHING, sl_NOTHING⟩) (l_NOTHING_0 : K.lookup a_NOTHING_0 = some ⟨.type "tuple", none, .seq #[] n_NOTHING_0, sl_NOTHING_0⟩) (l_NOTHING_1 : K.lookup a_NOTHING_1 = some ⟨.type "tuple", none, .seq #[.str "of" t_NOTHING_1_0, .ref a_NOTHING_1_1] n_NOTHING_1, sl_NOTHING_1⟩) (l_NOTHING_1_1 : K.lookup a_NOTHING_1_1 = some ⟨.type "tuple", none, .seq #[] n_NOTHING_1_1, sl_NOTHING_1_1⟩) (l_NOTHING_2 : K.lookup a_NOTHING_2 = some ⟨.type "tuple", none, .seq #[] n_NOTHING_2, sl_NOTHING_2⟩)
 {a_ALL_PARTS : Addr} {n_ALL_PARTS : Nat} {sl_ALL_PARTS : Array (Option Value)} {a_ALL_PARTS_0 : Addr} {n_ALL_PARTS_0 : Nat} {sl_ALL_PARTS_0 : Array (Option Value)} {a_ALL_PARTS_0_0 : Addr} {n_ALL_PARTS_0_0 : Nat} {sl_ALL_PARTS_0_0 : Array (Option Value)} {a_ALL_PARTS_1 : Addr} {n_ALL_PARTS_1 : Nat} {sl_ALL_PARTS_1 : Array (Option Value)} {t_ALL_PARTS_1_0 : Tok} {a_ALL_PARTS_1_1 : Addr} {n_ALL_PARTS_1_1 : Nat} {sl_ALL_PARTS_1_1 : Array (Option Value)} {a_ALL_PARTS_2 : Addr} {n_ALL_PARTS_2 : Nat} {sl_ALL_PARTS_2 : Array (Option Value)} {a_ALL_PARTS_3 : Addr} {n_ALL_PARTS_3 : Nat} {sl_ALL_PARTS_3 : Array (Option Value)} {a_ALL_PARTS_3_0 : Addr} {n_ALL_PARTS_3_0 : Nat} {sl_ALL_PARTS_3_0 : Array (Option Value)} {t_ALL_PARTS_3_1 : Tok} {a_ALL_PARTS_4 : Addr} {n_ALL_PARTS_4 : Nat} {sl_ALL_PARTS_4 : Array (Option Value)} {a_ALL_PARTS_4_0 : Addr} {n_ALL_PARTS_4_0 : Nat} {sl_ALL_PARTS_4_0 : Array (Option Value)} {t_ALL_PARTS_4_1 : Tok}
 (g_ALL_PARTS : PySem.W.nsIn K mainGlobals "ALL_PARTS" = some (some (.ref a_ALL_PARTS))) (l_ALL_PARTS : K.lookup a_ALL_PARTS = some ⟨.type "tuple", none, .seq #[.ref a_ALL_PARTS_0, .ref a_ALL_PARTS_1, .ref a_ALL_PARTS_2, .ref a_ALL_PARTS_3, .ref a_ALL_PARTS_4] n_ALL_PARTS, sl_ALL_PARTS⟩) (l_ALL_PARTS_0 : K.lookup a_ALL_PARTS_0 = some ⟨.type "tuple", none, .seq #[.ref a_ALL_PARTS_0_0] n_ALL_PARTS_0, sl_ALL_PARTS_0⟩) (l_ALL_PARTS_0_0 : K.lookup a_ALL_PARTS_0_0 = some ⟨.type "tuple", none, .seq #[.none, .none] n_ALL_PARTS_0_0, sl_ALL_PARTS_0_0⟩) (l_ALL_PARTS_1 : K.lookup a_ALL_PARTS_1 = some ⟨.type "tuple", none, .seq #[.str "but" t_ALL_PARTS_1_0, .ref a_ALL_PARTS_1_1] n_ALL_PARTS_1, sl_ALL_PARTS_1⟩) (l_ALL_PARTS_1_1 : K.lookup a_ALL_PARTS_1_1 = some ⟨.type "tuple", none, .seq #[] n_ALL_PARTS_1_1, sl_ALL_PARTS_1_1⟩) (l_ALL_PARTS_2 : K.lookup a_ALL_PARTS_2 = some ⟨.type "tuple", none, .seq #[.bool false, .bool true] n_ALL_PARTS_2, sl_ALL_PARTS_2⟩) (l_ALL_PARTS_3 : K.lookup a_ALL_PARTS_3 = some ⟨.type "tuple", none, .seq #[.ref a_ALL_PARTS_3_0, .str "any" t_ALL_PARTS_3_1] n_ALL_PARTS_3, sl_ALL_PARTS_3⟩) (l_ALL_PARTS_3_0 : K.lookup a_ALL_PARTS_3_0 = some ⟨.type "tuple", none, .seq #[] n_ALL_PARTS_3_0, sl_ALL_PARTS_3_0⟩) (l_ALL_PARTS_4 : K.lookup a_ALL_PARTS_4 = some ⟨.type "tuple", none, .seq #[.ref a_ALL_PARTS_4_0, .str "any" t_ALL_PARTS_4_1] n_ALL_PARTS_4, sl_ALL_PARTS_4⟩) (l_ALL_PARTS_4_0 : K.lookup a_ALL_PARTS_4_0 = some ⟨.type "tuple", none, .seq #[] n_ALL_PARTS_4_0, sl_ALL_PARTS_4_0⟩)
 {t_ANY : Tok}
 (g_ANY : PySem.W.nsIn K mainGlobals "ANY" = some (some (.str "any" t_ANY)))
 (z : ∀ b ∈ bltL, PySem.W.nsIn K mainGlobals b = some none)
 (pure : ∀ ns : List Int, ns.length ≤ 63 → ∃ G', bX5 [.ref 0] [.rol (ns.map D.int)] = some (.ok (.bl true), G')) :
 ∃ fd : FuncData, (∀ (s : Shared) (v : Value), BindsTo s fd ⟨[v], []⟩ [("script", v)]) ∧ ∀ base : Heap, K.In base → base.Ns mainGlobals mg → J9 l.prog w K mg base CX0 36 fa fd ["script"] (cJ2 K) := by
 obtain ⟨_, _, an_law, _, _, kV_law, dc_law, pm_law, cd_law, ct_law, a42, l_law, e_law, k42⟩ := Y42
 have e := hfa.symm.trans (PySem.W.mg_of X G a42)
 cases e
 obtain ⟨_, _, C0⟩ := Y0.ff0 X G fun _ _ _ _ _ _ => rfl
 obtain ⟨_, _, C1⟩ := Y1.ff3 (p1 := "script") (p2 := "cell") (p3 := "k") X G fun _ _ _ _ _ _ _ _ _ => rfl
 obtain ⟨_, _, C2⟩ := Y2.ff1 (p1 := "lists") X G fun _ _ _ _ _ _ _ => rfl
 obtain ⟨_, _, C3⟩ := Y3.ff1 (p1 := "records") X G fun _ _ _ _ _ _ _ => rfl
 obtain ⟨_, _, C4⟩ := Y4.ff5 (p1 := "numbers") (p2 := "texts") (p3 := "truths") (p4 := "lists") (p5 := "records") X G fun _ _ _ _ _ _ _ _ _ _ _ => rfl
 obtain ⟨_, _, C5⟩ := Y5.ff5 (p1 := "numbers") (p2 := "texts") (p3 := "truths") (p4 := "lists") (p5 := "records") X G fun _ _ _ _ _ _ _ _ _ _ _ => rfl
 obtain ⟨_, _, C6⟩ := Y6.ff1 (p1 := "thing") X G fun _ _ _ _ _ _ _ => rfl
 obtain ⟨_, _, C7⟩ := Y7.ff1 (p1 := "thing") X G fun _ _ _ _ _ _ _ => rfl
 obtain ⟨_, _, C8⟩ := Y8.ff1 (p1 := "keys") X G fun _ _ _ _ _ _ _ => rfl
 obtain ⟨_, _, C9⟩ := Y9.ff1 (p1 := "pairs") X G fun _ _ _ _ _ _ _ => rfl
 obtain ⟨_, _, C10⟩ := Y10.ff1 (p1 := "thing") X G fun _ _ _ _ _ _ _ => rfl
 obtain ⟨_, _, C11⟩ := Y11.ff1 (p1 := "thing") X G fun _ _ _ _ _ _ _ => rfl
 obtain ⟨_, _, C12⟩ := Y12.ff1 (p1 := "thing") X G fun _ _ _ _ _ _ _ => rfl
 obtain ⟨_, _, C13⟩ := Y13.ff1 (p1 := "thing") X G fun _ _ _ _ _ _ _ => rfl
 obtain ⟨_, _, C14⟩ := Y14.ff2 (p1 := "lower") (p2 := "upper") X G fun _ _ _ _ _ _ _ _ => rfl
 obtain ⟨_, _, C15⟩ := Y15.ff2 (p1 := "low") (p2 := "high") X G fun _ _ _ _ _ _ _ _ => rfl
 obtain ⟨_, _, C16⟩ := Y16.ff1 (p1 := "thing") X G fun _ _ _ _ _ _ _ => rfl
 obtain ⟨_, _, C17⟩ := Y17.ff1 (p1 := "thing") X G fun _ _ _ _ _ _ _ => rfl
 obtain ⟨_, _, C18⟩ := Y18.ff1 (p1 := "thing") X G fun _ _ _ _ _ _ _ => rfl
 obtain ⟨_, _, C19⟩ := Y19.ff1 (p1 := "thing") X G fun _ _ _ _ _ _ _ => rfl
 obtain ⟨_, _, C20⟩ := Y20.ff2 (p1 := "thing") (p2 := "word") X G fun _ _ _ _ _ _ _ _ => rfl
 obtain ⟨_, _, C21⟩ := Y21.ff1 (p1 := "text") X G fun _ _ _ _ _ _ _ => rfl
 obtain ⟨_, _, C22⟩ := Y22.ff1 (p1 := "thing") X G fun _ _ _ _ _ _ _ => rfl
 obtain ⟨_, _, C23⟩ := Y23.ff1 (p1 := "thing") X G fun _ _ _ _ _ _ _ => rfl
 obtain ⟨_, _, C24⟩ := Y24.ff1 (p1 := "thing") X G fun _ _ _ _ _ _ _ => rfl
 obtain ⟨_, _, C25⟩ := Y25.ff1 (p1 := "thing") X G fun _ _ _ _ _ _ _ => rfl
 obtain ⟨_, _, C26⟩ := Y26.ff1 (p1 := "some") X G fun _ _ _ _ _ _ _ => rfl
 obtain ⟨_, _, C27⟩ := Y27.ff2 (p1 := "one") (p2 := "other") X G fun _ _ _ _ _ _ _ _ => rfl
 obtain ⟨_, _, C28⟩ := Y28.ff2 (p1 := "field") (p2 := "more") X G fun _ _ _ _ _ _ _ _ => rfl
 obtain ⟨_, _, C29⟩ := Y29.ff1 (p1 := "some") X G fun _ _ _ _ _ _ _ => rfl
 obtain ⟨_, _, C30⟩ := Y30.ff1 (p1 := "thing") X G fun _ _ _ _ _ _ _ => rfl
 obtain ⟨_, _, C31⟩ := Y31.ff1 (p1 := "parts") X G fun _ _ _ _ _ _ _ => rfl
 obtain ⟨_, _, C32⟩ := Y32.ff2 (p1 := "hand") (p2 := "limit") X G fun _ _ _ _ _ _ _ _ => rfl
 obtain ⟨_, _, C33⟩ := Y33.ff3 (p1 := "hand") (p2 := "least") (p3 := "most") X G fun _ _ _ _ _ _ _ _ _ => rfl
 obtain ⟨_, _, C34⟩ := Y34.ff1 (p1 := "hand") X G fun _ _ _ _ _ _ _ => rfl
 obtain ⟨_, _, C35⟩ := Y35.ff1 (p1 := "hand") X G fun _ _ _ _ _ _ _ => rfl
 obtain ⟨_, _, C36⟩ := Y36.ff2 (p1 := "hand") (p2 := "most") X G fun _ _ _ _ _ _ _ _ => rfl
 obtain ⟨_, _, C37⟩ := Y37.ff1 (p1 := "hand") X G fun _ _ _ _ _ _ _ => rfl
 obtain ⟨_, _, C38⟩ := Y38.ff2 (p1 := "hand") (p2 := "most") X G fun _ _ _ _ _ _ _ _ => rfl
 obtain ⟨_, _, C39⟩ := Y39.ff2 (p1 := "hand") (p2 := "deep") X G fun _ _ _ _ _ _ _ _ => rfl
 obtain ⟨_, _, C40⟩ := Y40.ff2 (p1 := "hand") (p2 := "deep") X G fun _ _ _ _ _ _ _ _ => rfl
 obtain ⟨_, _, C41⟩ := Y41.ff2 (p1 := "hand") (p2 := "deep") X G fun _ _ _ _ _ _ _ _ => rfl
 have C42 : FF K mg "law" bE9 ["script"] _ _ := ⟨bQ0 l_law e_law k42, (bQ0 l_law e_law k42).binds (ps := ["script"]) (fun _ _ _ _ _ _ us hl => match us, hl with | [_], _ => rfl), PySem.W.mg_of X G a42⟩
 have zb0 := BLs.of X G z
 have zb : BC K mg := ⟨zb0, ⟨_, PySem.W.mg_of X G g_NOTHING, X6 (us := [.ref a_NOTHING_0, .ref a_NOTHING_1, .ref a_NOTHING_2, .none, .none]) l_NOTHING rfl (J6 (X6 (us := []) l_NOTHING_0 rfl (T5)) (J6 (X6 (us := [.str "of" t_NOTHING_1_0, .ref a_NOTHING_1_1]) l_NOTHING_1 rfl (J6 (bI0) (J6 (X6 (us := []) l_NOTHING_1_1 rfl (T5)) (T5)))) (J6 (X6 (us := []) l_NOTHING_2 rfl (T5)) (J6 (bT4) (J6 (bT4) (T5))))))⟩, ⟨_, PySem.W.mg_of X G g_ALL_PARTS, X6 (us := [.ref a_ALL_PARTS_0, .ref a_ALL_PARTS_1, .ref a_ALL_PARTS_2, .ref a_ALL_PARTS_3, .ref a_ALL_PARTS_4]) l_ALL_PARTS rfl (J6 (X6 (us := [.ref a_ALL_PARTS_0_0]) l_ALL_PARTS_0 rfl (J6 (X6 (us := [.none, .none]) l_ALL_PARTS_0_0 rfl (J6 (bT4) (J6 (bT4) (T5)))) (T5))) (J6 (X6 (us := [.str "but" t_ALL_PARTS_1_0, .ref a_ALL_PARTS_1_1]) l_ALL_PARTS_1 rfl (J6 (bI0) (J6 (X6 (us := []) l_ALL_PARTS_1_1 rfl (T5)) (T5)))) (J6 (X6 (us := [.bool false, .bool true]) l_ALL_PARTS_2 rfl (J6 (dJ3) (J6 (dJ3) (T5)))) (J6 (X6 (us := [.ref a_ALL_PARTS_3_0, .str "any" t_ALL_PARTS_3_1]) l_ALL_PARTS_3 rfl (J6 (X6 (us := []) l_ALL_PARTS_3_0 rfl (T5)) (J6 (bI0) (T5)))) (J6 (X6 (us := [.ref a_ALL_PARTS_4_0, .str "any" t_ALL_PARTS_4_1]) l_ALL_PARTS_4 rfl (J6 (X6 (us := []) l_ALL_PARTS_4_0 rfl (T5)) (J6 (bI0) (T5)))) (T5))))))⟩, ⟨_, PySem.W.mg_of X G g_ANY, bI0⟩⟩
 refine ⟨PySem.W.fnOf "law" "law" (W3 bE9) (T9 bE9) (j6 bE9) .none kV_law dc_law pm_law an_law cd_law ct_law, fun s v => .of_eq rfl, fun base _ _ => dO9 ?_ pure⟩
 have O0 := bC9 (P := l.prog) (w := w) (base := base) zb C0
 have O1 := bP5 (P := l.prog) (w := w) (base := base) zb C1
 have O2 := aZ1 (P := l.prog) (w := w) (base := base) zb C2
 have O3 := aU2 (P := l.prog) (w := w) (base := base) zb C3
 have O4 := dG3 (P := l.prog) (w := w) (base := base) zb C4 (b8.of C2 O2) (b8.of C3 O3)
 have O5 := bJ3 (P := l.prog) (w := w) (base := base) zb C5 (b8.of C0 O0)
 have O6 := bV2 (P := l.prog) (w := w) (base := base) zb C6
 have O7 := aX7 (P := l.prog) (w := w) (base := base) zb C7 (b8.of C6 O6)
 have O8 := cO9 (P := l.prog) (w := w) (base := base) zb C8
 have O9 := cB2 (P := l.prog) (w := w) (base := base) zb C9
 have O10 := cG8 (P := l.prog) (w := w) (base := base) zb C10
 have O11 := cF1 (P := l.prog) (w := w) (base := base) zb C11 (b8.of C10 O10)
 have O12 := bX3 (P := l.prog) (w := w) (base := base) zb C12 (b8.of C11 O11)
 have O13 := aR1 (P := l.prog) (w := w) (base := base) zb C13 (b8.of C8 O8) (b8.of C9 O9) (b8.of C6 O6) (b8.of C12 O12)
 have O14 := bK8 (P := l.prog) (w := w) (base := base) zb C14
 have O15 := bW0 (P := l.prog) (w := w) (base := base) zb C15
 have O16 := bV6 (P := l.prog) (w := w) (base := base) zb C16
 have O17 := cQ1 (P := l.prog) (w := w) (base := base) zb C17 (b8.of C16 O16)
 have O18 := bK5 (P := l.prog) (w := w) (base := base) zb C18 (b8.of C15 O15) (b8.of C17 O17)
 have O19 := bL0 (P := l.prog) (w := w) (base := base) zb C19 (b8.of C14 O14) (b8.of C18 O18)
 have O20 := bP3 (P := l.prog) (w := w) (base := base) zb C20
 have O21 := bK9 (P := l.prog) (w := w) (base := base) zb C21
 have O22 := bY6 (P := l.prog) (w := w) (base := base) zb C22 (b8.of C8 O8) (b8.of C20 O20) (b8.of C21 O21) (b8.of C10 O10)
 have O23 := bQ5 (P := l.prog) (w := w) (base := base) zb C23 (b8.of C8 O8)
 have O24 := bD6 (P := l.prog) (w := w) (base := base) zb C24 (b8.of C7 O7) (b8.of C13 O13) (b8.of C19 O19) (b8.of C22 O22) (b8.of C23 O23)
 have O25 := bL2 (P := l.prog) (w := w) (base := base) zb C25
 have O26 := bK1 (P := l.prog) (w := w) (base := base) zb C26
 have O27 := bZ6 (P := l.prog) (w := w) (base := base) zb C27 (b8.of C26 O26) (b8.of C25 O25)
 have O28 := cR0 (P := l.prog) (w := w) (base := base) zb C28 (b8.of C27 O27)
 have O29 := bD5 (P := l.prog) (w := w) (base := base) zb C29 (b8.of C28 O28)
 have O30 := cM1 (P := l.prog) (w := w) (base := base) zb C30 (b8.of C24 O24) (b8.of C25 O25) (b8.of C29 O29)
 have O31 := bR2 (P := l.prog) (w := w) (base := base) zb C31 (b8.of C4 O4) (b8.of C5 O5) (b8.of C30 O30)
 have O32 := bQ9 (P := l.prog) (w := w) (base := base) zb C32
 have O33 := bE1 (P := l.prog) (w := w) (base := base) zb C33 (b8.of C32 O32)
 have O34 := bL1 (P := l.prog) (w := w) (base := base) zb C34 (b8.of C32 O32) (b8.of C33 O33)
 have O35 := bG8 (P := l.prog) (w := w) (base := base) zb C35 (b8.of C32 O32)
 have O36 := aX0 (P := l.prog) (w := w) (base := base) zb C36 (b8.of C35 O35) (b8.of C32 O32)
 have O37 := bS5 (P := l.prog) (w := w) (base := base) zb C37 (b8.of C32 O32) (b8.of C33 O33)
 have O38 := bX9 (P := l.prog) (w := w) (base := base) zb C38 (b8.of C32 O32) (b8.of C37 O37)
 have O39 := aW9 (P := l.prog) (w := w) (base := base) zb C39 C40 C41 (b8.of C32 O32) (b8.of C34 O34) (b8.of C36 O36) (b8.of C38 O38) (b8.of C5 O5) (b8.of C0 O0)
 have O40 := cA3 (P := l.prog) (w := w) (base := base) zb C40 (b8.of C32 O32) (b8.of C36 O36) (b8.of C38 O38) (b8.of C39 O39)
 have O41 := cA7 (P := l.prog) (w := w) (base := base) zb C41 (b8.of C32 O32) (b8.of C5 O5) (b8.of C0 O0) (b8.of C39 O39) (b8.of C40 O40)
 have O42 := dS3 (P := l.prog) (w := w) (base := base) zb C42 (b8.of C0 O0) (b8.of C1 O1) (b8.of C31 O31) (b8.of C40 O40)
 exact O42
theorem walk {l : PySem.W.OpenLaw} {q : Program} {loose : List Str} {XP : (Str → Option Value) → Heap → Prop} {YP : World → Heap → Prop} {d : DefRec} {K : Params → PySem.W.Frag} (hn : l.most = some 63) (hdf : d.params.defaults = [])
 (hY : ∀ (w : World) (h : Heap), YP w h → (K w.params).In h)
 (F : ∀ (w : World) (mg : Str → Option Value) (fa : Addr) (h : Heap), (K w.params).In h → h.Ns mainGlobals mg → mg d.name = some (.ref fa) →
   ∃ fd : FuncData, (∀ (s : Shared) (u : Value), BindsTo s fd ⟨[u], []⟩ [("script", u)]) ∧ ∀ base : Heap, (K w.params).In base → base.Ns mainGlobals mg → J9 l.prog w (K w.params) mg base CX0 36 fa fd ["script"] (cJ2 (K w.params))) :
 PySem.W.WalkO q loose XP YP l.row.toRowW d [] (fun f vs => PySem.call f vs) :=
 L2.walk_of (n := 63) (k := 36) (x := "script") (CX := fun _ => CX0) (sp := fun w => cJ2 (K w.params)) hn (by decide) hdf ⟨rfl, by decide, by decide⟩ hY F (fun _ _ a ns hl hO hS => ⟨a, ns, rfl, hS, hO, hl, fun _ => rfl⟩) fun _ _ _ _ _ z => z
mutual
noncomputable def szD : D → Nat
 | .tup l => 1 + szL l
 | .str _ => 1
 | .ref _ => 1
 | .fn _ => 1
 | .ty _ => 1
 | .non => 1
 | .bl _ => 1
 | .int _ => 1
noncomputable def szL : List D → Nat
 | [] => 0
 | d :: r => szD d + szL r
end
theorem bT1 : ∀ d : D, 1 ≤ szD d := fun d => by cases d <;> unfold szD <;> lia
theorem bE2 : ∀ l : List D, l.length ≤ szL l
 | [] => by simp [szL]
 | d :: r => by
   have := bE2 r
   have := bT1 d
   unfold szL
   simp only [List.length_cons]
   lia
theorem aE4 : ∀ a b : List D, szL (a ++ b) = szL a + szL b
 | [], b => by simp [szL]
 | d :: r, b => by
   have := aE4 r b
   simp only [List.cons_append, szL]
   lia
noncomputable def Ap (G G' : DH) : Prop := ∃ t, G' = G ++ t
theorem Ap.refl {G : DH} : Ap G G := ⟨[], by simp⟩
theorem Ap.trans {G G1 G2 : DH} (h : Ap G G1) (k : Ap G1 G2) : Ap G G2 := by
 obtain ⟨t, rfl⟩ := h
 obtain ⟨u, rfl⟩ := k
 exact ⟨t ++ u, by simp⟩
theorem Ap.one {G : DH} {o : DO} : Ap G (G ++ [o]) := ⟨_, rfl⟩
theorem Ap.at {G G' : DH} {p : Nat} {o : DO} (h : Ap G G') (e : G[p]? = some o) : G'[p]? = some o := by
 obtain ⟨t, rfl⟩ := h
 exact R0 e
section
variable {g : Fg} {t : DSt → M Bool} {e : Fe} {ck : DH → Bool}
theorem aB4 (J : DH → Prop) (S : DSt → Prop) (f : D → D) (hck : ∀ G, J G → ck G = true) : ∀ (items : List D) (σ : DSt) (G : DH), S σ → J G →
 (∀ d ∈ items, ∀ σ G, S σ → J G → Wp (g d σ) G fun σ1 G1 => G1 = G ∧ S σ1 ∧ Wp (t σ1) G fun b G2 => b = true ∧ G2 = G ∧ Wp (e σ1) G fun y G3 => J G3 ∧ y = f d) →
 Wp (M5 g t e ck items σ) G fun ys G' => J G' ∧ ys = items.map f
 | [], σ, G, s, j, _ => by
   rw [cA6]
   exact ⟨hck G j, j, rfl⟩
 | d :: r, σ, G, s, j, step => by
   rw [cB8]
   refine ⟨hck G j, Wp.mono (step d (by simp) σ G s j) fun σ1 G1 ⟨e1, s1, w1⟩ => ?_⟩
   subst e1
   refine Wp.mono w1 fun b G2 ⟨eb, e2, w2⟩ => ?_
   subst eb e2
   rw [if_pos rfl]
   refine Wp.mono w2 fun y G3 ⟨j3, py⟩ => ?_
   refine Wp.mono (aB4 J S f hck r σ1 G3 s1 j3 fun d hd => step d (by simp [hd])) fun ys G4 ⟨j4, l4⟩ => ⟨j4, by simp [l4, py]⟩
end
theorem dO8 {G : DH} {p : Nat} {l : List D} {lo hi : Option Int} {Q : DPP} (e : G[p]? = some (.lst l)) : Wp (slD (.ref p) lo hi) G Q ↔ Q (.ref G.length) (G ++ [.lst (DL.cutD l lo hi)]) := by
 have h : slD (.ref p) lo hi = (do
  let l ← Q3 p >>= DL.listOf
  N7 (.lst (DL.cutD l lo hi))) := rfl
 rw [h]
 simp only [j8, Q4, e, S5, DL.listOf, j7, aA7]
theorem big : 1000000 < sizeLine := by decide
section
variable {t : DSt → M Bool} {b : Fs} {σ : DSt} {G : DH} {P : Fl → DH → Prop}
theorem aZ0 {n : Nat} : Wp (U0 (n + 1) t b σ) G P ↔ Wp (t σ) G fun k G1 => if k = true then Wp (b σ) G1 fun fl G2 => match fl with
 | .nx σ' => Wp (U0 n t b σ') G2 P
 | .ct σ' => Wp (U0 n t b σ') G2 P
 | .bk σ' => P (.nx σ') G2
 | .rt d => P (.rt d) G2
 else P (.nx σ) G1 := by
 rw [U0]
 simp only [j8, aO8, j7]
 constructor
 · rintro ⟨k, G1, e, q⟩
   refine ⟨k, G1, e, ?_⟩
   rcases k with _ | _
   · exact q
   ·
     simp only [if_true] at q ⊢
     obtain ⟨fl, G2, e2, q⟩ := q
     refine ⟨fl, G2, e2, ?_⟩
     cases fl <;> first
      | exact q
      | exact j7.mp q
 · rintro ⟨k, G1, e, q⟩
   refine ⟨k, G1, e, ?_⟩
   rcases k with _ | _
   · exact q
   ·
     simp only [if_true] at q ⊢
     obtain ⟨fl, G2, e2, q⟩ := q
     refine ⟨fl, G2, e2, ?_⟩
     cases fl <;> first
      | exact q
      | exact j7.mpr q
theorem bX4 {n : Nat} (h : Wp (U0 n t b σ) G P) : Wp (aN4 t b σ) G P := by
 obtain ⟨a, G', e, q⟩ := h
 refine ⟨a, G', ?_, q⟩
 have hx : ∃ n, (U0 n t b σ G).isSome = true := ⟨n, by rw [e]; rfl⟩
 unfold aN4
 rw [dif_pos hx]
 have hs := Classical.choose_spec hx
 obtain ⟨r, hr⟩ := Option.isSome_iff_exists.mp hs
 rw [hr]
 have e1 := bO1 (Nat.le_max_left n (Classical.choose hx)) e
 have e2 := bO1 (Nat.le_max_right n (Classical.choose hx)) hr
 rw [e1] at e2
 exact e2.symm
end
theorem cK6 {r : Nat} {l : List D} {y : D} {G : DH} {Q : DPP} (h : G[r]? = some (.lst (l ++ [y]))) : Wp (dD1 (.ref r) []) G Q ↔ Q y (G.set r (.lst l)) := by
 have e : dD1 (.ref r) [] = (do
  let l ← lstM r
  match l.getLast? with
  | some y => do
    let _ ← bD8 r (.lst l.dropLast)
    pure y
  | none => M.stuck) := rfl
 rw [e]
 unfold lstM
 simp only [j8, Q4, h, S5, j7, List.getLast?_append, List.getLast?_singleton, Option.some_or, List.dropLast_concat, aY5]
theorem aU1 {r q : Nat} {l k : List D} {G : DH} {Q : DPP} (h : G[r]? = some (.lst l)) (hq : G[q]? = some (.lst k)) (hl : l.length + k.length ≤ sizeLine) : Wp (aI6 (.ref r) [.ref q]) G Q ↔ Q .non (G.set r (.lst (l ++ k))) := by
 have e : aI6 (.ref r) [.ref q] = (do
  let l ← lstM r
  let k ← lstM q
  if l.length + k.length ≤ sizeLine then do
   let _ ← bD8 r (.lst (l ++ k))
   pure .non
  else M.stuck) := rfl
 rw [e]
 unfold lstM
 simp only [j8, Q4, h, hq, S5, j7, if_pos hl, aY5]
theorem aZ5 {p : Nat} {xs : List D} {G : DH} {B : Bool → DH → Prop} (e : G[p]? = some (.lst xs)) : Wp (aC5 (.ref p)) G B ↔ B (!xs.isEmpty) G := by
 unfold aC5
 simp only [j8, Q4, e, S5, j7]
theorem lt_of_get {G : DH} {p : Nat} {o : DO} (e : G[p]? = some o) : p < G.length := by
 by_cases hi : p < G.length
 · exact hi
 · rw [List.getElem?_eq_none (by lia)] at e; cases e
section
variable {bd n : Nat}
end
theorem cC0 (l : List D) (n : Nat) : DL.cutD l none (some (n : Int)) = l.take n := by
 unfold DL.cutD
 rw [HT.sIx_none, HT.sIx_nat, List.drop_zero, Nat.sub_zero]
 by_cases h : n ≤ l.length
 · rw [Nat.min_eq_left h]
 · rw [Nat.min_eq_right (by lia), List.take_of_length_le (Nat.le_refl _), List.take_of_length_le (by lia)]
section
variable {G : DH} {Q : DPP}
theorem dD2 {ds : List D} {k : Int} (h0 : 0 ≤ k) (h1 : k < ds.length) (q : ∀ d ∈ ds, Q d (G ++ [.lst ds])) : Wp (ixD (.ref G.length) (.int k)) (G ++ [.lst ds]) Q := by
 rw [cD7 o4]
 obtain ⟨d, hd, e⟩ := bY5 (l := ds) h0 h1
 exact ⟨d, e, q d hd⟩
end
section
variable {α β : Type} {R S : α → β → Prop}
end
noncomputable abbrev T6 : Str := "any"
abbrev wOf : Str := "of"
noncomputable abbrev bD4 : Str := "but"
noncomputable def stD (p : D × D) : D := .tup [p.1, p.2]
noncomputable def fdD (f : Str × Bool × D) : D := .tup [.str f.1, .bl f.2.1, f.2.2]
def mkS (ns : List (D × D)) (w : Str) (ts : List Str) (tr : List Bool) (li re : D) : D := .tup [.tup (ns.map stD), .tup [.str w, .tup (ts.map D.str)], .tup (tr.map D.bl), li, re]
noncomputable def bJ7 : D → Prop
 | .non => True
 | .int _ => True
 | _ => False
def bF3 (p : D × D) : Prop := bJ7 p.1 ∧ bJ7 p.2 ∧ ∀ a b, p.1 = .int a → p.2 = .int b → a ≤ b ∧ b - a < 2 ^ 90
noncomputable def LiP (S : D → Prop) (li : D) : Prop := li = .non ∨ ∃ fs m, li = .tup [.tup fs, m] ∧ fs.length ≤ 100 ∧ (∀ x ∈ fs, S x) ∧ S m
def ReP (S : D → Prop) (re : D) : Prop := re = .non ∨ ∃ (fs : List (Str × Bool × D)) (m : D), re = .tup [.tup (fs.map fdD), m] ∧ fs.length ≤ 40 ∧ (fs.map (·.1)).Nodup ∧ (∀ f ∈ fs, f.1.length ≤ 1000 ∧ S f.2.2) ∧ S m
def SB : Nat → D → Prop
 | 0, _ => False
 | n + 1, d => d = .str T6 ∨ ∃ ns w ts tr li re, d = mkS ns w ts tr li re ∧ (∀ p ∈ ns, bF3 p) ∧ ns.length ≤ 100 ∧ (∀ z ∈ ts, z.length ≤ 1000) ∧ ts.length ≤ 100 ∧ tr.length ≤ 100 ∧ LiP (SB n) li ∧ ReP (SB n) re
section
variable {n : Nat} {ns : List (D × D)} {w : Str} {ts : List Str} {tr : List Bool} {li re : D}
end
noncomputable def eB4 : D → D → Bool
 | .int x, .int y => decide (x > y)
 | _, _ => false
theorem bT5 {i j : Int} {G : DH} {Q : DPP} : Wp (gtD (.int i) (.int j)) G Q ↔ Q (.bl (decide (i > j))) G := j7
theorem aI0 {a : D} (h : bJ7 a) : a = .non ∨ ∃ i, a = .int i := match a, h with
 | .non, _ => .inl rfl
 | .int i, _ => .inr ⟨i, rfl⟩
theorem bX6 {a b : D} {G : DH} {Q : DPP} (ha : bJ7 a) (hb : bJ7 b) : Wp (aG7 [a, b]) G Q ↔ Q (.bl (eB4 a b)) G := aM0 (by
 rcases aI0 ha with rfl | ⟨i, rfl⟩ <;> rcases aI0 hb with rfl | ⟨j, rfl⟩ <;> rfl)
section
variable {ps : List (Str × D)} {fs : List (Str × Bool × D)} {m : D} {G : DH}
end
theorem dM1 {G : DH} {r : Nat} {l : List D} {f : D → Bool} {Q : DPP} (h : G[r]? = some (.lst (l.map fun x => .bl (f x)))) : Wp (cM8 [.ref r]) G Q ↔ Q (.bl (l.any f)) G := by
 have h0 : cM8 [.ref r] = (do
  let l ← Q3 r >>= DL.listOf
  let bs ← aL8 (aX8 l)
  pure (.bl (bs.any id))) := rfl
 rw [h0]
 simp only [j8, Q4, h, S5, DL.listOf, j7, aO3, bS1, List.any_map]
 rfl
theorem eF6 {a b : List D} {G : DH} {Q : DPP} (h : a.length + b.length ≤ sizeLine) : Wp (T4 (.tup a) (.tup b)) G Q ↔ Q (.tup (a ++ b)) G := by
 have e : T4 (.tup a) (.tup b) = (if a.length + b.length ≤ sizeLine then pure (.tup (a ++ b)) else M.stuck : M D) := rfl
 rw [e, if_pos h, j7]
theorem cX6 (n : Nat) : K8 0 n = (List.range n).map fun i : Nat => D.int (i : Int) := by
 unfold K8
 refine List.map_congr_left fun i _ => ?_
 simp
theorem cH4 {G : DH} {p q : Nat} {xs : List D} {Q : DPP} (e : G[p]? = some (.lst xs)) (eq : G[q]? = some (.lst [])) : Wp (neD (.ref p) (.ref q)) G Q ↔ Q (.bl (!xs.isEmpty)) G := by
 have h : eqN 40 G (.ref p) (.ref q) = some xs.isEmpty := by
  have h1 : X7 G (.ref p) = some (false, xs) := by simp only [X7, e]
  have h2 : X7 G (.ref q) = some (false, []) := by simp only [X7, eq]
  rw [aR5]
  rw [h1, h2]
  rcases xs with _ | ⟨_, _⟩
  · rfl
  · rfl
 exact aM0 (show neD (.ref p) (.ref q) G = _ from by unfold neD; rw [h])
section
variable {ps : List (Str × D)} {fs : List (Str × Bool × D)} {m s v : D} {G : DH}
end
theorem ixv {r : Nat} {l : List D} {j : Int} {a b : Fe} {σ : DSt} {d : D} {G G1 : DH} {Q : DPP} (ha : a σ G = some (.ok (.ref r), G)) (hb : b σ G = some (.ok (.int j), G)) (e : G[r]? = some (.lst l)) (hd : atI l j = some d) (q : Q d G) : Wp (d7 ixD a b σ) G Q := aD9 ha hb ((cD7 e).mpr ⟨d, hd, q⟩)
theorem cW2 {r : Nat} {l : List D} {k : Int} {j : Nat} {a b : Fe} {σ : DSt} {d : D} {G : DH} {S : DSt → DH → Prop} (ha : a σ G = some (.ok (.ref r), G)) (hb : b σ G = some (.ok (.int k), G)) (e : G[r]? = some (.lst l)) (hj : ixN l.length k = some j) (q : S σ (G.set r (.lst (l.set j d)))) : Wp (bD0 a b d σ) G S := cG3.mpr (d8 ha (d8 hb ((dB4 e hj).mpr q)))
theorem dD9 {r : Nat} {n : Int} {G : DH} (h : M9 G r) (hn : 0 < n ∧ n < 2 ^ 100) : Wp (f9 [.ref r, .int n]) G fun x G' => ∃ k, x = .int k ∧ 0 ≤ k ∧ k < n ∧ ∃ o, G' = G.set r o ∧ M9 G' r := by
 have hlt := h.lt
 obtain ⟨a, b, c, e, hr, hb1, hb2⟩ := h
 refine J3 (show Wp (aN7 [some (.ref r), some (.int n), none]) G _ from ?_)
 refine m7.mpr (aM9 (K5 (J1 (ixv (G1 := G) rfl rfl hr rfl (d8 (a := .int 0) rfl (aI7.mpr ⟨_, rfl, fun _ => ?_, fun _ => ?_⟩))))))
 · refine m7.mpr (V6 (J1 (ixv (G1 := G) rfl rfl hr rfl (d8 (a := .int n) rfl ((aL7 hn.1).mpr ?_)))))
   refine m7.mpr (aK5.mpr (J1 (ixv (G1 := G) rfl rfl hr rfl (d8 (a := .int n) rfl ((bZ3 hn).mpr (cW2 (k := 0) rfl rfl hr rfl ?_))))))
   refine d8 (a := .rt (.int (a % n))) rfl (K9 ⟨_, rfl, Int.emod_nonneg _ (by lia), Int.emod_lt_of_pos _ hn.1, _, rfl, a / n, b, c, e, ?_, hb1, hb2⟩)
   exact List.getElem?_set_self hlt
 · have b1 : 0 ≤ b * b % 2147483629 := Int.emod_nonneg _ (by lia)
   have b2 : b * b % 2147483629 < 2147483629 := Int.emod_lt_of_pos _ (by lia)
   have hr2 : (G.set r (.lst [.int a, .int (b * b % 2147483629 + 3), .int c, .int e]))[r]? = some (.lst [.int a, .int (b * b % 2147483629 + 3), .int c, .int e]) := List.getElem?_set_self hlt
   refine G9.mpr (m7.mpr (aK5.mpr (J1 (J1 (J1 (ixv (G1 := G) rfl rfl hr rfl (ixv (G1 := G) rfl rfl hr rfl ((aU7 (Or.inl ⟨by lia, by lia⟩)).mpr (d8 (a := .int 2147483629) rfl ((aL7 (by decide)).mpr (d8 (a := .int 3) rfl (aI1.mpr (cW2 (k := 1) rfl rfl hr rfl ?_)))))))))))))
   refine M7 (J1 (J1 (J1 (J1 (ixv (G1 := G) rfl rfl hr2 rfl (d8 (a := .int 69621) rfl ((aU7 (Or.inr ⟨by lia, by lia⟩)).mpr (d8 (a := .int 2147483563) rfl ((aL7 (by decide)).mpr (d8 (a := .int 8) rfl ((bZ3 (by decide)).mpr (d8 (a := .int n) rfl ((aL7 hn.1).mpr ?_)))))))))))))
   exact ⟨_, rfl, Int.emod_nonneg _ (by lia), Int.emod_lt_of_pos _ hn.1, _, rfl, a, b * b % 2147483629 + 3, c, e, hr2, by lia, by lia⟩
theorem cK1 {r : Nat} {n : Int} {G : DH} (h : M9 G r) (hn : 0 < n ∧ n < 2 ^ 100) : Wp (f9 [.ref r, .int n]) G fun x G' => ∃ k, x = .int k ∧ 0 ≤ k ∧ k < n ∧ Fr r G G' :=
 Wp.mono (dD9 h hn) fun x G' ⟨k, e, h1, h2, o, e2, hh⟩ => ⟨k, e, h1, h2, by subst e2; exact Fr.set hh⟩
theorem dC3 {r : Nat} {G : DH} {n : Int} {ds : List D} {Q : DPP} (h : M9 G r) (hn : (ds.length : Int) = n) (h0 : 0 < n) (h1 : n < 2 ^ 100) (q : ∀ d ∈ ds, ∀ G', Fr r G G' → Fr r (G ++ [.lst ds]) G' → Q d G') :
 Wp (f9 [.ref r, .int n]) (G ++ [.lst ds]) fun y G2 => Wp (ixD (.ref G.length) y) G2 Q := by
 refine Wp.mono (cK1 h.app ⟨h0, h1⟩) fun x G2 ⟨k, e, h3, h4, f2⟩ => ?_
 subst e
 have hne : G.length ≠ r := by have := h.lt; lia
 have hg := f2.at hne (o := .lst ds) cH5
 rw [cD7 hg]
 obtain ⟨d, hd, e⟩ := bY5 (l := ds) h3 (by lia)
 exact ⟨d, e, q d hd G2 ((Fr.app h).trans f2) f2⟩
theorem U7 {r : Nat} {n : Int} {G : DH} {Q : DPP} (h : M9 G r) (hn : 0 < n ∧ n < 2 ^ 100) (q : ∀ k : Int, 0 ≤ k → k < n → ∀ G', Fr r G G' → Q (.int k) G') : Wp (f9 [.ref r, .int n]) G Q :=
 Wp.mono (cK1 h hn) fun x G' ⟨k, e, h1, h2, f⟩ => by subst e; exact q k h1 h2 G' f
theorem aR6 {r : Nat} {n : Int} {fs : DSt → M (List D)} {σ : DSt} {G : DH} {Q : DPP} (hσ : σ[0]? = some (some (.ref r))) (h0 : 0 < n) (h1 : n < 2 ^ 100) (w : Wp (fs σ) G fun ds G1 => ds.length ≤ sizeLine ∧ M9 G1 r ∧ (ds.length : Int) = n ∧ ∀ d ∈ ds, ∀ G', Fr r G1 G' → Q d G') :
 Wp (d7 ixD (P0 fs) (q15 (fnX 2 f9) (q13 (c7 0) (q13 (cE (.int n)) (q14)))) σ) G Q :=
 J1 (aL9.mpr (w.mono fun ds G1 q => ⟨q.1, X5 (o8 (dM4.mpr ⟨_, hσ, M4 rfl (u0.mpr (aT4.mpr ⟨rfl, dC3 q.2.1 q.2.2.1 h0 h1 fun d hd G' f _ => q.2.2.2 d hd G' f⟩))⟩))⟩))
theorem cM3 {r : Nat} {G : DH} (h : M9 G r) : Wp (R5 [.ref r]) G fun x G' => ∃ k, x = .int k ∧ -1000000000000000000 ≤ k ∧ k ≤ 1000000000000000000 ∧ Fr r G G' := by
 refine J3 (show Wp (aJ1 [some (.ref r)]) G _ from ?_)
 refine m7.mpr (aM9 (K5 (J1 (m6 (as := [.ref r, .int 3]) rfl rfl (U7 h ⟨by decide, by decide⟩ fun k h1 h2 G1 f1 => d8 (a := .int 1) rfl (aI7.mpr ⟨_, rfl, fun _ => ?_, fun _ => ?_⟩))))))
 · refine M7 (J1 (m6 (as := [.ref r, .int (2 * 1000000000000000000 + 1)]) rfl rfl (U7 f1.2.2 ⟨by decide, by decide⟩ fun k2 h3 h4 G2 f2 => d8 (a := .int 1000000000000000000) rfl (cI2.mpr ?_))))
   exact ⟨_, rfl, by lia, by lia, f1.trans f2⟩
 · refine G9.mpr (M7 (aR6 rfl (by decide) (by decide) (d8 (a := [.int 0, .int 1, .int (-1), .int 2, .int (-2), .int 3, .int 10, .int (-10), .int 1000000000000000000, .int (-1000000000000000000)]) (G' := G1) rfl ⟨sz, f1.2.2, rfl, fun d hd G2 f2 => ?_⟩)))
   simp only [List.mem_cons, List.not_mem_nil, or_false] at hd
   have ff := f1.trans f2
   rcases hd with rfl | rfl | rfl | rfl | rfl | rfl | rfl | rfl | rfl | rfl <;> exact ⟨_, rfl, by decide, by decide, ff⟩
theorem cZ7 {r : Nat} {G : DH} {Q : DPP} (h : M9 G r) (q : ∀ k : Int, -1000000000000000000 ≤ k → k ≤ 1000000000000000000 → ∀ G', Fr r G G' → Q (.int k) G') : Wp (R5 [.ref r]) G Q :=
 Wp.mono (cM3 h) fun x G' ⟨k, e, h1, h2, f⟩ => by subst e; exact q k h1 h2 G' f
theorem dF1 {G : DH} {p : Nat} {ns : List Int} {c k : Int} (e : G[p]? = some (.rol (ns.map D.int))) (hk : 0 ≤ k ∧ k < 64) : Wp (Z7 [.ref p, .int c, .int k]) G fun d G' => ∃ r, d = .ref r ∧ G.length ≤ r ∧ M9 G' r ∧ Gr G G' := by
 have m1 : bL3 7919 k := Or.inl ⟨by lia, by lia⟩
 have b1 : 0 ≤ c % 2147483629 := Int.emod_nonneg _ (by lia)
 have b2 : c % 2147483629 < 2147483629 := Int.emod_lt_of_pos _ (by lia)
 have m2 : bL3 (c % 2147483629 + 7919 * k + 1) 48271 := Or.inr ⟨by lia, by lia⟩
 have ln : G.length ≤ (G ++ [DO.lst []]).length := by simp
 refine J3 (show Wp (aO6 [some (.ref p), some (.int c), some (.int k), none]) G _ from ?_)
 refine K1 (σ' := [some (.ref p), some (.int c), some (.int k), some (.int 0)]) rfl ?_
 refine m7.mpr (bI4 (A := fun fl G1 => ∃ w, fl = .nx [some (.ref p), some (.int c), some (.int k), some (.int w)] ∧ G1 = G ++ [.lst []]) (K5 (J1 (d8 (a := .ref p) rfl (aL9.mpr (u0.mpr ⟨sz, (dF7 (R0 e) o4).mpr ⟨_, rfl, fun _ => ?_, fun _ => ?_⟩⟩))))) ?_)
 · rintro _ _ ⟨w, rfl, rfl⟩
   refine M7 <| aL9.mpr <| M4 (x := .int c) rfl <| o8 <| J1 <| J1 <| J1 <| J1 <| aD9 (x := .int c) (y := .int 2147483629) rfl rfl <| (aL7 (by decide)).mpr <| aD9 (x := .int 7919) (y := .int k) rfl rfl <| (aU7 m1).mpr <| aI1.mpr <| d8 (a := .int 1) rfl <| aI1.mpr <| d8 (a := .int 48271) rfl <| (aU7 m2).mpr <| d8 (a := .int 2147483647) rfl <| (aL7 (by decide)).mpr <| d8 (a := [.int w, .int 0]) rfl ⟨sz, ?_⟩
   exact ⟨_, rfl, ln, ⟨_, _, _, _, o4, Int.emod_nonneg _ (by lia), Int.lt_trans (Int.emod_lt_of_pos _ (by lia)) (by decide)⟩, Gr.app.trans Gr.app⟩
 · exact V6 (J1 (bC8 (as := [.ref p]) rfl ((dH2 (R0 e)).mpr (d8 (a := .int 2) rfl ((aL7 (by decide)).mpr ⟨_, rfl, rfl⟩)))))
 · exact G9.mpr ⟨_, rfl, rfl⟩
section
variable {G : DH} {Q : DPP}
theorem ix_str {z : Str} {k : Int} (hz : z.length ≤ sizeLine) (h0 : 0 ≤ k) (h1 : k < z.length) (q : ∀ c ∈ z.cps.toList, Q (.str ⟨#[c]⟩) G) : Wp (ixD (.str z) (.int k)) G Q := by
 have e : ixD (.str z) (.int k) = if z.length ≤ sizeLine then (do
  let c ← aL8 (atI z.cps.toList k)
  pure (.str ⟨#[c]⟩) : M D) else M.stuck := rfl
 rw [e, if_pos hz]
 simp only [j8, aO3, j7]
 have hl : z.length = z.cps.toList.length := rfl
 obtain ⟨n, rfl⟩ := Int.eq_ofNat_of_zero_le h0
 have hn : n < z.cps.toList.length := by lia
 refine ⟨z.cps.toList[n], ?_, q _ (List.getElem_mem _)⟩
 unfold atI ixN
 rw [if_pos (by omega), if_pos (by lia)]
 simp only [Int.toNat_natCast, Option.bind_some, List.getElem?_eq_getElem hn]
theorem cZ9 {a b : Str} (h : aH5 a = true) (k : aH5 b = true) : aH5 (a ++ b) = true := by
 have e : aH5 (a ++ b) = (aH5 a && aH5 b) := by
  unfold aH5
  rw [show (a ++ b).cps.toList = a.cps.toList ++ b.cps.toList from Array.toList_append, List.all_append]
 rw [e, h, k]; rfl
theorem cV3 {c : Nat} (h : cA4 c = true) : aH5 ⟨#[c]⟩ = true := by
 show [c].all cA4 = true
 rw [List.all_cons, h]; rfl
theorem dD3 : ∀ c ∈ ("abcdefghijklmnopqrstuvwxyz" : Str).cps.toList, cA4 c = true := by decide +kernel
theorem bV0 (c : Nat) : (⟨#[c]⟩ : Str).length = 1 := rfl
end
theorem dU0 : aA1 = j9 (J4 (cE (.str ("" : Str))) (q16 3)) (j9 (aA0 (U6 (q13 (d7 T4 (c7 1) (q15 (fnX 2 f9) (q13 (c7 0) (q13 (d7 T4 (d7 bD1 (c7 2) (c7 1)) (cE (.int 1))) (q14))))) (q14))) (q16 4) LT) (t6 (c7 3))) := rfl
theorem dY8 {r : Nat} {a b : Int} {z : Str} {u : Option D} {G : DH} (h : M9 G r) (hz : z.length ≤ 1000) : Wp (LT [some (.ref r), some (.int a), some (.int b), some (.str z), u]) G fun fl G' => Fr r G G' ∧ ∃ c, cA4 c = true ∧ fl = .nx [some (.ref r), some (.int a), some (.int b), some (.str (z ++ ⟨#[c]⟩)), u] := by
 have bg := big
 have hA : ("abcdefghijklmnopqrstuvwxyz" : Str).length = 26 := by rfl
 refine V6 <| J1 <| d8 (a := .str z) rfl <| J1 <| d8 (a := .str "abcdefghijklmnopqrstuvwxyz") rfl <| m6 (as := [.ref r, .int 26]) rfl rfl <| U7 h ⟨by decide, by decide⟩ fun k h0 h1 G1 f1 => ix_str (by lia) h0 (by lia) fun c hc => (cX0 (by rw [bV0]; lia)).mpr ?_
 exact ⟨f1, c, dD3 c hc, rfl⟩
theorem cK5 {r : Nat} {a b : Int} : ∀ (items : List D) (z : Str) (u : Option D) (G : DH), M9 G r → aH5 z = true → z.length + items.length ≤ 100 →
 Wp (aD5 (q16 4) LT (fun _ => true) items [some (.ref r), some (.int a), some (.int b), some (.str z), u]) G fun fl G' => Fr r G G' ∧ ∃ z' u', fl = .nx [some (.ref r), some (.int a), some (.int b), some (.str z'), u'] ∧ z'.length = z.length + items.length ∧ aH5 z' = true
 | [], z, u, G, h, ht, hl => by
   rw [aE3]
   exact ⟨rfl, Fr.refl h, z, u, rfl, rfl, ht⟩
 | d :: t, z, u, G, h, ht, hl => by
   simp only [List.length_cons] at hl
   rw [aE7, aH8]
   refine ⟨rfl, (dY8 h (by lia)).mono ?_⟩
   rintro _ G1 ⟨f1, c, hc, rfl⟩
   refine (cK5 t (z ++ ⟨#[c]⟩) (some d) G1 f1.2.2 (cZ9 ht (cV3 hc)) (by rw [Str.length_append, bV0]; lia)).mono fun fl G2 q => ?_
   obtain ⟨q1, z', u', q2, q3, q4⟩ := q
   exact ⟨f1.trans q1, z', u', q2, by rw [q3, Str.length_append, bV0, List.length_cons]; lia, q4⟩
theorem bF6 {r : Nat} {a b : Int} {G : DH} (h : M9 G r) (h0 : 0 ≤ a) (h1 : a ≤ b) (h2 : b ≤ 20) : Wp (Q6 [.ref r, .int a, .int b]) G fun x G' => ∃ z, x = .str z ∧ z.length ≤ 100 ∧ Fr r G G' ∧ aH5 z = true ∧ a ≤ z.length := by
 refine J3 (show Wp (aA1 [some (.ref r), some (.int a), some (.int b), none, none]) G _ from ?_)
 rw [dU0]
 refine K1 (σ' := [some (.ref r), some (.int a), some (.int b), some (.str ""), none]) rfl <| m7.mpr <| aD8.mpr <| cG5.mpr <| o8 <| J1 <| d8 (a := .int a) rfl <| m6 (as := [.ref r, .int (b - a + 1)]) rfl rfl <| U7 h ⟨by lia, by lia⟩ fun k hk0 hk1 G1 f1 => aI1.mpr <| u0.mpr <| (aG1 ⟨by lia, by lia⟩).mpr ?_
 have hlen : (K8 0 (a + k).toNat).length = (a + k).toNat := by unfold K8; rw [List.length_map, List.length_range]
 refine (cK5 (K8 0 (a + k).toNat) "" none G1 f1.2.2 rfl ?_).mono ?_
 · rw [hlen, show (("" : Str).length) = 0 from rfl]
   lia
 · rintro _ G2 ⟨f2, z', u', rfl, hz, ht⟩
   rw [hlen, show (("" : Str).length) = 0 from rfl] at hz
   exact d8 rfl (K9 ⟨z', rfl, by lia, f1.trans f2, ht, by lia⟩)
theorem dU5 : ∃ z : Str, (z.length ≤ 1000 ∧ aH5 z = true) ∧ ∀ {G : DH} {Q : DPP}, Wp (aY9 (.str ("z" : Str)) (.int 20)) G Q ↔ Q (.str z) G := by
 refine ⟨Txt.mul ("z" : Str) 20, ⟨by decide +kernel, by decide +kernel⟩, fun {G Q} => ?_⟩
 have e : aY9 (.str ("z" : Str)) (.int 20) = if PySem.MulOk ("z" : Str) 20 then pure (.str (Txt.mul ("z" : Str) 20)) else M.stuck := rfl
 rw [e, if_pos (by decide +kernel)]
 exact j7
def TX (z : Str) : Prop := aH5 z = true ∧ z.length ≤ 1000
def NM (z : Str) : Prop := TX z ∧ 0 < z.length
theorem dB6 {r : Nat} {G : DH} (h : M9 G r) : Wp (aC8 [.ref r]) G fun x G' => ∃ z, x = .str z ∧ TX z ∧ Fr r G G' := by
 obtain ⟨zz, hzz, emul⟩ := dU5
 refine J3 (show Wp (aN6 [some (.ref r)]) G _ from ?_)
 refine m7.mpr <| aM9 <| K5 <| J1 <| m6 (as := [.ref r, .int 3]) rfl rfl <| U7 h ⟨by decide, by decide⟩ fun k hk0 hk1 G1 f1 => d8 (a := .int 1) rfl <| aI7.mpr ⟨_, rfl, fun _ => ?_, fun _ => G9.mpr ?_⟩
 · refine M7 <| m6 (as := [.ref r, .int 0, .int 20]) rfl rfl <| (bF6 f1.2.2 (by decide) (by decide) (by decide)).mono ?_
   rintro _ G2 ⟨z, rfl, hz, f2, ht, _⟩
   exact ⟨z, rfl, ⟨ht, by lia⟩, f1.trans f2⟩
 · refine M7 <| aR6 rfl (by decide) (by decide) <| M4 (x := .str "") rfl <| M4 (x := .str "a") rfl <| M4 (x := .str "b") rfl <| M4 (x := .str "aa") rfl <| M4 (x := .str "ab") rfl <| M4 (x := .str "ba") rfl <| M4 (x := .str "abc") rfl <| M4 (x := .str "z") rfl <| M4 (x := .str "true") rfl <| o8 <| aD9 (x := .str "z") (y := .int 20) rfl rfl <| emul.mpr <| u0.mpr ⟨sz, f1.2.2, rfl, fun d hd G2 f2 => ?_⟩
   simp only [List.mem_cons, List.not_mem_nil, or_false] at hd
   have f02 := f1.trans f2
   rcases hd with rfl | rfl | rfl | rfl | rfl | rfl | rfl | rfl | rfl | rfl
   all_goals first
    | exact ⟨_, rfl, ⟨rfl, by decide⟩, f02⟩
    | exact ⟨_, rfl, ⟨hzz.2, hzz.1⟩, f02⟩
theorem bY4 (z : Str) (d : D) : ∀ l : List (Key × D), o9 (l.map fun kv => if kv.1 = .inr z then (kv.1, d) else kv) = o9 l
 | [] => rfl
 | (k, v) :: r => by
  have ih := bY4 z d r
  rw [List.map_cons]
  have e : (if ((k, v) : Key × D).1 = .inr z then (((k, v) : Key × D).1, d) else (k, v)).1 = k := by split <;> rfl
  generalize (if ((k, v) : Key × D).1 = .inr z then (((k, v) : Key × D).1, d) else (k, v)) = p at e
  obtain ⟨k', v'⟩ := p
  cases e
  rcases k' with i | y
  · rfl
  · exact congrArg (Option.map (y :: ·)) ih
theorem bW4 (z : Str) (d : D) : ∀ (l : List (Key × D)) (ss : List Str), o9 l = some ss → o9 (l ++ [(.inr z, d)]) = some (ss ++ [z])
 | [], ss, h => by cases h; rfl
 | (.inl i, v) :: r, ss, h => by cases h
 | (.inr y, v) :: r, ss, h => by
  replace h : (o9 r).map (y :: ·) = some ss := h
  rcases hr : o9 r with _ | t
  · rw [hr] at h; cases h
  ·
    rw [hr] at h
    cases h
    exact congrArg (Option.map (y :: ·)) (bW4 z d r t hr)
noncomputable def NS (P : Str → Prop) (ss : List Str) : Prop := (∀ z ∈ ss, P z) ∧ ss.Nodup
theorem cB9 (z : Str) : ∀ (l : List (Key × D)) (ss : List Str), o9 l = some ss → z ∈ ss → (l.any fun kv => decide (kv.1 = .inr z)) = true
 | [], ss, h, hz => by cases h; cases hz
 | (.inl i, v) :: r, ss, h, hz => by cases h
 | (.inr y, v) :: r, ss, h, hz => by
  replace h : (o9 r).map (y :: ·) = some ss := h
  rcases hr : o9 r with _ | t
  · rw [hr] at h; cases h
  ·
    rw [hr] at h
    cases h
    rw [List.any_cons, Bool.or_eq_true]
    rcases List.mem_cons.mp hz with rfl | hz
    · exact .inl (by simp)
    · exact .inr (cB9 z r t hr hz)
theorem bX8 {l : List (Key × D)} {ss : List Str} {z : Str} {d : D} {P : Str → Prop} (h : o9 l = some ss) (hn : NS P ss) (hz : P z) : ∃ ss', o9 (bA7 l (.inr z) d) = some ss' ∧ ss'.length ≤ ss.length + 1 ∧ NS P ss' := by
 unfold bA7
 split
 · exact ⟨ss, by rw [bY4]; exact h, by lia, hn⟩
 · rename_i c
   refine ⟨ss ++ [z], bW4 z d l ss h, by simp, fun x hx => ?_, ?_⟩
   · rcases List.mem_append.mp hx with hx | hx
     · exact hn.1 x hx
     · rw [List.mem_singleton.mp hx]; exact hz
   · refine List.nodup_append.mpr ⟨hn.2, by simp, fun a ha b hb => ?_⟩
     rw [List.mem_singleton] at hb
     subst hb
     intro e
     subst e
     exact c (cB9 _ l ss h ha)
theorem cI8 {r : Nat} {l : List (Key × D)} {z : Str} {d : D} {G : DH} {R : Unit → DH → Prop} (h : G[r]? = some (.dct l)) (hl : l.length < sizeLine) : Wp (cD2 (.ref r) (.str z) d) G R ↔ R () (G.set r (.dct (bA7 l (.inr z) d))) := by
 unfold cD2
 simp only [j8, Q4, h, S5, dC4, if_pos hl, aY5]
theorem aU8 {l : List (Key × D)} {ss : List Str} (h : o9 l = some ss) : l.length = ss.length := (aP4 h).symm
noncomputable def LtS (a b : Str) : Prop := a.cps.toList < b.cps.toList
theorem cI5 {ss : List Str} (h : ss.Nodup) : (W9 ss).Pairwise LtS := by
 have h1 : (W9 ss).Pairwise fun a b => leS a b = true := List.pairwise_mergeSort aZ3 bO2 ss
 have h2 : (W9 ss).Nodup := (List.mergeSort_perm ss leS).nodup_iff.mpr h
 refine (List.Pairwise.and h1 h2).imp fun {a b} q => ?_
 refine Classical.byContradiction fun n => q.2 (aW1 q.1 ?_)
 show (!decide (a.cps.toList < b.cps.toList)) = true
 rw [decide_eq_false (show ¬ a.cps.toList < b.cps.toList from n)]; rfl
theorem dZ3 : aE2 = j9 (J4 (aN3) (q16 1)) (j9 (aA0 (U6 (q13 (q15 (fnX 2 f9) (q13 (c7 0) (q13 (d7 ixD (P0 (q13 (cE (.int 4)) (q13 (cE (.int 9)) (q14)))) (q15 (fnX 2 f9) (q13 (c7 0) (q13 (cE (.int 2)) (q14))))) (q14)))) (q14))) (q16 2) NB) (t6 (q15 aC6 (q13 (c7 1) (q14))))) := rfl
theorem dY0 {r p : Nat} {u v : Option D} {l : List (Key × D)} {ss : List Str} {G : DH} (hp : p ≠ r) (h : M9 G r) (e : G[p]? = some (.dct l)) (hk : o9 l = some ss) (hl : ss.length ≤ 60) (hz : NS NM ss) :
 Wp (NB [some (.ref r), some (.ref p), u, v]) G fun fl G' => Fr2 r p G G' ∧ ∃ v' l' ss', fl = .nx [some (.ref r), some (.ref p), u, v'] ∧ G'[p]? = some (.dct l') ∧ o9 l' = some ss' ∧ ss'.length ≤ ss.length + 1 ∧ NS NM ss' := by
 have bg := big
 have next : ∀ (z : Str) (G3 : DH), NM z → Fr r G G3 → Wp (J4 (cE (.bl true)) (bD0 (c7 1) (c7 3)) [some (.ref r), some (.ref p), u, some (.str z)]) G3 fun fl G' => Fr2 r p G G' ∧ ∃ v' l' ss', fl = .nx [some (.ref r), some (.ref p), u, v'] ∧ G'[p]? = some (.dct l') ∧ o9 l' = some ss' ∧ ss'.length ≤ ss.length + 1 ∧ NS NM ss' := by
  intro z G3 hzl f3
  have e3 := f3.at hp e
  obtain ⟨ss', k1, k2, k3⟩ := bX8 (z := z) (d := .bl true) hk hz hzl
  have f4 : Fr2 r p G3 (G3.set p (.dct (bA7 l (.inr z) (.bl true)))) := Fr2.set hp f3.2.2
  exact aK5.mpr <| d8 (a := .bl true) rfl <| cG3.mpr <| d8 (a := .ref p) rfl <| d8 (a := .str z) rfl <| (cI8 e3 (by rw [aU8 hk]; lia)).mpr ⟨f3.two.trans f4, _, _, ss', rfl, List.getElem?_set_self (lt_of_get e3), k1, k2, k3⟩
 refine m7.mpr <| V6 <| aR6 rfl (by decide) (by decide) <| d8 (a := [.str "a", .str "b", .str "ab", .str "ba", .str "abc", .str "z", .str "zz", .str "zzzzzzzz"]) (G' := G) rfl ⟨sz, h, rfl, fun x hx G1 f1 => ?_⟩
 have hx' : ∃ z : Str, x = .str z ∧ NM z := by
  simp only [List.mem_cons, List.not_mem_nil, or_false] at hx
  rcases hx with rfl | rfl | rfl | rfl | rfl | rfl | rfl | rfl <;> exact ⟨_, rfl, ⟨rfl, by decide⟩, by decide⟩
 obtain ⟨z0, rfl, hz0⟩ := hx'
 refine m7.mpr <| aM9 <| K5 <| J1 <| m6 (as := [.ref r, .int 3]) rfl rfl <| U7 f1.2.2 ⟨by decide, by decide⟩ fun k hk0 hk1 G2 f2 => d8 (a := .int 1) rfl <| aI7.mpr ⟨_, rfl, fun _ => ?_, fun _ => G9.mpr (next z0 G2 hz0 (f1.trans f2))⟩
 refine V6 <| m6 (as := [.ref r, .int 1, .int 8]) rfl rfl <| (bF6 f2.2.2 (by decide) (by decide) (by decide)).mono ?_
 rintro _ G3 ⟨z, rfl, hz3, f3, ht3, hl3⟩
 exact next z G3 ⟨⟨ht3, by lia⟩, by lia⟩ (f1.trans (f2.trans f3))
theorem cK9 {r p : Nat} (hp : p ≠ r) : ∀ (items : List D) (u v : Option D) (l : List (Key × D)) (ss : List Str) (G : DH), M9 G r → G[p]? = some (.dct l) → o9 l = some ss → ss.length + items.length ≤ 60 → NS NM ss →
 Wp (aD5 (q16 2) NB (fun _ => true) items [some (.ref r), some (.ref p), u, v]) G fun fl G' => Fr2 r p G G' ∧ ∃ u' v' l' ss', fl = .nx [some (.ref r), some (.ref p), u', v'] ∧ G'[p]? = some (.dct l') ∧ o9 l' = some ss' ∧ ss'.length ≤ ss.length + items.length ∧ NS NM ss'
 | [], u, v, l, ss, G, h, e, hk, hl, hz => by
   rw [aE3]
   exact ⟨rfl, (Fr.refl h).two, u, v, l, ss, rfl, e, hk, by simp, hz⟩
 | d :: t, u, v, l, ss, G, h, e, hk, hl, hz => by
   simp only [List.length_cons] at hl
   rw [aE7, aH8]
   refine ⟨rfl, (dY0 (u := some d) (v := v) hp h e hk (by lia) hz).mono ?_⟩
   rintro _ G1 ⟨f1, v1, l1, ss1, rfl, q2, q3, q4, q5⟩
   refine (cK9 hp t (some d) v1 l1 ss1 G1 f1.2.2 q2 q3 (by lia) q5).mono ?_
   rintro _ G2 ⟨f2, u', v', l', ss', p1, p2, p3, p4, p5⟩
   exact ⟨f1.trans f2, u', v', l', ss', p1, p2, p3, by simp only [List.length_cons]; lia, p5⟩
theorem cY4 {r : Nat} {G : DH} (h : M9 G r) : Wp (T7 [.ref r]) G fun x G' => ∃ (q : Nat) (ss : List Str), x = .ref q ∧ q ≠ r ∧ G'[q]? = some (.lst (ss.map D.str)) ∧ ss.length ≤ 8 ∧ NS NM ss ∧ ss.Pairwise LtS ∧ Fr r G G' := by
 have fd : Fr r G (G ++ [DO.dct []]) := Fr.app h
 have hp : G.length ≠ r := by have := h.lt; lia
 refine J3 (show Wp (aE2 [some (.ref r), none, none, none]) G _ from ?_)
 rw [dZ3]
 refine K1 (σ' := [some (.ref r), some (.ref G.length), none, none]) (G' := G ++ [.dct []]) rfl <| m7.mpr <| aD8.mpr <| cG5.mpr <| o8 <| X5 <| M4 (x := .ref r) rfl <| o8 <| aR6 rfl (by decide) (by decide) <| d8 (a := [.int 4, .int 9]) (G' := G ++ [.dct []]) rfl ⟨sz, fd.2.2, rfl, fun d hd G1 f1 => ?_⟩
 have hd' : ∃ i : Int, d = .int i ∧ 0 < i ∧ i ≤ 9 := by
  simp only [List.mem_cons, List.not_mem_nil, or_false] at hd
  rcases hd with rfl | rfl
  · exact ⟨4, rfl, by decide, by decide⟩
  · exact ⟨9, rfl, by decide, by decide⟩
 obtain ⟨i, rfl, hi1, hi2⟩ := hd'
 refine u0.mpr <| aT4.mpr ⟨rfl, U7 f1.2.2 ⟨hi1, by lia⟩ fun k hk0 hk1 G2 f2 => u0.mpr <| (aG1 ⟨by lia, by lia⟩).mpr ?_⟩
 have f12 := f1.trans f2
 have e2 : G2[G.length]? = some (.dct []) := f12.at hp o4
 have hlen : (K8 0 k.toNat).length = k.toNat := by unfold K8; rw [List.length_map, List.length_range]
 refine (cK9 hp (K8 0 k.toNat) none none [] [] G2 f2.2.2 e2 rfl (by rw [hlen]; simp; lia) ⟨(fun z hz => by cases hz), List.nodup_nil⟩).mono ?_
 rintro _ G3 ⟨f3, u', v', l', ss', rfl, q2, q3, q4, q5⟩
 rw [hlen] at q4
 simp only [List.length_nil] at q4
 refine M7 <| bC8 (as := [.ref G.length]) rfl <| (cO5 q2 q3 (by lia)).mpr ?_
 have hperm : (W9 ss').Perm ss' := List.mergeSort_perm ss' leS
 have hr3 := f3.2.2.lt
 refine K9 ⟨G3.length, W9 ss', rfl, by lia, o4, by rw [hperm.length_eq]; lia, ⟨fun z hz => q5.1 z (hperm.mem_iff.mp hz), hperm.nodup_iff.mpr q5.2⟩, cI5 q5.2, ?_⟩
 have f02 := fd.trans f12
 refine Fr.trans ⟨Nat.le_trans f02.1 f3.1, fun j hj hl => ?_, f3.2.2⟩ (Fr.app f3.2.2)
 have h02 := f02.1
 have hfd := fd.1
 rw [f3.2.1 j hj (by lia) (by lia), f02.2.1 j hj hl]
theorem eF7 : W4 = j9 (J4 (q15 cN0 (q13 (d7 bD1 (d7 cC9 (cE (.int 10)) (cE (.int 18))) (cE (.int 1000))) (q13 (q15 (fnX 1 R5) (q13 (c7 0) (q14))) (q14)))) (q16 2)) (j9 (J4 (P0 (q14)) (q16 3)) (j9 (aA0 (U6 (q13 (q15 (fnX 2 f9) (q13 (c7 0) (q13 (d7 T4 (c7 1) (cE (.int 1))) (q14)))) (q14))) (q16 4) SA) (j9 SC (j9 SD (t6 (q15 aB9 (q13 (c7 3) (q14)))))))) := rfl
def sts (ns : List (D × D)) : List D := ns.map stD
noncomputable def Clr (p q : D × D) : Prop := ∃ a b : Int, p.2 = .int a ∧ q.1 = .int b ∧ a + 1 < b
def StP (ns : List (D × D)) : Prop := (∀ p ∈ ns, bF3 p) ∧ ns.Pairwise Clr
noncomputable def Up (lo : Int) (ns : List (D × D)) : Prop := ∀ p ∈ ns, ∃ a : Int, p.2 = .int a ∧ a ≤ lo
theorem dZ1 {r p : Nat} {lo : Int} {n u5 u4 : Option D} {ns : List (D × D)} {G : DH} (hp : p ≠ r) (h : M9 G r) (e : G[p]? = some (.lst (sts ns))) (hn : StP ns) (hu : Up lo ns) (hl : ns.length ≤ 50) :
 Wp (SA [some (.ref r), n, some (.int lo), some (.ref p), u4, u5]) G fun fl G' => Fr2 r p G G' ∧ ∃ lo' u5' ns', fl = .nx [some (.ref r), n, some (.int lo'), some (.ref p), u4, u5'] ∧ G'[p]? = some (.lst (sts ns')) ∧ StP ns' ∧ Up lo' ns' ∧ ns'.length ≤ ns.length + 1 := by
 have bg := big
 refine m7.mpr <| V6 <| J1 <| d8 (a := .int (lo + 2)) rfl <| X5 <| M4 (x := .ref r) rfl <| o8 <| aR6 rfl (by decide) (by decide) <| d8 (a := [.int 3, .int 50]) (G' := G) rfl ⟨sz, h, rfl, fun d hd G1 f1 => ?_⟩
 have hd' : ∃ i : Int, d = .int i ∧ 0 < i ∧ i ≤ 50 := by
  simp only [List.mem_cons, List.not_mem_nil, or_false] at hd
  rcases hd with rfl | rfl
  · exact ⟨3, rfl, by decide, by decide⟩
  · exact ⟨50, rfl, by decide, by decide⟩
 obtain ⟨i, rfl, hi1, hi2⟩ := hd'
 refine u0.mpr <| aT4.mpr ⟨rfl, U7 f1.2.2 ⟨hi1, by lia⟩ fun k hk0 hk1 G2 f2 => aI1.mpr ?_⟩
 refine m7.mpr <| V6 <| J1 <| d8 (a := .int (lo + 2 + k)) rfl <| aR6 rfl (by decide) (by decide) <| M4 (x := .int 0) rfl <| M4 (x := .int 1) rfl <| o8 <| m6 (as := [.ref r, .int 20]) rfl rfl <| U7 f2.2.2 ⟨by decide, by decide⟩ fun j hj0 hj1 G3 f3 => u0.mpr ⟨sz, f3.2.2, rfl, fun d hd G4 f4 => ?_⟩
 have hd' : ∃ w : Int, d = .int w ∧ 0 ≤ w ∧ w ≤ 20 := by
  simp only [List.mem_cons, List.not_mem_nil, or_false] at hd
  rcases hd with rfl | rfl | rfl
  · exact ⟨0, rfl, by decide, by decide⟩
  · exact ⟨1, rfl, by decide, by decide⟩
  · exact ⟨j, rfl, by omega, by lia⟩
 obtain ⟨w, rfl, hw1, hw2⟩ := hd'
 have f04 := ((f1.trans f2).trans f3).trans f4
 have e4 := f04.at hp e
 refine aI1.mpr <| m7.mpr <| aQ4.mpr <| bB5.mpr <| d8 (a := .ref p) rfl <| (V5 e4).mpr <| d8 (a := [.tup [.int (lo + 2 + k), .int (lo + 2 + k + w)]]) rfl <| (aT0 e4 (by unfold sts; rw [List.length_map]; lia)).mpr <| d8 rfl ?_
 refine ⟨f04.two.trans (Fr2.set hp f4.2.2), _, _, ns ++ [(.int (lo + 2 + k), .int (lo + 2 + k + w))], rfl, ?_, ⟨fun q hq => ?_, ?_⟩, fun q hq => ?_, by simp⟩
 · rw [List.getElem?_set_self (lt_of_get e4)]
   unfold sts
   rw [List.map_append]; rfl
 · rcases List.mem_append.mp hq with hq | hq
   · exact hn.1 q hq
   · rw [List.mem_singleton] at hq
     subst hq
     refine ⟨trivial, trivial, fun a b ea eb => ?_⟩
     cases ea
     cases eb
     lia
 · refine List.pairwise_append.mpr ⟨hn.2, List.pairwise_singleton _ _, fun x hx y hy => ?_⟩
   rw [List.mem_singleton] at hy
   subst hy
   obtain ⟨a, ea, ha⟩ := hu x hx
   exact ⟨a, _, ea, rfl, by lia⟩
 · rcases List.mem_append.mp hq with hq | hq
   · obtain ⟨a, ea, ha⟩ := hu q hq
     exact ⟨a, ea, by lia⟩
   · rw [List.mem_singleton] at hq
     subst hq
     exact ⟨_, rfl, Int.le_refl _⟩
theorem cJ0 {r p : Nat} {n : Option D} (hp : p ≠ r) : ∀ (items : List D) (lo : Int) (u4 u5 : Option D) (ns : List (D × D)) (G : DH), M9 G r → G[p]? = some (.lst (sts ns)) → StP ns → Up lo ns → ns.length + items.length ≤ 50 →
 Wp (aD5 (q16 4) SA (fun _ => true) items [some (.ref r), n, some (.int lo), some (.ref p), u4, u5]) G fun fl G' => Fr2 r p G G' ∧ ∃ lo' u4' u5' ns', fl = .nx [some (.ref r), n, some (.int lo'), some (.ref p), u4', u5'] ∧ G'[p]? = some (.lst (sts ns')) ∧ StP ns' ∧ ns'.length ≤ ns.length + items.length
 | [], lo, u4, u5, ns, G, h, e, hn, hu, hl => by
   rw [aE3]
   exact ⟨rfl, (Fr.refl h).two, lo, u4, u5, ns, rfl, e, hn, by simp⟩
 | d :: t, lo, u4, u5, ns, G, h, e, hn, hu, hl => by
   simp only [List.length_cons] at hl
   rw [aE7, aH8]
   refine ⟨rfl, (dZ1 hp h e hn hu (by lia)).mono ?_⟩
   rintro _ G1 ⟨f1, lo1, v1, ns1, rfl, q2, q3, q3', q4⟩
   refine (cJ0 hp t lo1 _ v1 ns1 G1 f1.2.2 q2 q3 q3' (by lia)).mono ?_
   rintro _ G2 ⟨f2, a1, a2, a3, a4, p1, p2, p3, p4⟩
   exact ⟨f1.trans f2, a1, a2, a3, a4, p1, p2, p3, by simp only [List.length_cons]; lia⟩
theorem dJ5 {p : Nat} {ns : List (D × D)} {G : DH} {Q : DPP} (e : G[p]? = some (.lst (sts ns))) : Wp (neD (.ref p) (.ref G.length)) (G ++ [.lst []]) Q ↔ Q (.bl (!ns.isEmpty)) (G ++ [.lst []]) := by
 rw [cH4 (R0 e) o4]
 unfold sts
 rw [List.isEmpty_map]
theorem cO2 {q : D × D} {t : List (D × D)} : atI (sts (q :: t)) 0 = some (stD q) := atI_nat (k := 0) rfl
theorem eB0 {r p : Nat} {n a u4 u5 : Option D} {ns : List (D × D)} {G : DH} (hp : p ≠ r) (h : M9 G r) (e : G[p]? = some (.lst (sts ns))) (hn : StP ns) :
 Wp (SC [some (.ref r), n, a, some (.ref p), u4, u5]) G fun fl G' => Fr2 r p G G' ∧ ∃ ns', fl = .nx [some (.ref r), n, a, some (.ref p), u4, u5] ∧ G'[p]? = some (.lst (sts ns')) ∧ StP ns' ∧ ns'.length = ns.length := by
 have f1 : Fr r G (G ++ [.lst []]) := Fr.app h
 refine aM9 <| aR3 <| K5 <| J1 <| d8 (a := .ref p) rfl <| aL9.mpr <| u0.mpr ⟨sz, (dJ5 e).mpr ⟨_, rfl, fun g => ?_, fun g => ⟨fun z => (nomatch z), fun _ => G9.mpr ⟨f1.two, ns, rfl, R0 e, hn, rfl⟩⟩⟩⟩
 rcases ns with _ | ⟨q, t⟩
 · cases g
 ·
   refine K5 <| J1 <| m6 (as := [.ref r, .int 3]) rfl rfl <| U7 f1.2.2 ⟨by decide, by decide⟩ fun k hk0 hk1 G2 f2 => d8 (a := .int 1) rfl <| aI7.mpr ?_
   have f02 := f1.trans f2
   have e2 := f02.at hp e
   refine ⟨_, rfl, fun _ => ?_, fun _ => G9.mpr ⟨f02.two, q :: t, rfl, e2, hn, rfl⟩⟩
   refine aK5.mpr <| aG3.mpr <| M4 (x := .non) rfl <| o8 <| J1 <| ixv (G1 := G2) rfl rfl e2 cO2 <| d8 (a := D.int 1) (G' := G2) rfl <| (ix_tup (l := [q.1, q.2]) (i := 1)).mpr ⟨q.2, rfl, u0.mpr ⟨sz, cW2 (k := 0) (j := 0) rfl rfl e2 ?_ ?_⟩⟩
   · unfold ixN; rw [if_pos (by lia), if_pos (by simp [sts])]; rfl
   · refine ⟨f02.two.trans (Fr2.set hp f2.2.2), (.non, q.2) :: t, rfl, List.getElem?_set_self (lt_of_get e2), ⟨fun x hx => ?_, ?_⟩, rfl⟩
     · rcases List.mem_cons.mp hx with rfl | hx
       · exact ⟨trivial, (hn.1 q (by simp)).2.1, fun a b ea => (by cases ea)⟩
       · exact hn.1 x (by simp [hx])
     · have hp := List.pairwise_cons.mp hn.2
       exact List.pairwise_cons.mpr ⟨fun y hy => hp.1 y hy, hp.2⟩
theorem cW7 {ns : List (D × D)} (h : ns ≠ []) : ∃ (t : List (D × D)) (q : D × D), ns = t ++ [q] := ⟨ns.dropLast, ns.getLast h, (List.dropLast_concat_getLast h).symm⟩
theorem cA5 {l : List D} {x : D} : ixN (l ++ [x]).length (-1) = some l.length := by
 unfold ixN
 rw [if_neg (by lia), if_pos (by simp; lia)]
 congr 1
 simp; lia
theorem atI_last {l : List D} {x : D} : atI (l ++ [x]) (-1) = some x := by
 unfold atI
 rw [cA5]
 simp
theorem dU6 {r p : Nat} {n a u4 u5 : Option D} {ns : List (D × D)} {G : DH} (hp : p ≠ r) (h : M9 G r) (e : G[p]? = some (.lst (sts ns))) (hn : StP ns) :
 Wp (SD [some (.ref r), n, a, some (.ref p), u4, u5]) G fun fl G' => Fr2 r p G G' ∧ ∃ ns', fl = .nx [some (.ref r), n, a, some (.ref p), u4, u5] ∧ G'[p]? = some (.lst (sts ns')) ∧ StP ns' ∧ ns'.length = ns.length := by
 have f1 : Fr r G (G ++ [.lst []]) := Fr.app h
 refine aM9 <| aR3 <| K5 <| J1 <| d8 (a := .ref p) rfl <| aL9.mpr <| u0.mpr ⟨sz, (dJ5 e).mpr ⟨_, rfl, fun g => ?_, fun g => ⟨fun z => (nomatch z), fun _ => G9.mpr ⟨f1.two, ns, rfl, R0 e, hn, rfl⟩⟩⟩⟩
 have hne : ns ≠ [] := by rintro rfl; cases g
 clear g
 obtain ⟨t, q, rfl⟩ := cW7 hne
 refine K5 <| J1 <| m6 (as := [.ref r, .int 3]) rfl rfl <| U7 f1.2.2 ⟨by decide, by decide⟩ fun k hk0 hk1 G2 f2 => d8 (a := .int 1) rfl <| aI7.mpr ?_
 have f02 := f1.trans f2
 have e2 := f02.at hp e
 refine ⟨_, rfl, fun _ => ?_, fun _ => G9.mpr ⟨f02.two, t ++ [q], rfl, e2, hn, rfl⟩⟩
 have es : sts (t ++ [q]) = sts t ++ [stD q] := by unfold sts; rw [List.map_append]; rfl
 rw [es] at e2
 refine aK5.mpr <| aG3.mpr <| o8 <| J1 <| ixv (G1 := G2) rfl rfl e2 atI_last <| d8 (a := D.int 0) (G' := G2) rfl <| (ix_tup (l := [q.1, q.2]) (i := 0)).mpr ⟨q.1, rfl, d8 (a := [D.non]) rfl ⟨sz, cW2 (k := -1) rfl rfl e2 cA5 ?_⟩⟩
 refine ⟨f02.two.trans (Fr2.set hp f2.2.2), t ++ [(q.1, .non)], rfl, ?_, ⟨fun x hx => ?_, ?_⟩, by simp⟩
 · rw [List.getElem?_set_self (lt_of_get e2)]
   have : (sts t ++ [stD q]).set (sts t).length (.tup [q.1, .non]) = sts (t ++ [(q.1, .non)]) := by
    unfold sts
    rw [List.map_append, List.set_append_right _ _ (Nat.le_refl _), Nat.sub_self]; rfl
   exact congrArg (fun l => some (DO.lst l)) this
 · rcases List.mem_append.mp hx with hx | hx
   · exact hn.1 x (by simp [hx])
   · rw [List.mem_singleton] at hx
     subst hx
     exact ⟨(hn.1 q (by simp)).1, trivial, fun a b _ eb => (by cases eb)⟩
 · have hp := List.pairwise_append.mp hn.2
   refine List.pairwise_append.mpr ⟨hp.1, List.pairwise_singleton _ _, fun x hx y hy => ?_⟩
   rw [List.mem_singleton] at hy
   subst hy
   exact hp.2.2 x hx q (by simp)
theorem Fr2.back {r p : Nat} {G0 G G' : DH} (h : Fr2 r p G G') (k : Fr r G0 G) (hp : G0.length ≤ p) : Fr r G0 G' := ⟨Nat.le_trans k.1 h.1, fun i hi hl => by rw [h.2.1 i hi (by lia) (by have := k.1; lia), k.2.1 i hi hl], h.2.2⟩
theorem bW1 {r : Nat} {G : DH} (h : M9 G r) : Wp (K6 [.ref r, .int 3]) G fun x G' => ∃ ns, x = .tup (sts ns) ∧ StP ns ∧ ns.length ≤ 10 ∧ Fr r G G' := by
 refine J3 (show Wp (W4 [some (.ref r), some (.int 3), none, none, none, none]) G _ from ?_)
 rw [eF7]
 refine m7.mpr <| V6 <| X5 <| M4 (x := .int (1000000000000000000 - 1000)) rfl <| o8 <| m6 (as := [.ref r]) rfl rfl <| cZ7 h fun k hk0 hk1 G1 f1 => u0.mpr <| dG8.mpr ?_
 have f2 : Fr r G1 (G1 ++ [.lst []]) := Fr.app f1.2.2
 have hp : G1.length ≠ r := by have := f1.2.2.lt; lia
 refine K1 (G' := G1 ++ [.lst []]) rfl <| m7.mpr <| aD8.mpr <| cG5.mpr <| o8 <| m6 (as := [.ref r, .int 4]) rfl rfl <| U7 f2.2.2 ⟨by decide, by decide⟩ fun m hm0 hm1 G2 f3 => u0.mpr <| (aG1 ⟨by lia, by lia⟩).mpr ?_
 have e2 : G2[G1.length]? = some (.lst (sts [])) := f3.at hp o4
 have hlen : (K8 0 m.toNat).length = m.toNat := by unfold K8; rw [List.length_map, List.length_range]
 refine (cJ0 hp (K8 0 m.toNat) _ none none [] G2 f3.2.2 e2 ⟨(fun p hp => by cases hp), .nil⟩ (fun p hp => by cases hp) (by rw [hlen]; simp; lia)).mono ?_
 rintro _ G3 ⟨f4, lo', v4, v5, ns1, rfl, q2, q3, q4⟩
 refine m7.mpr <| (eB0 hp f4.2.2 q2 q3).mono ?_
 rintro _ G4 ⟨f5, ns2, rfl, q6, q7, q8⟩
 refine m7.mpr <| (dU6 hp f5.2.2 q6 q7).mono ?_
 rintro _ G5 ⟨f6, ns3, rfl, q10, q11, q12⟩
 have fb := ((f4.trans f5).trans f6).back (f2.trans f3) (p := G1.length) (Nat.le_refl _)
 exact M7 <| bC8 (as := [.ref G1.length]) rfl <| (aF0 q10).mpr <| K9 ⟨ns3, rfl, q11, by rw [hlen] at q4; simp only [List.length_nil] at q4; lia, f1.trans fb⟩
theorem bN9 : ∀ {l : List (Key × D)} {ss : List Str}, o9 l = some ss → aR7 l = ss.map D.str
 | [], ss, h => by cases h; rfl
 | (.inl i, v) :: r, ss, h => by cases h
 | (.inr x, v) :: r, ss, h => by
  unfold o9 at h
  cases hr : o9 r with
  | none => rw [hr] at h; cases h
  | some ts =>
    rw [hr] at h
    cases h
    have ih := bN9 hr
    unfold aR7 at ih ⊢
    rw [List.map_cons, ih]
    rfl
theorem bW5 : ∀ ss : List Str, aD7 (ss.map D.str) = some ss
 | [] => rfl
 | z :: r => by show (aD7 (r.map D.str)).map (z :: ·) = _; rw [bW5 r]; rfl
noncomputable def Dk (G : DH) (p : Nat) (l : List (Key × D)) : Prop := G[p]? = some (.dct l) ∨ G[p]? = some (.rod l)
theorem dC5 {r p : Nat} {l : List (Key × D)} {G : DH} {R : Src → DH → Prop} (hp : p ≠ r) (h : M9 G r) (e : Dk G p l) (q : ∀ G1, Dk G1 p l → Fr2 r p G G1 → R ⟨aR7 l, fun _ => true⟩ G1) : Wp (bK0 (.ref p)) G R := by
 rcases e with e | e
 · rw [cT9 e]
   exact q _ (.inr (by rw [List.getElem?_set_self (lt_of_get e)])) (Fr2.set hp h)
 · rw [cW8 e]
   exact q _ (.inr e) (Fr.refl h).two
theorem Dk.app {G : DH} {p : Nat} {l : List (Key × D)} {t : DH} (h : Dk G p l) : Dk (G ++ t) p l := by
 rcases h with h | h
 · exact .inl (R0 h)
 · exact .inr (R0 h)
theorem Dk.lt {G : DH} {p : Nat} {l : List (Key × D)} (h : Dk G p l) : p < G.length := by
 rcases h with h | h <;> exact lt_of_get h
theorem eC6 : aK3 = j9 (J4 (aN3) (q16 2)) (j9 (aA0 (U6 (q13 (q15 (fnX 2 f9) (q13 (c7 0) (q13 (d7 T4 (c7 1) (cE (.int 1))) (q14)))) (q14))) (q16 3) WA) (j9 (J4 (P0 (q14)) (q16 4)) (j9 (aA0 (U6 (q13 (cE (.int 21)) (q14))) (q16 5) WB) (t6 (u6 (q13 (d7 ixD (P0 (q13 (cE (.str ("of" : Str))) (q13 (cE (.str ("but" : Str))) (q14)))) (q15 (fnX 2 f9) (q13 (c7 0) (q13 (cE (.int 2)) (q14))))) (q13 (q15 aB9 (q13 (c7 4) (q14))) (q14)))))))) := rfl
def dX1 (a b : Str) : Prop := a.length < b.length ∨ (a.length = b.length ∧ LtS a b)
def bQ4 (xs : List Str) : Prop := (∀ z ∈ xs, TX z) ∧ xs.Pairwise dX1
theorem eA2 {r p : Nat} {n u v w : Option D} {l : List (Key × D)} {ss : List Str} {G : DH} (hp : p ≠ r) (h : M9 G r) (e : G[p]? = some (.dct l)) (hk : o9 l = some ss) (hl : ss.length ≤ 60) (hz : NS TX ss) :
 Wp (WA [some (.ref r), n, some (.ref p), u, v, w]) G fun fl G' => Fr2 r p G G' ∧ ∃ l' ss', fl = .nx [some (.ref r), n, some (.ref p), u, v, w] ∧ G'[p]? = some (.dct l') ∧ o9 l' = some ss' ∧ ss'.length ≤ ss.length + 1 ∧ NS TX ss' := by
 have bg := big
 refine aK5.mpr <| d8 (a := .bl true) rfl <| cG3.mpr <| d8 (a := .ref p) rfl <| m6 (as := [.ref r]) rfl rfl <| (dB6 h).mono ?_
 rintro _ G3 ⟨z, rfl, hzl, f3⟩
 have e3 := f3.at hp e
 obtain ⟨ss', k1, k2, k3⟩ := bX8 (z := z) (d := .bl true) hk hz hzl
 exact (cI8 e3 (by rw [aU8 hk]; lia)).mpr ⟨f3.two.trans (Fr2.set hp f3.2.2), _, ss', rfl, List.getElem?_set_self (lt_of_get e3), k1, k2, k3⟩
theorem cI3 {r p : Nat} {n v w : Option D} (hp : p ≠ r) : ∀ (items : List D) (u : Option D) (l : List (Key × D)) (ss : List Str) (G : DH), M9 G r → G[p]? = some (.dct l) → o9 l = some ss → ss.length + items.length ≤ 60 → NS TX ss →
 Wp (aD5 (q16 3) WA (fun _ => true) items [some (.ref r), n, some (.ref p), u, v, w]) G fun fl G' => Fr2 r p G G' ∧ ∃ u' l' ss', fl = .nx [some (.ref r), n, some (.ref p), u', v, w] ∧ G'[p]? = some (.dct l') ∧ o9 l' = some ss' ∧ ss'.length ≤ ss.length + items.length ∧ NS TX ss'
 | [], u, l, ss, G, h, e, hk, hl, hz => by
   rw [aE3]
   exact ⟨rfl, (Fr.refl h).two, u, l, ss, rfl, e, hk, by simp, hz⟩
 | d :: t, u, l, ss, G, h, e, hk, hl, hz => by
   simp only [List.length_cons] at hl
   rw [aE7, aH8]
   refine ⟨rfl, (eA2 (u := some d) hp h e hk (by lia) hz).mono ?_⟩
   rintro _ G1 ⟨f1, l1, ss1, rfl, q2, q3, q4, q5⟩
   refine (cI3 hp t (some d) l1 ss1 G1 f1.2.2 q2 q3 (by lia) q5).mono ?_
   rintro _ G2 ⟨f2, u', l', ss', p1, p2, p3, p4, p5⟩
   exact ⟨f1.trans f2, u', l', ss', p1, p2, p3, by simp only [List.length_cons]; lia, p5⟩
theorem dU1 {r p q : Nat} {n u : Option D} {k : Int} {l : List (Key × D)} {ks xs : List Str} {G : DH} (hp : p ≠ r) (h : M9 G r) (e : Dk G p l) (mk : o9 l = some ks) (hl : ks.length ≤ 4) (hz : NS TX ks) (hq : q ≠ r ∧ q ≠ p) (eq : G[q]? = some (.lst (xs.map D.str))) (hx : bQ4 xs) (hk : ∀ z ∈ xs, (z.length : Int) < k) (hxl : xs.length ≤ 1000) :
 Wp (WB [some (.ref r), n, some (.ref p), u, some (.ref q), some (.int k)]) G fun fl G' => Fr2 r p G G' ∧ Dk G' p l ∧ ∃ (q' : Nat) (xs' : List Str), fl = .nx [some (.ref r), n, some (.ref p), u, some (.ref q'), some (.int k)] ∧ (q' ≠ r ∧ q' ≠ p) ∧ G'[q']? = some (.lst (xs'.map D.str)) ∧ bQ4 xs' ∧ (∀ z ∈ xs', (z.length : Int) ≤ k) ∧ xs'.length ≤ xs.length + 4 := by
 have bg := big
 refine V6 <| J1 <| d8 (a := .ref q) rfl <| X5 <| o8 <| wp_comp.mpr <| wp_itW.mpr <| d8 (a := .ref p) rfl <| dC5 hp h e fun G1 d1 f1 => ?_
 have eq1 : G1[q]? = some (.lst (xs.map D.str)) := by rw [f1.2.1 q hq.1 hq.2 (lt_of_get eq)]; exact eq
 rw [bN9 mk]
 refine ⟨by show (ks.map D.str).length ≤ _; rw [List.length_map]; lia, ?_⟩
 have hc : M5 (q16 0) (v6 (d7 eqD (q15 aT8 (q13 (c7 0) q14)) (c7 1))) (c7 0) (fun _ => true) (ks.map D.str) (X3 [none, some 5] [some (.ref r), n, some (.ref p), u, some (.ref q), some (.int k)]) G1 = some (.ok ((ks.map D.str).filter fun x => match x with | .str z => decide ((z.length : Int) = k) | _ => false), G1) := by
  refine aC7 rfl (fun σ => ∃ u, σ = [u, some (.int k)]) _ _ ⟨none, rfl⟩ fun x hx σ hσ => ?_
  obtain ⟨z, hzm, rfl⟩ := List.mem_map.mp hx
  obtain ⟨u, rfl⟩ := hσ
  have hz1 := (hz.1 z hzm).2
  refine ⟨[some (.str z), some (.int k)], rfl, ⟨_, rfl⟩, bM9 ?_, rfl⟩
  exact K5 <| J1 <| bC8 (as := [.str z]) rfl <| (bF1 (show z.length ≤ sizeLine by lia)).mpr <| d8 (a := .int k) rfl <| aI7.mpr ⟨_, rfl, rfl, rfl⟩
 refine d8 hc ?_
 have ef : ((ks.map D.str).filter fun x => match x with | .str z => decide ((z.length : Int) = k) | _ => false) = (ks.filter fun z => decide ((z.length : Int) = k)).map D.str := by
  rw [List.filter_map]
  rfl
 rw [ef]
 have hle : (ks.filter fun z => decide ((z.length : Int) = k)).length ≤ ks.length := List.length_filter_le _ _
 have hmm : ∀ z ∈ (ks.filter fun z => decide ((z.length : Int) = k)), TX z ∧ (z.length : Int) = k := fun z hz' => ⟨hz.1 z (List.mem_filter.mp hz').1, of_decide_eq_true (List.mem_filter.mp hz').2⟩
 have hnd : (ks.filter fun z => decide ((z.length : Int) = k)).Nodup := hz.2.filter _
 generalize (ks.filter fun z => decide ((z.length : Int) = k)) = ts at hle hmm hnd ⊢
 refine u0.mpr <| (cR8 o4 (bW5 ts) (by lia)).mpr ?_
 have hperm : (W9 ts).Perm ts := List.mergeSort_perm ts leS
 have hlen := hperm.length_eq
 rw [cJ8 (R0 (R0 eq1)) o4 (by rw [List.length_map, List.length_map]; lia), ← List.map_append]
 have h1 := d1.lt
 have h2 := f1.2.2.lt
 have f2 : Fr r G1 (G1 ++ [DO.lst (ts.map D.str)] ++ [DO.lst ((W9 ts).map D.str)] ++ [DO.lst ((xs ++ W9 ts).map D.str)]) := by rw [List.append_assoc, List.append_assoc]; exact Fr.app f1.2.2
 refine ⟨f1.trans f2.two, d1.app.app.app, _, xs ++ W9 ts, rfl, ⟨by simp only [List.length_append]; lia, by simp only [List.length_append]; lia⟩, o4, ⟨fun z hz' => ?_, ?_⟩, fun z hz' => ?_, by rw [List.length_append]; lia⟩
 · rcases List.mem_append.mp hz' with hz' | hz'
   · exact hx.1 z hz'
   · exact (hmm z (hperm.mem_iff.mp hz')).1
 · refine List.pairwise_append.mpr ⟨hx.2, ?_, fun a ha b hb => .inl ?_⟩
   · refine List.Pairwise.imp_of_mem (fun {a b} ha hb q => .inr ⟨?_, q⟩) (cI5 hnd)
     have h1 := (hmm a (hperm.mem_iff.mp ha)).2
     have h2 := (hmm b (hperm.mem_iff.mp hb)).2
     lia
   · have h1 := hk a ha
     have h2 := (hmm b (hperm.mem_iff.mp hb)).2
     lia
 · rcases List.mem_append.mp hz' with hz' | hz'
   · exact Int.le_of_lt (hk z hz')
   · exact Int.le_of_eq (hmm z (hperm.mem_iff.mp hz')).2
theorem cL3 {r p : Nat} {n u : Option D} {l : List (Key × D)} {ks : List Str} (hp : p ≠ r) (mk : o9 l = some ks) (hl : ks.length ≤ 4) (hz : NS TX ks) : ∀ (items : List Int) (w : Option D) (q : Nat) (xs : List Str) (G : DH), M9 G r → Dk G p l → (q ≠ r ∧ q ≠ p) → G[q]? = some (.lst (xs.map D.str)) → bQ4 xs → items.Pairwise (· < ·) → (∀ z ∈ xs, ∀ i ∈ items, (z.length : Int) < i) → xs.length + 4 * items.length ≤ 900 →
 Wp (aD5 (q16 5) WB (fun _ => true) (items.map D.int) [some (.ref r), n, some (.ref p), u, some (.ref q), w]) G fun fl G' => Fr2 r p G G' ∧ ∃ (q' : Nat) (w' : Option D) (xs' : List Str), fl = .nx [some (.ref r), n, some (.ref p), u, some (.ref q'), w'] ∧ (q' ≠ r ∧ q' ≠ p) ∧ G'[q']? = some (.lst (xs'.map D.str)) ∧ bQ4 xs' ∧ xs'.length ≤ xs.length + 4 * items.length
 | [], w, q, xs, G, h, e, hq, eq, hx, hi, hk, hxl => by
   rw [List.map_nil, aE3]
   exact ⟨rfl, (Fr.refl h).two, q, w, xs, rfl, hq, eq, hx, by simp⟩
 | i :: t, w, q, xs, G, h, e, hq, eq, hx, hi, hk, hxl => by
   simp only [List.length_cons] at hxl
   rw [List.map_cons, aE7, aH8]
   refine ⟨rfl, (dU1 hp h e mk hl hz hq eq hx (fun z hz => hk z hz i (by simp)) (by lia)).mono ?_⟩
   rintro _ G1 ⟨f1, d1, q1, xs1, rfl, r2, r3, r4, r4', r5⟩
   have hi' := List.pairwise_cons.mp hi
   refine (cL3 hp mk hl hz t _ q1 xs1 G1 f1.2.2 d1 r2 r3 r4 hi'.2 (fun z hz j hj => Int.lt_of_le_of_lt (r4' z hz) (hi'.1 j hj)) (by lia)).mono ?_
   rintro _ G2 ⟨f2, q', w', xs', p1, p2, p3, p4, p5⟩
   exact ⟨f1.trans f2, q', w', xs', p1, p2, p3, p4, by simp only [List.length_cons]; lia⟩
theorem dV0 {r : Nat} {G : DH} (h : M9 G r) : Wp (V7 [.ref r, .int 3]) G fun x G' => ∃ (w : Str) (ts : List Str), x = .tup [.str w, .tup (ts.map D.str)] ∧ (w = wOf ∨ w = bD4) ∧ bQ4 ts ∧ ts.length ≤ 100 ∧ Fr r G G' := by
 have fd : Fr r G (G ++ [DO.dct []]) := Fr.app h
 have hp : G.length ≠ r := by have := h.lt; lia
 refine J3 (show Wp (aK3 [some (.ref r), some (.int 3), none, none, none, none]) G _ from ?_)
 rw [eC6]
 refine K1 (σ' := [some (.ref r), some (.int 3), some (.ref G.length), none, none, none]) (G' := G ++ [.dct []]) rfl <| m7.mpr <| aD8.mpr <| cG5.mpr <| o8 <| m6 (as := [.ref r, .int 4]) rfl rfl <| U7 fd.2.2 ⟨by decide, by decide⟩ fun k hk0 hk1 G2 f2 => u0.mpr <| (aG1 ⟨by lia, by lia⟩).mpr ?_
 have e2 : G2[G.length]? = some (.dct []) := f2.at hp o4
 have hlen : (K8 0 k.toNat).length = k.toNat := by unfold K8; rw [List.length_map, List.length_range]
 refine (cI3 hp (K8 0 k.toNat) none [] [] G2 f2.2.2 e2 rfl (by rw [hlen]; simp; lia) ⟨(fun z hz => by cases hz), List.nodup_nil⟩).mono ?_
 rintro _ G3 ⟨f3, u', l', ks', rfl, q2, q3, q4, q5⟩
 rw [hlen] at q4
 simp only [List.length_nil] at q4
 refine K1 (σ' := [some (.ref r), some (.int 3), some (.ref G.length), u', some (.ref G3.length), none]) (G' := G3 ++ [.lst []]) rfl <| m7.mpr <| aD8.mpr <| cG5.mpr <| d8 (a := [D.int 21]) rfl <| (aG1 ⟨by decide, by decide⟩).mpr ?_
 have h3 := lt_of_get q2
 have h4 := f3.2.2.lt
 have er : K8 0 (21 : Int).toNat = ((List.range 21).map fun i : Nat => (i : Int)).map D.int := by
  rw [List.map_map]
  exact cX6 21
 rw [er]
 refine (cL3 hp q3 (by lia) q5 ((List.range 21).map fun i : Nat => (i : Int)) none G3.length [] (G3 ++ [.lst []]) (f3.2.2.app) (.inl (R0 q2)) ⟨by lia, by lia⟩ o4 ⟨(fun z hz => by cases hz), .nil⟩ (by decide) (fun z hz => by cases hz) (by simp)).mono ?_
 rintro _ G4 ⟨f4, q', w', xs', rfl, p2, p3, p4, p5⟩
 simp only [List.length_map, List.length_range, List.length_nil] at p5
 refine M7 <| aG3.mpr <| o8 <| aR6 rfl (by decide) (by decide) <| d8 (a := [.str "of", .str "but"]) (G' := G4) rfl ⟨sz, f4.2.2, rfl, fun d hd G5 f5 => ?_⟩
 have hd' : ∃ w : Str, d = .str w ∧ (w = wOf ∨ w = bD4) := by
  simp only [List.mem_cons, List.not_mem_nil, or_false] at hd
  rcases hd with rfl | rfl
  · exact ⟨_, rfl, .inl rfl⟩
  · exact ⟨_, rfl, .inr rfl⟩
 obtain ⟨w, rfl, hw⟩ := hd'
 have f3' : Fr2 r G.length G2 (G3 ++ [.lst []]) := f3.trans (Fr.app f3.2.2).two
 exact o8 <| bC8 (as := [.ref q']) rfl <| (aF0 (f5.at p2.1 p3)).mpr <| u0.mpr ⟨sz, K9 ⟨w, xs', rfl, hw, p4, by lia, ((f3'.trans f4).back (fd.trans f2) (Nat.le_refl _)).trans f5⟩⟩
def noS : D := mkS [] wOf [] [] .non .non
theorem aL0 {G : DH} {Q : DPP} : Wp (o7 []) G Q ↔ Q noS G := by
 unfold o7 aF8
 have s0 : (([] : List D).map some ++ List.replicate (0 - ([] : List D).length) none : DSt) = [] := rfl
 simp only [cK0, s0, cX1, aG3, bT2, u0, eE0]
 constructor
 · intro h; exact h.2.2.2.2.2
 · intro h; exact ⟨sz, sz, sz, sz, sz, h⟩
theorem SB.le : ∀ {n m : Nat} {d : D}, n ≤ m → SB n d → SB m d
 | 0, _, _, _, h => h.elim
 | n + 1, 0, _, hm, _ => absurd hm (by lia)
 | n + 1, m + 1, d, hm, h => by
   rcases h with rfl | ⟨ns, w, ts, tr, li, re, rfl, h1, h2, h3, h4, h5, h6, h7⟩
   · exact .inl rfl
   · refine .inr ⟨ns, w, ts, tr, li, re, rfl, h1, h2, h3, h4, h5, ?_, ?_⟩
     · rcases h6 with rfl | ⟨fs, m', rfl, a, b, c⟩
       · exact .inl rfl
       · exact .inr ⟨fs, m', rfl, a, fun x hx => SB.le (by lia) (b x hx), SB.le (by lia) c⟩
     · rcases h7 with rfl | ⟨fs, m', rfl, a, a', b, c⟩
       · exact .inl rfl
       · exact .inr ⟨fs, m', rfl, a, a', fun x hx => ⟨(b x hx).1, SB.le (by lia) (b x hx).2⟩, SB.le (by lia) c⟩
theorem aT6 {n : Nat} : SB (n + 1) noS := .inr ⟨[], wOf, [], [], .non, .non, rfl, (fun p hp => by cases hp), by simp, (fun p hp => by cases hp), by simp, by simp, .inl rfl, .inl rfl⟩
noncomputable def K3 : Nat → D → Bool
 | _, .non => true
 | _, .bl _ => true
 | _, .int _ => true
 | _, .str _ => true
 | n + 1, .tup l => l.all (K3 n)
 | _, _ => false
theorem bQ3 {f : D → D → Option Bool} : ∀ (a b : List D), (∀ x ∈ a, ∀ y ∈ b, ∃ k, f x y = some k) → ∃ k, eqL f a b = some k
 | [], [], _ => ⟨_, rfl⟩
 | [], _ :: _, _ => ⟨_, rfl⟩
 | _ :: _, [], _ => ⟨_, rfl⟩
 | x :: xs, y :: ys, h => by
   obtain ⟨k, e⟩ := h x (by simp) y (by simp)
   obtain ⟨k', e'⟩ := bQ3 xs ys fun a ha b hb => h a (by simp [ha]) b (by simp [hb])
   exact ⟨k && k', by simp only [eqL, e, e']⟩
theorem dB5 {x y : D} (hx : aI3 x = true) (hy : aI3 y = true) : ∃ k, eqS x y = some k := by
 rcases x with _ | _ | _ | _ | _ | _ | _ | _ <;> rcases y with _ | _ | _ | _ | _ | _ | _ | _ <;> first | cases hx; done | cases hy; done | exact ⟨_, rfl⟩
theorem aQ2 {G : DH} : ∀ (n m : Nat) (x y : D), n < m → K3 n x = true → K3 n y = true → ∃ k, eqN m G x y = some k
 | n, 0, x, y, h, _, _ => by lia
 | n, m + 1, x, y, h, hx, hy => by
   have sc : ∀ {d : D}, K3 n d = true → (∃ l, d = .tup l ∧ ∃ k, n = k + 1 ∧ ∀ z ∈ l, K3 k z = true) ∨ (aI3 d = true ∧ X7 G d = none) := fun {d} hd => by
    rcases d with _ | _ | _ | _ | l | i | i | i <;> try (exact .inr ⟨rfl, rfl⟩; done)
    ·
      cases n with
      | zero => cases hd
      | succ k => exact .inl ⟨l, rfl, k, rfl, fun z hz => List.all_eq_true.mp (show l.all (K3 k) = true from hd) z hz⟩
    · cases n <;> cases hd
    · cases n <;> cases hd
    · cases n <;> cases hd
   rcases sc hx with ⟨l, rfl, k, rfl, hl⟩ | ⟨s1, q1⟩
   · rcases sc hy with ⟨l', rfl, k', e', hl'⟩ | ⟨s2, q2⟩
     · have ek : k = k' := by lia
       subst ek
       obtain ⟨b, e⟩ := bQ3 (f := eqN m G) l l' fun a ha b hb => aQ2 k m a b (by lia) (hl a ha) (hl' b hb)
       refine ⟨b, ?_⟩
       show (if true = true then (if true = false ∧ l.length ≠ l'.length then some false else eqL (eqN m G) l l') else some false) = some b
       simp [e]
     · exact ⟨false, by rw [aR5]; rw [q2]; simp only [X7, s2, if_true]⟩
   · rcases sc hy with ⟨l', rfl, k', e', hl'⟩ | ⟨s2, q2⟩
     · exact ⟨false, by rw [aR5]; rw [q1]; simp only [X7, s1, if_true]⟩
     · obtain ⟨b, e⟩ := dB5 s1 s2
       exact ⟨b, by rw [aR5]; rw [q1, q2]; exact e⟩
theorem bE5 : ∀ {n m : Nat} {d : D}, n ≤ m → K3 n d = true → K3 m d = true
 | n, m, .non, _, _ => by cases m <;> rfl
 | n, m, .bl _, _, _ => by cases m <;> rfl
 | n, m, .int _, _, _ => by cases m <;> rfl
 | n, m, .str _, _, _ => by cases m <;> rfl
 | 0, m, .tup l, _, h => by cases h
 | n + 1, 0, .tup l, h, _ => by lia
 | n + 1, m + 1, .tup l, h, k => by
   show l.all (K3 m) = true
   exact List.all_eq_true.mpr fun x hx => bE5 (by lia) (List.all_eq_true.mp (show l.all (K3 n) = true from k) x hx)
 | n, m, .ref _, _, h => by cases n <;> cases h
 | n, m, .fn _, _, h => by cases n <;> cases h
 | n, m, .ty _, _, h => by cases n <;> cases h
theorem bM2 (n : Nat) (ss : List Str) : K3 (n + 1) (.tup (ss.map D.str)) = true := by
 show (ss.map D.str).all (K3 n) = true
 rw [List.all_map, List.all_eq_true]
 intro x _
 cases n <;> rfl
theorem bH3 (n : Nat) (bs : List Bool) : K3 (n + 1) (.tup (bs.map D.bl)) = true := by
 show (bs.map D.bl).all (K3 n) = true
 rw [List.all_map, List.all_eq_true]
 intro x _
 cases n <;> rfl
theorem bR3 (n : Nat) {ns : List (D × D)} (h : ∀ p ∈ ns, bF3 p) : K3 (n + 2) (.tup (ns.map stD)) = true := by
 show (ns.map stD).all (K3 (n + 1)) = true
 rw [List.all_map, List.all_eq_true]
 intro p hp
 have h1 := (h p hp).1
 have h2 := (h p hp).2.1
 have e : ∀ d, bJ7 d → K3 n d = true := fun d hd => by
  cases d <;> first | exact hd.elim | (cases n <;> rfl)
 show [p.1, p.2].all (K3 n) = true
 simp [e _ h1, e _ h2]
theorem SB.data : ∀ {n : Nat} {d : D}, SB n d → K3 (4 * n) d = true
 | 0, _, h => h.elim
 | n + 1, d, h => by
   rcases h with rfl | ⟨ns, w, ts, tr, li, re, rfl, h1, h2, h3, h4, h5, h6, h7⟩
   · exact rfl
   · have q1 := bR3 (4 * n + 1) h1
     have q2 : K3 (4 * n + 3) (.tup [.str w, .tup (ts.map D.str)]) = true := by
      have := bM2 (4 * n + 1) ts
      show ([D.str w, .tup (ts.map D.str)].all (K3 (4 * n + 2))) = true
      simp only [List.all_cons, List.all_nil, this, Bool.and_true]
      rfl
     have q3 := bH3 (4 * n + 2) tr
     have q4 : K3 (4 * n + 3) li = true := by
      rcases h6 with rfl | ⟨fs, m, rfl, a, b, c⟩
      · rfl
      · show ([D.tup fs, m].all (K3 (4 * n + 2))) = true
        have z : K3 (4 * n + 2) (.tup fs) = true := by
         show fs.all (K3 (4 * n + 1)) = true
         exact List.all_eq_true.mpr fun x hx => bE5 (by lia) (b x hx).data
        simp [z, bE5 (show 4 * n ≤ 4 * n + 2 by lia) c.data]
     have q5 : K3 (4 * n + 3) re = true := by
      rcases h7 with rfl | ⟨fs, m, rfl, a, a', b, c⟩
      · rfl
      · show ([D.tup (fs.map fdD), m].all (K3 (4 * n + 2))) = true
        have z : K3 (4 * n + 2) (.tup (fs.map fdD)) = true := by
         show (fs.map fdD).all (K3 (4 * n + 1)) = true
         rw [List.all_map]
         refine List.all_eq_true.mpr fun x hx => ?_
         show ([D.str x.1, .bl x.2.1, x.2.2].all (K3 (4 * n))) = true
         have z1 : K3 (4 * n) (.str x.1) = true := by cases (4 * n) <;> rfl
         have z2 : K3 (4 * n) (.bl x.2.1) = true := by cases (4 * n) <;> rfl
         simp [z1, z2, (b x hx).2.data]
        simp [z, bE5 (show 4 * n ≤ 4 * n + 2 by lia) c.data]
     show [D.tup (ns.map stD), .tup [.str w, .tup (ts.map D.str)], .tup (tr.map D.bl), li, re].all (K3 (4 * n + 3)) = true
     simp only [List.all_cons, List.all_nil, q1, q2, q3, q4, q5]; rfl
theorem K4 {f : D → D → Option Bool} {x y : D} {xs ys : List D} (h : eqL f (x :: xs) (y :: ys) = some true) : f x y = some true ∧ eqL f xs ys = some true := by
 unfold eqL at h
 rcases e : f x y with _ | a
 · rw [e] at h; cases h
 ·
   rcases e' : eqL f xs ys with _ | b
   · rw [e, e'] at h; cases h
   ·
     rw [e, e'] at h
     rcases a with _ | _ <;> rcases b with _ | _ <;> first | (cases h; done) | exact ⟨rfl, rfl⟩
theorem eqL_same {f : D → D → Option Bool} : ∀ {a b : List D}, eqL f a b = some true → (∀ x ∈ a, ∀ y ∈ b, f x y = some true → x = y) → a = b
 | [], [], _, _ => rfl
 | [], _ :: _, h, _ => by cases h
 | _ :: _, [], h, _ => by cases h
 | x :: xs, y :: ys, h, k => by
   have h' := K4 h
   rw [k x (by simp) y (by simp) h'.1, eqL_same h'.2 fun a ha b hb => k a (by simp [ha]) b (by simp [hb])]
theorem bV1 {n : Nat} {G : DH} {a b : List D} : eqN (n + 1) G (.tup a) (.tup b) = eqL (eqN n G) a b := by
 show (if true = true then (if true = false ∧ a.length ≠ b.length then some false else eqL (eqN n G) a b) else some false) = _
 simp
theorem eqT {n : Nat} {G : DH} {a b : List D} (h : eqN n G (.tup a) (.tup b) = some true) : ∃ m, n = m + 1 ∧ eqL (eqN m G) a b = some true := by
 cases n with
 | zero => cases h
 | succ m => exact ⟨m, rfl, by rw [← bV1]; exact h⟩
theorem aN5 {n : Nat} {G : DH} {a b : Str} (h : eqN n G (.str a) (.str b) = some true) : a = b := by
 cases n with
 | zero => cases h
 | succ m => exact eq_of_beq (Option.some.inj (show some (a == b) = some true from h))
theorem bU9 {n : Nat} {G : DH} {a b : Bool} (h : eqN n G (.bl a) (.bl b) = some true) : a = b := by
 cases n with
 | zero => cases h
 | succ m => exact eq_of_beq (Option.some.inj (show some (a == b) = some true from h))
theorem bV9 {n : Nat} {G : DH} {a b : D} (ha : bJ7 a) (hb : bJ7 b) (h : eqN n G a b = some true) : a = b := by
 cases n with
 | zero => cases h
 | succ m =>
   rcases aI0 ha with rfl | ⟨i, rfl⟩ <;> rcases aI0 hb with rfl | ⟨j, rfl⟩ <;> first
    | rfl
    | (cases h; done)
    | skip
   rw [eq_of_beq (Option.some.inj (show some (i == j) = some true from h))]
theorem dJ2 {n : Nat} {G : DH} {ns ms : List (D × D)} (h1 : ∀ p ∈ ns, bF3 p) (h2 : ∀ p ∈ ms, bF3 p) (h : eqN n G (.tup (ns.map stD)) (.tup (ms.map stD)) = some true) : ns.map stD = ms.map stD := by
 obtain ⟨m, rfl, h⟩ := eqT h
 refine eqL_same h fun x hx y hy e => ?_
 obtain ⟨p, hp, rfl⟩ := List.mem_map.mp hx
 obtain ⟨q, hq, rfl⟩ := List.mem_map.mp hy
 obtain ⟨k, rfl, e⟩ := eqT (a := [p.1, p.2]) (b := [q.1, q.2]) e
 have e1 := K4 e
 have e2 := K4 e1.2
 unfold stD
 rw [bV9 (h1 p hp).1 (h2 q hq).1 e1.1, bV9 (h1 p hp).2.1 (h2 q hq).2.1 e2.1]
theorem cH6 {n : Nat} {G : DH} {a b : List Str} (h : eqN n G (.tup (a.map D.str)) (.tup (b.map D.str)) = some true) : a.map D.str = b.map D.str := by
 obtain ⟨m, rfl, h⟩ := eqT h
 refine eqL_same h fun x hx y hy e => ?_
 obtain ⟨p, hp, rfl⟩ := List.mem_map.mp hx
 obtain ⟨q, hq, rfl⟩ := List.mem_map.mp hy
 rw [aN5 e]
theorem cX8 {n : Nat} {G : DH} {a b : List Bool} (h : eqN n G (.tup (a.map D.bl)) (.tup (b.map D.bl)) = some true) : a.map D.bl = b.map D.bl := by
 obtain ⟨m, rfl, h⟩ := eqT h
 refine eqL_same h fun x hx y hy e => ?_
 obtain ⟨p, hp, rfl⟩ := List.mem_map.mp hx
 obtain ⟨q, hq, rfl⟩ := List.mem_map.mp hy
 rw [bU9 e]
theorem dJ1 {n : Nat} {G : DH} {l : List D} : eqN n G .non (.tup l) ≠ some true := by
 cases n with
 | zero => exact fun h => by cases h
 | succ m => exact fun h => by cases h
theorem dJ8 {n : Nat} {G : DH} {l : List D} : eqN n G (.tup l) .non ≠ some true := by
 cases n with
 | zero => exact fun h => by cases h
 | succ m => exact fun h => by cases h
theorem dY1 {n : Nat} {G : DH} {z : Str} {l : List D} : eqN n G (.str z) (.tup l) ≠ some true := by
 cases n with
 | zero => exact fun h => by cases h
 | succ m => exact fun h => by cases h
theorem eA5 {n : Nat} {G : DH} {z : Str} {l : List D} : eqN n G (.tup l) (.str z) ≠ some true := by
 cases n with
 | zero => exact fun h => by cases h
 | succ m => exact fun h => by cases h
def EqS (S : D → Prop) (G : DH) : Prop := ∀ n x y, S x → S y → eqN n G x y = some true → x = y
theorem eA0 {S : D → Prop} {n : Nat} {G : DH} {a b : D} (ih : EqS S G) (ha : LiP S a) (hb : LiP S b) (h : eqN n G a b = some true) : a = b := by
 rcases ha with rfl | ⟨fs, c, rfl, _, a2, a3⟩
 · rcases hb with rfl | ⟨_, _, rfl, _⟩
   · rfl
   · exact (dJ1 h).elim
 · rcases hb with rfl | ⟨gs, d, rfl, _, b2, b3⟩
   · exact (dJ8 h).elim
   · obtain ⟨_, _, z⟩ := eqT h
     have z1 := K4 z
     obtain ⟨_, _, z3⟩ := eqT z1.1
     rw [eqL_same z3 fun x hx y hy e => ih _ _ _ (a2 x hx) (b2 y hy) e, ih _ _ _ a3 b3 (K4 z1.2).1]
theorem dW1 {S : D → Prop} {n : Nat} {G : DH} {f g : Str × Bool × D} (ih : EqS S G) (hf : S f.2.2) (hg : S g.2.2) (h : eqN n G (fdD f) (fdD g) = some true) : fdD f = fdD g := by
 obtain ⟨_, _, e⟩ := eqT (a := [D.str f.1, .bl f.2.1, f.2.2]) (b := [D.str g.1, .bl g.2.1, g.2.2]) h
 have y1 := K4 e
 have y2 := K4 y1.2
 unfold fdD
 rw [aN5 y1.1, bU9 y2.1, ih _ _ _ hf hg (K4 y2.2).1]
theorem dZ7 {S : D → Prop} {n : Nat} {G : DH} {a b : D} (ih : EqS S G) (ha : ReP S a) (hb : ReP S b) (h : eqN n G a b = some true) : a = b := by
 rcases ha with rfl | ⟨fs, c, rfl, _, _, a2, a3⟩
 · rcases hb with rfl | ⟨_, _, rfl, _⟩
   · rfl
   · exact (dJ1 h).elim
 · rcases hb with rfl | ⟨gs, d, rfl, _, _, b2, b3⟩
   · exact (dJ8 h).elim
   · obtain ⟨_, _, z⟩ := eqT h
     have z1 := K4 z
     obtain ⟨_, _, z3⟩ := eqT z1.1
     rw [eqL_same z3 ?_, ih _ _ _ a3 b3 (K4 z1.2).1]
     intro x hx y hy e
     obtain ⟨f, hf, rfl⟩ := List.mem_map.mp hx
     obtain ⟨g, hg, rfl⟩ := List.mem_map.mp hy
     exact dW1 ih (a2 f hf).2 (b2 g hg).2 e
theorem dU4 {S : D → Prop} {n : Nat} {G : DH} {ns ns' : List (D × D)} {w w' : Str} {ts ts' : List Str} {tr tr' : List Bool} {li re li' re' : D} (ih : EqS S G) (h1 : ∀ p ∈ ns, bF3 p) (g1 : ∀ p ∈ ns', bF3 p) (h6 : LiP S li) (g6 : LiP S li') (h7 : ReP S re) (g7 : ReP S re') (h : eqN n G (mkS ns w ts tr li re) (mkS ns' w' ts' tr' li' re') = some true) : mkS ns w ts tr li re = mkS ns' w' ts' tr' li' re' := by
 obtain ⟨_, _, h⟩ := eqT h
 have e1 := K4 h
 have e2 := K4 e1.2
 have e3 := K4 e2.2
 have e4 := K4 e3.2
 obtain ⟨_, _, t⟩ := eqT e2.1
 have t1 := K4 t
 unfold mkS
 rw [dJ2 h1 g1 e1.1, aN5 t1.1, cH6 (K4 t1.2).1, cX8 e3.1, eA0 ih h6 g6 e4.1, dZ7 ih h7 g7 (K4 e4.2).1]
theorem SB.eqs {G : DH} : ∀ {k : Nat}, EqS (SB k) G
 | 0 => fun _ _ _ h _ _ => h.elim
 | k + 1 => fun n x y hx hy h => by
   rcases hx with rfl | ⟨ns, w, ts, tr, li, re, rfl, h1, _, _, _, _, h6, h7⟩
   · rcases hy with rfl | ⟨_, _, _, _, _, _, rfl, _⟩
     · rfl
     · exact (dY1 h).elim
   · rcases hy with rfl | ⟨ns', w', ts', tr', li', re', rfl, g1, _, _, _, _, g6, g7⟩
     · exact (eA5 h).elim
     · exact dU4 SB.eqs h1 g1 h6 g6 h7 g7 h
theorem SB.eq {G : DH} {k n : Nat} {x y : D} (hx : SB k x) (hy : SB k y) (h : eqN n G x y = some true) : x = y := SB.eqs n x y hx hy h
theorem bJ8 {x : D} (h : aI3 x = true) : eqS x x = some true := by
 cases x <;> first | (cases h; done) | rfl | (simp [eqS])
theorem cB6 {f : D → D → Option Bool} : ∀ {l : List D}, (∀ x ∈ l, f x x = some true) → eqL f l l = some true
 | [], _ => rfl
 | x :: r, h => by unfold eqL; rw [h x (by simp), cB6 fun y hy => h y (by simp [hy])]; rfl
theorem bY8 {G : DH} : ∀ {n m : Nat} {x : D}, n < m → K3 n x = true → eqN m G x x = some true
 | n, 0, x, h, _ => by lia
 | n, m + 1, x, h, hx => by
   rcases x with _ | b | b | b | l | i | i | i
   · rfl
   · exact bJ8 (x := .bl b) rfl
   · exact bJ8 (x := .int b) rfl
   · exact bJ8 (x := .str b) rfl
   ·
     cases n with
     | zero => simp [K3] at hx
     | succ k =>
       rw [bV1]
       exact cB6 fun x hx' => bY8 (n := k) (by lia) (List.all_eq_true.mp (by simpa [K3] using hx) x hx')
   · cases n <;> simp [K3] at hx
   · cases n <;> simp [K3] at hx
   · cases n <;> simp [K3] at hx
theorem SB.eqN {G : DH} {k : Nat} {x y : D} (hk : k ≤ 9) (hx : SB k x) (hy : SB k y) : ∃ b, DL.eqN 40 G x y = some b ∧ (b = true ↔ x = y) := by
 obtain ⟨b, e⟩ := aQ2 (G := G) (4 * k) 40 x y (by lia) hx.data hy.data
 refine ⟨b, e, ?_, ?_⟩
 · rintro rfl; exact hx.eq hy e
 · rintro rfl
   have := bY8 (G := G) (n := 4 * k) (m := 40) (by lia) hx.data
   rw [this] at e
   exact (Option.some.inj e).symm
def LiF (li li' : D) : Prop := (li = .non ∧ li' = .non) ∨ ∃ fs m, li = .tup [.tup fs, m] ∧ ((noS ∈ fs ∧ li' = .non) ∨ (noS ∉ fs ∧ li' = li))
noncomputable def dM9 (m : D) (f : Str × Bool × D) : Prop := f.2.1 = false ∧ f.2.2 = m
def ReF (re re' : D) : Prop := (re = .non ∧ re' = .non) ∨ ∃ (fs : List (Str × Bool × D)) (m : D), re = .tup [.tup (fs.map fdD), m] ∧
 (((∃ f ∈ fs, f.2.1 = true ∧ f.2.2 = noS) ∧ re' = .non) ∨ ((∀ f ∈ fs, f.2.1 = true → f.2.2 ≠ noS) ∧ ∃ p : Str × Bool × D → Bool, (∀ f ∈ fs, p f = false ↔ dM9 m f) ∧ re' = .tup [.tup ((fs.filter p).map fdD), m]))
theorem bI2 {f g : Str × Bool × D} (h : fdD f = fdD g) : f = g := by
 obtain ⟨a, b, c⟩ := f
 obtain ⟨a', b', c'⟩ := g
 unfold fdD at h
 simp only [D.tup.injEq, List.cons.injEq, D.str.injEq, D.bl.injEq, and_true] at h
 rw [h.1, h.2.1, h.2.2]
theorem aQ7 {α β : Type} {f : α → β} (hf : ∀ a b, f a = f b → a = b) : ∀ {l k : List α}, l.map f = k.map f → l = k
 | [], [], _ => rfl
 | [], _ :: _, h => by cases h
 | _ :: _, [], h => by cases h
 | a :: l, b :: k, h => by
   rw [List.map_cons, List.map_cons, List.cons.injEq] at h
   rw [hf a b h.1, aQ7 hf h.2]
theorem LiF.again {a b c : D} (h : LiF a b) (k : LiF b c) : c = b := by
 rcases h with ⟨_, rfl⟩ | ⟨fs, m, rfl, ⟨_, rfl⟩ | ⟨hn, rfl⟩⟩
 · rcases k with ⟨_, rfl⟩ | ⟨fs, m, e, _⟩
   · rfl
   · cases e
 · rcases k with ⟨_, rfl⟩ | ⟨fs, m, e, _⟩
   · rfl
   · cases e
 · rcases k with ⟨e, _⟩ | ⟨fs', m', e, ⟨h1, _⟩ | ⟨_, rfl⟩⟩
   · cases e
   · simp only [D.tup.injEq, List.cons.injEq, and_true] at e
     rw [e.1] at hn
     exact (hn h1).elim
   · rfl
theorem ReF.again {a b c : D} (h : ReF a b) (k : ReF b c) : c = b := by
 rcases h with ⟨_, rfl⟩ | ⟨fs, m, rfl, ⟨_, rfl⟩ | ⟨hn, p, hp, rfl⟩⟩
 · rcases k with ⟨_, rfl⟩ | ⟨fs, m, e, _⟩
   · rfl
   · cases e
 · rcases k with ⟨_, rfl⟩ | ⟨fs, m, e, _⟩
   · rfl
   · cases e
 · rcases k with ⟨e, _⟩ | ⟨gs, m', e, h2⟩
   · cases e
   · simp only [D.tup.injEq, List.cons.injEq, and_true] at e
     have eg := aQ7 (fun _ _ => bI2) e.1
     have em := e.2
     subst eg em
     rcases h2 with ⟨⟨f, hf, h3, h4⟩, _⟩ | ⟨_, q, hq, rfl⟩
     · exact (hn f (List.mem_filter.mp hf).1 h3 h4).elim
     · have : (fs.filter p).filter q = fs.filter p := List.filter_eq_self.mpr fun f hf => by
        rcases hqf : q f with _ | _
        ·
          have h1 := List.mem_filter.mp hf
          have := (hp f h1.1).mpr ((hq f hf).mp hqf)
          rw [this] at h1
          exact h1.2
        · rfl
       rw [this]
section
variable {a b c : Option D} {n : Nat} {li re : D} {G : DH}
end
def evS : D := mkS [(.non, .non)] ("but" : Str) [] [false, true] (.tup [.tup [], .str T6]) (.tup [.tup [], .str T6])
theorem cU7 {n : Nat} : SB (n + 2) evS := .inr ⟨_, _, _, _, _, _, rfl, (fun p hp => by rw [List.mem_singleton] at hp; subst hp; exact ⟨trivial, trivial, fun a b ea => by cases ea⟩), by simp, (fun p hp => by cases hp), by simp, by simp, .inr ⟨[], .str T6, rfl, by simp, (fun x hx => by cases hx), .inl rfl⟩, .inr ⟨[], .str T6, rfl, by simp, List.nodup_nil, (fun x hx => by cases hx), .inl rfl⟩⟩
section
variable {k : Nat} {G : DH}
theorem cD5 : ∀ {fs : List D}, k ≤ 8 → (∀ x ∈ fs, SB k x) → ∃ b, aM4 G noS fs = some b ∧ (b = true ↔ noS ∈ fs)
 | [], _, _ => ⟨false, rfl, by simp⟩
 | f :: r, hk, h => by
   obtain ⟨b, e, hb⟩ := SB.eqN (G := G) (k := k + 1) (by omega) (SB.le (by omega) (h f (by simp))) (aT6 (n := k))
   obtain ⟨c, e', hc⟩ := cD5 (fs := r) hk fun x hx => h x (by simp [hx])
   refine ⟨b || c, by unfold aM4; rw [e, e'], ?_⟩
   rw [Bool.or_eq_true, hb, hc, List.mem_cons]
   exact ⟨fun z => z.imp Eq.symm id, fun z => z.imp Eq.symm id⟩
theorem eA8 {li : D} (hk : k ≤ 8) (hl : LiP (SB k) li) : Wp (U5 [li]) G fun x G' => G' = G ∧ LiF li x ∧ LiP (SB k) x := by
 rcases hl with rfl | ⟨fs, m, rfl, h1, h2, h3⟩
 · exact aI4 (d := .non) rfl ⟨rfl, .inl ⟨rfl, rfl⟩, .inl rfl⟩
 · obtain ⟨b, e, hb⟩ := cD5 (G := G) hk h2
   have ei : inX noS (.tup fs) G = some (.ok (.bl b), G) := by unfold inX bT0; simp only [e]
   refine J3 (show Wp (aD3 [some (.tup [.tup fs, m])]) G _ from ?_)
   refine M7 <| bJ4.mpr <| cR2 <| d8 (a := false) (G' := G) rfl ⟨fun z => (nomatch z), fun _ => K5 <| aD9 (x := noS) (y := .tup fs) rfl rfl <| d8 ei ⟨_, rfl, ?_⟩⟩
   rcases b with _ | _
   · exact d8 (a := .tup [.tup fs, m]) rfl (K9 ⟨rfl, .inr ⟨fs, m, rfl, .inr ⟨fun z => (nomatch hb.mpr z), rfl⟩⟩, .inr ⟨fs, m, rfl, h1, h2, h3⟩⟩)
   · exact d8 (a := .non) rfl (K9 ⟨rfl, .inr ⟨fs, m, rfl, .inl ⟨hb.mp rfl, rfl⟩⟩, .inl rfl⟩)
def noB (G : DH) : D → Bool
 | .tup [_, .bl t, s] => t && (eqN 40 G s noS).getD false
 | _ => false
def stB (G : DH) (m : D) (f : Str × Bool × D) : Bool := f.2.1 || !(eqN 40 G f.2.2 m).getD false
theorem dV8 {re : D} (hk : k ≤ 8) (hr : ReP (SB k) re) : Wp (R3 [re]) G fun x G' => Ap G G' ∧ ReF re x ∧ ReP (SB k) x := by
 rcases hr with rfl | ⟨fs, m, rfl, h1, h2, h3, h4⟩
 · exact aI4 (d := .non) rfl ⟨Ap.refl, .inl ⟨rfl, rfl⟩, .inl rfl⟩
 · have hc1 : M5 (bD2 3 (Q7 (q16 0) (Q7 (q16 1) (Q7 (q16 2) (bD9))))) U4 (V8 (c7 1) (d7 eqD (c7 2) (cE (.tup [.tup [], .tup [.str ("of" : Str), .tup []], .tup [], .non, .non])))) (fun _ => true) (fs.map fdD) (X3 [none, none, none] [some (.tup [.tup (fs.map fdD), m])]) G = some (.ok ((fs.map fdD).map fun d => .bl (noB G d)), G) := by
    refine bL8 (I := fun σ => ∃ a b c, σ = [a, b, c]) rfl _ _ ⟨_, _, _, rfl⟩ fun d hd σ hσ => ?_
    obtain ⟨f, hf, rfl⟩ := List.mem_map.mp hd
    obtain ⟨a, b, c, rfl⟩ := hσ
    obtain ⟨q, e, _⟩ := SB.eqN (G := G) (k := k + 1) (by omega) (SB.le (by omega) (h3 f hf).2) (aT6 (n := k))
    refine ⟨[some (.str f.1), some (.bl f.2.1), some f.2.2], rfl, ⟨_, _, _, rfl⟩, rfl, bM9 ?_⟩
    have en : noB G (fdD f) = (f.2.1 && (eqN 40 G f.2.2 noS).getD false) := rfl
    rw [en, e]
    refine bE6.mpr <| d8 (a := .bl f.2.1) (G' := G) rfl <| aJ8.mpr ?_
    rcases f.2.1 with _ | _
    · exact ⟨rfl, rfl⟩
    · exact aD9 (x := f.2.2) (y := noS) rfl rfl <| bL4.mpr ⟨q, e, rfl, rfl⟩
   have hb : (fs.map fdD).any (noB G) = true ↔ ∃ f ∈ fs, f.2.1 = true ∧ f.2.2 = noS := by
    rw [List.any_map, List.any_eq_true]
    refine exists_congr fun f => and_congr_right fun hf => ?_
    obtain ⟨q, e, hq⟩ := SB.eqN (G := G) (k := k + 1) (by omega) (SB.le (by omega) (h3 f hf).2) (aT6 (n := k))
    show (f.2.1 && (eqN 40 G f.2.2 noS).getD false) = true ↔ _
    rw [e, Bool.and_eq_true]
    exact and_congr_right fun _ => hq
   refine J3 (show Wp (aB0 [some (.tup [.tup (fs.map fdD), m])]) G _ from ?_)
   refine m7.mpr <| aM9 <| cR2 <| d8 (a := false) (G' := G) rfl ⟨fun z => (nomatch z), fun _ => aQ0.mpr <| X5 <| o8 <| aC9 (l := fs.map fdD) rfl (by rw [List.length_map]; omega) <| d8 hc1 <| u0.mpr <| (dM1 (f := noB G) o4).mpr <| aJ8.mpr ⟨fun g => ?_, fun g => G9.mpr ?_⟩⟩
   · exact d8 (a := .rt .non) rfl (K9 ⟨Ap.one, .inr ⟨fs, m, rfl, .inl ⟨hb.mp g, rfl⟩⟩, .inl rfl⟩)
   · have hn : ∀ f ∈ fs, f.2.1 = true → f.2.2 ≠ noS := fun f hf a b => by
      have := hb.mpr ⟨f, hf, a, b⟩
      rw [this] at g
      cases g
     have j1 : Ap G (G ++ [.lst ((fs.map fdD).map fun d => .bl (noB G d))]) := Ap.one
     generalize G ++ [DO.lst ((fs.map fdD).map fun d => .bl (noB G d))] = G1 at j1
     have hc : M5 (q16 0) (orT (v7 (d7 ixD (c7 0) (cE (.int 1)))) (v6 (d7 neD (d7 ixD (c7 0) (cE (.int 2))) (d7 ixD (c7 1) (cE (.int 1)))))) (c7 0) (fun _ => true) (fs.map fdD) (X3 [none, some 0] [some (.tup [.tup (fs.map fdD), m])]) G1 = some (.ok ((fs.map fdD).filter fun d => match d with | .tup [_, .bl t, s] => t || !(eqN 40 G1 s m).getD false | _ => false), G1) := by
      refine aC7 rfl (fun σ => ∃ u, σ = [u, some (.tup [.tup (fs.map fdD), m])]) _ _ ⟨none, rfl⟩ fun d hd σ hσ => ?_
      obtain ⟨f, hf, rfl⟩ := List.mem_map.mp hd
      obtain ⟨u, rfl⟩ := hσ
      refine ⟨[some (fdD f), some (.tup [.tup (fs.map fdD), m])], rfl, ⟨_, rfl⟩, bM9 ?_, rfl⟩
      obtain ⟨q, e, _⟩ := SB.eqN (G := G1) (by omega) (h3 f hf).2 h4
      refine cR2 <| d8 (a := f.2.1) (G' := G1) rfl ⟨fun g => ⟨?_, rfl⟩, fun g => K5 <| aD9 (x := f.2.2) (y := m) rfl rfl <| dA5.mpr ⟨q, e, _, rfl, ?_, rfl⟩⟩
      · show true = (f.2.1 || !(eqN 40 G1 f.2.2 m).getD false); rw [g]; rfl
      · show (!q) = (f.2.1 || !(eqN 40 G1 f.2.2 m).getD false); rw [g, e]; rfl
     have ef : ((fs.map fdD).filter fun d => match d with | .tup [_, .bl t, s] => t || !(eqN 40 G1 s m).getD false | _ => false) = (fs.filter (stB G1 m)).map fdD := by rw [List.filter_map]; rfl
     rw [ef] at hc
     have hs : (fs.filter (stB G1 m)).Sublist fs := List.filter_sublist
     refine M7 <| aG3.mpr <| o8 <| X5 <| o8 <| aC9 (l := fs.map fdD) rfl (by rw [List.length_map]; omega) <| d8 hc <| u0.mpr <| (aF0 o4).mpr <| d8 (a := [m]) rfl ⟨sz, K9 ⟨j1.trans Ap.one, .inr ⟨fs, m, rfl, .inr ⟨hn, stB G1 m, fun f hf => ?_, rfl⟩⟩, .inr ⟨_, m, rfl, by have := hs.length_le; omega, (hs.map _).nodup h2, fun f hf => h3 f (hs.subset hf), h4⟩⟩⟩
     obtain ⟨q, e, hq⟩ := SB.eqN (G := G1) (by omega) (h3 f hf).2 h4
     unfold stB dM9
     rw [e, ← hq]
     cases f.2.1 <;> cases q <;> simp
end
def aH7 (p x : D) : Prop := ∃ ns w ts tr li re li' re', p = mkS ns w ts tr li re ∧ LiF li li' ∧ ReF re re' ∧ ((mkS ns w ts tr li' re' = evS ∧ x = .str T6) ∨ (mkS ns w ts tr li' re' ≠ evS ∧ x = mkS ns w ts tr li' re'))
theorem cH1 {ns ns' : List (D × D)} {w w' : Str} {ts ts' : List Str} {tr tr' : List Bool} {li re li' re' : D} (h : mkS ns w ts tr li re = mkS ns' w' ts' tr' li' re') : ns.map stD = ns'.map stD ∧ w = w' ∧ ts.map D.str = ts'.map D.str ∧ tr.map D.bl = tr'.map D.bl ∧ li = li' ∧ re = re' := by
 unfold mkS at h
 simp only [D.tup.injEq, List.cons.injEq, D.str.injEq, and_true] at h
 exact ⟨h.1, h.2.1.1, h.2.1.2, h.2.2.1, h.2.2.2.1, h.2.2.2.2⟩
theorem bU2 {k : Nat} {ns : List (D × D)} {w : Str} {ts : List Str} {tr : List Bool} {li re : D} {G : DH} (hk : k ≤ 7) (h1 : ∀ p ∈ ns, bF3 p) (h2 : ns.length ≤ 100) (h3 : ∀ z ∈ ts, z.length ≤ 1000) (h4 : ts.length ≤ 100) (h5 : tr.length ≤ 100) (h6 : LiP (SB k) li) (h7 : ReP (SB k) re) :
 Wp (aU5 [.tup (ns.map stD), .tup [.str w, .tup (ts.map D.str)], .tup (tr.map D.bl), li, re]) G fun x G' => Ap G G' ∧ aH7 (mkS ns w ts tr li re) x ∧ SB (k + 1) x := by
 refine J3 (show Wp (cC2 [some (.tup (ns.map stD)), some (.tup [.str w, .tup (ts.map D.str)]), some (.tup (tr.map D.bl)), some li, some re, none]) G _ from ?_)
 refine m7.mpr <| V6 <| aG3.mpr <| M4 (x := .tup (ns.map stD)) rfl <| M4 (x := .tup [.str w, .tup (ts.map D.str)]) rfl <| M4 (x := .tup (tr.map D.bl)) rfl <| o8 <| m6 (as := [li]) rfl rfl <| (eA8 (by omega) h6).mono ?_
 rintro li' _ ⟨rfl, f1, f2⟩
 refine o8 <| m6 (as := [re]) rfl rfl <| (dV8 (by omega) h7).mono ?_
 rintro re' G1 ⟨j1, f3, f4⟩
 have hs : SB (k + 1) (mkS ns w ts tr li' re') := .inr ⟨ns, w, ts, tr, li', re', rfl, h1, h2, h3, h4, h5, f2, f4⟩
 obtain ⟨b, e, hb⟩ := SB.eqN (G := G1) (k := k + 2) (by omega) (SB.le (by omega) hs) (cU7 (n := k))
 refine u0.mpr ⟨sz, M7 <| bJ4.mpr <| K5 <| aD9 (x := mkS ns w ts tr li' re') (y := evS) rfl rfl <| bL4.mpr ⟨b, e, _, rfl, ?_⟩⟩
 rcases b with _ | _
 · exact d8 (a := mkS ns w ts tr li' re') rfl (K9 ⟨j1, ⟨_, _, _, _, _, _, _, _, rfl, f1, f3, .inr ⟨fun z => (nomatch hb.mpr z), rfl⟩⟩, hs⟩)
 · exact d8 (a := .str T6) rfl (K9 ⟨j1, ⟨_, _, _, _, _, _, _, _, rfl, f1, f3, .inl ⟨hb.mp rfl, rfl⟩⟩, .inl rfl⟩)
theorem aH7.again {p x y : D} (h : aH7 p x) (hx : x ≠ .str T6) (k : aH7 x y) : y = x := by
 obtain ⟨ns, w, ts, tr, li, re, li', re', rfl, f1, f2, ⟨_, rfl⟩ | ⟨hne, rfl⟩⟩ := h
 · exact (hx rfl).elim
 · obtain ⟨ns2, w2, ts2, tr2, li2, re2, li3, re3, e, g1, g2, g⟩ := k
   obtain ⟨e1, e2, e3, e4, rfl, rfl⟩ := cH1 e
   have a1 := f1.again g1
   have a2 := f2.again g2
   subst a1 a2
   have e5 : mkS ns2 w2 ts2 tr2 li3 re3 = mkS ns w ts tr li3 re3 := by unfold mkS; rw [← e1, ← e2, ← e3, ← e4]
   rw [e5] at g
   rcases g with ⟨z, _⟩ | ⟨_, rfl⟩
   · exact (hne z).elim
   · rfl
def dZ6 : D → Bool
 | .str s => cA4 (s.cps.getD 0 0)
 | _ => false
theorem cR1 (z : Str) : (aF9 z).all dZ6 = aH5 z := by
 unfold aF9 aH5
 rw [List.all_map]
 rfl
theorem cN5 (z : Str) : (aF9 z).length = z.length := by
 unfold aF9
 rw [List.length_map]
 rfl
theorem cP4 {z : Str} {d : D} (h : d ∈ aF9 z) : ∃ c, d = .str ⟨#[c]⟩ := by
 unfold aF9 at h
 obtain ⟨c, _, rfl⟩ := List.mem_map.mp h
 exact ⟨c, rfl⟩
theorem dH7 {c : Nat} {G : DH} {Q : DPP} : Wp (leD (.str ("a" : Str)) (.str ⟨#[c]⟩)) G Q ↔ Q (.bl (decide (97 ≤ c))) G := by rw [cL2, eF8]
theorem dI2 {c : Nat} {G : DH} {Q : DPP} : Wp (leD (.str ⟨#[c]⟩) (.str ("z" : Str))) G Q ↔ Q (.bl (decide (c ≤ 122))) G := by rw [cL2, eG1]
theorem dH9 (c : Nat) : dZ6 (.str ⟨#[c]⟩) = cA4 c := rfl
theorem dF8 {G : DH} {σ : DSt} {fs : DSt → M (List D)} {R : Src → DH → Prop} : Wp (bI3 fs σ) G R ↔ Wp (fs σ) G fun xs G1 => Wp (match xs with
 | [a, b] => do
   let s1 ← aH6 a
   let s2 ← aH6 b
   pure ⟨(s1.items.zip s2.items).map fun p => .tup [p.1, p.2], fun G => s1.ck G && s2.ck G⟩
 | _ => M.stuck : M Src) G1 R := by
 unfold bI3; simp only [j8] <;> rfl
theorem dC7 {G : DH} {p q : Nat} {k l : List D} {R : Src → DH → Prop} (ep : G[p]? = some (.lst k)) (eq : G[q]? = some (.lst l)) : Wp (match [D.ref p, D.ref q] with
 | [a, b] => do
   let s1 ← aH6 a
   let s2 ← aH6 b
   pure ⟨(s1.items.zip s2.items).map fun p => .tup [p.1, p.2], fun G => s1.ck G && s2.ck G⟩
 | _ => M.stuck : M Src) G R ↔ R ⟨(k.zip l).map fun p => .tup [p.1, p.2], fun G => ckO p (.lst k) G && ckO q (.lst l) G⟩ G := by
 show Wp (do
  let s1 ← aH6 (.ref p)
  let s2 ← aH6 (.ref q)
  pure ⟨(s1.items.zip s2.items).map fun p => .tup [p.1, p.2], fun G => s1.ck G && s2.ck G⟩ : M Src) G R ↔ _
 simp only [j8]
 rw [bE8 (σ := []) ep, bE8 (σ := []) eq]
 exact j7
theorem bB7 {b a : Fe} {caps : List (Option Nat)} {σ : DSt} {s : Src} {G : DH} {Q : DPP} (S : DSt → Prop) (e : itW b σ G = some (.ok s, G)) (hl : s.items.length ≤ sizeLine) (hck : ∀ G', Ap G G' → s.ck G' = true) (hS : S (X3 caps σ))
 (h : ∀ d ∈ s.items, ∀ σ1 G1, S σ1 → Ap G G1 → S (σ1.set 0 (some d)) ∧ Wp (a (σ1.set 0 (some d))) G1 fun y G2 => y = .bl true ∧ Ap G1 G2) (q : ∀ G', Ap G G' → Q (.bl true) G') :
 Wp (q15 aK1 (q13 (Q8 (itW b) caps (q16 0) U4 a) q14) σ) G Q := by
 refine X5 <| o8 <| wp_comp.mpr <| d8 e ⟨hl, (aB4 (Ap G) S (fun _ => .bl true) hck s.items _ G hS Ap.refl fun d hd σ1 G1 s1 j => ?_).mono ?_⟩
 · have := h d hd σ1 G1 s1 j
   exact aQ5 this.1 (this.2.mono fun y G2 q => ⟨j.trans q.2, q.1⟩)
 · rintro _ G2 ⟨j, rfl⟩
   refine u0.mpr ((cV0 (l := s.items) (f := fun _ => true) o4).mpr ?_)
   rw [List.all_eq_true.mpr fun _ _ => rfl]
   exact q _ (j.trans Ap.one)
noncomputable def One (σ : DSt) : Prop := ∃ u, σ = [u]
theorem bM0 {z : Str} {G : DH} {Q : DPP} (h : TX z) (q : ∀ G', Ap G G' → Q (.bl true) G') : Wp (aC4 [.str z]) G Q := by
 have bg := big
 refine J3 <| M7 <| bE6.mpr <| d8 (a := .bl true) rfl <| aJ8.mpr ?_
 rw [if_pos rfl]
 refine bB7 One (s := ⟨aF9 z, fun _ => true⟩) rfl (by show (aF9 z).length ≤ _; rw [cN5]; have := h.2; lia) (fun _ _ => rfl) ⟨_, rfl⟩ ?_ fun G' a => K9 (q G' a)
 rintro d hd _ G1 ⟨u, rfl⟩ j
 refine ⟨⟨_, rfl⟩, ?_⟩
 have hl := List.all_eq_true.mp ((cR1 z).trans h.1) d hd
 obtain ⟨c, rfl⟩ := cP4 hd
 rw [dH9] at hl
 have hl2 : decide (97 ≤ c) = true ∧ decide (c ≤ 122) = true := by
  unfold cA4 at hl
  exact Bool.and_eq_true _ _ ▸ hl
 refine cU4.mpr <| d8 (a := .str ("a" : Str)) rfl <| d8 (a := .str ⟨#[c]⟩) rfl <| dH7.mpr ⟨_, rfl, ?_⟩
 rw [if_pos hl2.1]
 refine d8 (a := .str ("z" : Str)) rfl <| dI2.mpr ⟨?_, Ap.refl⟩
 rw [hl2.2]
section
variable {a b : Fe} {t : DSt → M Bool} {f g : Fs} {σ : DSt} {G G1 : DH} {Q : DPP} {P : Fl → DH → Prop} {B : Bool → DH → Prop}
theorem bS8 (e : a σ G = some (.ok (.bl true), G1)) (w : Wp (b σ) G1 Q) : Wp (V8 a b σ) G Q := bE6.mpr (d8 e (aJ8.mpr (by rw [if_pos rfl]; exact w)))
theorem bS9 (w : Wp (a σ) G fun x G1 => x = .bl true ∧ Wp (b σ) G1 Q) : Wp (V8 a b σ) G Q := bE6.mpr (w.mono fun x G1 q => by
 obtain ⟨rfl, q⟩ := q
 exact aJ8.mpr (by rw [if_pos rfl]; exact q))
theorem bN6 (w : Wp (t σ) G fun k G1 => k = true ∧ Wp (g σ) G1 P) : Wp (ifS (aD1 t) f g σ) G P := aM9 (bE7.mpr (w.mono fun k G1 q => by
 obtain ⟨rfl, q⟩ := q
 exact ⟨fun z => (by cases z), fun _ => q⟩))
theorem V1 (w : Wp (a σ) G fun x G1 => x = .bl true ∧ B true G1) : Wp (v7 a σ) G B := aQ0.mpr (w.mono fun x G1 q => by
 obtain ⟨rfl, q⟩ := q
 exact aJ8.mpr q)
theorem cI9 {u : DSt → M Bool} (w : Wp (t σ) G fun k G1 => k = true ∧ Wp (u σ) G1 B) : Wp (aB2 t u σ) G B := aR3 (w.mono fun k G1 q => ⟨fun _ => q.2, fun z => by rw [q.1] at z; cases z⟩)
end
theorem cM9 {z : Str} {G : DH} {Q : DPP} (h : NM z) (q : ∀ G', Ap G G' → Q (.bl true) G') : Wp (aJ9 [.str z]) G Q := by
 have bg := big
 have h2 := h.1.2
 refine J3 <| M7 <| bS9 <| m6 (as := [.str z]) rfl rfl <| bM0 h.1 fun G' a => ⟨rfl, ?_⟩
 refine J1 <| bC8 (as := [.str z]) rfl <| (bF1 (show z.length ≤ sizeLine by lia)).mpr <| d8 (a := .int 0) rfl <| bT5.mpr <| K9 ?_
 rw [decide_eq_true (show (z.length : Int) > 0 by have := h.2; lia)]
 exact q G' a
theorem cC3 {f : Str × Bool × D} {G : DH} {Q : DPP} (h : NM f.1) (q : ∀ G', Ap G G' → Q (.bl true) G') : Wp (aH1 [fdD f]) G Q :=
 J3 <| M7 <| bS8 rfl <| bS8 rfl <| bS9 <| m6 (as := [.str f.1]) rfl rfl <| cM9 h fun G' a => ⟨rfl, d8 (a := .bl true) rfl (K9 (q G' a))⟩
theorem cD0 {α : Type} {R : α → α → Prop} : ∀ {l : List α}, l.Pairwise R → ∀ p ∈ l.zip (l.drop 1), R p.1 p.2
 | [], _, p, hp => by cases hp
 | [x], _, p, hp => by cases hp
 | x :: y :: r, h, p, hp => by
   have h' := List.pairwise_cons.mp h
   rcases List.mem_cons.mp (show p ∈ (x, y) :: (y :: r).zip r from hp) with rfl | hp
   · exact h'.1 _ (by simp)
   · exact cD0 (l := y :: r) h'.2 p hp
theorem cJ3 {G : DH} {p : Nat} {l : List D} {lo hi : Option Int} {Q : DPP} (e : G[p]? = some (.lst l)) : Wp (slT (.ref p) lo hi) G Q ↔ Q (.ref G.length) (G ++ [.lst (DL.cutD l lo hi)]) := dO8 e
noncomputable def SqD (G : DH) (d : D) (l : List D) : Prop := d = .tup l ∨ ∃ p, d = .ref p ∧ G[p]? = some (.lst l)
theorem cT7 {d : D} {l : List D} {e : Fe} {G : DH} {Q : DPP} (hd : SqD G d l) (hl : l.length ≤ 10000)
 (h : ∀ p ∈ l.zip (l.drop 1), ∀ G1, Ap G G1 → Wp (e [some p.1, some p.2]) G1 fun y G2 => y = .bl true ∧ Ap G1 G2) (q : ∀ G', Ap G G' → Q (.bl true) G') :
 Wp (q15 aK1 (q13 (Q8 (bI3 (q13 (c7 0) (q13 (X8 (c7 0) (aE0 (cE (.int 1))) (aB5)) (q14)))) [none, none] (bD2 2 (Q7 (q16 0) (Q7 (q16 1) (bD9)))) (U4) e) (q14)) [some d]) G Q := by
 have bg := big
 have hz : (l.zip (l.drop 1)).length ≤ sizeLine := by rw [List.length_zip]; lia
 have main : ∀ (ck : DH → Bool) (G0 : DH), Ap G G0 → (∀ G', Ap G0 G' → ck G' = true) → Wp (M5 (bD2 2 (Q7 (q16 0) (Q7 (q16 1) (bD9)))) U4 e ck ((l.zip (l.drop 1)).map fun p => .tup [p.1, p.2]) [none, none]) G0 fun ys G2 => Wp (q14 [some d]) (G2 ++ [.lst ys]) fun xs G3 => Wp (aK1 (.ref G2.length :: xs)) G3 Q := by
  intro ck G0 j0 hck
  refine (aB4 (Ap G0) (fun σ => ∃ u v, σ = [u, v]) (fun _ => .bl true) hck _ _ G0 ⟨_, _, rfl⟩ Ap.refl ?_).mono ?_
  · rintro d hd _ G1 ⟨u, v, rfl⟩ j
    obtain ⟨p, hp, rfl⟩ := List.mem_map.mp hd
    exact d8 (a := [some p.1, some p.2]) rfl ⟨rfl, ⟨_, _, rfl⟩, d8 (a := true) rfl ⟨rfl, rfl, (h p hp G1 (j0.trans j)).mono fun y G2 q => ⟨j.trans q.2, q.1⟩⟩⟩
  · rintro _ G2 ⟨j, rfl⟩
    refine u0.mpr ((cV0 (l := (l.zip (l.drop 1)).map fun p => .tup [p.1, p.2]) (f := fun _ => true) o4).mpr ?_)
    rw [List.all_eq_true.mpr fun _ _ => rfl]
    exact q _ ((j0.trans j).trans Ap.one)
 refine X5 <| o8 <| wp_comp.mpr ?_
 rcases hd with rfl | ⟨p, rfl, ep⟩
 · refine d8 (a := ⟨(l.zip (DL.cutD l (some 1) none)).map fun p => .tup [p.1, p.2], fun _ => true && true⟩) (G' := G) rfl ?_
   rw [dJ7]
   exact ⟨by rw [List.length_map]; exact hz, main _ G Ap.refl fun _ _ => rfl⟩
 · refine dF8.mpr <| M4 (x := .ref p) rfl <| o8 <| aZ2.mpr <| d8 (a := .ref p) rfl <| cI0.mpr <| d8 (a := .int 1) rfl ⟨1, rfl, bN8.mpr <| (cJ3 ep).mpr <| u0.mpr <| (dC7 (R0 ep) o4).mpr ?_⟩
   rw [dJ7]
   refine ⟨by rw [List.length_map]; exact hz, main _ _ Ap.one fun G' j => ?_⟩
   have h1 := j.at (R0 ep)
   have h2 := j.at (o4 (G := G) (o := DO.lst (l.drop 1)))
   simp only [ckO, h1, h2]
   simp
noncomputable def cV1 : D → D
 | .str z => .tup [.int z.length, .str z]
 | _ => .non
noncomputable def txB (a b : Str) : Bool := if a.length = b.length then decide (a.cps.toList < b.cps.toList) else decide (a.length < b.length)
theorem dL8 {G : DH} {a b : Str} : ltN 40 G (cV1 (.str a)) (cV1 (.str b)) = some (txB a b) := by
 show ltL (eqN 39 G) (ltN 39 G) [.int a.length, .str a] [.int b.length, .str b] = _
 have e1 : eqN 39 G (.int a.length) (.int b.length) = some (decide ((a.length : Int) = b.length)) := rfl
 have e2 : eqN 39 G (.str a) (.str b) = some (a == b) := rfl
 unfold txB
 unfold ltL
 rw [e1]
 by_cases h : a.length = b.length
 · have h' : ((a.length : Int) = b.length) := by lia
   rw [if_pos h]
   simp only [h', decide_true]
   unfold ltL
   rw [e2]
   by_cases k : a = b
   · subst k
     simp [ltL, List.lt_irrefl]
   · have k' : (a == b) = false := by simpa using k
     rw [k']
     rfl
 · have h' : ¬ ((a.length : Int) = b.length) := by lia
   rw [if_neg h]
   simp only [h', decide_false]
   show some (decide ((a.length : Int) < b.length)) = _
   congr 1
   by_cases k : a.length < b.length
   · rw [decide_eq_true k, decide_eq_true (by lia)]
   · rw [decide_eq_false k, decide_eq_false (by lia)]
theorem bF9 {d : D} {l : List D} {G : DH} {Q : DPP} (hd : SqD G d l) (hl : l.length ≤ 10000) (h : l.Pairwise fun a b => ∀ G, ltN 40 G a b = some true) (q : ∀ G', Ap G G' → Q (.bl true) G') : Wp (aA6 [d]) G Q :=
 J3 <| M7 <| cT7 hd hl (fun p hp G1 j => J1 <| d8 rfl <| d8 rfl <| cS0.mpr ⟨true, cD0 h p hp G1, rfl, Ap.refl⟩) fun G' a => K9 (q G' a)
theorem dD7 {ss : List Str} (h : ss.Pairwise LtS) : (ss.map D.str).Pairwise fun a b => ∀ G, ltN 40 G a b = some true :=
 List.pairwise_map.mpr (h.imp fun {a b} q G => (show ltN 40 G (.str a) (.str b) = some (decide (a.cps.toList < b.cps.toList)) from rfl).trans (by rw [decide_eq_true (show a.cps.toList < b.cps.toList from q)]))
theorem dG7 {ts : List Str} (h : ts.Pairwise dX1) : ((ts.map D.str).map cV1).Pairwise fun a b => ∀ G, ltN 40 G a b = some true := by
 rw [List.map_map]
 refine List.pairwise_map.mpr (h.imp fun {a b} q G => dL8.trans ?_)
 unfold txB
 rcases q with q | ⟨q, q'⟩
 · rw [if_neg (by lia), decide_eq_true q]
 · rw [if_pos q, decide_eq_true (show a.cps.toList < b.cps.toList from q')]
noncomputable def TrP (tr : List Bool) : Prop := tr = [] ∨ tr = [false] ∨ tr = [true] ∨ tr = [false, true]
theorem dP2 {tr : List Bool} (h : TrP tr) : (tr.map D.bl).Pairwise fun a b => ∀ G, ltN 40 G a b = some true := by
 rcases h with rfl | rfl | rfl | rfl
 · exact .nil
 · exact List.pairwise_singleton _ _
 · exact List.pairwise_singleton _ _
 · exact List.pairwise_cons.mpr ⟨fun y hy G => (by rw [List.mem_singleton.mp hy]; rfl), List.pairwise_singleton _ _⟩
theorem bY2 {tr : List Bool} {G : DH} {Q : DPP} (h : TrP tr) (q : ∀ G', Ap G G' → Q (.bl true) G') : Wp (aD2 [.tup (tr.map D.bl)]) G Q := by
 have hl : tr.length ≤ 2 := by rcases h with rfl | rfl | rfl | rfl <;> decide
 have bg := big
 refine J3 <| K1 (σ' := [some (.tup (tr.map D.bl))]) rfl <| M7 <| bS9 <| bB7 One (s := ⟨tr.map D.bl, fun _ => true⟩) rfl (by show (tr.map D.bl).length ≤ _; rw [List.length_map]; lia) (fun _ _ => rfl) ⟨_, rfl⟩ ?_ fun G' a => ⟨rfl, m6 (as := [.tup (tr.map D.bl)]) rfl rfl <| bF9 (.inl rfl) (by rw [List.length_map]; lia) (dP2 h) fun G2 a2 => K9 (q G2 (a.trans a2))⟩
 rintro d hd _ G1 ⟨u, rfl⟩ j
 obtain ⟨b, _, rfl⟩ := List.mem_map.mp hd
 exact ⟨⟨_, rfl⟩, d8 (a := .bl true) rfl ⟨rfl, Ap.refl⟩⟩
theorem bS4 {z : Str} {G : DH} {Q : DPP} (h : TX z) (q : Q (cV1 (.str z)) G) : Wp (aA9 [.str z]) G Q := by
 have bg := big
 have h2 := h.2
 exact J3 <| M7 <| aG3.mpr <| o8 <| bC8 (as := [.str z]) rfl <| (bF1 (show z.length ≤ sizeLine by lia)).mpr <| d8 (a := [.str z]) (G' := G) rfl ⟨sz, K9 (show Q (.tup [.int z.length, .str z]) G from q)⟩
theorem cC4 {w : Str} {ts : List Str} {G : DH} {Q : DPP} (hw : w = wOf ∨ w = bD4) (h : bQ4 ts) (hl : ts.length ≤ 100) (q : ∀ G', Ap G G' → Q (.bl true) G') : Wp (aG9 [.tup [.str w, .tup (ts.map D.str)]]) G Q := by
 have bg := big
 refine J3 <| K1 (σ' := [some (.tup [.str w, .tup (ts.map D.str)])]) (G' := G) (by rcases hw with rfl | rfl <;> rfl) <| m7.mpr <| bN6 <| V1 <| bB7 One (s := ⟨ts.map D.str, fun _ => true⟩) rfl (by show (ts.map D.str).length ≤ _; rw [List.length_map]; lia) (fun _ _ => rfl) ⟨_, rfl⟩ ?_ fun G' a => ⟨rfl, rfl, G9.mpr ?_⟩
 · rintro d hd _ G1 ⟨u, rfl⟩ j
   obtain ⟨z, hz, rfl⟩ := List.mem_map.mp hd
   exact ⟨⟨_, rfl⟩, m6 (as := [.str z]) rfl rfl <| bM0 (h.1 z hz) fun G2 a2 => ⟨rfl, a2⟩⟩
 · refine M7 <| X5 <| o8 <| aC9 (l := ts.map D.str) (G1 := G') rfl (by rw [List.length_map]; lia) <| (aB4 (fun G2 => G2 = G') One cV1 (fun _ _ => rfl) _ _ G' ⟨_, rfl⟩ rfl ?_).mono ?_
   · rintro d hd _ _ ⟨u, rfl⟩ rfl
     obtain ⟨z, hz, rfl⟩ := List.mem_map.mp hd
     exact aQ5 ⟨_, rfl⟩ (m6 (as := [.str z]) rfl rfl <| bS4 (h.1 z hz) ⟨rfl, rfl⟩)
   · rintro _ _ ⟨rfl, rfl⟩
     exact u0.mpr <| aT4.mpr ⟨rfl, bF9 (.inr ⟨_, rfl, o4⟩) (by rw [List.length_map, List.length_map]; lia) (dG7 h.2) fun G2 a2 => K9 (q G2 ((a.trans Ap.one).trans a2))⟩
theorem bQ1 {p : D × D} {G : DH} (h : bF3 p) : Wp (aA3 [stD p]) G fun y G2 => y = .bl true ∧ Ap G G2 := by
 obtain ⟨a, b⟩ := p
 obtain ⟨h1, h2, h3⟩ := h
 replace h1 : bJ7 a := h1
 replace h2 : bJ7 b := h2
 have he : eB4 a b = false := by
  rcases aI0 h1 with rfl | ⟨i, rfl⟩ <;> rcases aI0 h2 with rfl | ⟨j, rfl⟩ <;> first
   | rfl
   | (exact decide_eq_false (Int.not_lt.mpr (h3 _ _ rfl rfl).1))
 refine J3 <| K1 (σ' := [some (stD (a, b))]) rfl <| K1 (σ' := [some (stD (a, b))]) (G' := G) ?_ <| M7 <| cX2.mpr <| m6 (as := [a, b]) rfl rfl <| (bX6 h1 h2).mpr ?_
 · rcases aI0 h1 with rfl | ⟨i, rfl⟩ <;> rcases aI0 h2 with rfl | ⟨j, rfl⟩ <;> rfl
 · rw [he]
   exact ⟨_, rfl, K9 ⟨rfl, Ap.refl⟩⟩
theorem bU8 {p r : D × D} {G : DH} (h : Clr p r) : Wp (aA5 [stD p, stD r]) G fun y G2 => y = .bl true ∧ Ap G G2 := by
 obtain ⟨p1, p2⟩ := p
 obtain ⟨r1, r2⟩ := r
 obtain ⟨a, b, rfl, rfl, hab⟩ := h
 refine J3 <| M7 <| bS8 rfl <| bS8 rfl <| J1 <| d8 (a := .int (a + 1)) rfl <| d8 (a := .int b) rfl <| cS0.mpr ⟨decide (a + 1 < b), rfl, K9 ⟨?_, Ap.refl⟩⟩
 rw [decide_eq_true hab]
theorem bR4 {ns : List (D × D)} {G : DH} {Q : DPP} (h : StP ns) (hl : ns.length ≤ 100) (q : ∀ G', Ap G G' → Q (.bl true) G') : Wp (aA4 [.tup (ns.map stD)]) G Q := by
 have bg := big
 refine J3 <| m7.mpr <| bN6 <| cI9 <| V1 <| d8 (a := .bl true) rfl ⟨rfl, rfl, V1 <| bB7 One (s := ⟨ns.map stD, fun _ => true⟩) rfl (by show (ns.map stD).length ≤ _; rw [List.length_map]; lia) (fun _ _ => rfl) ⟨_, rfl⟩ ?_ fun G' a => ⟨rfl, rfl, G9.mpr ?_⟩⟩
 · rintro d hd _ G1 ⟨u, rfl⟩ j
   obtain ⟨p, hp, rfl⟩ := List.mem_map.mp hd
   exact ⟨⟨_, rfl⟩, m6 (as := [stD p]) rfl rfl <| bQ1 (h.1 p hp)⟩
 · refine M7 <| cT7 (l := ns.map stD) (.inl rfl) (by rw [List.length_map]; lia) (fun p hp G1 j => ?_) fun G2 a2 => K9 (q G2 (a.trans a2))
   rw [← List.map_drop, List.zip_map, List.mem_map] at hp
   obtain ⟨⟨x, y⟩, hxy, rfl⟩ := hp
   exact m6 (as := [stD x, stD y]) rfl rfl <| bU8 (cD0 h.2 (x, y) hxy)
noncomputable def LiG (S : D → Prop) (li : D) : Prop := li = .non ∨ ∃ fs m, li = .tup [.tup fs, m] ∧ fs.length ≤ 3 ∧ (∀ x ∈ fs, S x) ∧ S m
def ReG (S : D → Prop) (re : D) : Prop := re = .non ∨ ∃ (fs : List (Str × Bool × D)) (m : D), re = .tup [.tup (fs.map fdD), m] ∧ fs.length ≤ 4 ∧ (fs.map (·.1)).Pairwise LtS ∧ (∀ f ∈ fs, NM f.1 ∧ S f.2.2) ∧ S m
structure PtP (S : D → Prop) (ns : List (D × D)) (w : Str) (ts : List Str) (tr : List Bool) (li re : D) : Prop where
 st : StP ns
 nl : ns.length ≤ 10
 wd : w = wOf ∨ w = bD4
 tx : bQ4 ts
 tl : ts.length ≤ 100
 tr : TrP tr
 li : LiG S li
 re : ReG S re
def NoN (li : D) : Prop := ∀ fs m, li = .tup [.tup fs, m] → noS ∉ fs
def Due (re : D) : Prop := ∀ (fs : List (Str × Bool × D)) (m : D), re = .tup [.tup (fs.map fdD), m] → ∀ f ∈ fs, (f.2.1 = true → f.2.2 ≠ noS) ∧ (f.2.1 = false → f.2.2 ≠ m)
def GS : Nat → D → Prop
 | 0, _ => False
 | n + 1, d => d = .str T6 ∨ ∃ ns w ts tr li re, d = mkS ns w ts tr li re ∧ PtP (GS n) ns w ts tr li re ∧ NoN li ∧ Due re ∧ d ≠ evS
noncomputable def hd0 : D → D
 | .tup (x :: _) => x
 | _ => .non
noncomputable def trd : D → D
 | .tup [_, _, x] => x
 | _ => .non
section
variable {S : D → Prop} {G : DH} {Q : DPP}
theorem cF0 {fs : List (Str × Bool × D)} (hl : fs.length ≤ 100) (q : Q (.ref G.length) (G ++ [.lst ((fs.map (·.1)).map D.str)])) : Wp (aH3 [.tup (fs.map fdD)]) G Q := by
 refine J3 <| M7 <| aC9 (l := fs.map fdD) (G1 := G) rfl (by rw [List.length_map]; lia) <| (aB4 (fun G2 => G2 = G) One hd0 (fun _ _ => rfl) _ _ G ⟨_, rfl⟩ rfl ?_).mono ?_
 · rintro d hd _ _ ⟨u, rfl⟩ rfl
   obtain ⟨f, hf, rfl⟩ := List.mem_map.mp hd
   exact aQ5 ⟨_, rfl⟩ (d8 (a := .str f.1) rfl ⟨rfl, rfl⟩)
 · rintro _ _ ⟨rfl, rfl⟩
   rw [List.map_map] at q ⊢
   exact K9 q
theorem bT6 {li : D} (h : LiG S li) (q : Q (.bl true) G) : Wp (R8 [li]) G Q := by
 rcases h with rfl | ⟨fs, m, rfl, _⟩
 · exact aI4 (d := .bl true) rfl q
 · exact aI4 (d := .bl true) rfl q
theorem bH7 {re : D} (h : ReG S re) (q : ∀ G', Ap G G' → Q (.bl true) G') : Wp (Q0 [re]) G Q := by
 have bg := big
 rcases h with rfl | ⟨fs, m, rfl, hl, hn, hf, _⟩
 · exact aI4 (d := .bl true) rfl (q G Ap.refl)
 · refine J3 <| K1 (σ' := [some (.tup [.tup (fs.map fdD), m])]) rfl <| m7.mpr <| bN6 <| cI9 <| V1 <| d8 (a := .bl true) rfl ⟨rfl, rfl, V1 <| bB7 One (s := ⟨fs.map fdD, fun _ => true⟩) rfl (by show (fs.map fdD).length ≤ _; rw [List.length_map]; lia) (fun _ _ => rfl) ⟨_, rfl⟩ ?_ fun G' a => ⟨rfl, rfl, G9.mpr ?_⟩⟩
   · rintro d hd _ G1 ⟨u, rfl⟩ j
     obtain ⟨f, hf', rfl⟩ := List.mem_map.mp hd
     exact ⟨⟨_, rfl⟩, m6 (as := [fdD f]) rfl rfl <| cC3 (hf f hf').1 fun G2 a2 => ⟨rfl, a2⟩⟩
   · exact M7 <| X5 <| o8 <| m6 (as := [.tup (fs.map fdD)]) rfl rfl <| cF0 (by lia) <| u0.mpr <| aT4.mpr ⟨rfl, bF9 (.inr ⟨_, rfl, o4⟩) (by rw [List.length_map, List.length_map]; lia) (dD7 hn) fun G2 a2 => K9 (q G2 ((a.trans Ap.one).trans a2))⟩
theorem cE0 {ns : List (D × D)} {w : Str} {ts : List Str} {tr : List Bool} {li re : D} (h : PtP S ns w ts tr li re) (q : ∀ G', Ap G G' → Q (.bl true) G') : Wp (Q5 [mkS ns w ts tr li re]) G Q := by
 refine J3 <| K1 (σ' := [some (mkS ns w ts tr li re)]) rfl <| K1 (σ' := [some (mkS ns w ts tr li re)]) rfl <| m7.mpr <| bN6 <| cI9 <| V1 <| m6 (as := [.tup (ns.map stD)]) rfl rfl <| bR4 h.st (by have := h.nl; lia) fun G1 a1 => ⟨rfl, rfl, ?_⟩
 refine cI9 <| V1 <| m6 (as := [.tup [.str w, .tup (ts.map D.str)]]) rfl rfl <| cC4 h.wd h.tx h.tl fun G2 a2 => ⟨rfl, rfl, ?_⟩
 refine V1 <| m6 (as := [.tup (tr.map D.bl)]) rfl rfl <| bY2 h.tr fun G3 a3 => ⟨rfl, rfl, G9.mpr ?_⟩
 exact M7 <| bS9 <| m6 (as := [li]) rfl rfl <| bT6 h.li ⟨rfl, m6 (as := [re]) rfl rfl <| bH7 h.re fun G4 a4 => K9 (q G4 (((a1.trans a2).trans a3).trans a4))⟩
theorem cC6 (q : Q (.bl true) G) : Wp (Q5 [.str T6]) G Q := aI4 (d := .bl true) rfl q
theorem GS.form {n : Nat} {d : D} (h : GS n d) (q : ∀ G', Ap G G' → Q (.bl true) G') : Wp (Q5 [d]) G Q := by
 cases n with
 | zero => exact h.elim
 | succ n =>
   rcases h with rfl | ⟨ns, w, ts, tr, li, re, rfl, h, _⟩
   · exact cC6 (q G Ap.refl)
   · exact cE0 h q
end
noncomputable def liK : D → List D
 | .tup [.tup fs, m] => fs ++ [m]
 | _ => []
def reK : D → List D
 | .tup [.tup fs, m] => fs.map trd ++ [m]
 | _ => []
def W8 : D → List D
 | .tup [_, _, _, li, re] => liK li ++ reK re
 | _ => []
theorem dX7 : aA8 = j9 (J4 (P0 (q14)) (q16 1)) (j9 (ifS (v6 (d7 eqD (c7 0) (cE (.str ("any" : Str))))) (t6 (c7 1)) (J5)) (j9 IL (j9 IR (t6 (c7 1))))) := rfl
theorem Ap.set {G0 G : DH} {p : Nat} {o : DO} (h : Ap G0 G) (hp : G0.length ≤ p) : Ap G0 (G.set p o) := by
 obtain ⟨t, rfl⟩ := h
 exact ⟨t.set (p - G0.length) o, List.set_append_right _ _ hp⟩
section
variable {S : D → Prop} {G G0 : DH} {Q : DPP} {p : Nat} {ns : List (D × D)} {w : Str} {ts : List Str} {tr : List Bool} {li re : D} {l0 : List D}
theorem dK2 {d : D} {a b : Fe} {fs : List D} {m : D} {G1 : DH} {P : Fl → DH → Prop} (hA : Ap G0 G) (hp : G0.length ≤ p) (e : G[p]? = some (.lst l0)) (hl : l0.length ≤ 10) (hf : fs.length ≤ 10) (ha : Wp (a [some d, some (.ref p)]) G fun x G1 => x = .ref G.length ∧ G1 = G ++ [.lst fs]) (hb : ∀ G, b [some d, some (.ref p)] G = some (.ok m, G)) (q : ∀ G', Ap G0 G' → G'[p]? = some (.lst (l0 ++ (fs ++ [m]))) → P (.nx [some d, some (.ref p)]) G') :
 Wp (aO2 (mtE U9 aI6 (c7 1) (q13 (d7 T4 a (P0 (q13 b (q14)))) (q14))) [some d, some (.ref p)]) G P := by
 have bg := big
 refine aQ4.mpr <| bB5.mpr <| d8 (a := .ref p) rfl <| (V5 e).mpr <| o8 <| J1 <| ha.mono ?_
 rintro _ _ ⟨rfl, rfl⟩
 refine aL9.mpr <| M4 (hb _) <| u0.mpr ⟨sz, ?_⟩
 refine (cJ8 (R0 o4) o4 (by show fs.length + 1 ≤ _; lia)).mpr <| u0.mpr ?_
 have e3 : (G ++ [DO.lst fs] ++ [DO.lst [m]] ++ [DO.lst (fs ++ [m])])[p]? = some (.lst l0) := R0 (R0 (R0 e))
 refine (aU1 e3 o4 (by rw [List.length_append]; show l0.length + (fs.length + 1) ≤ _; lia)).mpr ?_
 exact q _ (Ap.set (((hA.trans Ap.one).trans Ap.one).trans Ap.one) hp) (List.getElem?_set_self (lt_of_get e3))
theorem eB9 {P : Fl → DH → Prop} (hA : Ap G0 G) (hp : G0.length ≤ p) (e : G[p]? = some (.lst l0)) (hl : l0.length ≤ 10) (h : LiG S li) (q : ∀ G', Ap G0 G' → G'[p]? = some (.lst (l0 ++ liK li)) → P (.nx [some (mkS ns w ts tr li re), some (.ref p)]) G') :
 Wp (IL [some (mkS ns w ts tr li re), some (.ref p)]) G P := by
 rcases h with rfl | ⟨fs, m, rfl, hf, _⟩
 · refine eB2 (G1 := G) rfl <| G9.mpr (q G hA ?_)
   rw [show liK .non = [] from rfl, List.append_nil]; exact e
 · refine dP6 (G1 := G) rfl ?_
   exact dK2 (G1 := G) hA hp e hl (by lia) (d8 (a := .ref G.length) (G' := G ++ [.lst fs]) rfl ⟨rfl, rfl⟩) (fun _ => rfl) q
theorem eG5 {P : Fl → DH → Prop} (hA : Ap G0 G) (hp : G0.length ≤ p) (e : G[p]? = some (.lst l0)) (hl : l0.length ≤ 10) (h : ReG S re) (q : ∀ G', Ap G0 G' → G'[p]? = some (.lst (l0 ++ reK re)) → P (.nx [some (mkS ns w ts tr li re), some (.ref p)]) G') :
 Wp (IR [some (mkS ns w ts tr li re), some (.ref p)]) G P := by
 rcases h with rfl | ⟨fs, m, rfl, hf, _⟩
 · refine eB2 (G1 := G) rfl <| G9.mpr (q G hA ?_)
   rw [show reK .non = [] from rfl, List.append_nil]; exact e
 · refine dP6 (G1 := G) rfl ?_
   refine dK2 (G1 := G) (fs := (fs.map fdD).map trd) hA hp e hl (by rw [List.length_map, List.length_map]; lia) ?_ (fun _ => rfl) q
   refine aC9 (l := fs.map fdD) (G1 := G) rfl (by rw [List.length_map]; lia) <| (aB4 (fun G2 => G2 = G) One trd (fun _ _ => rfl) _ _ G ⟨_, rfl⟩ rfl ?_).mono ?_
   · rintro d hd _ _ ⟨u, rfl⟩ rfl
     obtain ⟨f, hf, rfl⟩ := List.mem_map.mp hd
     exact aQ5 ⟨_, rfl⟩ (d8 (a := f.2.2) rfl ⟨rfl, rfl⟩)
   · rintro _ _ ⟨rfl, rfl⟩
     exact ⟨rfl, rfl⟩
theorem dF4 (h : LiG S li) : (liK li).length ≤ 4 := by
 rcases h with rfl | ⟨fs, m, rfl, hf, _⟩
 · exact Nat.zero_le _
 · show (fs ++ [m]).length ≤ 4
   rw [List.length_append]; show fs.length + 1 ≤ 4; lia
theorem bU0 {n : Nat} {d : D} (h : GS n d) (q : ∀ p G', Ap G G' → G.length ≤ p → G'[p]? = some (.lst (W8 d)) → Q (.ref p) G') : Wp (R4 [d]) G Q := by
 cases n with
 | zero => exact h.elim
 | succ n =>
   rcases h with rfl | ⟨ns, w, ts, tr, li, re, rfl, h, _⟩
   · refine J3 (show Wp (aA8 [some (.str T6), none]) G _ from ?_)
     rw [dX7]
     exact K1 (σ' := [some (.str T6), some (.ref G.length)]) (G' := G ++ [.lst []]) rfl <| dM3 (d := .ref G.length) (G' := G ++ [.lst []]) rfl (K9 (q _ _ Ap.one (Nat.le_refl _) o4))
   · refine J3 (show Wp (aA8 [some (mkS ns w ts tr li re), none]) G _ from ?_)
     rw [dX7]
     refine K1 (σ' := [some (mkS ns w ts tr li re), some (.ref G.length)]) (G' := G ++ [.lst []]) rfl <| K1 (σ' := [some (mkS ns w ts tr li re), some (.ref G.length)]) (G' := G ++ [.lst []]) rfl ?_
     refine m7.mpr <| eB9 (Ap.one (G := G)) (Nat.le_refl _) o4 (Nat.zero_le _) h.li fun G1 a1 e1 => m7.mpr <| eG5 a1 (Nat.le_refl _) e1 (by have := dF4 h.li; simpa using Nat.le_trans this (by decide)) h.re fun G2 a2 e2 => ?_
     exact d8 rfl (K9 (q _ _ a2 (Nat.le_refl _) e2))
end
noncomputable def frD : D → D
 | .tup [.tup fs, _] => .int fs.length
 | _ => .non
noncomputable def nmO : D → D
 | .tup [a, b, _] => .tup [a, b]
 | _ => .non
noncomputable def nmB (f : Str × Bool × D) : D := .tup [.str f.1, .bl f.2.1]
def RfP (G : DH) (re r : D) : Prop := (re = .non ∧ r = .non) ∨ ∃ (fs : List (Str × Bool × D)) (m : D) (p : Nat), re = .tup [.tup (fs.map fdD), m] ∧ r = .ref p ∧ G[p]? = some (.lst (fs.map nmB))
def cP9 (S : D → Prop) (G : DH) (d o : D) : Prop := (d = .str T6 ∧ o = .tup [.str T6]) ∨ ∃ ns w ts tr li re r, d = mkS ns w ts tr li re ∧ o = .tup [.tup (ns.map stD), .tup [.str w, .tup (ts.map D.str)], .tup (tr.map D.bl), frD li, r] ∧ RfP G re r ∧ PtP S ns w ts tr li re
theorem cP9.up {S : D → Prop} {G G' : DH} {d o : D} (h : cP9 S G d o) (a : Ap G G') : cP9 S G' d o := by
 rcases h with h | ⟨ns, w, ts, tr, li, re, r, e1, e2, h, p⟩
 · exact .inl h
 · refine .inr ⟨ns, w, ts, tr, li, re, r, e1, e2, ?_, p⟩
   rcases h with h | ⟨fs, m, p, a1, a2, a3⟩
   · exact .inl h
   · exact .inr ⟨fs, m, p, a1, a2, a.at a3⟩
theorem cH8 {G : DH} {Q : DPP} {n : Nat} {d : D} (h : GS (n + 1) d) (q : ∀ o G', Ap G G' → cP9 (GS n) G' d o → Q o G') : Wp (W0 [d]) G Q := by
 rcases h with rfl | ⟨ns, w, ts, tr, li, re, rfl, h, _⟩
 · exact aI4 (d := .tup [.str T6]) rfl (q _ G Ap.refl (.inl ⟨rfl, rfl⟩))
 · refine J3 <| K1 (σ' := [some (mkS ns w ts tr li re), none, none]) rfl <| K1 (σ' := [some (mkS ns w ts tr li re), some (frD li), none]) (G' := G) ?_ ?_
   · rcases h.li with rfl | ⟨fs, m, rfl, _⟩ <;> rfl
   · have fin : ∀ r G', Ap G G' → RfP G' re r → Wp (t6 (u6 (q13 (d7 ixD (c7 0) (cE (.int 0))) (q13 (d7 ixD (c7 0) (cE (.int 1))) (q13 (d7 ixD (c7 0) (cE (.int 2))) (q13 (c7 1) (q13 (c7 2) (q14))))))) [some (mkS ns w ts tr li re), some (frD li), some r]) G' (PB Q) := fun r G' a hr =>
      M7 <| d8 (a := .tup [.tup (ns.map stD), .tup [.str w, .tup (ts.map D.str)], .tup (tr.map D.bl), frD li, r]) (G' := G') rfl <| K9 <| q _ G' a (.inr ⟨ns, w, ts, tr, li, re, r, rfl, rfl, hr, h⟩)
     rcases h.re with e | ⟨fs, m, e, hf, _⟩
     · refine K1 (σ' := [some (mkS ns w ts tr li re), some (frD li), some .non]) (G' := G) ?_ (fin .non G Ap.refl (.inl ⟨e, rfl⟩))
       rw [e]; rfl
     · refine m7.mpr <| V6 <| dK1 (G1 := G) (by rw [e]; rfl) <| aC9 (l := fs.map fdD) (G1 := G) (by rw [e]; rfl) (by rw [List.length_map]; lia) <| (aB4 (fun G2 => G2 = G) One nmO (fun _ _ => rfl) _ _ G ⟨_, rfl⟩ rfl ?_).mono ?_
       · rintro d hd _ _ ⟨u, rfl⟩ rfl
         obtain ⟨f, hf, rfl⟩ := List.mem_map.mp hd
         exact aQ5 ⟨_, rfl⟩ (d8 (a := nmB f) rfl ⟨rfl, rfl⟩)
       · rintro _ _ ⟨rfl, rfl⟩
         exact fin (.ref _) _ Ap.one (.inr ⟨fs, m, _, e, rfl, by rw [o4, List.map_map]; rfl⟩)
theorem aW8 {G : DH} {p : Nat} {l : List D} (e : G[p]? = some (.lst l)) : X7 G (.ref p) = some (false, l) := by
 show (match G[p]? with
  | some (.lst l) => some (false, l)
  | some (.rol l) => some (false, l)
  | _ => none) = _
 rw [e]
theorem eF9 {f : D → D → Option Bool} {x1 x2 x3 x4 x5 y1 y2 y3 y4 y5 : D} {b1 b2 b3 b4 b5 : Bool} (h1 : f x1 y1 = some b1) (h2 : f x2 y2 = some b2) (h3 : f x3 y3 = some b3) (h4 : f x4 y4 = some b4) (h5 : f x5 y5 = some b5) : eqL f [x1, x2, x3, x4, x5] [y1, y2, y3, y4, y5] = some (b1 && (b2 && (b3 && (b4 && (b5 && true))))) := by
 rw [bC3, h1, bC3, h2, bC3, h3, bC3, h4, bC3, h5]; rfl
theorem dX5 {S : D → Prop} {n : Nat} {G : DH} {li li' : D} (h : LiG S li) (h' : LiG S li') : ∃ b, eqN (n + 1) G (frD li) (frD li') = some b ∧ (b = true → (liK li).length = (liK li').length ∧ (liK li = liK li' → li = li')) := by
 rcases h with rfl | ⟨fs, m, rfl, _⟩ <;> rcases h' with rfl | ⟨fs', m', rfl, _⟩
 · exact ⟨true, rfl, fun _ => ⟨rfl, fun _ => rfl⟩⟩
 · exact ⟨false, rfl, fun z => by cases z⟩
 · exact ⟨false, rfl, fun z => by cases z⟩
 · refine ⟨((fs.length : Int) == (fs'.length : Int)), rfl, fun z => ⟨?_, fun e => ?_⟩⟩
   · have z := eq_of_beq z
     show (fs ++ [m]).length = (fs' ++ [m']).length
     simp only [List.length_append, List.length_singleton]; lia
   · have e := List.append_inj' (show fs ++ [m] = fs' ++ [m'] from e) rfl
     rw [e.1, (List.cons.inj e.2).1]
theorem dB3 {f g : Str × Bool × D} (h : nmB f = nmB g) (k : f.2.2 = g.2.2) : f = g := by
 obtain ⟨a, b, c⟩ := f
 obtain ⟨a', b', c'⟩ := g
 cases h; cases k; rfl
theorem dK3 : ∀ {fs gs : List (Str × Bool × D)}, fs.map nmB = gs.map nmB → (fs.map fdD).map trd = (gs.map fdD).map trd → fs = gs
 | [], [], _, _ => rfl
 | [], _ :: _, h, _ => by cases h
 | _ :: _, [], h, _ => by cases h
 | f :: fs, g :: gs, h, k => by
   have h := List.cons.inj h
   have k := List.cons.inj (show trd (fdD f) :: (fs.map fdD).map trd = trd (fdD g) :: (gs.map fdD).map trd from k)
   rw [dB3 h.1 k.1, dK3 h.2 k.2]
theorem cL5 {n : Nat} (f : Str × Bool × D) : K3 (n + 2) (nmB f) = true := by
 show [D.str f.1, .bl f.2.1].all (K3 (n + 1)) = true
 rfl
theorem dZ9 {n : Nat} {G : DH} {re re' r r' : D} (hn : 4 ≤ n) (h : RfP G re r) (h' : RfP G re' r') : ∃ b, eqN (n + 1) G r r' = some b ∧ (b = true → (reK re).length = (reK re').length ∧ (reK re = reK re' → re = re')) := by
 rcases h with ⟨rfl, rfl⟩ | ⟨fs, m, p, rfl, rfl, e⟩ <;> rcases h' with ⟨rfl, rfl⟩ | ⟨gs, m', p', rfl, rfl, e'⟩
 · exact ⟨true, rfl, fun _ => ⟨rfl, fun _ => rfl⟩⟩
 · refine ⟨false, ?_, fun z => by cases z⟩
   rw [aR5, aW8 e']; rfl
 · refine ⟨false, ?_, fun z => by cases z⟩
   rw [aR5, aW8 e]; rfl
 · have hd : ∀ x ∈ fs.map nmB, ∀ y ∈ gs.map nmB, ∃ k, eqN n G x y = some k := fun x hx y hy => by
    obtain ⟨f, _, rfl⟩ := List.mem_map.mp hx
    obtain ⟨g, _, rfl⟩ := List.mem_map.mp hy
    exact aQ2 2 n _ _ (by lia) (cL5 f) (cL5 g)
   obtain ⟨k, hk⟩ := bQ3 _ _ hd
   have h0 : eqN (n + 1) G (.ref p) (.ref p') = if (fs.map nmB).length ≠ (gs.map nmB).length then some false else eqL (eqN n G) (fs.map nmB) (gs.map nmB) := by
    rw [aR5, aW8 e, aW8 e']
    simp
   rw [h0]
   by_cases hl : (fs.map nmB).length ≠ (gs.map nmB).length
   · exact ⟨false, if_pos hl, fun z => by cases z⟩
   · refine ⟨k, by rw [if_neg hl]; exact hk, fun z => ?_⟩
     subst z
     have e0 : fs.map nmB = gs.map nmB := eqL_same hk fun x hx y hy e => by
      obtain ⟨f, _, rfl⟩ := List.mem_map.mp hx
      obtain ⟨g, _, rfl⟩ := List.mem_map.mp hy
      obtain ⟨j, rfl, e⟩ := eqT (a := [.str f.1, .bl f.2.1]) (b := [.str g.1, .bl g.2.1]) e
      have e1 := K4 e
      have e2 := K4 e1.2
      show D.tup [.str f.1, .bl f.2.1] = D.tup [.str g.1, .bl g.2.1]
      rw [aN5 e1.1, bU9 e2.1]
     refine ⟨?_, fun e => ?_⟩
     · show ((fs.map fdD).map trd ++ [m]).length = ((gs.map fdD).map trd ++ [m']).length
       have := congrArg List.length e0
       simp only [List.length_append, List.length_map, List.length_singleton] at this ⊢
       lia
     · have e := List.append_inj' (show (fs.map fdD).map trd ++ [m] = (gs.map fdD).map trd ++ [m'] from e) rfl
       rw [dK3 e0 e.1, (List.cons.inj e.2).1]
def Oeq (d e : D) : Prop := (W8 d).length = (W8 e).length ∧ (W8 d = W8 e → d = e)
theorem dR3 {S : D → Prop} {G : DH} {d d' o o' : D} (h : cP9 S G d o) (h' : cP9 S G d' o') : ∃ b, eqN 40 G o o' = some b ∧ (b = true → Oeq d d') := by
 rcases h with ⟨rfl, rfl⟩ | ⟨ns, w, ts, tr, li, re, r, rfl, rfl, hr, hp⟩ <;> rcases h' with ⟨rfl, rfl⟩ | ⟨ns', w', ts', tr', li', re', r', rfl, rfl, hr', hp'⟩
 · exact ⟨true, rfl, fun _ => ⟨rfl, fun _ => rfl⟩⟩
 · exact ⟨false, rfl, fun z => by cases z⟩
 · exact ⟨false, rfl, fun z => by cases z⟩
 · have dt : ∀ (w : Str) (ts : List Str), K3 3 (.tup [.str w, .tup (ts.map D.str)]) = true := fun w ts => by
    have := bM2 1 ts
    show ([D.str w, .tup (ts.map D.str)].all (K3 2)) = true
    simp only [List.all_cons, List.all_nil, this, Bool.and_true]
    rfl
   obtain ⟨b1, h1⟩ := aQ2 (G := G) 2 39 _ _ (by decide) (bR3 0 hp.st.1) (bR3 0 hp'.st.1)
   obtain ⟨b2, h2⟩ := aQ2 (G := G) 3 39 _ _ (by decide) (dt w ts) (dt w' ts')
   obtain ⟨b3, h3⟩ := aQ2 (G := G) 2 39 _ _ (by decide) (bH3 1 tr) (bH3 1 tr')
   obtain ⟨b4, h4, k4⟩ := dX5 (n := 38) (G := G) hp.li hp'.li
   obtain ⟨b5, h5, k5⟩ := dZ9 (n := 38) (by decide) hr hr'
   refine ⟨_, (bV1 (n := 39)).trans (eF9 h1 h2 h3 h4 h5), fun z => ?_⟩
   rw [Bool.and_true] at z
   simp only [Bool.and_eq_true] at z
   obtain ⟨rfl, rfl, rfl, rfl, rfl⟩ := z
   have k4 := k4 rfl
   have k5 := k5 rfl
   refine ⟨?_, fun e => ?_⟩
   · show (liK li ++ reK re).length = (liK li' ++ reK re').length
     rw [List.length_append, List.length_append, k4.1, k5.1]
   · have e := List.append_inj (show liK li ++ reK re = liK li' ++ reK re' from e) k4.1
     obtain ⟨j, ej, h2⟩ := eqT h2
     have e1 := K4 h2
     have e2 := K4 e1.2
     unfold mkS
     rw [dJ2 hp.st.1 hp'.st.1 h1, aN5 e1.1, cH6 e2.1, cX8 h3, k4.2 e.1, k5.2 e.2]
theorem LiG.mono {S T : D → Prop} (k : ∀ d, S d → T d) {li : D} (h : LiG S li) : LiG T li := by
 rcases h with rfl | ⟨fs, m, rfl, a, b, c⟩
 · exact .inl rfl
 · exact .inr ⟨fs, m, rfl, a, fun x hx => k _ (b x hx), k _ c⟩
theorem ReG.mono {S T : D → Prop} (k : ∀ d, S d → T d) {re : D} (h : ReG S re) : ReG T re := by
 rcases h with rfl | ⟨fs, m, rfl, a, n, b, c⟩
 · exact .inl rfl
 · exact .inr ⟨fs, m, rfl, a, n, fun x hx => ⟨(b x hx).1, k _ (b x hx).2⟩, k _ c⟩
theorem PtP.mono {S T : D → Prop} (k : ∀ d, S d → T d) {ns : List (D × D)} {w : Str} {ts : List Str} {tr : List Bool} {li re : D} (h : PtP S ns w ts tr li re) : PtP T ns w ts tr li re := ⟨h.st, h.nl, h.wd, h.tx, h.tl, h.tr, h.li.mono k, h.re.mono k⟩
theorem GS.le : ∀ {n m : Nat} {d : D}, n ≤ m → GS n d → GS m d
 | 0, _, _, _, h => h.elim
 | n + 1, 0, _, hm, _ => absurd hm (by lia)
 | n + 1, m + 1, d, hm, h => by
   rcases h with rfl | ⟨ns, w, ts, tr, li, re, e, h, r⟩
   · exact .inl rfl
   · exact .inr ⟨ns, w, ts, tr, li, re, e, h.mono fun d hd => GS.le (by lia) hd, r⟩
theorem GS.kids {n : Nat} {d : D} (h : GS (n + 1) d) : ∀ x ∈ W8 d, GS n x := by
 rcases h with rfl | ⟨ns, w, ts, tr, li, re, rfl, h, _⟩
 · intro x hx; cases hx
 · intro x hx
   rcases List.mem_append.mp (show x ∈ liK li ++ reK re from hx) with hx | hx
   · rcases h.li with e | ⟨fs, m, e, a, b, c⟩ <;> rw [e] at hx
     · cases hx
     · rcases List.mem_append.mp (show x ∈ fs ++ [m] from hx) with hx | hx
       · exact b x hx
       · rw [List.mem_singleton.mp hx]; exact c
   · rcases h.re with e | ⟨fs, m, e, a, n, b, c⟩ <;> rw [e] at hx
     · cases hx
     · rcases List.mem_append.mp (show x ∈ (fs.map fdD).map trd ++ [m] from hx) with hx | hx
       · obtain ⟨y, hy, rfl⟩ := List.mem_map.mp hx
         obtain ⟨f, hf, rfl⟩ := List.mem_map.mp hy
         exact (b f hf).2
       · rw [List.mem_singleton.mp hx]; exact c
theorem W5 {l : List D} : szD (.tup l) = 1 + szL l := by rw [szD]
theorem o5 {d : D} {l : List D} : szL (d :: l) = szD d + szL l := by rw [szL]
theorem N6 : szL [] = 0 := by rw [szL]
theorem dA2 : ∀ (fs : List (Str × Bool × D)), szL ((fs.map fdD).map trd) + 3 * fs.length = szL (fs.map fdD)
 | [] => rfl
 | f :: fs => by
   have ih := dA2 fs
   show szL (f.2.2 :: (fs.map fdD).map trd) + 3 * (fs.length + 1) = szL (.tup [.str f.1, .bl f.2.1, f.2.2] :: fs.map fdD)
   rw [o5, o5, W5, o5, o5, o5, N6, show szD (.str f.1) = 1 from by rw [szD], show szD (.bl f.2.1) = 1 from by rw [szD]]
   lia
theorem GS.ksz {n : Nat} {d : D} (h : GS n d) : szL (W8 d) < szD d := by
 cases n with
 | zero => exact h.elim
 | succ n =>
   rcases h with rfl | ⟨ns, w, ts, tr, li, re, rfl, h, _⟩
   · show szL [] < _
     rw [N6]; exact bT1 _
   · have h1 : szL (liK li) ≤ szD li := by
      rcases h.li with e | ⟨fs, m, e, _⟩ <;> rw [e]
      · show szL [] ≤ _
        rw [N6]; exact Nat.zero_le _
      · show szL (fs ++ [m]) ≤ _
        rw [aE4, W5, o5, o5, N6, W5, o5, N6]; lia
     have h2 : szL (reK re) ≤ szD re := by
      rcases h.re with e | ⟨fs, m, e, _⟩ <;> rw [e]
      · show szL [] ≤ _
        rw [N6]; exact Nat.zero_le _
      · show szL ((fs.map fdD).map trd ++ [m]) ≤ _
        have := dA2 fs
        rw [aE4, W5, o5, o5, N6, W5, o5, N6]; lia
     show szL (liK li ++ reK re) < szD (.tup [.tup (ns.map stD), .tup [.str w, .tup (ts.map D.str)], .tup (tr.map D.bl), li, re])
     rw [aE4, W5, o5, o5, o5, o5, o5, N6]
     lia
noncomputable def BN : Nat → Nat
 | 0 => 0
 | n + 1 => 154 + 9 * BN n
theorem bI5 {l : List D} {k : Nat} (h : ∀ x ∈ l, szD x ≤ k) : szL l ≤ l.length * k := by
 induction l with
 | nil => rw [N6]; exact Nat.zero_le _
 | cons d l ih =>
   have h1 := h d (by simp)
   have h2 := ih fun x hx => h x (by simp [hx])
   rw [o5, List.length_cons, Nat.succ_mul]; lia
theorem PtP.bd {S : D → Prop} {k : Nat} {ns : List (D × D)} {w : Str} {ts : List Str} {tr : List Bool} {li re : D} (h : PtP S ns w ts tr li re) (hk : ∀ d, S d → szD d ≤ k) : szD (mkS ns w ts tr li re) ≤ 154 + 9 * k := by
 have h1 : szL (ns.map stD) ≤ 30 := by
  have := bI5 (l := ns.map stD) (k := 3) fun x hx => by
   obtain ⟨p, hp, rfl⟩ := List.mem_map.mp hx
   have e : ∀ d, bJ7 d → szD d = 1 := fun d hd => by cases d <;> first | exact hd.elim | rw [szD]
   show szD (.tup [p.1, p.2]) ≤ 3
   rw [W5, o5, o5, N6, e _ (h.st.1 p hp).1, e _ (h.st.1 p hp).2.1]; lia
  rw [List.length_map] at this
  have := h.nl; lia
 have h2 : szL (ts.map D.str) ≤ 100 := by
  have := bI5 (l := ts.map D.str) (k := 1) fun x hx => by
   obtain ⟨p, hp, rfl⟩ := List.mem_map.mp hx
   rw [szD]; lia
  rw [List.length_map] at this
  have := h.tl; lia
 have h3 : szL (tr.map D.bl) ≤ 2 := by
  have := bI5 (l := tr.map D.bl) (k := 1) fun x hx => by
   obtain ⟨p, hp, rfl⟩ := List.mem_map.mp hx
   rw [szD]; lia
  rw [List.length_map] at this
  have h4 : tr.length ≤ 2 := by rcases h.tr with e | e | e | e <;> rw [e] <;> decide
  lia
 have h4 : szD li ≤ 2 + 4 * k := by
  rcases h.li with e | ⟨fs, m, e, a, b, c⟩ <;> rw [e]
  · rw [szD]; lia
  · have h5 := bI5 (l := fs) fun x hx => hk x (b x hx)
    have h6 := hk m c
    have h7 : fs.length * k ≤ 3 * k := Nat.mul_le_mul_right _ a
    rw [W5, o5, o5, N6, W5]; lia
 have h5 : szD re ≤ 14 + 5 * k := by
  rcases h.re with e | ⟨fs, m, e, a, n, b, c⟩ <;> rw [e]
  · rw [szD]; lia
  · have h5 := bI5 (l := (fs.map fdD).map trd) (k := k) fun x hx => by
     obtain ⟨y, hy, rfl⟩ := List.mem_map.mp hx
     obtain ⟨f, hf, rfl⟩ := List.mem_map.mp hy
     exact hk _ (b f hf).2
    rw [List.length_map, List.length_map] at h5
    have h6 := hk m c
    have h7 : fs.length * k ≤ 4 * k := Nat.mul_le_mul_right _ a
    have h8 := dA2 fs
    rw [W5, o5, o5, N6, W5]; lia
 show szD (.tup [.tup (ns.map stD), .tup [.str w, .tup (ts.map D.str)], .tup (tr.map D.bl), li, re]) ≤ _
 have h9 : szD (.tup [.str w, .tup (ts.map D.str)]) = 3 + szL (ts.map D.str) := by rw [W5, o5, o5, N6, W5, show szD (.str w) = 1 from by rw [szD]]; lia
 rw [W5, o5, o5, o5, o5, o5, N6, h9, W5, W5]
 lia
theorem GS.bd : ∀ {n : Nat} {d : D}, GS n d → szD d ≤ BN n
 | 0, _, h => h.elim
 | n + 1, d, h => by
   rcases h with rfl | ⟨ns, w, ts, tr, li, re, rfl, h, _⟩
   · rw [szD]; show 1 ≤ 154 + 9 * BN n; lia
   · exact h.bd fun d hd => GS.bd hd
theorem cU8 {G : DH} {p q : Nat} {l m : List D} {Q : DPP} (e : G[p]? = some (.lst l)) (e' : G[q]? = some (.lst m)) (h : Q (.ref G.length) (G ++ [.lst ((l.zip m).map stD)])) : Wp (bC2 [.ref p, .ref q]) G Q := by
 have ee : bC2 [.ref p, .ref q] = (do
  let l ← Q3 p >>= listOf
  let m ← Q3 q >>= listOf
  N7 (.lst ((l.zip m).map fun p => .tup [p.1, p.2]))) := rfl
 have l1 : Wp (Q3 p >>= listOf) G fun x G' => x = l ∧ G' = G := j8.mpr (Q4.mpr (by rw [e]; exact S5.mpr (j7.mpr ⟨rfl, rfl⟩)))
 have l2 : Wp (Q3 q >>= listOf) G fun x G' => x = m ∧ G' = G := j8.mpr (Q4.mpr (by rw [e']; exact S5.mpr (j7.mpr ⟨rfl, rfl⟩)))
 rw [ee]
 refine j8.mpr (l1.mono ?_)
 rintro _ _ ⟨rfl, rfl⟩
 refine j8.mpr (l2.mono ?_)
 rintro _ _ ⟨rfl, rfl⟩
 exact d8 rfl h
theorem cV8 : ∀ {a b : List D}, a.length = b.length → a ≠ b → ∃ p ∈ a.zip b, p.1 ≠ p.2
 | [], [], _, h => (h rfl).elim
 | [], _ :: _, h, _ => by cases h
 | _ :: _, [], h, _ => by cases h
 | x :: a, y :: b, h, k => by
   by_cases e : x = y
   · subst e
     obtain ⟨p, hp, q⟩ := cV8 (a := a) (b := b) (Nat.succ.inj h) fun e => k (by rw [e])
     exact ⟨p, by rw [List.zip_cons_cons]; exact List.mem_cons_of_mem _ hp, q⟩
   · exact ⟨(x, y), by rw [List.zip_cons_cons]; exact List.mem_cons_self, e⟩
def ZT : DSt → M Bool := v7 (c7 2)
theorem eC7 : aK7 = j9 (J4 (P0 (q13 (u6 (q13 (c7 0) (q13 (c7 1) (q14)))) (q14))) (q16 2)) (j9 (aN4 ZT (j9 Z1 (j9 Z2 Z3))) (t6 (cE (.bl true)))) := rfl
def Ws (n : Nat) (ws : List (D × D)) : Prop := ∀ q ∈ ws, GS (n + 1) q.1 ∧ GS (n + 1) q.2
theorem dB7 {ws : List (D × D)} (h : ws ≠ []) : ∃ (t : List (D × D)) (q : D × D), ws = t ++ [q] := ⟨ws.dropLast, ws.getLast h, (List.dropLast_concat_getLast h).symm⟩
theorem cX7 {n p : Nat} {x y : Option D} {G0 : DH} (hp : G0.length ≤ p) : ∀ (fuel : Nat) (ws : List (D × D)) (u : Option D) (G : DH), Ap G0 G → G[p]? = some (.lst (ws.map stD)) → szL (ws.map (·.1)) < fuel → szL (ws.map (·.1)) ≤ 1000000 → Ws n ws → (∃ q ∈ ws, q.1 ≠ q.2) →
 Wp (U0 fuel ZT (j9 Z1 (j9 Z2 Z3)) [x, y, some (.ref p), u]) G fun fl G' => fl = .rt (.bl false) ∧ Ap G0 G'
 | 0, ws, u, G, _, _, hf, _, _, _ => absurd hf (Nat.not_lt_zero _)
 | fuel + 1, ws, u, G, hA, e, hf, hb, hw, hx => by
   have bg := big
   have hne : ws ≠ [] := by rintro rfl; obtain ⟨q, hq, _⟩ := hx; cases hq
   obtain ⟨t, q, rfl⟩ := dB7 hne
   rw [List.map_append] at e
   refine aZ0.mpr <| aQ0.mpr <| d8 (a := .ref p) rfl <| (aZ5 e).mpr ?_
   rw [if_pos (by simp)]
   refine m7.mpr <| V6 <| bB5.mpr <| d8 (a := .ref p) rfl <| (V5 e).mpr <| u0.mpr <| (cK6 e).mpr ?_
   have e1 : (G.set p (.lst (t.map stD)))[p]? = some (.lst (t.map stD)) := List.getElem?_set_self (lt_of_get e)
   have a1 : Ap G0 (G.set p (.lst (t.map stD))) := hA.set hp
   have hq := hw q (by simp)
   have hs : szL ((t ++ [q]).map (·.1)) = szL (t.map (·.1)) + szD q.1 := by
    rw [List.map_append, aE4]
    show _ + szL [q.1] = _
    rw [o5, N6]; rfl
   rw [hs] at hf hb
   refine m7.mpr <| aM9 <| K5 <| J1 <| m6 (as := [q.1]) rfl rfl <| cH8 hq.1 fun o1 G2 a2 h1 => m6 (as := [q.2]) rfl rfl <| cH8 hq.2 fun o2 G3 a3 h2 => ?_
   obtain ⟨b, hb', kb⟩ := dR3 (h1.up a3) h2
   have a13 := (a1.trans a2).trans a3
   refine (aM0 (show neD o1 o2 G3 = some (.ok (.bl (!b)), G3) from by unfold neD; rw [hb'])).mpr ⟨!b, rfl, fun z => ?_, fun z => G9.mpr ?_⟩
   · exact d8 (a := Fl.rt (.bl false)) (G' := G3) rfl (show Fl.rt (.bl false) = .rt (.bl false) ∧ Ap G0 G3 from ⟨rfl, a13⟩)
   · have ho := kb (by cases b <;> first | rfl | cases z)
     have e3 := a3.at (a2.at e1)
     refine aQ4.mpr <| bB5.mpr <| d8 (a := .ref p) rfl <| (V5 e3).mpr <| o8 <| X5 <| o8 <| m6 (as := [q.1]) rfl rfl <| bU0 hq.1 fun p1 G4 a4 l4 e4 => o8 <| m6 (as := [q.2]) rfl rfl <| bU0 hq.2 fun p2 G5 a5 l5 e5 => u0.mpr <| cU8 (a5.at e4) e5 <| u0.mpr ?_
     have e6 : (G5 ++ [DO.lst (((W8 q.1).zip (W8 q.2)).map stD)])[p]? = some (.lst (t.map stD)) := R0 (a5.at (a4.at e3))
     have hk := hq.1.ksz
     have hz : ((W8 q.1).zip (W8 q.2)).map (·.1) = W8 q.1 := List.map_fst_zip (Nat.le_of_eq ho.1)
     have hn : szL ((t ++ (W8 q.1).zip (W8 q.2)).map (·.1)) = szL (t.map (·.1)) + szL (W8 q.1) := by rw [List.map_append, aE4, hz]
     have hlen := bE2 ((t ++ (W8 q.1).zip (W8 q.2)).map (·.1))
     rw [hn, List.length_map, List.length_append] at hlen
     refine (aU1 e6 o4 (by rw [List.length_map, List.length_map]; lia)).mpr ?_
     refine cX7 (n := n) hp fuel (t ++ (W8 q.1).zip (W8 q.2)) _ _ (((a13.trans a4).trans a5).trans Ap.one |>.set hp) ?_ (by rw [hn]; lia) (by rw [hn]; lia) (fun r hr => ?_) ?_
     · rw [List.map_append]; exact List.getElem?_set_self (lt_of_get e6)
     · rcases List.mem_append.mp hr with hr | hr
       · exact hw r (by simp [hr])
       · have hr' := List.of_mem_zip (a := r.1) (b := r.2) hr
         exact ⟨(hq.1.kids _ hr'.1).le (Nat.le_succ _), (hq.2.kids _ hr'.2).le (Nat.le_succ _)⟩
     · obtain ⟨r, hr, nr⟩ := hx
       rcases List.mem_append.mp hr with hr | hr
       · exact ⟨r, by simp [hr], nr⟩
       · rw [List.mem_singleton] at hr
         subst hr
         obtain ⟨s, hs, ns⟩ := cV8 ho.1 fun z => nr (ho.2 z)
         exact ⟨s, by simp [hs], ns⟩
theorem dM7 {n : Nat} {x y : D} {G : DH} {Q : DPP} (hn : BN (n + 1) ≤ 1000000) (hx : GS (n + 1) x) (hy : GS (n + 1) y) (ne : x ≠ y) (q : ∀ G', Ap G G' → Q (.bl false) G') : Wp (aH2 [x, y]) G Q := by
 refine J3 (show Wp (aK7 [some x, some y, none, none]) G _ from ?_)
 rw [eC7]
 have hb := hx.bd
 have hs : szL ([(x, y)].map (·.1)) = szD x := by show szL [x] = _; rw [o5, N6]; rfl
 refine K1 (σ' := [some x, some y, some (.ref G.length), none]) (G' := G ++ [.lst [stD (x, y)]]) rfl <| m7.mpr <| bX4 (n := szD x + 1) <| (cX7 (n := n) (G0 := G) (Nat.le_refl _) (szD x + 1) [(x, y)] none _ Ap.one o4 (by rw [hs]; lia) (by rw [hs]; lia) (fun q hq => by rw [List.mem_singleton.mp hq]; exact ⟨hx, hy⟩) ⟨(x, y), by simp, ne⟩).mono ?_
 rintro _ G' ⟨rfl, a⟩
 exact K9 (q G' a)
theorem dL3 {ss : List Str} (h : ss.Pairwise LtS) : ss.Nodup := h.imp fun {a b} q e => by subst e; exact List.lt_irrefl _ q
theorem PtP.sb {S T : D → Prop} (k : ∀ d, S d → T d) {ns : List (D × D)} {w : Str} {ts : List Str} {tr : List Bool} {li re : D} (h : PtP S ns w ts tr li re) : (∀ p ∈ ns, bF3 p) ∧ ns.length ≤ 100 ∧ (∀ z ∈ ts, z.length ≤ 1000) ∧ ts.length ≤ 100 ∧ tr.length ≤ 100 ∧ LiP T li ∧ ReP T re := by
 refine ⟨h.st.1, by have := h.nl; lia, fun z hz => (h.tx.1 z hz).2, h.tl, ?_, ?_, ?_⟩
 · rcases h.tr with e | e | e | e <;> rw [e] <;> decide
 · rcases h.li with e | ⟨fs, m, e, a, b, c⟩
   · exact .inl e
   · exact .inr ⟨fs, m, e, by lia, fun x hx => k _ (b x hx), k _ c⟩
 · rcases h.re with e | ⟨fs, m, e, a, n, b, c⟩
   · exact .inl e
   · exact .inr ⟨fs, m, e, by lia, dL3 n, fun f hf => ⟨(b f hf).1.1.2, k _ (b f hf).2⟩, k _ c⟩
theorem GS.sb : ∀ {n : Nat} {d : D}, GS n d → SB n d
 | 0, _, h => h.elim
 | n + 1, d, h => by
   rcases h with rfl | ⟨ns, w, ts, tr, li, re, e, h, _⟩
   · exact .inl rfl
   · have := h.sb (T := SB n) fun d hd => GS.sb hd
     exact .inr ⟨ns, w, ts, tr, li, re, e, this⟩
section
variable {n : Nat} {G : DH} {Q : DPP} {P : Fl → DH → Prop}
theorem dS8 {k : Nat} {x y : D} (hk : k ≤ 9) (hx : SB k x) (hy : SB k y) (ne : x ≠ y) (q : Q (.bl true) G) : Wp (neD x y) G Q := by
 obtain ⟨b, hb, kb⟩ := SB.eqN (G := G) hk hx hy
 have : b = false := by
  rcases b with _ | _
  · rfl
  · exact (ne (kb.mp rfl)).elim
 subst this
 exact (aM0 (show neD x y G = some (.ok (.bl true), G) from by unfold neD; rw [hb]; rfl)).mpr q
theorem dJ4 {t u : DSt → M Bool} {f g : Fs} {σ : DSt} (e : t σ G = some (.ok true, G)) (w : Wp (u σ) G fun k G2 => k = true ∧ Wp (g σ) G2 P) : Wp (ifS (aB2 t (aD1 u)) f g σ) G P :=
 aM9 <| aR3 <| d8 e ⟨fun _ => bE7.mpr (w.mono fun k G2 q => by
  obtain ⟨rfl, q⟩ := q
  exact ⟨fun z => (by cases z), fun _ => q⟩), fun z => (by cases z)⟩
theorem dT7 {f : Str × Bool × D} {m : D} (hn : n ≤ 8) (hb : BN (n + 1) ≤ 1000000) (hf : GS (n + 1) f.2.2) (hm : GS (n + 1) m) (h : (f.2.1 = true → f.2.2 ≠ noS) ∧ (f.2.1 = false → f.2.2 ≠ m)) (q : ∀ G', Ap G G' → Q (.bl true) G') : Wp (aJ2 [fdD f, m]) G Q := by
 obtain ⟨z, b, s⟩ := f
 refine J3 <| M7 ?_
 rcases b with _ | _
 · exact dK1 (G1 := G) rfl <| cX2.mpr <| m6 (as := [s, m]) rfl rfl <| dM7 hb hf hm (h.2 rfl) fun G' a => ⟨_, rfl, K9 (q G' a)⟩
 · exact dX2 (G1 := G) rfl <| aD9 (x := s) (y := noS) rfl rfl <| dS8 (k := n + 1) (by lia) hf.sb aT6 (h.1 rfl) (K9 (q G Ap.refl))
theorem dV2 {d : D} (hn : n ≤ 6) (hb : BN (n + 1) ≤ 1000000) (h : GS (n + 2) d) (q : ∀ G', Ap G G' → Q (.bl true) G') : Wp (S7 [d]) G Q := by
 have bg := big
 have hsb := h.sb
 rcases h with rfl | ⟨ns, w, ts, tr, li, re, rfl, h, h1, h2, h3⟩
 · exact aI4 (d := .bl true) rfl (q G Ap.refl)
 · refine J3 <| K1 (σ' := [some (mkS ns w ts tr li re)]) rfl ?_
   have last : ∀ G', Ap G G' → Wp (t6 (d7 neD (c7 0) (cE (.tup [.tup [.tup [.non, .non]], .tup [.str ("but" : Str), .tup []], .tup [.bl false, .bl true], .tup [.tup [], .str ("any" : Str)], .tup [.tup [], .str ("any" : Str)]]))) [some (mkS ns w ts tr li re)]) G' (PB Q) := fun G' a =>
    M7 <| aD9 (x := mkS ns w ts tr li re) (y := evS) rfl rfl <| dS8 (k := n + 2) (by lia) hsb cU7 h3 (K9 (q G' a))
   have step2 : ∀ G', Ap G G' → Wp (j9 (ifS (aB2 (v6 (d7 aF6 (d7 ixD (c7 0) (cE (.int 4))) (cE .non))) (aD1 (v7 (q15 aK1 (q13 (Q8 (itW (d7 ixD (d7 ixD (c7 0) (cE (.int 4))) (cE (.int 0)))) [none, some 0] (q16 0) (U4) (q15 (fnX 2 aJ2) (q13 (c7 0) (q13 (d7 ixD (d7 ixD (c7 1) (cE (.int 4))) (cE (.int 1))) (q14))))) (q14)))))) (t6 (cE (.bl false))) (J5)) (t6 (d7 neD (c7 0) (cE (.tup [.tup [.tup [.non, .non]], .tup [.str ("but" : Str), .tup []], .tup [.bl false, .bl true], .tup [.tup [], .str ("any" : Str)], .tup [.tup [], .str ("any" : Str)]])))) [some (mkS ns w ts tr li re)]) G' (PB Q) := by
    intro G' a
    rcases h.re with e | ⟨fs, m, e, hl, _, hf, hm⟩
    · exact K1 (σ' := [some (mkS ns w ts tr li re)]) (G' := G') (by rw [e]; rfl) (last G' a)
    · subst e
      refine m7.mpr <| dJ4 rfl <| V1 <| bB7 (fun σ => ∃ u, σ = [u, some (mkS ns w ts tr li (.tup [.tup (fs.map fdD), m]))]) (s := ⟨fs.map fdD, fun _ => true⟩) rfl (by show (fs.map fdD).length ≤ _; rw [List.length_map]; lia) (fun _ _ => rfl) ⟨_, rfl⟩ ?_ fun G2 a2 => ⟨rfl, rfl, G9.mpr (last G2 (a.trans a2))⟩
      rintro d hd _ G1 ⟨u, rfl⟩ j
      obtain ⟨f, hf', rfl⟩ := List.mem_map.mp hd
      exact ⟨⟨_, rfl⟩, m6 (as := [fdD f, m]) rfl rfl <| dT7 (by lia) hb (hf f hf').2 hm (h2 fs m rfl f hf') fun G2 a2 => ⟨rfl, a2⟩⟩
   rcases h.li with e | ⟨fs, m, e, hl, hf, hm⟩
   · exact K1 (σ' := [some (mkS ns w ts tr li re)]) (G' := G) (by rw [e]; rfl) (step2 G Ap.refl)
   · subst e
     refine m7.mpr <| dJ4 rfl <| V1 <| bB7 One (s := ⟨fs, fun _ => true⟩) rfl (by show fs.length ≤ _; lia) (fun _ _ => rfl) ⟨_, rfl⟩ ?_ fun G2 a2 => ⟨rfl, rfl, G9.mpr (step2 G2 a2)⟩
     rintro d hd _ G1 ⟨u, rfl⟩ j
     exact ⟨⟨_, rfl⟩, aD9 (x := d) (y := noS) rfl rfl <| dS8 (k := n + 1) (by lia) (hf d hd).sb aT6 (fun z => h1 fs m rfl (z ▸ hd)) ⟨rfl, Ap.refl⟩⟩
end
theorem eD3 : aW0 = j9 (J4 (P0 (q14)) (q16 1)) (j9 (J4 (P0 (q13 (c7 0) (q14))) (q16 2)) (j9 (aN4 ZT (j9 Z1 (j9 V2 (j9 V3 V4)))) (t6 (q15 aK1 (q13 (Q8 (itW (c7 1)) [none] (q16 0) (U4) (q15 (fnX 1 S7) (q13 (c7 0) (q14)))) (q14)))))) := rfl
theorem cW9 {n p r : Nat} {x : Option D} {G0 : DH} (hp : G0.length ≤ p) (hr : G0.length ≤ r) (hpr : p ≠ r) : ∀ (fuel : Nat) (ws fd : List D) (u : Option D) (G : DH), Ap G0 G → G[p]? = some (.lst ws) → G[r]? = some (.lst fd) → szL ws < fuel → szL ws + fd.length ≤ 1000000 → (∀ d ∈ ws, GS (n + 1) d) → (∀ d ∈ fd, GS (n + 1) d) →
 Wp (U0 fuel ZT (j9 Z1 (j9 V2 (j9 V3 V4))) [x, some (.ref r), some (.ref p), u]) G fun fl G' => ∃ u' fd', fl = .nx [x, some (.ref r), some (.ref p), u'] ∧ Ap G0 G' ∧ G'[r]? = some (.lst fd') ∧ (∀ d ∈ fd', GS (n + 1) d) ∧ fd'.length ≤ 1000000
 | 0, ws, fd, u, G, _, _, _, hf, _, _, _ => absurd hf (Nat.not_lt_zero _)
 | fuel + 1, ws, fd, u, G, hA, e, er, hf, hb, hw, hd => by
   have bg := big
   by_cases hne : ws = []
   · subst hne
     refine aZ0.mpr <| aQ0.mpr <| d8 (a := .ref p) rfl <| (aZ5 e).mpr ?_
     rw [if_neg (by simp)]
     exact ⟨u, fd, rfl, hA, er, hd, by lia⟩
   · obtain ⟨t, q, rfl⟩ : ∃ (t : List D) (q : D), ws = t ++ [q] := ⟨ws.dropLast, ws.getLast hne, (List.dropLast_concat_getLast hne).symm⟩
     refine aZ0.mpr <| aQ0.mpr <| d8 (a := .ref p) rfl <| (aZ5 e).mpr ?_
     rw [if_pos (by simp)]
     refine m7.mpr <| V6 <| bB5.mpr <| d8 (a := .ref p) rfl <| (V5 e).mpr <| u0.mpr <| (cK6 e).mpr ?_
     have e1 : (G.set p (.lst t))[p]? = some (.lst t) := List.getElem?_set_self (lt_of_get e)
     have er1 : (G.set p (.lst t))[r]? = some (.lst fd) := by rw [List.getElem?_set_ne hpr]; exact er
     have a1 : Ap G0 (G.set p (.lst t)) := hA.set hp
     have hq := hw q (by simp)
     have hk := hq.ksz
     have hs : szL (t ++ [q]) = szL t + szD q := by rw [aE4, o5, N6]; rfl
     rw [hs] at hf hb
     refine m7.mpr <| bN6 <| V1 <| m6 (as := [q]) rfl rfl <| hq.form fun G2 a2 => ⟨rfl, rfl, G9.mpr ?_⟩
     have e2 := a2.at e1
     have er2 := a2.at er1
     refine m7.mpr <| aQ4.mpr <| bB5.mpr <| d8 (a := .ref r) rfl <| (V5 er2).mpr <| d8 (a := [q]) (G' := G2) rfl <| (aT0 er2 (by lia)).mpr ?_
     have e3 : (G2.set r (.lst (fd ++ [q])))[p]? = some (.lst t) := by rw [List.getElem?_set_ne (Ne.symm hpr)]; exact e2
     have er3 : (G2.set r (.lst (fd ++ [q])))[r]? = some (.lst (fd ++ [q])) := List.getElem?_set_self (lt_of_get er2)
     have a3 : Ap G0 (G2.set r (.lst (fd ++ [q]))) := (a1.trans a2).set hr
     refine aQ4.mpr <| bB5.mpr <| d8 (a := .ref p) rfl <| (V5 e3).mpr <| o8 <| m6 (as := [q]) rfl rfl <| bU0 hq fun p4 G4 a4 l4 e4 => u0.mpr ?_
     have e5 := a4.at e3
     have er5 := a4.at er3
     have hl1 := bE2 t
     have hl2 := bE2 (W8 q)
     refine (aU1 e5 e4 (by lia)).mpr ?_
     refine cW9 (n := n) hp hr hpr fuel (t ++ W8 q) (fd ++ [q]) _ _ ((a3.trans a4).set hp) (List.getElem?_set_self (lt_of_get e5)) (by rw [List.getElem?_set_ne hpr]; exact er5) (by rw [aE4]; lia) (by rw [aE4, List.length_append, List.length_singleton]; have := bT1 q; lia) (fun d hd' => ?_) (fun d hd' => ?_)
     · rcases List.mem_append.mp hd' with hd' | hd'
       · exact hw d (by simp [hd'])
       · exact (hq.kids d hd').le (Nat.le_succ _)
     · rcases List.mem_append.mp hd' with hd' | hd'
       · exact hd d hd'
       · rw [List.mem_singleton.mp hd']; exact hq
theorem cY1 {n : Nat} {d : D} {G : DH} {Q : DPP} (hn : n ≤ 6) (hb : BN (n + 2) ≤ 1000000) (h : GS (n + 2) d) (q : ∀ G', Ap G G' → Q (.bl true) G') : Wp (aN1 [d]) G Q := by
 have bg := big
 refine J3 (show Wp (aW0 [some d, none, none, none]) G _ from ?_)
 rw [eD3]
 have hd := h.bd
 have hs : szL [d] = szD d := by rw [o5, N6]; rfl
 have hb1 : BN (n + 1) ≤ 1000000 := by have : BN (n + 2) = 154 + 9 * BN (n + 1) := rfl; lia
 refine K1 (σ' := [some d, some (.ref G.length), none, none]) (G' := G ++ [.lst []]) rfl <| K1 (σ' := [some d, some (.ref G.length), some (.ref (G ++ [DO.lst []]).length), none]) (G' := G ++ [.lst []] ++ [.lst [d]]) rfl ?_
 refine m7.mpr <| bX4 (n := szD d + 1) <| (cW9 (n := n + 1) (G0 := G) (p := (G ++ [DO.lst []]).length) (r := G.length) (by simp) (Nat.le_refl _) (by simp) (szD d + 1) [d] [] none _ (Ap.one.trans Ap.one) o4 (R0 o4) (by rw [hs]; lia) (by rw [hs, List.length_nil]; lia) (fun x hx => by rw [List.mem_singleton.mp hx]; exact h) (fun x hx => by cases hx)).mono ?_
 rintro _ G1 ⟨u', fd, rfl, a1, e1, h1, hl⟩
 refine M7 <| bB7 One (s := ⟨fd, ckO G.length (.lst fd)⟩) (bM9 <| wp_itW.mpr <| d8 (a := .ref G.length) rfl <| (aJ7 e1).mpr ⟨rfl, rfl⟩) (by show fd.length ≤ _; lia) (fun G' a => by show ckO G.length (.lst fd) G' = true; unfold ckO; rw [a.at e1]; simp) ⟨_, rfl⟩ ?_ fun G2 a2 => K9 (q G2 (a1.trans a2))
 rintro x hx _ G2 ⟨u, rfl⟩ j
 exact ⟨⟨_, rfl⟩, m6 (as := [x]) rfl rfl <| dV2 hn hb1 (h1 x hx) fun G3 a3 => ⟨rfl, a3⟩⟩
section
variable {a b c : Option D} {k : Nat} {li re : D} {G : DH} {P : Fl → DH → Prop}
theorem eD0 (hk : k ≤ 7) (hl : LiP (SB k) li) (q : ∀ li', LiF li li' → LiP (SB k) li' → P (.nx [a, b, c, some li', some re, none, none]) G) : Wp (FA [a, b, c, some li, some re, none, none]) G P := by
 rcases hl with rfl | ⟨fs, m, rfl, h1, h2, h3⟩
 · exact d8 rfl (q .non (.inl ⟨rfl, rfl⟩) (.inl rfl))
 · obtain ⟨b', e, hb⟩ := cD5 (G := G) (show k ≤ 8 by omega) h2
   have ei : inX noS (.tup fs) G = some (.ok (.bl b'), G) := by unfold inX bT0; simp only [e]
   refine aM9 <| aR3 <| K5 <| d8 (a := .bl true) (G' := G) rfl ⟨_, rfl, fun _ => ?_, fun z => (nomatch z)⟩
   refine K5 <| J1 <| m6 (as := []) rfl rfl <| aL0.mpr <| d8 (a := .tup fs) rfl <| d8 ei ⟨_, rfl, fun z => ?_, fun z => G9.mpr ?_⟩
   · exact d8 rfl (q .non (.inr ⟨fs, m, rfl, .inl ⟨hb.mp z, rfl⟩⟩) (.inl rfl))
   · exact q _ (.inr ⟨fs, m, rfl, .inr ⟨fun w => (by rw [hb.mpr w] at z; cases z), rfl⟩⟩) (.inr ⟨fs, m, rfl, h1, h2, h3⟩)
def NoM (re : D) : Prop := re = .non ∨ ∃ (fs : List (Str × Bool × D)) (m : D), re = .tup [.tup (fs.map fdD), m] ∧ ∃ f ∈ fs, f.2.1 = true ∧ f.2.2 = noS
theorem cL7 {p : D → Bool} : ∀ {l : List D}, (!(l.filter p).isEmpty) = l.any p
 | [] => rfl
 | x :: l => by
   rw [List.filter_cons, List.any_cons]
   rcases h : p x with _ | _
   · rw [if_neg (by simp)]; exact cL7
   · rw [if_pos rfl]; rfl
theorem eG6 (hk : k ≤ 7) (hr : ReP (SB k) re) (q1 : ∀ G', Ap G G' → NoM re → P (.nx [a, b, c, some li, some .non, none, none]) G')
 (q2 : ∀ (fs : List (Str × Bool × D)) (m : D), re = .tup [.tup (fs.map fdD), m] → (∀ f ∈ fs, f.2.1 = true → f.2.2 ≠ noS) → ∀ G', Ap G G' → P (.nx [a, b, c, some li, some re, none, none]) G') : Wp (FB [a, b, c, some li, some re, none, none]) G P := by
 rcases hr with rfl | ⟨fs, m, rfl, h1, h2, h3, h4⟩
 · exact d8 rfl (q1 G Ap.refl (.inl rfl))
 · refine aM9 <| aR3 <| K5 <| d8 (a := .bl true) (G' := G) rfl ⟨_, rfl, fun _ => ?_, fun z => (nomatch z)⟩
   have hc : M5 (q16 0) (aB2 (v7 (d7 ixD (c7 0) (cE (.int 1)))) (v6 (d7 eqD (d7 ixD (c7 0) (cE (.int 2))) (q15 (fnX 0 o7) (q14))))) (c7 0) (fun _ => true) (fs.map fdD) (X3 [none] [a, b, c, some li, some (.tup [.tup (fs.map fdD), m]), none, none]) G = some (.ok ((fs.map fdD).filter (noB G)), G) := by
    refine aC7 rfl One _ _ ⟨_, rfl⟩ fun d hd σ hσ => ?_
    obtain ⟨f, hf, rfl⟩ := List.mem_map.mp hd
    obtain ⟨u, rfl⟩ := hσ
    refine ⟨[some (fdD f)], rfl, ⟨_, rfl⟩, bM9 ?_, rfl⟩
    obtain ⟨q, e, _⟩ := SB.eqN (G := G) (k := k + 1) (by omega) (SB.le (by omega) (h3 f hf).2) (aT6 (n := k))
    refine aR3 <| d8 (a := f.2.1) (G' := G) rfl ⟨fun g => K5 <| J1 <| d8 (a := f.2.2) rfl <| m6 (as := []) rfl rfl <| aL0.mpr <| bL4.mpr ⟨q, e, _, rfl, ?_, rfl⟩, fun g => ⟨?_, rfl⟩⟩
    · show q = (f.2.1 && (eqN 40 G f.2.2 noS).getD false); rw [g, e]; rfl
    · show false = (f.2.1 && (eqN 40 G f.2.2 noS).getD false); rw [g]; rfl
   have hb : (fs.map fdD).any (noB G) = true ↔ ∃ f ∈ fs, f.2.1 = true ∧ f.2.2 = noS := by
    rw [List.any_map, List.any_eq_true]
    refine exists_congr fun f => and_congr_right fun hf => ?_
    obtain ⟨q, e, hq⟩ := SB.eqN (G := G) (k := k + 1) (by omega) (SB.le (by omega) (h3 f hf).2) (aT6 (n := k))
    show (f.2.1 && (eqN 40 G f.2.2 noS).getD false) = true ↔ _
    rw [e, Bool.and_eq_true]
    exact and_congr_right fun _ => hq
   refine K5 <| J1 <| aC9 (l := fs.map fdD) rfl (by rw [List.length_map]; omega) <| d8 hc <| aL9.mpr <| u0.mpr ⟨sz, (cH4 (R0 o4) o4).mpr ?_⟩
   rw [cL7]
   refine ⟨_, rfl, fun g => ?_, fun g => G9.mpr ?_⟩
   · exact d8 rfl (q1 _ (Ap.one.trans Ap.one) (.inr ⟨fs, m, rfl, hb.mp g⟩))
   · exact q2 fs m rfl (fun f hf x y => by rw [hb.mpr ⟨f, hf, x, y⟩] at g; cases g) _ (Ap.one.trans Ap.one)
theorem eB6 (hk : k ≤ 7) (hr : ReP (SB k) re) {fs : List (Str × Bool × D)} {m : D} (er : re = .tup [.tup (fs.map fdD), m]) (hn : ∀ f ∈ fs, f.2.1 = true → f.2.2 ≠ noS) (q : ∀ re' G', Ap G G' → ReF re re' → ReP (SB k) re' → P (.nx [a, b, c, some li, some re', none, none]) G') : Wp (FC [a, b, c, some li, some re, none, none]) G P := by
 rcases hr with e | ⟨fs', m', e', h1, h2, h3, h4⟩
 · rw [e] at er; cases er
 · have e0 := e'.symm.trans er
   simp only [D.tup.injEq, List.cons.injEq, and_true] at e0
   have e1 := aQ7 (fun a b => bI2) e0.1
   have e2 := e0.2
   subst e1 e2 er
   refine dP6 (G1 := G) rfl ?_
   have hc : M5 (q16 0) (orT (v7 (d7 ixD (c7 0) (cE (.int 1)))) (v6 (d7 neD (d7 ixD (c7 0) (cE (.int 2))) (d7 ixD (c7 1) (cE (.int 1)))))) (c7 0) (fun _ => true) (fs'.map fdD) (X3 [none, some 4] [a, b, c, some li, some (.tup [.tup (fs'.map fdD), m']), none, none]) G = some (.ok ((fs'.map fdD).filter fun d => match d with | .tup [_, .bl t, s] => t || !(eqN 40 G s m').getD false | _ => false), G) := by
    refine aC7 rfl (fun σ => ∃ u, σ = [u, some (.tup [.tup (fs'.map fdD), m'])]) _ _ ⟨none, rfl⟩ fun d hd σ hσ => ?_
    obtain ⟨f, hf, rfl⟩ := List.mem_map.mp hd
    obtain ⟨u, rfl⟩ := hσ
    refine ⟨[some (fdD f), some (.tup [.tup (fs'.map fdD), m'])], rfl, ⟨_, rfl⟩, bM9 ?_, rfl⟩
    obtain ⟨q, e, _⟩ := SB.eqN (G := G) (by omega) (h3 f hf).2 h4
    refine cR2 <| d8 (a := f.2.1) (G' := G) rfl ⟨fun g => ⟨?_, rfl⟩, fun g => K5 <| aD9 (x := f.2.2) (y := m') rfl rfl <| dA5.mpr ⟨q, e, _, rfl, ?_, rfl⟩⟩
    · show true = (f.2.1 || !(eqN 40 G f.2.2 m').getD false); rw [g]; rfl
    · show (!q) = (f.2.1 || !(eqN 40 G f.2.2 m').getD false); rw [g, e]; rfl
   have ef : ((fs'.map fdD).filter fun d => match d with | .tup [_, .bl t, s] => t || !(eqN 40 G s m').getD false | _ => false) = (fs'.filter (stB G m')).map fdD := by rw [List.filter_map]; rfl
   rw [ef] at hc
   have hs : (fs'.filter (stB G m')).Sublist fs' := List.filter_sublist
   refine V6 <| aG3.mpr <| o8 <| X5 <| o8 <| aC9 (l := fs'.map fdD) rfl (by rw [List.length_map]; omega) <| d8 hc <| u0.mpr <| (aF0 o4).mpr <| d8 (a := [m']) rfl ⟨sz, q _ _ Ap.one (.inr ⟨fs', m', rfl, .inr ⟨hn, stB G m', fun f hf => ?_, rfl⟩⟩) (.inr ⟨_, m', rfl, by have := hs.length_le; omega, (hs.map _).nodup h2, fun f hf => h3 f (hs.subset hf), h4⟩)⟩
   obtain ⟨q, e, hq⟩ := SB.eqN (G := G) (by omega) (h3 f hf).2 h4
   unfold stB dM9
   rw [e, ← hq]
   cases f.2.1 <;> cases q <;> simp
end
theorem cB7 {k : Nat} {ns : List (D × D)} {w : Str} {ts : List Str} {tr : List Bool} {li re : D} {G : DH} (hk : k ≤ 7) (h1 : ∀ p ∈ ns, bF3 p) (h2 : ns.length ≤ 100) (h3 : ∀ z ∈ ts, z.length ≤ 1000) (h4 : ts.length ≤ 100) (h5 : tr.length ≤ 100) (h6 : LiP (SB k) li) (h7 : ReP (SB k) re) :
 Wp (K7 [.tup (ns.map stD), .tup [.str w, .tup (ts.map D.str)], .tup (tr.map D.bl), li, re]) G fun x G' => Ap G G' ∧ aH7 (mkS ns w ts tr li re) x ∧ SB (k + 1) x := by
 refine J3 (show Wp (j9 FA (j9 FB (j9 FC (j9 FE (j9 FF' FG')))) [some (D.tup (ns.map stD)), some (.tup [.str w, .tup (ts.map D.str)]), some (.tup (tr.map D.bl)), some li, some re, none, none]) G _ from ?_)
 refine m7.mpr <| eD0 hk h6 fun li' f1 f2 => ?_
 have fin : ∀ re' G', Ap G G' → ReF re re' → ReP (SB k) re' → Wp (j9 FE (j9 FF' FG') [some (D.tup (ns.map stD)), some (.tup [.str w, .tup (ts.map D.str)]), some (.tup (tr.map D.bl)), some li', some re', none, none]) G' (PB fun x G' => Ap G G' ∧ aH7 (mkS ns w ts tr li re) x ∧ SB (k + 1) x) := by
  intro re' G' j f3 f4
  have hs : SB (k + 1) (mkS ns w ts tr li' re') := .inr ⟨ns, w, ts, tr, li', re', rfl, h1, h2, h3, h4, h5, f2, f4⟩
  obtain ⟨b, e, hb⟩ := SB.eqN (G := G') (k := k + 2) (by omega) (SB.le (by omega) hs) (cU7 (n := k))
  refine K1 rfl <| K1 rfl <| M7 <| bJ4.mpr <| K5 <| aD9 (x := mkS ns w ts tr li' re') (y := evS) rfl rfl <| bL4.mpr ⟨b, e, _, rfl, ?_⟩
  rcases b with _ | _
  · exact d8 (a := mkS ns w ts tr li' re') rfl (K9 ⟨j, ⟨_, _, _, _, _, _, _, _, rfl, f1, f3, .inr ⟨fun z => (nomatch hb.mpr z), rfl⟩⟩, hs⟩)
  · exact d8 (a := .str T6) rfl (K9 ⟨j, ⟨_, _, _, _, _, _, _, _, rfl, f1, f3, .inl ⟨hb.mp rfl, rfl⟩⟩, .inl rfl⟩)
 refine m7.mpr <| eG6 hk h7 (fun G1 j1 hn => ?_) fun fs m e hn G1 j1 => m7.mpr <| eB6 hk h7 e hn fun re' G2 j2 f3 f4 => fin re' G2 (j1.trans j2) f3 f4
 refine K1 rfl <| fin .non G1 j1 ?_ (.inl rfl)
 rcases hn with e | ⟨fs, m, e, h⟩
 · exact .inl ⟨e, rfl⟩
 · exact .inr ⟨fs, m, e, .inl ⟨h, rfl⟩⟩
theorem aX5 {a a' : List D} {m m' : D} (h : D.tup [.tup a, m] = .tup [.tup a', m']) : a = a' ∧ m = m' := by
 simp only [D.tup.injEq, List.cons.injEq, and_true] at h
 exact h
theorem LiF.uniq {a b c : D} (h : LiF a b) (k : LiF a c) : b = c := by
 rcases h with ⟨rfl, rfl⟩ | ⟨fs, m, rfl, h⟩
 · rcases k with ⟨_, rfl⟩ | ⟨_, _, e, _⟩
   · rfl
   · cases e
 · rcases k with ⟨e, _⟩ | ⟨fs', m', e, k⟩
   · cases e
   · obtain ⟨rfl, rfl⟩ := aX5 e
     rcases h with ⟨x, rfl⟩ | ⟨x, rfl⟩ <;> rcases k with ⟨y, rfl⟩ | ⟨y, rfl⟩
     · rfl
     · exact (y x).elim
     · exact (x y).elim
     · rfl
theorem ReF.uniq {a b c : D} (h : ReF a b) (k : ReF a c) : b = c := by
 rcases h with ⟨rfl, rfl⟩ | ⟨fs, m, rfl, h⟩
 · rcases k with ⟨_, rfl⟩ | ⟨_, _, e, _⟩
   · rfl
   · cases e
 · rcases k with ⟨e, _⟩ | ⟨fs', m', e, k⟩
   · cases e
   · obtain ⟨e1, rfl⟩ := aX5 e
     have e1 := aQ7 (fun a b => bI2) e1
     subst e1
     rcases h with ⟨⟨f, hf, x, y⟩, rfl⟩ | ⟨x, p, hp, rfl⟩ <;> rcases k with ⟨⟨g, hg, x', y'⟩, rfl⟩ | ⟨x', p', hp', rfl⟩
     · rfl
     · exact (x' f hf x y).elim
     · exact (x g hg x' y').elim
     · have : fs.filter p = fs.filter p' := List.filter_congr fun f hf => by
        have h1 := hp f hf
        have h2 := hp' f hf
        cases e1 : p f <;> cases e2 : p' f <;> first
         | rfl
         | (rw [e1] at h1; rw [e2] at h2; exact absurd (h2.mpr (h1.mp rfl)) (by simp))
         | (rw [e1] at h1; rw [e2] at h2; exact absurd (h1.mpr (h2.mp rfl)) (by simp))
       rw [this]
section
variable {n : Nat} {ns : List (D × D)} {w : Str} {ts : List Str} {tr : List Bool} {li re x y : D}
theorem aH7.shape (h : aH7 (mkS ns w ts tr li re) x) : ∃ li' re', LiF li li' ∧ ReF re re' ∧ ((mkS ns w ts tr li' re' = evS ∧ x = .str T6) ∨ (mkS ns w ts tr li' re' ≠ evS ∧ x = mkS ns w ts tr li' re')) := by
 obtain ⟨ns2, w2, ts2, tr2, li2, re2, li', re', e, f1, f2, g⟩ := h
 obtain ⟨e1, e2, e3, e4, rfl, rfl⟩ := cH1 e
 have e5 : mkS ns2 w2 ts2 tr2 li' re' = mkS ns w ts tr li' re' := by unfold mkS; rw [← e1, ← e2, ← e3, ← e4]
 rw [e5] at g
 exact ⟨li', re', f1, f2, g⟩
theorem aH7.uniq (h : aH7 (mkS ns w ts tr li re) x) (k : aH7 (mkS ns w ts tr li re) y) : x = y := by
 obtain ⟨li1, re1, f1, f2, g1⟩ := h.shape
 obtain ⟨li2, re2, f3, f4, g2⟩ := k.shape
 have a1 := f1.uniq f3
 have a2 := f2.uniq f4
 subst a1 a2
 rcases g1 with ⟨z, rfl⟩ | ⟨z, rfl⟩ <;> rcases g2 with ⟨z', rfl⟩ | ⟨z', rfl⟩
 · rfl
 · exact (z' z).elim
 · exact (z z').elim
 · rfl
theorem aH7.gs (h : aH7 (mkS ns w ts tr li re) x) (p : PtP (GS n) ns w ts tr li re) : GS (n + 1) x := by
 obtain ⟨li', re', f1, f2, g⟩ := h.shape
 rcases g with ⟨_, rfl⟩ | ⟨hne, rfl⟩
 · exact .inl rfl
 · have hl : LiG (GS n) li' ∧ NoN li' := by
    rcases f1 with ⟨_, rfl⟩ | ⟨fs, m, rfl, ⟨_, rfl⟩ | ⟨hn, rfl⟩⟩
    · exact ⟨.inl rfl, fun fs m e => by cases e⟩
    · exact ⟨.inl rfl, fun fs m e => by cases e⟩
    · refine ⟨p.li, fun fs' m' e => ?_⟩
      rw [← (aX5 e).1]; exact hn
   have hr : ReG (GS n) re' ∧ Due re' := by
    rcases f2 with ⟨_, rfl⟩ | ⟨fs, m, rfl, ⟨_, rfl⟩ | ⟨hn, q, hq, rfl⟩⟩
    · exact ⟨.inl rfl, fun fs m e => by cases e⟩
    · exact ⟨.inl rfl, fun fs m e => by cases e⟩
    · rcases p.re with e | ⟨fs2, m2, e, a1, a2, a3, a4⟩
      · cases e
      · obtain ⟨e1, rfl⟩ := aX5 e
        have e1 := aQ7 (fun a b => bI2) e1
        subst e1
        have hs : (fs.filter q).Sublist fs := List.filter_sublist
        refine ⟨.inr ⟨fs.filter q, m, rfl, Nat.le_trans hs.length_le a1, List.Pairwise.sublist (hs.map _) a2, fun f hf => a3 f (hs.subset hf), a4⟩, fun fs' m' e f hf => ?_⟩
        obtain ⟨e1, rfl⟩ := aX5 e
        have e1 := aQ7 (fun a b => bI2) e1
        rw [← e1] at hf
        have hf' := List.mem_filter.mp hf
        refine ⟨hn f hf'.1, fun z1 z2 => ?_⟩
        have := (hq f hf'.1).mpr ⟨z1, z2⟩
        rw [this] at hf'
        exact absurd hf'.2 (by simp)
   exact .inr ⟨ns, w, ts, tr, li', re', rfl, ⟨p.st, p.nl, p.wd, p.tx, p.tl, p.tr, hl.1, hr.1⟩, hl.2, hr.2, hne⟩
end
section
variable {G : DH} {Q : DPP} {k : Nat} {x : D}
theorem cS7 (hk : k ≤ 9) (hx : SB k x) : eqN 40 G x x = some true := by
 obtain ⟨b, hb, kb⟩ := SB.eqN (G := G) hk hx hx
 rw [hb, kb.mpr rfl]
theorem cL4 (hk : k ≤ 9) (hx : SB k x) (q : Q (.bl false) G) : Wp (neD x x) G Q := (aM0 (show neD x x G = some (.ok (.bl false), G) from by unfold neD; rw [cS7 hk hx]; rfl)).mpr q
theorem dF9 (hk : k ≤ 9) (hx : SB k x) (q : Q (.bl true) G) : Wp (eqD x x) G Q := bL4.mpr ⟨true, cS7 hk hx, q⟩
end
theorem eD4 {n : Nat} {s0 s1 s2 s3 s4 s5 : Option D} {p x : D} {G : DH} {P : Fl → DH → Prop} (hn : n ≤ 4) (h : aH7 p x) (hx : GS (n + 2) x) (q : ∀ G', Ap G G' → P (.nx [s0, s1, s2, s3, s4, s5, some x]) G') : Wp (T3 [s0, s1, s2, s3, s4, s5, some x]) G P := by
 have hsb := hx.sb
 rcases hx with rfl | ⟨ns, w, ts, tr, li, re, rfl, hp, _⟩
 · exact d8 rfl (q G Ap.refl)
 · obtain ⟨h1, h2, h3, h4, h5, h6, h7⟩ := hp.sb (T := SB (n + 1)) fun d hd => hd.sb
   refine aM9 <| aR3 <| d8 (a := true) (G' := G) rfl ⟨fun _ => ?_, fun z => (nomatch z)⟩
   refine K5 <| J1 <| m6 (as := [.tup (ns.map stD), .tup [.str w, .tup (ts.map D.str)], .tup (tr.map D.bl), li, re]) rfl rfl <| (bU2 (by lia) h1 h2 h3 h4 h5 h6 h7).mono ?_
   rintro y G1 ⟨j1, m1, _⟩
   have := h.again (fun z => by cases z) m1
   subst this
   exact d8 rfl <| cL4 (k := n + 2) (by lia) hsb ⟨_, rfl, fun z => (nomatch z), fun _ => G9.mpr (q G1 j1)⟩
theorem dL1 {n : Nat} {ns : List (D × D)} {w : Str} {ts : List Str} {tr : List Bool} {li re : D} {G : DH} (hn : n ≤ 4) (hb : BN (n + 2) ≤ 1000000) (hp : PtP (GS (n + 1)) ns w ts tr li re) :
 Wp (M3 [mkS ns w ts tr li re]) G fun x G' => x = .bl true ∧ Ap G G' := by
 obtain ⟨h1, h2, h3, h4, h5, h6, h7⟩ := hp.sb (T := SB (n + 1)) fun d hd => hd.sb
 refine J3 <| K1 (σ' := [some (mkS ns w ts tr li re), some (.tup (ns.map stD)), some (.tup [.str w, .tup (ts.map D.str)]), some (.tup (tr.map D.bl)), some li, some re, none]) rfl ?_
 refine m7.mpr <| V6 <| m6 (as := [.tup (ns.map stD), .tup [.str w, .tup (ts.map D.str)], .tup (tr.map D.bl), li, re]) rfl rfl <| (bU2 (by lia) h1 h2 h3 h4 h5 h6 h7).mono ?_
 rintro x G1 ⟨j1, m1, s1⟩
 have hx := m1.gs hp
 refine m7.mpr <| aM9 <| cR2 <| K5 <| J1 <| d8 (a := x) rfl <| m6 (as := [.tup (ns.map stD), .tup [.str w, .tup (ts.map D.str)], .tup (tr.map D.bl), li, re]) rfl rfl <| (cB7 (by lia) h1 h2 h3 h4 h5 h6 h7).mono ?_
 rintro y G2 ⟨j2, m2, _⟩
 have := m1.uniq m2
 subst this
 refine cL4 (k := n + 2) (by lia) s1 ⟨_, rfl, fun z => (nomatch z), fun _ => K5 <| J1 <| m6 (as := [x]) rfl rfl <| cY1 (by lia) hb hx fun G3 j3 => d8 (a := .bl true) rfl <| dG1.mpr ⟨_, rfl, fun z => (nomatch z), fun _ => G9.mpr ?_⟩⟩
 refine m7.mpr <| eD4 hn m1 hx fun G4 j4 => ?_
 refine M7 <| J1 <| m6 (as := [.tup (ns.map stD), .tup [.str w, .tup (ts.map D.str)], .tup (tr.map D.bl), li, re]) rfl rfl <| (bU2 (by lia) h1 h2 h3 h4 h5 h6 h7).mono ?_
 rintro y G5 ⟨j5, m5, _⟩
 have := m1.uniq m5
 subst this
 exact d8 rfl <| dF9 (k := n + 2) (by lia) s1 (K9 ⟨rfl, (((j1.trans j2).trans j3).trans j4).trans j5⟩)
theorem bT3 : StP [] := ⟨fun p hp => (by cases hp), .nil⟩
theorem aP6 : StP [(.non, .non)] := ⟨fun p hp => (by rw [List.mem_singleton] at hp; subst hp; exact ⟨trivial, trivial, fun a b ea => by cases ea⟩), List.pairwise_singleton _ _⟩
theorem bE3 : bQ4 [] := ⟨fun z hz => (by cases hz), .nil⟩
theorem cL8 {n : Nat} : GS (n + 1) noS := .inr ⟨[], wOf, [], [], .non, .non, rfl, ⟨bT3, Nat.zero_le _, .inl rfl, bE3, Nat.zero_le _, .inl rfl, .inl rfl, .inl rfl⟩, (fun fs m e => by cases e), (fun fs m e => by cases e), fun e => by cases e⟩
theorem eE4 {R : List D → M D} : S6 R = j9 (J4 (cE .non) (q16 2)) (j9 (J4 (cE .non) (q16 3)) (j9 (PL R) (j9 (PR R) (t6 (u6 (q13 (c7 2) (q13 (c7 3) (q14)))))))) := rfl
section
variable {R : List D → M D} {r k : Nat} {deep : Int} {G : DH}
def bZ5 (R : List D → M D) (r k : Nat) (deep : Int) : Prop := ∀ G, M9 G r → Wp (R7 R [.ref r, .int (deep - 1)]) G fun x G' => GS k x ∧ Fr r G G'
def PLP (r k : Nat) (deep : Int) (c e f : Option D) (G : DH) (fl : Fl) (G' : DH) : Prop := Fr r G G' ∧ ∃ li, fl = .nx [some (.ref r), some (.int deep), some li, c, e, f] ∧ LiG (GS k) li
theorem dZ8 {c e f : Option D} (h : M9 G r) (hS : 1 < deep → bZ5 R r k deep) : Wp (PL R [some (.ref r), some (.int deep), some .non, c, e, f]) G (PLP r k deep c e f G) := by
 have non : ∀ G1, Fr r G G1 → PLP r k deep c e f G (.nx [some (.ref r), some (.int deep), some .non, c, e, f]) G1 := fun G1 f1 => ⟨f1, _, rfl, .inl rfl⟩
 refine aM9 <| aR3 <| K5 <| aD9 (x := .int deep) (y := .int 1) rfl rfl <| bT5.mpr ⟨_, rfl, fun g1 => ?_, fun _ => ⟨fun z => (nomatch z), fun _ => G9.mpr (non _ (Fr.refl h))⟩⟩
 have g1 : 1 < deep := of_decide_eq_true g1
 obtain ⟨x0, x1, x2, x3, hr, hb1, hb2⟩ := id h
 refine aR3 <| K5 <| J1 <| ixv (G1 := G) rfl rfl hr rfl <| d8 (a := .int 25) rfl <| bQ8.mpr ⟨_, rfl, fun _ => ?_, fun _ => ⟨fun z => (nomatch z), fun _ => G9.mpr (non _ (Fr.refl h))⟩⟩
 refine K5 <| J1 <| m6 (as := [.ref r, .int 2]) rfl rfl <| U7 h ⟨by decide, by decide⟩ fun j hj0 hj1 G1 f1 => d8 (a := .int 1) rfl <| aI7.mpr ⟨_, rfl, fun _ => ?_, fun _ => G9.mpr (non _ f1)⟩
 refine V6 <| aG3.mpr <| o8 <| X5 <| o8 <| wp_comp.mpr <| cG5.mpr <| o8 <| m6 (as := [.ref r, .int 4]) rfl rfl <| U7 f1.2.2 ⟨by decide, by decide⟩ fun m hm0 hm1 G2 f2 => u0.mpr <| (aG1 ⟨by lia, by lia⟩).mpr ⟨?_, ?_⟩
 · exact Nat.le_trans (by show (K8 0 m.toNat).length ≤ 4; unfold K8; rw [List.length_map, List.length_range]; lia) (show 4 ≤ sizeLine by decide)
 refine (bO4 (Fr r G) (fun σ => ∃ w, σ = [w, some (.int deep), some (.ref r)]) (fun y => GS k y) (fun _ _ => rfl) (K8 0 m.toNat) _ G2 ⟨none, rfl⟩ (f1.trans f2) fun x hx σ G3 hσ f3 => ?_).mono fun ys G3 z => ?_
 · obtain ⟨w, rfl⟩ := hσ
   exact aQ5 ⟨_, rfl⟩ <| m6 (as := [.ref r, .int (deep - 1)]) rfl rfl <| (hS g1 G3 f3.2.2).mono fun y G4 z => ⟨f3.trans z.2, z.1⟩
 · have f3' := z.1.trans (Fr.app (t := [DO.lst ys]) z.1.2.2)
   refine u0.mpr <| (aF0 o4).mpr <| o8 <| m6 (as := [.ref r, .int (deep - 1)]) rfl rfl <| (hS g1 _ f3'.2.2).mono fun y G4 z' => u0.mpr ⟨sz, f3'.trans z'.2, _, rfl, .inr ⟨ys, y, rfl, ?_, z.2.2, z'.1⟩⟩
   rw [z.2.1]; unfold K8; rw [List.length_map, List.length_range]; lia
def FdP (k : Nat) (ss : List Str) (fs : List (Str × Bool × D)) : Prop := fs.map (·.1) = ss ∧ ∀ f ∈ fs, NM f.1 ∧ GS k f.2.2
theorem dU2 {p : Nat} {z : Str} {a b : Option D} {ss : List Str} {fs : List (Str × Bool × D)} (hp : p ≠ r) (h : M9 G r) (hS : bZ5 R r k deep) (e : G[p]? = some (.lst (fs.map fdD))) (hf : FdP k ss fs) (hz : NM z) (hl : fs.length ≤ 50) :
 Wp (PD R [some (.ref r), some (.int deep), a, b, some (.ref p), some (.str z)]) G fun fl G' => Fr2 r p G G' ∧ ∃ fs', fl = .nx [some (.ref r), some (.int deep), a, b, some (.ref p), some (.str z)] ∧ G'[p]? = some (.lst (fs'.map fdD)) ∧ FdP k (ss ++ [z]) fs' ∧ fs'.length = fs.length + 1 := by
 have bg := big
 refine aQ4.mpr <| bB5.mpr <| d8 (a := .ref p) rfl <| (V5 e).mpr <| o8 <| aG3.mpr <| M4 (x := .str z) rfl <| o8 <| J1 <| m6 (as := [.ref r, .int 2]) rfl rfl <| U7 h ⟨by decide, by decide⟩ fun j hj0 hj1 G1 f1 => d8 (a := .int 1) rfl <| aI7.mpr <| o8 <| m6 (as := [.ref r, .int (deep - 1)]) rfl rfl <| (hS G1 f1.2.2).mono ?_
 rintro y G2 ⟨q1, f2⟩
 have f12 := f1.trans f2
 have e2 := f12.at hp e
 refine u0.mpr ⟨sz, u0.mpr <| (aT0 e2 (by rw [List.length_map]; lia)).mpr ⟨f12.two.trans (Fr2.set hp f2.2.2), fs ++ [(z, decide (j = 1), y)], rfl, ?_, ⟨by rw [List.map_append, hf.1]; rfl, fun x hx => ?_⟩, by simp⟩⟩
 · rw [List.getElem?_set_self (lt_of_get e2), List.map_append]; rfl
 · rcases List.mem_append.mp hx with hx | hx
   · exact hf.2 x hx
   · rw [List.mem_singleton] at hx
     subst hx
     exact ⟨hz, q1⟩
theorem cH7 {p q : Nat} {a b : Option D} {ds : List D} (hp : p ≠ r) (hq : q ≠ r ∧ q ≠ p) (hS : bZ5 R r k deep) : ∀ (zs ss : List Str) (u : Option D) (fs : List (Str × Bool × D)) (G : DH), M9 G r → G[q]? = some (.lst ds) → G[p]? = some (.lst (fs.map fdD)) → FdP k ss fs → (∀ z ∈ zs, NM z) → fs.length + zs.length ≤ 50 →
 Wp (aD5 (q16 5) (PD R) (ckO q (.lst ds)) (zs.map D.str) [some (.ref r), some (.int deep), a, b, some (.ref p), u]) G fun fl G' => Fr2 r p G G' ∧ ∃ u' fs', fl = .nx [some (.ref r), some (.int deep), a, b, some (.ref p), u'] ∧ G'[p]? = some (.lst (fs'.map fdD)) ∧ FdP k (ss ++ zs) fs' ∧ fs'.length = fs.length + zs.length
 | [], ss, u, fs, G, h, eq, e, hf, hz, hl => by
   rw [List.map_nil, aE3]
   exact ⟨by simp [ckO, eq], (Fr.refl h).two, u, fs, rfl, e, by rw [List.append_nil]; exact hf, by simp⟩
 | z :: t, ss, u, fs, G, h, eq, e, hf, hz, hl => by
   simp only [List.length_cons] at hl
   rw [List.map_cons, aE7, aH8]
   refine ⟨by simp [ckO, eq], ?_⟩
   simp only [List.set_cons_succ, List.set_cons_zero]
   refine Wp.mono (dU2 hp h hS e hf (hz z (by simp)) (by lia)) fun fl G1 ⟨f1, fs1, q1, q2, q3, q4⟩ => ?_
   subst q1
   refine Wp.mono (cH7 hp hq hS t (ss ++ [z]) _ fs1 G1 f1.2.2 (by rw [f1.2.1 q hq.1 hq.2 (lt_of_get eq)]; exact eq) q2 q3 (fun x hx => hz x (by simp [hx])) (by lia)) fun fl G2 ⟨f2, u', fs', p1, p2, p3, p4⟩ => ⟨f1.trans f2, u', fs', p1, p2, by simpa using p3, by simp only [List.length_cons]; lia⟩
end
section
variable {R : List D → M D} {r k : Nat} {deep : Int} {G : DH}
def PRP (r k : Nat) (deep : Int) (a : Option D) (G : DH) (fl : Fl) (G' : DH) : Prop := Fr r G G' ∧ ∃ re u v, fl = .nx [some (.ref r), some (.int deep), a, some re, u, v] ∧ ReG (GS k) re
theorem dY5 {a : Option D} (h : M9 G r) (hS : 1 < deep → bZ5 R r k deep) : Wp (PR R [some (.ref r), some (.int deep), a, some .non, none, none]) G (PRP r k deep a G) := by
 have bg := big
 refine bI4 (A := PRP r k deep a G) (bQ6.mpr (K5 (aD9 (x := .int deep) (y := .int 1) rfl rfl (bT5.mpr ⟨_, rfl, ?_⟩)))) fun _ _ z => z
 have non : ∀ G1, Fr r G G1 → PRP r k deep a G (.nx [some (.ref r), some (.int deep), a, some .non, none, none]) G1 := fun G1 f1 => ⟨f1, _, _, _, rfl, .inl rfl⟩
 by_cases g1 : deep > 1
 · rw [decide_eq_true g1, if_pos rfl]
   obtain ⟨x0, x1, x2, x3, hr, hb1, hb2⟩ := id h
   refine bQ6.mpr (K5 (J1 (ixv (G1 := G) rfl rfl hr rfl (d8 (a := .int 25) rfl (bQ8.mpr ⟨_, rfl, ?_⟩)))))
   by_cases g2 : x3 < 25
   · rw [decide_eq_true g2, if_pos rfl]
     refine K5 (J1 (m6 (as := [.ref r, .int 2]) rfl rfl (U7 h ⟨by decide, by decide⟩ fun j hj0 hj1 G1 f1 => d8 (a := .int 1) rfl (aI7.mpr ⟨_, rfl, fun _ => ?_, fun _ => G9.mpr (non _ f1)⟩))))
     have hp : G1.length ≠ r := by have := f1.2.2.lt; lia
     have f2 : Fr r G1 (G1 ++ [.lst []]) := Fr.app f1.2.2
     refine K1 (σ' := [some (.ref r), some (.int deep), a, some .non, some (.ref G1.length), none]) (G' := G1 ++ [.lst []]) rfl ?_
     refine m7.mpr (aD8.mpr (wp_itW.mpr (aZ2.mpr (m6 (as := [.ref r]) rfl rfl ((cY4 f2.2.2).mono ?_)))))
     rintro x G3 ⟨q, ss, rfl, hq, eq, hl8, hz, hpw, f3⟩
     rw [bN8, cI0]
     refine d8 (a := .int 4) (G' := G3) rfl (eC5.mpr ?_)
     rw [cJ3 eq, aJ7 o4]
     have et : DL.cutD (ss.map D.str) none (some 4) = (ss.take 4).map D.str := by
      have := cC0 (ss.map D.str) 4
      rw [← List.map_take] at this
      exact this
     rw [et]
     have e3 : G3[G1.length]? = some (.lst (([] : List (Str × Bool × D)).map fdD)) := f3.at hp o4
     have h3 := lt_of_get e3
     have h3r := f3.2.2.lt
     have f4 : Fr r G3 (G3 ++ [.lst ((ss.take 4).map D.str)]) := Fr.app f3.2.2
     refine (cH7 (k := k) hp (q := G3.length) ⟨by lia, by lia⟩ (hS g1) (ss.take 4) [] none [] _ f4.2.2 o4 (R0 e3) ⟨rfl, fun f hf => by cases hf⟩ (fun z hz' => hz.1 z (List.mem_of_mem_take hz')) (by simp; lia)).mono ?_
     rintro _ G5 ⟨f5, u', fs', rfl, p2, p3, p4⟩
     have fb := (f4.two.trans f5).back (f2.trans f3) (Nat.le_refl _)
     refine V6 (aG3.mpr (o8 (bC8 (as := [.ref G1.length]) rfl ((aF0 p2).mpr (o8 (m6 (as := [.ref r, .int (deep - 1)]) rfl rfl ((hS g1 G5 f5.2.2).mono fun y G6 z => u0.mpr ⟨sz, (f1.trans fb).trans z.2, _, _, _, rfl, .inr ⟨fs', y, rfl, ?_, ?_, p3.2, z.1⟩⟩)))))))
     · rw [p4]; simp; lia
     · rw [p3.1, List.nil_append]; exact List.Pairwise.sublist (List.take_sublist 4 ss) hpw
   · rw [decide_eq_false g2]
     exact ⟨fun z => (nomatch z), fun _ => G9.mpr (non _ (Fr.refl h))⟩
 · rw [decide_eq_false g1]
   exact ⟨fun z => (nomatch z), fun _ => G9.mpr (non _ (Fr.refl h))⟩
theorem bP1 (h : M9 G r) (hS : 1 < deep → bZ5 R r k deep) : Wp (J2 6 (S6 R) [.ref r, .int deep]) G fun x G' => ∃ li re, x = .tup [li, re] ∧ LiG (GS k) li ∧ ReG (GS k) re ∧ Fr r G G' := by
 refine cS5 (fun g => j9 _ (j9 _ g)) _ [some (.ref r), some (.int deep), some .non, some .non, none, none] eE4 (fun _ => rfl) ?_
 refine m7.mpr ((dZ8 h hS).mono ?_)
 rintro _ G1 ⟨f1, li, rfl, h1⟩
 refine m7.mpr ((dY5 f1.2.2 hS).mono ?_)
 rintro _ G2 ⟨f2, re, u, v, rfl, h2⟩
 exact d8 (a := .rt (.tup [li, re])) rfl (K9 ⟨li, re, rfl, h1, h2, f1.trans f2⟩)
def cE6 (R : List D → M D) (r k : Nat) (deep : Int) : Prop := ∀ G, M9 G r → Wp (R [.ref r, .int deep]) G fun x G' => ∃ li re, x = .tup [li, re] ∧ LiG (GS k) li ∧ ReG (GS k) re ∧ Fr r G G'
def dY6 (r k : Nat) (G : DH) (x : D) (G' : DH) : Prop := ∃ (ns : List (D × D)) (w : Str) (ts : List Str) (tr : List Bool) (li re : D), x = mkS ns w ts tr li re ∧ PtP (GS k) ns w ts tr li re ∧ Fr r G G'
theorem dA4 (h : M9 G r) (hP : cE6 R r k deep) : Wp (aB7 R [.ref r, .int deep]) G (dY6 r k G) := by
 have bg := big
 refine J3 (show Wp (aT3 R [some (.ref r), some (.int deep), none, none, none]) G _ from ?_)
 refine m7.mpr (V6 (aR6 rfl (by decide) (by decide) (M4 (x := .tup []) rfl (M4 (x := .tup [.tup [.non, .non]]) rfl (o8 (m6 (as := [.ref r, .int 3]) rfl rfl ((bW1 h).mono ?_)))))))
 rintro _ G1 ⟨n1, rfl, hn1, hn2, f1⟩
 refine u0.mpr ⟨sz, f1.2.2, rfl, fun d hd G2 f2 => ?_⟩
 have hd' : ∃ ns : List (D × D), d = .tup (ns.map stD) ∧ StP ns ∧ ns.length ≤ 10 := by
  simp only [List.mem_cons, List.not_mem_nil, or_false] at hd
  rcases hd with rfl | rfl | rfl
  · exact ⟨[], rfl, bT3, Nat.zero_le _⟩
  · exact ⟨[(.non, .non)], rfl, aP6, by decide⟩
  · exact ⟨n1, rfl, hn1, hn2⟩
 obtain ⟨ns, rfl, h1, h2⟩ := hd'
 refine m7.mpr (V6 (aR6 rfl (by decide) (by decide) (M4 (x := .tup [.str "of", .tup []]) rfl (M4 (x := .tup [.str "but", .tup []]) rfl (o8 (m6 (as := [.ref r, .int 3]) rfl rfl ((dV0 f2.2.2).mono ?_)))))))
 rintro _ G3 ⟨w3, t3, rfl, hw3, h3, h4, f3⟩
 refine u0.mpr ⟨sz, f3.2.2, rfl, fun d hd G4 f4 => ?_⟩
 have hd' : ∃ (w : Str) (ts : List Str), d = .tup [.str w, .tup (ts.map D.str)] ∧ (w = wOf ∨ w = bD4) ∧ bQ4 ts ∧ ts.length ≤ 100 := by
  simp only [List.mem_cons, List.not_mem_nil, or_false] at hd
  rcases hd with rfl | rfl | rfl
  · exact ⟨_, [], rfl, .inl rfl, bE3, Nat.zero_le _⟩
  · exact ⟨_, [], rfl, .inr rfl, bE3, Nat.zero_le _⟩
  · exact ⟨w3, t3, rfl, hw3, h3, h4⟩
 obtain ⟨w, ts, rfl, hw, h3', h4'⟩ := hd'
 refine m7.mpr (V6 (aR6 rfl (by decide) (by decide) (d8 (a := [.tup [], .tup [.bl false], .tup [.bl true], .tup [.bl false, .bl true]]) (G' := G4) rfl ⟨sz, f4.2.2, rfl, fun d hd G5 f5 => ?_⟩)))
 have hd' : ∃ tr : List Bool, d = .tup (tr.map D.bl) ∧ TrP tr := by
  simp only [List.mem_cons, List.not_mem_nil, or_false] at hd
  rcases hd with rfl | rfl | rfl | rfl
  · exact ⟨[], rfl, .inl rfl⟩
  · exact ⟨[false], rfl, .inr (.inl rfl)⟩
  · exact ⟨[true], rfl, .inr (.inr (.inl rfl))⟩
  · exact ⟨[false, true], rfl, .inr (.inr (.inr rfl))⟩
 obtain ⟨tr, rfl, h5⟩ := hd'
 refine M7 (J1 (d8 (a := .tup [.tup (ns.map stD), .tup [.str w, .tup (ts.map D.str)], .tup (tr.map D.bl)]) rfl (m6 (as := [.ref r, .int deep]) rfl rfl ((hP G5 f5.2.2).mono ?_))))
 rintro _ G6 ⟨li, re, rfl, h6, h7, f6⟩
 exact (eF6 (by show 5 ≤ sizeLine; lia)).mpr ⟨ns, w, ts, tr, li, re, rfl, ⟨h1, h2, hw, h3', h4', h5, h6, h7⟩, ((((f1.trans f2).trans f3).trans f4).trans f5).trans f6⟩
theorem dT5 (hk : k ≤ 6) (h : M9 G r) (hP : cE6 R r k deep) : Wp (R7 R [.ref r, .int deep]) G fun x G' => GS (k + 1) x ∧ Fr r G G' := by
 have hlt := h.lt
 obtain ⟨x0, x1, x2, x3, hr, hb1, hb2⟩ := id h
 refine J3 (show Wp (aT9 R [some (.ref r), some (.int deep), none, none, none, none, none, none]) G _ from ?_)
 refine m7.mpr <| aK5.mpr <| J1 <| ixv (G1 := G) rfl rfl hr rfl <| d8 (a := .int 1) rfl <| aI1.mpr <| cW2 (k := 3) rfl rfl hr rfl ?_
 have h2' : M9 (G.set r (.lst [.int x0, .int x1, .int x2, .int (x3 + 1)])) r := ⟨_, _, _, _, List.getElem?_set_self hlt, hb1, hb2⟩
 refine m7.mpr <| V6 <| m6 (as := [.ref r, .int 6]) rfl rfl <| U7 h2' ⟨by decide, by decide⟩ fun kind hk0 hk1 G2 f2 => ?_
 have f12 := (Fr.set h2').trans f2
 refine m7.mpr <| aM9 <| K5 <| aD9 (x := .int kind) (y := .int 2) rfl rfl <| bQ8.mpr ⟨_, rfl, fun g => ?_, fun g => ?_⟩
 · refine M7 <| J1 <| aL9.mpr <| M4 (x := .str T6) rfl <| o8 <| m6 (as := []) rfl rfl <| aL0.mpr <| u0.mpr ⟨sz, d8 (a := .int kind) rfl <| dD2 hk0 (by simpa using g) fun d hd => K9 ⟨?_, f12.trans (Fr.app f2.2.2)⟩⟩
   simp only [List.mem_cons, List.not_mem_nil, or_false] at hd
   rcases hd with rfl | rfl
   · exact .inl rfl
   · exact cL8
 · refine G9.mpr <| m7.mpr <| aK5.mpr <| m6 (as := [.ref r, .int deep]) rfl rfl <| (dA4 f2.2.2 hP).mono ?_
   rintro _ G3 ⟨ns, w, ts, tr, li, re, rfl, pt, f3⟩
   obtain ⟨q1, q2, q3, q4, q5, q6, q7⟩ := pt.sb (T := SB k) fun d hd => hd.sb
   refine d8 (a := [some (.ref r), some (.int deep), some (.int kind), some (.tup (ns.map stD)), some (.tup [.str w, .tup (ts.map D.str)]), some (.tup (tr.map D.bl)), some li, some re]) rfl ?_
   refine M7 <| m6 (as := [.tup (ns.map stD), .tup [.str w, .tup (ts.map D.str)], .tup (tr.map D.bl), li, re]) rfl rfl <| (cB7 (by lia) q1 q2 q3 q4 q5 q6 q7).mono fun x G4 z => ⟨z.2.1.gs pt, (f12.trans f3).trans ?_⟩
   obtain ⟨t, rfl⟩ := z.1
   exact Fr.app f3.2.2
theorem cL0 {r : Nat} : ∀ (n k : Nat) (deep : Int), deep ≤ k + 1 → k < n → k ≤ 6 → cE6 (W2 n) r k deep
 | 0, k, deep, _, h, _ => by lia
 | n + 1, 0, deep, h0, h1, h2 => fun G h => bP1 h fun g => by lia
 | n + 1, k + 1, deep, h0, h1, h2 => fun G h => bP1 h fun g G1 h1' => dT5 (k := k) (by lia) h1' (cL0 n k (deep - 1) (by lia) (by lia) (by lia))
theorem dG0 (hk : k ≤ 6) (hd : deep ≤ k + 1) (h : M9 G r) : Wp (aF4 [.ref r, .int deep]) G (dY6 r k G) := dA4 h (cL0 _ k deep (by omega) (by lia) (by omega))
end
def bB6 (a : Fe) : Fs := ifS (aD1 (v7 (q15 (fnX 1 M3) (q13 a (q14))))) (t6 (cE (.bl false))) (J5)
def L3 : DSt → M (List D) := (q13 (u6 (q13 (u6 (q13 (c7 1) (q14))) (q13 (cE (.str ("any" : Str))) (q14)))) (q13 (u6 (q13 (u6 (q13 (cE (.str ("any" : Str))) (q13 (c7 1) (q14)))) (q13 (c7 1) (q14)))) (q13 (u6 (q13 (u6 (q14)) (q13 (c7 1) (q14)))) (q13 (u6 (q13 (u6 (q13 (cE (.str ("any" : Str))) (q14))) (q13 (cE (.str ("any" : Str))) (q14)))) (q14)))))
def L4 : DSt → M (List D) := (q13 (u6 (q13 (cE (.str ("a" : Str))) (q13 (cE (.bl false)) (q13 (cE (.str ("any" : Str))) (q14))))) (q13 (u6 (q13 (cE (.str ("a" : Str))) (q13 (cE (.bl true)) (q13 (cE (.str ("any" : Str))) (q14))))) (q13 (u6 (q13 (cE (.str ("a" : Str))) (q13 (cE (.bl true)) (q13 (c7 1) (q14))))) (q13 (u6 (q13 (cE (.str ("a" : Str))) (q13 (cE (.bl false)) (q13 (c7 1) (q14))))) (q14)))))
def U7b : Fs := (aA0 (itW (P0 (q13 (cE (.str ("any" : Str))) (q13 (c7 1) (q14))))) (q16 7) (bB6 A4))
def U8b : Fs := (j9 (J4 (q15 (fnX 3 Z7) (q13 (c7 0) (q13 (c7 9) (q13 (c7 8) (q14))))) (q16 10)) (aA0 (itW (P0 (q13 (cE (.int 4)) (q13 (cE (.int 3)) (q13 (cE (.int 2)) (q14)))))) (q16 11) (bB6 A5)))
def U8 : Fs := (aA0 (aY4 (q13 (X8 (c7 0) (aB5) (aE0 (cE (.int 42)))) (q14))) (bD2 2 (Q7 (q16 8) (Q7 (q16 9) (bD9)))) U8b)
theorem eF5 : cI6 = j9 (J4 (q15 (fnX 0 o7) (q14)) (q16 1)) (j9 E2 (j9 U3 (j9 (aA0 (U6 (q13 (cE (.int 5)) (q14))) (q16 3) (bB6 A2)) (j9 (aA0 (itW (P0 L3)) (q16 4) (bB6 A3)) (j9 (J4 (P0 L4) (q16 5)) (j9 (aA0 (itW (c7 5)) (q16 6) U7b) (j9 U8 (t6 (cE (.bl true)))))))))) := rfl
def aT5 (x : D) : Prop := ∃ ns w ts tr li re, x = mkS ns w ts tr li re ∧ PtP (GS 3) ns w ts tr li re
theorem bP7 {x : D} {G : DH} (h : aT5 x) : Wp (M3 [x]) G fun y G' => y = .bl true ∧ Ap G G' := by
 obtain ⟨ns, w, ts, tr, li, re, rfl, hp⟩ := h
 exact dL1 (n := 2) (by decide) (by decide) hp
theorem bU7 {a : Fe} {σ : DSt} {G : DH} {P : Fl → DH → Prop} (w : Wp (a σ) G fun x G1 => aT5 x ∧ ∀ G2, Ap G1 G2 → P (.nx σ) G2) : Wp (bB6 a σ) G P :=
 bN6 <| V1 <| X5 <| o8 <| w.mono fun x G1 z => u0.mpr <| aT4.mpr ⟨rfl, (bP7 z.1).mono fun y G2 q => ⟨q.1, rfl, G9.mpr (z.2 G2 q.2)⟩⟩
theorem aW3 {g : Fg} {bd : Fs} {ck : DH → Bool} {G0 : DH} (S : DSt → Prop) (hck : ∀ G', Ap G0 G' → ck G' = true) : ∀ (items : List D) (σ : DSt) (G : DH), S σ → Ap G0 G →
 (∀ d ∈ items, ∀ σ G1, S σ → Ap G0 G1 → Wp (g d σ) G1 fun σ1 G2 => G2 = G1 ∧ Wp (bd σ1) G1 fun fl G3 => Ap G1 G3 ∧ ∃ σ2, fl = .nx σ2 ∧ S σ2) →
 Wp (aD5 g bd ck items σ) G fun fl G' => Ap G0 G' ∧ ∃ σ', fl = .nx σ' ∧ S σ'
 | [], σ, G, s, a, _ => aE3.mpr ⟨hck G a, a, σ, rfl, s⟩
 | d :: r, σ, G, s, a, step => by
   refine aE7.mpr ⟨hck G a, (step d (by simp) σ G s a).mono ?_⟩
   rintro σ1 _ ⟨rfl, w⟩
   refine w.mono ?_
   rintro _ G3 ⟨a3, σ2, rfl, s2⟩
   exact aW3 S hck r σ2 G3 s2 (a.trans a3) fun d hd => step d (by simp [hd])
theorem bG0 {G : DH} {p : Nat} {o : DO} (e : G[p]? = some o) : ckO p o G = true := by unfold ckO; rw [e]; simp
theorem aV5 {ns : List (D × D)} {w : Str} {tr : List Bool} {li re : D} (h : StP ns) (hl : ns.length ≤ 10) (hw : w = wOf ∨ w = bD4) (ht : TrP tr) (h1 : LiG (GS 3) li) (h2 : ReG (GS 3) re) : aT5 (mkS ns w [] tr li re) := ⟨_, _, _, _, _, _, rfl, h, hl, hw, bE3, Nat.zero_le _, ht, h1, h2⟩
noncomputable def eA : D := .tup [.tup [], .str T6]
theorem bI9 {n : Nat} : GS (n + 1) (.str T6) := .inl rfl
theorem cP0 : LiG (GS 3) eA := .inr ⟨[], _, rfl, by decide, (fun x hx => by cases hx), bI9⟩
theorem cO3 : ReG (GS 3) eA := .inr ⟨[], _, rfl, by decide, .nil, (fun x hx => by cases hx), bI9⟩
theorem tr4 : TrP [false, true] := .inr (.inr (.inr rfl))
section
variable {s0 x3 x4 x5 : Option D} {G : DH} {P : Fl → DH → Prop}
theorem eC9 (q : ∀ x G', Ap G G' → P (.nx [s0, some noS, some evS, x, none, none, none, none, none, none, none, none]) G') : Wp (aA0 (U6 (q13 (cE (.int 5)) (q14))) (q16 3) (bB6 A2) [s0, some noS, some evS, none, none, none, none, none, none, none, none, none]) G P := by
 refine aD8.mpr <| cG5.mpr <| d8 (a := [D.int 5]) rfl <| (aG1 ⟨by decide, by decide⟩).mpr ?_
 refine (aW3 (G0 := G) (fun σ => ∃ u, σ = [s0, some noS, some evS, u, none, none, none, none, none, none, none, none]) (fun _ _ => rfl) (K8 0 (5 : Int).toNat) _ G ⟨none, rfl⟩ Ap.refl ?_).mono ?_
 · rintro d hd _ G1 ⟨u, rfl⟩ a
   refine d8 (a := [s0, some noS, some evS, some d, none, none, none, none, none, none, none, none]) rfl ⟨rfl, bU7 ?_⟩
   have fin : ∀ x, aT5 x → aT5 x ∧ ∀ G2, Ap G1 G2 → Ap G1 G2 ∧ ∃ σ2, Fl.nx [s0, some noS, some evS, some d, none, none, none, none, none, none, none, none] = .nx σ2 ∧ ∃ u, σ2 = [s0, some noS, some evS, u, none, none, none, none, none, none, none, none] := fun x hx => ⟨hx, fun G2 a2 => ⟨a2, _, rfl, _, rfl⟩⟩
   have hd : d ∈ [D.int 0, .int 1, .int 2, .int 3, .int 4] := hd
   simp only [List.mem_cons, List.not_mem_nil, or_false] at hd
   rcases hd with rfl | rfl | rfl | rfl | rfl
   · exact d8 (a := mkS [] bD4 [] [false, true] eA eA) rfl (fin _ (aV5 bT3 (by decide) (.inr rfl) tr4 cP0 cO3))
   · exact d8 (a := mkS [(.non, .non)] wOf [] [false, true] eA eA) rfl (fin _ (aV5 aP6 (by decide) (.inl rfl) tr4 cP0 cO3))
   · exact d8 (a := mkS [(.non, .non)] bD4 [] [] eA eA) rfl (fin _ (aV5 aP6 (by decide) (.inr rfl) (.inl rfl) cP0 cO3))
   · exact d8 (a := mkS [(.non, .non)] bD4 [] [false, true] .non eA) rfl (fin _ (aV5 aP6 (by decide) (.inr rfl) tr4 (.inl rfl) cO3))
   · exact d8 (a := mkS [(.non, .non)] bD4 [] [false, true] eA .non) rfl (fin _ (aV5 aP6 (by decide) (.inr rfl) tr4 cP0 (.inl rfl)))
 · rintro _ G' ⟨a, _, rfl, u, rfl⟩
   exact q u G' a
theorem eE5 (q : ∀ x G', Ap G G' → P (.nx [s0, some noS, some evS, x3, x, none, none, none, none, none, none, none]) G') : Wp (aA0 (itW (P0 L3)) (q16 4) (bB6 A3) [s0, some noS, some evS, x3, none, none, none, none, none, none, none, none]) G P := by
 have hl : L3 [s0, some noS, some evS, x3, none, none, none, none, none, none, none, none] G = some (.ok [.tup [.tup [noS], .str T6], .tup [.tup [.str T6, noS], noS], .tup [.tup [], noS], .tup [.tup [.str T6], .str T6]], G) := rfl
 refine aD8.mpr <| wp_itW.mpr <| aL9.mpr <| d8 hl ⟨sz, (aJ7 o4).mpr ?_⟩
 have g5 : GS 3 (.str T6) := bI9
 have g6 : GS 3 noS := cL8
 refine (aW3 (G0 := G ++ [.lst [.tup [.tup [noS], .str T6], .tup [.tup [.str T6, noS], noS], .tup [.tup [], noS], .tup [.tup [.str T6], .str T6]]]) (fun σ => ∃ u, σ = [s0, some noS, some evS, x3, u, none, none, none, none, none, none, none]) (fun G' a => bG0 (a.at o4)) [.tup [.tup [noS], .str T6], .tup [.tup [.str T6, noS], noS], .tup [.tup [], noS], .tup [.tup [.str T6], .str T6]] _ _ ⟨none, rfl⟩ Ap.refl ?_).mono ?_
 · rintro d hd _ G1 ⟨u, rfl⟩ a
   refine d8 (a := [s0, some noS, some evS, x3, some d, none, none, none, none, none, none, none]) rfl ⟨rfl, bU7 ?_⟩
   refine d8 (a := mkS [(.non, .non)] bD4 [] [false, true] d eA) rfl ⟨aV5 aP6 (by decide) (.inr rfl) tr4 ?_ cO3, fun G2 a2 => ⟨a2, _, rfl, _, rfl⟩⟩
   simp only [List.mem_cons, List.not_mem_nil, or_false] at hd
   rcases hd with rfl | rfl | rfl | rfl
   · exact .inr ⟨_, _, rfl, by decide, (fun x hx => by rw [List.mem_singleton.mp hx]; exact g6), g5⟩
   · refine .inr ⟨_, _, rfl, by decide, (fun x hx => ?_), g6⟩
     simp only [List.mem_cons, List.not_mem_nil, or_false] at hx
     rcases hx with rfl | rfl
     · exact g5
     · exact g6
   · exact .inr ⟨_, _, rfl, by decide, (fun x hx => by cases hx), g6⟩
   · exact .inr ⟨_, _, rfl, by decide, (fun x hx => by rw [List.mem_singleton.mp hx]; exact g5), g5⟩
 · rintro _ G' ⟨a, _, rfl, u, rfl⟩
   exact q u G' (Ap.one.trans a)
end
noncomputable def nA : Str := "a"
noncomputable def nB : Str := "b"
def fl4 : List (Str × Bool × D) := [(nA, false, .str T6), (nA, true, .str T6), (nA, true, noS), (nA, false, noS)]
theorem eG3 : NM nA := ⟨⟨rfl, by decide⟩, by decide⟩
theorem eE2 : NM nB := ⟨⟨rfl, by decide⟩, by decide⟩
theorem dW7 : LtS nA nB := by show ([97] : List Nat) < [98]; decide
theorem dX8 {f : Str × Bool × D} {m : D} (hf : f ∈ fl4) (hm : GS 3 m) : ReG (GS 3) (.tup [.tup [fdD f, fdD (nB, false, noS)], m]) := by
 have g5 : GS 3 (.str T6) := bI9
 have g6 : GS 3 noS := cL8
 have h : f.1 = nA ∧ GS 3 f.2.2 := by
  unfold fl4 at hf
  simp only [List.mem_cons, List.not_mem_nil, or_false] at hf
  rcases hf with rfl | rfl | rfl | rfl
  · exact ⟨rfl, g5⟩
  · exact ⟨rfl, g5⟩
  · exact ⟨rfl, g6⟩
  · exact ⟨rfl, g6⟩
 refine .inr ⟨[f, (nB, false, noS)], m, rfl, (by show 2 ≤ 4; decide), ?_, fun x hx => ?_, hm⟩
 · refine List.pairwise_cons.mpr ⟨fun y hy => ?_, List.pairwise_singleton _ _⟩
   rw [List.mem_singleton.mp hy]
   show LtS f.1 nB
   rw [h.1]; exact dW7
 · simp only [List.mem_cons, List.not_mem_nil, or_false] at hx
   rcases hx with rfl | rfl
   · rw [h.1]; exact ⟨eG3, h.2⟩
   · exact ⟨eE2, g6⟩
section
variable {s0 x3 x4 : Option D} {G : DH} {P : Fl → DH → Prop}
theorem dX0 {f : Str × Bool × D} {x5 u7 : Option D} (hf : f ∈ fl4) (q : ∀ x G', Ap G G' → P (.nx [s0, some noS, some evS, x3, x4, x5, some (fdD f), x, none, none, none, none]) G') : Wp (U7b [s0, some noS, some evS, x3, x4, x5, some (fdD f), u7, none, none, none, none]) G P := by
 refine aD8.mpr <| wp_itW.mpr <| d8 (a := .ref G.length) (G' := G ++ [.lst [.str T6, noS]]) rfl <| (aJ7 o4).mpr ?_
 refine (aW3 (G0 := G ++ [.lst [.str T6, noS]]) (fun σ => ∃ u, σ = [s0, some noS, some evS, x3, x4, x5, some (fdD f), u, none, none, none, none]) (fun G' a => bG0 (a.at o4)) [.str T6, noS] _ _ ⟨_, rfl⟩ Ap.refl ?_).mono ?_
 · rintro d hd _ G1 ⟨u, rfl⟩ a
   refine d8 (a := [s0, some noS, some evS, x3, x4, x5, some (fdD f), some d, none, none, none, none]) rfl ⟨rfl, bU7 ?_⟩
   refine d8 (a := mkS [(.non, .non)] bD4 [] [false, true] eA (.tup [.tup [fdD f, fdD (nB, false, noS)], d])) rfl ⟨aV5 aP6 (by decide) (.inr rfl) tr4 cP0 (dX8 hf ?_), fun G2 a2 => ⟨a2, _, rfl, _, rfl⟩⟩
   simp only [List.mem_cons, List.not_mem_nil, or_false] at hd
   rcases hd with rfl | rfl
   · exact bI9
   · exact cL8
 · rintro _ G' ⟨a, _, rfl, u, rfl⟩
   exact q u G' (Ap.one.trans a)
theorem eC1 {p : Nat} (e : G[p]? = some (.lst (fl4.map fdD))) (q : ∀ x y G', Ap G G' → P (.nx [s0, some noS, some evS, x3, x4, some (.ref p), x, y, none, none, none, none]) G') : Wp (aA0 (itW (c7 5)) (q16 6) U7b [s0, some noS, some evS, x3, x4, some (.ref p), none, none, none, none, none, none]) G P := by
 refine aD8.mpr <| wp_itW.mpr <| d8 (a := .ref p) (G' := G) rfl <| (aJ7 e).mpr ?_
 refine (aW3 (G0 := G) (fun σ => ∃ u v, σ = [s0, some noS, some evS, x3, x4, some (.ref p), u, v, none, none, none, none]) (fun G' a => bG0 (a.at e)) (fl4.map fdD) _ _ ⟨_, _, rfl⟩ Ap.refl ?_).mono ?_
 · rintro d hd _ G1 ⟨u, v, rfl⟩ a
   obtain ⟨f, hf, rfl⟩ := List.mem_map.mp hd
   exact d8 (a := [s0, some noS, some evS, x3, x4, some (.ref p), some (fdD f), v, none, none, none, none]) rfl ⟨rfl, dX0 hf fun x G' a' => ⟨a', _, rfl, _, _, rfl⟩⟩
 · rintro _ G' ⟨a, _, rfl, u, v, rfl⟩
   exact q u v G' a
end
section
variable {a0 a1 a2 a3 a4 a5 a6 a7 a8 a9 : Option D} {G : DH}
theorem cW6 {r p : Nat} {L : List D} (hp : p ≠ r) : ∀ (ds : List Int) (u : Option D) (G : DH), (∀ d ∈ ds, d ≤ 4) → M9 G r → G[p]? = some (.lst L) →
 Wp (aD5 (q16 11) (bB6 A5) (ckO p (.lst L)) (ds.map D.int) [a0, a1, a2, a3, a4, a5, a6, a7, a8, a9, some (.ref r), u]) G fun fl G' => Fr r G G' ∧ ∃ u', fl = .nx [a0, a1, a2, a3, a4, a5, a6, a7, a8, a9, some (.ref r), u']
 | [], u, G, _, h, e => by
   rw [List.map_nil]
   exact aE3.mpr ⟨bG0 e, Fr.refl h, u, rfl⟩
 | d :: ds, u, G, hd, h, e => by
   rw [List.map_cons]
   refine aE7.mpr ⟨bG0 e, d8 (a := [a0, a1, a2, a3, a4, a5, a6, a7, a8, a9, some (.ref r), some (.int d)]) (G' := G) rfl <| bU7 <| m6 (as := [.ref r, .int d]) rfl rfl <| (dG0 (k := 3) (by decide) (by have := hd d (by simp); lia) h).mono ?_⟩
   rintro x G1 ⟨ns, w, ts, tr, li, re, rfl, hp', f1⟩
   refine ⟨⟨_, _, _, _, _, _, rfl, hp'⟩, fun G2 a => ?_⟩
   have f2 : Fr r G G2 := by
    obtain ⟨t, rfl⟩ := a
    exact f1.trans (Fr.app f1.2.2)
   refine (cW6 hp ds (some (.int d)) G2 (fun x hx => hd x (by simp [hx])) f2.2.2 (f2.at hp e)).mono ?_
   rintro _ G3 ⟨f3, u', rfl⟩
   exact ⟨f2.trans f3, u', rfl⟩
theorem eB3 {ns : List Int} {p : Nat} {k c : Int} {u10 u11 : Option D} (e : G[p]? = some (.rol (ns.map D.int))) (hk : 0 ≤ k ∧ k < 64) : Wp (U8b [some (.ref p), a1, a2, a3, a4, a5, a6, a7, some (.int k), some (.int c), u10, u11]) G fun fl G' => Gr G G' ∧ ∃ x y, fl = .nx [some (.ref p), a1, a2, a3, a4, a5, a6, a7, some (.int k), some (.int c), x, y] := by
 refine m7.mpr <| V6 <| m6 (as := [.ref p, .int c, .int k]) rfl rfl <| (dF1 e hk).mono ?_
 rintro _ G1 ⟨r, rfl, hr, hh, g1⟩
 have hlt := hh.lt
 have f1 : Fr r G1 (G1 ++ [.lst (([4, 3, 2] : List Int).map D.int)]) := Fr.app hh
 refine aD8.mpr <| wp_itW.mpr <| d8 (a := .ref G1.length) (G' := G1 ++ [.lst (([4, 3, 2] : List Int).map D.int)]) rfl <| (aJ7 o4).mpr ?_
 refine (cW6 (p := G1.length) (by lia) [4, 3, 2] _ _ (by decide) f1.2.2 o4).mono ?_
 rintro _ G2 ⟨f2, u', rfl⟩
 exact ⟨Gr.of g1 (f1.trans f2) hr, _, _, rfl⟩
theorem cK4 {ns : List Int} {p q : Nat} {L : List D} : ∀ (cs : List Int) (k : Nat) (u8 u9 u10 u11 : Option D) (G : DH), G[p]? = some (.rol (ns.map D.int)) → G[q]? = some (.lst L) → k + cs.length ≤ 63 →
 Wp (aD5 (bD2 2 (Q7 (q16 8) (Q7 (q16 9) bD9))) U8b (ckO q (.lst L)) (((cs.map D.int).zipIdx k).map fun p => .tup [.int ((p.2 : Nat) : Int), p.1]) [some (.ref p), a1, a2, a3, a4, a5, a6, a7, u8, u9, u10, u11]) G fun fl G' => Gr G G' ∧ ∃ u8 u9 u10 u11, fl = .nx [some (.ref p), a1, a2, a3, a4, a5, a6, a7, u8, u9, u10, u11]
 | [], k, u8, u9, u10, u11, G, e, et, hk => by
   simp only [List.map_nil, List.zipIdx_nil]
   exact aE3.mpr ⟨bG0 et, Gr.refl, _, _, _, _, rfl⟩
 | c :: r, k, u8, u9, u10, u11, G, e, et, hk => by
   simp only [List.map_cons, List.zipIdx_cons]
   simp only [List.length_cons] at hk
   refine aE7.mpr ⟨bG0 et, ?_⟩
   refine d8 (a := [some (.ref p), a1, a2, a3, a4, a5, a6, a7, some (.int k), some (.int c), u10, u11]) (G' := G) rfl ?_
   refine (eB3 e ⟨by lia, by lia⟩).mono ?_
   rintro _ G1 ⟨g1, x, y, rfl⟩
   refine (cK4 r (k + 1) _ _ _ _ G1 (g1.at e) (g1.at et) (by lia)).mono fun fl G2 z => ?_
   exact ⟨g1.trans z.1, z.2⟩
end
theorem dI9 {G : DH} {p : Nat} {l : List D} {lo hi : Option Int} {Q : DPP} (e : G[p]? = some (.rol l)) : Wp (slT (.ref p) lo hi) G Q ↔ Q (.ref G.length) (G ++ [.lst (DL.cutD l lo hi)]) := dQ6 e
theorem eA9 (ns : List Int) : ∃ cs : List Int, DL.cutD (ns.map D.int) none (some 42) = cs.map D.int ∧ cs.length ≤ 42 := by
 refine ⟨ns.take 42, ?_, by rw [List.length_take]; lia⟩
 have := cC0 (ns.map D.int) 42
 rw [← List.map_take] at this
 exact this
theorem eE3 : aT5 evS := aV5 aP6 (by decide) (.inr rfl) tr4 cP0 cO3
theorem eB8 : aT5 noS := aV5 bT3 (by decide) (.inl rfl) (.inl rfl) (.inl rfl) (.inl rfl)
theorem dD4 (ns : List Int) (hn : ns.length ≤ 63) : Wp (bX5 [.ref 0]) [.rol (ns.map D.int)] fun d _ => d = .bl true := by
 have e0 : ([DO.rol (ns.map D.int)] : DH)[0]? = some (.rol (ns.map D.int)) := rfl
 generalize hG : ([DO.rol (ns.map D.int)] : DH) = G at *
 refine J3 (show Wp (cI6 [some (.ref 0), none, none, none, none, none, none, none, none, none, none, none]) G _ from ?_)
 rw [eF5]
 refine m7.mpr <| V6 <| m6 (as := []) rfl rfl <| aL0.mpr ?_
 refine K1 (σ' := [some (.ref 0), some noS, some evS, none, none, none, none, none, none, none, none, none]) (G' := G) rfl ?_
 refine m7.mpr <| aM9 <| cR2 <| bE7.mpr <| V1 <| m6 (as := [evS]) rfl rfl <| (bP7 eE3).mono ?_
 rintro _ G1 ⟨rfl, j1⟩
 refine ⟨rfl, fun z => (nomatch z), fun _ => bE7.mpr <| V1 <| m6 (as := [noS]) rfl rfl <| (bP7 eB8).mono ?_⟩
 rintro _ G2 ⟨rfl, j2⟩
 refine ⟨rfl, fun z => (nomatch z), fun _ => G9.mpr ?_⟩
 refine m7.mpr <| eC9 fun x3 G3 j3 => m7.mpr <| eE5 fun x4 G4 j4 => ?_
 refine K1 (σ' := [some (.ref 0), some noS, some evS, x3, x4, some (.ref G4.length), none, none, none, none, none, none]) (G' := G4 ++ [.lst (fl4.map fdD)]) rfl ?_
 refine m7.mpr <| eC1 o4 fun x6 x7 G5 j5 => ?_
 have e5 := (((((j1.trans j2).trans j3).trans j4).trans Ap.one).trans j5).at e0
 obtain ⟨cs, ec, hc⟩ := eA9 ns
 refine m7.mpr <| aD8.mpr <| cS4.mpr <| o8 <| aZ2.mpr <| d8 (a := .ref 0) rfl <| d8 (a := none) rfl <| d8 (a := some 42) rfl <| (dI9 e5).mpr <| u0.mpr <| (cS1 o4).mpr ?_
 simp only [ec]
 refine (cK4 (ns := ns) cs 0 _ _ _ _ _ (R0 e5) (by rw [← ec]; exact o4) (by lia)).mono ?_
 rintro _ G7 ⟨g7, v8, v9, v10, v11, rfl⟩
 exact d8 rfl (K9 rfl)
theorem pure_law : ∀ ns : List Int, ns.length ≤ 63 → ∃ G', bX5 [.ref 0] [.rol (ns.map D.int)] = some (.ok (.bl true), G') := fun ns hn => by
 obtain ⟨d, G', e, rfl⟩ := dD4 ns hn
 exact ⟨G', e⟩
end W
set_option maxRecDepth 100000 in
set_option maxHeartbeats 0 in
theorem PySem.Challenge.cw_allmeet_k17_sets_made_holds : PySem.Challenge.rw_allmeet_k17_sets_made.Holds := by
 w_on; o_law; k_head; (case hw => w_witness2)
 k_fill
 refine W.walk (l := PySem.Challenge.rw_allmeet_k17_sets_made) rfl rfl (fun w h Y => PySem.W.kIn_of Y) ?F
 case F =>
  intro w mg fa h KX G hmg
  refine' W.all_mk KX G hmg ?_ ?_ ?_ ?_ ?_ ?_ ?_ ?_ ?_ ?_ ?_ ?_ ?_ ?_ ?_ ?_ ?_ ?_ ?_ ?_ ?_ ?_ ?_ ?_ ?_ ?_ ?_ ?_ ?_ ?_ ?_ ?_ ?_ ?_ ?_ ?_ ?_ ?_ ?_ ?_ ?_ ?_ ?_ ?g_NOTHING ?l_NOTHING ?l_NOTHING_0 ?l_NOTHING_1 ?l_NOTHING_1_1 ?l_NOTHING_2 ?g_ALL_PARTS ?l_ALL_PARTS ?l_ALL_PARTS_0 ?l_ALL_PARTS_0_0 ?l_ALL_PARTS_1 ?l_ALL_PARTS_1_1 ?l_ALL_PARTS_2 ?l_ALL_PARTS_3 ?l_ALL_PARTS_3_0 ?l_ALL_PARTS_4 ?l_ALL_PARTS_4_0 ?g_ANY ?z W.pure_law
  (case g_NOTHING => k_is)
  (case l_NOTHING => k_is)
  (case l_NOTHING_0 => k_is)
  (case l_NOTHING_1 => k_is)
  (case l_NOTHING_1_1 => k_is)
  (case l_NOTHING_2 => k_is)
  (case g_ALL_PARTS => k_is)
  (case l_ALL_PARTS => k_is)
  (case l_ALL_PARTS_0 => k_is)
  (case l_ALL_PARTS_0_0 => k_is)
  (case l_ALL_PARTS_1 => k_is)
  (case l_ALL_PARTS_1_1 => k_is)
  (case l_ALL_PARTS_2 => k_is)
  (case l_ALL_PARTS_3 => k_is)
  (case l_ALL_PARTS_3_0 => k_is)
  (case l_ALL_PARTS_4 => k_is)
  (case l_ALL_PARTS_4_0 => k_is)
  (case g_ANY => k_is)
  (case z => intro b hb; simp only [DL.bltL, List.mem_cons, List.not_mem_nil, or_false] at hb; rcases hb with rfl | rfl | rfl | rfl | rfl | rfl | rfl | rfl | rfl | rfl | rfl | rfl | rfl | rfl | rfl | rfl | rfl | rfl | rfl <;> k_is)
  all_goals (refine' DL.FH.of ?a ?l ?e ?k; (case a => k_is); (case l => k_is); (case e => k_is); (case k => k_is))
