import PyProof.Rows.All
import Wide.All
import OpenK.AllK
import Wide.FinOn
import Lean
import PyProof.EqAt
import PyProof.EqKinds
import PyProof.TupleCall
import PyProof.NeKinds
import PyProof.ZipIter
import PyProof.EnumFor
import PyProof.EnumMake
import PyProof.EnumStmt
import PyProof.Draws
import KE.KDictSum
import PyProof.Rows.SortStr
import PyProof.StrWalks
import KE.KRevIter
import KE.KDictList
import PyProof.CollectIter
import PyProof.SliceStr2
import PyProof.StrBlockI
import KE.KListMore
import PyProof.DictWalks
import PyProof.TupleOfSeq
import PyProof.AttrMissHeap
import PyProof.AttrMissSeq
import KE.KDictOf
import PyProof.WalksMore
import KE.KSortTup
import KE.KSortKey
import PyProof.Rows.StrJoin2
import PyProof.ListMulRoad
import PyProof.FactsAll.tuple_2
import PyProof.Rows.SortShell
import PyProof.WalkInts
import KE.KMinBuiltin
import KE.KIntText
import PyProof.CallStr
import PyProof.PureStr
import PySem.Challenge.RW_allmeet_k04_values_written
set_option Elab.async false
set_option linter.all false
set_option maxRecDepth 100000
noncomputable section
abbrev VSP := PySem.Value → PySem.Shared → Prop
abbrev PNS := List (PySem.Addr × PySem.Obj)
namespace L2
open PySem PySem.Spec PyProof.Rows
theorem m9 {α : Type} {a : α} {P : Prop} (h : none = some a) : P := nomatch h
theorem cV4 {α : Type} {a : α} {P : Prop} (h : some a = none) : P := nomatch h
theorem bK8 {P : Prop} (h : false = true) : P := nomatch h
theorem bU9 {α : Type} {a : α} {l : List α} {P : Prop} (h : [] = a :: l) : P := nomatch h
theorem cM8 {α : Type} {a : α} {l : List α} {P : Prop} (h : a :: l = []) : P := nomatch h
noncomputable abbrev Key := Sum Int Str
noncomputable def aY6 : Key → Value → Bool
 | .inl k, v => Value.isInt k v
 | .inr x, v => Value.isStrOf x v
noncomputable def dN4 (w : World) : Key → Int
 | .inl k => hashInt k
 | .inr x => hashStr w x
theorem J1 : ∀ {k : Key} {v : Value}, aY6 k v = true → (∃ i t, k = Sum.inl i ∧ v = Value.int i t) ∨ (∃ x t, k = Sum.inr x ∧ v = Value.str x t)
 | .inl i, v, h => by
   obtain ⟨t, e⟩ := Value.isInt_shape (k := i) (v := v) h
   exact .inl ⟨i, t, rfl, e⟩
 | .inr x, v, h => by
   obtain ⟨t, e⟩ := Value.isStrOf_shape (x := x) (v := v) h
   exact .inr ⟨x, t, rfl, e⟩
theorem cB1 (i : Int) (t : Tok) : aY6 (.inl i) (.int i t) = true := by simp [aY6, Value.isInt]
theorem bZ9 (x : Str) (t : Tok) : aY6 (.inr x) (.str x t) = true := by simp [aY6, Value.isStrOf]
theorem cZ7 (a b : Int) : decide ((Sum.inl a : Key) = Sum.inl b) = (a == b) := by
 by_cases e : a = b
 · subst e; simp
 · have h : ¬ (Sum.inl a : Key) = Sum.inl b := fun q => e (Sum.inl.inj q)
   rw [decide_eq_false h]
   exact (beq_eq_false_iff_ne.mpr e).symm
theorem dF3 (a b : Str) : decide ((Sum.inr a : Key) = Sum.inr b) = decide (a = b) := by
 by_cases e : a = b
 · subst e; simp
 · have h : ¬ (Sum.inr a : Key) = Sum.inr b := fun q => e (Sum.inr.inj q)
   rw [decide_eq_false h, decide_eq_false e]
theorem dF9 (a : Int) (b : Str) : decide ((Sum.inl a : Key) = Sum.inr b) = false := decide_eq_false (fun q => nomatch q)
theorem dD9 (a : Str) (b : Int) : decide ((Sum.inr a : Key) = Sum.inl b) = false := decide_eq_false (fun q => nomatch q)
def J3 (prog : Program) (w : World) : PySem.KeyKind prog w Key where
 is := aY6
 hash := dN4 w
 inj := fun v a b ha hb => by
  rcases J1 ha with ⟨i, t, rfl, rfl⟩ | ⟨x, t, rfl, rfl⟩
  · rcases J1 hb with ⟨j, u, rfl, e⟩ | ⟨y, u, rfl, e⟩
    · injection e with e1 _; rw [e1]
    · exact nomatch e
  · rcases J1 hb with ⟨j, u, rfl, e⟩ | ⟨y, u, rfl, e⟩
    · exact nomatch e
    · injection e with e1 _; rw [e1]
 byValue := fun k v h => by
  rcases J1 h with ⟨i, t, rfl, rfl⟩ | ⟨x, t, rfl, rfl⟩ <;> rfl
 pyHash := fun hv h => by
  rcases J1 hv with ⟨i, t, rfl, rfl⟩ | ⟨x, t, rfl, rfl⟩
  · exact wpAny_pyHash_int h
  · exact wpAny_pyHash_str h
 eqBool := fun hu hv h => by
  rcases J1 hu with ⟨i, t, rfl, rfl⟩ | ⟨x, t, rfl, rfl⟩
  · rcases J1 hv with ⟨j, u, rfl, rfl⟩ | ⟨y, u, rfl, rfl⟩
    · rw [cZ7] at h; exact wpAny_eqBool_int h
    · rw [dF9] at h; exact SeqAt.EqAt.int_str i t y u _ _ _ _ h
  · rcases J1 hv with ⟨j, u, rfl, rfl⟩ | ⟨y, u, rfl, rfl⟩
    · rw [dD9] at h; exact SeqAt.EqAt.str_int x t j u _ _ _ _ h
    · rw [dF3] at h; exact wpAny_eqBool_str h
 «strs» := fun k x t v h => by
  rcases J1 h with ⟨i, u, rfl, e⟩ | ⟨y, u, rfl, e⟩
  · exact nomatch e
  · injection e with e1 _
    subst e1
    cases v <;> rfl
theorem bP0 (prog : Program) (w : World) (i : Int) (t : Tok) : (J3 prog w).is (.inl i) (.int i t) = true := cB1 i t
theorem bL6 (prog : Program) (w : World) (x : Str) (t : Tok) : (J3 prog w).is (.inr x) (.str x t) = true := bZ9 x t
inductive V where
 | non | bl (b : Bool) | int (i : Int) | str (x : Str) | byt (b : Array UInt8) | flt (b : UInt64) | ref (a : Addr) | ty (n : String)
 deriving DecidableEq
noncomputable def o4 : V → Value → Prop
 | .non, u => u = Value.none
 | .bl b, u => u = Value.bool b
 | .int i, u => ∃ t, u = Value.int i t
 | .str x, u => ∃ t, u = Value.str x t
 | .byt b, u => ∃ t, u = Value.bytes b t
 | .flt b, u => ∃ t, u = Value.float b t
 | .ref a, u => u = Value.ref a
 | .ty n, u => u = Value.type n
abbrev o5 : List V → List Value → Prop := Paired o4
theorem o5.length {xs : List V} {us : List Value} (r : o5 xs us) : xs.length = us.length := Paired.length r
theorem o5.get : ∀ {xs : List V} {us : List Value} {i : Nat} {x : V}, o5 xs us → xs[i]? = some x → ∃ u, us[i]? = some u ∧ o4 x u
 | _, _, _, _, .nil, e => by simp at e
 | _, _, 0, _, .cons r _, e => by simp at e; subst e; exact ⟨_, rfl, r⟩
 | _, _, i + 1, x, .cons _ t, e => by
   obtain ⟨u, h1, h2⟩ := o5.get (i := i) (x := x) t (by simpa using e)
   exact ⟨u, by simpa using h1, h2⟩
theorem o5.set {x : V} {u : Value} (r : o4 x u) : ∀ {xs : List V} {us : List Value} (i : Nat), o5 xs us → o5 (xs.set i x) (us.set i u)
 | _, _, _, .nil => .nil
 | _, _, 0, .cons _ t => .cons r t
 | _, _, i + 1, .cons q t => .cons q (o5.set r i t)
theorem o5.append {xs ys : List V} {us ws : List Value} (h : o5 xs us) (k : o5 ys ws) : o5 (xs ++ ys) (us ++ ws) := by
 induction h with
 | nil => exact k
 | cons r t ih => exact .cons r ih
theorem o5.take : ∀ {xs : List V} {us : List Value} (n : Nat), o5 xs us → o5 (xs.take n) (us.take n)
 | _, _, 0, _ => .nil
 | _, _, _ + 1, .nil => .nil
 | _, _, n + 1, .cons r t => .cons r (o5.take n t)
theorem o5.drop : ∀ {xs : List V} {us : List Value} (n : Nat), o5 xs us → o5 (xs.drop n) (us.drop n)
 | _, _, 0, r => r
 | _, _, _ + 1, .nil => .nil
 | _, _, n + 1, .cons _ t => o5.drop n t
def bB0 : Option V → Option Value → Prop
 | some v, some u => o4 v u
 | none, none => True
 | _, _ => False
def KV {κ : Type} : List (κ × V) → List (κ × Value) → Prop := Paired fun (p : κ × V) (q : κ × Value) => p.1 = q.1 ∧ o4 p.2 q.2
noncomputable def kV : Key → V
 | .inl i => .int i
 | .inr x => .str x
inductive HO where
 /-- a list -/
 | lst (xs : List V)
 /-- a tuple (never changes) -/
 | tup (xs : List V)
 /-- a dict whose keys are ints and texts; one whose keys are tuples of ints and texts (the empty one is both) -/
 | dK (kvs : List (Key × V)) | dT (kvs : List (List Key × V))
 /-- a set of ints: its members, its size -/
 | set (S : Int → Bool) (n : Nat)
 /-- an instance of the class at C, its dict at dx, its attributes -/
 | ins (C dx : Addr) (fs : List (Str × V))
 /-- the dict of the instance at x -/
 | own (x : Addr)
 /-- the dict of an exception -/
 | xd (fs : List (Str × V))
 /-- a bound method, f of x -/
 | met (f x : Addr)
 /-- a range object lo, lo + 1, .. below hi -/
 | rng (lo hi : Int)
 /-- a thing that is known to the object (the script; a dict while a loop walks it): read, never written while it is so -/
 | frz (o : Obj) (u : HO)
 /-- a code object's table -/
 | tbl (ps : Array Value)
 /-- any other thing, by what is true of its one object (a def of one's own: SetO a S n := HO.ext fun h => ..) -/
 | ext (φ : Heap → Prop)
noncomputable abbrev Hp := Addr → Option HO
noncomputable def upd (H : Hp) (a : Addr) (o : HO) : Hp := fun b => if b = a then some o else H b
theorem v8 {H : Hp} {a : Addr} {o : HO} : upd H a o a = some o := by unfold upd; rw [if_pos rfl]
theorem m5 {H : Hp} {a b : Addr} {o : HO} (h : b ≠ a) : upd H a o b = H b := by unfold upd; rw [if_neg h]
theorem upd_upd {H : Hp} {a : Addr} {o u : HO} : upd (upd H a o) a u = upd H a u := by
 funext b; unfold upd; split <;> rfl
theorem dK6 {H : Hp} {a b : Addr} {o u : HO} (h : H a = some o) (h' : H b = some u) (d : o ≠ u) : a ≠ b := by
 intro e; subst e; rw [h] at h'; exact d (Option.some.inj h')
theorem o7 {H : Hp} {a b : Addr} {o : HO} (h : H a = some o) (h' : H b = none) : a ≠ b := by
 intro e; subst e; rw [h] at h'; cases h'
section
variable (P : Program) (w : World)
noncomputable def V3 (h : Heap) (a : Addr) (items : Array Value) : Prop := ∃ o, h.get? a = some o ∧ o.cls = .type "tuple" ∧ ∃ n, (o.data, o.dict) = (Data.seq items n, none)
theorem V3.tup {h : Heap} {a : Addr} {items : Array Value} (x : V3 h a items) : IsTup h a items := by
 obtain ⟨o, e, c, n, d⟩ := x
 exact ⟨o, e, c, n, (Prod.mk.inj d).1⟩
theorem V3.new (h : Heap) (items : Array Value) : V3 (h.push { cls := .type "tuple", data := .seq items }) h.objs.size items := ⟨_, Heap.get?_push_size _ rfl, rfl, _, rfl⟩
def N7 (H : Hp) (h : Heap) (a : Addr) : HO → Prop
 | .lst xs => xs.length ≤ sizeLine ∧ ∃ (its : List Value) (n : Nat), o5 xs its ∧ h.get? a = some { cls := .type "list", data := .seq its.toArray n }
 | .tup xs => xs.length ≤ sizeLine ∧ ∃ its : List Value, o5 xs its ∧ V3 h a its.toArray
 | .dK kvs => kvs.length ≤ sizeLine ∧ (a == sysModules) = false ∧ ∃ vs, KV kvs vs ∧ h.DictOf (J3 P w) a vs
 | .dT kvs => kvs.length ≤ sizeLine ∧ (a == sysModules) = false ∧ ∃ xs : List (List Key × Addr × Value),
    Paired (fun (p : List Key × V) (q : List Key × Addr × Value) => p.1 = q.1 ∧ H q.2.1 = some (.tup (p.1.map kV)) ∧ o4 p.2 q.2.2) kvs xs ∧
    ∃ o es ep, h.get? a = some o ∧ o.ExactDict ∧ o.data = .dict es ep ∧ es.toList = xs.map (entryOfKey (tupleKind (J3 P w))) ∧ (xs.map (·.1)).Nodup
 | .set S n => h.SetOf (intKind P w) a S n
 | .ins C dx fs => H dx = some (.own a) ∧ fs.length ≤ 1000 ∧ dx ≠ a ∧ h.get? a = some (PySem.W.instObj C dx) ∧
    ∃ mA, h.Ns1 dx mA ∧ (∀ f, bB0 (fs.lookup f) (mA f)) ∧ PySem.Within mA (fs.map (·.1))
 | .own _ => ∃ o, h.get? a = some o
 | .xd fs => ∃ mA, h.Ns1 a mA ∧ ∀ f, bB0 (fs.lookup f) (mA f)
 | .rng lo hi => ∃ t u v, h.get? a = some { cls := .type "range", data := .fields #[.int lo t, .int hi u, .int 1 v] }
 | .frz o u => h.get? a = some o ∧ N7 H h a u
 | .tbl ps => h.get? a = some { cls := .none, data := .fields ps }
 | .met f x => h.get? a = some (PySem.W.methodObj (.ref f) (.ref x))
 | .ext φ => φ h ∧ (∃ o, h.get? a = some o) ∧ ∀ h1 h2 : Heap, φ h1 → (∀ o, h1.get? a = some o → h2.get? a = some o) → φ h2
def HOk (H : Hp) (h : Heap) : Prop := ∀ a o, H a = some o → N7 P w H h a o
end
section
variable {P : Program} {w : World} {H H' : Hp} {h h' : Heap} {a : Addr} {o : HO}
theorem N7.lt (x : N7 P w H h a o) : a < h.objs.size := by
 cases o with
 | lst xs => obtain ⟨_, _, _, _, e⟩ := x; exact Heap.lt_size e
 | tup xs => obtain ⟨_, _, _, p⟩ := x; exact (V3.tup p).lt
 | dK kvs => obtain ⟨_, _, _, _, o, _, _, e, _⟩ := x; exact Heap.lt_size e
 | dT kvs => obtain ⟨_, _, _, _, o, _, _, e, _⟩ := x; exact Heap.lt_size e
 | set S n => obtain ⟨o, _, _, _, e, _⟩ := x; exact Heap.lt_size e
 | ins C dx fs => obtain ⟨_, _, _, e, _⟩ := x; exact Heap.lt_size e
 | own y => obtain ⟨_, e⟩ := x; exact Heap.lt_size e
 | xd fs => obtain ⟨_, ⟨_, _, _, e, _⟩, _⟩ := x; exact Heap.lt_size e
 | rng lo hi => obtain ⟨_, _, _, e⟩ := x; exact Heap.lt_size e
 | frz ob u => obtain ⟨e, _⟩ := x; exact Heap.lt_size e
 | tbl ps => exact Heap.lt_size (show h.get? a = some _ from x)
 | met f y => exact Heap.lt_size (show h.get? a = some _ from x)
 | ext φ => obtain ⟨_, ⟨_, e⟩, _⟩ := x; exact Heap.lt_size e
theorem Paired.mapP {α β : Type} {F G : α → β → Prop} {l₁ : List α} {l₂ : List β} (h : Paired F l₁ l₂) (f : ∀ a b, F a b → G a b) : Paired G l₁ l₂ := by
 induction h with
 | nil => exact .nil
 | cons r t ih => exact .cons (f _ _ r) ih
theorem N7.stay (x : N7 P w H h a o) (k : ∀ b u, (b = a ∨ H b = some (.own a)) → h.get? b = some u → h'.get? b = some u)
 (ho : ∀ b, H b = some (.own a) → H' b = some (.own a)) (ht : ∀ b xs, H b = some (.tup xs) → H' b = some (.tup xs)) : N7 P w H' h' a o := by
 induction o with
 | lst xs => obtain ⟨z, its, n, r, e⟩ := x; exact ⟨z, its, n, r, k _ _ (.inl rfl) e⟩
 | tup xs => obtain ⟨z, its, r, ob, e, c⟩ := x; exact ⟨z, its, r, ob, k _ _ (.inl rfl) e, c⟩
 | dK kvs => obtain ⟨z, y, vs, r, ob, es, ep, e, c⟩ := x; exact ⟨z, y, vs, r, ob, es, ep, k _ _ (.inl rfl) e, c⟩
 | dT kvs =>
   obtain ⟨z, y, xs, r, ob, es, ep, e, c⟩ := x
   exact ⟨z, y, xs, Paired.mapP r fun p q z => ⟨z.1, ht _ _ z.2.1, z.2.2⟩, ob, es, ep, k _ _ (.inl rfl) e, c⟩
 | set S n => obtain ⟨ob, es, ep, t, e, c⟩ := x; exact ⟨ob, es, ep, t, k _ _ (.inl rfl) e, c⟩
 | ins C dx fs =>
   obtain ⟨d, z, ne, e, mA, ⟨od, es, ep, e2, c⟩, r⟩ := x
   exact ⟨ho _ d, z, ne, k _ _ (.inl rfl) e, mA, ⟨od, es, ep, k _ _ (.inr d) e2, c⟩, r⟩
 | own y => obtain ⟨ob, e⟩ := x; exact ⟨ob, k _ _ (.inl rfl) e⟩
 | xd fs => obtain ⟨mA, ⟨od, es, ep, e, c⟩, r⟩ := x; exact ⟨mA, ⟨od, es, ep, k _ _ (.inl rfl) e, c⟩, r⟩
 | rng lo hi => obtain ⟨t, u, v, e⟩ := x; exact ⟨t, u, v, k _ _ (.inl rfl) e⟩
 | frz ob u ih => obtain ⟨e, q⟩ := x; exact ⟨k _ _ (.inl rfl) e, ih q⟩
 | tbl ps =>
   have e : h.get? a = some { cls := .none, data := .fields ps } := x
   show h'.get? a = some { cls := .none, data := .fields ps }
   exact k a _ (.inl rfl) e
 | met f y =>
   have e : h.get? a = some (PySem.W.methodObj (.ref f) (.ref y)) := x
   show h'.get? a = some (PySem.W.methodObj (.ref f) (.ref y))
   exact k a _ (.inl rfl) e
 | ext φ => obtain ⟨p, ⟨o, e⟩, st⟩ := x; exact ⟨st _ _ p fun o q => k _ _ (.inl rfl) q, ⟨o, k _ _ (.inl rfl) e⟩, st⟩
theorem HOk.lt (x : HOk P w H h) (e : H a = some o) : a < h.objs.size := (x a o e).lt
theorem HOk.fresh (x : HOk P w H h) (e : h.objs.size ≤ a) : H a = none := by
 cases q : H a with
 | none => rfl
 | some u => exact absurd (Nat.lt_of_lt_of_le (x.lt q) e) (Nat.lt_irrefl _)
theorem HOk.kept (x : HOk P w H h) (k : ∀ b u, h.get? b = some u → h'.get? b = some u) : HOk P w H h' := fun a o e =>
 (x a o e).stay (fun b u _ q => k b u q) (fun _ q => q) fun _ _ q => q
theorem HOk.laid (x : HOk P w H h) (k : ∀ b u, h.get? b = some u → h'.get? b = some u) (hp : h.objs.size ≤ a) (new : N7 P w (upd H a o) h' a o) : HOk P w (upd H a o) h' := fun b u e => by
 have hn := x.fresh hp
 by_cases hb : b = a
 · subst hb; rw [v8] at e; cases e; exact new
 · rw [m5 hb] at e
   exact (x b u e).stay (fun c v _ q => k c v q) (fun c q => by rw [m5 (o7 q hn)]; exact q) fun c xs q => by rw [m5 (o7 q hn)]; exact q
end
noncomputable def Rd (H : Hp) (a : Addr) (u : HO) : Prop := H a = some u ∨ ∃ o, H a = some (.frz o u)
theorem Rd.of {H : Hp} {a : Addr} {u : HO} (h : H a = some u) : Rd H a u := .inl h
theorem Rd.ok {P : Program} {w : World} {H : Hp} {h : Heap} {a : Addr} {u : HO} (r : Rd H a u) (x : HOk P w H h) : N7 P w H h a u := by
 rcases r with r | ⟨o, r⟩
 · exact x a u r
 · obtain ⟨_, q⟩ := x a _ r
   exact q
noncomputable def Mut : Option HO → Prop
 | some (.lst _) => True
 | some (.dK _) => True
 | some (.dT _) => True
 | some (.set _ _) => True
 | some (.ins _ _ _) => True
 | some (.ext _) => True
 | _ => False
section
variable {P : Program} {w : World} {H : Hp} {h h' : Heap} {x e : Addr} {o' : HO}
theorem HOk.write (ok : HOk P w H h) (mu : Mut (H x)) (he : e = x ∨ H e = some (.own x)) (k : ∀ b u, b ≠ e → h.get? b = some u → h'.get? b = some u) (heo : ∃ u, h'.get? e = some u)
 (new : N7 P w (upd H x o') h' x o') : HOk P w (upd H x o') h' := fun b u q => by
 have nown : ∀ c y, H c = some (.own y) → c ≠ x := fun c y r z => by subst z; rw [r] at mu; exact mu
 have ntup : ∀ c xs, H c = some (.tup xs) → c ≠ x := fun c xs r z => by subst z; rw [r] at mu; exact mu
 by_cases hb : b = x
 · subst hb; rw [v8] at q; cases q; exact new
 · rw [m5 hb] at q
   by_cases hbe : b = e
   · have q' : H b = some (.own x) := by
      rcases he with z | z
      · exact absurd (hbe.trans z) hb
      · rw [hbe]; exact z
     rw [q] at q'; cases q'
     obtain ⟨v, hv⟩ := heo
     exact ⟨v, by rw [hbe]; exact hv⟩
   · refine (ok b u q).stay (fun c v hc r => k c v ?_ r) (fun c r => by rw [m5 (nown c b r)]; exact r) fun c xs r => by rw [m5 (ntup c xs r)]; exact r
     rcases hc with rfl | hc
     · exact hbe
     · rintro rfl
       rcases he with z | z
       · exact nown c b hc z
       · rw [hc] at z; cases z; exact hb rfl
end
structure Un (fs ex : List Addr) (H H' : Hp) (h h' : Heap) : Prop where
 keep : ∀ b o, h.get? b = some o → H b = none → b ∉ fs → b ∉ ex → h'.get? b = some o
 slot : ∀ b o, h.get? b = some o → H b = none → b ∈ fs → b ∉ ex → ∃ sl, h'.get? b = some { o with slots := sl }
 free : ∀ b o, h.get? b = some o → H b = none → b ∉ ex → H' b = none
 there : ∀ b o, h.get? b = some o → b ∉ ex → ∃ o', h'.get? b = some o'
 tups : ∀ b xs, H b = some (.tup xs) → H' b = some (.tup xs)
 frzs : ∀ b o u, H b = some (.frz o u) → H' b = some (.frz o u)
 tbls : ∀ b ps, H b = some (.tbl ps) → ∃ more, H' b = some (.tbl (ps ++ more))
section
variable {fs fs' ex ex' : List Addr} {H H1 H2 : Hp} {h h1 h2 h' : Heap} {a x e : Addr} {o : HO}
theorem Un.any (u : Un fs ex H H1 h h1) {b : Addr} {ob : Obj} (q : h.get? b = some ob) (n : H b = none) (hx : b ∉ ex) : ∃ sl, h1.get? b = some { ob with slots := sl } := by
 by_cases hb : b ∈ fs
 · exact u.slot b ob q n hb hx
 · exact ⟨ob.slots, u.keep b ob q n hb hx⟩
theorem Un.trans (a : Un fs ex H H1 h h1) (b : Un fs ex H1 H2 h1 h2) : Un fs ex H H2 h h2 where
 keep := fun c ob q n hc hx => b.keep c ob (a.keep c ob q n hc hx) (a.free c ob q n hx) hc hx
 slot := fun c ob q n hc hx => by
  obtain ⟨sl, e1⟩ := a.slot c ob q n hc hx
  obtain ⟨sl', e2⟩ := b.slot c _ e1 (a.free c ob q n hx) hc hx
  exact ⟨sl', e2⟩
 free := fun c ob q n hx => by
  obtain ⟨o', e1⟩ := a.there c ob q hx
  exact b.free c o' e1 (a.free c ob q n hx) hx
 there := fun c ob q hx => by
  obtain ⟨o', e1⟩ := a.there c ob q hx
  exact b.there c o' e1 hx
 tups := fun c xs q => b.tups c xs (a.tups c xs q)
 frzs := fun c ob xs q => b.frzs c ob xs (a.frzs c ob xs q)
 tbls := fun c ps q => by
  obtain ⟨m1, e1⟩ := a.tbls c ps q
  obtain ⟨m2, e2⟩ := b.tbls c _ e1
  exact ⟨m1 ++ m2, by rw [e2, Array.append_assoc]⟩
theorem Un.kept (k : ∀ b u, h.get? b = some u → h'.get? b = some u) : Un fs ex H H h h' :=
 ⟨fun b ob q _ _ _ => k b ob q, fun b ob q _ _ _ => ⟨ob.slots, k b ob q⟩, fun _ _ _ n _ => n, fun b ob q _ => ⟨ob, k b ob q⟩, fun _ _ q => q, fun _ _ _ q => q, fun _ ps q => ⟨#[], by rw [q]; simp⟩⟩
theorem Un.refl : Un fs ex H H h h := Un.kept fun _ _ q => q
theorem Un.laid (k : ∀ b u, h.get? b = some u → h'.get? b = some u) (hp : h.objs.size ≤ a) (hn : H a = none) : Un fs ex H (upd H a o) h h' where
 keep := fun b u q _ _ _ => k b u q
 slot := fun b u q _ _ _ => ⟨u.slots, k b u q⟩
 free := fun b u q n _ => by rw [m5 (Nat.ne_of_lt (Nat.lt_of_lt_of_le (Heap.lt_size q) hp))]; exact n
 there := fun b u q _ => ⟨u, k b u q⟩
 tups := fun b xs q => by rw [m5 (o7 q hn)]; exact q
 frzs := fun b u xs q => by rw [m5 (o7 q hn)]; exact q
 tbls := fun b ps q => ⟨#[], by rw [m5 (o7 q hn), q]; simp⟩
theorem Un.write (mu : Mut (H x)) (he : e = x ∨ H e = some (.own x)) (k : ∀ b u, b ≠ e → h.get? b = some u → h'.get? b = some u) (heo : ∃ u, h'.get? e = some u) : Un fs ex H (upd H x o) h h' := by
 have hx : ∀ b, H b = none → b ≠ x := fun b n z => by subst z; rw [n] at mu; exact mu
 have hb : ∀ b, H b = none → b ≠ e := fun b n z => by
  subst z
  rcases he with r | r
  · exact hx b n r
  · rw [n] at r; cases r
 have hm : ∀ b u, H b = some u → ¬ Mut (some u) → b ≠ x := fun b u q nm z => by subst z; rw [q] at mu; exact nm mu
 refine ⟨fun b u q n _ _ => k b u (hb b n) q, fun b u q n _ _ => ⟨u.slots, k b u (hb b n) q⟩, fun b u q n _ => by rw [m5 (hx b n)]; exact n, fun b u q _ => ?_,
  fun b xs q => by rw [m5 (hm b _ q fun z => z)]; exact q, fun b u xs q => by rw [m5 (hm b _ q fun z => z)]; exact q, fun b ps q => ⟨#[], by rw [m5 (hm b _ q fun z => z), q]; simp⟩⟩
 by_cases hbe : b = e
 · subst hbe; exact heo
 · exact ⟨u, k b u hbe q⟩
theorem Un.mono (u : Un fs ex H H1 h h1) (hs : ∀ b ∈ fs, b ∈ fs') (hx : ∀ b ∈ ex, b ∈ ex') : Un fs' ex' H H1 h h1 :=
 ⟨fun b ob q n hb he => u.keep b ob q n (fun z => hb (hs b z)) fun z => he (hx b z), fun _ _ q n _ he => u.any q n fun z => he (hx _ z), fun b ob q n he => u.free b ob q n fun z => he (hx b z), fun b ob q he => u.there b ob q fun z => he (hx b z), u.tups, u.frzs, u.tbls⟩
end
noncomputable def trk (h : Heap) (H : Hp) : List Addr := (List.range h.objs.size).filter fun a => (H a).isSome
def bH8 (h : Heap) (H : Hp) : Heap := PySem.W.hideAll h (trk h H)
theorem cB3 (h : Heap) (H : Hp) : (bH8 h H).objs.size = h.objs.size := PySem.W.hideAll_size _ _
theorem cL4 {h : Heap} {H : Hp} {b : Addr} {o : Obj} (e : h.get? b = some o) (n : H b = none) : (bH8 h H).get? b = some o :=
 PySem.W.hideAll_get _ e fun hm => by
  have q : (H b).isSome = true := (List.mem_filter.mp hm).2
  rw [n] at q; simp at q
theorem cO0 {h : Heap} {H : Hp} {b : Addr} {o : Obj} (e : (bH8 h H).get? b = some o) : h.get? b = some o ∧ H b = none := by
 have e' : h.get? b = some o := PySem.W.of_hideAll (trk h H) e
 refine ⟨e', ?_⟩
 cases q : H b with
 | none => rfl
 | some x =>
   have hm : b ∈ trk h H := List.mem_filter.mpr ⟨List.mem_range.mpr (Heap.lt_size e'), by simp [q]⟩
   have z : (bH8 h H).get? b = none := PySem.W.hideAll_none (trk h H) hm
   rw [z] at e; cases e
noncomputable def cO7 (g h : Heap) (L : Addr) : PNS := (List.range h.objs.size).filterMap fun a => if a = L ∨ (g.get? a).isSome = true then none else (h.get? a).map fun o => (a, o)
def t8 (g h : Heap) (L d : Addr) : PNS := (cO7 g h L).filter fun p => decide (p.1 ≠ d)
structure Mod (K : PySem.W.Frag) (mg : Str → Option Value) (base : Heap) : Prop where
 kin : K.In base
 glob : base.Ns mainGlobals mg
 blt : ∃ mb, base.Ns builtinsNs mb ∧ ∀ x : Str, x ≠ "__name__" → mb x = bootBuiltins x
 nolimit : base.NoLimit
structure Cx where
 prog : Program
 w : World
 K : PySem.W.Frag
 mg : Str → Option Value
 base : Heap
 A : Around
 N : List Str
 s₀ : Shared
 H₀ : Hp
 env : Env
 outer : List Env
 stack : List Env
 ex : List Addr
 fn : Str → Bool
 calm : Bool
 pn : PNS
 xe : VSP
noncomputable def frs (l : List Env) : List Addr := l.filterMap (·.frame)
abbrev Cx.fs (X : Cx) : List Addr := frs X.outer
noncomputable def Vis (sc : Scope) (x : Str) : Prop := sc.names.lookup x = some .local ∨ sc.names.lookup x = some .cell ∨ sc.names.lookup x = some .free
noncomputable def Loc (sc : Scope) (x : Str) : Prop := sc.names.lookup x = some .local ∨ sc.names.lookup x = some .cell
noncomputable def dO0 (env : Env) (h : Heap) (m : Str → Option Value) (x : Str) (u : Value) : Prop :=
 (env.kindOf x = some .local ∧ m x = some u) ∨ ((env.kindOf x = some .cell ∨ env.kindOf x = some .free) ∧ ∃ c, env.cells.lookup x = some c ∧ h.IsCell c (some u))
structure Cx.Ok (X : Cx) : Prop where
 mod : Mod X.K X.mg X.base
 kind : X.env.scope.kind = .function
 glob : X.env.globals = mainGlobals
 blt : X.env.builtins = builtinsNs
 above : X.s₀.heap.objs.size ≤ X.env.locals
 inj : ∀ x y c, X.env.cells.lookup x = some c → X.env.cells.lookup y = some c → x = y
 has : ∀ x, (X.env.kindOf x = some .cell ∨ X.env.kindOf x = some .free) → ∃ c, X.env.cells.lookup x = some c
 cab : ∀ x c, X.fn x = true → X.env.cells.lookup x = some c → X.s₀.heap.objs.size ≤ c
 hd : X.calm = true → X.A.handled = none
 frames : X.A.frames = some X.stack
 stk : X.stack = X.outer ∨ (X.stack = X.env :: X.outer ∧ X.env.frame = some X.env.locals)
 exf : ∀ b ∈ X.ex, b ≠ X.env.locals ∧ ∀ x c, X.env.cells.lookup x = some c → c ≠ b
 bs : ∀ b o, X.base.get? b = some o → X.s₀.heap.get? b = some o ∧ X.H₀ b = none
 bsz : X.base.objs.size ≤ X.s₀.heap.objs.size
 noex : ∀ b o, X.base.get? b = some o → b ∉ X.ex
 exfs : ∀ b ∈ X.ex, b ∉ X.fs
 funs : X.s₀.heap.FunFrames X.base X.outer
 frf : ∀ b ∈ X.fs, X.H₀ b = none
structure Inv (X : Cx) (pins : PNS) (σ : List (Option V)) (H : Hp) (s : Shared) : Prop where
 ok : X.Ok
 os : s.os = X.s₀.os
 bare : AllBare s.gens
 base : Un X.fs X.ex X.H₀ H X.s₀.heap s.heap
 loc : ∃ m, s.heap.Ns X.env.locals m ∧ ∀ (i : Nat) (x : Str) (v : V), X.N[i]? = some x → σ[i]? = some (some v) → Vis X.env.scope x → ∃ u, o4 v u ∧ dO0 X.env s.heap m x u
 cell : ∀ x c, X.env.cells.lookup x = some c → ∃ v, s.heap.IsCell c v
 free : H X.env.locals = none
 freeC : ∀ x c, X.env.cells.lookup x = some c → H c = none
 pin : ∀ p ∈ X.pn ++ pins, s.heap.get? p.1 = some p.2 ∧ H p.1 = none ∧ p.1 ≠ X.env.locals ∧ p.1 ∉ X.fs ∧ ∀ v, p.2.data ≠ .cell v
 hok : HOk X.prog X.w H s.heap
 len : σ.length = X.N.length
section
variable {X : Cx} {pins : PNS} {σ : List (Option V)} {H H' : Hp} {s : Shared} {h' : Heap}
theorem Cx.Ok.nofr (ok : X.Ok) {b : Addr} {o : Obj} (e : X.base.get? b = some o) : b ∉ X.fs := fun hb => by
 have := (ok.funs.mem hb).1
 rw [e] at this; cases this
theorem Inv.bs (I : Inv X pins σ H s) : ∀ b o, X.base.get? b = some o → s.heap.get? b = some o ∧ H b = none := fun b o e =>
 ⟨I.base.keep b o (I.ok.bs b o e).1 (I.ok.bs b o e).2 (I.ok.nofr e) (I.ok.noex b o e), I.base.free b o (I.ok.bs b o e).1 (I.ok.bs b o e).2 (I.ok.noex b o e)⟩
theorem Inv.bk (I : Inv X pins σ H s) : ∀ b o, X.base.get? b = some o → s.heap.get? b = some o := fun b o e => (I.bs b o e).1
theorem Inv.mod (I : Inv X pins σ H s) : Mod X.K X.mg X.base := I.ok.mod
theorem Inv.kIn (I : Inv X pins σ H s) : X.K.In s.heap := I.ok.mod.kin.keeps I.bk
theorem Inv.nolimit (I : Inv X pins σ H s) : s.heap.NoLimit := I.ok.mod.nolimit.keeps I.bk
theorem Inv.lt (I : Inv X pins σ H s) : X.env.locals < s.heap.objs.size := let ⟨_, hn, _⟩ := I.loc; hn.lt
theorem Inv.sz (I : Inv X pins σ H s) : X.s₀.heap.objs.size ≤ s.heap.objs.size := Nat.le_trans I.ok.above (Nat.le_of_lt I.lt)
theorem Inv.nofs (I : Inv X pins σ H s) {a : Addr} (h : s.heap.objs.size ≤ a) : a ∉ X.fs := fun hb => by
 obtain ⟨_, o, ho, _⟩ := I.ok.funs.mem hb
 exact absurd (Nat.lt_of_lt_of_le (Heap.lt_size ho) (Nat.le_trans I.sz h)) (Nat.lt_irrefl _)
theorem Inv.cne (I : Inv X pins σ H s) : ∀ x c, X.env.cells.lookup x = some c → c ≠ X.env.locals := fun x c e z => by
 obtain ⟨v, o, ho, hd⟩ := I.cell x c e
 obtain ⟨m, ⟨o', es, ep, ho', hd', _⟩, _⟩ := I.loc
 rw [z, ho'] at ho; cases ho; rw [hd'] at hd; cases hd
theorem Inv.funs (I : Inv X pins σ H s) : s.heap.FunFrames X.base X.outer := by
 have all : ∀ (l : List Env), (∀ b ∈ frs l, b ∈ X.fs) → X.s₀.heap.FunFrames X.base l → s.heap.FunFrames X.base l := by
  intro l
  induction l with
  | nil => intro _ _; trivial
  | cons env r ih =>
    intro hs hl
    obtain ⟨hk, ⟨L, o, hf, hn, ho, hd⟩, hr⟩ := hl
    have hL : L ∈ X.fs := hs L (by unfold frs; rw [List.filterMap_cons, hf]; exact List.mem_cons_self)
    obtain ⟨sl, e⟩ := I.base.slot L o ho (I.ok.frf L hL) hL fun z => I.ok.exfs L z hL
    exact ⟨hk, ⟨L, _, hf, hn, e, hd⟩, ih (fun b hb => hs b (by unfold frs; rw [List.filterMap_cons, hf]; exact List.mem_cons_of_mem _ hb)) hr⟩
 exact all X.outer (fun _ hb => hb) I.ok.funs
theorem Inv.stack (I : Inv X pins σ H s) : s.heap.FunFrames X.base X.stack := by
 rcases I.ok.stk with e | ⟨e, hf⟩
 · rw [e]; exact I.funs
 · rw [e]
   obtain ⟨m, hn, _⟩ := I.loc
   refine .cons (by rw [I.ok.kind]; decide) hf hn ?_ I.funs
   exact Heap.get?_none_of_le (Nat.le_trans I.ok.bsz I.ok.above)
theorem Inv.stkSub (I : Inv X pins σ H s) : ∀ b ∈ frs X.stack, b ∈ X.env.locals :: X.fs := fun b hb => by
 rcases I.ok.stk with e | ⟨e, hf⟩
 · rw [e] at hb; exact List.mem_cons_of_mem _ hb
 · rw [e] at hb
   unfold frs at hb
   rw [List.filterMap_cons, hf] at hb
   exact hb
theorem Inv.stkFree (I : Inv X pins σ H s) : ∀ b ∈ frs X.stack, H b = none := fun b hb => by
 rcases List.mem_cons.mp (I.stkSub b hb) with e | hb
 · rw [e]; exact I.free
 · obtain ⟨_, o, ho, _⟩ := I.ok.funs.mem hb
   exact I.base.free b o ho (I.ok.frf b hb) fun z => I.ok.exfs b z hb
theorem Inv.step {g' : Array GenState} {t' : Nat} {d' : Drawn} {ch : List Addr} (I : Inv X pins σ H s)
 (hch : ∀ b ∈ ch, (b ∈ X.ex ∨ X.s₀.heap.objs.size ≤ b) ∧ b ≠ X.env.locals ∧ (∀ x c, X.env.cells.lookup x = some c → c ≠ b) ∧ ∀ p ∈ X.pn ++ pins, p.1 ≠ b)
 (keep : ∀ b o, b ≠ X.env.locals → b ∉ X.fs → b ∉ ch → s.heap.get? b = some o → H b = none → h'.get? b = some o)
 (slot : ∀ b o, b ≠ X.env.locals → b ∈ X.fs → b ∉ ch → s.heap.get? b = some o → H b = none → ∃ sl, h'.get? b = some { o with slots := sl }) (free : ∀ b o, b ∉ ch → s.heap.get? b = some o → H b = none → H' b = none)
 (there : ∀ b o, b ∉ ch → s.heap.get? b = some o → ∃ o', h'.get? b = some o')
 (tups : ∀ b xs, H b = some (.tup xs) → H' b = some (.tup xs)) (frzs : ∀ b o u, H b = some (.frz o u) → H' b = some (.frz o u)) (tbls : ∀ b ps, H b = some (.tbl ps) → ∃ more, H' b = some (.tbl (ps ++ more)))
 (ns : ∀ m, s.heap.Ns X.env.locals m → h'.Ns X.env.locals m) (hok : HOk X.prog X.w H' h') (hg : AllBare g') :
 Inv X pins σ H' { s with heap := h', gens := g', drawn := d', toks := t' } := by
 have neL : ∀ b o, X.s₀.heap.get? b = some o → b ≠ X.env.locals := fun b o e => Nat.ne_of_lt (Nat.lt_of_lt_of_le (Heap.lt_size e) I.ok.above)
 have neC : ∀ b o, X.s₀.heap.get? b = some o → b ∉ X.ex → b ∉ ch := fun b o e hx hb => by
  rcases (hch b hb).1 with z | z
  · exact hx z
  · exact absurd (Nat.lt_of_lt_of_le (Heap.lt_size e) z) (Nat.lt_irrefl _)
 have cellK : ∀ x c, X.env.cells.lookup x = some c → ∀ v, s.heap.IsCell c v → h'.IsCell c v := fun x c e v ⟨o, ho, hd⟩ => by
  have nch : c ∉ ch := fun z => (hch c z).2.2.1 x c e rfl
  by_cases hc : c ∈ X.fs
  · obtain ⟨sl, q⟩ := slot c o (I.cne x c e) hc nch ho (I.freeC x c e)
    exact ⟨_, q, hd⟩
  · exact ⟨o, keep c o (I.cne x c e) hc nch ho (I.freeC x c e), hd⟩
 refine ⟨I.ok, I.os, hg, ⟨fun b o e n hb hx => ?_, fun b o e n hb hx => ?_, fun b o e n hx => ?_, fun b o e hx => ?_, fun b xs e => tups b xs (I.base.tups b xs e), fun b o xs e => frzs b o xs (I.base.frzs b o xs e), fun b ps e => ?_⟩, ?_, fun x c e => ?_, ?_, fun x c e => ?_, fun p hp => ?_, hok, I.len⟩
 · exact keep b o (neL b o e) hb (neC b o e hx) (I.base.keep b o e n hb hx) (I.base.free b o e n hx)
 · obtain ⟨sl, e1⟩ := I.base.slot b o e n hb hx
   obtain ⟨sl', e2⟩ := slot b _ (neL b o e) hb (neC b o e hx) e1 (I.base.free b o e n hx)
   exact ⟨sl', e2⟩
 · obtain ⟨o', e1⟩ := I.base.there b o e hx
   exact free b o' (neC b o e hx) e1 (I.base.free b o e n hx)
 · obtain ⟨o', e1⟩ := I.base.there b o e hx
   exact there b o' (neC b o e hx) e1
 · obtain ⟨m1, e1⟩ := I.base.tbls b ps e
   obtain ⟨m2, e2⟩ := tbls b _ e1
   exact ⟨m1 ++ m2, by rw [e2, Array.append_assoc]⟩
 · obtain ⟨m, hn, hl⟩ := I.loc
   refine ⟨m, ns m hn, fun i x v e1 e2 e3 => ?_⟩
   obtain ⟨u, r, l⟩ := hl i x v e1 e2 e3
   refine ⟨u, r, ?_⟩
   rcases l with l | ⟨k, c, e, z⟩
   · exact .inl l
   · exact .inr ⟨k, c, e, cellK x c e _ z⟩
 · obtain ⟨v, z⟩ := I.cell x c e
   exact ⟨v, cellK x c e v z⟩
 · obtain ⟨m, ⟨o, _, _, ho, _⟩, _⟩ := I.loc
   exact free _ o (fun z => (hch _ z).2.1 rfl) ho I.free
 · obtain ⟨v, o, ho, hd⟩ := I.cell x c e
   exact free c o (fun z => (hch c z).2.2.1 x c e rfl) ho (I.freeC x c e)
 · obtain ⟨e, n, ne, nf, d⟩ := I.pin p hp
   have nch : p.1 ∉ ch := fun z => (hch p.1 z).2.2.2 p hp rfl
   exact ⟨keep p.1 p.2 ne nf nch e n, free p.1 p.2 nch e n, ne, nf, d⟩
theorem Inv.un {t' : Nat} (I : Inv X pins σ H s) (u : Un X.fs [] H H' s.heap h') (hok : HOk X.prog X.w H' h') : Inv X pins σ H' { s with heap := h', toks := t' } := by
 obtain ⟨m, ⟨o, es, ep, ho, r⟩, _⟩ := id I.loc
 obtain ⟨sl, hL⟩ := u.any ho I.free (by simp)
 exact I.step (g' := s.gens) (d' := s.drawn) (ch := []) (fun _ z => nomatch z) (fun b o _ hb _ e n => u.keep b o e n hb (by simp)) (fun b o _ hb _ e n => u.slot b o e n hb (by simp)) (fun b o _ e n => u.free b o e n (by simp)) (fun b o _ e => u.there b o e (by simp)) u.tups u.frzs u.tbls (fun m' hm => by
  obtain ⟨o', es', ep', ho', r'⟩ := hm
  rw [ho] at ho'; cases ho'
  exact ⟨_, es', ep', hL, r'⟩) hok I.bare
theorem Inv.call {g' : Array GenState} {t' : Nat} {d' : Drawn} {ch : List Addr} (I : Inv X pins σ H s) (u : Un (frs X.stack) ch H H' s.heap h') (hok : HOk X.prog X.w H' h') (hg : AllBare g')
 (hch : ∀ b ∈ ch, (b ∈ X.ex ∨ X.s₀.heap.objs.size ≤ b) ∧ b ≠ X.env.locals ∧ (∀ x c, X.env.cells.lookup x = some c → c ≠ b) ∧ ∀ p ∈ X.pn ++ pins, p.1 ≠ b) :
 Inv X pins σ H' { s with heap := h', gens := g', drawn := d', toks := t' } := by
 obtain ⟨m, ⟨o, es, ep, ho, r⟩, _⟩ := id I.loc
 obtain ⟨sl, hL⟩ := u.any ho I.free fun z => (hch _ z).2.1 rfl
 exact I.step (ch := ch) hch (fun b o hL hb hc e n => u.keep b o e n (fun z => (List.mem_cons.mp (I.stkSub b z)).elim hL hb) hc) (fun b o _ _ hc e n => u.any e n hc) (fun b o hc e n => u.free b o e n hc) (fun b o hc e => u.there b o e hc) u.tups u.frzs u.tbls (fun m' hm => by
  obtain ⟨o', es', ep', ho', r'⟩ := hm
  rw [ho] at ho'; cases ho'
  exact ⟨_, es', ep', hL, r'⟩) hok hg
theorem Inv.turned {t' : Nat} {it : Addr} (I : Inv X pins σ H s) (k : ∀ b o, b ≠ it → s.heap.get? b = some o → h'.get? b = some o) (hn : H it = none) (hL : it ≠ X.env.locals)
 (h1 : it ∈ X.ex ∨ X.s₀.heap.objs.size ≤ it) (h2 : ∀ x c, X.env.cells.lookup x = some c → c ≠ it) (h3 : ∀ p ∈ X.pn ++ pins, p.1 ≠ it) : Inv X pins σ H { s with heap := h', toks := t' } := by
 have nit : ∀ b u, H b = some u → b ≠ it := fun b u e z => by rw [z, hn] at e; cases e
 refine I.step (g' := s.gens) (d' := s.drawn) (ch := [it]) (fun b hb => ?_) (fun b o _ _ hc e _ => k b o (fun z => hc (by simp [z])) e) (fun b o _ _ hc e _ => ⟨o.slots, k b o (fun z => hc (by simp [z])) e⟩) (fun _ _ _ _ n => n)
  (fun b o hc e => ⟨o, k b o (fun z => hc (by simp [z])) e⟩) (fun _ _ e => e) (fun _ _ _ e => e) (fun b ps e => ⟨#[], by rw [e]; simp⟩) (fun m hm => ?_) (fun b u e => ?_) I.bare
 · have e : b = it := by simpa using hb
   subst e
   exact ⟨h1, hL, h2, h3⟩
 · obtain ⟨o, es, ep, ho, r⟩ := hm
   exact ⟨o, es, ep, k _ o (Ne.symm hL) ho, r⟩
 · refine (I.hok b u e).stay (fun c v hc q => k c v ?_ q) (fun _ q => q) fun _ _ q => q
   rcases hc with z | z
   · rw [z]; exact nit b u e
   · exact nit c _ z
theorem Inv.tok (I : Inv X pins σ H s) (t : Nat) : Inv X pins σ H { s with toks := t } := I.un (h' := s.heap) (t' := t) Un.refl I.hok
theorem Inv.kept {t' : Nat} (I : Inv X pins σ H s) (k : ∀ b u, s.heap.get? b = some u → h'.get? b = some u) : Inv X pins σ H { s with heap := h', toks := t' } := I.un (Un.kept k) (I.hok.kept k)
theorem Inv.laid {a : Addr} {o : HO} {t' : Nat} (I : Inv X pins σ H s) (k : ∀ b u, s.heap.get? b = some u → h'.get? b = some u) (hp : s.heap.objs.size ≤ a) (new : N7 X.prog X.w (upd H a o) h' a o) :
 Inv X pins σ (upd H a o) { s with heap := h', toks := t' } := I.un (Un.laid k hp (I.hok.fresh hp)) (I.hok.laid k hp new)
theorem Inv.write {x e : Addr} {o : HO} {t' : Nat} (I : Inv X pins σ H s) (mu : Mut (H x)) (he : e = x ∨ H e = some (.own x)) (k : ∀ b u, b ≠ e → s.heap.get? b = some u → h'.get? b = some u) (heo : ∃ u, h'.get? e = some u)
 (new : N7 X.prog X.w (upd H x o) h' x o) : Inv X pins σ (upd H x o) { s with heap := h', toks := t' } := I.un (Un.write mu he k heo) (I.hok.write mu he k heo new)
theorem Inv.pins_of {pins' : PNS} (I : Inv X pins σ H s) (h : ∀ p ∈ pins', s.heap.get? p.1 = some p.2 ∧ H p.1 = none ∧ p.1 ≠ X.env.locals ∧ p.1 ∉ X.fs ∧ ∀ v, p.2.data ≠ .cell v) : Inv X pins' σ H s :=
 ⟨I.ok, I.os, I.bare, I.base, I.loc, I.cell, I.free, I.freeC, fun p hp => (List.mem_append.mp hp).elim (fun z => I.pin p (List.mem_append_left _ z)) (h p), I.hok, I.len⟩
theorem bN3 {N : List Str} (hN : N.Nodup) {i j : Nat} {x : Str} (a : N[i]? = some x) (b : N[j]? = some x) : i = j := by
 obtain ⟨h1, e1⟩ := List.getElem?_eq_some_iff.mp a
 obtain ⟨h2, e2⟩ := List.getElem?_eq_some_iff.mp b
 exact (List.getElem_inj hN).mp (e1.trans e2.symm)
theorem cC6 {M : Model} {A : Around} {E : VSP} {i : Nat} {x : Str} {v : V} {u : Value} {Q : Unit → Shared → Prop} (I : Inv X pins σ H s) (hN : X.N.Nodup) (hi : X.N[i]? = some x) (hx : Loc X.env.scope x) (r : o4 v u)
 (h : ∀ s', Inv X pins (σ.set i (some v)) H s' → (∃ a, Heap.SameBut a s.heap s'.heap ∧ (a = X.env.locals ∨ X.env.cells.lookup x = some a)) → Q () s') (hf : X.fn x = true ∨ X.env.scope.names.lookup x = some .local) : wpAny M A (storeName X.env x u) Q E s := by
 obtain ⟨m, hn, hl⟩ := id I.loc
 have hcls : (X.env.scope.kind == .class || (X.env.scope.kind == .module && X.env.locals != X.env.globals)) = false := by rw [I.ok.kind]; rfl
 have hiσ : i < σ.length := by rw [I.len]; exact (List.getElem?_eq_some_iff.mp hi).1
 have cne := I.cne
 have tracked : ∀ {a : Addr} {h' : Heap}, (∃ o, s.heap.get? a = some o ∧ H a = none) → Heap.SameBut a s.heap h' → HOk X.prog X.w H h' := fun {a h'} ha hs b ob e => by
  obtain ⟨_, _, hfree⟩ := ha
  refine (I.hok b ob e).stay (fun c w' hc q => (hs.2 c ?_).trans q) (fun _ q => q) fun _ _ q => q
  rintro rfl
  rcases hc with rfl | hc
  · rw [hfree] at e; cases e
  · rw [hfree] at hc; cases hc
 rcases hx with hk | hk
 · refine wpAny_storeName_local hk hn (fun h' hn' hs => ?_) hcls
   obtain ⟨oL, _, _, hoL, _⟩ := id hn
   refine h _ ⟨I.ok, I.os, I.bare, ⟨fun b o e n hb hx => ?_, fun b o e n hb hx => ?_, I.base.free, fun b o e hx => ?_, I.base.tups, I.base.frzs, I.base.tbls⟩, ⟨_, hn', fun j y v' e1 e2 e3 => ?_⟩, fun y c e => ?_, I.free, I.freeC, fun p hp => ?_, tracked ⟨oL, hoL, I.free⟩ hs, by simpa using I.len⟩ ⟨_, hs, .inl rfl⟩
   · exact (hs.2 b (Nat.ne_of_lt (Nat.lt_of_lt_of_le (Heap.lt_size e) I.ok.above))).trans (I.base.keep b o e n hb hx)
   · obtain ⟨sl, e1⟩ := I.base.slot b o e n hb hx
     exact ⟨sl, (hs.2 b (Nat.ne_of_lt (Nat.lt_of_lt_of_le (Heap.lt_size e) I.ok.above))).trans e1⟩
   · obtain ⟨o', e1⟩ := I.base.there b o e hx
     exact ⟨o', (hs.2 b (Nat.ne_of_lt (Nat.lt_of_lt_of_le (Heap.lt_size e) I.ok.above))).trans e1⟩
   · by_cases hj : j = i
     · subst hj
       rw [hi] at e1; cases e1
       rw [List.getElem?_set_self hiσ] at e2
       cases e2
       exact ⟨u, r, .inl ⟨hk, by simp⟩⟩
     · rw [List.getElem?_set_ne (Ne.symm hj)] at e2
       obtain ⟨u', r', q⟩ := hl j y v' e1 e2 e3
       refine ⟨u', r', ?_⟩
       rcases q with ⟨k, e⟩ | ⟨k, c, e, z⟩
       · refine .inl ⟨k, ?_⟩
         have : y ≠ x := fun e => hj (bN3 hN e1 (e ▸ hi))
         simp [this, e]
       · exact .inr ⟨k, c, e, z.sameBut hs (cne y c e)⟩
   · obtain ⟨w', z⟩ := I.cell y c e
     exact ⟨w', z.sameBut hs (cne y c e)⟩
   · obtain ⟨e, n, ne, nf, d⟩ := I.pin p hp
     exact ⟨(hs.2 p.1 ne).trans e, n, ne, nf, d⟩
 · have hfn : X.fn x = true := by
    rcases hf with z | z
    · exact z
    · rw [z] at hk; cases hk
   obtain ⟨c, hc⟩ := I.ok.has x (.inl hk)
   obtain ⟨w', z⟩ := I.cell x c hc
   refine wpAny_storeName_cell I.ok.kind hk hc z (fun h' hc' hs => ?_)
   obtain ⟨oc, hoc, hocd⟩ := id z
   refine h { s with heap := h' } ⟨I.ok, I.os, I.bare, ⟨fun b o e n hb hx => ?_, fun b o e n hb hx => ?_, I.base.free, fun b o e hx => ?_, I.base.tups, I.base.frzs, I.base.tbls⟩, ⟨m, hn.sameBut hs (Ne.symm (cne x c hc)), fun j y v' e1 e2 e3 => ?_⟩, fun y c' e => ?_, I.free, I.freeC, fun p hp => ?_, tracked ⟨oc, hoc, I.freeC x c hc⟩ hs, by simpa using I.len⟩ ⟨c, hs, .inr hc⟩
   · exact (hs.2 b (Nat.ne_of_lt (Nat.lt_of_lt_of_le (Heap.lt_size e) (I.ok.cab x c hfn hc)))).trans (I.base.keep b o e n hb hx)
   · obtain ⟨sl, e1⟩ := I.base.slot b o e n hb hx
     exact ⟨sl, (hs.2 b (Nat.ne_of_lt (Nat.lt_of_lt_of_le (Heap.lt_size e) (I.ok.cab x c hfn hc)))).trans e1⟩
   · obtain ⟨o', e1⟩ := I.base.there b o e hx
     exact ⟨o', (hs.2 b (Nat.ne_of_lt (Nat.lt_of_lt_of_le (Heap.lt_size e) (I.ok.cab x c hfn hc)))).trans e1⟩
   · by_cases hj : j = i
     · subst hj
       rw [hi] at e1; cases e1
       rw [List.getElem?_set_self hiσ] at e2
       cases e2
       exact ⟨u, r, .inr ⟨.inl hk, c, hc, hc'⟩⟩
     · rw [List.getElem?_set_ne (Ne.symm hj)] at e2
       obtain ⟨u', r', q⟩ := hl j y v' e1 e2 e3
       refine ⟨u', r', ?_⟩
       rcases q with q | ⟨k, c', e, z'⟩
       · exact .inl q
       · refine .inr ⟨k, c', e, z'.sameBut hs ?_⟩
         rintro rfl
         exact hj (bN3 hN e1 (I.ok.inj _ _ _ e hc ▸ hi))
   · by_cases hcc : c' = c
     · subst hcc; exact ⟨_, hc'⟩
     · obtain ⟨w2, z2⟩ := I.cell y c' e
       exact ⟨w2, z2.sameBut hs hcc⟩
   · obtain ⟨e, n, ne, nf, d⟩ := I.pin p hp
     refine ⟨(hs.2 p.1 ?_).trans e, n, ne, nf, d⟩
     intro q
     rw [q, hoc] at e
     have q' : oc = p.2 := Option.some.inj e
     exact d w' (by rw [← q']; exact hocd)
theorem cG3 {M : Model} {A : Around} {E : VSP} {i : Nat} {x : Str} {v : V} {u : Value} {Q : Unit → Shared → Prop} (I : Inv X pins σ H s) (hN : X.N.Nodup) (hi : X.N[i]? = some x) (hx : Loc X.env.scope x) (r : o4 v u)
 (h : ∀ s', Inv X pins (σ.set i (some v)) H s' → Q () s') (hf : X.fn x = true ∨ X.env.scope.names.lookup x = some .local) : wpAny M A (storeName X.env x u) Q E s :=
 cC6 I hN hi hx r (fun s' I' _ => h s' I') hf
end
noncomputable abbrev XK := Value → Option Addr → Hp → Prop
noncomputable abbrev St := List (Option V)
noncomputable abbrev VK := V → Hp → Prop
noncomputable abbrev TE := St → Hp → VK → Prop
noncomputable abbrev TT := St → Hp → (Bool → Hp → Prop) → Prop
noncomputable abbrev TA := St → Hp → (List V → Hp → Prop) → Prop
structure aW8 where
 nx : St → Hp → Prop
 rt : VK
 bk : St → Hp → Prop := fun _ _ => False
 ct : St → Hp → Prop := fun _ _ => False
noncomputable abbrev TS := aW8 → St → Hp → Prop
def EP (X : Cx) (pins : PNS) (σ : St) (Q : VK) (u : Value) (s' : Shared) : Prop := ∃ v H', Inv X pins σ H' s' ∧ o4 v u ∧ Q v H'
noncomputable def TP (X : Cx) (pins : PNS) (σ : St) (Q : Bool → Hp → Prop) (b : Bool) (s' : Shared) : Prop := ∃ H', Inv X pins σ H' s' ∧ Q b H'
noncomputable def AP (X : Cx) (pins : PNS) (σ : St) (Q : List V → Hp → Prop) (us : List Value) (s' : Shared) : Prop := ∃ vs H', Inv X pins σ H' s' ∧ o5 vs us ∧ Q vs H'
theorem EP.elim {X : Cx} {pins : PNS} {σ : St} {Q : VK} {u : Value} {s : Shared} {P : Prop} (h : EP X pins σ Q u s) (k : ∀ v H, Inv X pins σ H s → o4 v u → Q v H → P) : P := by
 obtain ⟨a, b, c, d, e⟩ := h
 exact k a b c d e
theorem TP.elim {X : Cx} {pins : PNS} {σ : St} {Q : Bool → Hp → Prop} {u : Bool} {s : Shared} {P : Prop} (h : TP X pins σ Q u s) (k : ∀ H, Inv X pins σ H s → Q u H → P) : P := by
 obtain ⟨b, c, e⟩ := h
 exact k b c e
theorem AP.elim {X : Cx} {pins : PNS} {σ : St} {Q : List V → Hp → Prop} {u : List Value} {s : Shared} {P : Prop} (h : AP X pins σ Q u s) (k : ∀ v H, Inv X pins σ H s → o5 v u → Q v H → P) : P := by
 obtain ⟨a, b, c, d, e⟩ := h
 exact k a b c d e
def SP (X : Cx) (pins : PNS) (D : aW8) (f : Flow) (s' : Shared) : Prop :=
 match f with
 | .next => ∃ σ' H', Inv X pins σ' H' s' ∧ D.nx σ' H'
 | .brk => ∃ σ' H', Inv X pins σ' H' s' ∧ D.bk σ' H'
 | .cont => ∃ σ' H', Inv X pins σ' H' s' ∧ D.ct σ' H'
 | .ret u => ∃ v σ' H', Inv X pins σ' H' s' ∧ o4 v u ∧ D.rt v H'
def PE (X : Cx) (e : Expr) (t : TE) : Prop :=
 ∀ (pins : PNS) (s : Shared) (σ : St) (H : Hp) (Q : VK), Inv X pins σ H s → t σ H Q → wpAny (model X.prog X.w) X.A (eval e X.env) (EP X pins σ Q) X.xe s
def PT (X : Cx) (e : Expr) (t : TT) : Prop :=
 ∀ (pins : PNS) (s : Shared) (σ : St) (H : Hp) (Q : Bool → Hp → Prop), Inv X pins σ H s → t σ H Q → wpAny (model X.prog X.w) X.A (isTrue e X.env (eval e X.env)) (TP X pins σ Q) X.xe s
def PW (X : Cx) (e : Expr) (t : TT) : Prop :=
 ∀ (whole : Sem Value) (pins : PNS) (s : Shared) (σ : St) (H : Hp) (Q : Bool → Hp → Prop), Inv X pins σ H s → t σ H Q → wpAny (model X.prog X.w) X.A (isTrue e X.env whole) (TP X pins σ Q) X.xe s
def PA (X : Cx) (es : List Expr) (t : TA) : Prop :=
 ∀ (pos : Pos) (pins : PNS) (s : Shared) (σ : St) (H : Hp) (Q : List V → Hp → Prop), Inv X pins σ H s → t σ H Q → wpAny (model X.prog X.w) X.A (spliced (backTo pos (starEach es X.env))) (AP X pins σ Q) X.xe s
def PS (X : Cx) (st : Stmt) (t : TS) : Prop :=
 ∀ (pins : PNS) (s : Shared) (σ : St) (H : Hp) (D : aW8), Inv X pins σ H s → t D σ H → wpAny (model X.prog X.w) X.A (exec st X.env) (SP X pins D) X.xe s
def PSs (X : Cx) (st : List Stmt) (t : TS) : Prop :=
 ∀ (pins : PNS) (s : Shared) (σ : St) (H : Hp) (D : aW8), Inv X pins σ H s → t D σ H → wpAny (model X.prog X.w) X.A (execs st X.env) (SP X pins D) X.xe s
theorem thn {α : Type} {t : Sem α} {Q Q' : α → Shared → Prop} {M : Model} {A : Around} {E : VSP} {s : Shared} (h : wpAny M A t Q E s) (hQ : ∀ a s, Q a s → Q' a s) : wpAny M A t Q' E s := wpAny_mono h hQ fun _ _ x => x
section
variable {X : Cx}
noncomputable def dA6 (i : Nat) : TE := fun σ H Q => ∃ v, σ[i]? = some (some v) ∧ Q v H
noncomputable def tC (v : V) : TE := fun _ H Q => Q v H
theorem cH2 {i : Nat} {x : Str} {pos : Pos} (hN : X.N[i]? = some x) (hv : Vis X.env.scope x) (hd : (x == ("__debug__" : Str)) = false) (hcd : (x == ("__classdict__" : Str)) = false) : PE X (.Name x pos) (dA6 i) := by
 intro pins s σ H Q I h
 obtain ⟨v, e, h⟩ := h
 obtain ⟨m, hn, hl⟩ := I.loc
 obtain ⟨u, r, l⟩ := hl i x v hN e hv
 have fin : EP X pins σ Q u s := ⟨v, H, I, r, h⟩
 rcases l with ⟨hk, hm⟩ | ⟨hk, c, hc, hcell⟩
 · exact wpAny_Name (wpAny_loadName_local I.ok.kind hk hn hm fin) hd
 · rcases hk with hk | hk
   · exact wpAny_Name (wpAny_loadName_cell I.ok.kind hk hc hcell fin) hd
   · exact wpAny_Name (wpAny_loadName_free I.ok.kind hk hc hcell fin hcd) hd
theorem cL2 {i j pos} : PE X (.Constant (.int i) j pos) (tC (.int i)) := fun _ _ _ H _ I h => wpAny_Constant_int ⟨.int i, H, I.tok _, ⟨_, rfl⟩, h⟩
theorem bZ0 {b j pos} : PE X (.Constant (.bool b) j pos) (tC (.bl b)) := fun _ _ _ H _ I h => Constant_bool ⟨.bl b, H, I, rfl, h⟩
theorem dA7 {x j pos} : PE X (.Constant (.str x) j pos) (tC (.str x)) := fun _ _ _ H _ I h => Calls.Constant_str ⟨.str x, H, I.tok _, ⟨_, rfl⟩, h⟩
noncomputable def Gl (X : Cx) (x : Str) : Prop := X.env.kindOf x = some .globalImplicit
theorem bI7 {E : VSP} {pins : PNS} {s : Shared} {σ : St} {H : Hp} {x : Str} {u : Value} {pos : Pos} {Q : VSP} (I : Inv X pins σ H s) (hg : Gl X x) (hm : X.mg x = some u) (h : Q u s)
 (hd : (x == ("__debug__" : Str)) = false) : wpAny (model X.prog X.w) X.A (eval (.Name x pos) X.env) Q E s :=
 Calls.Name_function_global I.ok.kind hg (Calls.loadGlobal_global (by rw [I.ok.glob]; exact I.mod.glob.keeps I.bk) hm h) hd
theorem aP6 {E : VSP} {pins : PNS} {s : Shared} {σ : St} {H : Hp} {x : Str} {u : Value} {pos : Pos} {Q : VSP} (I : Inv X pins σ H s) (hg : Gl X x) (hm : X.mg x = none) (hv : bootBuiltins x = some u) (h : Q u s)
 (hn : x ≠ "__name__" := by decide) (hd : (x == ("__debug__" : Str)) = false := by decide) : wpAny (model X.prog X.w) X.A (eval (.Name x pos) X.env) Q E s := by
 obtain ⟨mb, h1, h2⟩ := I.mod.blt
 exact Calls.Name_function_global I.ok.kind hg (Calls.loadGlobal_builtin (by rw [I.ok.glob]; exact I.mod.glob.keeps I.bk) hm (by rw [I.ok.blt]; exact h1.keeps I.bk) ((h2 x hn).trans hv) h) hd
theorem cT2 {x : Str} {v : V} {u : Value} {pos : Pos} (hg : Gl X x) (hm : X.mg x = none) (hv : bootBuiltins x = some u) (r : o4 v u) (hn : x ≠ "__name__") (hd : (x == ("__debug__" : Str)) = false) : PE X (.Name x pos) (tC v) :=
 fun _ _ _ H _ I h => aP6 I hg hm hv ⟨v, H, I, r, h⟩ hn hd
variable {a b : Expr} {ta tb : TE} {pos : Pos}
variable {tA tB' : TT} {t8 : List Expr}
noncomputable def dP7 (t u : TT) : TT := fun σ H Q => t σ H fun c H1 => if c = true then u σ H1 Q else Q false H1
noncomputable def tOr (t u : TT) : TT := fun σ H Q => t σ H fun c H1 => if c = true then Q true H1 else u σ H1 Q
noncomputable def dQ2 (t : TT) : TT := fun σ H Q => t σ H fun c H1 => Q (!c) H1
theorem cQ9 (ha : PT X a tA) : PW X (.BoolOp .And [a] pos) tA := by
 intro wh pins s σ H Q I h
 refine isTrue_and (thn (ha pins s σ H Q I h) fun c s1 e => ?_)
 cases c with
 | true => exact isTrue_and_nil e
 | false => exact e
theorem dD0 (ha : PT X a tA) : PW X (.BoolOp .Or [a] pos) tA := by
 intro wh pins s σ H Q I h
 refine isTrue_or (thn (ha pins s σ H Q I h) fun c s1 e => ?_)
 cases c with
 | false => exact isTrue_or_nil e
 | true => exact e
theorem dC3 (ha : PT X a tA) (hb : PW X (.BoolOp .And (b :: t8) pos) tB') : PW X (.BoolOp .And (a :: b :: t8) pos) (dP7 tA tB') := by
 intro wh pins s σ H Q I h
 refine isTrue_and (thn (ha pins s σ H _ I h) fun c s1 hE1 => hE1.elim fun H1 I1 q1 => ?_)
 cases c with
 | true => exact hb wh pins s1 σ H1 Q I1 q1
 | false => exact ⟨H1, I1, q1⟩
theorem dL5 (ha : PT X a tA) (hb : PW X (.BoolOp .Or (b :: t8) pos) tB') : PW X (.BoolOp .Or (a :: b :: t8) pos) (tOr tA tB') := by
 intro wh pins s σ H Q I h
 refine isTrue_or (thn (ha pins s σ H _ I h) fun c s1 hE1 => hE1.elim fun H1 I1 q1 => ?_)
 cases c with
 | true => exact ⟨H1, I1, q1⟩
 | false => exact hb wh pins s1 σ H1 Q I1 q1
theorem dD3 (ha : PT X a tA) : PT X (.UnaryOp .Not a pos) (dQ2 tA) := by
 intro pins s σ H Q I h
 exact isTrue_not (ha pins s σ H (fun c H1 => Q (!c) H1) I h)
theorem dG1 {op} {t : TE} (h : PE X a t) : PE X (.BoolOp op [a] pos) t := fun pins s σ H Q I hw => BoolOp_one (h pins s σ H Q I hw)
noncomputable def tIf (t : TT) (ta tb : TE) : TE := fun σ H Q => t σ H fun c H1 => if c = true then ta σ H1 Q else tb σ H1 Q
theorem cI3 {c : Expr} (hc : PT X c tA) (ha : PE X a ta) (hb : PE X b tb) : PE X (.IfExp c a b pos) (tIf tA ta tb) := by
 intro pins s σ H Q I h
 refine wpAny_IfExp (thn (hc pins s σ H _ I h) fun d s1 hE1 => hE1.elim fun H1 I1 q1 => ?_)
 cases d with
 | true => exact ha pins s1 σ H1 Q I1 q1
 | false => exact hb pins s1 σ H1 Q I1 q1
end
def SqL (K : PySem.W.Frag) (H : Hp) (a : Addr) (xs : List V) : Prop :=
 Rd H a (.lst xs) ∨
  ∃ (o : Obj) (its : Array Value) (n : Nat), K.lookup a = some o ∧ o.cls = .type "list" ∧ o.dict = none ∧ o.data = .seq its n ∧ its.size ≤ sizeLine ∧ o5 xs its.toList
def SqT (K : PySem.W.Frag) (H : Hp) (a : Addr) (xs : List V) : Prop :=
 Rd H a (.tup xs) ∨
  ∃ (o : Obj) (its : Array Value) (n : Nat), K.lookup a = some o ∧ o.cls = .type "tuple" ∧ (o.data, o.dict) = (Data.seq its n, none) ∧ its.size ≤ sizeLine ∧ o5 xs its.toList
noncomputable def dP0 : Value → Option V
 | .none => some .non
 | .bool b => some (.bl b)
 | .int i _ => some (.int i)
 | .str x _ => some (.str x)
 | .bytes b _ => some (.byt b)
 | .float b _ => some (.flt b)
 | .ref a => some (.ref a)
 | .type n => some (.ty n)
 | _ => none
theorem o4.abs {x : V} {u : Value} (r : o4 x u) : dP0 u = some x := by
 cases x with
 | non => cases r; rfl
 | bl _ => cases r; rfl
 | int _ => obtain ⟨t, rfl⟩ := r; rfl
 | str _ => obtain ⟨t, rfl⟩ := r; rfl
 | byt _ => obtain ⟨t, rfl⟩ := r; rfl
 | flt _ => obtain ⟨t, rfl⟩ := r; rfl
 | ref _ => cases r; rfl
 | ty _ => cases r; rfl
theorem o4.inj {x y : V} {u : Value} (r : o4 x u) (q : o4 y u) : x = y := Option.some.inj (r.abs.symm.trans q.abs)
theorem o5.inj {xs ys : List V} {us : List Value} (h : o5 xs us) (k : o5 ys us) : xs = ys := by
 induction h generalizing ys with
 | nil => cases k; rfl
 | cons r t ih => cases k with
   | cons r' t' => rw [r.inj r', ih t']
section
variable {X : Cx} {pins : PNS} {σ : St} {H : Hp} {s : Shared} {a : Addr} {xs ys : List V}
theorem SqL.of {K : PySem.W.Frag} (h : H a = some (.lst xs)) : SqL K H a xs := .inl (.inl h)
theorem SqT.of {K : PySem.W.Frag} (h : H a = some (.tup xs)) : SqT K H a xs := .inl (.inl h)
theorem Inv.list (I : Inv X pins σ H s) (h : SqL X.K H a xs) : ∃ its : List Value, o5 xs its ∧ PlainL s.heap a its.toArray ∧ xs.length ≤ sizeLine := by
 rcases h with h | ⟨o, its, n, hk, hc, hd, hs, hz, r⟩
 · obtain ⟨z, its, n, r, e⟩ := h.ok I.hok
   exact ⟨its, r, ⟨_, n, e, rfl, rfl, rfl⟩, z⟩
 · refine ⟨its.toList, r, ⟨o, n, I.kIn a o hk, hc, hd, by simpa using hs⟩, ?_⟩
   have e := r.length
   simp only [Array.length_toList] at e
   lia
theorem Inv.tuple (I : Inv X pins σ H s) (h : SqT X.K H a xs) : ∃ its : List Value, o5 xs its ∧ IsTup s.heap a its.toArray ∧ xs.length ≤ sizeLine := by
 rcases h with h | ⟨o, its, n, hk, hc, hs, hz, r⟩
 · obtain ⟨z, its, r, p⟩ := h.ok I.hok
   exact ⟨its, r, V3.tup p, z⟩
 · refine ⟨its.toList, r, ⟨o, I.kIn a o hk, hc, n, by simpa using (Prod.mk.inj hs).1⟩, ?_⟩
   have e := r.length
   simp only [Array.length_toList] at e
   lia
theorem Inv.list_inj (I : Inv X pins σ H s) (h : SqL X.K H a xs) (h' : SqL X.K H a ys) : xs = ys := by
 obtain ⟨its, r, ⟨o, n, e, _, _, d⟩, _⟩ := I.list h
 obtain ⟨its', r', ⟨o', n', e', _, _, d'⟩, _⟩ := I.list h'
 rw [e] at e'; cases e'
 rw [d] at d'
 injection d' with d1 _
 have : its = its' := by simpa using congrArg Array.toList d1
 subst this
 exact r.inj r'
theorem Inv.tuple_inj (I : Inv X pins σ H s) (h : SqT X.K H a xs) (h' : SqT X.K H a ys) : xs = ys := by
 obtain ⟨its, r, ⟨o, e, _, n, d⟩, _⟩ := I.tuple h
 obtain ⟨its', r', ⟨o', e', _, n', d'⟩, _⟩ := I.tuple h'
 rw [e] at e'; cases e'
 rw [d] at d'
 injection d' with d1 _
 have : its = its' := by simpa using congrArg Array.toList d1
 subst this
 exact r.inj r'
end
noncomputable abbrev Cx.wish (X : Cx) (E : VSP) : Cx := { X with xe := E }
noncomputable abbrev Cx.nox (X : Cx) : Cx := X.wish fun _ _ => False
theorem Cx.Ok.wish {X : Cx} (ok : X.Ok) (E : VSP) : (X.wish E).Ok :=
 ⟨ok.mod, ok.kind, ok.glob, ok.blt, ok.above, ok.inj, ok.has, ok.cab, ok.hd, ok.frames, ok.stk, ok.exf, ok.bs, ok.bsz, ok.noex, ok.exfs, ok.funs, ok.frf⟩
theorem Cx.Ok.unwish {X : Cx} {E : VSP} (ok : (X.wish E).Ok) : X.Ok :=
 ⟨ok.mod, ok.kind, ok.glob, ok.blt, ok.above, ok.inj, ok.has, ok.cab, ok.hd, ok.frames, ok.stk, ok.exf, ok.bs, ok.bsz, ok.noex, ok.exfs, ok.funs, ok.frf⟩
section
variable {X : Cx} {pins : PNS} {σ : St} {H : Hp} {s : Shared} {E : VSP}
theorem Inv.wish (I : Inv X pins σ H s) (E : VSP) : Inv (X.wish E) pins σ H s := ⟨I.ok.wish E, I.os, I.bare, I.base, I.loc, I.cell, I.free, I.freeC, I.pin, I.hok, I.len⟩
theorem Inv.unwish (I : Inv (X.wish E) pins σ H s) : Inv X pins σ H s := ⟨I.ok.unwish, I.os, I.bare, I.base, I.loc, I.cell, I.free, I.freeC, I.pin, I.hok, I.len⟩
theorem SP.unwish {D : aW8} {f : Flow} {s' : Shared} (h : SP (X.wish E) pins D f s') : SP X pins D f s' := by
 cases f with
 | next => obtain ⟨σ', H', I, q⟩ := h; exact ⟨σ', H', I.unwish, q⟩
 | brk => obtain ⟨σ', H', I, q⟩ := h; exact ⟨σ', H', I.unwish, q⟩
 | cont => obtain ⟨σ', H', I, q⟩ := h; exact ⟨σ', H', I.unwish, q⟩
 | ret u => obtain ⟨v, σ', H', I, r, q⟩ := h; exact ⟨v, σ', H', I.unwish, r, q⟩
theorem PE.nox {e : Expr} {t : TE} (h : PE X.nox e t) : PE X e t := fun pins s σ H Q I hw =>
 wpAny_mono (h pins s σ H Q (I.wish _) hw) (fun _ _ ⟨v, H', I', r, q⟩ => ⟨v, H', I'.unwish, r, q⟩) fun _ _ z => False.elim z
theorem PT.nox {e : Expr} {t : TT} (h : PT X.nox e t) : PT X e t := fun pins s σ H Q I hw =>
 wpAny_mono (h pins s σ H Q (I.wish _) hw) (fun _ _ ⟨H', I', q⟩ => ⟨H', I'.unwish, q⟩) fun _ _ z => False.elim z
theorem PSs.nox {st : List Stmt} {t : TS} (h : PSs X.nox st t) : PSs X st t := fun pins s σ H D I hw =>
 wpAny_mono (h pins s σ H D (I.wish _) hw) (fun _ _ q => q.unwish) fun _ _ z => False.elim z
end
section
variable {X : Cx} {st : Stmt} {t8 : List Stmt} {t u : TS} {e : Expr} {te : TE} {pos : Pos}
noncomputable def dI1 : TS := fun D σ H => D.nx σ H
noncomputable def dN3 (t u : TS) : TS := fun D σ H => t { D with nx := u D } σ H
theorem cR2 : PSs X [] dI1 := fun _ _ σ H _ I h => wpAny_execs_nil ⟨σ, H, I, h⟩
theorem cM0 (h1 : PS X st t) (h2 : PSs X t8 u) : PSs X (st :: t8) (dN3 t u) := by
 intro pins s σ H D I h
 refine wpAny_execs_cons (thn (h1 pins s σ H { D with nx := u D } I h) fun f s1 q => ?_)
 cases f with
 | next =>
   obtain ⟨σ', H', I', q⟩ := q
   exact h2 pins s1 σ' H' D I' q
 | ret v => exact q
 | brk => exact q
 | cont => exact q
theorem cR9 (h1 : PS X st t) : PSs X [st] t := by
 intro pins s σ H D I h
 refine wpAny_execs_cons (thn (h1 pins s σ H D I h) fun f s1 q => ?_)
 cases f with
 | next => exact wpAny_execs_nil q
 | ret v => exact q
 | brk => exact q
 | cont => exact q
theorem Inv.quiet {pins : PNS} {σ : St} {H : Hp} {s : Shared} (I : Inv X pins σ H s) : interactive X.env = false := by simp [interactive, I.ok.kind]
noncomputable def dK4 (te : TE) : TS := fun D σ H => te σ H fun _ H1 => D.nx σ H1
theorem cU9 (he : PE X e te) (hs : swapsWith e none pos.line X.env = pure false) : PS X (.Expr e pos) (dK4 te) := by
 intro pins s σ H D I h
 exact wpAny_Expr_any (thn (he pins s σ H _ I h) fun v s1 hE1 => hE1.elim fun x H1 I1 r1 q1 => ⟨σ, H1, I1, q1⟩) I.quiet hs
noncomputable def dO3 (te : TE) : TS := fun D σ H => te σ H D.rt
theorem dG4 (he : PE X e te) : PS X (.Return (some e) pos) (dO3 te) := by
 intro pins s σ H D I h
 exact wpAny_Return_some (thn (he pins s σ H _ I h) fun v s1 hE1 => hE1.elim fun x H1 I1 r1 q1 => ⟨x, σ, H1, I1, r1, q1⟩)
noncomputable def dQ5 (c : TT) (t u : TS) : TS := fun D σ H => c σ H fun b H1 => if b = true then t D σ H1 else u D σ H1
theorem dM3 {c : Expr} {a b : List Stmt} {tc : TT} (hc : PT X c tc) (ha : PSs X a t) (hb : PSs X b u) : PS X (.If c a b pos) (dQ5 tc t u) := by
 intro pins s σ H D I h
 refine wpAny_If (thn (hc pins s σ H _ I h) fun d s1 hE1 => hE1.elim fun H1 I1 q1 => ?_)
 cases d with
 | true => exact ha pins s1 σ H1 D I1 q1
 | false => exact hb pins s1 σ H1 D I1 q1
end
noncomputable abbrev TG := V → St → Hp → (St → Hp → Prop) → Prop
noncomputable abbrev TGs := List V → St → Hp → (St → Hp → Prop) → Prop
def PG (X : Cx) (target : Expr) (t : TG) : Prop :=
 ∀ (pins : PNS) (s : Shared) (σ : St) (H : Hp) (v : V) (u : Value) (Q : St → Hp → Prop), Inv X pins σ H s → o4 v u → t v σ H Q →
  wpAny (model X.prog X.w) X.A (assign target X.env u) (fun _ s' => ∃ σ' H', Inv X pins σ' H' s' ∧ Q σ' H') X.xe s
noncomputable def PGs (X : Cx) (ts : List Expr) (t : TGs) : Prop :=
 ∀ (pins : PNS) (s : Shared) (σ : St) (H : Hp) (vs : List V) (us : List Value) (Q : St → Hp → Prop), Inv X pins σ H s → o5 vs us → t vs σ H Q →
  wpAny (model X.prog X.w) X.A (assignInOrder ((assignEach ts X.env).map (·.2)) us) (fun _ s' => ∃ σ' H', Inv X pins σ' H' s' ∧ Q σ' H') X.xe s
noncomputable abbrev cP1 := V → V → V → Hp → (Hp → Prop) → Prop
def dG2 (X : Cx) (t : cP1) : Prop :=
 ∀ (pins : PNS) (s : Shared) (σ : St) (H : Hp) (o i v : V) (ov iv u : Value) (Q : Hp → Prop), Inv X pins σ H s → o4 o ov → o4 i iv → o4 v u → t o i v H Q →
  wpAny (model X.prog X.w) X.A (setItem ov iv u) (fun _ s' => ∃ H', Inv X pins σ H' s' ∧ Q H') X.xe s
section
variable {X : Cx} {pos : Pos}
noncomputable def dJ0 (i : Nat) : TG := fun v σ H Q => Q (σ.set i (some v)) H
theorem cP0 {i : Nat} {x : Str} (hN : X.N.Nodup) (hi : X.N[i]? = some x) (hx : Loc X.env.scope x) (hf : X.fn x = true ∨ X.env.scope.names.lookup x = some .local) : PG X (.Name x pos) (dJ0 i) := by
 intro pins s σ H v u Q I r h
 exact wpAny_assign_Name (cG3 I hN hi hx r (fun s' I' => ⟨_, H, I', h⟩) hf)
noncomputable def dN6 : TGs := fun vs σ H Q => vs = [] ∧ Q σ H
noncomputable def dM0 (t : TG) (u : TGs) : TGs := fun vs σ H Q => ∃ v r, vs = v :: r ∧ t v σ H fun σ' H' => u r σ' H' Q
theorem cR4 : PGs X [] dN6 := by
 intro pins s σ H vs us Q I r h
 obtain ⟨e, h⟩ := h
 subst e
 cases r
 exact assignInOrder_nil ⟨σ, H, I, h⟩
theorem cE8 {e : Expr} {es : List Expr} {t : TG} {u : TGs} (h1 : PG X e t) (h2 : PGs X es u)
 (hs : (assignEach (e :: es) X.env).map (·.2) = assign e X.env :: (assignEach es X.env).map (·.2)) : PGs X (e :: es) (dM0 t u) := by
 intro pins s σ H vs us Q I r h
 obtain ⟨v, vr, e1, h⟩ := h
 subst e1
 cases r with
 | cons r rr =>
   rw [hs]
   refine assignInOrder_cons (thn (h1 pins s σ H _ _ _ I r h) fun _ s1 ⟨σ1, H1, I1, q1⟩ => ?_)
   exact h2 pins s1 σ1 H1 _ _ Q I1 rr q1
def dN2 (K : PySem.W.Frag) (n : Nat) (t : TGs) : TG := fun v σ H Q => ∃ a xs, v = .ref a ∧ SqT K H a xs ∧ xs.length = n ∧ t xs σ H Q
theorem dB3 {es : List Expr} {k : Nat} {t : TGs} {n : Nat} (hc : X.calm = true) (h : PGs X es t)
 (hn : (assignEach es X.env).length = n) (hst : (assignEach es X.env).findIdx? (·.1) = none) : PG X (.Tuple es k pos) (dN2 X.K n t) := by
 intro pins s σ H v u Q I r hw
 obtain ⟨a, xs, e1, hq, hl, hw⟩ := hw
 subst e1
 cases r
 obtain ⟨its, rv, ht, hz⟩ := I.tuple hq
 refine assign_Tuple_tuple (I.ok.hd hc) ht (by simp [hn, ← hl, rv.length]) hst fun h' hx => ?_
 have I1 : Inv X pins σ H { s with heap := h' } := I.kept (t' := s.toks) fun b o e => hx b o (Nat.ne_of_lt (Heap.lt_size e)) e
 exact h pins _ σ H xs _ Q I1 (by simpa using rv) hw
noncomputable def dO4 (to ti : TE) (t : cP1) : TG := fun v σ H Q => to σ H fun o H1 => ti σ H1 fun i H2 => t o i v H2 fun H3 => Q σ H3
theorem cZ2 {o i : Expr} {to ti : TE} {t : cP1} (ho : PE X o to) (hi : PE X i ti) (hs : dG2 X t)
 (ha : ∀ v, assign (.Subscript o i pos) X.env v = (do
   let ov ← holding [v] (eval o X.env)
   let iv ← holding [v, ov] (eval i X.env)
   standAt pos
   holding [v, ov, iv] (setItem ov iv v)
   release [v, ov, iv] [])) : PG X (.Subscript o i pos) (dO4 to ti t) := by
 intro pins s σ H v u Q I r h
 rw [ha]
 refine wpAny_bind (wpAny_holding (thn (ho pins s σ H _ I h) fun ov s1 ⟨x, H1, I1, r1, q1⟩ => ?_))
 refine wpAny_bind (wpAny_holding (thn (hi pins s1 σ H1 _ I1 q1) fun iv s2 ⟨y, H2, I2, r2, q2⟩ => ?_))
 refine wpAny_bind (wpAny_standAt (wpAny_bind (wpAny_holding (thn (hs pins s2 σ H2 x y v ov iv u _ I2 r1 r2 r q2) fun _ s3 ⟨H3, I3, q3⟩ => ?_))))
 exact wpAny_release ⟨σ, H3, I3, q3⟩
noncomputable def dO9 (te : TE) (g : TG) : TS := fun D σ H => te σ H fun x H1 => g x σ H1 D.nx
theorem dF4 {tg e : Expr} {te : TE} {g : TG} (he : PE X e te) (hg : PG X tg g) (hs : swapsWithSole [tg] e pos.line X.env = pure false) (hw : swappedStores [tg] e X.env = pure none)
 (h1 : (assignEach [tg] X.env).map (·.2) = [assign tg X.env]) : PS X (.Assign [tg] e pos) (dO9 te g) := by
 intro pins s σ H D I h
 refine wpAny_Assign_stores (thn (he pins s σ H _ I h) fun v s1 hE1 => hE1.elim fun x H1 I1 r1 q1 => ?_) hs hw
 rw [h1]
 exact thn (hg pins s1 σ H1 x v _ I1 r1 q1) fun _ s2 q => q
end
section
variable {X : Cx} {pos : Pos}
noncomputable def dA2 (c : TT) (tb : TS) : TS := fun D σ H => ∃ W : Nat → St → Hp → Prop, (∃ m, W m σ H) ∧ ∀ m σ H, W m σ H →
 c σ H fun b H1 => if b = true then ∃ N : St → Hp → Prop, (∀ σ' H', N σ' H' → ∃ m', m' < m ∧ W m' σ' H') ∧ tb { D with nx := N, ct := N, bk := D.nx } σ H1 else D.nx σ H1
theorem cN8 {c : Expr} {body : List Stmt} {tc : TT} {tb : TS} (hp : PassesOwn (model X.prog X.w) X.A X.env X.xe) (hc : PT X c tc) (hb : PSs X body tb) : PS X (.While c body [] pos) (dA2 tc tb) := by
 intro pins s σ H D I h
 obtain ⟨W, ⟨m0, w0⟩, turn⟩ := h
 refine wpAny_While (codeAny_whileLoop (fun n s' => ∃ σ' H', Inv X pins σ' H' s' ∧ W n σ' H') ?_ m0 ⟨σ, H, I, w0⟩)
 rintro n s1 ⟨σ1, H1, I1, w1⟩
 refine wpAny_passesOwn hp (thn (hc pins s1 σ1 H1 _ I1 (turn n σ1 H1 w1)) fun b s2 hE1 => hE1.elim fun H2 I2 q2 => ?_)
 cases b with
 | true =>
   obtain ⟨N, hN, q2⟩ := q2
   rw [if_pos rfl]
   refine wpAny_passesOwn hp (thn (hb pins s2 σ1 H2 _ I2 q2) fun f s3 q3 => ?_)
   cases f with
   | next =>
     obtain ⟨σ3, H3, I3, n3⟩ := q3
     obtain ⟨m', hm, w3⟩ := hN σ3 H3 n3
     exact ⟨m', hm, σ3, H3, I3, w3⟩
   | cont =>
     obtain ⟨σ3, H3, I3, n3⟩ := q3
     obtain ⟨m', hm, w3⟩ := hN σ3 H3 n3
     exact ⟨m', hm, σ3, H3, I3, w3⟩
   | brk => exact q3
   | ret v => exact q3
 | false =>
   rw [if_neg Bool.false_ne_true]
   exact wpAny_execs_nil ⟨σ1, H2, I2, q2⟩
end
structure It where
 go : Nat → Hp → Prop
 yld : Nat → Hp → V → Hp → Prop
 stop : Nat → Hp → Prop
noncomputable def aH2 (X : Cx) (pins : PNS) (H : Hp) (b : Addr) : Prop :=
 H b = none ∧ b ≠ X.env.locals ∧ b ∉ X.fs ∧ (b ∈ X.ex ∨ X.s₀.heap.objs.size ≤ b) ∧ (∀ x c, X.env.cells.lookup x = some c → c ≠ b) ∧ ∀ p ∈ X.pn ++ pins, p.1 ≠ b
theorem Inv.fpOk {X : Cx} {pins : PNS} {σ : St} {H H' : Hp} {s : Shared} {b : Addr} (I : Inv X pins σ H s) (hb : s.heap.objs.size ≤ b) (hn : H' b = none) : aH2 X pins H' b := by
 refine ⟨hn, Nat.ne_of_gt (Nat.lt_of_lt_of_le I.lt hb), I.nofs hb, .inr (Nat.le_trans I.sz hb), fun x c e z => ?_, fun p hp z => ?_⟩
 · obtain ⟨v, q⟩ := I.cell x c e
   exact absurd (Nat.lt_of_lt_of_le q.lt (by rw [z]; exact hb)) (Nat.lt_irrefl _)
 · exact absurd (Nat.lt_of_lt_of_le (Heap.lt_size (I.pin p hp).1) (by rw [z]; exact hb)) (Nat.lt_irrefl _)
inductive TIt (X : Cx) (pins : PNS) (σ : St) (J : It) (fp : List Addr) (tn : Nat → Heap → Prop) (i : Nat) (H : Hp) (u : Value) (s2 : Shared) : Prop
 | mk (x : V) (H' : Hp) (I : Inv X pins σ H' s2) (r : o4 x u) (y : J.yld i H x H') (st : tn (i + 1) s2.heap) (fr : ∀ b ∈ fp, H' b = none)
structure aU5 (P : Program) (w : World) (K : PySem.W.Frag) (tg : Expr) (J : It) (fp : List Addr) (it : Addr) (tn : Nat → Heap → Prop) : Prop where
 mem : it ∈ fp
 obj : ∀ i h, tn i h → ∀ b ∈ fp, ∃ o, h.get? b = some o ∧ ∀ v, o.data ≠ .cell v
 keep : ∀ i h h', tn i h → (∀ b ∈ fp, ∀ o, h.get? b = some o → h'.get? b = some o) → tn i h'
 item : ∀ (X : Cx), X.prog = P → X.w = w → X.K = K → X.calm = true → ∀ (i : Nat) (pins : PNS) (s : Shared) (σ : St) (H : Hp) (E : VSP), Inv X pins σ H s → (∀ b ∈ fp, aH2 X pins H b) → tn i s.heap → J.go i H →
  wpAny (model P w) X.A (pyNext (.ref it)) (fun r s1 => ∃ u, r = some u ∧
   wpAny (model P w) X.A (letOwnedTupleGo tg (.ref it) u) (fun _ s2 => TIt X pins σ J fp tn i H u s2) E s1) E s
 done : ∀ (X : Cx), X.prog = P → X.w = w → X.K = K → X.calm = true → ∀ (i : Nat) (pins : PNS) (s : Shared) (σ : St) (H : Hp) (E : VSP), Inv X pins σ H s → (∀ b ∈ fp, aH2 X pins H b) → tn i s.heap → J.stop i H →
  wpAny (model P w) X.A (pyNext (.ref it)) (fun r s1 => r = none ∧ Inv X pins σ H s1) E s
 self : ∀ (A : Around) (i : Nat) (s : Shared) (Q : VSP) (E : VSP), tn i s.heap → Q (.ref it) s → wpAny (model P w) A (pyIter (.ref it)) Q E s
noncomputable abbrev TI := St → Hp → (It → Hp → Prop) → Prop
inductive PIE (X : Cx) (pins : PNS) (σ : St) (tg : Expr) (R : It → Hp → Prop) (itv : Value) (s2 : Shared) : Prop
 | mk (it : Addr) (fp : List Addr) (tn : Nat → Heap → Prop) (J : It) (H' : Hp) (e : itv = .ref it) (I : Inv X pins σ H' s2) (T : aU5 X.prog X.w X.K tg J fp it tn) (st : tn 0 s2.heap) (f : ∀ b ∈ fp, aH2 X pins H' b) (r : R J H')
noncomputable def PI (X : Cx) (tg iter : Expr) (wi : TI) : Prop :=
 ∀ (pins : PNS) (s : Shared) (σ : St) (H : Hp) (R : It → Hp → Prop), Inv X pins σ H s → wi σ H R →
  wpAny (model X.prog X.w) X.A (eval iter X.env) (fun v s1 => wpAny (model X.prog X.w) X.A (pyIter v) (PIE X pins σ tg R) X.xe s1) X.xe s
theorem bE7 {M : Model} {A : Around} {E : VSP} {s : Shared} {tg : Expr} {it : Addr} {u : Value} {o : Obj} {n : String} {vs : Array Value} {Q : Unit → Shared → Prop} (ho : s.heap.get? it = some o) (hc : o.cls = .type n) (hd : o.data = .fields vs)
 (hn : ["enumerate", "zip", "dict_itemiterator", "dict_reverseitemiterator", "odict_iterator", "itertools.zip_longest", "itertools.pairwise"].contains n = false) (hQ : Q () s) : wpAny M A (letOwnedTupleGo tg (.ref it) u) Q E s := by
 unfold letOwnedTupleGo
 cases tg <;> first
  | exact wpAny_pure hQ
  | (cases u <;> first
      | exact wpAny_pure hQ
      | (refine wpAny_bind (wpAny_load ho ?_)
         rw [hc, hd]
         show wpAny M A (if (["enumerate", "zip", "dict_itemiterator", "dict_reverseitemiterator", "odict_iterator", "itertools.zip_longest", "itertools.pairwise"].contains n && vs[0]? == some (rawInt _)) = true then _ else _) Q E s
         rw [if_neg (by intro h; rw [hn, Bool.false_and] at h; cases h)]
         exact wpAny_pure hQ))
def Itl (K : PySem.W.Frag) (a : Addr) : It :=
 ⟨fun i H => ∃ xs x, SqL K H a xs ∧ xs[i]? = some x, fun i H x H' => H' = H ∧ ∀ xs, SqL K H a xs → xs[i]? = some x, fun i H => ∃ xs, SqL K H a xs ∧ xs.length ≤ i⟩
def Itt (K : PySem.W.Frag) (a : Addr) : It :=
 ⟨fun i H => ∃ xs x, SqT K H a xs ∧ xs[i]? = some x, fun i H x H' => H' = H ∧ ∀ xs, SqT K H a xs → xs[i]? = some x, fun i H => ∃ xs, SqT K H a xs ∧ xs.length ≤ i⟩
noncomputable def Itr (lo : Int) (n : Nat) : It := ⟨fun i _ => i < n, fun i H x H' => H' = H ∧ x = .int (lo + i), fun i _ => n ≤ i⟩
theorem cB8 {P : Program} {w : World} {K : PySem.W.Frag} {tg : Expr} (a it : Addr) : aU5 P w K tg (Itl K a) [it] it (fun i h => h.IsListIter it a i) where
 mem := by simp
 obj := fun i h st b hb => by
  have e : b = it := by simpa using hb
  subst e
  obtain ⟨o, e, c, d⟩ := st
  exact ⟨o, e, fun v z => by rw [d] at z; cases z⟩
 keep := fun i h h' st k => st.at fun o e => k it (by simp) o e
 item := by
  intro X hP hw hK hc i pins s σ H E I hf st hg
  subst hP hw hK
  obtain ⟨xs, x, hq, hx⟩ := hg
  obtain ⟨its, rv, p, hz⟩ := I.list hq
  obtain ⟨u, hu, ru⟩ := rv.get hx
  obtain ⟨f0, f1, f2, f3, f4, f5⟩ := hf it (by simp)
  refine wpAny_pyNext_list_item st p.isList (x := u) (by simpa using hu) fun h' st' sb => ?_
  have I1 : Inv X pins σ H { s with heap := h' } := I.turned (t' := s.toks) (fun b o hb e => (sb.2 b hb).trans e) f0 f1 f3 f4 f5
  obtain ⟨o, e, c, d⟩ := id st'
  exact ⟨u, rfl, bE7 (s := { s with heap := h' }) e c d (by decide) ⟨x, H, I1, ru, ⟨rfl, fun ys hy => by rw [I.list_inj hy hq]; exact hx⟩, st', fun b hb => (hf b hb).1⟩⟩
 done := by
  intro X hP hw hK hc i pins s σ H E I hf st hg
  subst hP hw hK
  obtain ⟨xs, hq, hx⟩ := hg
  obtain ⟨its, rv, p, hz⟩ := I.list hq
  obtain ⟨f0, f1, f2, f3, f4, f5⟩ := hf it (by simp)
  have hl := rv.length
  exact wpAny_pyNext_list_end (I.ok.hd hc) st p.isList (by simp; lia) fun h' eb => ⟨rfl, I.turned (t' := s.toks) (fun b o hb e => eb b o hb e) f0 f1 f3 f4 f5⟩
 self := fun _ _ _ _ _ st h => wpAny_pyIter_listiter st h
theorem bT6 {P : Program} {w : World} {K : PySem.W.Frag} {tg : Expr} (a it : Addr) : aU5 P w K tg (Itt K a) [it] it (fun i h => h.IsTupleIter it a i) where
 mem := by simp
 obj := fun i h st b hb => by
  have e : b = it := by simpa using hb
  subst e
  obtain ⟨o, e, c, d⟩ := st
  exact ⟨o, e, fun v z => by rw [d] at z; cases z⟩
 keep := fun i h h' st k => st.at fun o e => k it (by simp) o e
 item := by
  intro X hP hw hK hc i pins s σ H E I hf st hg
  subst hP hw hK
  obtain ⟨xs, x, hq, hx⟩ := hg
  obtain ⟨its, rv, p, hz⟩ := I.tuple hq
  obtain ⟨u, hu, ru⟩ := rv.get hx
  obtain ⟨f0, f1, f2, f3, f4, f5⟩ := hf it (by simp)
  refine wpAny_pyNext_tuple_item st (show s.heap.IsTuple a its.toArray from p) (x := u) (by simpa using hu) fun h' st' sb => ?_
  have I1 : Inv X pins σ H { s with heap := h' } := I.turned (t' := s.toks) (fun b o hb e => (sb.2 b hb).trans e) f0 f1 f3 f4 f5
  obtain ⟨o, e, c, d⟩ := id st'
  exact ⟨u, rfl, bE7 (s := { s with heap := h' }) e c d (by decide) ⟨x, H, I1, ru, ⟨rfl, fun ys hy => by rw [I.tuple_inj hy hq]; exact hx⟩, st', fun b hb => (hf b hb).1⟩⟩
 done := by
  intro X hP hw hK hc i pins s σ H E I hf st hg
  subst hP hw hK
  obtain ⟨xs, hq, hx⟩ := hg
  obtain ⟨its, rv, p, hz⟩ := I.tuple hq
  obtain ⟨f0, f1, f2, f3, f4, f5⟩ := hf it (by simp)
  have hl := rv.length
  exact wpAny_pyNext_tuple_end (I.ok.hd hc) st (show s.heap.IsTuple a its.toArray from p) (by simp; lia) fun h' eb => ⟨rfl, I.turned (t' := s.toks) (fun b o hb e => eb b o hb e) f0 f1 f3 f4 f5⟩
 self := fun _ _ _ _ _ st h => wpAny_pyIter_tupleiter st h
theorem bU2 {P : Program} {w : World} {K : PySem.W.Frag} {tg : Expr} (it : Addr) (lo : Int) (n : Nat) : aU5 P w K tg (Itr lo n) [it] it (fun i h => IsRangeIter h it (lo + (i : Nat) * 1) ((n : Int) - (i : Nat)) 1) where
 mem := by simp
 obj := fun i h st b hb => by
  have e : b = it := by simpa using hb
  subst e
  exact ⟨_, st, fun v z => by
   have z' : Data.fields _ = Data.cell v := z
   cases z'⟩
 keep := fun i h h' st k => k it (by simp) _ st
 item := by
  intro X hP hw hK hc i pins s σ H E I hf st hg
  subst hP hw hK
  obtain ⟨f0, f1, f2, f3, f4, f5⟩ := hf it (by simp)
  have W := Walks.range (prog := X.prog) (w := X.w) (I.ok.hd hc) it lo 1 n
  refine W.item i s _ _ hg st fun v h' tk hv st' kk => ?_
  obtain ⟨t, rfl⟩ := hv
  have I1 : Inv X pins σ H { s with heap := h', toks := tk } := I.turned (fun b o hb e => kk b o (by simpa using hb) e) f0 f1 f3 f4 f5
  refine ⟨_, rfl, bE7 (s := { s with heap := h', toks := tk }) (n := "range_iterator") st' rfl rfl (by decide) ⟨.int (lo + i), H, I1, ⟨t, ?_⟩, ⟨rfl, rfl⟩, st', fun b hb => (hf b hb).1⟩⟩
  rw [Int.mul_one]
 done := by
  intro X hP hw hK hc i pins s σ H E I hf st hg
  subst hP hw hK
  obtain ⟨f0, f1, f2, f3, f4, f5⟩ := hf it (by simp)
  exact wpAny_pyNext_range_end (I.ok.hd hc) st (by have : n ≤ i := hg; lia) fun h' eb => ⟨rfl, I.turned (t' := s.toks) (fun b o hb e => eb b o hb e) f0 f1 f3 f4 f5⟩
 self := fun _ _ _ _ _ st h => wpAny_pyIter_rangeiter st h
section
variable {X : Cx} {tg : Expr}
theorem cK0 {pins : PNS} {σ : St} {H : Hp} {s : Shared} {R : It → Hp → Prop} {E : VSP} {lo hi : Int} {t u v : Tok} {tk : Nat} (I : Inv X pins σ H s) (h1 : -(2 ^ 62) ≤ lo) (h2 : lo < 2 ^ 62) (h3 : -(2 ^ 62) ≤ hi) (h4 : hi < 2 ^ 62)
 (q : R (Itr lo (hi - lo).toNat) H) : wpAny (model X.prog X.w) X.A (pyIter (.ref s.heap.objs.size)) (PIE X pins σ tg R) E { s with heap := s.heap.push { cls := .type "range", data := .fields #[.int lo t, .int hi u, .int 1 v] }, toks := tk } := by
 refine wpAny_pyIter_range (IsRange.new ..) (small_one h1 h2 h3 h4) ?_
 have I1 : Inv X pins σ H { s with heap := s.heap.push { cls := .type "range", data := .fields #[.int lo t, .int hi u, .int 1 v] }, toks := tk } := I.kept fun b o e => Heap.get?_push_of_some _ e
 refine ⟨(s.heap.push { cls := .type "range", data := .fields #[.int lo t, .int hi u, .int 1 v] }).objs.size, [(s.heap.push { cls := .type "range", data := .fields #[.int lo t, .int hi u, .int 1 v] }).objs.size], _, _, H, rfl,
  I1.kept (t' := tk) fun b o e => Heap.get?_push_of_some _ e, bU2 _ lo (hi - lo).toNat, ?_, fun b hb => ?_, q⟩
 · have e1 : lo + ((0 : Nat) : Int) * 1 = lo := by simp
   have e2 : (((hi - lo).toNat : Nat) : Int) - ((0 : Nat) : Int) = Builtin.Range.rangeSize lo hi 1 := by rw [rangeSize_one]; split <;> lia
   show IsRangeIter _ _ (lo + ((0 : Nat) : Int) * 1) ((((hi - lo).toNat : Nat) : Int) - ((0 : Nat) : Int)) 1
   rw [e1, e2]
   exact Heap.get?_push_size _ rfl
 · have e : b = (s.heap.push { cls := .type "range", data := .fields #[.int lo t, .int hi u, .int 1 v] }).objs.size := by simpa using hb
   subst e
   exact I1.fpOk (Nat.le_refl _) (I1.hok.fresh (Nat.le_refl _))
def dH6 (ta : TA) : TI := fun σ H R => ta σ H fun vs H1 => ∃ j : Int, vs = [.int j] ∧ -(2 ^ 62) ≤ j ∧ j < 2 ^ 62 ∧ R (Itr 0 j.toNat) H1
theorem cA0 {a : Expr} {ta : TA} {p pos : Pos} (hg : Gl X "range") (hm : X.mg "range" = none) (ha : PA X [a] ta) (hs : starEach [a] X.env = [(false, eval a X.env)]) : PI X tg (.Call (.Name "range" p) [a] [] pos) (dH6 ta) := by
 intro pins s σ H R I h
 refine Call_ (aP6 I hg hm boot_range (PyProof.Rows.callWith_type1 (thn (ha pos pins s σ H _ I h) fun us s1 hE1 => hE1.elim fun vs H1 I1 r1 q1 => ?_) hs rfl))
 obtain ⟨j, e, q1, q2, q⟩ := q1
 subst e
 cases r1 with
 | cons r rr =>
   cases rr
   obtain ⟨t, rfl⟩ := r
   exact call_range_1 (cK0 I1 (by lia) (by lia) q1 q2 (by simpa using q))
noncomputable def dM9 (wi : TI) (g : TG) (tb : TS) : TS := fun D σ H => wi σ H fun J H1 => ∃ W : Nat → Nat → St → Hp → Prop, (∃ m, W 0 m σ H1) ∧ ∀ i m σ H, W i m σ H →
 (J.stop i H ∧ D.nx σ H) ∨ (J.go i H ∧ ∃ N : St → Hp → Prop, (∀ σ' H', N σ' H' → ∃ m', m' < m ∧ W (i + 1) m' σ' H') ∧ ∀ x H', J.yld i H x H' → g x σ H' fun σ2 H2 => tb { D with nx := N, ct := N, bk := D.nx } σ2 H2)
noncomputable def aX4 (fp : List Addr) (h : Heap) : PNS := fp.filterMap fun b => (h.get? b).map fun o => (b, o)
theorem aF0 {fp : List Addr} {h : Heap} {b : Addr} {o : Obj} (hb : b ∈ fp) (e : h.get? b = some o) : (b, o) ∈ aX4 fp h := List.mem_filterMap.mpr ⟨b, hb, by rw [e]; rfl⟩
theorem cD6 {fp : List Addr} {h : Heap} {p : Addr × Obj} (hp : p ∈ aX4 fp h) : p.1 ∈ fp ∧ h.get? p.1 = some p.2 := by
 obtain ⟨b, hb, e⟩ := List.mem_filterMap.mp hp
 cases q : h.get? b with
 | none => rw [q] at e; cases e
 | some o =>
   rw [q] at e
   have e' : (b, o) = p := Option.some.inj e
   subst e'
   exact ⟨hb, q⟩
theorem Inv.pinned {pins : PNS} {σ : St} {H : Hp} {s : Shared} {fp : List Addr} (I : Inv X pins σ H s) (hf : ∀ b ∈ fp, aH2 X pins H b) (ho : ∀ b ∈ fp, ∃ o, s.heap.get? b = some o ∧ ∀ v, o.data ≠ .cell v) : Inv X (pins ++ aX4 fp s.heap) σ H s :=
 I.pins_of fun p hp => (List.mem_append.mp hp).elim (fun z => I.pin p (List.mem_append_right _ z)) fun z => by
  obtain ⟨hb, e⟩ := cD6 z
  obtain ⟨f0, f1, f2, _⟩ := hf p.1 hb
  obtain ⟨o, e', d⟩ := ho p.1 hb
  rw [e] at e'; cases e'
  exact ⟨e, f0, f1, f2, d⟩
theorem Inv.unpinned {pins pl : PNS} {σ : St} {H : Hp} {s : Shared} (I : Inv X (pins ++ pl) σ H s) : Inv X pins σ H s := I.pins_of fun p hp => I.pin p (List.mem_append_right _ (List.mem_append_left _ hp))
inductive dA5 (X : Cx) (pins : PNS) (fp : List Addr) (tn : Nat → Heap → Prop) (W : Nat → Nat → St → Hp → Prop) (n : Nat) (s' : Shared) : Prop
 | mk (i : Nat) (σ' : St) (H' : Hp) (I : Inv X pins σ' H' s') (st : tn i s'.heap) (fr : ∀ b ∈ fp, H' b = none) (w : W i n σ' H')
theorem cO6 {body : List Stmt} {g : TG} {tb : TS} {pins : PNS} {D : aW8} {it : Addr} {fp : List Addr} {tn : Nat → Heap → Prop} {J : It} {W : Nat → Nat → St → Hp → Prop} {EE : VSP} (hp : ∀ e s, X.xe e s → EE e s) (hc : X.calm = true) (hg : PG X tg g) (hb : PSs X body tb)
 (T : aU5 X.prog X.w X.K tg J fp it tn) (stat : ∀ {H' : Hp}, (∀ b ∈ fp, H' b = none) → ∀ b ∈ fp, aH2 X pins H' b)
 (turn : ∀ i m σ H, W i m σ H →
 (J.stop i H ∧ D.nx σ H) ∨ (J.go i H ∧ ∃ N : St → Hp → Prop, (∀ σ' H', N σ' H' → ∃ m', m' < m ∧ W (i + 1) m' σ' H') ∧ ∀ x H', J.yld i H x H' → g x σ H' fun σ2 H2 => tb { D with nx := N, ct := N, bk := D.nx } σ2 H2))
   {n : Nat} {s3 : Shared} (h3 : dA5 X pins fp tn W n s3) {NX : Shared → Prop} (nx : ∀ m s, m < n → dA5 X pins fp tn W m s → NX s) :
   wpAny (model X.prog X.w) X.A (pyNext (.ref it)) (fun r s1 => match r with
    | none => wpAny (model X.prog X.w) X.A (execs [] X.env) (fun f s2 => SP X pins D f s2) EE s1
    | some v => wpAny (model X.prog X.w) X.A (letOwnedTupleGo tg (.ref it) v) (fun _ s2 => wpAny (model X.prog X.w) X.A (assign tg X.env v) (fun _ s4 => wpAny (model X.prog X.w) X.A (execs body X.env) (fun f s5 => match f with
       | .next | .cont => NX s5
       | .brk => SP X pins D .next s5
       | .ret v => SP X pins D (.ret v) s5) EE s4) EE s2) EE s1) EE s3 := by
 obtain ⟨i, σ3, H3, I3, st3, fr3, w3⟩ := h3
 rcases turn i n σ3 H3 w3 with ⟨stop, qn⟩ | ⟨go, N, hN, step⟩
 · refine wpAny_mono (T.done X rfl rfl rfl hc i pins s3 σ3 H3 X.xe I3 (stat fr3) st3 stop) (fun r s4 z1 => ?_) hp
   obtain ⟨hr, I4⟩ := z1
   subst hr
   exact wpAny_execs_nil ⟨σ3, H3, I4, qn⟩
 · refine wpAny_mono (T.item X rfl rfl rfl hc i pins s3 σ3 H3 X.xe I3 (stat fr3) st3 go) (fun r s4 z2 => ?_) hp
   obtain ⟨u, hr, h4⟩ := z2
   subst hr
   refine wpAny_mono h4 (fun _ s5 z3 => ?_) hp
   obtain ⟨x, H5, I5, r5, y5, st5, fr5⟩ := z3
   have I5' := I5.pinned (stat fr5) (T.obj _ _ st5)
   refine wpAny_mono (hg _ s5 σ3 H5 x u _ I5' r5 (step x H5 y5)) (fun _ s6 z4 => ?_) hp
   obtain ⟨σ6, H6, I6, q6⟩ := z4
   refine wpAny_mono (hb _ s6 σ6 H6 _ I6 q6) (fun f s7 q7 => ?_) hp
   have again : ∀ {σ7 : St} {H7 : Hp}, Inv X (pins ++ aX4 fp s5.heap) σ7 H7 s7 → N σ7 H7 → NX s7 := fun {σ7 H7} I7 n7 => by
    obtain ⟨m', hm, w7⟩ := hN σ7 H7 n7
    refine nx m' _ hm ⟨i + 1, σ7, H7, I7.unpinned, T.keep _ _ _ st5 fun b hb o e => (I7.pin (b, o) (List.mem_append_right _ (List.mem_append_right _ (aF0 hb e)))).1, fun b hb => ?_, w7⟩
    obtain ⟨o, e, d⟩ := T.obj _ _ st5 b hb
    exact (I7.pin (b, o) (List.mem_append_right _ (List.mem_append_right _ (aF0 hb e)))).2.1
   cases f with
   | next => obtain ⟨σ7, H7, I7, n7⟩ := q7; exact again I7 n7
   | cont => obtain ⟨σ7, H7, I7, n7⟩ := q7; exact again I7 n7
   | brk => obtain ⟨σ7, H7, I7, q7⟩ := q7; exact ⟨σ7, H7, I7.unpinned, q7⟩
   | ret v => obtain ⟨x7, σ7, H7, I7, r7, q7⟩ := q7; exact ⟨x7, σ7, H7, I7.unpinned, r7, q7⟩
theorem dF6 {iter : Expr} {body : List Stmt} {wi : TI} {g : TG} {tb : TS} {pos : Pos} (hp : PassesOwn (model X.prog X.w) X.A X.env X.xe) (hc : X.calm = true) (hi : PI X tg iter wi) (hg : PG X tg g) (hb : PSs X body tb)
 (hs : ∀ x, foldedSetIterable iter X.env x = pure x) : PS X (.For tg iter body [] pos) (dM9 wi g tb) := by
 intro pins s σ H D I h
 refine wpAny_For (thn (hi pins s σ H _ I h) fun v s1 h1 => thn h1 fun itv s2 h2 => ?_) hs
 obtain ⟨it, fp, tn, J, H2, e, I2, T, st2, f2, W, ⟨m0, w0⟩, turn⟩ := h2
 subst e
 -- what stays true of the iterator's objects through the loop
 have stat : ∀ {H' : Hp}, (∀ b ∈ fp, H' b = none) → ∀ b ∈ fp, aH2 X pins H' b := fun hn b hb => ⟨hn b hb, (f2 b hb).2⟩
 exact codeAny_forLoop_any (dA5 X pins fp tn W) (fun n s3 h3 => cO6 hp hc hg hb T stat turn h3 fun m s h1 h2 => ⟨m, h1, h2⟩) m0 ⟨0, σ, H2, I2, st2, fun b hb => (f2 b hb).1, w0⟩
end
noncomputable abbrev R2 := V → V → Hp → VK → Prop
def OpR (X : Cx) (f : Value → Value → Sem Value) (r : R2) : Prop :=
 ∀ (pins : PNS) (s : Shared) (σ : St) (H : Hp) (x y : V) (v u : Value) (Q : VK), Inv X pins σ H s → o4 x v → o4 y u → r x y H Q →
  wpAny (model X.prog X.w) X.A (f v u) (EP X pins σ Q) X.xe s
def UnR (X : Cx) (f : Value → Sem Value) (r : V → Hp → VK → Prop) : Prop :=
 ∀ (pins : PNS) (s : Shared) (σ : St) (H : Hp) (x : V) (v : Value) (Q : VK), Inv X pins σ H s → o4 x v → r x H Q →
  wpAny (model X.prog X.w) X.A (f v) (EP X pins σ Q) X.xe s
def T5 (X : Cx) (f : Value) (r : List V → Hp → VK → Prop) : Prop :=
 ∀ (pins : PNS) (s : Shared) (σ : St) (H : Hp) (xs : List V) (us : List Value) (Q : VK), Inv X pins σ H s → o5 xs us → r xs H Q →
  wpAny (model X.prog X.w) X.A (call f us) (EP X pins σ Q) X.xe s
def dO8 (X : Cx) (r : V → Hp → (Bool → Hp → Prop) → Prop) : Prop :=
 ∀ (pins : PNS) (s : Shared) (σ : St) (H : Hp) (x : V) (v : Value) (Q : Bool → Hp → Prop), Inv X pins σ H s → o4 x v → r x H Q →
  wpAny (model X.prog X.w) X.A (truthy v) (TP X pins σ Q) X.xe s
noncomputable def tOp (r : R2) (ta tb : TE) : TE := fun σ H Q => ta σ H fun x H1 => tb σ H1 fun y H2 => r x y H2 Q
noncomputable def tUn (r : V → Hp → VK → Prop) (ta : TE) : TE := fun σ H Q => ta σ H fun x H1 => r x H1 Q
noncomputable def rI (C : Int → Int → Prop) (g : Int → Int → V) : R2 := fun x y H Q => ∃ i j, x = .int i ∧ y = .int j ∧ C i j ∧ Q (g i j) H
noncomputable def rI0 (g : Int → Int → V) : R2 := fun x y H Q => ∃ i j, x = .int i ∧ y = .int j ∧ Q (g i j) H
noncomputable def rU (g : Int → V) : V → Hp → VK → Prop := fun x H Q => ∃ i, x = .int i ∧ Q (g i) H
section
variable {X : Cx} {a b c : Expr} {ta tb tc : TE} {pos : Pos}
theorem dA9 (ha : PE X a ta) (hb : PE X b tb) {pins : PNS} {s : Shared} {σ : St} {H : Hp} {R : V → V → Hp → Prop} (I : Inv X pins σ H s)
 (h : ta σ H fun x H1 => tb σ H1 fun y H2 => R x y H2) {Q : VSP} {f : Value → Value → Sem Value}
 (hf : ∀ v u s2 x y H2, Inv X pins σ H2 s2 → o4 x v → o4 y u → R x y H2 → wpAny (model X.prog X.w) X.A (f v u) Q X.xe s2) :
 wpAny (model X.prog X.w) X.A (eval a X.env) (fun v s₁ => wpAny (model X.prog X.w) X.A (eval b X.env) (fun u s₂ => wpAny (model X.prog X.w) X.A (f v u) Q X.xe s₂) X.xe s₁) X.xe s := by
 refine thn (ha pins s σ H _ I h) fun v s1 hE1 => hE1.elim fun x H1 I1 r1 q1 => ?_
 refine thn (hb pins s1 σ H1 _ I1 q1) fun u s2 hE1 => hE1.elim fun y H2 I2 r2 q2 => ?_
 exact hf v u s2 x y H2 I2 r1 r2 q2
theorem cG7 {op : Operator} {r : R2} (ho : OpR X (binaryOp op) r) (ha : PE X a ta) (hb : PE X b tb) : PE X (.BinOp a op b pos) (tOp r ta tb) := by
 intro pins s σ H Q I h
 exact wpAny_BinOp (dA9 ha hb I h fun v u s2 x y H2 I2 rx ry q => ho pins s2 σ H2 x y v u Q I2 rx ry q)
theorem dM7 {op : UnaryOp} {r : V → Hp → VK → Prop} (ho : UnR X (unaryOp op) r) (ha : PE X a ta) : PE X (.UnaryOp op a pos) (tUn r ta) := by
 intro pins s σ H Q I h
 exact UnaryOp_ (thn (ha pins s σ H _ I h) fun v s1 hE1 => hE1.elim fun x H1 I1 r1 q1 => ho pins s1 σ H1 x v Q I1 r1 q1)
theorem opI {f : Value → Value → Sem Value} {C : Int → Int → Prop} {g : Int → Int → Int}
 (rule : ∀ (i j : Int) (t u : Tok) (s : Shared) (Q : VSP) (E : VSP), C i j → Q (.int (g i j) s.toks) { s with toks := s.toks + 1 } → wpAny (model X.prog X.w) X.A (f (.int i t) (.int j u)) Q E s) :
 OpR X f (rI C fun i j => .int (g i j)) := by
 intro pins s σ H x y v u Q I rx ry h
 obtain ⟨i, j, rfl, rfl, hc, q⟩ := h
 obtain ⟨t, rfl⟩ := rx
 obtain ⟨t', rfl⟩ := ry
 exact rule i j t t' s _ _ hc ⟨.int (g i j), H, I.tok _, ⟨_, rfl⟩, q⟩
theorem dK3 {f : Value → Value → Sem Value} {g : Int → Int → Int}
 (rule : ∀ (i j : Int) (t u : Tok) (s : Shared) (Q : VSP) (E : VSP), Q (.int (g i j) s.toks) { s with toks := s.toks + 1 } → wpAny (model X.prog X.w) X.A (f (.int i t) (.int j u)) Q E s) :
 OpR X f (rI0 fun i j => .int (g i j)) := by
 intro pins s σ H x y v u Q I rx ry h
 obtain ⟨i, j, rfl, rfl, q⟩ := h
 obtain ⟨t, rfl⟩ := rx
 obtain ⟨t', rfl⟩ := ry
 exact rule i j t t' s _ _ ⟨.int (g i j), H, I.tok _, ⟨_, rfl⟩, q⟩
theorem dK7 {f : Value → Value → Sem Value} {g : Int → Int → Bool}
 (rule : ∀ (i j : Int) (t u : Tok) (s : Shared) (Q : VSP) (E : VSP), Q (.bool (g i j)) s → wpAny (model X.prog X.w) X.A (f (.int i t) (.int j u)) Q E s) :
 OpR X f (rI0 fun i j => .bl (g i j)) := by
 intro pins s σ H x y v u Q I rx ry h
 obtain ⟨i, j, rfl, rfl, q⟩ := h
 obtain ⟨t, rfl⟩ := rx
 obtain ⟨t', rfl⟩ := ry
 exact rule i j t t' s _ _ ⟨.bl (g i j), H, I, rfl, q⟩
noncomputable def cD4 (i j : Int) : Prop := 0 ≤ j ∧ j ≤ 1000000 ∧ i.natAbs < 2 ^ 64
noncomputable def bA8 (i j : Int) : Prop := (-(2 ^ 64) < i ∧ i < 2 ^ 64) ∨ (-(2 ^ 64) < j ∧ j < 2 ^ 64)
theorem bA8.ok {i j : Int} (h : bA8 i j) : IntMulOk i j := by
 rcases h with ⟨h1, h2⟩ | ⟨h1, h2⟩
 · exact .of_left (intBits_le_64 h1 h2)
 · exact .of_right (intBits_le_64 h1 h2)
theorem dF8 : OpR X (binaryOp .Add) (rI0 fun i j => .int (i + j)) := dK3 fun _ _ _ _ _ _ _ q => add_int q
theorem cJ1 : OpR X (binaryOp .Sub) (rI0 fun i j => .int (i - j)) := dK3 fun _ _ _ _ _ _ _ q => sub_int q
theorem dD2 : OpR X (binaryOp .Mult) (rI bA8 fun i j => .int (i * j)) := opI fun _ _ _ _ _ _ _ hc q => mul_int q hc.ok
theorem cZ3 : OpR X (binaryOp .Mod) (rI (fun _ j => 0 < j) fun i j => .int (i % j)) := opI fun i j _ _ _ _ _ hc q => by
 have h1 : (0 : Int) < j := hc
 exact mod_int' (by lia) (by rw [Int.fmod_eq_emod_of_nonneg i (by lia)]; exact q)
theorem cJ4 : OpR X (binaryOp .Pow) (rI cD4 fun i j => .int (i ^ j.toNat)) := opI fun _ _ _ _ _ _ _ hc q => pow_int_small hc.1 hc.2.1 hc.2.2 q
theorem unI {f : Value → Sem Value} {g : Int → Int}
 (rule : ∀ (i : Int) (t : Tok) (s : Shared) (Q : VSP) (E : VSP), Q (.int (g i) s.toks) { s with toks := s.toks + 1 } → wpAny (model X.prog X.w) X.A (f (.int i t)) Q E s) :
 UnR X f (rU fun i => .int (g i)) := by
 intro pins s σ H x v Q I rx h
 obtain ⟨i, rfl, q⟩ := h
 obtain ⟨t, rfl⟩ := rx
 exact rule i t s _ _ ⟨.int (g i), H, I.tok _, ⟨_, rfl⟩, q⟩
theorem dC8 : UnR X (unaryOp .USub) (rU fun i => .int (-i)) := unI fun _ _ _ _ _ q => neg_int q
end
section
variable {X : Cx} {a b c : Expr} {ta tb tc : TE} {pos : Pos}
theorem cY0 {pins : PNS} {σ : St} {H : Hp} {s : Shared} {Q : VK} {k k' : Bool} (I : Inv X pins σ H s) (q : Q (.bl k) H) (e : k = k') : EP X pins σ Q (.bool k') s := by
 subst e
 exact ⟨.bl k, H, I, rfl, q⟩
theorem dI2 : OpR X (compareOp .LtE) (rI0 fun i j => .bl (decide (i ≤ j))) := dK7 fun _ _ _ _ _ _ _ q => le_int q
theorem dJ3 : OpR X (compareOp .Gt) (rI0 fun i j => .bl (decide (j < i))) := dK7 fun _ _ _ _ _ _ _ q => gt_int q
theorem cC4 : OpR X (compareOp .In) (fun x y H Q => ∃ i j, x = .str i ∧ y = .str j ∧ Q (.bl (!(Builtin.Str.occurrences j i 0 j.length 1).isEmpty)) H) := by
 intro pins s σ H x y v u Q I rx ry h
 obtain ⟨i, j, rfl, rfl, q⟩ := h
 obtain ⟨t, rfl⟩ := rx
 obtain ⟨t', rfl⟩ := ry
 exact in_str (cY0 I q rfl)
theorem OpR.or {f : Value → Value → Sem Value} {r r' : R2} (h : OpR X f r) (h' : OpR X f r') : OpR X f (fun x y H Q => r x y H Q ∨ r' x y H Q) := by
 intro pins s σ H x y v u Q I rx ry q
 rcases q with q | q
 · exact h pins s σ H x y v u Q I rx ry q
 · exact h' pins s σ H x y v u Q I rx ry q
theorem cQ3 {op : CmpOp} {r : R2} (ho : OpR X (compareOp op) r) (ha : PE X a ta) (hb : PE X b tb) (hm : behindInMarks op b = false) : PE X (.Compare a [op] [b] pos) (tOp r ta tb) := by
 intro pins s σ H Q I h
 exact wpAny_Compare1 (dA9 ha hb I h fun v u s2 x y H2 I2 rx ry q => ho pins s2 σ H2 x y v u Q I2 rx ry q) hm
noncomputable def cW6 (t : TE) : TT := fun σ H Q => t σ H fun x H' => ∃ k, x = .bl k ∧ Q k H'
theorem cT7 {op : CmpOp} {r : R2} (ho : OpR X (compareOp op) r) (ha : PE X a ta) (hb : PE X b tb) (hm : behindInMarks op b = false) : PT X (.Compare a [op] [b] pos) (cW6 (tOp r ta tb)) := by
 intro pins s σ H Q I h
 refine wpAny_isTrue_Compare1 (thn (ha pins s σ H _ I h) fun v s1 hE1 => hE1.elim fun x H1 I1 r1 q1 => thn (hb pins s1 σ H1 _ I1 q1) fun u s2 hE1 => hE1.elim fun y H2 I2 r2 q2 =>
  thn (ho pins s2 σ H2 x y v u _ I2 r1 r2 q2) fun c s3 ⟨z, H3, I3, r3, k, e, q3⟩ => ?_) hm
 subst e
 cases r3
 exact wpAny_truthy_bool ⟨H3, I3, q3⟩
noncomputable def cH0 (r r' : R2) (ta tb tc : TE) : TE := fun σ H Q => ta σ H fun x H1 => tb σ H1 fun y H2 => r x y H2 fun z H3 => ∃ k, z = .bl k ∧
 (if k = true then tc σ H3 fun w' H4 => r' y w' H4 Q else Q (.bl false) H3)
theorem cJ7 {op op' : CmpOp} {r r' : R2} (ho : OpR X (compareOp op) r) (ho' : OpR X (compareOp op') r') (ha : PE X a ta) (hb : PE X b tb) (hc : PE X c tc)
 (hm : lastMarks [op, op'] [b, c] = false) : PT X (.Compare a [op, op'] [b, c] pos) (cW6 (cH0 r r' ta tb tc)) := by
 intro pins s σ H Q I h
 refine isTrue_chain (thn (ha pins s σ H _ I h) fun v s1 hE1 => hE1.elim fun x H1 I1 r1 q1 => test_link (thn (hb pins s1 σ H1 _ I1 q1) fun u s2 hE1 => hE1.elim fun y H2 I2 r2 q2 =>
  thn (ho pins s2 σ H2 x y v u _ I2 r1 r2 q2) fun d s3 ⟨z, H3, I3, r3, k, e, q3⟩ => ?_)) hm
 subst e
 cases r3
 refine wpAny_truthy_bool ?_
 cases k with
 | false =>
   obtain ⟨k', e', q'⟩ := q3
   cases e'
   exact ite_ff ⟨H3, I3, q'⟩
 | true =>
   refine ite_tt (test_last (thn (hc pins s3 σ H3 _ I3 q3) fun w' s4 ⟨z', H4, I4, r4, q4⟩ => thn (ho' pins s4 σ H4 y z' u w' _ I4 r2 r4 q4) fun d' s5 ⟨z2, H5, I5, r5, k2, e2, q5⟩ => ?_))
   subst e2
   cases r5
   exact wpAny_truthy_bool ⟨H5, I5, q5⟩
def dB7 (K : PySem.W.Frag) (x : V) (H : Hp) (k : Bool) : Prop :=
 match x with
 | .non => k = false
 | .bl b => k = b
 | .int i => k = (i != 0)
 | .str y => y.length ≤ sizeLine ∧ k = ((y.length : Int) != 0)
 | .byt y => y.size ≤ sizeLine ∧ k = ((y.size : Int) != 0)
 | .ref p => (∃ xs, SqL K H p xs ∧ k = !xs.isEmpty) ∨ (∃ xs, SqT K H p xs ∧ k = !xs.isEmpty) ∨ ∃ kvs, H p = some (.dK kvs) ∧ k = !kvs.isEmpty
 | _ => False
theorem bU0 {κ : Type} {kvs : List (κ × V)} {vs : List (κ × Value)} (r : KV kvs vs) : (!vs.isEmpty) = !kvs.isEmpty := by
 cases r <;> rfl
theorem aW6 {xs : List V} {its : List Value} (r : o5 xs its) : (!its.toArray.isEmpty) = !xs.isEmpty := by
 cases r <;> simp
theorem aL9 : (sizeLine : Nat) < 2 ^ 63 := by rw [sizeLine_eq]; decide
theorem cJ2 : dO8 X (fun x H Q => ∃ k, dB7 X.K x H k ∧ Q k H) := by
 intro pins s σ H x v Q I rx h
 obtain ⟨k, e, q⟩ := h
 have hl := aL9
 have hs : sizeLine = 16777216 := sizeLine_eq
 cases x with
 | non =>
   cases rx
   have e' : k = false := e
   subst e'
   exact truthy_none ⟨H, I, q⟩
 | bl b =>
   cases rx
   have e' : k = b := e
   subst e'
   exact wpAny_truthy_bool ⟨H, I, q⟩
 | int i =>
   obtain ⟨t, rfl⟩ := rx
   have e' : k = (i != 0) := e
   subst e'
   exact PySem.P.truthy_int ⟨H, I, q⟩
 | str y =>
   obtain ⟨t, rfl⟩ := rx
   obtain ⟨hy, e'⟩ : y.length ≤ sizeLine ∧ k = ((y.length : Int) != 0) := e
   subst e'
   exact PySem.P.truthy_str (by lia) ⟨H, I.tok _, q⟩
 | byt y =>
   obtain ⟨t, rfl⟩ := rx
   obtain ⟨hy, e'⟩ : y.size ≤ sizeLine ∧ k = ((y.size : Int) != 0) := e
   subst e'
   exact PySem.W.truthy_bytes (by lia) ⟨H, I.tok _, q⟩
 | ref p =>
   cases rx
   have e' : (∃ xs, SqL X.K H p xs ∧ k = !xs.isEmpty) ∨ (∃ xs, SqT X.K H p xs ∧ k = !xs.isEmpty) ∨ ∃ kvs, H p = some (.dK kvs) ∧ k = !kvs.isEmpty := e
   rcases e' with ⟨xs, hx, e'⟩ | ⟨xs, hx, e'⟩ | ⟨kvs, hx, e'⟩
   · subst e'
     obtain ⟨its, r, pl, hz⟩ := I.list hx
     have hlen := r.length
     exact wpAny_truthy_list pl.isList (by simp only [List.size_toArray]; lia) ⟨H, I.tok _, by rw [aW6 r]; exact q⟩
   · subst e'
     obtain ⟨its, r, pl, hz⟩ := I.tuple hx
     have hlen := r.length
     exact truthy_tuple pl (by simp only [List.size_toArray]; lia) ⟨H, I.tok _, by rw [aW6 r]; exact q⟩
   · subst e'
     obtain ⟨hz, hS, vs, r, m⟩ : kvs.length ≤ sizeLine ∧ (p == sysModules) = false ∧ ∃ vs, KV kvs vs ∧ s.heap.DictOf (J3 X.prog X.w) p vs := I.hok p _ hx
     have hlen : kvs.length = vs.length := Paired.length r
     exact wpAny_truthy_dict hS m (by lia) ⟨H, I.tok _, by rw [bU0 r]; exact q⟩
 | _ => exact (show False from e).elim
theorem cH6 (ha : PE X a ta) (he : ∀ whole, isTrue a X.env whole = (do let v ← whole; standAt a.pos; holding [v] (truthy v))) :
 PT X a (fun σ H Q => ta σ H fun x H' => ∃ k, dB7 X.K x H' k ∧ Q k H') := by
 intro pins s σ H Q I h
 exact isTrue_plain (thn (ha pins s σ H _ I h) fun v s1 hE1 => hE1.elim fun x H1 I1 r1 q1 => cJ2 pins s1 σ H1 x v Q I1 r1 q1) (he _)
theorem bR1 : OpR X (binaryOp .Add) (fun x y H Q => ∃ i j, x = .str i ∧ y = .str j ∧ i.length + j.length ≤ sizeLine ∧ Q (.str (i ++ j)) H) := by
 intro pins s σ H x y v u Q I rx ry h
 obtain ⟨i, j, rfl, rfl, hz, q⟩ := h
 obtain ⟨t, rfl⟩ := rx
 obtain ⟨t', rfl⟩ := ry
 exact add_str (fun t' tk => ⟨.str (i ++ j), H, I.tok _, ⟨_, rfl⟩, q⟩) hz
theorem X3 {x : V} {us : List Value} (r : o5 [x] us) : ∃ u, us = [u] ∧ o4 x u := by
 cases r with
 | cons r1 r2 => cases r2; exact ⟨_, rfl, r1⟩
theorem bY7 {x y : V} {us : List Value} (r : o5 [x, y] us) : ∃ u w', us = [u, w'] ∧ o4 x u ∧ o4 y w' := by
 cases r with
 | cons r1 r2 =>
   cases r2 with
   | cons r3 r4 => cases r4; exact ⟨_, _, rfl, r1, r3⟩
theorem cC3 : T5 X (.type "int") (fun xs H Q => (∃ i, xs = [.int i] ∧ Q (.int i) H) ∨ ∃ k, xs = [.bl k] ∧ Q (.int (if k then 1 else 0)) H) := by
 intro pins s σ H xs us Q I r h
 rcases h with ⟨i, rfl, q⟩ | ⟨k, rfl, q⟩
 · obtain ⟨u, rfl, t, rfl⟩ := X3 r
   exact call_int_int ⟨.int i, H, I, ⟨_, rfl⟩, q⟩
 · obtain ⟨u, rfl, r1⟩ := X3 r
   cases r1
   exact call_int_bool ⟨.int (if k then 1 else 0), H, I.tok _, ⟨_, rfl⟩, q⟩
end
structure ObjM (h : Heap) (x dx C : Addr) (mA : Str → Option Value) : Prop where
 obj : h.get? x = some (PySem.W.instObj C dx)
 ns : h.Ns1 dx mA
 ne : dx ≠ x
section
variable {prog : Program} {w : World} {A : Around} {E : VSP} {s : Shared} {K : PySem.W.Frag} {x dx C f : Addr} {mA : Str → Option Value} {name : Str} {v : Value}
end
theorem bB0.some_of {v : V} {o : Option Value} (r : bB0 (some v) o) : ∃ u, o = some u ∧ o4 v u := by
 cases o with
 | none => exact (show False from r).elim
 | some u => exact ⟨u, rfl, r⟩
section
variable {P : Program} {w : World} {H H' : Hp} {h h' : Heap} {a C dx : Addr} {fs fs' : List (Str × V)}
end
structure Cls (K : PySem.W.Frag) (C : Addr) : Prop where
 pg : PySem.W.plainGet K C Str.empty = true
 hd : PySem.W.hasDictIn K C = true
 po : PySem.W.plainOver K C = true
 sa : PySem.W.findIn K (.ref C) "__setattr__" = some (some (.builtin "object.__setattr__"))
theorem Cls.get {K : PySem.W.Frag} {C : Addr} (c : Cls K C) (f : Str) : PySem.W.plainGet K C f = true := c.pg
structure Con (K : PySem.W.Frag) (C : Addr) (f : Str) (v : V) (u : Value) : Prop where
 at_ : PySem.W.findIn K (.ref C) f = some (some u)
 rel : o4 v u
 get : PySem.W.specialIn K u "__get__" = some none
 cp : PySem.W.copiedNames.contains f = false
structure Meth (K : PySem.W.Frag) (C : Addr) (m : Str) (f : Addr) : Prop where
 at_ : PySem.W.findIn K (.ref C) m = some (some (.ref f))
 fn : PySem.W.isFn K (.ref f) = true
 kp : PySem.W.keepIn K (.ref f) = true
section
variable {X : Cx} {pins : PNS} {σ : St} {H : Hp} {s : Shared} {a C dx : Addr} {fs : List (Str × V)} {f : Str} {v : V} {A : Around} {E : VSP}
end
section
variable {X : Cx} {o e value : Expr} {f : Str} {pos pos' tpos : Pos} {ta tv : TE}
end
section
variable {X : Cx} {pins : PNS} {σ : St} {H : Hp} {s : Shared} {A : Around} {E : VSP} {Q : VSP} {c : Value} {b : Bool}
inductive aW7 (K : PySem.W.Frag) (H : Hp) : V → Value → Prop where
 | non : aW7 K H .non (.type "NoneType")
 | bl (x : Bool) : aW7 K H (.bl x) (.type "bool")
 | int (i : Int) : aW7 K H (.int i) (.type "int")
 | str (x : Str) : aW7 K H (.str x) (.type "str")
 | flt (x : UInt64) : aW7 K H (.flt x) (.type "float")
 | lst {a : Addr} {xs : List V} (e : H a = some (.lst xs)) : aW7 K H (.ref a) (.type "list")
 | frz {a : Addr} {o : Obj} {xs : List V} (e : H a = some (.frz o (.lst xs))) : aW7 K H (.ref a) (.type "list")
 | tup {a : Addr} {xs : List V} (e : H a = some (.tup xs)) : aW7 K H (.ref a) (.type "tuple")
 | dK {a : Addr} {kvs : List (Key × V)} (e : H a = some (.dK kvs)) : aW7 K H (.ref a) (.type "dict")
 | dT {a : Addr} {kvs : List (List Key × V)} (e : H a = some (.dT kvs)) : aW7 K H (.ref a) (.type "dict")
 | ins {a C dx : Addr} {fs : List (Str × V)} (e : H a = some (.ins C dx fs)) (cl : Cls K C) (ha : PySem.W.findIn K (.ref C) "__class__" = some (some (.builtin "object.__class__")))
    (hn : PySem.W.specialIn K (.builtin "object.__class__") "__get__" = some (some (.builtin "getset_descriptor.__get__"))) (htk : PySem.W.takesIn K (.builtin "object.__class__") = some true)
    (hm : PySem.W.mroIn K C (.type "object") = some true) : aW7 K H (.ref a) (.ref C)
end
structure V2 (k : Nat) (A : Around) : Prop where
 hd : A.handled = none
 dp : A.depth + 3 * k + 5 < recursionLimit
 un : A.units + 16 * k + 200 < cLine
theorem V2.mono {j k : Nat} {A : Around} (r : V2 k A) (h : j ≤ k) : V2 j A := ⟨r.hd, by have := r.dp; lia, by have := r.un; lia⟩
theorem V2.deeper {k : Nat} {A : Around} (r : V2 (k + 1) A) (env : Env) : V2 k (A.deeper env) :=
 ⟨r.hd, by have := r.dp; show A.depth + 1 + 3 * k + 5 < _; lia, by have := r.un; show A.units + 3 + 16 * k + 200 < _; lia⟩
theorem V2.in1 {k : Nat} {A : Around} (r : V2 (k + 1) A) : V2 k A.in1 :=
 ⟨r.hd, by have := r.dp; show A.depth + 3 * k + 5 < _; lia, by have := r.un; show A.units + 1 + 16 * k + 200 < _; lia⟩
theorem V2.depth {k : Nat} {A : Around} (r : V2 k A) : A.depth < recursionLimit := by have := r.dp; lia
theorem V2.units {k : Nat} {A : Around} (r : V2 k A) : A.units + 64 < cLine := by have := r.un; lia
noncomputable def dO2 : TA := fun _ H Q => Q [] H
noncomputable def dK5 (ta : TE) (tr : TA) : TA := fun σ H Q => ta σ H fun x H1 => tr σ H1 fun xs H2 => Q (x :: xs) H2
section
variable {X : Cx} {e : Expr} {es : List Expr} {te : TE} {t : TA} {pos : Pos}
theorem dB5 : PA X [] dO2 := fun _ _ _ _ H Q I h => Calls.spliced_nil ⟨[], H, I, .nil, h⟩
theorem cP5 (ha : PE X e te) (hr : PA X es t) (hs : starEach (e :: es) X.env = (false, eval e X.env) :: starEach es X.env) : PA X (e :: es) (dK5 te t) := by
 intro pos pins s σ H Q I h
 rw [hs]
 show wpAny _ _ (spliced ((false, eval e X.env) :: backTo pos (starEach es X.env))) _ _ s
 refine Calls.spliced_cons (thn (ha pins s σ H _ I h) fun u s1 hE1 => hE1.elim fun x H1 I1 r1 q1 => ?_)
 exact thn (hr pos pins s1 σ H1 _ I1 q1) fun us s2 hE1 => hE1.elim fun xs H2 I2 r2 q2 => ⟨x :: xs, H2, I2, .cons r1 r2, q2⟩
def dP9 (t : TA) : TE := fun σ H Q => t σ H fun xs H1 => xs.length ≤ sizeLine ∧ ∀ p, H1 p = none → Q (.ref p) (upd H1 p (.tup xs))
def dO5 (t : TA) : TE := fun σ H Q => t σ H fun xs H1 => xs.length ≤ sizeLine ∧ ∀ p, H1 p = none → Q (.ref p) (upd H1 p (.lst xs))
theorem dB6 {x1} (h : PA X es t) : PE X (.Tuple es x1 pos) (dP9 t) := by
 intro pins s σ H Q I hq
 refine wpAny_Tuple_spliced (thn (h pos pins s σ H _ I hq) fun us s1 ⟨xs, H1, I1, r, z, q⟩ => ⟨by rw [← r.length]; exact z, ?_⟩)
 have hf : H1 s1.heap.objs.size = none := I1.hok.fresh (Nat.le_refl _)
 refine ⟨.ref s1.heap.objs.size, upd H1 s1.heap.objs.size (.tup xs), I1.laid (t' := s1.toks) (fun b u e => Heap.get?_push_of_some _ e) (Nat.le_refl _) ?_, rfl, q _ hf⟩
 exact ⟨z, us, r, ⟨_, Heap.get?_push_size _ rfl, rfl, _, rfl⟩⟩
theorem cZ9 (h : PA X es t) : PE X (.List es pos) (dO5 t) := by
 intro pins s σ H Q I hq
 refine wpAny_List_spliced (thn (h pos pins s σ H _ I hq) fun us s1 ⟨xs, H1, I1, r, z, q⟩ => ⟨by rw [← r.length]; exact z, ?_⟩)
 have hf : H1 s1.heap.objs.size = none := I1.hok.fresh (Nat.le_refl _)
 refine ⟨.ref s1.heap.objs.size, upd H1 s1.heap.objs.size (.lst xs), I1.laid (t' := s1.toks) (fun b u e => Heap.get?_push_of_some _ e) (Nat.le_refl _) ?_, rfl, q _ hf⟩
 exact ⟨z, us, 0, r, Heap.get?_push_size _ rfl⟩
end
noncomputable abbrev Sp := List V → Hp → VK → XK → Prop
noncomputable abbrev CXT := List Env → Hp → Shared → XK → VSP
structure bT4 (P : Program) (w : World) (K : PySem.W.Frag) (mg : Str → Option Value) (base : Heap) (A : Around) (outer : List Env) (s : Shared) (H : Hp) : Prop where
 frames : A.frames = some outer
 mod : Mod K mg base
 bs : ∀ b o, base.get? b = some o → s.heap.get? b = some o ∧ H b = none
 bsz : base.objs.size ≤ s.heap.objs.size
 funs : s.heap.FunFrames base outer
 frf : ∀ b ∈ frs outer, H b = none
 hok : HOk P w H s.heap
 bare : AllBare s.gens
def CE (outer : List Env) (P : Program) (w : World) (H : Hp) (s : Shared) (Q : VK) (u : Value) (s' : Shared) : Prop :=
 ∃ v H', s'.os = s.os ∧ AllBare s'.gens ∧ Un (frs outer) [] H H' s.heap s'.heap ∧ HOk P w H' s'.heap ∧ o4 v u ∧ Q v H'
def CR (CX : CXT) (outer : List Env) (P : Program) (w : World) (H : Hp) (s : Shared) (Q : VK) (E : XK) (r : Result) (s' : Shared) : Prop :=
 match r with
 | .ok (.ret u) => CE outer P w H s Q u s'
 | .ok _ => False
 | .error e => CX outer H s E e s'
structure v6 (P : Program) (w : World) (K : PySem.W.Frag) (mg : Str → Option Value) (base : Heap) (CX : CXT) (k : Nat) (f : Addr) (fd : FuncData) (ps : List Str) (sp : Sp) : Prop where
 len : ∀ vs H Q E, sp vs H Q E → vs.length = ps.length
 run : ∀ (A : Around) (outer : List Env) (s : Shared) (H : Hp) (args : Args) (us : List Value) (vs : List V) (Q : VK) (E : XK), V2 k A → bT4 P w K mg base A outer s H → BindsTo s fd args (ps.zip us) → o5 vs us → sp vs H Q E →
  codeAny (model P w) A (.call (.ref f) args) (CR CX outer P w H s Q E) s
theorem v6.mono {P : Program} {w : World} {K : PySem.W.Frag} {mg : Str → Option Value} {base : Heap} {CX : CXT} {j k : Nat} {f : Addr} {fd : FuncData} {ps : List Str} {sp : Sp} (F : v6 P w K mg base CX j f fd ps sp) (h : j ≤ k) :
 v6 P w K mg base CX k f fd ps sp := ⟨F.len, fun A outer s H args us vs Q E hr => F.run A outer s H args us vs Q E (hr.mono h)⟩
theorem v6.imp {P : Program} {w : World} {K : PySem.W.Frag} {mg : Str → Option Value} {base : Heap} {CX : CXT} {k : Nat} {f : Addr} {fd : FuncData} {ps : List Str} {sp sp' : Sp} (F : v6 P w K mg base CX k f fd ps sp)
 (h : ∀ vs H Q E, sp' vs H Q E → sp vs H Q E) : v6 P w K mg base CX k f fd ps sp' :=
 ⟨fun vs H Q E q => F.len vs H Q E (h _ _ _ _ q), fun A outer s H args us vs Q E hr he hb hv hs => F.run A outer s H args us vs Q E hr he hb hv (h _ _ _ _ hs)⟩
theorem bT4.in1 {P : Program} {w : World} {K : PySem.W.Frag} {mg : Str → Option Value} {base : Heap} {A : Around} {outer : List Env} {s : Shared} {H : Hp} (e : bT4 P w K mg base A outer s H) :
 bT4 P w K mg base A.in1 outer s H := ⟨e.frames, e.mod, e.bs, e.bsz, e.funs, e.frf, e.hok, e.bare⟩
section
variable {X : Cx} {pins : PNS} {σ : St} {H : Hp} {s s' : Shared}
theorem Inv.env0 (I : Inv X pins σ H s) : bT4 X.prog X.w X.K X.mg X.base X.A X.stack s H :=
 ⟨I.ok.frames, I.ok.mod, I.bs, Nat.le_trans I.ok.bsz I.sz, I.stack, I.stkFree, I.hok, I.bare⟩
theorem Inv.after {Q : VK} {u : Value} (I : Inv X pins σ H s) (h : CE X.stack X.prog X.w H s Q u s') : EP X pins σ Q u s' := by
 obtain ⟨v, H', os, bare, un, hok, r, q⟩ := h
 obtain ⟨hh, g, d, t, os'⟩ := s'
 obtain rfl : os' = s.os := os
 exact ⟨v, H', I.call (h' := hh) (g' := g) (d' := d) (t' := t) (ch := []) un hok bare (fun b z => absurd z (by simp)), r, q⟩
end
noncomputable def dG8 (sp : Sp) (dvs : List V) (E : XK) (t : TA) : TE := fun σ H Q => t σ H fun vs H1 => sp (vs ++ dvs) H1 Q E
noncomputable def aS0 (K : PySem.W.Frag) (fd : FuncData) (ps : List Str) (ds : List Value) : Prop :=
 ∀ (s : Shared) (us : List Value), K.In s.heap → (us ++ ds).length = ps.length → BindsTo s fd ⟨us, []⟩ (ps.zip (us ++ ds))
theorem aS0.all {K : PySem.W.Frag} {fd : FuncData} {ps : List Str} (h : ∀ us : List Value, us.length = ps.length → bindArgs fd ⟨us, []⟩ = pure (ps.zip us)) : aS0 K fd ps [] := fun s us _ hl => by
 rw [List.append_nil] at hl ⊢
 exact .of_eq (h us hl)
noncomputable def bT1 (CX : CXT) (X : Cx) (E : XK) : Prop := ∀ (pins : PNS) (σ : St) (H : Hp) (s : Shared) (e : Value) (s' : Shared), Inv X pins σ H s → CX X.stack H s E e s' → X.xe e s'
section
variable {X : Cx} {CX : CXT} {k : Nat} {f C : Addr} {fd : FuncData} {ps : List Str} {sp : Sp} {dvs : List V} {ds : List Value} {E : XK} {x m : Str} {p pos apos : Pos} {e o : Expr} {es : List Expr} {ta : TE} {t : TA}
theorem cK3 {pins : PNS} {σ : St} {H : Hp} {s : Shared} {Q : VK} {us : List Value} {vs : List V} (F : v6 X.prog X.w X.K X.mg X.base CX k f fd ps sp) (hr : V2 k X.A) (hb : aS0 X.K fd ps ds) (hd : o5 dvs ds) (hx : bT1 CX X E)
 (I : Inv X pins σ H s) (r : o5 vs us) (h : sp (vs ++ dvs) H Q E) : wpAny (model X.prog X.w) X.A (call (.ref f) us) (EP X pins σ Q) X.xe s := by
 have r2 : o5 (vs ++ dvs) (us ++ ds) := r.append hd
 have hl : (us ++ ds).length = ps.length := by rw [← r2.length]; exact F.len _ _ _ _ h
 refine wpAny_call (codeAny_mono (F.run X.A X.stack s H ⟨us, []⟩ (us ++ ds) (vs ++ dvs) Q E hr I.env0 (hb s us I.kIn hl) r2 h) fun r s' hq => ?_)
 cases r with
 | error e => exact hx pins σ H s e s' I hq
 | ok fl =>
   cases fl with
   | ret u => exact I.after hq
   | next => exact False.elim hq
   | brk => exact False.elim hq
   | cont => exact False.elim hq
theorem cP2 (F : v6 X.prog X.w X.K X.mg X.base CX k f fd ps sp) (hr : V2 k X.A) (hg : Gl X x) (hm : X.mg x = some (.ref f)) (hk : PySem.W.keepIn X.K (.ref f) = true) (hb : aS0 X.K fd ps ds) (hd : o5 dvs ds) (hx : bT1 CX X E)
 (ha : PA X (e :: es) t) (hdb : (x == ("__debug__" : Str)) = false) (he : starEach (e :: es) X.env = (false, eval e X.env) :: starEach es X.env) (hpl : (backTo pos (starEach es X.env)).any (·.1) = false) :
 PE X (.Call (.Name x p) (e :: es) [] pos) (dG8 sp dvs E t) := by
 intro pins s σ H Q I h
 refine wpAny_Call_Name_kw (bI7 I hg hm ?_ hdb)
 refine PySem.W.callWith_K (h₀ := X.base) I.ok.mod.kin hk (thn (ha pos pins s σ H _ I h) fun us s1 hE1 => hE1.elim fun vs H1 I1 r q => ⟨I1.kIn, ?_⟩) he hpl
 exact cK3 F hr hb hd hx I1 r q
structure Mk (K : PySem.W.Frag) (C f : Addr) : Prop where
 makes : PySem.W.makesIn K C = true
 init : PySem.W.findIn K (.ref C) "__init__" = some (some (.ref f))
 fn : PySem.W.isFn K (.ref f) = true
 kp : PySem.W.keepIn K (.ref C) = true
end
section
variable {X : Cx} {CX : CXT} {k : Nat} {f C : Addr} {fd : FuncData} {ps ks : List Str} {sp : Sp} {E : XK} {x m : Str} {p pos apos kpos : Pos} {e o : Expr} {es : List Expr} {kws : List Keyword} {te ta : TE} {t tk : TA} {nm : Option Str}
structure KBinds (K : PySem.W.Frag) (fd : FuncData) (ps ks : List Str) (g : List Value → List Value → List Value) (gV : List V → List V → List V) : Prop where
 to : ∀ (s : Shared) (us ws : List Value), K.In s.heap → (g us ws).length = ps.length → BindsTo s fd ⟨us, ks.zip ws⟩ (ps.zip (g us ws))
 rel : ∀ {vs : List V} {us : List Value} {zs : List V} {ws : List Value}, o5 vs us → o5 zs ws → o5 (gV vs zs) (g us ws)
variable {g : List Value → List Value → List Value} {gV : List V → List V → List V}
end
structure m7 (N P : List Str) (sc : Scope) : Prop where
 kind : sc.kind = .function
 co : sc.isCoroutine = false
 gen : sc.isGenerator = false
 nd : N.Nodup
 pre : N.take P.length = P
 par : ∀ x ∈ P, sc.names.lookup x = some .local ∨ sc.names.lookup x = some .cell
 nofree : ∀ y ∈ sc.names, y.2 ≠ .free
theorem bC2 {kindOf : Str → Option NameKind} {x : Str} : ∀ {binds : List (Str × Value)} {m : Str → Option Value}, (∀ v, (x, v) ∉ binds) → bindL kindOf binds m x = m x
 | [], _, _ => rfl
 | (n, v) :: r, m, h => by
  unfold bindL
  rw [bC2 fun w hw => h w (List.mem_cons_of_mem _ hw)]
  split
  · have : x ≠ n := by rintro rfl; exact h v List.mem_cons_self
    simp [this]
  · rfl
theorem bD8 {kindOf : Str → Option NameKind} {x : Str} : ∀ {binds : List (Str × Value)} {m : Str → Option Value}, (∀ v, (x, v) ∉ binds) → bindC kindOf binds m x = m x
 | [], _, _ => rfl
 | (n, v) :: r, m, h => by
  unfold bindC
  rw [bD8 fun w hw => h w (List.mem_cons_of_mem _ hw)]
  split
  · rfl
  · have : x ≠ n := by rintro rfl; exact h v List.mem_cons_self
    simp [this]
theorem bE0 {kindOf : Str → Option NameKind} {x : Str} {v : Value} : ∀ {P : List Str} {vs : List Value} {i : Nat} {m : Str → Option Value}, P.Nodup → P[i]? = some x → vs[i]? = some v → kindOf x = some .local →
 bindL kindOf (P.zip vs) m x = some v
 | [], _, _, _, _, h, _, _ => by simp at h
 | _ :: _, [], _, _, _, _, h, _ => by simp at h
 | p :: P, w :: vs, 0, m, nd, h1, h2, hk => by
   simp at h1 h2; subst h1; subst h2
   show bindL kindOf ((p, w) :: P.zip vs) m p = _
   unfold bindL
   rw [bC2 fun v hv => (List.nodup_cons.mp nd).1 (List.of_mem_zip hv).1, if_pos hk]
   simp
 | p :: P, w :: vs, i + 1, m, nd, h1, h2, hk => by
   show bindL kindOf ((p, w) :: P.zip vs) m x = _
   unfold bindL
   exact bE0 (i := i) (List.nodup_cons.mp nd).2 (by simpa using h1) (by simpa using h2) hk
theorem bC3 {kindOf : Str → Option NameKind} {x : Str} {v : Value} : ∀ {P : List Str} {vs : List Value} {i : Nat} {m : Str → Option Value}, P.Nodup → P[i]? = some x → vs[i]? = some v → kindOf x ≠ some .local →
 bindC kindOf (P.zip vs) m x = some v
 | [], _, _, _, _, h, _, _ => by simp at h
 | _ :: _, [], _, _, _, _, h, _ => by simp at h
 | p :: P, w :: vs, 0, m, nd, h1, h2, hk => by
   simp at h1 h2; subst h1; subst h2
   show bindC kindOf ((p, w) :: P.zip vs) m p = _
   unfold bindC
   rw [bD8 fun v hv => (List.nodup_cons.mp nd).1 (List.of_mem_zip hv).1, if_neg hk]
   simp
 | p :: P, w :: vs, i + 1, m, nd, h1, h2, hk => by
   show bindC kindOf ((p, w) :: P.zip vs) m x = _
   unfold bindC
   exact bC3 (i := i) (List.nodup_cons.mp nd).2 (by simpa using h1) (by simpa using h2) hk
noncomputable def start (N : List Str) (vs : List V) : St := vs.map some ++ List.replicate (N.length - vs.length) none
noncomputable def bQ5 (CX : CXT) (P : Program) (w : World) (K : PySem.W.Frag) (mg : Str → Option Value) (base : Heap) (N : List Str) (qual : Str) (scope : Scope) (f : Addr) (cd : Value) (A : Around) (outer : List Env) (s : Shared) (H : Hp) (E : XK) : Cx where
 prog := P
 w := w
 K := K
 mg := mg
 base := base
 A := A.deeper (envOfC qual scope s.heap.objs.size f cd)
 N := N
 s₀ := s
 H₀ := H
 env := envOfC qual scope s.heap.objs.size f cd
 outer := outer
 stack := envOfC qual scope s.heap.objs.size f cd :: outer
 ex := []
 calm := true
 fn := fun _ => true
 pn := []
 xe := fun e s' => wpAny (model P w) (A.deeper (envOfC qual scope s.heap.objs.size f cd)) (leaving (envOfC qual scope s.heap.objs.size f cd) e) (fun _ s'' => CX outer H s E e s'') (fun e' s'' => CX outer H s E e' s'') s'
theorem bO3 {sc : Scope} {n : Nat} {x : Str} (h : sc.names.lookup x = some .cell) : ∃ c, (cellsFrom n sc.names []).lookup x = some c := by
 have q := PySem.W.cellsFrom_some sc.names n [] (.inl h)
 exact Option.isSome_iff_exists.mp q
theorem cD3 {CX : CXT} {P : Program} {w : World} {K : PySem.W.Frag} {mg : Str → Option Value} {base : Heap} {N ps : List Str} {qual : Str} {scope : Scope} {f : Addr} {cd : Value} {A : Around} {outer : List Env} {s s1 : Shared} {H : Hp} {E : XK} {us : List Value} {vs : List V}
 (S : m7 N ps scope) (hd : A.handled = none) (e0 : bT4 P w K mg base A outer s H) (hl : vs.length = ps.length) (r : o5 vs us)
 (x : InCallC s s.heap.objs.size (bindL (envOfC qual scope s.heap.objs.size f cd).kindOf (ps.zip us) fun _ => none) (cellsFrom (s.heap.objs.size + 1) scope.names []) (bindC (envOfC qual scope s.heap.objs.size f cd).kindOf (ps.zip us) fun _ => none) s1) :
 Inv (bQ5 CX P w K mg base N qual scope f cd A outer s H E) [] (start N vs) H s1 := by
 have hpl : ps.length ≤ N.length := by have := congrArg List.length S.pre; rw [List.length_take] at this; lia
 obtain ⟨h1, tk, rfl, hk⟩ := x.done
 have noA : ∀ b : Addr, b ∉ (bQ5 CX P w K mg base N qual scope f cd A outer s H E).ex := fun b z => absurd (show b ∈ ([] : List Addr) from z) (by simp)
 refine ⟨⟨e0.mod, S.kind, rfl, rfl, Nat.le_refl _, fun y z c h1 h2 => ?_, fun y hy => ?_, fun y c _ h => ?_, fun _ => hd, Around.frames_deeper e0.frames, .inr ⟨rfl, rfl⟩, fun b z => absurd z (noA b), e0.bs, e0.bsz, fun b _ _ => noA b, fun b z => absurd z (noA b), e0.funs, e0.frf⟩,
  rfl, e0.bare, Un.kept hk, ⟨_, x.toInCall.ns, fun i y v h1 h2 h3 => ?_⟩, fun y c h => ⟨_, x.cell y c h⟩, e0.hok.fresh (Nat.le_refl _), fun y c h => ?_, fun p hp => absurd (show p ∈ ([] : PNS) from hp) (by simp), e0.hok.kept hk, ?_⟩
 · exact name_of_addr x.apart (PySem.mem_of_lookup h1) (PySem.mem_of_lookup h2)
 · have hy : scope.names.lookup y = some .cell ∨ scope.names.lookup y = some .free := hy
   rcases hy with hy | hy
   · exact bO3 hy
   · exact absurd rfl (S.nofree _ (PySem.mem_of_lookup hy))
 · exact Nat.le_of_lt (x.above y c (PySem.mem_of_lookup h))
 · have hi : i < vs.length := by
    unfold start at h2
    by_cases hi : i < vs.length
    · exact hi
    · rw [List.getElem?_append_right (by simpa using hi)] at h2
      rw [List.getElem?_replicate] at h2
      split at h2 <;> cases h2
   have ha : vs[i]? = some v := by
    unfold start at h2
    rw [List.getElem?_append_left (by simpa using hi), List.getElem?_map] at h2
    cases e : vs[i]? with
    | none => rw [e] at h2; cases h2
    | some a => rw [e] at h2; cases h2; rfl
   obtain ⟨u, hu, rv⟩ := r.get ha
   have hp : ps[i]? = some y := by
    rw [← S.pre, List.getElem?_take_of_lt (by lia)]; exact h1
   have ndP : ps.Nodup := by rw [← S.pre]; exact S.nd.sublist (List.take_sublist _ _)
   refine ⟨u, rv, ?_⟩
   rcases S.par y (List.mem_of_getElem? hp) with k | k
   · exact .inl ⟨k, bE0 ndP hp hu k⟩
   · obtain ⟨c, e⟩ := bO3 (n := s.heap.objs.size + 1) k
     refine .inr ⟨.inl k, c, e, ?_⟩
     have q := x.cell y c e
     rw [bC3 ndP hp hu (by show scope.names.lookup y ≠ _; rw [k]; decide)] at q
     exact q
 · exact e0.hok.fresh (Nat.le_of_lt (x.above y c (PySem.mem_of_lookup h)))
 · unfold start
   show _ = N.length
   rw [List.length_append, List.length_map, List.length_replicate]
   lia
theorem dH7 {CX : CXT} {P : Program} {w : World} {K : PySem.W.Frag} {mg : Str → Option Value} {base : Heap} {k : Nat} {f : Addr} {name qual : Str} {params : Arguments} {body : List Stmt} {scope : Scope} {dV kV doc pm cdv ct oc : Value} {an od : Option Addr}
 {osl : Array (Option Value)} {N ps : List Str} {sp : Sp} (lk : K.lookup f = some ⟨oc, od, .func (PySem.W.fnOf name qual params body scope dV kV doc pm an cdv ct), osl⟩) (hcd : PySem.W.codeIn K cdv qual = true) (S : m7 N ps scope)
 (len : ∀ vs H Q E, sp vs H Q E → vs.length = ps.length)
 (hbody : ∀ (A : Around) (outer : List Env) (s : Shared) (H : Hp) (vs : List V) (Q : VK) (E : XK), V2 k (A.deeper (envOfC qual scope s.heap.objs.size f cdv)) → sp vs H Q E →
   ∃ t, PSs (bQ5 CX P w K mg base N qual scope f cdv A outer s H E) body t ∧ t { nx := fun _ H' => Q .non H', rt := Q } (start N vs) H) :
 v6 P w K mg base CX (k + 1) f (PySem.W.fnOf name qual params body scope dV kV doc pm an cdv ct) ps sp := by
 refine ⟨len, fun A outer s H args us vs Q E hr e0 hb r hsp => ?_⟩
 have hl := len _ _ _ _ hsp
 have KX : K.In s.heap := e0.mod.kin.keeps fun b o e => (e0.bs b o e).1
 have lim : s.heap.NoLimit := e0.mod.nolimit.keeps fun b o e => (e0.bs b o e).1
 have hkind : ∀ y ∈ ps.zip us, scope.names.lookup y.1 = some .local ∨ (scope.names.lookup y.1 = some .cell ∧ ((cellsFrom (s.heap.objs.size + 1) scope.names []).lookup y.1).isSome = true) := fun ⟨n, v⟩ hy => by
  rcases S.par n (List.of_mem_zip hy).1 with q | q
  · exact .inl q
  · exact .inr ⟨q, PySem.W.cellsFrom_some _ _ _ (.inl q)⟩
 refine codeAny_call_function hr.depth (KX _ _ lk) rfl S.co S.gen rfl (PySem.W.codeRec_of KX hcd) (hb _ _ _ _ ?_)
 refine wpAny_newFunctionEnv_cells S.kind hkind fun env he s1 x => ?_
 subst he
 refine ⟨lim.keeps x.toInCall.keep, codeAny_func ?_⟩
 obtain ⟨t, ht, hq⟩ := hbody A outer s H vs Q E (hr.deeper _) hsp
 have I : Inv (bQ5 CX P w K mg base N qual scope f cdv A outer s H E) [] (start N vs) H s1 := cD3 S hr.hd e0 hl r x
 refine wpAny_mono (ht [] s1 (start N vs) H _ I hq) (fun fl s' hs => ?_) fun e s' hs => hs
 have fin : ∀ {σ' : St} {H' : Hp} {v : V} {u : Value}, Inv (bQ5 CX P w K mg base N qual scope f cdv A outer s H E) [] σ' H' s' → o4 v u → Q v H' → CE outer P w H s Q u s' :=
  fun {σ' H' v u} J rv q => ⟨v, H', J.os, J.bare, J.base, J.hok, rv, q⟩
 cases fl with
 | ret u =>
   obtain ⟨v, σ', H', J, rv, q⟩ := hs
   exact fin J rv q
 | next =>
   obtain ⟨σ', H', J, q⟩ := hs
   exact fin (v := V.non) (u := Value.none) J rfl q
 | brk =>
   obtain ⟨_, _, _, q⟩ := hs
   exact False.elim q
 | cont =>
   obtain ⟨_, _, _, q⟩ := hs
   exact False.elim q
section
variable {X : Cx} {x : Str} {p pos : Pos} {e : Expr} {es : List Expr} {t : TA} {id T : String} {r : List V → Hp → VK → Prop}
noncomputable def tCB (r : List V → Hp → VK → Prop) (t : TA) : TE := fun σ H Q => t σ H fun vs H1 => r vs H1 Q
theorem cK9 (hc : T5 X (.builtin id) r) (hg : Gl X x) (hm : X.mg x = none) (hv : bootBuiltins x = some (.builtin id)) (ha : PA X (e :: es) t) (hn : x ≠ "__name__") (hdb : (x == ("__debug__" : Str)) = false)
 (he : starEach (e :: es) X.env = (false, eval e X.env) :: starEach es X.env) (hpl : (backTo pos (starEach es X.env)).any (·.1) = false) : PE X (.Call (.Name x p) (e :: es) [] pos) (tCB r t) := by
 intro pins s σ H Q I h
 refine wpAny_Call_Name_kw (aP6 I hg hm hv ?_ hn hdb)
 exact PyProof.Rows.callWith_builtin1 (thn (ha pos pins s σ H _ I h) fun us s1 hE1 => hE1.elim fun vs H1 I1 r1 q1 => hc pins s1 σ H1 vs us Q I1 r1 q1) he hpl
theorem cC9 (hc : T5 X (.type T) r) (hg : Gl X x) (hm : X.mg x = none) (hv : bootBuiltins x = some (.type T)) (ha : PA X (e :: es) t) (hn : x ≠ "__name__") (hdb : (x == ("__debug__" : Str)) = false)
 (he : starEach (e :: es) X.env = (false, eval e X.env) :: starEach es X.env) (hpl : (backTo pos (starEach es X.env)).any (·.1) = false) : PE X (.Call (.Name x p) (e :: es) [] pos) (tCB r t) := by
 intro pins s σ H Q I h
 refine wpAny_Call_Name_kw (aP6 I hg hm hv ?_ hn hdb)
 exact PyProof.Rows.callWith_type1 (thn (ha pos pins s σ H _ I h) fun us s1 hE1 => hE1.elim fun vs H1 I1 r1 q1 => hc pins s1 σ H1 vs us Q I1 r1 q1) he hpl
end
end L2
namespace HT
open PySem PyProof.Rows
section
open PySem.SeqAt
open PySem.AutoSeq1 (wpAny_loadPart')
open PySem.MeetsSeq PySem.MeetsSeq2 PySem.MeetsSeq3
end
section
variable {prog : Program} {w : World} {A : Around} {E : VSP} {s : Shared}
theorem cat_tup {t b : Addr} {vs ws : List Value} {Q : VSP} (ht : IsTup s.heap t vs.toArray) (hb : IsTup s.heap b ws.toArray) (hv : vs ≠ [])
 (h1 : ws = [] → Q (.ref t) s) (h2 : ws ≠ [] → Q (.ref s.heap.objs.size) { s with heap := s.heap.push { cls := .type "tuple", data := .seq (vs ++ ws).toArray } })
 (hsz : vs.length + ws.length ≤ sizeLine) : wpAny (model prog w) A (binaryOp .Add (.ref t) (.ref b)) Q E s := by
 obtain ⟨⟨cls, dd, data, sl⟩, ho, hc, n, hd⟩ := id ht
 obtain ⟨⟨cls2, dd2, data2, sl2⟩, ho2, hc2, n2, hd2⟩ := id hb
 simp only at hc hd hc2 hd2
 subst hc hd hc2 hd2
 have e : vs.toArray ++ ws.toArray = (vs ++ ws).toArray := by simp
 by_cases hw : ws = []
 · exact concat_meets ⟨_, ho, rfl⟩ ⟨_, ho2, rfl⟩ noFill_tuple_add seq_tuple_add PySem.F.slot_tuple_add PySem.F.entry_tuple_add (PySem.F.args_tuple_add_2 _ _)
    (tuple_addW1 t b vs.toArray ws.toArray n n2 dd dd2 sl sl2 (by simpa using hv) (by simp [hw])) ⟨ho, ho2, h1 hw⟩
 · refine concat_meets ⟨_, ho, rfl⟩ ⟨_, ho2, rfl⟩ noFill_tuple_add seq_tuple_add PySem.F.slot_tuple_add PySem.F.entry_tuple_add (PySem.F.args_tuple_add_2 _ _)
    (tuple_addW2 t b vs.toArray ws.toArray n n2 dd dd2 sl sl2 (by simpa using hv) (by simpa using hw) (by rw [List.size_toArray, List.size_toArray]; exact hsz)) ⟨ho, ho2, ?_⟩
   rw [e]
   exact h2 hw
noncomputable def sIx (n d : Nat) : Option Int → Nat
 | none => d
 | some v => if v < 0 then (v + (n : Int)).toNat else min v.toNat n
theorem sIx_none (n d : Nat) : sIx n d none = d := rfl
theorem sIx_nat (n d k : Nat) : sIx n d (some (k : Int)) = min k n := by
 show (if (k : Int) < 0 then ((k : Int) + (n : Int)).toNat else min (k : Int).toNat n) = min k n
 rw [if_neg (by lia), Int.toNat_natCast]
theorem dC9 (n d : Nat) (hd : d ≤ n) (o : Option Int) : sIx n d o ≤ n := by
 cases o with
 | none => exact hd
 | some v =>
   show (if v < 0 then (v + (n : Int)).toNat else min v.toNat n) ≤ n
   by_cases hv : v < 0
   · rw [if_pos hv]; lia
   · rw [if_neg hv]; exact Nat.min_le_right _ _
theorem bX8 (v : Int) (n d : Nat) : (if v < 0 then max (v + (n : Int)) 0 else min v (n : Int)) = ((sIx n d (some v) : Nat) : Int) := by
 show (if v < 0 then max (v + (n : Int)) 0 else min v (n : Int)) = (((if v < 0 then (v + (n : Int)).toNat else min v.toNat n) : Nat) : Int)
 by_cases hv : v < 0
 · simp only [if_pos hv]; lia
 · simp only [if_neg hv]; lia
theorem bQ8 (lo hi : Option Int) (n : Nat) : Builtin.Slice.sliceAdjust lo hi 1 (n : Int) = (((sIx n 0 lo : Nat) : Int), ((sIx n n hi : Nat) : Int)) := by
 have h1 : ¬ ((1 : Int) < 0) := by lia
 unfold Builtin.Slice.sliceAdjust
 simp only [h1, if_false]
 refine Prod.ext ?_ ?_
 · cases lo with
   | none => rfl
   | some v => exact bX8 v n 0
 · cases hi with
   | none => rfl
   | some v => exact bX8 v n n
theorem bT0 (i j : Nat) : Builtin.Slice.slicePlaces (i : Int) (j : Int) 1 = j - i := by
 unfold Builtin.Slice.slicePlaces
 have h1 : (1 : Int) > 0 := by lia
 simp only [h1, if_true, Int.ediv_one]
 split <;> lia
theorem aZ1 {v : Value} {o : Option Int} {Q : Option Int → Shared → Prop} (p : IsPart v o) (h : Q o s) : wpAny (model prog w) A (Builtin.Slice.slicePartIndex v) Q E s := by
 cases p with
 | none => exact slicePart_none h
 | int i t => exact slicePart_int h
theorem sliceApplied_gen {sl : Addr} {vl vu : Value} {lo hi : Option Int} {n : Nat} {Q : Int × Int × Nat → Shared → Prop} (hs : s.heap.IsSliceOf sl vl vu .none) (pl : IsPart vl lo) (pu : IsPart vu hi)
 (h : Q (((sIx n 0 lo : Nat) : Int), 1, sIx n n hi - sIx n 0 lo) s) : wpAny (model prog w) A (Builtin.Slice.sliceApplied (.ref sl) (pure (n : Int))) Q E s := by
 obtain ⟨os, hos, hcs, hds⟩ := id hs
 unfold Builtin.Slice.sliceApplied Builtin.Slice.sliceFields
 refine wpAny_bind (wpAny_bind (wpAny_field hos hds (x := vl) rfl (wpAny_bind (wpAny_field hos hds (x := vu) rfl (wpAny_bind (wpAny_field hos hds (x := .none) rfl (wpAny_pure ?_)))))))
 refine wpAny_bind (slicePart_none ?_)
 show wpAny _ _ (if ((1 : Int) == 0) = true then _ else _) _ _ s
 rw [if_neg (by decide)]
 refine wpAny_bind (aZ1 pl (wpAny_bind (aZ1 pu (wpAny_bind (wpAny_pure ?_)))))
 show wpAny _ _ (match Builtin.Slice.sliceAdjust lo hi 1 (n : Int) with | (lo, hi) => pure (lo, (1 : Int), Builtin.Slice.slicePlaces lo hi 1)) _ _ s
 rw [bQ8 lo hi n]
 show wpAny _ _ (pure (((sIx n 0 lo : Nat) : Int), (1 : Int), Builtin.Slice.slicePlaces ((sIx n 0 lo : Nat) : Int) ((sIx n n hi : Nat) : Int) 1)) _ _ s
 rw [bT0]
 exact wpAny_pure h
theorem cF4 (xs : Array Value) (i k : Nat) : ((List.range k).filterMap fun (m : Nat) => xs[((i : Int) + (m : Int) * 1).toNat]?).toArray = ((xs.toList.drop i).take k).toArray := by
 have e : (fun (m : Nat) => xs[((i : Int) + (m : Int) * 1).toNat]?) = fun m => xs[i + m]? := by
  funext m
  have : ((i : Int) + (m : Int) * 1).toNat = i + m := by lia
  rw [this]
 rw [e]
 have := pick_run xs i k
 rw [List.filterMap_map] at this
 have e2 : ((fun x => xs[x]?) ∘ fun x => i + x) = fun m => xs[i + m]? := rfl
 rw [e2] at this
 rw [this]
theorem getItem_tuple_cut {t sl : Addr} {items : Array Value} {vl vu : Value} {lo hi : Option Int} {Q : VSP} (ht : IsTup s.heap t items) (hs : s.heap.IsSliceOf sl vl vu .none) (pl : IsPart vl lo) (pu : IsPart vu hi)
 (hw : ¬ (sIx items.size 0 lo = 0 ∧ sIx items.size items.size hi = items.size))
 (h : Q (.ref s.heap.objs.size) { s with heap := s.heap.push { cls := .type "tuple", data := .seq ((items.toList.drop (sIx items.size 0 lo)).take (sIx items.size items.size hi - sIx items.size 0 lo)).toArray } })
 (hsz : items.size ≤ sizeLine) : wpAny (model prog w) A (getItem (.ref t) (.ref sl)) Q E s := by
 have htake : sizeOk (.seq ((items.toList.drop (sIx items.size 0 lo)).take (sIx items.size items.size hi - sIx items.size 0 lo)).toArray) := by
  show ((items.toList.drop (sIx items.size 0 lo)).take (sIx items.size items.size hi - sIx items.size 0 lo)).toArray.size ≤ sizeLine
  rw [List.size_toArray, List.length_take, List.length_drop, Array.length_toList]
  lia
 have hj : sIx items.size items.size hi ≤ items.size := dC9 _ _ (Nat.le_refl _) hi
 obtain ⟨os, hos, hcs, hds⟩ := id hs
 have hTs : s.TypeIs (.ref sl) "slice" := ⟨os, hos, hcs⟩
 unfold getItem
 try with_reducible refine wpAny_holding ?_
 first | refine wpAny_bind (wpAny_pure ?_) | skip
 refine wpAny_bind (wpAny_sequenceKey ht.typeIs (by decide) ?_)
 refine wpAny_bind (wpAny_callSpecial?_slot (name := Str.ofString "__getitem__") ht.typeIs PyProof.Rows.slot_tuple_getitem
  (wpAny_call_entry PyProof.Rows.slot_tuple_getitem ht.typeIs entry_tuple_getitem ?_ (args_tuple_getitem _ _)))
 show wpAny _ _ (Builtin.Tuple.tupleItemsOf (.ref t) >>= _) _ _ s
 refine wpAny_bind (tupleItemsOf_ ht ?_)
 refine wpAny_bind (wpAny_typeOf hTs ?_)
 rw [if_pos (by decide)]
 refine wpAny_bind (sliceApplied_gen hs pl pu ?_)
 have hno : ¬ ((((sIx items.size 0 lo : Nat) : Int) == 0 && (1 : Int) == 1 && (sIx items.size items.size hi - sIx items.size 0 lo) == items.size) = true) := by
  intro q
  rw [Bool.and_eq_true, Bool.and_eq_true] at q
  have q1 : ((sIx items.size 0 lo : Nat) : Int) = 0 := eq_of_beq q.1.1
  have q2 : sIx items.size items.size hi - sIx items.size 0 lo = items.size := eq_of_beq q.2
  exact hw ⟨by lia, by lia⟩
 show wpAny _ _ (if (((sIx items.size 0 lo : Nat) : Int) == 0 && (1 : Int) == 1 && (sIx items.size items.size hi - sIx items.size 0 lo) == items.size) = true then _ else _) _ _ s
 rw [if_neg hno, cF4]
 first
  | exact wpAny_bind (m := Builtin.Tuple.tupleExact _) (wpAny_newObj_type (wpAny_pure ⟨_, rfl, wpAny_pure h⟩) htake)
  | exact wpAny_bind (m := Builtin.Tuple.tupleExact _) (wpAny_newObj_type (wpAny_bind (wpAny_pure (wpAny_pure ⟨_, rfl, wpAny_pure h⟩))) htake)
  | exact wpAny_bind (wpAny_bind (m := Builtin.Tuple.tupleExact _) (wpAny_newObj_type (wpAny_pure (wpAny_pure ⟨_, rfl, wpAny_pure h⟩)) htake))
  | exact wpAny_bind (wpAny_bind (m := Builtin.Tuple.tupleExact _) (wpAny_newObj_type (wpAny_pure ⟨_, rfl, wpAny_pure h⟩) htake))
end
end HT
namespace L2
open PySem PySem.Spec PyProof.Rows
noncomputable abbrev TO := St → Hp → (Option Int → Hp → Prop) → Prop
noncomputable def PO (X : Cx) (e : Option Expr) (t : TO) : Prop :=
 ∀ (pins : PNS) (s : Shared) (σ : St) (H : Hp) (Q : Option Int → Hp → Prop), Inv X pins σ H s → t σ H Q →
  wpAny (model X.prog X.w) X.A (evalPart e X.env) (fun u s' => ∃ o H', Inv X pins σ H' s' ∧ IsPart u o ∧ Q o H') X.xe s
noncomputable def cP6 : TO := fun _ H Q => Q none H
noncomputable def dH8 (t : TE) : TO := fun σ H Q => t σ H fun x H1 => ∃ i, x = .int i ∧ Q (some i) H1
section
variable {X : Cx} {e : Expr} {te : TE} {lo hi : Option Expr} {tl th : TO} {pos p2 : Pos}
theorem cU5 : PO X none cP6 := by
 intro pins s σ H Q I h
 rw [evalPart_none]
 exact wpAny_pure ⟨none, H, I, .none, h⟩
theorem cR5 (h : PE X e te) : PO X (some e) (dH8 te) := by
 intro pins s σ H Q I hw
 rw [evalPart_some]
 refine thn (h pins s σ H _ I hw) fun u s1 hE1 => hE1.elim fun x H1 I1 r1 q1 => ?_
 obtain ⟨i, rfl, q⟩ := q1
 obtain ⟨t, rfl⟩ := r1
 exact ⟨some i, H1, I1, .int i t, q⟩
def SlR (X : Cx) (r : V → Option Int → Option Int → Hp → VK → Prop) : Prop :=
 ∀ (pins : PNS) (s : Shared) (σ : St) (H : Hp) (x : V) (v vl vu : Value) (lo hi : Option Int) (sl : Addr) (Q : VK), Inv X pins σ H s → o4 x v → s.heap.IsSliceOf sl vl vu .none → IsPart vl lo → IsPart vu hi → r x lo hi H Q →
  ∃ T id, typeLookup (.type T) "__getitem__" = pure (some (.builtin id)) ∧ s.TypeIs v T ∧ wpAny (model X.prog X.w) X.A (getItem v (.ref sl)) (EP X pins σ Q) X.xe s
theorem SlR.or {r r' : V → Option Int → Option Int → Hp → VK → Prop} (h : SlR X r) (h' : SlR X r') : SlR X (fun x lo hi H Q => r x lo hi H Q ∨ r' x lo hi H Q) := by
 intro pins s σ H x v vl vu lo hi sl Q I rx hs pl pu q
 rcases q with q | q
 · exact h pins s σ H x v vl vu lo hi sl Q I rx hs pl pu q
 · exact h' pins s σ H x v vl vu lo hi sl Q I rx hs pl pu q
noncomputable def tSl (r : V → Option Int → Option Int → Hp → VK → Prop) (te : TE) (tl th : TO) : TE := fun σ H Q => te σ H fun x H1 => tl σ H1 fun l H2 => th σ H2 fun u H3 => r x l u H3 Q
theorem cK8 {r : V → Option Int → Option Int → Hp → VK → Prop} (hr : SlR X r) (he : PE X e te) (hl : PO X lo tl) (hu : PO X hi th) : PE X (.Subscript e (.Slice lo hi none p2) pos) (tSl r te tl th) := by
 intro pins s σ H Q I h
 refine Subscript_ (thn (he pins s σ H _ I h) fun v s1 hE1 => hE1.elim fun x H1 I1 r1 q1 => ?_)
 refine wpAny_Slice (thn (hl pins s1 σ H1 _ I1 q1) fun vl s2 ⟨l, H2, I2, pl, q2⟩ => thn (hu pins s2 σ H2 _ I2 q2) fun vu s3 ⟨u, H3, I3, pu, q3⟩ => ?_)
 rw [evalPart_none]
 refine wpAny_pure ?_
 have I4 : Inv X pins σ H3 { s3 with heap := s3.heap.push { cls := .type "slice", data := .fields #[vl, vu, .none] } } := I3.kept (t' := s3.toks) fun b ob q => Heap.get?_push_of_some _ q
 obtain ⟨T, id, hT, ht, hg⟩ := hr pins { s3 with heap := s3.heap.push { cls := .type "slice", data := .fields #[vl, vu, .none] } } σ H3 x v vl vu l u s3.heap.objs.size Q I4 r1 (Heap.IsSliceOf.new ..) pl pu q3
 show wpAny (model X.prog X.w) X.A (subscriptTail e (.Slice lo hi none p2) v (.ref s3.heap.objs.size)) (EP X pins σ Q) X.xe { s3 with heap := s3.heap.push { cls := .type "slice", data := .fields #[vl, vu, .none] } }
 exact tail_any (ops := [.ref s3.heap.objs.size, v]) ht hT hg (by with_unfolding_all rfl)
def bA0 (xs : List V) (lo hi : Option Int) : List V := (xs.drop (HT.sIx xs.length 0 lo)).take (HT.sIx xs.length xs.length hi - HT.sIx xs.length 0 lo)
theorem aS3 (xs : List V) (lo hi : Option Int) : (bA0 xs lo hi).length ≤ xs.length := by
 unfold bA0
 rw [List.length_take, List.length_drop]
 lia
def dQ4 (K : PySem.W.Frag) : V → Option Int → Option Int → Hp → VK → Prop := fun x lo hi H Q => ∃ a xs, x = .ref a ∧ SqT K H a xs ∧
 ¬ (HT.sIx xs.length 0 lo = 0 ∧ HT.sIx xs.length xs.length hi = xs.length) ∧ ∀ p, H p = none → Q (.ref p) (upd H p (.tup (bA0 xs lo hi)))
theorem sl_tup : SlR X (dQ4 X.K) := by
 intro pins s σ H x v vl vu lo hi sl Q I rx hs pl pu h
 obtain ⟨a, xs, rfl, hx, hw, q⟩ := h
 cases rx
 obtain ⟨its, r, ht, hz⟩ := I.tuple hx
 have hlen : its.toArray.size = xs.length := by rw [List.size_toArray]; exact r.length.symm
 refine ⟨"tuple", _, PyProof.Rows.slot_tuple_getitem.lookup, ht.typeIs, ?_⟩
 refine HT.getItem_tuple_cut ht hs pl pu (by rw [hlen]; exact hw) ?_ (by rw [hlen]; exact hz)
 rw [hlen]
 refine ⟨.ref s.heap.objs.size, _, I.laid (t' := s.toks) (o := .tup (bA0 xs lo hi)) (fun b ob q => Heap.get?_push_of_some _ q) (Nat.le_refl _) ?_, rfl, q _ (I.hok.fresh (Nat.le_refl _))⟩
 exact ⟨Nat.le_trans (aS3 xs lo hi) hz, _, (r.drop (HT.sIx xs.length 0 lo)).take (HT.sIx xs.length xs.length hi - HT.sIx xs.length 0 lo), V3.new _ _⟩
def dJ8 (K : PySem.W.Frag) : R2 := fun x y H Q => ∃ a b xs ys, x = .ref a ∧ y = .ref b ∧ SqT K H a xs ∧ SqT K H b ys ∧ xs ≠ [] ∧ xs.length + ys.length ≤ sizeLine ∧
 (ys = [] → Q (.ref a) H) ∧ (ys ≠ [] → ∀ p, H p = none → Q (.ref p) (upd H p (.tup (xs ++ ys))))
theorem o5.nil_iff {xs : List V} {us : List Value} (r : o5 xs us) : us = [] ↔ xs = [] := by
 cases r with
 | nil => simp
 | cons _ _ => simp
theorem cS8 : OpR X (binaryOp .Add) (dJ8 X.K) := by
 intro pins s σ H x y v u Q I rx ry h
 obtain ⟨a, b, xs, ys, rfl, rfl, ha, hb, hx, hz, q1, q2⟩ := h
 cases rx
 cases ry
 obtain ⟨its, r1, p1, _⟩ := I.tuple ha
 obtain ⟨its2, r2, p2, _⟩ := I.tuple hb
 refine HT.cat_tup p1 p2 (fun z => hx (r1.nil_iff.mp z)) (fun z => ⟨.ref a, H, I, rfl, q1 (r2.nil_iff.mp z)⟩) (fun z => ?_) (by rw [← r1.length, ← r2.length]; exact hz)
 refine ⟨.ref s.heap.objs.size, _, I.laid (t' := s.toks) (o := .tup (xs ++ ys)) (fun b ob q => Heap.get?_push_of_some _ q) (Nat.le_refl _) ?_, rfl, q2 (fun w => z (r2.nil_iff.mpr w)) _ (I.hok.fresh (Nat.le_refl _))⟩
 exact ⟨by rw [List.length_append]; exact hz, _, r1.append r2, V3.new _ _⟩
end
noncomputable def ixN (n : Nat) (i : Int) : Option Nat := if 0 ≤ i then (if i < n then some i.toNat else none) else if -(n : Int) ≤ i then some (i + n).toNat else none
def atI {α : Type} (xs : List α) (i : Int) : Option α := (ixN xs.length i).bind fun j => xs[j]?
theorem bV3 {n : Nat} {i : Int} {j : Nat} (h : ixN n i = some j) : seqIndex? i n = some j ∧ j < n ∧ -(n : Int) ≤ i ∧ i < n := by
 unfold ixN at h
 by_cases h0 : 0 ≤ i
 · rw [if_pos h0] at h
   by_cases h1 : i < n
   · rw [if_pos h1] at h
     have e : i.toNat = j := Option.some.inj h
     exact ⟨by rw [seqIndex_of h0 h1, e], by lia, by lia, h1⟩
   · rw [if_neg h1] at h; cases h
 · rw [if_neg h0] at h
   by_cases h1 : -(n : Int) ≤ i
   · rw [if_pos h1] at h
     have e : (i + n).toNat = j := Option.some.inj h
     exact ⟨by rw [seqIndex_neg (by lia) h1, e], by lia, h1, by lia⟩
   · rw [if_neg h1] at h; cases h
theorem bF0 {α : Type} {xs : List α} {i : Int} {v : α} (h : atI xs i = some v) : ∃ j, seqIndex? i xs.length = some j ∧ xs[j]? = some v ∧ j < xs.length ∧ -(xs.length : Int) ≤ i ∧ i < xs.length := by
 unfold atI at h
 cases e : ixN xs.length i with
 | none => rw [e] at h; cases h
 | some j =>
   rw [e] at h
   obtain ⟨h1, h2, h3, h4⟩ := bV3 e
   exact ⟨j, h1, h, h2, h3, h4⟩
theorem atI_nat {α : Type} {xs : List α} {j : Nat} {v : α} (h : xs[j]? = some v) : atI xs (j : Int) = some v := by
 have hj : j < xs.length := (List.getElem?_eq_some_iff.mp h).1
 have e : ixN xs.length (j : Int) = some j := by
  unfold ixN
  rw [if_pos (by lia), if_pos (by lia)]; simp
 unfold atI; rw [e]; exact h
noncomputable def bI9 (b : Expr) : Prop := ∀ o i, subscripted b false o i = operate [o, i] (getItem o i)
def IxR (X : Cx) (r : R2) : Prop :=
 ∀ (value slice : Expr) (pins : PNS) (s : Shared) (σ : St) (H : Hp) (x y : V) (v u : Value) (Q : VK), Inv X pins σ H s → o4 x v → o4 y u → r x y H Q →
  subscripted slice false v u = operate [v, u] (getItem v u) → wpAny (model X.prog X.w) X.A (subscriptTail value slice v u) (EP X pins σ Q) X.xe s
def MtR (X : Cx) (id : String) (r : V → List V → Hp → VK → Prop) : Prop :=
 ∀ (pins : PNS) (s : Shared) (σ : St) (H : Hp) (x : V) (xs : List V) (v : Value) (us : List Value) (Q : VK), Inv X pins σ H s → o4 x v → o5 xs us → r x xs H Q →
  wpAny (model X.prog X.w) X.A (call (.builtin id) (v :: us)) (EP X pins σ Q) X.xe s
section
variable {X : Cx} {a b : Expr} {ta tb : TE} {pos : Pos}
theorem IxR.or {r r' : R2} (h : IxR X r) (h' : IxR X r') : IxR X (fun x y H Q => r x y H Q ∨ r' x y H Q) := by
 intro value slice pins s σ H x y v u Q I rx ry q hs
 rcases q with q | q
 · exact h value slice pins s σ H x y v u Q I rx ry q hs
 · exact h' value slice pins s σ H x y v u Q I rx ry q hs
theorem MtR.or {id : String} {r r' : V → List V → Hp → VK → Prop} (h : MtR X id r) (h' : MtR X id r') : MtR X id (fun x xs H Q => r x xs H Q ∨ r' x xs H Q) := by
 intro pins s σ H x xs v us Q I rx rs q
 rcases q with q | q
 · exact h pins s σ H x xs v us Q I rx rs q
 · exact h' pins s σ H x xs v us Q I rx rs q
theorem dG7 {r : R2} (hr : IxR X r) (ha : PE X a ta) (hb : PE X b tb) (hs : bI9 b) : PE X (.Subscript a b pos) (tOp r ta tb) := by
 intro pins s σ H Q I h
 exact Subscript_ (dA9 ha hb I h fun v u s2 x y H2 I2 rx ry q => hr a b pins s2 σ H2 x y v u Q I2 rx ry q (hs _ _))
def dN7 (K : PySem.W.Frag) : R2 := fun x y H Q => ∃ p xs i v, x = .ref p ∧ y = .int i ∧ SqL K H p xs ∧ atI xs i = some v ∧ Q v H
def dO7 (K : PySem.W.Frag) : R2 := fun x y H Q => ∃ p xs i v, x = .ref p ∧ y = .int i ∧ SqT K H p xs ∧ atI xs i = some v ∧ Q v H
def dP8 : R2 := fun x y H Q => ∃ z i c, x = .str z ∧ y = .int i ∧ z.length ≤ sizeLine ∧ atI z.cps.toList i = some c ∧ Q (.str ⟨#[c]⟩) H
theorem cU2 : IxR X (dN7 X.K) := by
 intro value slice pins s σ H x y v u Q I rx ry h hs
 obtain ⟨p, xs, i, z, rfl, rfl, hq, he, q⟩ := h
 cases rx
 obtain ⟨t, rfl⟩ := ry
 obtain ⟨its, r, pl, hz⟩ := I.list hq
 obtain ⟨j, h1, h2, h3, h4, h5⟩ := bF0 he
 obtain ⟨w, ew, rw'⟩ := r.get h2
 have hl := r.length
 have hn := aL9
 have fin : EP X pins σ Q w s := ⟨z, H, I, rw', q⟩
 by_cases h0 : 0 ≤ i
 · have hj : i.toNat = j := by
    rw [seqIndex_of h0 h5] at h1
    exact Option.some.inj h1
   exact item_listR pl.isList h0 (by lia) (by rw [hj]; simpa using ew) fin hs
 · have hj : (i + (its.toArray.size : Int)).toNat = j := by
    rw [seqIndex_neg (by lia) h4] at h1
    rw [List.size_toArray, ← hl]
    exact Option.some.inj h1
   exact subscriptTail_builtinR (x := w) pl.isList.typeIs slot_list_getitem.lookup
    (wpAny_getItem_list_neg (Q := fun r s' => r = w ∧ EP X pins σ Q r s') pl.isList (by lia) (by rw [List.size_toArray] <;> lia) (by lia) (by rw [hj]; simpa using ew) ⟨rfl, fin⟩) hs
theorem ix_tup : IxR X (dO7 X.K) := by
 intro value slice pins s σ H x y v u Q I rx ry h hs
 obtain ⟨p, xs, i, z, rfl, rfl, hq, he, q⟩ := h
 cases rx
 obtain ⟨t, rfl⟩ := ry
 obtain ⟨its, r, pl, hz⟩ := I.tuple hq
 obtain ⟨j, h1, h2, h3, h4, h5⟩ := bF0 he
 obtain ⟨w, ew, rw'⟩ := r.get h2
 have hl := r.length
 have hn := aL9
 have fin : EP X pins σ Q w s := ⟨z, H, I, rw', q⟩
 exact subscriptTail_builtinR (x := w) pl.typeIs slot_tuple_getitem.lookup
  (getItem_tuple (j := j) (Q := fun r s' => r = w ∧ EP X pins σ Q r s') pl (by lia) (by lia) (by rw [List.size_toArray, ← hl]; exact h1) (by simpa using ew) ⟨rfl, fin⟩) hs
theorem ix_str : IxR X dP8 := by
 intro value slice pins s σ H x y v u Q I rx ry h hs
 obtain ⟨z, i, c, rfl, rfl, hz, he, q⟩ := h
 obtain ⟨t, rfl⟩ := rx
 obtain ⟨t', rfl⟩ := ry
 obtain ⟨j, h1, h2, h3, h4, h5⟩ := bF0 he
 have hl : z.cps.toList.length = z.length := by simp [Str.length]
 rw [hl] at h1 h4 h5
 have hn := aL9
 exact tail_any (typeIs_str s z t) slot_str_getitem.lookup (getItem_str (c := c) (by
  have e1 : decide (i < -(2 ^ 63 : Int)) = false := decide_eq_false (by lia)
  have e2 : decide (i ≥ 2 ^ 63) = false := decide_eq_false (by lia)
  rw [e1, e2, Bool.or_false]) (by rw [h1]; simpa using h2) ⟨.str ⟨#[c]⟩, H, I.tok _, ⟨_, rfl⟩, q⟩) hs
theorem bS1 (its : List Value) (n j : Nat) (u : Value) : Obj.mapSeq (·.setIfInBounds j u) { cls := .type "list", data := .seq its.toArray n } = { cls := .type "list", data := .seq (its.set j u).toArray n } := by
 simp [Obj.mapSeq]
theorem Inv.lst {pins : PNS} {σ : St} {H : Hp} {s : Shared} {p : Addr} {xs : List V} (I : Inv X pins σ H s) (h : H p = some (.lst xs)) :
 ∃ (its : List Value) (n : Nat), o5 xs its ∧ s.heap.get? p = some { cls := .type "list", data := .seq its.toArray n } ∧ xs.length ≤ sizeLine := by
 obtain ⟨z, its, n, r, e⟩ := I.hok p _ h
 exact ⟨its, n, r, e, z⟩
theorem Inv.lstUpd {pins : PNS} {σ : St} {H : Hp} {s : Shared} {p : Addr} {xs ys : List V} {its its' : List Value} {n n' : Nat} {f : Obj → Obj} (I : Inv X pins σ H s) (h : H p = some (.lst xs))
 (ho : s.heap.get? p = some { cls := .type "list", data := .seq its.toArray n }) (hf : f { cls := .type "list", data := .seq its.toArray n } = { cls := .type "list", data := .seq its'.toArray n' }) (r : o5 ys its') (hz : ys.length ≤ sizeLine) (t : Nat) :
 Inv X pins σ (upd H p (.lst ys)) { s with heap := s.heap.update p f, toks := t } := by
 have e : (s.heap.update p f).get? p = some { cls := .type "list", data := .seq its'.toArray n' } := by
  rw [Heap.get?_update_self f ho (by rw [hf] <;> rfl), hf]
 refine I.write (x := p) (e := p) (by rw [h]; trivial) (.inl rfl) (fun b u hb q => (Heap.get?_update_other _ _ (Ne.symm hb)).trans q) ⟨_, e⟩ ?_
 exact ⟨hz, its', n', r, e⟩
def dI3 : V → V → V → Hp → (Hp → Prop) → Prop := fun o i v H Q => ∃ p xs k j, o = .ref p ∧ i = .int k ∧ H p = some (.lst xs) ∧ ixN xs.length k = some j ∧ Q (upd H p (.lst (xs.set j v)))
theorem cK1 : dG2 X dI3 := by
 intro pins s σ H o i v ov iv u Q I ro ri rv h
 obtain ⟨p, xs, k, j, rfl, rfl, hp, hj, q⟩ := h
 cases ro
 obtain ⟨t, rfl⟩ := ri
 obtain ⟨its, n, r, ho, hz⟩ := I.lst hp
 obtain ⟨h1, h2, h3, h4⟩ := bV3 hj
 have hl := r.length
 have hn := aL9
 have I' : Inv X pins σ (upd H p (.lst (xs.set j v))) { s with heap := s.heap.update p (Obj.mapSeq (·.setIfInBounds j u)) } :=
  I.lstUpd hp ho (bS1 its n j u) (r.set rv j) (by rw [List.length_set]; exact hz) s.toks
 by_cases h0 : 0 ≤ k
 · have hk : k.toNat = j := by
    rw [seqIndex_of h0 h4] at h1
    exact Option.some.inj h1
   exact PySem.W.ki_setAt ho h0 (by lia) (by rw [List.size_toArray, ← hl]; exact h4) (by rw [hk]; exact ⟨_, I', q⟩)
 · have hk : (k + (its.toArray.size : Int)).toNat = j := by
    rw [seqIndex_neg (by lia) h3] at h1
    rw [List.size_toArray, ← hl]
    exact Option.some.inj h1
   exact PySem.W.ki_setBack ho (by lia) (by rw [List.size_toArray, ← hl]; exact h3) (by lia) (by rw [hk]; exact ⟨_, I', q⟩)
theorem bJ4 (lo hi : Option Int) (n : Nat) : (sliceBounds lo hi none n).1 = ((HT.sIx n 0 lo : Nat) : Int) ∧ (sliceBounds lo hi none n).2.1 = ((HT.sIx n n hi : Nat) : Int) ∧ (sliceBounds lo hi none n).2.2 = 1 := by
 refine ⟨?_, ?_, rfl⟩
 · cases lo with
   | none => simp [sliceBounds, HT.sIx]
   | some i =>
     simp only [sliceBounds, HT.sIx, Option.getD_none, show (1 : Int) > 0 by decide, if_true]
     by_cases h : i < 0
     · simp only [h, if_true] <;> lia
     · simp only [h, if_false] <;> lia
 · cases hi with
   | none => simp [sliceBounds, HT.sIx]
   | some i =>
     simp only [sliceBounds, HT.sIx, Option.getD_none, show (1 : Int) > 0 by decide, if_true]
     by_cases h : i < 0
     · simp only [h, if_true] <;> lia
     · simp only [h, if_false] <;> lia
theorem bA2 (its : List Value) (lo hi : Option Int) : slicePick its.toArray lo hi none = ((its.drop (HT.sIx its.length 0 lo)).take (HT.sIx its.length its.length hi - HT.sIx its.length 0 lo)).toArray := by
 obtain ⟨h1, h2, h3⟩ := bJ4 lo hi its.toArray.size
 unfold slicePick
 rw [h1, h2, h3]
 simp only [sliceRange_one, pick_run, List.size_toArray] <;> rfl
def dN0 (K : PySem.W.Frag) : V → Option Int → Option Int → Hp → VK → Prop := fun x lo hi H Q => ∃ a xs, x = .ref a ∧ SqL K H a xs ∧ ∀ p, H p = none → Q (.ref p) (upd H p (.lst (bA0 xs lo hi)))
theorem cQ8 : SlR X (dN0 X.K) := by
 intro pins s σ H x v vl vu lo hi sl Q I rx hs pl pu h
 obtain ⟨a, xs, rfl, hx, q⟩ := h
 cases rx
 obtain ⟨its, r, ht, hz⟩ := I.list hx
 have hlen := r.length
 refine ⟨"list", _, slot_list_getitem.lookup, ht.isList.typeIs, ?_⟩
 refine wpAny_getItem_list_slice ht.isList hs pl pu .none (by simp) ?_ (by rw [List.size_toArray] <;> lia)
 rw [bA2, ← hlen]
 refine ⟨.ref s.heap.objs.size, _, I.laid (t' := s.toks) (o := .lst (bA0 xs lo hi)) (fun b ob q => Heap.get?_push_of_some _ q) (Nat.le_refl _) ?_, rfl, q _ (I.hok.fresh (Nat.le_refl _))⟩
 exact ⟨Nat.le_trans (aS3 xs lo hi) hz, _, 0, (r.drop (HT.sIx xs.length 0 lo)).take (HT.sIx xs.length xs.length hi - HT.sIx xs.length 0 lo), Heap.get?_push_size _ rfl⟩
noncomputable def aK2 : V → Bool
 | .non => true
 | .bl _ => true
 | .int _ => true
 | .str _ => true
 | _ => false
noncomputable def eqV : V → V → Bool
 | .non, .non => true
 | .bl a, .bl b => a == b
 | .bl a, .int b => (if a then 1 else 0) == b
 | .int a, .bl b => a == (if b then 1 else 0)
 | .int a, .int b => a == b
 | .str a, .str b => a == b
 | _, _ => false
theorem dC2 {A : Around} {s : Shared} {y x : V} {u v : Value} (ry : o4 y u) (rx : o4 x v) (fy : aK2 y = true) (fx : aK2 x = true) : SeqAt.EqAt A s u v (eqV y x) := by
 cases y with
 | non =>
   cases ry
   cases x with
   | non => cases rx; exact SeqAt.EqAt.same _
   | bl b => cases rx; exact SeqAt.EqAt.none_bool b
   | int b => obtain ⟨t, rfl⟩ := rx; exact SeqAt.EqAt.none_int b t
   | str b => obtain ⟨t, rfl⟩ := rx; exact SeqAt.EqAt.none_str b t
   | _ => exact absurd (show false = true from fx) Bool.false_ne_true
 | bl a =>
   cases ry
   cases x with
   | non => cases rx; exact SeqAt.EqAt.bool_none a
   | bl b => cases rx; exact SeqAt.EqAt.bool_bool a b
   | int b => obtain ⟨t, rfl⟩ := rx; exact SeqAt.EqAt.bool_int a b t
   | str b => obtain ⟨t, rfl⟩ := rx; exact SeqAt.EqAt.bool_str a b t
   | _ => exact absurd (show false = true from fx) Bool.false_ne_true
 | int a =>
   obtain ⟨t', rfl⟩ := ry
   cases x with
   | non => cases rx; exact SeqAt.EqAt.int_none a t'
   | bl b => cases rx; exact SeqAt.EqAt.int_bool a t' b
   | int b => obtain ⟨t, rfl⟩ := rx; exact SeqAt.EqAt.int_int a t' b t
   | str b => obtain ⟨t, rfl⟩ := rx; exact SeqAt.EqAt.int_str a t' b t
   | _ => exact absurd (show false = true from fx) Bool.false_ne_true
 | str a =>
   obtain ⟨t', rfl⟩ := ry
   cases x with
   | non => cases rx; exact SeqAt.EqAt.str_none a t'
   | bl b => cases rx; exact SeqAt.EqAt.str_bool a t' b
   | int b => obtain ⟨t, rfl⟩ := rx; exact SeqAt.EqAt.str_int a t' b t
   | str b => obtain ⟨t, rfl⟩ := rx; exact SeqAt.EqAt.str_str a t' b t
   | _ => exact absurd (show false = true from fx) Bool.false_ne_true
 | _ => exact absurd (show false = true from fy) Bool.false_ne_true
def eqU (x : V) (u : Value) : Bool := match u with
 | .none => eqV .non x
 | .bool b => eqV (.bl b) x
 | .int i _ => eqV (.int i) x
 | .str z _ => eqV (.str z) x
 | _ => false
theorem cE6 {x y : V} {u : Value} (r : o4 y u) (f : aK2 y = true) : eqU x u = eqV y x := by
 cases y with
 | non => cases r; rfl
 | bl b => cases r; rfl
 | int i => obtain ⟨t, rfl⟩ := r; rfl
 | str z => obtain ⟨t, rfl⟩ := r; rfl
 | _ => exact absurd (show false = true from f) Bool.false_ne_true
theorem aT9 {x : V} {xs : List V} {us : List Value} (h : o5 xs us) (f : xs.all aK2 = true) : us.any (eqU x) = xs.any fun y => eqV y x := by
 induction h with
 | nil => rfl
 | cons r t ih =>
   rw [List.all_cons, Bool.and_eq_true] at f
   rw [List.any_cons, List.any_cons, cE6 r f.1, ih f.2]
theorem aJ0 {A : Around} {s : Shared} {x : V} {v : Value} (rx : o4 x v) (fx : aK2 x = true) : ∀ {xs : List V} {us : List Value}, o5 xs us → xs.all aK2 = true → ∀ u ∈ us, SeqAt.EqAt A s u v (eqU x u)
 | _, _, .nil, _ => fun u hu => by cases hu
 | y :: xs, u :: us, .cons r t, f => fun u' hu => by
   rw [List.all_cons, Bool.and_eq_true] at f
   rcases List.mem_cons.mp hu with rfl | hu
   · rw [cE6 r f.1]; exact dC2 r rx f.1 fx
   · exact aJ0 rx fx t f.2 u' hu
def inV (x : V) (xs : List V) : Bool := xs.any fun y => eqV y x
def rIn (K : PySem.W.Frag) (neg : Bool) : R2 := fun x y H Q => ∃ p xs, y = .ref p ∧ (SqL K H p xs ∨ SqT K H p xs) ∧ aK2 x = true ∧ xs.all aK2 = true ∧ Q (.bl (if neg then !inV x xs else inV x xs)) H
theorem cB4 : OpR X (compareOp .In) (rIn X.K false) := by
 intro pins s σ H x y v u Q I rx ry h
 obtain ⟨p, xs, rfl, hq, fx, fs, q⟩ := h
 cases ry
 rcases hq with hq | hq
 · obtain ⟨its, r, pl, hz⟩ := I.list hq
   refine SeqAt.in_listAt (eqU x) pl.isList (fun w hw => aJ0 rx fx r fs w (by simpa using hw)) ⟨.bl _, H, I, rfl, ?_⟩
   rw [show its.toArray.any (eqU x) = its.any (eqU x) by simp, aT9 r fs]
   exact q
 · obtain ⟨its, r, pl, hz⟩ := I.tuple hq
   refine SeqAt.in_tupleAt (eqU x) pl (fun w hw => aJ0 rx fx r fs w (by simpa using hw)) ⟨.bl _, H, I, rfl, ?_⟩
   rw [show its.toArray.any (eqU x) = its.any (eqU x) by simp, aT9 r fs]
   exact q
theorem bI6 : OpR X (compareOp .NotIn) (rIn X.K true) := by
 intro pins s σ H x y v u Q I rx ry h
 obtain ⟨p, xs, rfl, hq, fx, fs, q⟩ := h
 cases ry
 rcases hq with hq | hq
 · obtain ⟨its, r, pl, hz⟩ := I.list hq
   refine SeqAt.notIn_listAt (eqU x) pl.isList (fun w hw => aJ0 rx fx r fs w (by simpa using hw)) ⟨.bl _, H, I, rfl, ?_⟩
   rw [show its.toArray.any (eqU x) = its.any (eqU x) by simp, aT9 r fs]
   exact q
 · obtain ⟨its, r, pl, hz⟩ := I.tuple hq
   refine SeqAt.notIn_tupleAt (eqU x) pl (fun w hw => aJ0 rx fx r fs w (by simpa using hw)) ⟨.bl _, H, I, rfl, ?_⟩
   rw [show its.toArray.any (eqU x) = its.any (eqU x) by simp, aT9 r fs]
   exact q
theorem bJ7 : OpR X (compareOp .NotIn) (fun x y H Q => ∃ i j, x = .str i ∧ y = .str j ∧ Q (.bl (!(!(Builtin.Str.occurrences j i 0 j.length 1).isEmpty))) H) := by
 intro pins s σ H x y v u Q I rx ry h
 obtain ⟨i, j, rfl, rfl, q⟩ := h
 obtain ⟨t, rfl⟩ := rx
 obtain ⟨t', rfl⟩ := ry
 exact notIn_str ⟨.bl _, H, I, rfl, q⟩
theorem bF5 : T5 X (.builtin "len") (fun xs H Q => ∃ p ys, xs = [.ref p] ∧ (SqL X.K H p ys ∨ SqT X.K H p ys) ∧ Q (.int ys.length) H) := by
 intro pins s σ H xs us Q I r h
 obtain ⟨p, ys, rfl, hq, q⟩ := h
 obtain ⟨u, rfl, rx⟩ := X3 r
 cases rx
 have hn := aL9
 rcases hq with hq | hq
 · obtain ⟨its, r', pl, hz⟩ := I.list hq
   have hlen := r'.length
   exact Calls.call_len_list pl.isList (by simp only [List.size_toArray] <;> lia) ⟨.int ys.length, H, I.tok _, ⟨s.toks + 1, by rw [List.size_toArray, hlen]⟩, q⟩
 · obtain ⟨its, r', pl, hz⟩ := I.tuple hq
   have hlen := r'.length
   exact len_tuple pl (by simp only [List.size_toArray] <;> lia) ⟨.int ys.length, H, I.tok _, ⟨s.toks + 1, by rw [List.size_toArray, hlen]⟩, q⟩
theorem bJ0 : T5 X (.builtin "len") (fun xs H Q => ∃ z, xs = [.str z] ∧ z.length ≤ sizeLine ∧ Q (.int z.length) H) := by
 intro pins s σ H xs us Q I r h
 obtain ⟨z, rfl, hz, q⟩ := h
 obtain ⟨u, rfl, t, rfl⟩ := X3 r
 have hn := aL9
 exact len_str (by lia) ⟨.int z.length, H, I.tok _, ⟨_, rfl⟩, q⟩
theorem T5.or {f : Value} {r r' : List V → Hp → VK → Prop} (h : T5 X f r) (h' : T5 X f r') : T5 X f (fun xs H Q => r xs H Q ∨ r' xs H Q) := by
 intro pins s σ H xs us Q I rs q
 rcases q with q | q
 · exact h pins s σ H xs us Q I rs q
 · exact h' pins s σ H xs us Q I rs q
theorem aZ9 : T5 X (.type "tuple") (fun xs H Q => ∃ p ys, xs = [.ref p] ∧ ((SqL X.K H p ys ∧ ∀ l, H l = none → Q (.ref l) (upd H l (.tup ys))) ∨ (SqT X.K H p ys ∧ Q (.ref p) H))) := by
 intro pins s σ H xs us Q I r h
 obtain ⟨p, ys, rfl, h⟩ := h
 obtain ⟨u, rfl, rx⟩ := X3 r
 cases rx
 rcases h with ⟨hq, q⟩ | ⟨hq, q⟩
 · obtain ⟨its, r', pl, hz⟩ := I.list hq
   have hlen := r'.length
   refine call_tuple_list pl.isList (fun h' kp => ?_) (by simp only [List.size_toArray] <;> lia)
   have I1 : Inv X pins σ H { s with heap := h' } := I.kept (t' := s.toks) kp
   have I2 : Inv X pins σ (upd H h'.objs.size (.tup ys)) { s with heap := h'.push { cls := .type "tuple", data := .seq its.toArray } } :=
    I1.laid (t' := s.toks) (fun b o e => Heap.get?_push_of_some _ e) (Nat.le_refl _) (show N7 X.prog X.w _ _ _ (.tup ys) from ⟨hz, its, r', V3.new _ _⟩)
   exact ⟨.ref h'.objs.size, _, I2, rfl, q _ (I1.hok.fresh (Nat.le_refl _))⟩
 · obtain ⟨its, r', pl, hz⟩ := I.tuple hq
   exact call_tuple_same pl ⟨.ref p, H, I, rfl, q⟩
def tyV (K : PySem.W.Frag) (T : String) (x : V) (H : Hp) : Prop := match x with
 | .str _ => T = "str"
 | .int _ => T = "int"
 | .ref p => (T = "list" ∧ ∃ xs, SqL K H p xs) ∨ (T = "tuple" ∧ ∃ o, K.lookup p = some o ∧ o.cls = .type "tuple" ∧ o.dict = none) ∨
    (T = "dict" ∧ ((∃ kvs, H p = some (.dK kvs)) ∨ ∃ kvs, H p = some (.dT kvs))) ∨ (T = "set" ∧ ∃ S n, H p = some (.set S n))
 | _ => False
theorem cY5 {pins : PNS} {σ : St} {H : Hp} {s : Shared} {T : String} {x : V} {v : Value} (I : Inv X pins σ H s) (r : o4 x v) (ty : tyV X.K T x H) :
 s.TypeIs v T ∧ ∀ a, v = .ref a → ∃ ob, s.heap.get? a = some ob ∧ ob.dict = none := by
 cases x with
 | str z =>
   obtain ⟨t, rfl⟩ := r
   cases (show T = "str" from ty)
   exact ⟨typeIs_str s z t, fun _ e => nomatch e⟩
 | int i =>
   obtain ⟨t, rfl⟩ := r
   cases (show T = "int" from ty)
   exact ⟨typeIs_int s i t, fun _ e => nomatch e⟩
 | ref p =>
   cases r
   rcases ty with ⟨rfl, xs, hq⟩ | ⟨rfl, o, hk, hc, hd⟩ | ⟨rfl, hk⟩ | ⟨rfl, S, n, hk⟩
   · obtain ⟨its, _, pl, _⟩ := I.list hq
     refine ⟨pl.isList.typeIs, fun a e => ?_⟩
     cases e
     obtain ⟨o, n, e, c, hd, _⟩ := pl
     exact ⟨o, e, hd⟩
   · refine ⟨⟨o, I.kIn p o hk, hc⟩, fun a e => ?_⟩
     cases e
     exact ⟨o, I.kIn _ o hk, hd⟩
   · have z : ∃ o, s.heap.get? p = some o ∧ o.ExactDict := by
      rcases hk with ⟨kvs, hk⟩ | ⟨kvs, hk⟩
      · obtain ⟨_, _, _, _, o, _, _, e, ex, _⟩ := I.hok p _ hk
        exact ⟨o, e, ex⟩
      · obtain ⟨_, _, _, _, o, _, _, e, ex, _⟩ := I.hok p _ hk
        exact ⟨o, e, ex⟩
     obtain ⟨o, e, ex⟩ := z
     refine ⟨⟨o, e, ex.1⟩, fun a e2 => ?_⟩
     cases e2
     exact ⟨o, e, ex.2.1⟩
   · obtain ⟨o, _, _, _, e, ex, _⟩ := I.hok p _ hk
     refine ⟨⟨o, e, ex.1⟩, fun a e2 => ?_⟩
     cases e2
     exact ⟨o, e, ex.2.1⟩
 | _ => exact False.elim ty
def tBM (K : PySem.W.Frag) (T : String) (r : V → List V → Hp → VK → Prop) (to : TE) (t : TA) : TE := fun σ H Q => to σ H fun x H1 => tyV K T x H1 ∧ t σ H1 fun xs H2 => r x xs H2 Q
variable {o e : Expr} {es : List Expr} {to : TE} {t : TA} {name : Str} {apos cpos : Pos} {T id : String} {r : V → List V → Hp → VK → Prop}
theorem cW5 (pa : PlainAttrs T) (slot : Slot T name id) (hty : typeOf (.builtin id) = pure (.type "method_descriptor")) (hm : MtR X id r) (ho : PE X o to) (ha : PA X (e :: es) t)
 (hbase : attributeBase o name X.env (eval o X.env) = eval o X.env)
 (hfew : ((backTo cpos (starEach (e :: es) X.env)).all (fun x => !x.1) && (backToKw cpos (keywordEach [] X.env)).all (fun x => x.1.isSome)
   && decide ((e :: es).length + ([] : List Keyword).length + (if ([] : List Keyword).isEmpty then 0 else 1) < 30)) = true)
 (hline : (apos.endLine == cpos.line) = true) (hs : starEach (e :: es) X.env = (false, eval e X.env) :: starEach es X.env) (hplain : (backTo cpos (starEach es X.env)).any (·.1) = false) :
 PE X (.Call (.Attribute o name apos) (e :: es) [] cpos) (tBM X.K T r to t) := by
 intro pins s σ H Q I h
 refine wpAny_Call_method_late hbase hfew hline rfl (thn (ho pins s σ H _ I h) fun v s1 ⟨x, H1, I1, r1, ty, q1⟩ => ?_)
 obtain ⟨h1, h2⟩ := cY5 I1 r1 ty
 refine ⟨T, id, pa, slot, hty, h1, h2, ?_⟩
 have hA := ha cpos pins s1 σ H1 _ I1 q1
 rw [hs] at hA ⊢
 refine Calls.callWith_builtin (by show (false || (backTo cpos (starEach es X.env)).any (·.1)) = false; rw [hplain] <;> rfl) (Calls.evalArgs_plain ?_)
 exact thn hA fun us s2 hE1 => hE1.elim fun vs H2 I2 r2 q2 => hm pins s2 σ H2 x vs v us Q I2 r1 r2 q2
end
def MtM (X : Cx) (id : String) (r : V → List V → Hp → VK → Prop) : Prop :=
 ∀ (pins : PNS) (s : Shared) (σ : St) (H : Hp) (x : V) (xs : List V) (v : Value) (us : List Value) (Q : VK), Inv X pins σ H s → o4 x v → o5 xs us → r x xs H Q →
  wpAny (model X.prog X.w) X.A (call (.builtin id) (v :: us)) (EP X pins σ Q) X.xe s
theorem o5.one {x : V} {us : List Value} (h : o5 [x] us) : ∃ u, us = [u] ∧ o4 x u := by
 cases h with
 | cons r t => cases t; exact ⟨_, rfl, r⟩
theorem o5.two {x y : V} {us : List Value} (h : o5 [x, y] us) : ∃ u v, us = [u, v] ∧ o4 x u ∧ o4 y v := by
 cases h with
 | cons r t =>
   obtain ⟨v, rfl, q⟩ := o5.one t
   exact ⟨_, v, rfl, r, q⟩
theorem o5.reverse {xs : List V} {us : List Value} (h : o5 xs us) : o5 xs.reverse us.reverse := by
 induction h with
 | nil => exact .nil
 | cons r t ih => rw [List.reverse_cons, List.reverse_cons]; exact o5.append ih (.cons r .nil)
section
variable {X : Cx} {pins : PNS} {σ : St} {H : Hp} {s : Shared} {l b : Addr} {xs ys zs : List V}
theorem Inv.lset {its its' : List Value} {n : Nat} {f : Array Value → Array Value} {t' : Nat} (I : Inv X pins σ H s) (hH : H l = some (.lst xs))
 (e : s.heap.get? l = some { cls := .type "list", data := .seq its.toArray n }) (hf : f its.toArray = its'.toArray) (hv : o5 ys its') (hz : ys.length ≤ sizeLine) :
 Inv X pins σ (upd H l (.lst ys)) { s with heap := s.heap.update l (Obj.mapSeq f), toks := t' } := by
 have q := PySem.IsL.update e f
 rw [hf] at q
 refine I.write (x := l) (e := l) (by rw [hH]; exact trivial) (.inl rfl) (fun b' u hb hu => (Heap.get?_update_other s.heap (Obj.mapSeq f) (Ne.symm hb)).trans hu) ⟨_, q⟩ ?_
 exact ⟨hz, its', _, hv, q⟩
theorem Inv.lnew {its : List Value} {t' : Nat} (I : Inv X pins σ H s) (hv : o5 ys its) (hz : ys.length ≤ sizeLine) :
 Inv X pins σ (upd H s.heap.objs.size (.lst ys)) { s with heap := s.heap.push { cls := .type "list", data := .seq its.toArray }, toks := t' } :=
 I.laid (fun _ _ q => Heap.get?_push_of_some _ q) (Nat.le_refl _) ⟨hz, its, 0, hv, Heap.get?_push_size _ rfl⟩
theorem Inv.fresh (I : Inv X pins σ H s) : H s.heap.objs.size = none := I.hok.fresh (Nat.le_refl _)
theorem Inv.lstM (I : Inv X pins σ H s) (hH : H l = some (.lst xs)) : xs.length ≤ sizeLine ∧ ∃ (its : List Value) (n : Nat), o5 xs its ∧ xs.length = its.length ∧ s.heap.get? l = some { cls := .type "list", data := .seq its.toArray n } := by
 obtain ⟨z, its, n, r, e⟩ := I.hok l _ hH
 exact ⟨z, its, n, r, r.length, e⟩
end
section
variable {X : Cx}
def cS1 : V → List V → Hp → VK → Prop := fun x vs H Q => ∃ l xs y, x = .ref l ∧ vs = [y] ∧ H l = some (.lst xs) ∧ xs.length < sizeLine ∧ Q .non (upd H l (.lst (xs ++ [y])))
theorem bE3 : MtM X "list.append" cS1 := by
 intro pins s σ H x vs v us Q I rx rv h
 obtain ⟨l, xs, y, rfl, rfl, hH, hz, q⟩ := h
 cases rx
 obtain ⟨u, rfl, ru⟩ := rv.one
 obtain ⟨z, its, n, r, hl, e⟩ := I.lstM hH
 refine call_meets F.slot_list_append ⟨_, e, rfl⟩ F.entry_list_append (F.args_list_append_2 _ _) (PySem.list_append l its.toArray n u (by rw [List.size_toArray]; lia)) ⟨e, ?_⟩
 refine ⟨.non, _, I.lset (its' := its ++ [u]) hH e (by simp) (r.append (.cons ru .nil)) ?_, rfl, q⟩
 rw [List.length_append, List.length_singleton]
 lia
def dP2 : R2 := fun x y H Q => ∃ l b xs zs, x = .ref l ∧ y = .ref b ∧ H l = some (.lst xs) ∧ H b = some (.lst zs) ∧ xs.length + zs.length ≤ sizeLine ∧ ∀ p, H p = none → Q (.ref p) (upd H p (.lst (xs ++ zs)))
theorem dB9 : OpR X (binaryOp .Add) dP2 := by
 intro pins s σ H x y v u Q I rx ry h
 obtain ⟨l, b, xs, zs, rfl, rfl, hH, hB, hz, q⟩ := h
 cases rx
 cases ry
 obtain ⟨z, its, n, r, hl, e⟩ := I.lstM hH
 obtain ⟨z2, its2, n2, r2, hl2, e2⟩ := I.lstM hB
 refine PySem.P.add_list e e2 ?_ (by rw [List.size_toArray, List.size_toArray]; lia)
 have ea : its.toArray ++ its2.toArray = (its ++ its2).toArray := by simp
 rw [ea]
 exact ⟨.ref _, _, I.lnew (t' := s.toks) (r.append r2) (by rw [List.length_append]; lia), rfl, q _ I.fresh⟩
end
section
variable {prog : Program} {w : World} {A : Around} {E : VSP} {s : Shared}
end
section
variable {X : Cx}
end
end L2
namespace Att
open PySem PySem.W PySem.Calls PyProof.Rows
theorem aS9 {P : Params} {h : Heap} : ∀ (ns : List Int) (vs : List Value), WellAll P h vs (ns.map WData.int) → IntsAre vs ns := by
 intro ns
 induction ns with
 | nil =>
   intro vs w
   rw [List.map_nil] at w
   cases w
   exact .nil
 | cons n ns ih =>
   intro vs w
   rw [List.map_cons] at w
   cases w with
   | cons a b =>
     cases a
     exact .cons _ _ (ih _ b)
theorem cE2 {l : OpenLaw} {n : Nat} (hn : l.most = some n) {P : Params} {h : Heap} {args : List WData} {vals : List Value}
 (hpre : l.row.toRowW.claim.pre args = true) (hwl : WellAll P h vals args) :
 ∃ a vs ns, vals = [Value.ref a] ∧ args = [WData.list (ns.map WData.int)] ∧ h.get? a = some { cls := .type "list", data := .seq vs.toArray } ∧ IntsAre vs ns ∧ ns.length ≤ n := by
 have hsh : WShape.hasAll [] args [.list .int] = true := (pre_splitW hpre).1
 have hc : l.pre.holds [] { args := args } = true := (pre_splitW hpre).2
 obtain ⟨d, r, rfl, h1, h2⟩ := hasAllW_cons hsh
 obtain rfl := hasAllW_nil h2
 obtain ⟨xs, rfl, h3⟩ := hasW_list h1
 obtain ⟨ns, rfl⟩ := items_int h3
 have hlen : ns.length ≤ n := by
  unfold OpenLaw.pre at hc
  have h4 : (WTm.not (.lt (.lit (.int (n : Int))) (.len (.arg 0)))).holds [] { args := [.list (ns.map .int)] } = true := by
   have h4 := (holds_andW hc).1
   rw [hn] at h4
   exact h4
  have h5 := condW_of h4 (w_not (w_lt w_lit (w_len_list (w_arg rfl))))
  rw [List.length_map] at h5
  refine Nat.le_of_not_lt fun q => ?_
  have q' : (n : Int) < ((ns.length : Nat) : Int) := by lia
  first
   | (rw [decide_eq_true q'] at h5; exact absurd h5 (by decide))
   | (simp at h5; lia)
 cases hwl with
 | cons w1 w2 =>
   cases w2
   cases w1 with
   | list ho hall => exact ⟨_, _, ns, rfl, rfl, ho, aS9 ns _ hall, hlen⟩
theorem cA9 (l : OpenLaw) (args : List WData) : l.row.toRowW.claim.post args (.bool true) args = true :=
 postW_of (r := l.row.toRowW) (X := (true == true))
  (show WShape.has [] (.bool true) .bool = true by first | rfl | decide | simp [WShape.has, WShape.arms, WShape.armsAll])
  (show (WTm.eq .res (.lit (.bool true))).value [] { args := args, res := some (.bool true), after := args } = some (.bool (true == true)) from w_eq_bool (w_res rfl) w_lit) rfl
theorem attach_call {l : OpenLaw} {n : Nat} {q : Program} {loose : List Str} {XP : (Str → Option Value) → Heap → Prop} {YP : World → Heap → Prop} {d : DefRec}
 (hn : l.most = some n) (hdf : d.params.defaults = [])
 (call : ∀ (w : World) (s₀ s₁ : Shared) (mg mb : Str → Option Value) (fa : Addr) (o : Obj) (pm cd doc : Value) (a : Addr) (vs : List Value) (ns : List Int),
   Ground q loose [] XP w s₀ mg mb s₁.heap → YP w s₁.heap →
   s₁.heap.get? fa = some o → o.data = .func (docDef d.name d.params d.body d.scope pm cd doc) → s₁.heap.CodeRec cd d.name → mg d.name = some (.ref fa) →
   s₁.heap.get? a = some { cls := .type "list", data := .seq vs.toArray } → IntsAre vs ns → ns.length ≤ n → s₁.gens = #[] →
   codeAny (model l.prog w) callerA (.call (.ref fa) ⟨[.ref a], []⟩) (fun r s' => r = .ok (.ret (.bool true)) ∧ OldK s₁.heap s'.heap ∧ s'.os = s₁.os ∧ AllBare s'.gens) s₁) :
 WalkO q loose XP YP l.row.toRowW d [] (fun f vs => PySem.call f vs) := by
 intro w s₀ s₁ mg mb G Y fa o pm cd doc dV kV ho hd hcd hD hmg hg args vals as hpre hlay hrd hwl hlo
 obtain rfl : dV = .none := Dflts.none hD hdf
 obtain rfl : kV = .none := Dflts.noKw hD
 obtain ⟨a, vs, ns, rfl, rfl, hobj, hints, hlen⟩ := cE2 hn hpre hwl
 refine enter_call (codeAny_mono (call w s₀ s₁ mg mb fa o pm cd doc a vs ns G Y ho (fd_plain hd) hcd hmg hobj hints hlen hg) fun r s' hq => ?_)
 obtain ⟨rfl, h2, h3, h4⟩ := hq
 exact ⟨.inl ⟨.bool true, .bool true, [], rfl, fun _ => rfl, .bool true, cA9 l _, fun _ => ⟨List.Pairwise.nil, fun _ hm => (nomatch hm)⟩⟩, h2, h3, h4⟩
section
variable {prog : Program} {w : World} {A : Around} {E : VSP} {s : Shared} {K : Frag}
end
end Att
namespace L2
open PySem PySem.Spec PyProof.Rows
theorem bD2 : ∀ {vs : List Value} {ns : List Int}, IntsAre vs ns → o5 (ns.map V.int) vs
 | _, _, .nil => .nil
 | _, _, .cons n t h => .cons ⟨t, rfl⟩ (bD2 h)
noncomputable def cT8 (H : Hp) : Prop := ∀ b, H b = none ∨ ∃ o xs, H b = some (.frz o (.lst xs))
theorem cG2 {P : Program} {w : World} {K : PySem.W.Frag} {mg mb : Str → Option Value} {CX : CXT} {k : Nat} {fa a : Addr} {fd : FuncData} {x : Str} {sp : Sp} {s₁ : Shared} {vs : List Value} {ns : List Int}
 (KX : K.In s₁.heap) (hns : s₁.heap.Ns mainGlobals mg) (hb : s₁.heap.Ns builtinsNs mb) (hbb : ∀ x : Str, x ≠ "__name__" → mb x = bootBuiltins x) (hlim : s₁.heap.NoLimit) (hg : s₁.gens = #[])
 (ha : s₁.heap.get? a = some { cls := .type "list", data := .seq vs.toArray }) (hi : IntsAre vs ns) (hl : ns.length ≤ sizeLine) (hr : V2 k callerA)
 (F : ∀ base : Heap, K.In base → base.Ns mainGlobals mg → v6 P w K mg base CX k fa fd [x] sp) (hbind : ∀ (s : Shared) (u : Value), BindsTo s fd ⟨[u], []⟩ [(x, u)])
 (hsp : ∀ H : Hp, cT8 H → SqL K H a (ns.map V.int) → sp [.ref a] H (fun v _ => v = .bl true) fun _ _ _ => False)
 (hCX : ∀ H e s', CX [] H s₁ (fun _ _ _ => False) e s' → False) :
 codeAny (model P w) callerA (.call (.ref fa) ⟨[.ref a], []⟩) (fun r s' => r = .ok (.ret (.bool true)) ∧ OldK s₁.heap s'.heap ∧ s'.os = s₁.os ∧ AllBare s'.gens) s₁ := by
 have rv := bD2 hi
 have lenV := hi.length
 -- from an abstract heap in which nothing but the script may be tracked
 have core : ∀ H : Hp, cT8 H → SqL K H a (ns.map V.int) → HOk P w H s₁.heap → (∀ b, H b ≠ none → b = a) → (H a ≠ none → K.lookup a = none) →
  codeAny (model P w) callerA (.call (.ref fa) ⟨[.ref a], []⟩) (fun r s' => r = .ok (.ret (.bool true)) ∧ OldK s₁.heap s'.heap ∧ s'.os = s₁.os ∧ AllBare s'.gens) s₁ := by
  intro H hO hS hok hA hK
  have base_of : ∀ {b : Addr} {o : Obj}, s₁.heap.get? b = some o → H b = none → (bH8 s₁.heap H).get? b = some o := fun e n => cL4 e n
  have noA : ∀ {b : Addr} {o : Obj} {es : Array DictEntry} {ep : Nat}, s₁.heap.get? b = some o → o.data = .dict es ep → H b = none := fun {b o es ep} e d => by
   cases q : H b with
   | none => rfl
   | some u =>
     have e' : b = a := hA b (by rw [q]; simp)
     subst e'
     rw [ha] at e; cases e
     have d' : Data.seq vs.toArray _ = Data.dict es ep := d
     cases d'
  have nsK : ∀ {b : Addr} {m : Str → Option Value}, s₁.heap.Ns b m → (bH8 s₁.heap H).Ns b m := fun {b m} ⟨o, es, ep, e, d, r⟩ => ⟨o, es, ep, base_of e (noA e d), d, r⟩
  have hKb : K.In (bH8 s₁.heap H) := fun b o e => base_of (KX b o e) (by
   cases q : H b with
   | none => rfl
   | some u =>
     have e' : b = a := hA b (by rw [q]; simp)
     subst e'
     rw [hK (by rw [q]; simp)] at e; cases e)
  have hM : Mod K mg (bH8 s₁.heap H) := ⟨hKb, nsK hns, ⟨mb, nsK hb, hbb⟩, let ⟨mc, h1, h2⟩ := hlim; ⟨mc, nsK h1, h2⟩⟩
  have e0 : bT4 P w K mg (bH8 s₁.heap H) callerA [] s₁ H := ⟨rfl, hM, fun b o e => cO0 e, Nat.le_of_eq (cB3 _ _), trivial, fun b hb => absurd (show b ∈ ([] : List Addr) from hb) (by simp), hok, .of_eq hg⟩
  refine codeAny_mono ((F _ hKb (nsK hns)).run callerA [] s₁ H ⟨[.ref a], []⟩ [.ref a] [.ref a] _ _ hr e0 (hbind s₁ (.ref a)) (.cons rfl .nil) (hsp H hO hS)) fun r s' h => ?_
  cases r with
  | error e => exact (hCX H e s' h).elim
  | ok fl =>
    cases fl with
    | next => exact False.elim h
    | brk => exact False.elim h
    | cont => exact False.elim h
    | ret u =>
      obtain ⟨v, H', os, bare, un, hok', r', q⟩ := h
      have q' : v = .bl true := q
      subst q'
      obtain rfl : u = Value.bool true := r'
      refine ⟨rfl, OldK.of_keep fun b o e => ?_, os, bare⟩
      cases q : H b with
      | none => exact un.keep b o e q (by intro z; exact absurd (show b ∈ ([] : List Addr) from z) (by simp)) (by simp)
      | some u =>
        rcases hO b with z | ⟨ob, xs, z⟩
        · rw [q] at z; cases z
        · have z2 := un.frzs b ob _ z
          obtain ⟨e1, _⟩ := hok b _ z
          obtain ⟨e2, _⟩ := hok' b _ z2
          rw [e] at e1; cases e1
          exact e2
 cases hk : K.lookup a with
 | some o =>
   -- the script is one of the module's own objects
   have e := KX a o hk
   rw [ha] at e
   cases e
   refine core (fun _ => none) (fun _ => .inl rfl) (.inr ⟨_, vs.toArray, _, hk, rfl, rfl, rfl, by rw [List.size_toArray, lenV]; exact hl, by simpa using rv⟩) (fun b u z => by have z' : (none : Option HO) = some u := z; cases z') (fun b z => absurd rfl z) fun z => absurd rfl z
 | none =>
   refine core (fun b => if b = a then some (.frz { cls := .type "list", data := .seq vs.toArray } (.lst (ns.map V.int))) else none) (fun b => ?_) (.inl (.inr ⟨{ cls := .type "list", data := .seq vs.toArray }, if_pos rfl⟩)) (fun b u z => ?_) (fun b z => ?_) fun _ => hk
   · by_cases hb : b = a
     · exact .inr ⟨_, _, if_pos hb⟩
     · exact .inl (if_neg hb)
   · by_cases hb : b = a
     · have z' := (if_pos hb).symm.trans z
       cases z'
       subst hb
       exact ⟨ha, by rw [List.length_map]; exact hl, vs, _, rv, ha⟩
     · have z' := (if_neg hb).symm.trans z
       cases z'
   · by_cases hb : b = a
     · exact hb
     · exact absurd (if_neg hb) z
theorem walk_of {l : PySem.W.OpenLaw} {n k : Nat} {q : Program} {loose : List Str} {XP : (Str → Option Value) → Heap → Prop} {YP : World → Heap → Prop} {d : DefRec} {K : Params → PySem.W.Frag} {CX : World → CXT} {sp : World → Sp} {x : Str}
 (hn : l.most = some n) (hn2 : n ≤ sizeLine) (hdf : d.params.defaults = []) (hr : V2 k callerA)
 (hY : ∀ (w : World) (h : Heap), YP w h → (K w.params).In h)
 (F : ∀ (w : World) (mg : Str → Option Value) (fa : Addr) (h : Heap), (K w.params).In h → h.Ns mainGlobals mg → mg d.name = some (.ref fa) →
   ∃ fd : FuncData, (∀ (s : Shared) (u : Value), BindsTo s fd ⟨[u], []⟩ [(x, u)]) ∧
    ∀ base : Heap, (K w.params).In base → base.Ns mainGlobals mg → v6 l.prog w (K w.params) mg base (CX w) k fa fd [x] (sp w))
 (hsp : ∀ (w : World) (H : Hp) (a : Addr) (ns : List Int), ns.length ≤ n → cT8 H → SqL (K w.params) H a (ns.map V.int) → sp w [.ref a] H (fun v _ => v = .bl true) fun _ _ _ => False)
 (hCX : ∀ (w : World) (H : Hp) (s : Shared) (e : Value) (s' : Shared), CX w [] H s (fun _ _ _ => False) e s' → False) :
 PySem.W.WalkO q loose XP YP l.row.toRowW d [] (fun f vs => PySem.call f vs) := by
 refine Att.attach_call hn hdf fun w s₀ s₁ mg mb fa o pm cd doc a vs ns G Y ho hd hcd hmg hobj hints hlen hg => ?_
 have KX := hY w _ Y
 obtain ⟨fd, hb, hF⟩ := F w mg fa _ KX G.T.g hmg
 exact cG2 KX G.T.g G.T.b G.T.builtins G.T.nolimit hg hobj hints (Nat.le_trans hlen hn2) hr hF hb (fun H hO hS => hsp w H a ns hlen hO hS) fun H e s' => hCX w H s₁ e s'
noncomputable def R1 (s : Stmt) : Arguments := match s with
 | .FunctionDef _ a _ _ _ _ _ _ _ _ => a
 | _ => { posonlyargs := [], args := [], vararg := none, kwonlyargs := [], kw_defaults := [], kwarg := none, defaults := [] }
noncomputable def M7 (s : Stmt) : List Stmt := match s with
 | .FunctionDef _ _ b _ _ _ _ _ _ _ => b
 | _ => []
noncomputable def g8 (s : Stmt) : Scope := match s with
 | .FunctionDef _ _ _ _ _ _ sc _ _ _ => sc
 | _ => { kind := .function, names := [], isGenerator := false, isCoroutine := false }
noncomputable abbrev CX0 : CXT := fun _ _ _ _ _ _ => False
noncomputable abbrev E0 : XK := fun _ _ _ => False
theorem cW0 {X : Cx} : bT1 CX0 X E0 := fun _ _ _ _ _ _ _ h => h.elim
structure Fun (K : PySem.W.Frag) (x qual : Str) (st : Stmt) (f : Addr) (fd : FuncData) : Prop where
 ex : ∃ (oc : Value) (od : Option Addr) (kV doc pm : Value) (an : Option Addr) (cdv ct : Value) (osl : Array (Option Value)),
  fd = PySem.W.fnOf x qual (R1 st) (M7 st) (g8 st) .none kV doc pm an cdv ct ∧ K.lookup f = some ⟨oc, od, .func fd, osl⟩ ∧ PySem.W.codeIn K cdv qual = true
 kp : PySem.W.keepIn K (.ref f) = true
section
variable {P : Program} {w : World} {K : PySem.W.Frag} {mg : Str → Option Value} {base : Heap}
theorem Fun.ok {x qual : Str} {st : Stmt} {f : Addr} {fd : FuncData} {N ps : List Str} {k : Nat} {sp : Sp} (F : Fun K x qual st f fd) (S : m7 N ps (g8 st)) (len : ∀ vs H Q E, sp vs H Q E → vs.length = ps.length)
 (hbody : ∀ (cdv : Value) (A : Around) (outer : List Env) (s : Shared) (H : Hp) (vs : List V) (Q : VK) (E : XK), V2 k (A.deeper (envOfC qual (g8 st) s.heap.objs.size f cdv)) → sp vs H Q E →
   ∃ t, PSs (bQ5 CX0 P w K mg base N qual (g8 st) f cdv A outer s H E).nox (M7 st) t ∧ t { nx := fun _ H' => Q .non H', rt := Q } (start N vs) H) : v6 P w K mg base CX0 (k + 1) f fd ps sp := by
 obtain ⟨oc, od, kV, doc, pm, an, cdv, ct, osl, rfl, lk, hcd⟩ := F.ex
 refine dH7 lk hcd S len fun A outer s H vs Q E hr hsp => ?_
 obtain ⟨t, h, q⟩ := hbody cdv A outer s H vs Q E hr hsp
 exact ⟨t, h.nox, q⟩
theorem Fun.binds {x qual : Str} {st : Stmt} {f : Addr} {fd : FuncData} {ps : List Str} (F : Fun K x qual st f fd)
 (h : ∀ (kV doc pm : Value) (an : Option Addr) (cdv ct : Value) (us : List Value), us.length = ps.length → bindArgs (PySem.W.fnOf x qual (R1 st) (M7 st) (g8 st) .none kV doc pm an cdv ct) ⟨us, []⟩ = pure (ps.zip us)) : aS0 K fd ps [] := by
 obtain ⟨oc, od, kV, doc, pm, an, cdv, ct, osl, rfl, lk, hcd⟩ := F.ex
 exact .all (h kV doc pm an cdv ct)
theorem bI5 {x qual : Str} {st : Stmt} {f : Addr} {oc : Value} {od an : Option Addr} {osl : Array (Option Value)} {kV doc pm cdv ct : Value} (l : K.lookup f = some ⟨oc, od, .func (PySem.W.fnOf x qual (R1 st) (M7 st) (g8 st) .none kV doc pm an cdv ct), osl⟩)
 (c : PySem.W.codeIn K cdv qual = true) (k : PySem.W.keepIn K (.ref f) = true) : Fun K x qual st f (PySem.W.fnOf x qual (R1 st) (M7 st) (g8 st) .none kV doc pm an cdv ct) := ⟨⟨oc, od, kV, doc, pm, an, cdv, ct, osl, rfl, l, c⟩, k⟩
end
section
variable {X : Cx}
end
noncomputable def Same (H H' : Hp) : Prop := ∀ b o, H b = some o → H' b = some o
theorem Same.refl (H : Hp) : Same H H := fun _ _ h => h
theorem Same.trans {H H1 H2 : Hp} (a : Same H H1) (b : Same H1 H2) : Same H H2 := fun c o h => b c o (a c o h)
theorem Same.free {H H' : Hp} (e : Same H H') {l : Addr} (h : H' l = Option.none) : H l = Option.none := by
 cases q : H l with
 | none => rfl
 | some o =>
   rw [e l o q] at h
   cases h
theorem Same.seq {K : PySem.W.Frag} {H H' : Hp} {a : Addr} {xs : List V} (e : Same H H') (h : SqL K H a xs) : SqL K H' a xs := by
 rcases h with (h | ⟨o, h⟩) | h
 · exact .inl (.inl (e _ _ h))
 · exact .inl (.inr ⟨o, e _ _ h⟩)
 · exact .inr h
section
variable {κ : Type} [DecidableEq κ]
noncomputable def aL6 (kvs : List (κ × V)) (k : κ) : Option V := (kvs.find? fun kv => decide (kv.1 = k)).map (·.2)
noncomputable def aI5 (kvs : List (κ × V)) (k : κ) (v : V) : List (κ × V) :=
 if (kvs.any fun kv => decide (kv.1 = k)) = true then kvs.map (fun kv => if kv.1 = k then (kv.1, v) else kv) else kvs ++ [(k, v)]
noncomputable def cW8 (kvs : List (κ × V)) (k : κ) : List (κ × V) := kvs.filter fun kv => decide (kv.1 ≠ k)
theorem aM6 {p : κ × V} {r : List (κ × V)} {k : κ} (e : p.1 = k) : aL6 (p :: r) k = some p.2 := by simp [aL6, List.find?_cons, e]
theorem aN0 {p : κ × V} {r : List (κ × V)} {k : κ} (e : ¬ p.1 = k) : aL6 (p :: r) k = aL6 r k := by simp [aL6, List.find?_cons, e]
theorem bP5 (k : κ) : ∀ kvs : List (κ × V), (kvs.any fun kv => decide (kv.1 = k)) = (aL6 kvs k).isSome
 | [] => rfl
 | p :: r => by
   rw [List.any_cons]
   by_cases e : p.1 = k
   · simp only [aM6 e, decide_eq_true e, Bool.true_or, Option.isSome_some]
   · rw [aN0 e, decide_eq_false e, Bool.false_or]; exact bP5 k r
theorem aG9 (kvs : List (κ × V)) (k : κ) (v : V) : (aI5 kvs k v).length ≤ kvs.length + 1 := by
 unfold aI5
 split
 · rw [List.length_map]; lia
 · rw [List.length_append, List.length_cons, List.length_nil]; lia
theorem bB0.isSome_eq {o : Option V} {u : Option Value} (r : bB0 o u) : o.isSome = u.isSome := by
 cases o with
 | none => cases u with
   | none => rfl
   | some _ => exact (show False from r).elim
 | some _ => cases u with
   | none => exact (show False from r).elim
   | some _ => rfl
theorem bB0.getD {o : Option V} {u : Option Value} {d : V} {d' : Value} (r : bB0 o u) (rd : o4 d d') : o4 (o.getD d) (u.getD d') := by
 cases o with
 | none => cases u with
   | none => exact rd
   | some _ => exact (show False from r).elim
 | some _ => cases u with
   | none => exact (show False from r).elim
   | some _ => exact r
theorem KV.val {kvs : List (κ × V)} {vs : List (κ × Value)} (r : KV kvs vs) (k : κ) : bB0 (aL6 kvs k) (valueAt vs k) := by
 unfold KV at r
 induction r with
 | nil => exact True.intro
 | @cons p q ps qs h t ih =>
   obtain ⟨h1, h2⟩ := h
   by_cases e : p.1 = k
   · have e' : q.1 = k := h1.symm.trans e
     have b : valueAt (q :: qs) k = some q.2 := by simp [valueAt, List.find?_cons, e']
     rw [aM6 e, b]; exact h2
   · have e' : ¬ q.1 = k := fun z => e (h1.trans z)
     have b : valueAt (q :: qs) k = valueAt qs k := by simp [valueAt, List.find?_cons, e']
     rw [aN0 e, b]; exact ih
theorem KV.any {kvs : List (κ × V)} {vs : List (κ × Value)} (r : KV kvs vs) (k : κ) : (kvs.any fun kv => decide (kv.1 = k)) = vs.any fun kv => decide (kv.1 = k) := by
 unfold KV at r
 induction r with
 | nil => rfl
 | cons h t ih => rw [List.any_cons, List.any_cons, ih, h.1]
theorem KV.repl {kvs : List (κ × V)} {vs : List (κ × Value)} (r : KV kvs vs) (k : κ) {y : V} {u : Value} (ry : o4 y u) :
 KV (kvs.map fun kv => if kv.1 = k then (kv.1, y) else kv) (vs.map fun kv => if kv.1 = k then (kv.1, u) else kv) := by
 unfold KV at r ⊢
 induction r with
 | nil => exact .nil
 | @cons p q ps qs h t ih =>
   rw [List.map_cons, List.map_cons]
   refine .cons ?_ ih
   obtain ⟨h1, h2⟩ := h
   by_cases e : p.1 = k
   · rw [if_pos e, if_pos (h1.symm.trans e)]; exact ⟨h1, ry⟩
   · rw [if_neg e, if_neg (fun z => e (h1.trans z))]; exact ⟨h1, h2⟩
theorem KV.put {kvs : List (κ × V)} {vs : List (κ × Value)} (r : KV kvs vs) (k : κ) {y : V} {u : Value} (ry : o4 y u) : KV (aI5 kvs k y) (stored vs k u) := by
 unfold aI5 stored
 rw [r.any k]
 by_cases e : (vs.any fun kv => decide (kv.1 = k)) = true
 · rw [if_pos e, if_pos e]; exact r.repl k ry
 · rw [if_neg e, if_neg e]; exact Paired.snoc r ⟨rfl, ry⟩
theorem KV.drop {kvs : List (κ × V)} {vs : List (κ × Value)} (r : KV kvs vs) (k : κ) : KV (cW8 kvs k) (without vs k) := by
 unfold KV at r ⊢
 unfold cW8 without
 induction r with
 | nil => exact .nil
 | @cons p q ps qs h t ih =>
   obtain ⟨h1, h2⟩ := h
   rw [List.filter_cons, List.filter_cons]
   by_cases e : p.1 = k
   · have a : ¬ decide (p.1 ≠ k) = true := by simp [e]
     have b : ¬ decide (q.1 ≠ k) = true := by simp [h1.symm.trans e]
     rw [if_neg a, if_neg b]; exact ih
   · have e' : ¬ q.1 = k := fun z => e (h1.trans z)
     have a : decide (p.1 ≠ k) = true := by simp [e]
     have b : decide (q.1 ≠ k) = true := by simp [e']
     rw [if_pos a, if_pos b]; exact .cons ⟨h1, h2⟩ ih
theorem KV.length {kvs : List (κ × V)} {vs : List (κ × Value)} (r : KV kvs vs) : kvs.length = vs.length := Paired.length r
end
theorem bM0 {P : Program} {w : World} {k : Key} {u : Value} (r : o4 (kV k) u) : (J3 P w).is k u = true := by
 cases k with
 | inl i => obtain ⟨t, e⟩ := (show ∃ t, u = Value.int i t from r); subst e; exact bP0 P w i t
 | inr x => obtain ⟨t, e⟩ := (show ∃ t, u = Value.str x t from r); subst e; exact bL6 P w x t
theorem bE6 {P : Program} {w : World} : ∀ {ks : List Key} {us : List Value}, o5 (ks.map kV) us → ItemsAre (J3 P w) ks us
 | [], _, r => by rw [List.map_nil] at r; cases r; exact .nil
 | k :: ks, _, r => by
   rw [List.map_cons] at r
   cases r with
   | cons h t => exact .cons (bM0 h) (bE6 t)
abbrev KT (H : Hp) : List (List Key × V) → List (List Key × Addr × Value) → Prop := Paired fun p q => p.1 = q.1 ∧ H q.2.1 = some (.tup (p.1.map kV)) ∧ o4 p.2 q.2.2
theorem KT.val {H : Hp} {kvs : List (List Key × V)} {xs : List (List Key × Addr × Value)} (r : KT H kvs xs) (k : List Key) : bB0 (aL6 kvs k) ((atKey xs k).map (·.2)) := by
 induction r with
 | nil => exact True.intro
 | @cons p q ps qs h t ih =>
   obtain ⟨h1, _, h2⟩ := h
   by_cases e : p.1 = k
   · have e' : q.1 = k := h1.symm.trans e
     have b : atKey (q :: qs) k = some q.2 := by simp [atKey, List.find?_cons, e']
     rw [aM6 e, b]; exact h2
   · have e' : ¬ q.1 = k := fun z => e (h1.trans z)
     have b : atKey (q :: qs) k = atKey qs k := by simp [atKey, List.find?_cons, e']
     rw [aN0 e, b]; exact ih
theorem KT.repl {H : Hp} {kvs : List (List Key × V)} {xs : List (List Key × Addr × Value)} (r : KT H kvs xs) (k : List Key) {y : V} {u : Value} (ry : o4 y u) :
 KT H (kvs.map fun kv => if kv.1 = k then (kv.1, y) else kv) (xs.map (putAt k u)) := by
 induction r with
 | nil => exact .nil
 | @cons p q ps qs h t ih =>
   rw [List.map_cons, List.map_cons]
   refine .cons ?_ ih
   obtain ⟨h1, h2, h3⟩ := h
   unfold putAt
   by_cases e : p.1 = k
   · rw [if_pos e, if_pos (h1.symm.trans e)]; exact ⟨h1, h2, ry⟩
   · rw [if_neg e, if_neg (fun z => e (h1.trans z))]; exact ⟨h1, h2, h3⟩
theorem KT.put {H : Hp} {kvs : List (List Key × V)} {xs : List (List Key × Addr × Value)} (r : KT H kvs xs) (k : List Key) {b : Addr} {y : V} {u : Value} (hb : H b = some (.tup (k.map kV))) (ry : o4 y u) :
 KT H (aI5 kvs k y) (storedH xs k b u) := by
 have e : (kvs.any fun kv => decide (kv.1 = k)) = (atKey xs k).isSome := by
  rw [bP5, (r.val k).isSome_eq, Option.isSome_map]
 unfold aI5 storedH
 rw [e]
 by_cases q : (atKey xs k).isSome = true
 · rw [if_pos q, if_pos q]; exact r.repl k ry
 · rw [if_neg q, if_neg q]; exact Paired.snoc r ⟨rfl, hb, ry⟩
theorem KT.keeps {H H' : Hp} {kvs : List (List Key × V)} {xs : List (List Key × Addr × Value)} (r : KT H kvs xs) (ht : ∀ b ys, H b = some (.tup ys) → H' b = some (.tup ys)) : KT H' kvs xs :=
 Paired.mapP r fun _ _ z => ⟨z.1, ht _ _ z.2.1, z.2.2⟩
section
variable {P : Program} {w : World} {H : Hp} {h : Heap} {a : Addr}
theorem cX0 {u : HO} (ok : HOk P w H h) (e : Rd H a u) : N7 P w H h a u := e.ok ok
theorem bX6 {kvs : List (Key × V)} (ok : HOk P w H h) (e : Rd H a (.dK kvs)) : kvs.length ≤ sizeLine ∧ (a == sysModules) = false ∧ ∃ vs, KV kvs vs ∧ h.DictOf (J3 P w) a vs :=
 show N7 P w H h a (.dK kvs) from cX0 ok e
theorem bY8 {kvs : List (Key × V)} (ok : HOk P w H h) (e : H a = some (.dK kvs)) : kvs.length ≤ sizeLine ∧ (a == sysModules) = false ∧ ∃ vs, KV kvs vs ∧ h.DictOf (J3 P w) a vs := bX6 ok (.inl e)
theorem bF9 {ks : List Key} (ok : HOk P w H h) (e : H a = some (.tup (ks.map kV))) : (tupleKind (J3 P w)).is h ks a := by
 obtain ⟨_, its, r, o, h1, h2, n, h3⟩ := (show N7 P w H h a (.tup (ks.map kV)) from ok a _ e)
 exact ⟨o, its.toArray, n, h1, h2, (Prod.mk.inj h3).1, by simpa using bE6 r⟩
theorem cF5 {kvs : List (List Key × V)} (ok : HOk P w H h) (e : Rd H a (.dT kvs)) : kvs.length ≤ sizeLine ∧ (a == sysModules) = false ∧
 ∃ xs, KT H kvs xs ∧ h.DictOfH (tupleKind (J3 P w)) a xs := by
 obtain ⟨z, y, xs, r, o, es, ep, h1, h2, h3, h4, h5⟩ := (show N7 P w H h a (.dT kvs) from cX0 ok e)
 refine ⟨z, y, xs, r, o, es, ep, h1, h2, h3, h4, fun x hx => ?_, h5⟩
 have all : ∀ {l : List (List Key × V)} {m : List (List Key × Addr × Value)}, KT H l m → ∀ x ∈ m, (tupleKind (J3 P w)).is h x.1 x.2.1 := by
  intro l m q
  induction q with
  | nil => intro x hx; exact nomatch hx
  | @cons p q ps qs hq t ih =>
    intro x hx
    rcases List.mem_cons.mp hx with e | hx
    · subst e
      exact bF9 ok (by rw [← hq.1]; exact hq.2.1)
    · exact ih x hx
 exact all r x hx
theorem dL7 {kvs : List (List Key × V)} (ok : HOk P w H h) (e : H a = some (.dT kvs)) : kvs.length ≤ sizeLine ∧ (a == sysModules) = false ∧
 ∃ xs, KT H kvs xs ∧ h.DictOfH (tupleKind (J3 P w)) a xs := cF5 ok (.inl e)
end
def cD5 (H : Hp) (a : Addr) (y : V) (r : Option V) : Prop :=
 (∃ kvs k, Rd H a (.dK kvs) ∧ y = kV k ∧ r = aL6 kvs k) ∨ ∃ kvs k b, Rd H a (.dT kvs) ∧ y = .ref b ∧ H b = some (.tup (k.map kV)) ∧ r = aL6 kvs k
def cP3 (H : Hp) (a : Addr) (y v : V) (H' : Hp) : Prop :=
 (∃ kvs k, H a = some (.dK kvs) ∧ y = kV k ∧ kvs.length < sizeLine ∧ H' = upd H a (.dK (aI5 kvs k v))) ∨
 ∃ kvs k b, H a = some (.dT kvs) ∧ y = .ref b ∧ H b = some (.tup (k.map kV)) ∧ kvs.length < sizeLine ∧ H' = upd H a (.dT (aI5 kvs k v))
theorem cD5.k {H : Hp} {a : Addr} {kvs : List (Key × V)} {k : Key} (e : H a = some (.dK kvs)) : cD5 H a (kV k) (aL6 kvs k) := .inl ⟨kvs, k, .inl e, rfl, rfl⟩
theorem cP3.k {H : Hp} {a : Addr} {kvs : List (Key × V)} {k : Key} {v : V} (e : H a = some (.dK kvs)) (hl : kvs.length < sizeLine) : cP3 H a (kV k) v (upd H a (.dK (aI5 kvs k v))) := .inl ⟨kvs, k, e, rfl, hl, rfl⟩
section
variable {X : Cx} {pins : PNS} {σ : St} {H : Hp} {s : Shared} {a : Addr} {y v : V} {u r : Value} {o : Option V} {A : Around} {E : VSP}
theorem Inv.big (I : Inv X pins σ H s) : sysModules < s.heap.objs.size := by
 have h : mainGlobals < s.heap.objs.size := (I.mod.glob.keeps I.bk).lt
 exact Nat.lt_trans (by decide) h
theorem dN1 {Q : VSP} (hu : A.units + 1 < cLine) (I : Inv X pins σ H s) (g : cD5 H a y o) (ry : o4 y u) (h : ∀ s', Inv X pins σ H s' → Q (.bool o.isSome) s') :
 wpAny (model X.prog X.w) A (compareOp .In u (.ref a)) Q E s := by
 rcases g with ⟨kvs, k, e, ey, l⟩ | ⟨kvs, k, b, e, ey, eb, l⟩
 · subst ey
   obtain ⟨z, hd, vs, rel, dd⟩ := bX6 I.hok e
   refine wpAny_in_of (bM0 ry) hd dd.mapOf ?_
   rw [← (rel.val k).isSome_eq, ← l]
   exact h _ (I.tok _)
 · subst ey
   cases (show u = Value.ref b from ry)
   obtain ⟨z, hd, xs, rel, dd⟩ := cF5 I.hok e
   refine wpAny_in_heap (tupleKind_room_in1 hu) (bF9 I.hok eb) hd dd ?_
   have q := (rel.val k).isSome_eq
   rw [Option.isSome_map] at q
   rw [← q, ← l]
   exact h _ (I.tok _)
theorem cT6 {Q : VSP} (hu : A.units + 1 < cLine) (I : Inv X pins σ H s) (g : cD5 H a y o) (ry : o4 y u) (h : ∀ s', Inv X pins σ H s' → Q (.bool (!o.isSome)) s') :
 wpAny (model X.prog X.w) A (compareOp .NotIn u (.ref a)) Q E s := by
 rcases g with ⟨kvs, k, e, ey, l⟩ | ⟨kvs, k, b, e, ey, eb, l⟩
 · subst ey
   obtain ⟨z, hd, vs, rel, dd⟩ := bX6 I.hok e
   refine wpAny_notIn_of (bM0 ry) hd dd.mapOf ?_
   rw [← (rel.val k).isSome_eq, ← l]
   exact h _ (I.tok _)
 · subst ey
   cases (show u = Value.ref b from ry)
   obtain ⟨z, hd, xs, rel, dd⟩ := cF5 I.hok e
   refine wpAny_notIn_heap (tupleKind_room_in1 hu) (bF9 I.hok eb) hd dd ?_
   have q := (rel.val k).isSome_eq
   rw [Option.isSome_map] at q
   rw [← q, ← l]
   exact h _ (I.tok _)
theorem bG6 {h' : Heap} {t' : Nat} {ob : HO} (I : Inv X pins σ H s) (mu : Mut (H a)) (hs : Heap.SameBut a s.heap h') (he : ∃ q, h'.get? a = some q) (new : N7 X.prog X.w (upd H a ob) h' a ob) :
 Inv X pins σ (upd H a ob) { s with heap := h', toks := t' } :=
 I.write (x := a) (e := a) mu (.inl rfl) (fun b q hb z => (hs.2 b hb).trans z) he new
theorem cN1 {P : Program} {w : World} {H' : Hp} {h' : Heap} {kvs : List (Key × V)} {vs : List (Key × Value)} (z : kvs.length ≤ sizeLine) (hd : (a == sysModules) = false) (rel : KV kvs vs) (dd : h'.DictOf (J3 P w) a vs) :
 N7 P w H' h' a (.dK kvs) := ⟨z, hd, vs, rel, dd⟩
theorem cC8 {H' : Hp} {Q : Unit → Shared → Prop} (hu : A.units + 1 < cLine) (I : Inv X pins σ H s) (g : cP3 H a y v H') (ry : o4 y u) (rv : o4 v r) (h : ∀ s', Inv X pins σ H' s' → Q () s') :
 wpAny (model X.prog X.w) A (setItem (.ref a) u r) Q E s := by
 rcases g with ⟨kvs, k, e, ey, l, eH⟩ | ⟨kvs, k, b, e, ey, eb, l, eH⟩
 · subst ey eH
   obtain ⟨z, hd, vs, rel, dd⟩ := bY8 I.hok e
   have hz : vs.length ≤ sizeLine := by rw [← rel.length]; exact z
   have hl : (aI5 kvs k v).length ≤ sizeLine := by have := aG9 kvs k v; lia
   refine wpAny_setItem_pairs (hsz := hz) (bM0 ry) dd fun h' dd' hs => h _ ?_
   have he : ∃ q, h'.get? a = some q := let ⟨q, _, _, hq, _⟩ := dd'; ⟨q, hq⟩
   exact bG6 I (by rw [e]; exact True.intro) hs he (cN1 hl hd (rel.put k rv) dd')
 · subst ey eH
   cases (show u = Value.ref b from ry)
   obtain ⟨z, hd, xs, rel, dd⟩ := dL7 I.hok e
   have hz : xs.length ≤ sizeLine := by rw [← Paired.length rel]; exact z
   have hl : (aI5 kvs k v).length ≤ sizeLine := by have := aG9 kvs k v; lia
   refine wpAny_setItem_heap (hsz := hz) (tupleKind_room_in1 hu) (bF9 I.hok eb) dd fun h' dd' hs => h _ ?_
   obtain ⟨q, es, ep, hq, h2, h3, h4, _, h5⟩ := dd'
   refine bG6 I (by rw [e]; exact True.intro) hs ⟨q, hq⟩ ⟨hl, hd, _, (rel.put k eb rv).keeps fun c ys ec => ?_, q, es, ep, hq, h2, h3, h4, h5⟩
   rw [m5 (dK6 ec e (fun z => nomatch z))]
   exact ec
end
section
variable {X : Cx} {pins : PNS} {σ : St} {H : Hp} {s : Shared} {a : Addr} {kvs : List (Key × V)} {k : Key} {u : Value} {A : Around} {E : VSP}
theorem dH0 {Q : VSP} (I : Inv X pins σ H s) (e : Rd H a (.dK kvs)) (h : ∀ t s', Inv X pins σ H s' → Q (.int kvs.length t) s') : wpAny (model X.prog X.w) A (call (.builtin "len") [.ref a]) Q E s := by
 obtain ⟨z, hd, vs, rel, dd⟩ := bX6 I.hok e
 refine call_len_dict hd dd (by rw [← rel.length]; rw [sizeLine_eq] at z; lia) ?_
 rw [← rel.length]
 exact h _ _ (I.tok _)
end
section
variable {X : Cx} {o i e value : Expr} {pos pos' tpos : Pos} {td ty tv : TE}
end
theorem bL7 {P : Program} {w : World} {H : Hp} (h : Heap) (hb : sysModules < h.objs.size) : N7 P w H (h.push { cls := .type "dict", data := .dict #[] }) h.objs.size (.dK []) :=
 ⟨Nat.zero_le _, beq_eq_false_iff_ne.mpr (Ne.symm (Nat.ne_of_lt hb)), [], .nil, Heap.DictOf.new h⟩
def dA0 : TE := fun _ H Q => ∀ p, H p = none → Q (.ref p) (upd H p (.dK []))
section
variable {X : Cx} {pos : Pos}
theorem cJ5 : PE X (.Dict [] [] pos) dA0 := fun pins s σ H Q I h =>
 wpAny_Dict_empty ⟨.ref s.heap.objs.size, _, I.laid (a := s.heap.objs.size) (o := .dK []) (t' := s.toks) (fun _ _ q => Heap.get?_push_of_some _ q) (Nat.le_refl _) (bL7 s.heap I.big), rfl, h _ (I.hok.fresh (Nat.le_refl _))⟩
end
noncomputable def bT5 : List (TE × TE) → St → Hp → (List (V × V) → Hp → Prop) → Prop
 | [], _, H, Q => Q [] H
 | (tk, tv) :: r, σ, H, Q => tk σ H fun x H1 => tv σ H1 fun y H2 => bT5 r σ H2 fun ps H3 => Q ((x, y) :: ps) H3
abbrev VV : List (V × V) → List (Value × Value) → Prop := Paired fun p q => o4 p.1 q.1 ∧ o4 p.2 q.2
def PPs (X : Cx) (pos : Pos) (keys : List (Option Expr)) (values : List Expr) (trs : List (TE × TE)) : Prop :=
 ∀ (pins : PNS) (s : Shared) (σ : St) (H : Hp) (Q : List (V × V) → Hp → Prop), Inv X pins σ H s → bT5 trs σ H Q →
  wpAny (model X.prog X.w) X.A (evalPairs (pairTrees keys values X.env pos)) (fun vs s' => ∃ ps H', Inv X pins σ H' s' ∧ VV ps vs ∧ Q ps H') X.xe s
theorem cR8 {X : Cx} {pos : Pos} : PPs X pos [] [] [] := fun pins s σ H Q I h => pairTrees_nil_walk ⟨[], H, I, .nil, h⟩
theorem aW1 {X : Cx} {pos : Pos} {k v : Expr} {ks : List (Option Expr)} {vs : List Expr} {tk tv : TE} {trs : List (TE × TE)} (hk : PE X k tk) (hv : PE X v tv) (hr : PPs X pos ks vs trs) :
 PPs X pos (some k :: ks) (v :: vs) ((tk, tv) :: trs) := fun pins s σ H Q I h =>
 pairTrees_cons_walk (thn (hk pins s σ H _ I h) fun u s1 hE1 => hE1.elim fun x H1 I1 rx q1 => thn (hv pins s1 σ H1 _ I1 q1) fun w2 s2 hE1 => hE1.elim fun y H2 I2 ry q2 =>
  thn (hr pins s2 σ H2 _ I2 q2) fun ws s3 ⟨ps, H3, I3, rel, q3⟩ => ⟨(x, y) :: ps, H3, I3, .cons ⟨rx, ry⟩ rel, q3⟩)
def aQ4 (kvs more : List (Key × V)) : List (Key × V) := more.foldl (fun acc kv => aI5 acc kv.1 kv.2) kvs
theorem KV.merge : ∀ {more : List (Key × V)} {rs : List (Key × Value)} {kvs : List (Key × V)} {vs : List (Key × Value)}, KV more rs → KV kvs vs → KV (aQ4 kvs more) (merged vs rs) := by
 intro more rs kvs vs r
 unfold KV at r
 induction r generalizing kvs vs with
 | nil => intro q; exact q
 | @cons p q ps qs h t ih =>
   intro r0
   have e : KV (aI5 kvs p.1 p.2) (stored vs q.1 q.2) := by
    have := r0.put p.1 h.2
    rw [← h.1]; exact this
   exact ih e
theorem aJ9 : ∀ (more kvs : List (Key × V)), (aQ4 kvs more).length ≤ kvs.length + more.length
 | [], kvs => by show kvs.length ≤ kvs.length + 0; lia
 | p :: r, kvs => by
   have h1 := aJ9 r (aI5 kvs p.1 p.2)
   have h2 := aG9 kvs p.1 p.2
   show (aQ4 (aI5 kvs p.1 p.2) r).length ≤ _
   rw [List.length_cons]; lia
theorem aX6 {P : Program} {w : World} : ∀ {kvs : List (Key × V)} {ws : List (Value × Value)}, VV (kvs.map fun kv => (kV kv.1, kv.2)) ws → ∃ rs, Carries (J3 P w) ws rs ∧ KV kvs rs
 | [], _, r => by rw [List.map_nil] at r; cases r; exact ⟨[], True.intro, .nil⟩
 | p :: kvs, _, r => by
   rw [List.map_cons] at r
   cases r with
   | @cons a b as bs h t =>
     obtain ⟨rs, c, q⟩ := aX6 (P := P) (w := w) t
     obtain ⟨b1, b2⟩ := b
     exact ⟨(p.1, b2) :: rs, ⟨bM0 h.1, rfl, c⟩, .cons ⟨rfl, h.2⟩ q⟩
def dI9 (trs : List (TE × TE)) : TE := fun σ H Q => ∀ p, H p = none → bT5 trs σ (upd H p (.dK [])) fun ps H2 => H2 p = some (.dK []) ∧ ∃ kvs : List (Key × V), ps = kvs.map (fun kv => (kV kv.1, kv.2)) ∧ kvs.length ≤ 15 ∧ Q (.ref p) (upd H2 p (.dK (aQ4 [] kvs)))
theorem cR3 {X : Cx} {pos : Pos} {keys : List (Option Expr)} {values : List Expr} {trs : List (TE × TE)} (h : PPs X pos keys values trs) (hall : keys.all (·.isSome) = true) (hl : keys.length = values.length) (h0 : keys ≠ [])
 (h15 : keys.length ≤ 15) : PE X (.Dict keys values pos) (dI9 trs) := by
 intro pins s σ H Q I q
 have hn := I.hok.fresh (Nat.le_refl s.heap.objs.size)
 have I1 := I.laid (a := s.heap.objs.size) (o := .dK []) (h' := s.heap.push { cls := .type "dict", data := .dict #[] }) (t' := s.toks) (fun _ _ q => Heap.get?_push_of_some _ q) (Nat.le_refl _) (bL7 s.heap I.big)
 refine wpAny_Dict_walk (knd := J3 X.prog X.w) hall hl h0 h15 (thn (h pins _ σ _ _ I1 (q _ hn)) fun ws s2 ⟨ps, H2, I2, rel, e, kvs, ep, lk, q2⟩ => ?_)
 subst ep
 obtain ⟨rs, c, rk⟩ := aX6 (P := X.prog) (w := X.w) rel
 obtain ⟨z, hd, vs0, r0, dd⟩ := bY8 I2.hok e
 cases r0
 refine ⟨rs, c, dd, fun h' dd' hs => ⟨.ref s.heap.objs.size, _, ?_, rfl, q2⟩⟩
 have hz : (aQ4 [] kvs).length ≤ sizeLine := by
  have h1 := aJ9 kvs []
  rw [List.length_nil] at h1
  rw [sizeLine_eq]; lia
 have he : ∃ q, h'.get? s.heap.objs.size = some q := let ⟨q, _, _, hq, _⟩ := dd'; ⟨q, hq⟩
 exact bG6 I2 (by rw [e]; exact True.intro) hs he (cN1 hz hd (rk.merge .nil) dd')
structure M1 (X : Cx) (o : Expr) (m : Str) (apos : Pos) (e : Expr) (cpos : Pos) : Prop where
 base : attributeBase o m X.env (eval o X.env) = eval o X.env
 few : ((backTo cpos (starEach [e] X.env)).all (fun x => !x.1) && (backToKw cpos (keywordEach [] X.env)).all (fun x => x.1.isSome)
  && decide (([e] : List Expr).length + ([] : List Keyword).length + (if ([] : List Keyword).isEmpty then 0 else 1) < 30)) = true
 line : (apos.endLine == cpos.line) = true
 trees : backTo cpos (starEach [e] X.env) = [(false, eval e X.env)]
structure M2 (X : Cx) (o : Expr) (m : Str) (apos : Pos) (e f : Expr) (cpos : Pos) : Prop where
 base : attributeBase o m X.env (eval o X.env) = eval o X.env
 few : ((backTo cpos (starEach [e, f] X.env)).all (fun x => !x.1) && (backToKw cpos (keywordEach [] X.env)).all (fun x => x.1.isSome)
  && decide (([e, f] : List Expr).length + ([] : List Keyword).length + (if ([] : List Keyword).isEmpty then 0 else 1) < 30)) = true
 line : (apos.endLine == cpos.line) = true
 trees : backTo cpos (starEach [e, f] X.env) = [(false, eval e X.env), (false, eval f X.env)]
section
variable {X : Cx} {pins : PNS} {σ : St} {H : Hp} {s : Shared} {a : Addr} {y d : V} {u r : Value} {o : Option V} {A : Around} {E : VSP}
end
section
variable {X : Cx} {o e f : Expr} {apos cpos : Pos} {td ty tx : TE}
end
section
variable {X : Cx} {pins : PNS} {σ : St} {H : Hp} {s : Shared} {a : Addr} {kvs : List (Key × V)} {A : Around} {E : VSP}
end
section
variable {X : Cx} {pins : PNS} {σ : St} {H : Hp} {s : Shared} {a : Addr} {y : V} {u : Value} {A : Around} {E : VSP}
end
section
variable {X : Cx}
theorem cE4 : T5 X (.builtin "len") (fun xs H Q => ∃ a kvs, xs = [V.ref a] ∧ H a = some (.dK kvs) ∧ Q (.int kvs.length) H) := by
 intro pins s σ H xs us Q I r h
 obtain ⟨a, kvs, rfl, ha, q⟩ := h
 obtain ⟨u, rfl, ru⟩ := X3 r
 cases ru
 exact dH0 I (.inl ha) fun t s' I' => ⟨.int kvs.length, H, I', ⟨t, rfl⟩, q⟩
end
section
variable {κ : Type} [DecidableEq κ]
end
end L2
namespace DL
open PySem PySem.Spec L2
open PyProof.Rows hiding St
inductive D where
 | non | bl (b : Bool) | int (i : Int) | str (x : Str) | tup (l : List D) | ref (i : Nat) | fn (x : Str) | ty (n : String)
inductive DO where
 | lst (l : List D) | rol (l : List D) | dct (l : List (Key × D)) | rod (l : List (Key × D))
noncomputable abbrev DH := List DO
abbrev DPP := D → DH → Prop
noncomputable abbrev DSt := List (Option D)
structure Wc where
 K : PySem.W.Frag
 mg : Str → Option Value
noncomputable abbrev wc (X : Cx) : Wc := ⟨X.K, X.mg⟩
mutual
noncomputable def d8 (c : Wc) (μ : List Addr) (H : Hp) : D → V → Prop
 | .non, v => v = .non
 | .bl b, v => v = .bl b
 | .int i, v => v = .int i
 | .str x, v => v = .str x
 | .ty n, v => v = .ty n
 | .fn x, v => ∃ a, c.mg x = some (.ref a) ∧ v = .ref a
 | .ref i, v => ∃ a, μ[i]? = some a ∧ v = .ref a
 | .tup l, v => ∃ a vs, v = .ref a ∧ SqT c.K H a vs ∧ j9 c μ H l vs
noncomputable def j9 (c : Wc) (μ : List Addr) (H : Hp) : List D → List V → Prop
 | [], vs => vs = []
 | d :: ds, vs => ∃ v r, vs = v :: r ∧ d8 c μ H d v ∧ j9 c μ H ds r
end
def S5 (c : Wc) (μ : List Addr) (H : Hp) : List (Key × D) → List (Key × V) → Prop
 | [], kvs => kvs = []
 | (k, d) :: r, kvs => ∃ v t, kvs = (k, v) :: t ∧ d8 c μ H d v ∧ S5 c μ H r t
structure Ext (μ : List Addr) (H : Hp) (μ' : List Addr) (H' : Hp) : Prop where
 pre : μ <+: μ'
 new : ∀ a ∈ μ', a ∉ μ → H a = none
 oth : ∀ b o, H b = some o → b ∉ μ → H' b = some o
 tup : ∀ b xs, H b = some (.tup xs) → H' b = some (.tup xs)
 frz : ∀ b o u, H b = some (.frz o u) → H' b = some (.frz o u)
theorem Ext.refl (μ : List Addr) (H : Hp) : Ext μ H μ H := ⟨List.prefix_refl _, fun a h n => absurd h n, fun _ _ h _ => h, fun _ _ h => h, fun _ _ _ h => h⟩
theorem Ext.trans {μ μ1 μ2 : List Addr} {H H1 H2 : Hp} (a : Ext μ H μ1 H1) (b : Ext μ1 H1 μ2 H2) : Ext μ H μ2 H2 where
 pre := a.pre.trans b.pre
 new := fun x h n => by
  by_cases h1 : x ∈ μ1
  · exact a.new x h1 n
  · have e1 := b.new x h h1
    rcases e : H x with _ | o
    · rfl
    · rw [a.oth x o e n] at e1; exact cV4 e1
 oth := fun x o e n => by
  refine b.oth x o (a.oth x o e n) fun h1 => ?_
  have := a.new x h1 n
  rw [e] at this; exact cV4 this
 tup := fun x xs e => b.tup x xs (a.tup x xs e)
 frz := fun x o u e => b.frz x o u (a.frz x o u e)
theorem Ext.lay {μ : List Addr} {H : Hp} {p : Addr} (h : H p = none) (o : HO) : Ext μ H μ (upd H p o) :=
 ⟨List.prefix_refl _, fun a h n => absurd h n, fun b o' q _ => by rw [m5 (o7 q h)]; exact q, fun b xs q => by rw [m5 (o7 q h)]; exact q, fun b o' u q => by rw [m5 (o7 q h)]; exact q⟩
theorem Ext.add {μ : List Addr} {H : Hp} {p : Addr} (h : H p = none) (o : HO) : Ext μ H (μ ++ [p]) (upd H p o) :=
 ⟨List.prefix_append _ _, fun a ha n => by
  rcases List.mem_append.mp ha with z | z
  · exact absurd z n
  · rw [List.mem_singleton.mp z]; exact h, fun b o' q _ => by rw [m5 (o7 q h)]; exact q, fun b xs q => by rw [m5 (o7 q h)]; exact q, fun b o' u q => by rw [m5 (o7 q h)]; exact q⟩
theorem Ext.mut {μ : List Addr} {H : Hp} {p : Addr} {o' : HO} (hp : p ∈ μ) (h : H p = some o') (n1 : ∀ xs, o' ≠ .tup xs) (n2 : ∀ o u, o' ≠ .frz o u) (o : HO) : Ext μ H μ (upd H p o) :=
 ⟨List.prefix_refl _, fun a h n => absurd h n, fun b o2 q n => by rw [m5 (fun e => n (by rw [e]; exact hp))]; exact q, fun b xs q => by
  rw [m5 (fun e => by subst e; rw [h] at q; cases q; exact n1 _ rfl)]; exact q,
  fun b oo u q => by
   rw [m5 (fun e => by subst e; rw [h] at q; cases q; exact n2 _ _ rfl)]; exact q⟩
theorem Ext.sqT {μ μ' : List Addr} {K : PySem.W.Frag} {H H' : Hp} (k : Ext μ H μ' H') {a : Addr} {xs : List V} (h : SqT K H a xs) : SqT K H' a xs := by
 rcases h with (h | ⟨o, h⟩) | h
 · exact .inl (.inl (k.tup _ _ h))
 · exact .inl (.inr ⟨o, k.frz _ _ _ h⟩)
 · exact .inr h
def RoL (K : PySem.W.Frag) (H : Hp) (a : Addr) (xs : List V) : Prop := (∃ o, H a = some (.frz o (.lst xs))) ∨ (SqL K (fun _ => none) a xs)
theorem cI1 {K : PySem.W.Frag} {H : Hp} {a : Addr} {xs : List V} (h : SqL K (fun _ => none) a xs) : SqL K H a xs := by
 rcases h with (h | ⟨o, h⟩) | h
 · exact m9 h
 · exact m9 h
 · exact .inr h
theorem RoL.sq {K : PySem.W.Frag} {H : Hp} {a : Addr} {xs : List V} (h : RoL K H a xs) : SqL K H a xs := by
 rcases h with ⟨o, h⟩ | h
 · exact .inl (.inr ⟨o, h⟩)
 · exact cI1 h
theorem Ext.roL {μ μ' : List Addr} {K : PySem.W.Frag} {H H' : Hp} (k : Ext μ H μ' H') {a : Addr} {xs : List V} (h : RoL K H a xs) : RoL K H' a xs := by
 rcases h with ⟨o, h⟩ | h
 · exact .inl ⟨o, k.frz _ _ _ h⟩
 · exact .inr h
section
variable {c : Wc} {μ μ' : List Addr} {H H' : Hp}
theorem bG0 {μ μ' : List Addr} (h : μ <+: μ') {i : Nat} {a : Addr} (e : μ[i]? = some a) : μ'[i]? = some a := by
 obtain ⟨t, rfl⟩ := h
 have : i < μ.length := by
  rcases Nat.lt_or_ge i μ.length with q | q
  · exact q
  · rw [List.getElem?_eq_none q] at e; exact m9 e
 rw [List.getElem?_append_left this]; exact e
mutual
theorem d8.mono (x : Ext μ H μ' H') : ∀ {d : D} {v : V}, d8 c μ H d v → d8 c μ' H' d v
 | .non, _, h => h
 | .bl _, _, h => h
 | .int _, _, h => h
 | .str _, _, h => h
 | .ty _, _, h => h
 | .fn _, _, h => h
 | .ref i, v, h => by
   unfold d8 at h ⊢
   obtain ⟨a, e, r⟩ := h
   exact ⟨a, bG0 x.pre e, r⟩
 | .tup l, v, h => by
   unfold d8 at h ⊢
   obtain ⟨a, vs, e, q, r⟩ := h
   exact ⟨a, vs, e, x.sqT q, j9.mono x r⟩
theorem j9.mono (x : Ext μ H μ' H') : ∀ {l : List D} {vs : List V}, j9 c μ H l vs → j9 c μ' H' l vs
 | [], _, h => h
 | d :: ds, vs, h => by
   unfold j9 at h ⊢
   obtain ⟨v, r, e, q, t⟩ := h
   exact ⟨v, r, e, d8.mono x q, j9.mono x t⟩
end
theorem S5.mono (x : Ext μ H μ' H') : ∀ {l : List (Key × D)} {vs : List (Key × V)}, S5 c μ H l vs → S5 c μ' H' l vs
 | [], _, h => h
 | (_, d) :: ds, vs, h => by
  obtain ⟨v, r, e, q, t⟩ := h
  exact ⟨v, r, e, d8.mono x q, S5.mono x t⟩
theorem j9.nil : j9 c μ H [] [] := rfl
theorem j9.cons {d : D} {v : V} {ds : List D} {vs : List V} (h : d8 c μ H d v) (t : j9 c μ H ds vs) : j9 c μ H (d :: ds) (v :: vs) := ⟨v, vs, rfl, h, t⟩
theorem j9.length : ∀ {l : List D} {vs : List V}, j9 c μ H l vs → l.length = vs.length
 | [], _, h => by cases h; rfl
 | _ :: _, _, h => by obtain ⟨v, r, rfl, _, t⟩ := h; simp [j9.length t]
theorem j9.get : ∀ {l : List D} {vs : List V} {i : Nat} {d : D}, j9 c μ H l vs → l[i]? = some d → ∃ v, vs[i]? = some v ∧ d8 c μ H d v
 | [], _, _, _, _, e => by simp at e
 | _ :: _, _, 0, _, h, e => by
   obtain ⟨v, r, rfl, q, t⟩ := h
   simp at e; subst e
   exact ⟨v, rfl, q⟩
 | _ :: _, _, i + 1, _, h, e => by
   obtain ⟨v, r, rfl, q, t⟩ := h
   simp at e
   obtain ⟨w, h1, h2⟩ := j9.get t e
   exact ⟨w, by simpa using h1, h2⟩
theorem j9.append : ∀ {l l' : List D} {vs vs' : List V}, j9 c μ H l vs → j9 c μ H l' vs' → j9 c μ H (l ++ l') (vs ++ vs')
 | [], _, _, _, h, t => by cases h; exact t
 | _ :: _, _, _, _, h, t => by
   obtain ⟨v, r, rfl, q, u⟩ := h
   exact ⟨v, r ++ _, rfl, q, j9.append u t⟩
theorem j9.take : ∀ (n : Nat) {l : List D} {vs : List V}, j9 c μ H l vs → j9 c μ H (l.take n) (vs.take n)
 | 0, _, _, _ => rfl
 | _ + 1, [], _, h => by cases h; rfl
 | n + 1, _ :: _, _, h => by
   obtain ⟨v, r, rfl, q, u⟩ := h
   exact ⟨v, r.take n, rfl, q, j9.take n u⟩
theorem j9.drop : ∀ (n : Nat) {l : List D} {vs : List V}, j9 c μ H l vs → j9 c μ H (l.drop n) (vs.drop n)
 | 0, _, _, h => h
 | _ + 1, [], _, h => by cases h; rfl
 | n + 1, _ :: _, _, h => by
   obtain ⟨v, r, rfl, q, u⟩ := h
   exact j9.drop n u
theorem j9.set {d : D} {v : V} (hv : d8 c μ H d v) : ∀ (n : Nat) {l : List D} {vs : List V}, j9 c μ H l vs → j9 c μ H (l.set n d) (vs.set n v)
 | _, [], _, h => by cases h; rfl
 | 0, _ :: _, _, h => by
   obtain ⟨w, r, rfl, q, u⟩ := h
   exact ⟨v, r, rfl, hv, u⟩
 | n + 1, _ :: _, _, h => by
   obtain ⟨w, r, rfl, q, u⟩ := h
   exact ⟨w, r.set n v, rfl, q, j9.set hv n u⟩
theorem j9.reverse : ∀ {l : List D} {vs : List V}, j9 c μ H l vs → j9 c μ H l.reverse vs.reverse
 | [], _, h => by cases h; rfl
 | _ :: _, _, h => by
   obtain ⟨w, r, rfl, q, u⟩ := h
   simp only [List.reverse_cons]
   exact j9.append (j9.reverse u) ⟨w, [], rfl, q, rfl⟩
noncomputable def aC8 : Option DO → Prop
 | some (.rol _) => True
 | some (.rod _) => True
 | _ => False
def aB0 (c : Wc) (μ : List Addr) (H : Hp) (a : Addr) : DO → Prop
 | .lst l => ∃ vs, H a = some (.lst vs) ∧ j9 c μ H l vs
 | .rol l => ∃ vs, RoL c.K H a vs ∧ j9 c μ H l vs
 | .dct l => ∃ kvs, H a = some (.dK kvs) ∧ S5 c μ H l kvs
 | .rod l => ∃ kvs o, H a = some (.frz o (.dK kvs)) ∧ S5 c μ H l kvs
structure m6 (c : Wc) (μ : List Addr) (G : DH) (H : Hp) : Prop where
 len : μ.length = G.length
 inj : ∀ (i j : Nat) (a : Addr), μ[i]? = some a → μ[j]? = some a → i = j ∨ aC8 G[i]? ∨ aC8 G[j]?
 obj : ∀ (i : Nat) (o : DO) (a : Addr), G[i]? = some o → μ[i]? = some a → aB0 c μ H a o
variable {G : DH}
theorem lt_of_get {α : Type} {l : List α} {i : Nat} {x : α} (e : l[i]? = some x) : i < l.length := by
 rcases Nat.lt_or_ge i l.length with q | q
 · exact q
 · rw [List.getElem?_eq_none q] at e; exact m9 e
theorem m6.at (h : m6 c μ G H) {i : Nat} {o : DO} (e : G[i]? = some o) : ∃ a, μ[i]? = some a ∧ aB0 c μ H a o := by
 have q : i < μ.length := by rw [h.len]; exact lt_of_get e
 exact ⟨μ[i], List.getElem?_eq_getElem q, h.obj i o _ e (List.getElem?_eq_getElem q)⟩
theorem aB0.mono (x : Ext μ H μ' H') {a : Addr} {o : DO} (h : aB0 c μ H a o) (e : H' a = H a ∨ aC8 (some o)) : aB0 c μ' H' a o := by
 rcases o with l | l | l | l
 ·
   obtain ⟨vs, q, r⟩ := h
   rcases e with e | e
   · exact ⟨vs, e.trans q, r.mono x⟩
   · exact e.elim
 · obtain ⟨vs, q, r⟩ := h; exact ⟨vs, x.roL q, r.mono x⟩
 ·
   obtain ⟨vs, q, r⟩ := h
   rcases e with e | e
   · exact ⟨vs, e.trans q, r.mono x⟩
   · exact e.elim
 · obtain ⟨vs, o, q, r⟩ := h; exact ⟨vs, o, x.frz _ _ _ q, r.mono x⟩
theorem aB0.some_of {a : Addr} {o : DO} (h : aB0 c μ H a o) (n : ¬ aC8 (some o)) : ∃ u, H a = some u ∧ (∀ xs, u ≠ .tup xs) ∧ ∀ o' u', u ≠ .frz o' u' := by
 rcases o with l | l | l | l
 · obtain ⟨vs, q, _⟩ := h; exact ⟨_, q, (fun _ z => nomatch z), (fun _ _ z => nomatch z)⟩
 · exact (n trivial).elim
 · obtain ⟨vs, q, _⟩ := h; exact ⟨_, q, (fun _ z => nomatch z), (fun _ _ z => nomatch z)⟩
 · exact (n trivial).elim
theorem m6.same (h : m6 c μ G H) (k : Ext μ H μ H') (e : ∀ a o, H a = some o → (∀ xs, o ≠ .tup xs) → H' a = some o) : m6 c μ G H' :=
 ⟨h.len, h.inj, fun i o a g m => by
  have q := h.obj i o a g m
  by_cases hr : aC8 (some o)
  · exact q.mono k (.inr hr)
  · obtain ⟨u, e1, n1, n2⟩ := q.some_of hr
    exact q.mono k (.inl ((e a u e1 n1).trans e1.symm))⟩
theorem m6.new {p : Addr} {o : DO} {u : HO} (h : m6 c μ G H) (hp : H p = none) (ho : aB0 c (μ ++ [p]) (upd H p u) p o) : m6 c (μ ++ [p]) (G ++ [o]) (upd H p u) := by
 have k : Ext μ H (μ ++ [p]) (upd H p u) := Ext.add hp u
 have old : ∀ (i : Nat) (a : Addr), i < μ.length → (μ ++ [p])[i]? = some a → μ[i]? = some a := fun i a hi e => by
  rw [List.getElem?_append_left hi] at e; exact e
 refine ⟨by simp [h.len], fun i j a ei ej => ?_, fun i o' a g m => ?_⟩
 · have li := lt_of_get ei
   have lj := lt_of_get ej
   simp only [List.length_append, List.length_singleton] at li lj
   by_cases hi : i < μ.length
   · have mi := old i a hi ei
     have gi : (G ++ [o])[i]? = G[i]? := List.getElem?_append_left (by rw [← h.len]; exact hi)
     by_cases hj : j < μ.length
     · have mj := old j a hj ej
       have gj : (G ++ [o])[j]? = G[j]? := List.getElem?_append_left (by rw [← h.len]; exact hj)
       rw [gi, gj]
       exact h.inj i j a mi mj
     · -- j is the new one: a = p
       have ej' : j = μ.length := by lia
       subst ej'
       have ea : a = p := by simpa using ej.symm
       subst ea
       right; left
       rw [gi]
       have hg : i < G.length := by rw [← h.len]; exact hi
       have q := h.obj i G[i] a (List.getElem?_eq_getElem hg) mi
       rw [List.getElem?_eq_getElem hg]
       refine Classical.byContradiction fun n => ?_
       obtain ⟨u', e1, _⟩ := q.some_of n
       rw [hp] at e1; exact m9 e1
   · have ei' : i = μ.length := by lia
     by_cases hj : j < μ.length
     · have mj := old j a hj ej
       have gj : (G ++ [o])[j]? = G[j]? := List.getElem?_append_left (by rw [← h.len]; exact hj)
       subst ei'
       have ea : a = p := by simpa using ei.symm
       subst ea
       right; right
       rw [gj]
       have hg : j < G.length := by rw [← h.len]; exact hj
       have q := h.obj j G[j] a (List.getElem?_eq_getElem hg) mj
       rw [List.getElem?_eq_getElem hg]
       refine Classical.byContradiction fun n => ?_
       obtain ⟨u', e1, _⟩ := q.some_of n
       rw [hp] at e1; exact m9 e1
     · left; lia
 · have li := lt_of_get m
   simp only [List.length_append, List.length_singleton] at li
   by_cases hi : i < μ.length
   · have mi := old i a hi m
     rw [List.getElem?_append_left (by rw [← h.len]; exact hi)] at g
     have q := h.obj i o' a g mi
     by_cases hr : aC8 (some o')
     · exact q.mono k (.inr hr)
     · obtain ⟨u', e1, _⟩ := q.some_of hr
       exact q.mono k (.inl (m5 (o7 e1 hp)))
   · have ei' : i = μ.length := by lia
     subst ei'
     have ea : a = p := by simpa using m.symm
     subst ea
     rw [h.len] at g
     have eo : o' = o := by simpa using g.symm
     subst eo
     exact ho
theorem m6.set {i : Nat} {a : Addr} {o o' : DO} {u : HO} (h : m6 c μ G H) (g : G[i]? = some o) (n : ¬ aC8 (some o)) (m : μ[i]? = some a) (k : Ext μ H μ (upd H a u)) (n' : ¬ aC8 (some o')) (ho : aB0 c μ (upd H a u) a o') : m6 c μ (G.set i o') (upd H a u) := by
 have hi : i < G.length := lt_of_get g
 have get : ∀ j, (G.set i o')[j]? = if i = j then some o' else G[j]? := fun j => by
  rw [List.getElem?_set]
  by_cases e : i = j
  · subst e; simp [hi]
  · simp [e]
 refine ⟨by simp [h.len], fun j l b ej el => ?_, fun j o2 b gj mj => ?_⟩
 · rcases h.inj j l b ej el with e | e | e
   · exact .inl e
   · by_cases ij : i = j
     · subst ij; rw [g] at e; exact (n e).elim
     · right; left; rw [get, if_neg ij]; exact e
   · by_cases ij : i = l
     · subst ij; rw [g] at e; exact (n e).elim
     · right; right; rw [get, if_neg ij]; exact e
 · rw [get] at gj
   by_cases ij : i = j
   · subst ij
     rw [if_pos rfl] at gj
     cases gj
     rw [m] at mj
     cases mj
     exact ho
   · rw [if_neg ij] at gj
     have q := h.obj j o2 b gj mj
     by_cases hr : aC8 (some o2)
     · exact q.mono k (.inr hr)
     · have nb : b ≠ a := fun e => by
        subst e
        rcases h.inj i j b m mj with e | e | e
        · exact ij e
        · rw [g] at e; exact n e
        · rw [gj] at e; exact hr e
       exact q.mono k (.inl (m5 nb))
def u9 (c : Wc) (μ : List Addr) (H : Hp) (dσ : DSt) (σ : St) : Prop := dσ.length = σ.length ∧ ∀ (i : Nat) (d : D), dσ[i]? = some (some d) → ∃ v, σ[i]? = some (some v) ∧ d8 c μ H d v
theorem u9.mono (x : Ext μ H μ' H') {dσ : DSt} {σ : St} (h : u9 c μ H dσ σ) : u9 c μ' H' dσ σ :=
 ⟨h.1, fun i d e => let ⟨v, a, b⟩ := h.2 i d e; ⟨v, a, b.mono x⟩⟩
theorem u9.put {dσ : DSt} {σ : St} (h : u9 c μ H dσ σ) {d : D} {v : V} (r : d8 c μ H d v) (i : Nat) : u9 c μ H (dσ.set i (some d)) (σ.set i (some v)) := by
 refine ⟨by simp [h.1], fun j d' e => ?_⟩
 rw [List.getElem?_set] at e ⊢
 by_cases ij : i = j
 · subst ij
   rw [if_pos rfl] at e ⊢
   rw [← h.1]
   split at e
   · rename_i hl
     rw [if_pos hl]
     cases e
     exact ⟨v, rfl, r⟩
   · exact m9 e
 · rw [if_neg ij] at e ⊢
   exact h.2 j d' e
end
noncomputable def M (α : Type) := DH → Option (Except Str α × DH)
namespace M
noncomputable def pure {α : Type} (a : α) : M α := fun G => some (.ok a, G)
noncomputable def bind {α β : Type} (m : M α) (f : α → M β) : M β := fun G => match m G with
 | none => none
 | some (.ok a, G1) => f a G1
 | some (.error x, G1) => some (.error x, G1)
noncomputable def stuck {α : Type} : M α := fun _ => none
end M
noncomputable instance : Monad M := { pure := M.pure, bind := M.bind }
theorem M.bind_eq {α β : Type} (m : M α) (f : α → M β) (G : DH) : (m >>= f) G = match m G with
 | none => none
 | some (.ok a, G1) => f a G1
 | some (.error x, G1) => some (.error x, G1) := rfl
theorem M.bind_ok {α β : Type} {m : M α} {f : α → M β} {G G1 : DH} {a : α} (h : m G = some (.ok a, G1)) : (m >>= f) G = f a G1 := by rw [M.bind_eq, h]
theorem M.bind_assoc {α β γ : Type} (m : M α) (f : α → M β) (g : β → M γ) : ((m >>= f) >>= g) = (m >>= fun a => f a >>= g) := by
 funext G
 simp only [M.bind_eq]
 rcases m G with _ | p
 · rfl
 · obtain ⟨r, G1⟩ := p; cases r <;> rfl
noncomputable abbrev XC := Str → List Addr → DH → Hp → Prop
noncomputable def ZF : XC := fun _ _ _ _ => False
noncomputable def d7 {α : Type} (c : Wc) (Z : XC) (μ : List Addr) (H : Hp) (r : Option (Except Str α × DH)) (K : α → List Addr → DH → Hp → Prop) : Prop :=
 match r with
 | none => False
 | some (.ok a, G') => ∀ μ' H', Ext μ H μ' H' → m6 c μ' G' H' → K a μ' G' H'
 | some (.error x, G') => ∀ μ' H', Ext μ H μ' H' → m6 c μ' G' H' → Z x μ' G' H'
section
variable {α β : Type} {c : Wc} {Z : XC} {μ μ' : List Addr} {H H' : Hp}
theorem d7.mono {r : Option (Except Str α × DH)} {K K' : α → List Addr → DH → Hp → Prop} (h : d7 c Z μ H r K)
 (k : ∀ a μ' G' H', Ext μ H μ' H' → m6 c μ' G' H' → K a μ' G' H' → K' a μ' G' H') : d7 c Z μ H r K' := by
 match r, h with
 | some (.ok a, G'), h => exact fun μ' H' p e => k a μ' G' H' p e (h μ' H' p e)
 | some (.error x, G'), h => exact h
theorem d7.from {r : Option (Except Str α × DH)} {K : α → List Addr → DH → Hp → Prop} (h : d7 c Z μ H r K) (p : Ext μ H μ' H') : d7 c Z μ' H' r K := by
 match r, h with
 | some (.ok a, G'), h => exact fun μ2 H2 p2 e => h μ2 H2 (p.trans p2) e
 | some (.error x, G'), h => exact fun μ2 H2 p2 e => h μ2 H2 (p.trans p2) e
theorem d7.bind {m : M α} {f : α → M β} {G : DH} {K : β → List Addr → DH → Hp → Prop} (h : d7 c Z μ H ((m >>= f) G) K) :
 d7 c Z μ H (m G) (fun a μ' G' H' => d7 c Z μ' H' (f a G') K) := by
 rw [M.bind_eq] at h
 match m G, h with
 | some (.ok a, G'), h => exact fun μ' H' p e => d7.from h p
 | some (.error x, G'), h => exact h
theorem d7.ok {a : α} {G : DH} {K : α → List Addr → DH → Hp → Prop} (h : d7 c Z μ H (some (.ok a, G)) K) (e : m6 c μ G H) : K a μ G H := h μ H (Ext.refl _ _) e
end
inductive Fl where
 | nx (σ : DSt) | rt (d : D) | bk (σ : DSt) | ct (σ : DSt)
section
variable (c : Wc) (Z : XC)
def aF6 (f : DSt → M D) : TE := fun σ H Q => ∃ dσ μ G, u9 c μ H dσ σ ∧ m6 c μ G H ∧ d7 c Z μ H (f dσ G) fun d μ' _ H' => ∀ v, d8 c μ' H' d v → Q v H'
def aX7 (f : DSt → M Bool) : TT := fun σ H Q => ∃ dσ μ G, u9 c μ H dσ σ ∧ m6 c μ G H ∧ d7 c Z μ H (f dσ G) fun b μ' _ H' => Q b H'
def bN8 (f : DSt → M (List D)) : TA := fun σ H Q => ∃ dσ μ G, u9 c μ H dσ σ ∧ m6 c μ G H ∧ d7 c Z μ H (f dσ G) fun ds μ' _ H' => ∀ vs, j9 c μ' H' ds vs → Q vs H'
def aV2 (E : aW8) (fl : Fl) (μ : List Addr) (H : Hp) : Prop := match fl with
 | .nx dσ => ∀ σ, u9 c μ H dσ σ → E.nx σ H
 | .rt d => ∀ v, d8 c μ H d v → E.rt v H
 | .bk dσ => ∀ σ, u9 c μ H dσ σ → E.bk σ H
 | .ct dσ => ∀ σ, u9 c μ H dσ σ → E.ct σ H
def aW5 (f : DSt → M Fl) : TS := fun E σ H => ∃ dσ μ G, u9 c μ H dσ σ ∧ m6 c μ G H ∧ d7 c Z μ H (f dσ G) fun fl μ' _ H' => aV2 c E fl μ' H'
end
theorem aF6.elim {c : Wc} {Z : XC} {P : Prop} {f : DSt → M D} {σ : St} {H : Hp} {Q : VK} (h : aF6 c Z f σ H Q) (k : ∀ dσ μ G, u9 c μ H dσ σ → m6 c μ G H → d7 c Z μ H (f dσ G) (fun d μ' _ H' => ∀ v, d8 c μ' H' d v → Q v H') → P) : P := by
 obtain ⟨e0, e1, e2, e3, e4, e5⟩ := h
 exact k e0 e1 e2 e3 e4 e5
theorem aX7.elim {c : Wc} {Z : XC} {P : Prop} {f : DSt → M Bool} {σ : St} {H : Hp} {Q : Bool → Hp → Prop} (h : aX7 c Z f σ H Q) (k : ∀ dσ μ G, u9 c μ H dσ σ → m6 c μ G H → d7 c Z μ H (f dσ G) (fun b μ' _ H' => Q b H') → P) : P := by
 obtain ⟨e0, e1, e2, e3, e4, e5⟩ := h
 exact k e0 e1 e2 e3 e4 e5
theorem bN8.elim {c : Wc} {Z : XC} {P : Prop} {f : DSt → M (List D)} {σ : St} {H : Hp} {Q : List V → Hp → Prop} (h : bN8 c Z f σ H Q) (k : ∀ dσ μ G, u9 c μ H dσ σ → m6 c μ G H → d7 c Z μ H (f dσ G) (fun ds μ' _ H' => ∀ vs, j9 c μ' H' ds vs → Q vs H') → P) : P := by
 obtain ⟨e0, e1, e2, e3, e4, e5⟩ := h
 exact k e0 e1 e2 e3 e4 e5
theorem aW5.elim {c : Wc} {Z : XC} {P : Prop} {f : DSt → M Fl} {E : aW8} {σ : St} {H : Hp} (h : aW5 c Z f E σ H) (k : ∀ dσ μ G, u9 c μ H dσ σ → m6 c μ G H → d7 c Z μ H (f dσ G) (fun fl μ' _ H' => aV2 c E fl μ' H') → P) : P := by
 obtain ⟨e0, e1, e2, e3, e4, e5⟩ := h
 exact k e0 e1 e2 e3 e4 e5
structure DE (X : Cx) (Z : XC) (e : Expr) (f : DSt → M D) : Prop where
 h : PE X e (aF6 (wc X) Z f)
structure DT (X : Cx) (Z : XC) (e : Expr) (f : DSt → M Bool) : Prop where
 h : PT X e (aX7 (wc X) Z f)
structure DA (X : Cx) (Z : XC) (e : List Expr) (f : DSt → M (List D)) : Prop where
 h : PA X e (bN8 (wc X) Z f)
structure DS (X : Cx) (Z : XC) (e : Stmt) (f : DSt → M Fl) : Prop where
 h : PS X e (aW5 (wc X) Z f)
structure DB (X : Cx) (Z : XC) (e : List Stmt) (f : DSt → M Fl) : Prop where
 h : PSs X e (aW5 (wc X) Z f)
theorem PE.mono {X : Cx} {e : Expr} {t t' : TE} (h : PE X e t) (k : ∀ σ H Q, t' σ H Q → t σ H Q) : PE X e t' := fun pins s σ H Q I q => h pins s σ H Q I (k σ H Q q)
theorem PT.mono {X : Cx} {e : Expr} {t t' : TT} (h : PT X e t) (k : ∀ σ H Q, t' σ H Q → t σ H Q) : PT X e t' := fun pins s σ H Q I q => h pins s σ H Q I (k σ H Q q)
theorem PW.mono {X : Cx} {e : Expr} {t t' : TT} (h : PW X e t) (k : ∀ σ H Q, t' σ H Q → t σ H Q) : PW X e t' := fun wh pins s σ H Q I q => h wh pins s σ H Q I (k σ H Q q)
theorem PA.mono {X : Cx} {e : List Expr} {t t' : TA} (h : PA X e t) (k : ∀ σ H Q, t' σ H Q → t σ H Q) : PA X e t' := fun pos pins s σ H Q I q => h pos pins s σ H Q I (k σ H Q q)
theorem PS.mono {X : Cx} {e : Stmt} {t t' : TS} (h : PS X e t) (k : ∀ E σ H, t' E σ H → t E σ H) : PS X e t' := fun pins s σ H E I q => h pins s σ H E I (k E σ H q)
theorem PSs.mono {X : Cx} {e : List Stmt} {t t' : TS} (h : PSs X e t) (k : ∀ E σ H, t' E σ H → t E σ H) : PSs X e t' := fun pins s σ H E I q => h pins s σ H E I (k E σ H q)
theorem DE.of {X : Cx} {Z : XC} {e : Expr} {f : DSt → M D} {t : TE} (h : PE X e t) (k : ∀ σ H Q, aF6 (wc X) Z f σ H Q → t σ H Q) : DE X Z e f := ⟨PE.mono h k⟩
theorem DT.of {X : Cx} {Z : XC} {e : Expr} {f : DSt → M Bool} {t : TT} (h : PT X e t) (k : ∀ σ H Q, aX7 (wc X) Z f σ H Q → t σ H Q) : DT X Z e f := ⟨PT.mono h k⟩
theorem DA.of {X : Cx} {Z : XC} {e : List Expr} {f : DSt → M (List D)} {t : TA} (h : PA X e t) (k : ∀ σ H Q, bN8 (wc X) Z f σ H Q → t σ H Q) : DA X Z e f := ⟨PA.mono h k⟩
theorem DS.of {X : Cx} {Z : XC} {e : Stmt} {f : DSt → M Fl} {t : TS} (h : PS X e t) (k : ∀ E σ H, aW5 (wc X) Z f E σ H → t E σ H) : DS X Z e f := ⟨PS.mono h k⟩
theorem DB.of {X : Cx} {Z : XC} {e : List Stmt} {f : DSt → M Fl} {t : TS} (h : PSs X e t) (k : ∀ E σ H, aW5 (wc X) Z f E σ H → t E σ H) : DB X Z e f := ⟨PSs.mono h k⟩
end DL
namespace DL
open PySem PySem.Spec L2
open PyProof.Rows hiding St
noncomputable def N8 : Expr → Bool
 | .Starred .. => false
 | _ => true
theorem q14 {e : Expr} {es : List Expr} {env : Env} (h : N8 e = true) : starEach (e :: es) env = (false, eval e env) :: starEach es env := by
 cases e <;> first
  | rfl
  | exact bK8 h
theorem aN1 {e : Expr} {env : Env} (h : N8 e = true) : starEach [e] env = [(false, eval e env)] := q14 h
theorem cJ6 {a b : Expr} {env : Env} (h : N8 a = true) (h' : N8 b = true) : starEach [a, b] env = [(false, eval a env), (false, eval b env)] := by rw [q14 h, aN1 h']
abbrev Fe := DSt → M D
noncomputable def varE (i : Nat) : Fe := fun σ G => match σ[i]? with
 | some (some d) => some (.ok d, G)
 | _ => none
def cE (d : D) : Fe := fun _ => pure d
noncomputable def binE (o : D → D → M D) (a b : Fe) : Fe := fun σ => do o (← a σ) (← b σ)
noncomputable def unE (o : D → M D) (a : Fe) : Fe := fun σ => do o (← a σ)
def q11 : DSt → M (List D) := fun _ => pure []
def q10 (a : Fe) (r : DSt → M (List D)) : DSt → M (List D) := fun σ => do
 let x ← a σ
 let xs ← r σ
 pure (x :: xs)
noncomputable def q12 (F : List D → M D) (a : DSt → M (List D)) : Fe := fun σ => do F (← a σ)
def cU4 : D → M Bool
 | .bl b => pure b
 | _ => M.stuck
noncomputable def ifE (t : DSt → M Bool) (a b : Fe) : Fe := fun σ => do if ← t σ then a σ else b σ
section
variable (c : Wc) (Z : XC)
def aF8 (o : D → D → M D) : R2 := fun x y H Q => ∃ dx dy μ G, d8 c μ H dx x ∧ d8 c μ H dy y ∧ m6 c μ G H ∧ d7 c Z μ H (o dx dy G) fun d μ' _ H' => ∀ v, d8 c μ' H' d v → Q v H'
def bS9 (o : D → M D) : V → Hp → VK → Prop := fun x H Q => ∃ dx μ G, d8 c μ H dx x ∧ m6 c μ G H ∧ d7 c Z μ H (o dx G) fun d μ' _ H' => ∀ v, d8 c μ' H' d v → Q v H'
def aU8 (F : List D → M D) : List V → Hp → VK → Prop := fun xs H Q => ∃ ds μ G, j9 c μ H ds xs ∧ m6 c μ G H ∧ d7 c Z μ H (F ds G) fun d μ' _ H' => ∀ v, d8 c μ' H' d v → Q v H'
end
theorem aF8.elim {c : Wc} {Z : XC} {P : Prop} {o : D → D → M D} {x : V} {y : V} {H : Hp} {Q : VK} (h : aF8 c Z o x y H Q) (k : ∀ dx dy μ G, d8 c μ H dx x → d8 c μ H dy y → m6 c μ G H → d7 c Z μ H (o dx dy G) (fun d μ' _ H' => ∀ v, d8 c μ' H' d v → Q v H') → P) : P := by
 obtain ⟨e0, e1, e2, e3, e4, e5, e6, e7⟩ := h
 exact k e0 e1 e2 e3 e4 e5 e6 e7
theorem bS9.elim {c : Wc} {Z : XC} {P : Prop} {o : D → M D} {x : V} {H : Hp} {Q : VK} (h : bS9 c Z o x H Q) (k : ∀ dx μ G, d8 c μ H dx x → m6 c μ G H → d7 c Z μ H (o dx G) (fun d μ' _ H' => ∀ v, d8 c μ' H' d v → Q v H') → P) : P := by
 obtain ⟨e0, e1, e2, e3, e4, e5⟩ := h
 exact k e0 e1 e2 e3 e4 e5
theorem aU8.elim {c : Wc} {Z : XC} {P : Prop} {F : List D → M D} {xs : List V} {H : Hp} {Q : VK} (h : aU8 c Z F xs H Q) (k : ∀ ds μ G, j9 c μ H ds xs → m6 c μ G H → d7 c Z μ H (F ds G) (fun d μ' _ H' => ∀ v, d8 c μ' H' d v → Q v H') → P) : P := by
 obtain ⟨e0, e1, e2, e3, e4, e5⟩ := h
 exact k e0 e1 e2 e3 e4 e5
structure OpD (X : Cx) (Z : XC) (f : Value → Value → Sem Value) (o : D → D → M D) : Prop where
 h : OpR X f (aF8 (wc X) Z o)
structure UnD (X : Cx) (Z : XC) (f : Value → Sem Value) (o : D → M D) : Prop where
 h : UnR X f (bS9 (wc X) Z o)
structure V0 (X : Cx) (Z : XC) (f : Value) (F : List D → M D) : Prop where
 h : T5 X f (aU8 (wc X) Z F)
theorem OpR.mono {X : Cx} {f : Value → Value → Sem Value} {r r' : R2} (h : OpR X f r) (k : ∀ x y H Q, r' x y H Q → r x y H Q) : OpR X f r' := fun pins s σ H x y v u Q I rx ry q => h pins s σ H x y v u Q I rx ry (k x y H Q q)
theorem T5.mono {X : Cx} {f : Value} {r r' : List V → Hp → VK → Prop} (h : T5 X f r) (k : ∀ xs H Q, r' xs H Q → r xs H Q) : T5 X f r' := fun pins s σ H xs us Q I rx q => h pins s σ H xs us Q I rx (k xs H Q q)
theorem OpD.of {X : Cx} {Z : XC} {f : Value → Value → Sem Value} {o : D → D → M D} {r : R2} (h : OpR X f r) (k : ∀ x y H Q, aF8 (wc X) Z o x y H Q → r x y H Q) : OpD X Z f o := ⟨OpR.mono h k⟩
theorem V0.of {X : Cx} {Z : XC} {f : Value} {F : List D → M D} {r : List V → Hp → VK → Prop} (h : T5 X f r) (k : ∀ xs H Q, aU8 (wc X) Z F xs H Q → r xs H Q) : V0 X Z f F := ⟨T5.mono h k⟩
section
variable {X : Cx} {Z : XC} {a b c e : Expr} {es : List Expr} {fa fb fc : Fe} {pos : Pos}
theorem aN7 {cc : Wc} {o : D → D → M D} (σ : St) (H : Hp) (Q : VK) (h : aF6 cc Z (binE o fa fb) σ H Q) : tOp (aF8 cc Z o) (aF6 cc Z fa) (aF6 cc Z fb) σ H Q := by
 obtain ⟨dσ, μ, G, s, h, p⟩ := h
 exact ⟨dσ, μ, G, s, h, (d7.bind p).mono fun x μ1 G1 H1 x' h1 p1 v rv => ⟨dσ, μ1, G1, s.mono x', h1, (d7.bind p1).mono fun y μ2 G2 H2 x2 h2 p2 u ru => ⟨x, y, μ2, G2, rv.mono x2, ru, h2, p2⟩⟩⟩
theorem cY3 {i : Nat} (h : PE X e (dA6 i)) : DE X Z e (varE i) := DE.of h fun σ H Q hE0 => hE0.elim fun dσ μ G s h p => by
 delta varE at p
 rcases he : dσ[i]? with _ | _ | d
 · rw [he] at p; exact p.elim
 · rw [he] at p; exact p.elim
 · rw [he] at p
   obtain ⟨v, e1, r⟩ := s.2 i d he
   exact ⟨v, e1, d7.ok p h v r⟩
theorem cQ2 {d : D} {v : V} (h : PE X e (tC v)) (r : ∀ μ H, d8 (wc X) μ H d v) : DE X Z e (cE d) := DE.of h fun σ H Q hE0 => hE0.elim fun dσ μ G s h p => d7.ok p h v (r _ _)
theorem q17 {i j pos} : DE X Z (.Constant (.int i) j pos) (cE (.int i)) := cQ2 cL2 fun _ _ => by unfold d8; rfl
theorem de_bl {i j pos} : DE X Z (.Constant (.bool i) j pos) (cE (.bl i)) := cQ2 bZ0 fun _ _ => by unfold d8; rfl
theorem de_str {i j pos} : DE X Z (.Constant (.str i) j pos) (cE (.str i)) := cQ2 dA7 fun _ _ => by unfold d8; rfl
theorem de_v (i : Nat) {x : Str} {pos : Pos} (hN : X.N[i]? = some x) (hv : Vis X.env.scope x) (hd : (x == ("__debug__" : Str)) = false)
 (hcd : (x == ("__classdict__" : Str)) = false) : DE X Z (.Name x pos) (varE i) := cY3 (cH2 hN hv hd hcd)
theorem de_op {op : Operator} {o : D → D → M D} (ho : OpD X Z (binaryOp op) o) (ha : DE X Z a fa) (hb : DE X Z b fb) : DE X Z (.BinOp a op b pos) (binE o fa fb) :=
 DE.of (cG7 ho.h ha.h hb.h) aN7
theorem de_cmp {op : CmpOp} {o : D → D → M D} (ho : OpD X Z (compareOp op) o) (ha : DE X Z a fa) (hb : DE X Z b fb) (hm : behindInMarks op b = false) : DE X Z (.Compare a [op] [b] pos) (binE o fa fb) :=
 DE.of (cQ3 ho.h ha.h hb.h hm) aN7
theorem de_un {op : UnaryOp} {o : D → M D} (ho : UnD X Z (unaryOp op) o) (ha : DE X Z a fa) : DE X Z (.UnaryOp op a pos) (unE o fa) :=
 DE.of (dM7 ho.h ha.h) fun σ H Q hE0 => hE0.elim fun dσ μ G s h p => ⟨dσ, μ, G, s, h, (d7.bind p).mono fun x μ1 G1 H1 x' h1 p1 v rv => ⟨x, μ1, G1, rv, h1, p1⟩⟩
theorem cB7 {α : Type} {cc : Wc} {μ : List Addr} {H : Hp} {d : D} {f : Bool → M α} {G : DH} {K : α → List Addr → DH → Hp → Prop} (p : d7 cc Z μ H ((cU4 d >>= f) G) K) : ∃ k, d = .bl k ∧ d7 cc Z μ H (f k G) K := by
 cases d with
 | bl k => exact ⟨k, rfl, p⟩
 | _ => exact p.elim
theorem de_one {op} {f : Fe} (h : DE X Z a f) : DE X Z (.BoolOp op [a] pos) f := ⟨dG1 h.h⟩
def G5 (f : Fe) : DSt → M Bool := fun σ => do cU4 (← f σ)
def bI4 (a b : DSt → M Bool) : DSt → M Bool := fun σ => do if ← a σ then b σ else pure false
def orT (a b : DSt → M Bool) : DSt → M Bool := fun σ => do if ← a σ then pure true else b σ
def bF3 (a : DSt → M Bool) : DSt → M Bool := fun σ => do pure (!(← a σ))
structure DW (X : Cx) (Z : XC) (e : Expr) (f : DSt → M Bool) : Prop where
 h : PW X e (aX7 (wc X) Z f)
theorem DW.of {X : Cx} {Z : XC} {e : Expr} {f : DSt → M Bool} {t : TT} (h : PW X e t) (k : ∀ σ H Q, aX7 (wc X) Z f σ H Q → t σ H Q) : DW X Z e f := ⟨PW.mono h k⟩
variable {ta tb : DSt → M Bool} {t8 : List Expr}
theorem DW.dt (h : DW X Z a ta) : DT X Z a ta := ⟨fun pins s σ H Q I q => h.h _ pins s σ H Q I q⟩
theorem dt_cmp {op : CmpOp} {o : D → D → M D} (ho : OpD X Z (compareOp op) o) (ha : DE X Z a fa) (hb : DE X Z b fb) (hm : behindInMarks op b = false) : DT X Z (.Compare a [op] [b] pos) (G5 (binE o fa fb)) :=
 DT.of (cT7 ho.h ha.h hb.h hm) fun σ H Q hE0 => hE0.elim fun dσ μ G s h p => aN7 σ H _ ⟨dσ, μ, G, s, h, (d7.bind p).mono fun x μ1 G1 H1 x' h1 p1 v rv => by
  cases x with
  | bl k' => unfold d8 at rv; exact ⟨k', rv, d7.ok p1 h1⟩
  | _ => exact p1.elim⟩
theorem dw_and1 (ha : DT X Z a ta) : DW X Z (.BoolOp .And [a] pos) ta := ⟨cQ9 ha.h⟩
theorem dw_or1 (ha : DT X Z a ta) : DW X Z (.BoolOp .Or [a] pos) ta := ⟨dD0 ha.h⟩
theorem dw_and (ha : DT X Z a ta) (hb : DW X Z (.BoolOp .And (b :: t8) pos) tb) : DW X Z (.BoolOp .And (a :: b :: t8) pos) (bI4 ta tb) :=
 DW.of (dC3 ha.h hb.h) fun σ H Q hE0 => hE0.elim fun dσ μ G s h p => ⟨dσ, μ, G, s, h, (d7.bind p).mono fun x μ1 G1 H1 x' h1 p1 => by
  cases x with
  | true => exact ⟨dσ, μ1, G1, s.mono x', h1, p1⟩
  | false => exact d7.ok p1 h1⟩
theorem dw_or (ha : DT X Z a ta) (hb : DW X Z (.BoolOp .Or (b :: t8) pos) tb) : DW X Z (.BoolOp .Or (a :: b :: t8) pos) (orT ta tb) :=
 DW.of (dL5 ha.h hb.h) fun σ H Q hE0 => hE0.elim fun dσ μ G s h p => ⟨dσ, μ, G, s, h, (d7.bind p).mono fun x μ1 G1 H1 x' h1 p1 => by
  cases x with
  | false => exact ⟨dσ, μ1, G1, s.mono x', h1, p1⟩
  | true => exact d7.ok p1 h1⟩
theorem dt_not (ha : DT X Z a ta) : DT X Z (.UnaryOp .Not a pos) (bF3 ta) :=
 DT.of (dD3 ha.h) fun σ H Q hE0 => hE0.elim fun dσ μ G s h p => ⟨dσ, μ, G, s, h, (d7.bind p).mono fun x μ1 G1 H1 x' h1 p1 => d7.ok p1 h1⟩
theorem de_if (hc : DT X Z c ta) (ha : DE X Z a fa) (hb : DE X Z b fb) : DE X Z (.IfExp c a b pos) (ifE ta fa fb) :=
 DE.of (cI3 hc.h ha.h hb.h) fun σ H Q hE0 => hE0.elim fun dσ μ G s h p => ⟨dσ, μ, G, s, h, (d7.bind p).mono fun x μ1 G1 H1 x' h1 p1 => by
  cases x with
  | true => exact ⟨dσ, μ1, G1, s.mono x', h1, p1⟩
  | false => exact ⟨dσ, μ1, G1, s.mono x', h1, p1⟩⟩
variable {fs : DSt → M (List D)}
theorem q16 : DA X Z [] q11 := DA.of dB5 fun σ H Q hE0 => hE0.elim fun dσ μ G s h p => d7.ok p h [] rfl
theorem q15 (ha : DE X Z e fa) (hr : DA X Z es fs) (hs : starEach (e :: es) X.env = (false, eval e X.env) :: starEach es X.env) : DA X Z (e :: es) (q10 fa fs) :=
 DA.of (cP5 ha.h hr.h hs) fun σ H Q hE0 => hE0.elim fun dσ μ G s h p => ⟨dσ, μ, G, s, h, (d7.bind p).mono fun x μ1 G1 H1 x' h1 p1 v rv =>
  ⟨dσ, μ1, G1, s.mono x', h1, (d7.bind p1).mono fun xs μ2 G2 H2 x2 h2 p2 vs rvs => d7.ok p2 h2 (v :: vs) ⟨v, vs, rfl, rv.mono x2, rvs⟩⟩⟩
def tupE (fs : DSt → M (List D)) : Fe := fun σ => do
 let xs ← fs σ
 if xs.length ≤ sizeLine then pure (.tup xs) else M.stuck
noncomputable def K7 (o : DO) : M D := fun G => some (.ok (.ref G.length), G ++ [o])
def aA3 (fs : DSt → M (List D)) : Fe := fun σ => do
 let xs ← fs σ
 if xs.length ≤ sizeLine then K7 (.lst xs) else M.stuck
theorem aO2 {cc : Wc} {μ : List Addr} {H : Hp} {G : DH} {xs : List D} {vs : List V} {Q : VK} (h : m6 cc μ G H) (r : j9 cc μ H xs vs)
 (p : d7 cc Z μ H (some (Except.ok (.tup xs), G)) fun d μ' _ H' => ∀ v, d8 cc μ' H' d v → Q v H') (q : Addr) (hq : H q = none) : Q (.ref q) (upd H q (.tup vs)) := by
 have k : Ext μ H μ (upd H q (.tup vs)) := Ext.lay hq _
 refine p μ _ k (h.same k fun a o e n => ?_) _ ?_
 · rw [m5 (o7 e hq)]; exact e
 · unfold d8
   exact ⟨q, vs, rfl, SqT.of v8, r.mono k⟩
theorem aD1 {cc : Wc} {μ : List Addr} {H : Hp} {G : DH} {xs : List D} {vs : List V} {Q : VK} (h : m6 cc μ G H) (r : j9 cc μ H xs vs)
 (p : d7 cc Z μ H (K7 (.lst xs) G) fun d μ' _ H' => ∀ v, d8 cc μ' H' d v → Q v H') (q : Addr) (hq : H q = none) : Q (.ref q) (upd H q (.lst vs)) := by
 have k : Ext μ H (μ ++ [q]) (upd H q (.lst vs)) := Ext.add hq _
 refine p (μ ++ [q]) _ k (h.new hq ⟨vs, v8, r.mono k⟩) _ ?_
 unfold d8
 exact ⟨q, by rw [← h.len]; simp, rfl⟩
theorem de_tup {x1} (h : DA X Z es fs) : DE X Z (.Tuple es x1 pos) (tupE fs) :=
 DE.of (dB6 h.h) fun σ H Q hE0 => hE0.elim fun dσ μ G s h p => ⟨dσ, μ, G, s, h, (d7.bind p).mono fun xs μ1 G1 H1 x' h1 p1 vs rv => by
  split at p1
  · rename_i hz
    exact ⟨by rw [← rv.length]; exact hz, fun q hq => aO2 h1 rv p1 q hq⟩
  · exact p1.elim⟩
theorem de_lst (h : DA X Z es fs) : DE X Z (.List es pos) (aA3 fs) :=
 DE.of (cZ9 h.h) fun σ H Q hE0 => hE0.elim fun dσ μ G s h p => ⟨dσ, μ, G, s, h, (d7.bind p).mono fun xs μ1 G1 H1 x' h1 p1 vs rv => by
  split at p1
  · rename_i hz
    exact ⟨by rw [← rv.length]; exact hz, fun q hq => aD1 h1 rv p1 q hq⟩
  · exact p1.elim⟩
theorem bB2 {cc : Wc} {F : List D → M D} (σ : St) (H : Hp) (Q : VK) (h : aF6 cc Z (q12 F fs) σ H Q) : tCB (aU8 cc Z F) (bN8 cc Z fs) σ H Q := by
 obtain ⟨dσ, μ, G, s, h, p⟩ := h
 exact ⟨dσ, μ, G, s, h, (d7.bind p).mono fun x μ1 G1 H1 x' h1 p1 vs rv => ⟨x, μ1, G1, rv, h1, p1⟩⟩
theorem cK5 {F : List D → M D} {id : String} {x : Str} {p : Pos} (hc : V0 X Z (.builtin id) F) (hg : Gl X x) (hm : X.mg x = none) (hv : bootBuiltins x = some (.builtin id)) (ha : DA X Z (e :: es) fs) (hn : x ≠ "__name__") (hdb : (x == ("__debug__" : Str)) = false)
 (he : starEach (e :: es) X.env = (false, eval e X.env) :: starEach es X.env) (hpl : (backTo pos (starEach es X.env)).any (·.1) = false) : DE X Z (.Call (.Name x p) (e :: es) [] pos) (q12 F fs) :=
 DE.of (cK9 hc.h hg hm hv ha.h hn hdb he hpl) bB2
theorem bZ6 {F : List D → M D} {T : String} {x : Str} {p : Pos} (hc : V0 X Z (.type T) F) (hg : Gl X x) (hm : X.mg x = none) (hv : bootBuiltins x = some (.type T)) (ha : DA X Z (e :: es) fs) (hn : x ≠ "__name__") (hdb : (x == ("__debug__" : Str)) = false)
 (he : starEach (e :: es) X.env = (false, eval e X.env) :: starEach es X.env) (hpl : (backTo pos (starEach es X.env)).any (·.1) = false) : DE X Z (.Call (.Name x p) (e :: es) [] pos) (q12 F fs) :=
 DE.of (cC9 hc.h hg hm hv ha.h hn hdb he hpl) bB2
def spD (c : Wc) (n : Nat) (F : List D → M D) : Sp := fun vs H Q _ => vs.length = n ∧ ∃ ds μ G, j9 c μ H ds vs ∧ m6 c μ G H ∧ d7 c ZF μ H (F ds G) fun d μ' _ H' => ∀ v, d8 c μ' H' d v → Q v H'
noncomputable def noX {α : Type} (m : M α) : M α := fun G => match m G with
 | some (.ok a, G1) => some (.ok a, G1)
 | _ => none
theorem bO6 {α : Type} {cc : Wc} {μ : List Addr} {H : Hp} {m : M α} {G : DH} {K : α → List Addr → DH → Hp → Prop} (p : d7 cc Z μ H (noX m G) K) : d7 cc ZF μ H (m G) K := by
 unfold noX at p
 match m G, p with
 | some (.ok a, G1), p => exact p
 | some (.error x, G1), p => exact p.elim
 | none, p => exact p.elim
def fnX (n : Nat) (F : List D → M D) : List D → M D := fun ds => if ds.length = n then noX (F ds) else M.stuck
theorem bO9 {cc : Wc} {μ : List Addr} {H : Hp} {n : Nat} {F : List D → M D} {ds : List D} {G : DH} {K : D → List Addr → DH → Hp → Prop} (p : d7 cc Z μ H (fnX n F ds G) K) : ds.length = n ∧ d7 cc ZF μ H (F ds G) K := by
 unfold fnX at p
 split at p
 · rename_i h; exact ⟨h, bO6 p⟩
 · exact p.elim
theorem cS4 {F : List D → M D} {k n : Nat} {f : Addr} {fd : FuncData} {ps : List Str} {x : Str} {p : Pos} (hF : v6 X.prog X.w X.K X.mg X.base CX0 k f fd ps (spD (wc X) n F)) (hr : V2 k X.A) (hg : Gl X x) (hm : X.mg x = some (.ref f)) (hk : PySem.W.keepIn X.K (.ref f) = true) (hb : aS0 X.K fd ps [])
 (ha : DA X Z (e :: es) fs)
 (hdb : (x == ("__debug__" : Str)) = false) (he : starEach (e :: es) X.env = (false, eval e X.env) :: starEach es X.env) (hpl : (backTo pos (starEach es X.env)).any (·.1) = false) :
 DE X Z (.Call (.Name x p) (e :: es) [] pos) (q12 (fnX n F) fs) :=
 DE.of (cP2 hF hr hg hm hk hb .nil cW0 ha.h hdb he hpl) fun σ H Q hE0 => hE0.elim fun dσ μ G s h p => by
  refine ⟨dσ, μ, G, s, h, (d7.bind p).mono fun ds' μ1 G1 H1 x' h1 p1 vs rv => ?_⟩
  obtain ⟨hl, p2⟩ := bO9 p1
  show spD (wc X) n F (vs ++ []) H1 Q E0
  rw [List.append_nil]
  exact ⟨by rw [← rv.length]; exact hl, ds', μ1, G1, rv, h1, p2⟩
end
abbrev Fs := DSt → M Fl
def nextS : Fs := fun σ => pure (.nx σ)
def seqS (a b : Fs) : Fs := fun σ => do
 match ← a σ with
 | .nx σ' => b σ'
 | r => pure r
def retS (f : Fe) : Fs := fun σ => do pure (.rt (← f σ))
def bU6 (f : Fe) : Fs := fun σ => do
 let _ ← f σ
 pure (.nx σ)
noncomputable def ifS (t : DSt → M Bool) (a b : Fs) : Fs := fun σ => do if ← t σ then a σ else b σ
abbrev Fg := D → DSt → M DSt
abbrev Fgs := List D → DSt → M DSt
def q13 (i : Nat) : Fg := fun d σ => pure (σ.set i (some d))
def bO2 : Fgs := fun ds σ => match ds with
 | [] => pure σ
 | _ => M.stuck
def Z9 (g : Fg) (r : Fgs) : Fgs := fun ds σ => match ds with
 | d :: t => do r t (← g d σ)
 | [] => M.stuck
def bN1 (n : Nat) (g : Fgs) : Fg := fun d σ => match d with
 | .tup l => if l.length = n then g l σ else M.stuck
 | _ => M.stuck
def J0 (f : Fe) (g : Fg) : Fs := fun σ => do
 let d ← f σ
 let σ' ← g d σ
 pure (.nx σ')
section
variable (c : Wc) (Z : XC)
def bZ4 (g : Fg) : TG := fun v σ H Q => ∃ d dσ μ G, d8 c μ H d v ∧ u9 c μ H dσ σ ∧ m6 c μ G H ∧ d7 c Z μ H (g d dσ G) fun dσ' μ' _ H' => ∀ σ', u9 c μ' H' dσ' σ' → Q σ' H'
def bH0 (g : Fgs) : TGs := fun vs σ H Q => ∃ ds dσ μ G, j9 c μ H ds vs ∧ u9 c μ H dσ σ ∧ m6 c μ G H ∧ d7 c Z μ H (g ds dσ G) fun dσ' μ' _ H' => ∀ σ', u9 c μ' H' dσ' σ' → Q σ' H'
end
theorem bZ4.elim {c : Wc} {Z : XC} {P : Prop} {g : Fg} {v : V} {σ : St} {H : Hp} {Q : St → Hp → Prop} (h : bZ4 c Z g v σ H Q) (k : ∀ d dσ μ G, d8 c μ H d v → u9 c μ H dσ σ → m6 c μ G H → d7 c Z μ H (g d dσ G) (fun dσ' μ' _ H' => ∀ σ', u9 c μ' H' dσ' σ' → Q σ' H') → P) : P := by
 obtain ⟨e0, e1, e2, e3, e4, e5, e6, e7⟩ := h
 exact k e0 e1 e2 e3 e4 e5 e6 e7
theorem bH0.elim {c : Wc} {Z : XC} {P : Prop} {g : Fgs} {vs : List V} {σ : St} {H : Hp} {Q : St → Hp → Prop} (h : bH0 c Z g vs σ H Q) (k : ∀ ds dσ μ G, j9 c μ H ds vs → u9 c μ H dσ σ → m6 c μ G H → d7 c Z μ H (g ds dσ G) (fun dσ' μ' _ H' => ∀ σ', u9 c μ' H' dσ' σ' → Q σ' H') → P) : P := by
 obtain ⟨e0, e1, e2, e3, e4, e5, e6, e7⟩ := h
 exact k e0 e1 e2 e3 e4 e5 e6 e7
structure DG (X : Cx) (Z : XC) (tg : Expr) (g : Fg) : Prop where
 h : PG X tg (bZ4 (wc X) Z g)
structure DGs (X : Cx) (Z : XC) (tgs : List Expr) (g : Fgs) : Prop where
 h : PGs X tgs (bH0 (wc X) Z g)
theorem PG.mono {X : Cx} {e : Expr} {t t' : TG} (h : PG X e t) (k : ∀ v σ H Q, t' v σ H Q → t v σ H Q) : PG X e t' := fun pins s σ H v u Q I r q => h pins s σ H v u Q I r (k v σ H Q q)
theorem PGs.mono {X : Cx} {e : List Expr} {t t' : TGs} (h : PGs X e t) (k : ∀ v σ H Q, t' v σ H Q → t v σ H Q) : PGs X e t' := fun pins s σ H v u Q I r q => h pins s σ H v u Q I r (k v σ H Q q)
theorem DG.of {X : Cx} {Z : XC} {e : Expr} {g : Fg} {t : TG} (h : PG X e t) (k : ∀ v σ H Q, bZ4 (wc X) Z g v σ H Q → t v σ H Q) : DG X Z e g := ⟨PG.mono h k⟩
theorem DGs.of {X : Cx} {Z : XC} {e : List Expr} {g : Fgs} {t : TGs} (h : PGs X e t) (k : ∀ v σ H Q, bH0 (wc X) Z g v σ H Q → t v σ H Q) : DGs X Z e g := ⟨PGs.mono h k⟩
section
variable {X : Cx} {Z : XC} {a b c e tg : Expr} {es : List Expr} {fa fb : Fe} {pos : Pos} {st : Stmt} {t8 sa sb : List Stmt} {f g : Fs}
theorem db_nil : DB X Z [] nextS := DB.of cR2 fun E σ H hE0 => hE0.elim fun dσ μ G s h p => d7.ok p h σ s
theorem cR6 {cc : Wc} {E : aW8} {μ : List Addr} {G : DH} {H : Hp} {fl : Fl} (h : m6 cc μ G H)
 (p : d7 cc Z μ H ((match fl with | .nx σ' => g σ' | r => pure r : M Fl) G) fun fl μ' _ H' => aV2 cc E fl μ' H') : aV2 cc { E with nx := aW5 cc Z g E } fl μ H := by
 cases fl with
 | nx dσ => exact fun σ s => ⟨dσ, μ, G, s, h, p⟩
 | rt d => exact d7.ok p h
 | bk dσ => exact d7.ok p h
 | ct dσ => exact d7.ok p h
theorem db_cons (h1 : DS X Z st f) (h2 : DB X Z t8 g) : DB X Z (st :: t8) (seqS f g) :=
 DB.of (cM0 h1.h h2.h) fun E σ H hE0 => hE0.elim fun dσ μ G s h p => ⟨dσ, μ, G, s, h, (d7.bind p).mono fun fl μ1 G1 H1 x' h1 p1 => cR6 h1 p1⟩
theorem db_one (h1 : DS X Z st f) : DB X Z [st] f := ⟨cR9 h1.h⟩
theorem ds_expr (he : DE X Z e fa) (hs : swapsWith e none pos.line X.env = pure false) : DS X Z (.Expr e pos) (bU6 fa) :=
 DS.of (cU9 he.h hs) fun E σ H hE0 => hE0.elim fun dσ μ G s h p => ⟨dσ, μ, G, s, h, (d7.bind p).mono fun d μ1 G1 H1 x' h1 p1 v rv => d7.ok p1 h1 σ (s.mono x')⟩
theorem ds_ret (he : DE X Z e fa) : DS X Z (.Return (some e) pos) (retS fa) :=
 DS.of (dG4 he.h) fun E σ H hE0 => hE0.elim fun dσ μ G s h p => ⟨dσ, μ, G, s, h, (d7.bind p).mono fun d μ1 G1 H1 x' h1 p1 v rv => d7.ok p1 h1 v rv⟩
theorem ds_if {t : DSt → M Bool} (hc : DT X Z c t) (ha : DB X Z sa f) (hb : DB X Z sb g) : DS X Z (.If c sa sb pos) (ifS t f g) :=
 DS.of (dM3 hc.h ha.h hb.h) fun E σ H hE0 => hE0.elim fun dσ μ G s h p => ⟨dσ, μ, G, s, h, (d7.bind p).mono fun x μ1 G1 H1 x' h1 p1 => by
  cases x with
  | true => exact ⟨dσ, μ1, G1, s.mono x', h1, p1⟩
  | false => exact ⟨dσ, μ1, G1, s.mono x', h1, p1⟩⟩
theorem dg_name {i : Nat} {x : Str} (hN : X.N.Nodup) (hi : X.N[i]? = some x) (hx : Loc X.env.scope x) (hf : X.fn x = true ∨ X.env.scope.names.lookup x = some .local) : DG X Z (.Name x pos) (q13 i) :=
 DG.of (cP0 hN hi hx hf) fun v σ H Q hE0 => hE0.elim fun d dσ μ G r s h p => d7.ok p h _ (s.put r i)
theorem dgs_nil : DGs X Z [] bO2 := DGs.of cR4 fun vs σ H Q hE0 => hE0.elim fun ds dσ μ G r s h p => by
 cases ds with
 | nil => cases r; exact ⟨rfl, d7.ok p h _ s⟩
 | cons _ _ => exact p.elim
theorem dgs_cons {gg : Fg} {gr : Fgs} (h1 : DG X Z e gg) (h2 : DGs X Z es gr) (hs : (assignEach (e :: es) X.env).map (·.2) = assign e X.env :: (assignEach es X.env).map (·.2)) : DGs X Z (e :: es) (Z9 gg gr) :=
 DGs.of (cE8 h1.h h2.h hs) fun vs σ H Q hE0 => hE0.elim fun ds dσ μ G r s h p => by
  cases ds with
  | nil => exact p.elim
  | cons d t =>
    obtain ⟨v, vr, rfl, rv, rt⟩ := r
    exact ⟨v, vr, rfl, d, dσ, μ, G, rv, s, h, (d7.bind p).mono fun dσ1 μ1 G1 H1 x' h1 p1 σ1 s1 => ⟨t, dσ1, μ1, G1, rt.mono x', s1, h1, p1⟩⟩
theorem dg_tup {gs : Fgs} {k n : Nat} (hc : X.calm = true) (h : DGs X Z es gs) (hn : (assignEach es X.env).length = n) (hst : (assignEach es X.env).findIdx? (·.1) = none) : DG X Z (.Tuple es k pos) (bN1 n gs) :=
 DG.of (dB3 hc h.h hn hst) fun v σ H Q hE0 => hE0.elim fun d dσ μ G r s h p => by
  cases d with
  | tup l =>
    unfold d8 at r
    obtain ⟨a, vs, rfl, q, rl⟩ := r
    have p' : d7 (wc X) Z μ H ((if l.length = n then gs l dσ else M.stuck : M DSt) G) fun dσ' μ' _ H' => ∀ σ', u9 (wc X) μ' H' dσ' σ' → Q σ' H' := p
    split at p'
    · rename_i hl
      exact ⟨a, vs, rfl, q, by rw [← rl.length]; exact hl, l, dσ, μ, G, rl, s, h, p'⟩
    · exact p'.elim
  | _ => exact p.elim
theorem ds_asg {gg : Fg} (he : DE X Z e fa) (hg : DG X Z tg gg) (hs : swapsWithSole [tg] e pos.line X.env = pure false) (hw : swappedStores [tg] e X.env = pure none)
 (h1 : (assignEach [tg] X.env).map (·.2) = [assign tg X.env]) : DS X Z (.Assign [tg] e pos) (J0 fa gg) :=
 DS.of (dF4 he.h hg.h hs hw h1) fun E σ H hE0 => hE0.elim fun dσ μ G s h p => ⟨dσ, μ, G, s, h, (d7.bind p).mono fun d μ1 G1 H1 x' h1 p1 v rv =>
  ⟨d, dσ, μ1, G1, rv, s.mono x', h1, (d7.bind p1).mono fun dσ2 μ2 G2 H2 x2 h2 p2 σ2 s2 => d7.ok p2 h2 σ2 s2⟩⟩
end
def K8 : Nat → (DSt → M Bool) → Fs → Fs
 | 0, _, _ => fun _ => M.stuck
 | n + 1, t, b => fun σ => do
   if ← t σ then
    match ← b σ with
    | .nx σ' => K8 n t b σ'
    | .ct σ' => K8 n t b σ'
    | .bk σ' => pure (.nx σ')
    | .rt d => pure (.rt d)
   else pure (.nx σ)
open Classical in
def aG4 (t : DSt → M Bool) (b : Fs) : Fs := fun σ G => if h : ∃ n, (K8 n t b σ G).isSome = true then K8 (Classical.choose h) t b σ G else none
theorem M.bind_mono {α β : Type} {m : M α} {f g : α → M β} {G : DH} {r : Except Str β × DH} (h : (m >>= f) G = some r) (k : ∀ a G', f a G' = some r → g a G' = some r) : (m >>= g) G = some r := by
 rw [M.bind_eq] at h ⊢
 match m G, h with
 | some (.ok a, G'), h => exact k a G' h
 | some (.error x, G'), h => exact h
theorem aH5 {t : DSt → M Bool} {b : Fs} : ∀ {n : Nat} {σ : DSt} {G : DH} {r : Except Str Fl × DH}, K8 n t b σ G = some r → K8 (n + 1) t b σ G = some r
 | 0, _, _, _, h => by exact m9 h
 | n + 1, σ, G, r, h => by
   unfold K8 at h ⊢
   refine M.bind_mono h fun c G1 h1 => ?_
   cases c with
   | true =>
     refine M.bind_mono h1 fun fl G2 h2 => ?_
     cases fl with
     | nx σ' => exact aH5 h2
     | ct σ' => exact aH5 h2
     | bk σ' => exact h2
     | rt d => exact h2
   | false => exact h1
theorem bE9 {t : DSt → M Bool} {b : Fs} {n m : Nat} (hm : n ≤ m) {σ : DSt} {G : DH} {r : Except Str Fl × DH} (h : K8 n t b σ G = some r) : K8 m t b σ G = some r := by
 induction hm with
 | refl => exact h
 | step _ ih => exact aH5 ih
section
variable {X : Cx} {Z : XC} {c : Expr} {pos : Pos} {body : List Stmt} {t : DSt → M Bool} {f : Fs}
theorem ds_while (hp : PassesOwn (model X.prog X.w) X.A X.env X.xe) (hc : DT X Z c t) (hb : DB X Z body f) : DS X Z (.While c body [] pos) (aG4 t f) :=
 DS.of (cN8 hp hc.h hb.h) fun E σ H hE0 => hE0.elim fun dσ μ G s h p => by
  unfold aG4 at p
  split at p
  · rename_i ex
    refine ⟨fun m σ H => ∃ dσ μ G, u9 (wc X) μ H dσ σ ∧ m6 (wc X) μ G H ∧ d7 (wc X) Z μ H (K8 m t f dσ G) fun fl μ' _ H' => aV2 (wc X) E fl μ' H', ⟨_, dσ, μ, G, s, h, p⟩, ?_⟩
    rintro m σ H ⟨dσ, μ, G, s, h, p⟩
    cases m with
    | zero => exact p.elim
    | succ m =>
      refine ⟨dσ, μ, G, s, h, (d7.bind p).mono fun x μ1 G1 H1 x' h1 p1 => ?_⟩
      cases x with
      | false => exact d7.ok p1 h1 σ (s.mono x')
      | true =>
        refine ⟨fun σ' H' => ∃ dσ μ G, u9 (wc X) μ H' dσ σ' ∧ m6 (wc X) μ G H' ∧ d7 (wc X) Z μ H' (K8 m t f dσ G) fun fl μ' _ H' => aV2 (wc X) E fl μ' H', fun σ' H' w => ⟨m, Nat.lt_succ_self _, w⟩, dσ, μ1, G1, s.mono x', h1, (d7.bind p1).mono fun fl μ2 G2 H2 x2 h2 p2 => ?_⟩
        cases fl with
        | nx dσ' => exact fun σ' s' => ⟨dσ', μ2, G2, s', h2, p2⟩
        | ct dσ' => exact fun σ' s' => ⟨dσ', μ2, G2, s', h2, p2⟩
        | bk dσ' => exact fun σ' s' => d7.ok p2 h2 σ' s'
        | rt d => exact fun v r => d7.ok p2 h2 v r
  · exact p.elim
end
def aB8 (g : Fg) (b : Fs) (ck : DH → Bool) : List D → Fs
 | [] => fun σ G => if ck G then some (.ok (.nx σ), G) else none
 | d :: r => fun σ G => if ck G then (do
    match ← b (← g d σ) with
    | .nx σ' => aB8 g b ck r σ'
    | .ct σ' => aB8 g b ck r σ'
    | .bk σ' => pure (.nx σ')
    | .rt d => pure (.rt d) : M Fl) G else none
structure Src where
 items : List D
 ck : DH → Bool
def aR2 (it : DSt → M Src) (g : Fg) (b : Fs) : Fs := fun σ => do
 let s ← it σ
 aB8 g b s.ck s.items σ
def ItD (c : Wc) (μ : List Addr) (H : Hp) (J : It) (s : Src) : Prop := ∀ μ' G' H', Ext μ H μ' H' → m6 c μ' G' H' → s.ck G' = true → ∀ i : Nat,
 (∀ d, s.items[i]? = some d → J.go i H' ∧ ∀ x H2, J.yld i H' x H2 → Ext μ' H' μ' H2 ∧ m6 c μ' G' H2 ∧ d8 c μ' H2 d x) ∧ (s.items.length ≤ i → J.stop i H')
def bW3 (c : Wc) (Z : XC) (it : DSt → M Src) : TI := fun σ H R => ∃ dσ μ G, u9 c μ H dσ σ ∧ m6 c μ G H ∧ d7 c Z μ H (it dσ G) fun s μ' _ H' => ∀ J, ItD c μ' H' J s → R J H'
theorem bW3.elim {c : Wc} {Z : XC} {P : Prop} {it : DSt → M Src} {σ : St} {H : Hp} {R : It → Hp → Prop} (h : bW3 c Z it σ H R) (k : ∀ dσ μ G, u9 c μ H dσ σ → m6 c μ G H → d7 c Z μ H (it dσ G) (fun s μ' _ H' => ∀ J, ItD c μ' H' J s → R J H') → P) : P := by
 obtain ⟨e0, e1, e2, e3, e4, e5⟩ := h
 exact k e0 e1 e2 e3 e4 e5
structure DI (X : Cx) (Z : XC) (tg e : Expr) (it : DSt → M Src) : Prop where
 h : PI X tg e (bW3 (wc X) Z it)
theorem PI.mono {X : Cx} {tg e : Expr} {t t' : TI} (h : PI X tg e t) (k : ∀ σ H R, t' σ H R → t σ H R) : PI X tg e t' := fun pins s σ H R I q => h pins s σ H R I (k σ H R q)
theorem DI.of {X : Cx} {Z : XC} {tg e : Expr} {it : DSt → M Src} {t : TI} (h : PI X tg e t) (k : ∀ σ H R, bW3 (wc X) Z it σ H R → t σ H R) : DI X Z tg e it := ⟨PI.mono h k⟩
section
variable {X : Cx} {Z : XC} {iter tg : Expr} {pos : Pos} {body : List Stmt} {f : Fs} {gg : Fg} {it : DSt → M Src}
def dN8 (c : Wc) (E : aW8) (fl : Fl) (μ : List Addr) (_ : DH) (H : Hp) : Prop := aV2 c E fl μ H
inductive dI0 (c : Wc) (Z : XC) (gg : Fg) (f : Fs) (sr : Src) (E : aW8) (μ1 : List Addr) (H1 : Hp) (i : Nat) (σ : St) (H : Hp) : Prop
 | mk (dσ : DSt) (μ : List Addr) (G : DH) (k : Ext μ1 H1 μ H) (s : u9 c μ H dσ σ) (h : m6 c μ G H) (p : d7 c Z μ H (aB8 gg f sr.ck (sr.items.drop i) dσ G) (dN8 c E))
theorem ds_for (hp : PassesOwn (model X.prog X.w) X.A X.env X.xe) (hc : X.calm = true) (hi : DI X Z tg iter it) (hg : DG X Z tg gg) (hb : DB X Z body f) (hs : ∀ x, foldedSetIterable iter X.env x = pure x) :
 DS X Z (.For tg iter body [] pos) (aR2 it gg f) :=
 DS.of (dF6 hp hc hi.h hg.h hb.h hs) fun E σ H hE0 => hE0.elim fun dσ μ G s h p => ⟨dσ, μ, G, s, h, (d7.bind p).mono fun sr μ1 G1 H1 x' h1 p1 J hJ => by
  refine ⟨fun i m σ' H' => m = sr.items.length - i ∧ i ≤ sr.items.length ∧ dI0 (wc X) Z gg f sr E μ1 H1 i σ' H',
   ⟨sr.items.length, rfl, Nat.zero_le _, dσ, μ1, G1, Ext.refl _ _, s.mono x', h1, p1⟩, ?_⟩
  rintro i m σ' H' ⟨rfl, hi', dσ', μ', G', k', s', h', p'⟩
  by_cases hlt : i < sr.items.length
  · rw [List.drop_eq_getElem_cons hlt] at p'
    unfold aB8 at p'
    split at p'
    · rename_i ck
      obtain ⟨q1, _⟩ := hJ μ' G' H' k' h' ck i
      obtain ⟨go, yl⟩ := q1 _ (List.getElem?_eq_getElem hlt)
      refine .inr ⟨go, fun σ2 H2 => dI0 (wc X) Z gg f sr E μ1 H1 (i + 1) σ2 H2, fun σ2 H2 w => ⟨sr.items.length - (i + 1), Nat.sub_succ_lt_self _ _ hlt, rfl, hlt, w⟩, fun x H2 y => ?_⟩
      obtain ⟨k2, h2, rx⟩ := yl x H2 y
      have p2 := d7.bind (p'.from k2)
      refine ⟨_, dσ', μ', G', rx, s'.mono k2, h2, p2.mono fun dσ3 μ3 G3 H3 x3 h3 p3 σ3 s3 => ?_⟩
      refine ⟨dσ3, μ3, G3, s3, h3, (d7.bind p3).mono fun fl μ4 G4 H4 x4 h4 p4 => ?_⟩
      cases fl with
      | nx dσ4 => exact fun σ4 s4 => ⟨dσ4, μ4, G4, k'.trans (k2.trans (x3.trans x4)), s4, h4, p4⟩
      | ct dσ4 => exact fun σ4 s4 => ⟨dσ4, μ4, G4, k'.trans (k2.trans (x3.trans x4)), s4, h4, p4⟩
      | bk dσ4 => exact fun σ4 s4 => d7.ok p4 h4 σ4 s4
      | rt d => exact fun v r => d7.ok p4 h4 v r
    · exact p'.elim
  · have e : i = sr.items.length := Nat.le_antisymm hi' (Nat.le_of_not_lt hlt)
    subst e
    rw [List.drop_length] at p'
    unfold aB8 at p'
    split at p'
    · rename_i ck
      obtain ⟨_, q2⟩ := hJ μ' G' H' k' h' ck sr.items.length
      exact .inl ⟨q2 (Nat.le_refl _), d7.ok p' h' σ' s'⟩
    · exact p'.elim⟩
end
noncomputable def aC9 (env : Env) : List (Str × NameKind) → List (Str × Addr) → List (Str × Addr)
 | [], cs => cs
 | (n, k) :: r, cs => aC9 env r (if k == .free then (match env.cells.lookup n with | some c => (n, c) :: cs | none => cs) else cs)
theorem bP7 {env : Env} : ∀ (l : List (Str × NameKind)) (cs : List (Str × Addr)), (∀ p ∈ l, p.2 = .free → ∃ c, env.cells.lookup p.1 = some c) →
 (forIn l cs (fun (x : Str × NameKind) (cs : List (Str × Addr)) => (match x with | (name, kind) => if (kind == NameKind.free) = true then do let c ← cellOf env name; pure (ForInStep.yield ((name, c) :: cs)) else pure (ForInStep.yield cs) : Sem (ForInStep (List (Str × Addr))))) : Sem (List (Str × Addr))) = pure (aC9 env l cs)
 | [], cs, _ => rfl
 | (n, k) :: r, cs, h => by
  have ih := fun cs' => bP7 r cs' fun p hp => h p (List.mem_cons_of_mem _ hp)
  rw [List.forIn_cons]
  unfold aC9
  rcases hk : (k == NameKind.free) with _ | _
  ·
    have e : (match ((n, k) : Str × NameKind) with | (name, kind) => if (kind == NameKind.free) = true then do let c ← cellOf env name; pure (ForInStep.yield ((name, c) :: cs)) else pure (ForInStep.yield cs) : Sem (ForInStep (List (Str × Addr)))) = pure (ForInStep.yield cs) := by
     show (if (k == NameKind.free) = true then _ else _) = _
     rw [hk]; rfl
    rw [e]
    exact ih cs
  ·
    obtain ⟨c, hc⟩ := h (n, k) List.mem_cons_self (by simpa using hk)
    have hcell : cellOf env n = pure c := by unfold cellOf; rw [hc]
    have e : (match ((n, k) : Str × NameKind) with | (name, kind) => if (kind == NameKind.free) = true then do let c ← cellOf env name; pure (ForInStep.yield ((name, c) :: cs)) else pure (ForInStep.yield cs) : Sem (ForInStep (List (Str × Addr)))) = pure (ForInStep.yield ((n, c) :: cs)) := by
     show (if (k == NameKind.free) = true then (do let c ← cellOf env n; pure (ForInStep.yield ((n, c) :: cs))) else _) = _
     rw [hk, hcell]; rfl
    rw [e, hc]
    exact ih ((n, c) :: cs)
theorem aQ7 {env : Env} {scope : Scope} (h : ∀ p ∈ scope.names, p.2 = .free → ∃ c, env.cells.lookup p.1 = some c) : closureFor scope env = pure (aC9 env scope.names []) := by
 have q := bP7 scope.names [] h
 unfold closureFor
 dsimp only
 rw [q]
 rfl
theorem bD6 {env : Env} {x : Str} {c : Addr} : ∀ (l : List (Str × NameKind)) (cs : List (Str × Addr)), (cs.lookup x = some c → env.cells.lookup x = some c) → (aC9 env l cs).lookup x = some c → env.cells.lookup x = some c
 | [], cs, h, e => h e
 | (n, k) :: r, cs, h, e => by
  unfold aC9 at e
  refine bD6 r _ (fun e1 => ?_) e
  split at e1
  · split at e1
    · rename_i c' hc
      rw [List.lookup_cons] at e1
      split at e1
      · rename_i hx
        have hx' : x = n := by simpa using hx
        subst hx'
        cases e1
        exact hc
      · exact h e1
    · exact h e1
  · exact h e1
theorem Q6 {env : Env} {x : Str} {c : Addr} {l : List (Str × NameKind)} (h : (aC9 env l []).lookup x = some c) : env.cells.lookup x = some c := bD6 l [] (fun z => by exact m9 z) h
theorem aV8 {env : Env} {x : Str} : ∀ (l : List (Str × NameKind)) (cs : List (Str × Addr)), (∃ c, cs.lookup x = some c) → ∃ c, (aC9 env l cs).lookup x = some c
 | [], cs, h => h
 | (n, k) :: r, cs, h => by
  unfold aC9
  refine aV8 r _ ?_
  split
  · split
    · rename_i c' hc
      rw [List.lookup_cons]
      split
      · exact ⟨_, rfl⟩
      · exact h
    · exact h
  · exact h
theorem aR1 {env : Env} {x : Str} {c : Addr} (hc : env.cells.lookup x = some c) : ∀ (l : List (Str × NameKind)) (cs : List (Str × Addr)), (x, NameKind.free) ∈ l → ∃ c, (aC9 env l cs).lookup x = some c
 | [], cs, h => by simp at h
 | (n, k) :: r, cs, h => by
  unfold aC9
  rcases List.mem_cons.mp h with e | h
  · cases e
    refine aV8 r _ ?_
    rw [hc]
    simp
  · exact aR1 hc r _ h
section
variable {prog : Program} {w : World} {A : Around} {E : VSP} {R : Result → Shared → Prop} {s : Shared}
theorem bF7 {elt target iter : Expr} {ifs : List Expr} {scope : Scope} {pos : Pos} {it acc : Value} {env : Env} (I : Nat → Shared → Prop)
 (turn : ∀ n s, I n s → wpAny (model prog w) A (pyNext it) (fun r s₁ => match r with
   | none => R (.ok .next) s₁
   | some v => wpAny (model prog w) A (letOwnedTupleGo target it v) (fun _ s₁' => wpAny (model prog w) A (assign target env v) (fun _ s₂ =>
      wpAny (model prog w) A (forIn ifs true fun c r => if r = true then do let ok ← isTrue c env (eval c env); pure (ForInStep.yield ok) else pure (ForInStep.yield r)) (fun ok s₃ =>
       if ok = true then wpAny (model prog w) A (eval elt env) (fun x s₄ =>
        wpAny (model prog w) A (call (.builtin "list.append") [acc, x]) (fun _ s₅ => ∃ m, m < n ∧ I m s₅) (fun _ _ => False) s₄) (fun _ _ => False) s₃
       else ∃ m, m < n ∧ I m s₃) (fun _ _ => False) s₂) (fun _ _ => False) s₁') (fun _ _ => False) s₁) (fun _ _ => False) s)
 (n : Nat) (h : I n s) :
 codeAny (model prog w) A (.compLoop (.ListComp elt [⟨target, iter, ifs, 0⟩] scope pos) 0 it acc env) R s := by
 refine codeAny_loop rfl I (fun n s hI => ?_) n h
 show wpAny _ A ((compTurn (.ListComp elt [⟨target, iter, ifs, 0⟩] scope pos) 0 it acc env).onRaise (fun x => do noteFrame x env; theTreesLotGoes x)) _ _ s
 refine wpAny_noted ?_
 rw [compTurn_list]
 refine wpAny_bind (wpAny_standAt (wpAny_bind (wpAny_mono (turn n s hI) (fun r s₁ h₁ => ?_) fun _ _ h' => h'.elim)))
 rcases r with _ | v
 · exact wpAny_pure h₁
 ·
   refine wpAny_bind (wpAny_mono h₁ (fun _ s₁' h₁' => ?_) fun _ _ h' => h'.elim)
   refine wpAny_bind (wpAny_mono h₁' (fun _ s₂ h₂ => wpAny_bind (wpAny_mono h₂ (fun ok s₃ h₃ => ?_) fun _ _ h' => h'.elim)) fun _ _ h' => h'.elim)
   rcases ok with _ | _
   ·
     exact wpAny_pure ⟨rfl, h₃⟩
   ·
     exact wpAny_bind (wpAny_bind (wpAny_mono h₃ (fun x s₄ h₄ => wpAny_bind (wpAny_mono h₄ (fun _ s₅ h₅ => wpAny_pure (wpAny_pure ⟨rfl, h₅⟩)) fun _ _ h' => h'.elim)) fun _ _ h' => h'.elim))
end
def R4 (X : Cx) (scope : Scope) (N : List Str) (C : Addr) (s : Shared) (H : Hp) (ex : List Addr) : Cx where
 prog := X.prog
 w := X.w
 K := X.K
 mg := X.mg
 base := X.base
 A := X.A
 N := N
 s₀ := s
 H₀ := H
 env := compEnvC scope (aC9 X.env scope.names []) C X.env
 outer := X.stack
 stack := X.stack
 ex := ex
 fn := fun _ => false
 calm := X.calm
 pn := []
 xe := fun _ _ => False
structure aA0 (X : Cx) (scope : Scope) (N : List Str) (caps : List (Option Nat)) : Prop where
 kind : scope.kind = .function
 cell : ∀ y ∈ scope.names, y.2 ≠ .cell
 names : ∀ y ∈ scope.names, y.2 = .local → scope.names.lookup y.1 = some .local
 free : ∀ y ∈ scope.names, y.2 = .free → X.env.kindOf y.1 = some .cell ∨ X.env.kindOf y.1 = some .free
 frees : ∀ y ∈ scope.names, y.2 = .free → scope.names.lookup y.1 = some .free
 len : caps.length = N.length
 caps : ∀ (i j : Nat), caps[i]? = some (some j) → ∃ x, N[i]? = some x ∧ X.N[j]? = some x ∧ (x, NameKind.free) ∈ scope.names
def X4 {α : Type} (caps : List (Option Nat)) (σ : List (Option α)) : List (Option α) := caps.map fun o => o.bind fun j => (σ[j]?).join
theorem aL7 {env : Env} {x : Str} : ∀ names : List (Str × NameKind), (names.map fun (n, k) => if (k == NameKind.free && env.scope.kind == .function && env.kindOf n == some .cell) then (n, NameKind.cell) else (n, k)).lookup x =
 (names.lookup x).map fun k => if (k == NameKind.free && env.scope.kind == .function && env.kindOf x == some .cell) then NameKind.cell else k
 | [] => rfl
 | (n, k) :: r => by
  have ih := aL7 (env := env) (x := x) r
  rw [List.map_cons]
  by_cases hx : x = n
  · subst hx
    dsimp only
    split
    · rename_i h; simp [List.lookup_cons]; simp at h; simp [h]
    · rename_i h; simp [List.lookup_cons]; simp at h; intro a b c; exact absurd c (h a b)
  · have hb : (x == n) = false := by simpa using hx
    dsimp only
    split
    · rw [List.lookup_cons, List.lookup_cons, hb]; exact ih
    · rw [List.lookup_cons, List.lookup_cons, hb]; exact ih
section
variable {X : Cx} {scope : Scope} {N : List Str} {caps : List (Option Nat)} {C : Addr} {pins : PNS} {σ : St} {H : Hp} {s : Shared} {ex : List Addr}
theorem aA0.isFree (k : aA0 X scope N caps) {x : Str} (h : (relabel scope X.env).names.lookup x = some .cell ∨ (relabel scope X.env).names.lookup x = some .free) : (x, NameKind.free) ∈ scope.names := by
 have e : (relabel scope X.env).names.lookup x = (scope.names.lookup x).map fun k => if (k == NameKind.free && X.env.scope.kind == .function && X.env.kindOf x == some .cell) then NameKind.cell else k := aL7 scope.names
 rw [e] at h
 rcases hl : scope.names.lookup x with _ | kd
 · rw [hl] at h; rcases h with h | h <;> exact m9 h
 ·
   rw [hl] at h
   have hm := PySem.mem_of_lookup hl
   have hn := k.cell _ hm
   simp only [Option.map_some] at h
   cases kd with
   | free => exact hm
   | cell => exact absurd rfl hn
   | _ => rcases h with h | h <;> simp at h
theorem aA0.cells (k : aA0 X scope N caps) (ok : X.Ok) : ∀ p ∈ scope.names, p.2 = .free → ∃ c, X.env.cells.lookup p.1 = some c := fun p hp e => ok.has p.1 (k.free p hp e)
theorem cA5 (I : Inv X pins σ H s) (k : aA0 X scope N caps) (hC : s.heap.objs.size ≤ C) (hex : ∀ b ∈ ex, aH2 X pins H b) (hlt : ∀ b ∈ ex, b < s.heap.objs.size) : (R4 X scope N C s H ex).Ok where
 mod := I.ok.mod
 kind := k.kind
 glob := I.ok.glob
 blt := I.ok.blt
 above := hC
 inj := fun x y c h1 h2 => I.ok.inj x y c (Q6 h1) (Q6 h2)
 has := fun x hx => by
  have hm := k.isFree hx
  obtain ⟨c, hc⟩ := k.cells I.ok _ hm rfl
  exact aR1 hc _ _ hm
 cab := fun x c h => by exact bK8 h
 hd := I.ok.hd
 frames := I.ok.frames
 stk := .inl rfl
 exf := fun b hb => ⟨Nat.ne_of_lt (Nat.lt_of_lt_of_le (hlt b hb) hC), fun x c e => (hex b hb).2.2.2.2.1 x c (Q6 e)⟩
 bs := I.bs
 bsz := Nat.le_trans I.ok.bsz I.sz
 noex := fun b o e hb => by
  rcases (hex b hb).2.2.2.1 with z | z
  · exact I.ok.noex b o e z
  · exact absurd (Nat.lt_of_lt_of_le (Heap.lt_size (I.ok.bs b o e).1) z) (Nat.lt_irrefl _)
 exfs := fun b hb z => by
  rcases List.mem_cons.mp (I.stkSub b z) with e | e
  · exact (hex b hb).2.1 e
  · exact (hex b hb).2.2.1 e
 funs := I.stack
 frf := I.stkFree
theorem bD3 {α : Type} {caps : List (Option Nat)} {σ : List (Option α)} {i : Nat} {v : α} (h : (X4 caps σ)[i]? = some (some v)) : ∃ j, caps[i]? = some (some j) ∧ σ[j]? = some (some v) := by
 unfold X4 at h
 rw [List.getElem?_map] at h
 rcases e : caps[i]? with _ | o
 · rw [e] at h; exact m9 h
 ·
   rw [e] at h
   rcases o with _ | j
   · cases h
   ·
     refine ⟨j, rfl, ?_⟩
     simp only [Option.map_some, Option.bind_some, Option.some.injEq] at h
     rcases e2 : σ[j]? with _ | w
     · rw [e2] at h; exact m9 h
     · rw [e2] at h; simp at h; rw [h]
theorem bR8 {h₁ : Heap} {tk : Nat} (I : Inv X pins σ H s) (k : aA0 X scope N caps) (hC : s.heap.objs.size < C) (hex : ∀ b ∈ ex, aH2 X pins H b) (hlt : ∀ b ∈ ex, b < s.heap.objs.size)
 (old : ∀ b o, s.heap.get? b = some o → h₁.get? b = some o) (hns : h₁.Ns C fun _ => none) (hacc : h₁.get? s.heap.objs.size = some { cls := .type "list", data := .seq ([] : List Value).toArray 0 }) :
 Inv (R4 X scope N C s H ex) [] (X4 caps σ) (upd H s.heap.objs.size (.lst [])) { s with heap := h₁, toks := tk } := by
 have hD : H s.heap.objs.size = none := I.hok.fresh (Nat.le_refl _)
 refine ⟨cA5 I k (Nat.le_of_lt hC) hex hlt, rfl, I.bare, Un.laid old (Nat.le_refl _) hD, ⟨_, hns, fun i x v h1 h2 h3 => ?_⟩, fun x c e => ?_, ?_, fun x c e => ?_, fun p hp => absurd (show p ∈ ([] : PNS) from hp) (by simp), ?_, ?_⟩
 · obtain ⟨j, e1, e2⟩ := bD3 h2
   obtain ⟨y, e3, e4, e5⟩ := k.caps i j e1
   have exy : y = x := by
    have : some y = some x := e3.symm.trans h1
    exact Option.some.inj this
   subst exy
   have hk := k.free _ e5 rfl
   obtain ⟨m, hn, hl⟩ := I.loc
   obtain ⟨u, r, l⟩ := hl j y v e4 e2 (by rcases hk with z | z; exact .inr (.inl z); exact .inr (.inr z))
   refine ⟨u, r, .inr ?_⟩
   rcases l with ⟨z, _⟩ | ⟨_, c, ec, hc⟩
   · rcases hk with z' | z' <;> (rw [z] at z'; cases z')
   · refine ⟨?_, c, ?_, ?_⟩
     · rcases h3 with h3 | h3 | h3
       · exfalso
         have e : (relabel scope X.env).names.lookup y = (scope.names.lookup y).map fun k => if (k == NameKind.free && X.env.scope.kind == .function && X.env.kindOf y == some .cell) then NameKind.cell else k := aL7 scope.names
         have h3' : (relabel scope X.env).names.lookup y = some .local := h3
         rw [e] at h3'
         rw [k.frees _ e5 rfl] at h3'
         simp only [Option.map_some] at h3'
         split at h3' <;> cases h3'
       · exact .inl h3
       · exact .inr h3
     · obtain ⟨c', ec'⟩ := aR1 ec scope.names [] e5
       have := Q6 ec'
       rw [ec] at this
       cases this
       exact ec'
     · obtain ⟨o, ho, hd⟩ := hc
       exact ⟨o, old _ _ ho, hd⟩
 · obtain ⟨v, o, ho, hd⟩ := I.cell x c (Q6 e)
   exact ⟨v, o, old _ _ ho, hd⟩
 · show upd H s.heap.objs.size (.lst []) C = none
   rw [m5 (Nat.ne_of_gt hC)]
   exact I.hok.fresh (Nat.le_of_lt hC)
 · obtain ⟨v, o, ho, hd⟩ := I.cell x c (Q6 e)
   rw [m5 (Nat.ne_of_lt (Heap.lt_size ho))]
   exact I.freeC x c (Q6 e)
 · exact I.hok.laid old (Nat.le_refl _) ⟨Nat.zero_le _, [], 0, .nil, hacc⟩
 · show (X4 caps σ).length = N.length
   unfold X4
   rw [List.length_map]; exact k.len
theorem cL0 {pins' : PNS} {σ' : St} {H' : Hp} {s' : Shared} {h' : Heap} (I : Inv X pins σ H s) (hex : ∀ b ∈ ex, aH2 X pins H b) (hC : s.heap.objs.size < C)
 (I' : Inv (R4 X scope N C s H ex) pins' σ' H' s') (sb : Heap.SameBut C s'.heap h') : Inv X pins σ H' { s' with heap := h' } := by
 have hos : s'.os = s.os := I'.os
 have hfree : H' C = none := I'.free
 have neC : ∀ b o, s.heap.get? b = some o → b ≠ C := fun b o e z => by
  have := Heap.lt_size e
  rw [z] at this
  exact absurd (Nat.lt_trans hC this) (Nat.lt_irrefl _)
 have hun : Un (frs X.stack) ex H H' s.heap s'.heap := I'.base
 have hun2 : Un (frs X.stack) ex H H' s.heap h' := by
  refine ⟨fun b o e n hb hx => (sb.2 b (neC b o e)).trans (hun.keep b o e n hb hx), fun b o e n hb hx => ?_, hun.free, fun b o e hx => ?_, hun.tups, hun.frzs, hun.tbls⟩
  · obtain ⟨sl, q⟩ := hun.slot b o e n hb hx
    exact ⟨sl, (sb.2 b (neC b o e)).trans q⟩
  · obtain ⟨o', q⟩ := hun.there b o e hx
    exact ⟨o', (sb.2 b (neC b o e)).trans q⟩
 have hok2 : HOk X.prog X.w H' h' := fun a o e => by
  have nc : ∀ c u, H' c = some u → c ≠ C := fun c u q z => by rw [z, hfree] at q; exact m9 q
  refine (I'.hok a o e).stay (fun b u hb q => ?_) (fun _ q => q) fun _ _ q => q
  rcases hb with rfl | hb
  · exact (sb.2 b (nc b o e)).trans q
  · exact (sb.2 b (nc b _ hb)).trans q
 obtain ⟨hh, g, d, t, os'⟩ := s'
 obtain rfl : os' = s.os := hos
 have fin := I.call (h' := h') (g' := g) (d' := d) (t' := t) (ch := ex) hun2 hok2 I'.bare fun b hb => ⟨(hex b hb).2.2.2.1, (hex b hb).2.1, (hex b hb).2.2.2.2.1, (hex b hb).2.2.2.2.2⟩
 exact fin
end
noncomputable def hide (q : Addr) (H : Hp) : Hp := fun b => if b = q then none else H b
theorem Z3 {q : Addr} {H : Hp} : hide q H q = none := by unfold hide; rw [if_pos rfl]
theorem M6 {q b : Addr} {H : Hp} (h : b ≠ q) : hide q H b = H b := by unfold hide; rw [if_neg h]
theorem J9 {q b : Addr} {H : Hp} {o : HO} (h : hide q H b = some o) : b ≠ q ∧ H b = some o := by
 by_cases e : b = q
 · rw [e, Z3] at h; exact m9 h
 · rw [M6 e] at h; exact ⟨e, h⟩
theorem cL7 {q : Addr} {H : Hp} {o : HO} (h : H q = some o) : upd (hide q H) q o = H := by
 funext b
 by_cases e : b = q
 · rw [e, v8, h]
 · rw [m5 e, M6 e]
theorem aG6 {q : Addr} {H : Hp} {o : HO} : hide q (upd H q o) = hide q H := by
 funext b
 by_cases e : b = q
 · rw [e, Z3, Z3]
 · rw [M6 e, M6 e, m5 e]
theorem aJ3 {q : Addr} {H : Hp} (h : H q = none) : hide q H = H := by
 funext b
 by_cases e : b = q
 · rw [e, Z3, h]
 · rw [M6 e]
section
variable {c : Wc} {μ μ' : List Addr} {H H' : Hp} {G : DH} {q : Addr} {vs : List V}
mutual
theorem d8.sq (k : ∀ a xs, SqT c.K H a xs → SqT c.K H' a xs) : ∀ {d : D} {v : V}, d8 c μ H d v → d8 c μ H' d v
 | .non, _, h => h
 | .bl _, _, h => h
 | .int _, _, h => h
 | .str _, _, h => h
 | .ty _, _, h => h
 | .fn _, _, h => h
 | .ref i, v, h => by unfold d8 at h ⊢; exact h
 | .tup l, v, h => by
   unfold d8 at h ⊢
   obtain ⟨a, vs, e, q, r⟩ := h
   exact ⟨a, vs, e, k _ _ q, j9.sq k r⟩
theorem j9.sq (k : ∀ a xs, SqT c.K H a xs → SqT c.K H' a xs) : ∀ {l : List D} {vs : List V}, j9 c μ H l vs → j9 c μ H' l vs
 | [], _, h => h
 | d :: ds, vs, h => by
   unfold j9 at h ⊢
   obtain ⟨v, r, e, q, t⟩ := h
   exact ⟨v, r, e, d8.sq k q, j9.sq k t⟩
end
theorem S5.sq (k : ∀ a xs, SqT c.K H a xs → SqT c.K H' a xs) : ∀ {l : List (Key × D)} {vs : List (Key × V)}, S5 c μ H l vs → S5 c μ H' l vs
 | [], _, h => h
 | (_, d) :: ds, vs, h => by
  obtain ⟨v, r, e, q, t⟩ := h
  exact ⟨v, r, e, d8.sq k q, S5.sq k t⟩
theorem aA7 (hq : H q = some (.lst vs)) {K : PySem.W.Frag} (a : Addr) (xs : List V) (h : SqT K H a xs) : SqT K (hide q H) a xs := by
 rcases h with (h | ⟨o, h⟩) | h
 · exact .inl (.inl (by rw [M6 (fun e => by rw [e, hq] at h; cases h)]; exact h))
 · exact .inl (.inr ⟨o, by rw [M6 (fun e => by rw [e, hq] at h; cases h)]; exact h⟩)
 · exact .inr h
theorem aA8 {K : PySem.W.Frag} (a : Addr) (xs : List V) (h : SqT K (hide q H) a xs) : SqT K H a xs := by
 rcases h with (h | ⟨o, h⟩) | h
 · exact .inl (.inl (J9 h).2)
 · exact .inl (.inr ⟨o, (J9 h).2⟩)
 · exact .inr h
theorem u9.sq (k : ∀ a xs, SqT c.K H a xs → SqT c.K H' a xs) {dσ : DSt} {σ : St} (h : u9 c μ H dσ σ) : u9 c μ H' dσ σ := ⟨h.1, fun i d e => let ⟨v, a, b⟩ := h.2 i d e; ⟨v, a, b.sq k⟩⟩
theorem Ext.hide (x : Ext μ H μ' H') (n : q ∉ μ) (hq : H q = some (.lst vs)) : H' q = some (.lst vs) ∧ q ∉ μ' ∧ Ext μ (DL.hide q H) μ' (DL.hide q H') := by
 refine ⟨x.oth q _ hq n, fun h => ?_, x.pre, fun a h1 h2 => ?_, fun b o e nb => ?_, fun b xs e => ?_, fun b o u e => ?_⟩
 · have := x.new q h n; rw [hq] at this; exact cV4 this
 · by_cases e : a = q
   · rw [e, Z3]
   · rw [M6 e]; exact x.new a h1 h2
 · obtain ⟨e1, e2⟩ := J9 e; rw [M6 e1]; exact x.oth b o e2 nb
 · obtain ⟨e1, e2⟩ := J9 e; rw [M6 e1]; exact x.tup b xs e2
 · obtain ⟨e1, e2⟩ := J9 e; rw [M6 e1]; exact x.frz b o u e2
theorem Ext.unhide (x : Ext μ H μ' (DL.hide q H')) : Ext μ H μ' H' :=
 ⟨x.pre, x.new, fun b o e n => (J9 (x.oth b o e n)).2, fun b xs e => (J9 (x.tup b xs e)).2, fun b o u e => (J9 (x.frz b o u e)).2⟩
theorem m6.hide (h : m6 c μ G H) (n : q ∉ μ) (hq : H q = some (.lst vs)) : m6 c μ G (DL.hide q H) :=
 ⟨h.len, h.inj, fun i o a g m => by
  have na : a ≠ q := fun e => n (by rw [← e]; exact List.mem_of_getElem? m)
  have r := h.obj i o a g m
  cases o with
  | lst l => obtain ⟨ws, e, r⟩ := r; exact ⟨ws, by rw [M6 na]; exact e, r.sq (aA7 hq)⟩
  | dct l => obtain ⟨ws, e, r⟩ := r; exact ⟨ws, by rw [M6 na]; exact e, r.sq (aA7 hq)⟩
  | rod l => obtain ⟨ws, o, e, r⟩ := r; exact ⟨ws, o, by rw [M6 na]; exact e, r.sq (aA7 hq)⟩
  | rol l =>
    obtain ⟨ws, e, r⟩ := r
    refine ⟨ws, ?_, r.sq (aA7 hq)⟩
    rcases e with ⟨o, e⟩ | e
    · exact .inl ⟨o, by rw [M6 na]; exact e⟩
    · exact .inr e⟩
theorem m6.unhide (h : m6 c μ G (DL.hide q H)) : m6 c μ G H :=
 ⟨h.len, h.inj, fun i o a g m => by
  have r := h.obj i o a g m
  cases o with
  | lst l => obtain ⟨ws, e, r⟩ := r; exact ⟨ws, (J9 e).2, r.sq aA8⟩
  | dct l => obtain ⟨ws, e, r⟩ := r; exact ⟨ws, (J9 e).2, r.sq aA8⟩
  | rod l => obtain ⟨ws, o, e, r⟩ := r; exact ⟨ws, o, (J9 e).2, r.sq aA8⟩
  | rol l =>
    obtain ⟨ws, e, r⟩ := r
    refine ⟨ws, ?_, r.sq aA8⟩
    rcases e with ⟨o, e⟩ | e
    · exact .inl ⟨o, (J9 e).2⟩
    · exact .inr e⟩
inductive UH {α : Type} (c : Wc) (q : Addr) (vs : List V) (μ : List Addr) (H : Hp) (K : α → List Addr → DH → Hp → Prop) (a : α) (μ' : List Addr) (G' : DH) (H' : Hp) : Prop
 | mk (e : H' q = some (.lst vs)) (n : q ∉ μ') (h : m6 c μ' G' (DL.hide q H')) (x : Ext μ (DL.hide q H) μ' (DL.hide q H')) (k : K a μ' G' (DL.hide q H'))
theorem d7.unhide {α : Type} {Z : XC} {r : Option (Except Str α × DH)} {K : α → List Addr → DH → Hp → Prop} (n : q ∉ μ) (hq : H q = some (.lst vs)) (p : d7 c ZF μ (DL.hide q H) r K) :
 d7 c Z μ H r (UH c q vs μ H K) := by
 match r, p with
 | some (.ok a, G'), p =>
   intro μ' H' x h
   obtain ⟨e1, e2, e3⟩ := x.hide n hq
   have h2 := h.hide e2 e1
   exact ⟨e1, e2, h2, e3, p μ' _ e3 h2⟩
 | some (.error z, G'), p =>
   intro μ' H' x h
   obtain ⟨e1, e2, e3⟩ := x.hide n hq
   exact (p μ' _ e3 (h.hide e2 e1)).elim
theorem m6.mem_lt {X : Cx} {pins : PNS} {σ : St} {s : Shared} (I : Inv X pins σ H s) (h : m6 (wc X) μ G H) {a : Addr} (ha : a ∈ μ) : a < s.heap.objs.size := by
 obtain ⟨i, hi⟩ := List.getElem?_of_mem ha
 have hl : i < G.length := by rw [← h.len]; exact lt_of_get hi
 have r := h.obj i G[i] a (List.getElem?_eq_getElem hl) hi
 rcases e : G[i] with l | l | l | l
 · rw [e] at r; obtain ⟨_, e, _⟩ := r; exact I.hok.lt e
 ·
   rw [e] at r
   obtain ⟨ws, e, _⟩ := r
   rcases e with ⟨o, e⟩ | e
   · exact I.hok.lt e
   · rcases e with (e | ⟨o, e⟩) | ⟨o, its, n, e, _⟩
     · exact m9 e
     · exact m9 e
     · exact Heap.lt_size (I.kIn a o e)
 · rw [e] at r; obtain ⟨_, e, _⟩ := r; exact I.hok.lt e
 · rw [e] at r; obtain ⟨_, _, e, _⟩ := r; exact I.hok.lt e
end
def PTs (X : Cx) (ifs : List Expr) (t : TT) : Prop :=
 ∀ (pins : PNS) (s : Shared) (σ : St) (H : Hp) (Q : Bool → Hp → Prop), Inv X pins σ H s → t σ H Q →
  wpAny (model X.prog X.w) X.A (forIn ifs true fun c r => if r = true then do let ok ← isTrue c X.env (eval c X.env); pure (ForInStep.yield ok) else pure (ForInStep.yield r)) (TP X pins σ Q) X.xe s
structure DTs (X : Cx) (Z : XC) (ifs : List Expr) (f : DSt → M Bool) : Prop where
 h : PTs X ifs (aX7 (wc X) Z f)
def V1 : DSt → M Bool := fun _ => pure true
theorem dts_nil {X : Cx} {Z : XC} : DTs X Z [] V1 := ⟨fun pins s σ H Q I hE0 => hE0.elim fun dσ μ G sr h p => wpAny_tests_nil ⟨H, I, d7.ok p h⟩⟩
def K9 (g : Fg) (t : DSt → M Bool) (e : Fe) (ck : DH → Bool) : List D → DSt → M (List D)
 | [] => fun _ G => if ck G then some (.ok [], G) else none
 | d :: r => fun σ G => if ck G then (do
    let σ1 ← g d σ
    if ← t σ1 then do
     let y ← e σ1
     let ys ← K9 g t e ck r σ1
     pure (y :: ys)
    else K9 g t e ck r σ1 : M (List D)) G else none
def R9 (it : DSt → M Src) (caps : List (Option Nat)) (g : Fg) (t : DSt → M Bool) (e : Fe) : Fe := fun σ => do
 let s ← it σ
 if s.items.length ≤ sizeLine then do
  let ys ← noX (K9 g t e s.ck s.items (X4 caps σ))
  K7 (.lst ys)
 else M.stuck
theorem bZ7 {c : Wc} {μ : List Addr} {H : Hp} {caps : List (Option Nat)} {dσ : DSt} {σ : St} (h : u9 c μ H dσ σ) : u9 c μ H (X4 caps dσ) (X4 caps σ) := by
 refine ⟨by simp [X4], fun i d e => ?_⟩
 obtain ⟨j, e1, e2⟩ := bD3 e
 obtain ⟨v, e3, r⟩ := h.2 j d e2
 refine ⟨v, ?_, r⟩
 unfold X4
 rw [List.getElem?_map, e1]
 simp [e3]
section
variable {X : Cx} {Z : XC} {elt tg iter : Expr} {ifs : List Expr} {scope : Scope} {pos : Pos} {N : List Str} {caps : List (Option Nat)} {it : DSt → M Src} {gg : Fg} {tt : DSt → M Bool} {fe : Fe}
set_option maxHeartbeats 1000000 in
def CKV (c : Wc) (Q : VK) (d : D) (μ' : List Addr) (_ : DH) (H' : Hp) : Prop := ∀ v, d8 c μ' H' d v → Q v H'
def CKR (c : Wc) (Z : XC) (Q : VK) (ys t8 : List D) (μ : List Addr) (G : DH) (H : Hp) : Prop := d7 c Z μ H (K7 (.lst (ys ++ t8)) G) (CKV c Q)
def cX9 (gg : Fg) (tt : DSt → M Bool) (fe : Fe) (ck : DH → Bool) (items : List D) (σ : DSt) (y : D) : M (List D) := do let ys ← K9 gg tt fe ck items σ; pure (y :: ys)
def bY2 (gg : Fg) (tt : DSt → M Bool) (fe : Fe) (ck : DH → Bool) (items : List D) (σ : DSt) (b : Bool) : M (List D) := if b = true then (do let y ← fe σ; let ys ← K9 gg tt fe ck items σ; pure (y :: ys)) else K9 gg tt fe ck items σ
def dD7 (gg : Fg) (tt : DSt → M Bool) (fe : Fe) (ck : DH → Bool) (items : List D) (σ : DSt) : M (List D) := do if ← tt σ then do { let y ← fe σ; let ys ← K9 gg tt fe ck items σ; pure (y :: ys) } else K9 gg tt fe ck items σ
inductive CG (X : Cx) (Z : XC) (Q : VK) (vs : List V) (DD : Addr) (ys : List D) (μ' : List Addr) (H5 : Hp) (m : DSt → M (List D)) (σ6 : St) (H6 : Hp) : Prop
 | mk (dσ6 : DSt) (μ6 : List Addr) (G6 : DH) (s : u9 (wc X) μ6 H6 dσ6 σ6) (h : m6 (wc X) μ6 G6 H6) (u : UH (wc X) DD vs μ' H5 (fun dσ μ G H => d7 (wc X) ZF μ H (m dσ G) (CKR (wc X) Z Q ys)) dσ6 μ6 G6 H6)
inductive CT (X : Cx) (Z : XC) (Q : VK) (vs : List V) (DD : Addr) (ys : List D) (dσ6 : DSt) (σ6 : St) (μ6 : List Addr) (H6 : Hp) (m : Bool → M (List D)) (b : Bool) (H7 : Hp) : Prop
 | mk (μ7 : List Addr) (G7 : DH) (s : u9 (wc X) μ7 H7 dσ6 σ6) (h : m6 (wc X) μ7 G7 H7) (u : UH (wc X) DD vs μ6 H6 (fun b μ G H => d7 (wc X) ZF μ H (m b G) (CKR (wc X) Z Q ys)) b μ7 G7 H7)
inductive CE (X : Cx) (Z : XC) (Q : VK) (vs : List V) (DD : Addr) (ys : List D) (dσ6 : DSt) (σ6 : St) (μ7 : List Addr) (H7 : Hp) (m : D → M (List D)) (v : V) (H8 : Hp) : Prop
 | mk (y : D) (μ8 : List Addr) (G8 : DH) (r : d8 (wc X) μ8 H8 y v) (s : u9 (wc X) μ8 H8 dσ6 σ6) (h : m6 (wc X) μ8 G8 H8) (u : UH (wc X) DD vs μ7 H7 (fun y μ G H => d7 (wc X) ZF μ H (m y G) (CKR (wc X) Z Q ys)) y μ8 G8 H8)
inductive cZ4 (Y : Cx) (Z : XC) (Q : VK) (gg : Fg) (tt : DSt → M Bool) (fe : Fe) (src : Src) (fp : List Addr) (tn : Nat → Heap → Prop) (DD : Addr) (μ2 : List Addr) (H2 : Hp) (n : Nat) (s' : Shared) : Prop
 | mk (i : Nat) (ys : List D) (vs : List V) (σ' : St) (H' : Hp) (dσ' : DSt) (μ' : List Addr) (G' : DH) (e : n = src.items.length - i) (hi : i ≤ src.items.length) (hv : vs.length ≤ i)
    (I : Inv Y [] σ' H' s') (st : tn i s'.heap) (fr : ∀ b ∈ fp, H' b = none) (hs : H' DD = some (.lst vs)) (nD : DD ∉ μ')
    (x : Ext μ2 H2 μ' (hide DD H')) (h : m6 (wc Y) μ' G' (hide DD H')) (sr : u9 (wc Y) μ' (hide DD H') dσ' σ') (rl : j9 (wc Y) μ' (hide DD H') ys vs)
    (p : d7 (wc Y) ZF μ' (hide DD H') (K9 gg tt fe src.ck (src.items.drop i) dσ' G') (CKR (wc Y) Z Q ys))
theorem cE0 {Y : Cx} {Q : VK} {src : Src} {fp : List Addr} {tn : Nat → Heap → Prop} {DD it : Addr} {μ2 : List Addr} {H2 : Hp} {J : It} {R : Result → Shared → Prop} (hcX : Y.calm = true) (hg : DG Y ZF tg gg) (ht : DTs Y ZF ifs tt) (he : DE Y ZF elt fe) (T : aU5 Y.prog Y.w Y.K tg J fp it tn)
 (fpX : ∀ (H' : Hp) (b : Addr), b ∈ fp → H' b = none → aH2 Y [] H' b) (hJ : ItD (wc Y) μ2 H2 J src) (hlen : src.items.length ≤ sizeLine) (fin : ∀ (H' : Hp) (σ' : St) (s4 : Shared), Inv Y [] σ' H' s4 → Q (.ref DD) H' → R (.ok .next) s4) (n : Nat) (s' : Shared) (h : cZ4 Y Z Q gg tt fe src fp tn DD μ2 H2 n s') {NX : Shared → Prop} (nx : ∀ m s, m < n → cZ4 Y Z Q gg tt fe src fp tn DD μ2 H2 m s → NX s) :
 wpAny (model Y.prog Y.w) Y.A (pyNext (.ref it)) (fun r s₁ => match r with
  | none => R (.ok .next) s₁
  | some v => wpAny (model Y.prog Y.w) Y.A (letOwnedTupleGo tg (.ref it) v) (fun _ s₁' => wpAny (model Y.prog Y.w) Y.A (assign tg Y.env v) (fun _ s₂ =>
     wpAny (model Y.prog Y.w) Y.A (forIn ifs true fun c r => if r = true then do let ok ← isTrue c Y.env (eval c Y.env); pure (ForInStep.yield ok) else pure (ForInStep.yield r)) (fun ok s₃ =>
      if ok = true then wpAny (model Y.prog Y.w) Y.A (eval elt Y.env) (fun x s₄ =>
       wpAny (model Y.prog Y.w) Y.A (call (.builtin "list.append") [.ref DD, x]) (fun _ s₅ => NX s₅) Y.xe s₄) Y.xe s₃
      else NX s₃) Y.xe s₂) Y.xe s₁') Y.xe s₁) Y.xe s' := by
 obtain ⟨i, ys, vs, σ', H', dσ', μ', G', rfl, hi', hvl, I', st', fr', hvs, nD', x', h', sr', rl, p'⟩ := h
 by_cases hlt : i < src.items.length
 · rw [List.drop_eq_getElem_cons hlt] at p'
   unfold K9 at p'
   split at p'
   case isFalse => exact p'.elim
   rename_i ck
   obtain ⟨q1, _⟩ := hJ μ' G' H' x'.unhide h'.unhide ck i
   obtain ⟨go, yl⟩ := q1 _ (List.getElem?_eq_getElem hlt)
   refine thn (T.item (Y) rfl rfl rfl hcX i [] s' σ' H' Y.xe I' (fun b hb => fpX H' b hb (fr' b hb)) st' go) fun r s4 z4 => ?_
   obtain ⟨u, rfl, h4⟩ := z4
   refine thn h4 fun _ s5 z5 => ?_
   obtain ⟨x, H5, I5, r5, y5, st5, fr5⟩ := z5
   obtain ⟨k5, h5, rx5⟩ := yl x H5 y5
   obtain ⟨e5, n5, k5'⟩ := k5.hide nD' hvs
   have I5' := I5.pinned (fun b hb => fpX H5 b hb (fr5 b hb)) (T.obj _ _ st5)
   have keepIt : ∀ {σ7 : St} {H7 : Hp} {s7 : Shared}, Inv (Y) ([] ++ aX4 fp s5.heap) σ7 H7 s7 → Inv (Y) [] σ7 H7 s7 ∧ tn (i + 1) s7.heap ∧ ∀ b ∈ fp, H7 b = none := fun {σ7 H7 s7} I7 => by
    refine ⟨I7.unpinned, T.keep _ _ _ st5 fun b hb o e => (I7.pin (b, o) (List.mem_append_right _ (List.mem_append_right _ (aF0 hb e)))).1, fun b hb => ?_⟩
    obtain ⟨o, e, d⟩ := T.obj _ _ st5 b hb
    exact (I7.pin (b, o) (List.mem_append_right _ (List.mem_append_right _ (aF0 hb e)))).2.1
   have p5 := d7.unhide (Z := ZF) n5 e5 (d7.bind (p'.from k5'))
   refine thn (hg.h _ s5 σ' H5 x u _ I5' r5 ⟨_, dσ', μ', G', rx5, (sr'.mono k5').sq aA8, h5, p5.mono fun dσ6 μ6 G6 H6 x6 h6 q6 σ6 sr6 => (⟨dσ6, μ6, G6, sr6, h6, q6⟩ : CG Y Z Q vs DD ys μ' H5 (dD7 gg tt fe src.ck (src.items.drop (i + 1))) σ6 H6)⟩) fun _ s6 z6 => ?_
   obtain ⟨σ6, H6, I6, dσ6, μ6, G6, sr6, h6, e6, n6, hh6, x6, p6⟩ := z6
   have p6' := d7.unhide (Z := ZF) n6 e6 (d7.bind p6)
   refine thn (ht.h _ s6 σ6 H6 (CT Y Z Q vs DD ys dσ6 σ6 μ6 H6 (bY2 gg tt fe src.ck (src.items.drop (i + 1)) dσ6)) I6 ⟨dσ6, μ6, G6, sr6, h6, p6'.mono fun b μ7 G7 H7 x7 h7 q7 => ⟨μ7, G7, sr6.mono x7, h7, q7⟩⟩) fun b s7 z7 => ?_
   obtain ⟨H7, I7, μ7, G7, sr7, h7, e7, n7, hh7, x7, p7⟩ := z7
   unfold bY2 at p7
   have x27 : Ext μ2 H2 μ7 (hide DD H7) := x'.trans (k5'.trans (x6.trans x7))
   have rl7 : j9 (wc Y) μ7 (hide DD H7) ys vs := rl.mono (k5'.trans (x6.trans x7))
   rcases b with _ | _
   ·
     rw [if_neg Bool.false_ne_true] at p7 ⊢
     obtain ⟨I8, st8, fr8⟩ := keepIt I7
     exact nx _ _ (Nat.sub_succ_lt_self _ _ hlt) ⟨i + 1, ys, vs, σ6, H7, dσ6, μ7, G7, rfl, hlt, Nat.le_succ_of_le hvl, I8, st8, fr8, e7, n7, x27, hh7, sr7.sq (aA7 e7), rl7, p7⟩
   ·
     rw [if_pos rfl] at p7 ⊢
     have p7' := d7.unhide (Z := ZF) n7 e7 (d7.bind p7)
     refine thn (he.h _ s7 σ6 H7 (CE Y Z Q vs DD ys dσ6 σ6 μ7 H7 (cX9 gg tt fe src.ck (src.items.drop (i + 1)) dσ6)) I7 ⟨dσ6, μ7, G7, sr7, h7, p7'.mono fun y μ8 G8 H8 x8 h8 q8 v rv => ⟨y, μ8, G8, rv, sr7.mono x8, h8, q8⟩⟩) fun yu s8 z8 => ?_
     obtain ⟨yv, H8, I8, ry, y, μ8, G8, ryd, sr8, h8, e8, n8, hh8, x8, p8⟩ := z8
     unfold cX9 at p8
     refine thn (bE3 _ s8 σ6 H8 (.ref DD) [yv] (.ref DD) [yu] (fun _ H9 => H9 = upd H8 DD (.lst (vs ++ [yv]))) I8 rfl (.cons ry .nil) ⟨DD, vs, yv, rfl, rfl, e8, by lia, rfl⟩) fun _ s9 z9 => ?_
     obtain ⟨_, H9, I9, _, rfl⟩ := z9
     obtain ⟨I10, st10, fr10⟩ := keepIt I9
     have hd9 : hide DD (upd H8 DD (.lst (vs ++ [yv]))) = hide DD H8 := aG6
     refine nx _ _ (Nat.sub_succ_lt_self _ _ hlt) ⟨i + 1, ys ++ [y], vs ++ [yv], σ6, _, dσ6, μ8, G8, rfl, hlt, by rw [List.length_append]; exact Nat.succ_le_succ hvl, I10, st10, fr10, v8, n8, ?_, ?_, ?_, ?_, ?_⟩
     · rw [hd9]; exact x27.trans x8
     · rw [hd9]; exact hh8
     · rw [hd9]; exact sr8.sq (aA7 e8)
     · rw [hd9]; exact (rl7.mono x8).append ⟨yv, [], rfl, ryd.sq (aA7 e8), rfl⟩
     · rw [hd9]
       refine (d7.bind p8).mono fun t8 μ'' G'' H'' x'' h'' q'' => ?_
       have q3 := d7.ok q'' h''
       show d7 (wc Y) Z μ'' H'' (K7 (.lst (ys ++ [y] ++ t8)) G'') (CKV (wc Y) Q)
       rw [List.append_assoc]
       exact q3
 · have e : i = src.items.length := by lia
   subst e
   rw [List.drop_length] at p'
   unfold K9 at p'
   split at p'
   case isFalse => exact p'.elim
   rename_i ck
   obtain ⟨_, q2⟩ := hJ μ' G' H' x'.unhide h'.unhide ck src.items.length
   refine thn (T.done (Y) rfl rfl rfl hcX src.items.length [] s' σ' H' Y.xe I' (fun b hb => fpX H' b hb (fr' b hb)) st' (q2 (Nat.le_refl _))) fun r s4 ⟨hr, I4⟩ => ?_
   subst hr
   have p9 : d7 (wc Y) Z μ' (hide DD H') (K7 (.lst (ys ++ [])) G') (CKV (wc Y) Q) := d7.ok p' h'
   rw [List.append_nil] at p9
   have q9 := aD1 (q := DD) h' rl p9 Z3
   rw [cL7 hvs] at q9
   exact fin H' σ' s4 I4 q9
theorem cA3 {use : Option (Value → Sem Unit)} {PQ : VSP} {Q : VK} {ps : Pos} {pins : PNS} {s : Shared} {σ : St} {H : Hp} {dσ : DSt} {μ : List Addr} {G : DH} (hc : X.calm = true) (hi : DI X Z tg iter it) (k : aA0 X scope N caps)
 (hg : ∀ C s H ex, DG (R4 X scope N C s H ex) ZF tg gg) (ht : ∀ C s H ex, DTs (R4 X scope N C s H ex) ZF ifs tt) (he : ∀ C s H ex, DE (R4 X scope N C s H ex) ZF elt fe)
 (hs : ∀ x, foldedSetIterable iter X.env x = pure x) (I : Inv X pins σ H s) (sr : u9 (wc X) μ H dσ σ) (hr : m6 (wc X) μ G H) (p : d7 (wc X) Z μ H (R9 it caps gg tt fe dσ G) fun d μ' _ H' => ∀ v, d8 (wc X) μ' H' d v → Q v H')
 (fin : ∀ (DD C : Addr) (s4 : Shared) (H' : Hp) (m : Str → Option Value) (o : Flow), s4.heap.Ns C m → (∀ h'', Heap.SameBut C s4.heap h'' → Inv X pins σ H' { s4 with heap := h'' }) → H' C = none → (∀ H9 : Hp, H9 C = none → aH2 X pins H9 C) → Q (.ref DD) H' → compPost (model X.prog X.w) X.A X.xe use PQ (.ref DD) C (.ok o) s4) :
 wpAny (model X.prog X.w) X.A (comprehension (.ListComp elt [⟨tg, iter, ifs, 0⟩] scope pos) scope X.env ps (newList []) false (eval iter X.env) use) PQ X.xe s := by
 replace p : d7 (wc X) Z μ H (R9 it caps gg tt fe dσ G) (CKV (wc X) Q) := p
 have p1 := d7.bind p
 refine wpAny_comprehension_free (use := use) rfl hs (aQ7 (k.cells I.ok)) k.kind k.names ?_
 refine thn (hi.h pins s σ H (fun J H1 => ∃ src μ1 G1, Ext μ H μ1 H1 ∧ m6 (wc X) μ1 G1 H1 ∧ ItD (wc X) μ1 H1 J src ∧
  d7 (wc X) Z μ1 H1 ((if src.items.length ≤ sizeLine then (do let ys ← noX (K9 gg tt fe src.ck src.items (X4 caps dσ)); K7 (.lst ys)) else M.stuck : M D) G1) (CKV (wc X) Q))
  I ⟨dσ, μ, G, sr, hr, p1.mono fun src μ1 G1 H1 x1 h1 p1 J hJ => ⟨src, μ1, G1, x1, h1, hJ, p1⟩⟩) fun v s1 q1 => thn q1 fun itv s2 q2 => ?_
 obtain ⟨itA, fp, tn, J, H2, rfl, I2, T, st2, f2, src, μ2, G2, x2, h2, hJ, p2⟩ := q2
 split at p2
 case isFalse => exact p2.elim
 rename_i hlen
 have hfp : ∀ b ∈ fp, b < s2.heap.objs.size := fun b hb => by obtain ⟨o, e, _⟩ := T.obj _ _ st2 b hb; exact Heap.lt_size e
 refine wpAny_newObj_type (wpAny_newFunctionEnv k.cell (by intro y hy; simp at hy) (fun h₁ hns₁ hsb₁ => ?_) k.kind)
 dsimp only at hns₁ hsb₁ ⊢
 generalize hHP : s2.heap.push { cls := .type "list", dict := none, data := .seq ([] : List Value).toArray } = HP at hns₁ hsb₁ ⊢
 have hC : HP.objs.size = s2.heap.objs.size + 1 := by rw [← hHP, Heap.size_push]
 have hCl : s2.heap.objs.size < HP.objs.size := by rw [hC]; exact Nat.lt_succ_self _
 have hDC : s2.heap.objs.size ≠ HP.objs.size := Nat.ne_of_lt hCl
 have old : ∀ b o, s2.heap.get? b = some o → h₁.get? b = some o := fun b o e => hsb₁.extBut b o (by have := Heap.lt_size e; exact Nat.ne_of_lt (Nat.lt_trans this hCl)) (Heap.get?_push_of_some _ (hHP ▸ Heap.get?_push_of_some _ e))
 have hacc : h₁.get? s2.heap.objs.size = some { cls := .type "list", data := .seq ([] : List Value).toArray 0 } := hsb₁.extBut _ _ hDC (Heap.get?_push_of_some _ (hHP ▸ Heap.get?_push_size _ rfl))
 have hD : H2 s2.heap.objs.size = none := I2.hok.fresh (Nat.le_refl _)
 have nD : s2.heap.objs.size ∉ μ2 := fun z => Nat.lt_irrefl _ (h2.mem_lt I2 z)
 have st1 : tn 0 h₁ := T.keep _ _ _ st2 fun b _ o e => old b o e
 have fpX : ∀ (H' : Hp) (b : Addr), b ∈ fp → H' b = none → aH2 (R4 X scope N HP.objs.size s2 H2 fp) [] H' b := fun H' b hb hn =>
  ⟨hn, Nat.ne_of_lt (Nat.lt_trans (hfp b hb) hCl), fun z => by
   rcases List.mem_cons.mp (I2.stkSub b z) with e | e
   · exact (f2 b hb).2.1 e
   · exact (f2 b hb).2.2.1 e, .inl hb, fun x c e => (f2 b hb).2.2.2.2.1 x c (Q6 e), fun p hp => absurd (show p ∈ ([] : PNS) from hp) (by simp)⟩
 have hcX : (R4 X scope N HP.objs.size s2 H2 fp).calm = true := hc
 have p3 := bO6 (d7.bind p2)
 generalize hDD : s2.heap.objs.size = DD at *
 have loop : ∀ s₃ : Shared, s₃ = { s2 with heap := h₁, toks := s2.toks + ([] : List (Str × Value)).length } →
  codeAny (model X.prog X.w) X.A (.compLoop (.ListComp elt [⟨tg, iter, ifs, 0⟩] scope pos) 0 (.ref itA) (.ref DD) (compEnvC scope (aC9 X.env scope.names []) HP.objs.size X.env))
   (compPost (model X.prog X.w) X.A X.xe use PQ (.ref DD) HP.objs.size) s₃ := by
  rintro s₃ rfl
  refine bF7 (cZ4 (R4 X scope N HP.objs.size s2 H2 fp) Z Q gg tt fe src fp tn DD μ2 H2) (fun n s' h => cE0 (Y := R4 X scope N HP.objs.size s2 H2 fp) hcX (hg _ _ _ _) (ht _ _ _ _) (he _ _ _ _) T fpX hJ hlen (fun H' σ' s4 I4 q9 => ?_) n s' h fun m s h1 h2 => ⟨m, h1, h2⟩) src.items.length
   ⟨0, [], [], X4 caps σ, upd H2 DD (.lst []), X4 caps dσ, μ2, G2, rfl, Nat.zero_le _, Nat.le_refl _, ?_, st1, fun b hb => ?_, v8, nD, ?_, ?_, ?_, rfl, ?_⟩
  · obtain ⟨m, hn, _⟩ := I4.loc
    exact fin DD HP.objs.size s4 H' m _ hn (fun h'' sb => cL0 I2 (fun b hb => f2 b hb) (by rw [hDD]; exact hCl) I4 sb) I4.free (fun H9 hn9 => I2.fpOk (by rw [hDD]; exact Nat.le_of_lt hCl) hn9) q9
  · have := bR8 (h₁ := h₁) (tk := s2.toks + ([] : List (Str × Value)).length) I2 k (C := HP.objs.size) (by rw [hDD]; exact hCl) f2 (fun b hb => by rw [hDD]; exact hfp b hb) old hns₁ (by rw [hDD]; exact hacc)
    rw [hDD] at this
    exact this
  · rw [m5 (Nat.ne_of_lt (hfp b hb))]; exact (f2 b hb).1
  · rw [aG6, aJ3 hD]; exact Ext.refl _ _
  · rw [aG6, aJ3 hD]; exact h2
  · rw [aG6, aJ3 hD]; exact bZ7 (sr.mono x2)
  · rw [aG6, aJ3 hD, List.drop_zero]
    exact p3
 exact codeAny_compStart_list (loop _ rfl) (T.self _ 0 _ _ _ st1 (loop _ rfl))
theorem cO4 (hc : X.calm = true) (hi : DI X Z tg iter it) (k : aA0 X scope N caps)
 (hg : ∀ C s H ex, DG (R4 X scope N C s H ex) ZF tg gg) (ht : ∀ C s H ex, DTs (R4 X scope N C s H ex) ZF ifs tt) (he : ∀ C s H ex, DE (R4 X scope N C s H ex) ZF elt fe)
 (hs : ∀ x, foldedSetIterable iter X.env x = pure x) : DE X Z (.ListComp elt [⟨tg, iter, ifs, 0⟩] scope pos) (R9 it caps gg tt fe) := ⟨by
 intro pins s σ H Q I hE0
 refine hE0.elim fun dσ μ G sr hr p => ?_
 rw [eval_ListComp]
 exact cA3 (use := none) hc hi k hg ht he hs I sr hr p fun DD C s4 H' m o hn fin _ _ q9 => ⟨m, hn, fun h'' sb => ⟨.ref DD, H', fin h'' sb, rfl, q9⟩⟩⟩
end
noncomputable def M5 (r : Nat) : M DO := fun G => match G[r]? with
 | some o => some (.ok o, G)
 | none => none
def listOf : DO → M (List D)
 | .lst l => pure l
 | .rol l => pure l
 | .dct _ => M.stuck
 | .rod _ => M.stuck
def dQ3 : D → M (List D)
 | .tup l => pure l
 | .ref r => M5 r >>= listOf
 | _ => M.stuck
def aC7 {α : Type} : Option α → M α
 | some a => pure a
 | none => M.stuck
section
variable {X : Cx} {Z : XC}
theorem IxR.mono {r r' : R2} (h : IxR X r) (k : ∀ x y H Q, r' x y H Q → r x y H Q) : IxR X r' := fun va sl pins s σ H x y v u Q I rx ry q hs => h va sl pins s σ H x y v u Q I rx ry (k x y H Q q) hs
variable {c : Wc} {μ : List Addr} {H : Hp} {G : DH}
theorem J2 {α : Type} {r : Nat} {f : DO → M α} {K : α → List Addr → DH → Hp → Prop} (p : d7 c Z μ H ((M5 r >>= f) G) K) : ∃ o, G[r]? = some o ∧ d7 c Z μ H (f o G) K := by
 rw [M.bind_eq] at p
 unfold M5 at p
 rcases e : G[r]? with _ | o
 · rw [e] at p; exact p.elim
 · rw [e] at p; exact ⟨o, rfl, p⟩
theorem V6 {α β : Type} {r : Option β} {f : β → M α} {K : α → List Addr → DH → Hp → Prop} (p : d7 c Z μ H ((aC7 r >>= f) G) K) : ∃ o, r = some o ∧ d7 c Z μ H (f o G) K := by
 rcases r with _ | o
 · exact p.elim
 · exact ⟨o, rfl, p⟩
theorem aQ3 {α : Type} {d : D} {v : V} {f : List D → M α} {K : α → List Addr → DH → Hp → Prop} (h : m6 c μ G H) (r : d8 c μ H d v) (p : d7 c Z μ H ((dQ3 d >>= f) G) K) :
 ∃ l a vs, v = .ref a ∧ j9 c μ H l vs ∧ d7 c Z μ H (f l G) K ∧ ((d = .tup l ∧ SqT c.K H a vs) ∨ (∃ i, d = .ref i ∧ μ[i]? = some a ∧ ((G[i]? = some (.lst l) ∧ H a = some (.lst vs)) ∨ (G[i]? = some (.rol l) ∧ RoL c.K H a vs)))) := by
 rcases d with _ | _ | _ | _ | l | i | _ | _ <;> try (exact p.elim; done)
 ·
   unfold d8 at r
   obtain ⟨a, vs, e, q, rl⟩ := r
   exact ⟨l, a, vs, e, rl, p, .inl ⟨rfl, q⟩⟩
 ·
   unfold d8 at r
   obtain ⟨a, m, e⟩ := r
   have p' : d7 c Z μ H ((M5 i >>= fun o => listOf o >>= f) G) K := by rw [← M.bind_assoc]; exact p
   obtain ⟨o, g, p2⟩ := J2 p'
   have ro := h.obj i o a g m
   rcases o with l | l | l | l
   · obtain ⟨vs, q, rl⟩ := ro; exact ⟨l, a, vs, e, rl, p2, .inr ⟨i, rfl, m, .inl ⟨g, q⟩⟩⟩
   · obtain ⟨vs, q, rl⟩ := ro; exact ⟨l, a, vs, e, rl, p2, .inr ⟨i, rfl, m, .inr ⟨g, q⟩⟩⟩
   · exact p2.elim
   · exact p2.elim
theorem W8 {i : Int} {v : V} (r : d8 c μ H (.int i) v) : v = .int i := by unfold d8 at r; exact r
theorem aC6 {i : Str} {v : V} (r : d8 c μ H (.str i) v) : v = .str i := by unfold d8 at r; exact r
theorem cA6 {i : Bool} {v : V} (r : d8 c μ H (.bl i) v) : v = .bl i := by unfold d8 at r; exact r
theorem dI8 {v : V} (r : d8 c μ H .non v) : v = .non := by unfold d8 at r; exact r
theorem ofI {i : Int} : d8 c μ H (.int i) (.int i) := by unfold d8; rfl
theorem ofS {i : Str} : d8 c μ H (.str i) (.str i) := by unfold d8; rfl
theorem ofB {i : Bool} : d8 c μ H (.bl i) (.bl i) := by unfold d8; rfl
theorem ofN : d8 c μ H .non .non := by unfold d8; rfl
def bU1 (g : Int → Int → M D) : D → D → M D := fun x y => match x, y with
 | .int i, .int j => g i j
 | _, _ => M.stuck
theorem bJ6 {f : Value → Value → Sem Value} {C : Int → Int → Prop} [∀ i j, Decidable (C i j)] {g : Int → Int → Int} (h : OpR X f (rI C fun i j => .int (g i j))) : OpD X Z f (bU1 fun i j => if C i j then pure (.int (g i j)) else M.stuck) :=
 OpD.of h fun x y H Q hE0 => hE0.elim fun dx dy μ G rx ry hr p => by
  rcases dx with _ | _ | _ | _ | _ | _ | _ | _ <;> rcases dy with _ | _ | _ | _ | _ | _ | _ | _ <;> first
   | exact p.elim
   | skip
  rename_i i j
  unfold bU1 at p
  dsimp only at p
  split at p
  · rename_i hc
    exact ⟨i, j, W8 rx, W8 ry, hc, d7.ok p hr _ ofI⟩
  · exact p.elim
theorem cN2 {f : Value → Value → Sem Value} {g : Int → Int → Int} (h : OpR X f (rI0 fun i j => .int (g i j))) : OpD X Z f (bU1 fun i j => pure (.int (g i j))) :=
 OpD.of h fun x y H Q hE0 => hE0.elim fun dx dy μ G rx ry hr p => by
  rcases dx with _ | _ | _ | _ | _ | _ | _ | _ <;> rcases dy with _ | _ | _ | _ | _ | _ | _ | _ <;> first
   | exact p.elim
   | exact ⟨_, _, W8 rx, W8 ry, d7.ok p hr _ ofI⟩
def aP7 : D → D → M D := bU1 fun i j => pure (.int (i - j))
theorem od_sub : OpD X Z (binaryOp .Sub) aP7 := cN2 cJ1
noncomputable instance (i j : Int) : Decidable (bA8 i j) := by unfold bA8; infer_instance
noncomputable def bE8 (_ j : Int) : Prop := 0 < j ∧ j < 2 ^ 100
noncomputable instance (i j : Int) : Decidable (bE8 i j) := by unfold bE8; infer_instance
theorem cH1 : OpR X (binaryOp .FloorDiv) (rI bE8 fun i j => .int (i / j)) := opI fun i j _ _ _ _ _ hc q => by
 have h1 : (0 : Int) < j := hc.1
 have h2 : j < 2 ^ 100 := hc.2
 refine floordiv_int (by lia) (by rw [Int.fdiv_eq_ediv_of_nonneg i (by lia)]; exact q) (.inl (PyProof.noPylong_of_log2 ?_))
 have h3 : j.natAbs < 2 ^ 100 := by lia
 have h4 : j.natAbs ≠ 0 := by lia
 have := (Nat.log2_lt h4).mpr h3
 lia
def bB6 : D → D → M D := bU1 fun i j => if bE8 i j then pure (.int (i / j)) else M.stuck
theorem od_fdiv : OpD X Z (binaryOp .FloorDiv) bB6 := bJ6 cH1
def aU7 : D → D → M D := bU1 fun i j => if 0 < j then pure (.int (i % j)) else M.stuck
theorem od_mod : OpD X Z (binaryOp .Mod) aU7 := bJ6 (C := fun _ j => 0 < j) cZ3
noncomputable instance (i j : Int) : Decidable (cD4 i j) := by unfold cD4; infer_instance
def cM6 : D → D → M D := bU1 fun i j => if cD4 i j then pure (.int (i ^ j.toNat)) else M.stuck
theorem od_pow : OpD X Z (binaryOp .Pow) cM6 := bJ6 cJ4
theorem cJ9 {prog : Program} {w : World} {A : Around} {E : VSP} {s : Shared} {t b : Addr} {ws : List Value} {Q : VSP} (ht : IsTup s.heap t #[]) (hb : IsTup s.heap b ws.toArray)
 (h1 : Q (.ref b) s) : wpAny (model prog w) A (binaryOp .Add (.ref t) (.ref b)) Q E s := by
 obtain ⟨⟨cls, dd, data, sl⟩, ho, hc, n, hd⟩ := id ht
 obtain ⟨⟨cls2, dd2, data2, sl2⟩, ho2, hc2, n2, hd2⟩ := id hb
 simp only at hc hd hc2 hd2
 subst hc hd hc2 hd2
 exact concat_meets ⟨_, ho, rfl⟩ ⟨_, ho2, rfl⟩ noFill_tuple_add seq_tuple_add PySem.F.slot_tuple_add PySem.F.entry_tuple_add (PySem.F.args_tuple_add_2 _ _)
  (tuple_addW0 t b #[] ws.toArray n n2 dd dd2 sl sl2 (by simp)) ⟨ho, ho2, h1⟩
def dB8 (K : PySem.W.Frag) : R2 := fun x y H Q => ∃ a b ys, x = .ref a ∧ y = .ref b ∧ SqT K H a [] ∧ SqT K H b ys ∧ Q (.ref b) H
theorem cJ8 : OpR X (binaryOp .Add) (dB8 X.K) := by
 intro pins s σ H x y v u Q I rx ry h
 obtain ⟨a, b, ys, rfl, rfl, ha, hb, q⟩ := h
 cases rx
 cases ry
 obtain ⟨its, r, p, _⟩ := I.tuple ha
 obtain ⟨its2, r2, p2, _⟩ := I.tuple hb
 cases r
 exact cJ9 p p2 ⟨.ref b, H, I, rfl, q⟩
def addD : D → D → M D := fun x y => match x, y with
 | .int i, .int j => pure (.int (i + j))
 | .str a, .str b => if a.length + b.length ≤ sizeLine then pure (.str (a ++ b)) else M.stuck
 | .tup a, .tup b => if a.length + b.length ≤ sizeLine then pure (.tup (a ++ b)) else M.stuck
 | .ref i, .ref j => do
   match ← M5 i, ← M5 j with
   | .lst a, .lst b => if a.length + b.length ≤ sizeLine then K7 (.lst (a ++ b)) else M.stuck
   | _, _ => M.stuck
 | _, _ => M.stuck
theorem aQ0 {xs : List D} {vs : List V} {Q : VK} (h : m6 c μ G H) {a : Addr} (q : SqT c.K H a vs) (r : j9 c μ H xs vs)
 (p : d7 c Z μ H (some (Except.ok (.tup xs), G)) fun d μ' _ H' => ∀ v, d8 c μ' H' d v → Q v H') : Q (.ref a) H := d7.ok p h _ (by unfold d8; exact ⟨a, vs, rfl, q, r⟩)
theorem od_add : OpD X Z (binaryOp .Add) addD :=
 OpD.of (OpR.or dF8 (OpR.or bR1 (OpR.or cS8 (OpR.or cJ8 dB9)))) fun x y H Q hE0 => hE0.elim fun dx dy μ G rx ry hr p => by
  rcases dx with _ | _ | _ | _ | _ | _ | _ | _ <;> rcases dy with _ | _ | _ | _ | _ | _ | _ | _ <;> first
   | exact p.elim
   | skip
  · exact .inl ⟨_, _, W8 rx, W8 ry, d7.ok p hr _ ofI⟩
  · rename_i a b
    refine .inr (.inl ?_)
    unfold addD at p
    dsimp only at p
    split at p
    · rename_i hz
      exact ⟨a, b, aC6 rx, aC6 ry, hz, d7.ok p hr _ ofS⟩
    · exact p.elim
  · rename_i a b
    unfold d8 at rx ry
    obtain ⟨ax, vx, rfl, qx, lx⟩ := rx
    obtain ⟨ay, vy, rfl, qy, ly⟩ := ry
    unfold addD at p
    dsimp only at p
    split at p
    · rename_i hz
      by_cases hv : vx = []
      · subst hv
        rcases a with _ | ⟨_, _⟩
        · exact .inr (.inr (.inr (.inl ⟨ax, ay, vy, rfl, rfl, qx, qy, aQ0 hr qy ly p⟩)))
        · obtain ⟨_, _, z, _⟩ := lx; cases z
      · refine .inr (.inr (.inl ⟨ax, ay, vx, vy, rfl, rfl, qx, qy, hv, by rw [← lx.length, ← ly.length]; exact hz, ?_⟩))
        refine ⟨fun hy => ?_, fun hy q hq => aO2 hr (lx.append ly) p q hq⟩
        subst hy
        refine aQ0 hr qx ?_ p
        rcases b with _ | ⟨_, _⟩
        · rw [List.append_nil]; exact lx
        · obtain ⟨_, _, z, _⟩ := ly; cases z
    · exact p.elim
  · rename_i i j
    unfold d8 at rx ry
    obtain ⟨ax, mx, rfl⟩ := rx
    obtain ⟨ay, my, rfl⟩ := ry
    obtain ⟨ox, gx, p⟩ := J2 p
    obtain ⟨oy, gy, p⟩ := J2 p
    have hx := hr.obj i ox ax gx mx
    have hy := hr.obj j oy ay gy my
    rcases ox with _ | _ | _ | _ <;> rcases oy with _ | _ | _ | _ <;> first
     | exact p.elim
     | skip
    obtain ⟨vx, ex, lx⟩ := hx
    obtain ⟨vy, ey, ly⟩ := hy
    dsimp only at p
    split at p
    · rename_i hz
      exact .inr (.inr (.inr (.inr ⟨ax, ay, vx, vy, rfl, rfl, ex, ey, by rw [← lx.length, ← ly.length]; exact hz, fun q hq => aD1 hr (lx.append ly) p q hq⟩)))
    · exact p.elim
end
noncomputable def aA2 (G : DH) : D → Option (Bool × List D)
 | .tup l => some (true, l)
 | .ref i => match G[i]? with
   | some (.lst l) => some (false, l)
   | some (.rol l) => some (false, l)
   | _ => none
 | _ => none
noncomputable def aK4 : D → Bool
 | .non => true
 | .bl _ => true
 | .int _ => true
 | .str _ => true
 | _ => false
def eqS : D → D → Option Bool
 | .non, .non => some true
 | .bl a, .bl b => some (a == b)
 | .int a, .int b => some (a == b)
 | .str a, .str b => some (a == b)
 | .bl a, .int b => some ((if a then (1 : Int) else 0) == b)
 | .int a, .bl b => some (a == (if b then (1 : Int) else 0))
 | x, y => if aK4 x && aK4 y then some false else none
noncomputable def eqL (f : D → D → Option Bool) : List D → List D → Option Bool
 | [], [] => some true
 | [], _ :: _ => some false
 | _ :: _, [] => some false
 | x :: xs, y :: ys => match f x y, eqL f xs ys with
   | some e, some r => some (e && r)
   | _, _ => none
def eqN : Nat → DH → D → D → Option Bool
 | 0, _, _, _ => none
 | n + 1, G, x, y => match aA2 G x, aA2 G y with
   | some (k1, a), some (k2, b) => if k1 = k2 then (if k1 = false ∧ a.length ≠ b.length then some false else eqL (eqN n G) a b) else some false
   | some _, none => if aK4 y then some false else none
   | none, some _ => if aK4 x then some false else none
   | none, none => eqS x y
theorem cM1 {n : Nat} {G : DH} {x y : D} : eqN (n + 1) G x y = match aA2 G x, aA2 G y with
 | some (k1, a), some (k2, b) => if k1 = k2 then (if k1 = false ∧ a.length ≠ b.length then some false else eqL (eqN n G) a b) else some false
 | some _, none => if aK4 y then some false else none
 | none, some _ => if aK4 x then some false else none
 | none, none => eqS x y := rfl
theorem cH8 {f : D → D → Option Bool} {x y : D} {xs ys : List D} : eqL f (x :: xs) (y :: ys) = match f x y, eqL f xs ys with
 | some e, some r => some (e && r)
 | _, _ => none := rfl
theorem bD5 {f : D → D → Option Bool} {e : Nat → Bool} : ∀ (a b : List D) (r : Bool), eqL f a b = some r → (∀ (j : Nat) x y, a[j]? = some x → b[j]? = some y → f x y = some (e j)) → r = ((List.range (min a.length b.length)).all e && a.length == b.length)
 | [], [], r, h, _ => by cases h; rfl
 | [], _ :: _, r, h, _ => by cases h; simp
 | _ :: _, [], r, h, _ => by cases h; simp
 | x :: xs, y :: ys, r, h, he => by
   rw [cH8] at h
   have h0 := he 0 x y rfl rfl
   rw [h0] at h
   rcases hr : eqL f xs ys with _ | r'
   · rw [hr] at h; exact m9 h
   ·
     rw [hr] at h
     have ih := bD5 (e := fun j => e (j + 1)) xs ys r' hr fun j x' y' h1 h2 => he (j + 1) x' y' (by simpa using h1) (by simpa using h2)
     cases h
     rw [ih]
     have : min (x :: xs).length (y :: ys).length = min xs.length ys.length + 1 := by simp only [List.length_cons]; lia
     rw [this, List.range_succ_eq_map, List.all_cons, List.all_map]
     simp [Bool.and_assoc, Function.comp_def]
theorem aY3 {f : D → D → Option Bool} : ∀ (a b : List D) (r : Bool), eqL f a b = some r → ∀ (j : Nat) x y, a[j]? = some x → b[j]? = some y → ∃ e, f x y = some e
 | [], _, _, _, _, _, _, h, _ => by simp at h
 | _ :: _, [], _, _, _, _, _, _, h => by simp at h
 | x :: xs, y :: ys, r, h, j, x', y', h1, h2 => by
   rw [cH8] at h
   rcases hf : f x y with _ | e
   · rw [hf] at h; exact m9 h
   ·
     rcases hr : eqL f xs ys with _ | r'
     · rw [hf, hr] at h; exact m9 h
     ·
       cases j with
       | zero => simp at h1 h2; subst h1 h2; exact ⟨e, hf⟩
       | succ j => exact aY3 xs ys r' hr j x' y' (by simpa using h1) (by simpa using h2)
section
variable {X : Cx} {pins : PNS} {σ : St} {H : Hp} {s : Shared} {μ : List Addr} {G : DH}
noncomputable def bN0 (s : Shared) (k : Bool) (a : Addr) (its : List Value) : Prop := if k then s.heap.IsTuple a its.toArray else s.heap.IsList a its.toArray
theorem X5 (I : Inv X pins σ H s) (h : m6 (wc X) μ G H) {d : D} {x : V} {v : Value} {k : Bool} {l : List D} (e : aA2 G d = some (k, l)) (r : d8 (wc X) μ H d x) (rv : o4 x v) :
 ∃ a vs its, x = .ref a ∧ v = .ref a ∧ j9 (wc X) μ H l vs ∧ o5 vs its ∧ bN0 s k a its ∧ (if k then SqT X.K H a vs else SqL X.K H a vs) := by
 rcases d with _ | _ | _ | _ | l' | i | _ | _ <;> try (cases e; done)
 ·
   unfold aA2 at e
   cases e
   unfold d8 at r
   obtain ⟨a, vs, rfl, q, rl⟩ := r
   obtain ⟨its, rr, p, _⟩ := I.tuple q
   exact ⟨a, vs, its, rfl, rv, rl, rr, p, q⟩
 ·
   have e' : (match G[i]? with | some (.lst l) => some (false, l) | some (.rol l) => some (false, l) | _ => none) = some (k, l) := e
   unfold d8 at r
   obtain ⟨a, m, rfl⟩ := r
   have key : ∀ vs, SqL X.K H a vs → j9 (wc X) μ H l vs → k = false → ∃ a' vs its, V.ref a = .ref a' ∧ v = .ref a' ∧ j9 (wc X) μ H l vs ∧ o5 vs its ∧ bN0 s k a' its ∧ (if k then SqT X.K H a' vs else SqL X.K H a' vs) := fun vs q rl hk => by
    subst hk
    obtain ⟨its, rr, p, _⟩ := I.list q
    exact ⟨a, vs, its, rfl, rv, rl, rr, p.isList, q⟩
   generalize g : G[i]? = o at e'
   rcases o with _ | l' | l' | _ | _ <;> cases e'
   · obtain ⟨vs, q, rl⟩ := h.obj i _ a g m
     exact key vs (SqL.of q) rl rfl
   · obtain ⟨vs, q, rl⟩ := h.obj i _ a g m
     exact key vs q.sq rl rfl
theorem aZ0 {d : D} {a : Addr} {c : Wc} (hs : aK4 d = true) (r : d8 c μ H d (.ref a)) : False := by
 cases d <;> first
  | exact absurd (show false = true from hs) Bool.false_ne_true
  | (unfold d8 at r; cases r)
theorem bK2 {x y : D} {b : Bool} (h : eqS x y = some b) : aK4 x = true ∧ aK4 y = true := by
 rcases x with _ | _ | _ | _ | _ | _ | _ | _ <;> rcases y with _ | _ | _ | _ | _ | _ | _ | _ <;> first
  | exact ⟨rfl, rfl⟩
  | (cases h; done)
theorem cH5 {x y : D} {b : Bool} {v : V} {c : Wc} (h : eqS x y = some b) (rx : d8 c μ H x v) (ry : d8 c μ H y v) : b = true := by
 obtain ⟨s1, s2⟩ := bK2 h
 rcases x with _ | _ | _ | _ | _ | _ | _ | _ <;> rcases y with _ | _ | _ | _ | _ | _ | _ | _ <;> first
  | (cases s1; done)
  | (cases s2; done)
  | (unfold d8 at rx ry; rw [rx] at ry; cases ry; done)
  | (unfold d8 at rx ry; rw [rx] at ry; cases ry; cases h; first | rfl | simp)
theorem bR4 (I : Inv X pins σ H s) {k k' : Bool} {a : Addr} {its its' : List Value} (h1 : bN0 s k a its) (h2 : bN0 s k' a its') : k = k' := by
 cases k <;> cases k' <;> first
  | rfl
  | exact absurd rfl (SeqAt.ne_of_list_tuple h1 h2)
  | exact absurd rfl (SeqAt.ne_of_list_tuple h2 h1)
theorem bP2 {c : Wc} {f : D → D → Option Bool} : ∀ (l l' : List D) (vs : List V) (b : Bool), j9 c μ H l vs → j9 c μ H l' vs → (∀ d d' v b, v ∈ vs → d8 c μ H d v → d8 c μ H d' v → f d d' = some b → b = true) → eqL f l l' = some b → b = true
 | [], [], _, b, _, _, _, e => by cases e; rfl
 | [], _ :: _, vs, b, r1, r2, _, _ => by cases r1; obtain ⟨_, _, z, _⟩ := r2; exact bU9 z
 | _ :: _, [], vs, b, r1, r2, _, _ => by cases r2; obtain ⟨_, _, z, _⟩ := r1; cases z
 | d :: ds, d' :: ds', vs, b, r1, r2, k, e => by
   obtain ⟨v0, vr, rfl, q0, t0⟩ := r1
   obtain ⟨v1, vr', e1, q1, t1⟩ := r2
   cases e1
   rw [cH8] at e
   rcases hf : f d d' with _ | e0
   · rw [hf] at e; exact m9 e
   ·
     rcases hr : eqL f ds ds' with _ | r'
     · rw [hf, hr] at e; exact m9 e
     ·
       rw [hf, hr] at e
       cases e
       have z1 := k d d' v0 e0 List.mem_cons_self q0 q1 hf
       have z2 := bP2 ds ds' vr r' t0 t1 (fun a a' v b hm => k a a' v b (List.mem_cons_of_mem _ hm)) hr
       rw [z1, z2]; rfl
theorem bO7 (I : Inv X pins σ H s) (h : m6 (wc X) μ G H) : ∀ (n : Nat) {dx dy : D} {x : V} {v : Value} {b : Bool}, d8 (wc X) μ H dx x → d8 (wc X) μ H dy x → o4 x v → eqN n G dx dy = some b → b = true
 | 0, _, _, _, _, _, _, _, _, e => by exact m9 e
 | n + 1, dx, dy, x, v, b, rx, ry, rv, e => by
   rw [cM1] at e
   rcases hx : aA2 G dx with _ | p
   ·
     rw [hx] at e
     rcases hy : aA2 G dy with _ | p
     · rw [hy] at e; exact cH5 e rx ry
     ·
       obtain ⟨k, l⟩ := p
       rw [hy] at e
       dsimp only at e
       split at e
       · rename_i hs
         obtain ⟨a, _, _, rfl, _⟩ := X5 I h hy ry rv
         exact (aZ0 hs rx).elim
       · exact m9 e
   ·
     obtain ⟨k, l⟩ := p
     rw [hx] at e
     rcases hy : aA2 G dy with _ | p'
     ·
       rw [hy] at e
       dsimp only at e
       split at e
       · rename_i hs
         obtain ⟨a, _, _, rfl, _⟩ := X5 I h hx rx rv
         exact (aZ0 hs ry).elim
       · exact m9 e
     ·
       obtain ⟨k', l'⟩ := p'
       rw [hy] at e
       dsimp only at e
       obtain ⟨a, vs, its, rfl, rfl, rl, rr, sq, q⟩ := X5 I h hx rx rv
       obtain ⟨a', vs', its', ea, _, rl', rr', sq', q'⟩ := X5 I h hy ry rv
       cases ea
       have hk : k = k' := bR4 I sq sq'
       subst hk
       have hvs : vs = vs' := by
        rcases k with _ | _
        · exact I.list_inj q q'
        · exact I.tuple_inj q q'
       subst hvs
       rw [if_pos rfl, if_neg (by rw [rl.length, rl'.length]; simp)] at e
       have hv : ∀ v ∈ vs, ∃ u, o4 v u := fun v hv => by
        obtain ⟨i, hi⟩ := List.getElem?_of_mem hv
        obtain ⟨u, _, ru⟩ := rr.get hi
        exact ⟨u, ru⟩
       exact bP2 l l' vs b rl rl' (fun d d' v b hm r1 r2 ef => by
        obtain ⟨u, ru⟩ := hv v hm
        exact bO7 I h n r1 r2 ru ef) e
theorem dF7 {A : Around} {dx dy : D} {x y : V} {v u : Value} {b : Bool} {c : Wc} (rx : d8 c μ H dx x) (ry : d8 c μ H dy y) (rv : o4 x v) (ru : o4 y u) (e : eqS dx dy = some b) :
 SeqAt.RcAt A s v u b ∧ SeqAt.RcNeAt A s v u (!b) ∧ SeqAt.EqAt A s v u b := by
 obtain ⟨s1, s2⟩ := bK2 e
 rcases dx with _ | i | i | i | _ | _ | _ | _ <;> try (cases s1; done)
 ·
   unfold d8 at rx; subst rx; cases rv
   rcases dy with _ | j | j | j | _ | _ | _ | _ <;> try (cases s2; done)
   · unfold d8 at ry; subst ry; cases ru; cases e; exact ⟨SeqAt.RcAt.none_none, SeqAt.RcNeAt.none_none, SeqAt.EqAt.same _⟩
   · unfold d8 at ry; subst ry; cases ru; cases e; exact ⟨SeqAt.RcAt.none_bool _, SeqAt.RcNeAt.none_bool _, SeqAt.EqAt.none_bool _⟩
   · unfold d8 at ry; subst ry; obtain ⟨t, rfl⟩ := ru; cases e; exact ⟨SeqAt.RcAt.none_int _ _, SeqAt.RcNeAt.none_int _ _, SeqAt.EqAt.none_int _ _⟩
   · unfold d8 at ry; subst ry; obtain ⟨t, rfl⟩ := ru; cases e; exact ⟨SeqAt.RcAt.none_str _ _, SeqAt.RcNeAt.none_str _ _, SeqAt.EqAt.none_str _ _⟩
 ·
   unfold d8 at rx; subst rx; cases rv
   rcases dy with _ | j | j | j | _ | _ | _ | _ <;> try (cases s2; done)
   · unfold d8 at ry; subst ry; cases ru; cases e; exact ⟨SeqAt.RcAt.bool_none _, SeqAt.RcNeAt.bool_none _, SeqAt.EqAt.bool_none _⟩
   · unfold d8 at ry; subst ry; cases ru; cases e; exact ⟨SeqAt.RcAt.bool_bool _ _, SeqAt.RcNeAt.bool_bool _ _, SeqAt.EqAt.bool_bool _ _⟩
   · unfold d8 at ry; subst ry; obtain ⟨t, rfl⟩ := ru; cases e; exact ⟨SeqAt.RcAt.bool_int _ _ _, SeqAt.RcNeAt.bool_int _ _ _, SeqAt.EqAt.bool_int _ _ _⟩
   · unfold d8 at ry; subst ry; obtain ⟨t, rfl⟩ := ru; cases e; exact ⟨SeqAt.RcAt.bool_str _ _ _, SeqAt.RcNeAt.bool_str _ _ _, SeqAt.EqAt.bool_str _ _ _⟩
 ·
   unfold d8 at rx; subst rx; obtain ⟨t, rfl⟩ := rv
   rcases dy with _ | j | j | j | _ | _ | _ | _ <;> try (cases s2; done)
   · unfold d8 at ry; subst ry; cases ru; cases e; exact ⟨SeqAt.RcAt.int_none _ _, SeqAt.RcNeAt.int_none _ _, SeqAt.EqAt.int_none _ _⟩
   · unfold d8 at ry; subst ry; cases ru; cases e; exact ⟨SeqAt.RcAt.int_bool _ _ _, SeqAt.RcNeAt.int_bool _ _ _, SeqAt.EqAt.int_bool _ _ _⟩
   · unfold d8 at ry; subst ry; obtain ⟨t, rfl⟩ := ru; cases e; exact ⟨SeqAt.RcAt.int_int _ _ _ _, SeqAt.RcNeAt.int_int _ _ _ _, SeqAt.EqAt.int_int _ _ _ _⟩
   · unfold d8 at ry; subst ry; obtain ⟨t, rfl⟩ := ru; cases e; exact ⟨SeqAt.RcAt.int_str _ _ _ _, SeqAt.RcNeAt.int_str _ _ _ _, SeqAt.EqAt.int_str _ _ _ _⟩
 ·
   unfold d8 at rx; subst rx; obtain ⟨t, rfl⟩ := rv
   rcases dy with _ | j | j | j | _ | _ | _ | _ <;> try (cases s2; done)
   · unfold d8 at ry; subst ry; cases ru; cases e; exact ⟨SeqAt.RcAt.str_none _ _, SeqAt.RcNeAt.str_none _ _, SeqAt.EqAt.str_none _ _⟩
   · unfold d8 at ry; subst ry; cases ru; cases e; exact ⟨SeqAt.RcAt.str_bool _ _ _, SeqAt.RcNeAt.str_bool _ _ _, SeqAt.EqAt.str_bool _ _ _⟩
   · unfold d8 at ry; subst ry; obtain ⟨t, rfl⟩ := ru; cases e; exact ⟨SeqAt.RcAt.str_int _ _ _ _, SeqAt.RcNeAt.str_int _ _ _ _, SeqAt.EqAt.str_int _ _ _ _⟩
   · unfold d8 at ry; subst ry; obtain ⟨t, rfl⟩ := ru; cases e; exact ⟨SeqAt.RcAt.str_str _ _ _ _, SeqAt.RcNeAt.str_str _ _ _ _, SeqAt.EqAt.str_str _ _ _ _⟩
theorem aS2 {A : Around} (hu : A.units < cLine) {k : Bool} {a : Addr} {its : List Value} (sq : bN0 s k a its) {dy : D} {y : V} {u : Value} {c : Wc} (ry : d8 c μ H dy y) (ru : o4 y u) (hs : aK4 dy = true) :
 (SeqAt.RcAt A s (.ref a) u false ∧ SeqAt.RcNeAt A s (.ref a) u true ∧ SeqAt.EqAt A s (.ref a) u false) ∧ (SeqAt.RcAt A s u (.ref a) false ∧ SeqAt.RcNeAt A s u (.ref a) true ∧ SeqAt.EqAt A s u (.ref a) false) := by
 rcases k with _ | _
 ·
   rcases dy with _ | j | j | j | _ | _ | _ | _ <;> try (cases hs; done)
   · unfold d8 at ry; subst ry; cases ru; exact ⟨⟨.list_none sq hu, .list_none sq hu, .list_none sq hu⟩, .none_list sq hu, .none_list sq hu, .none_list sq hu⟩
   · unfold d8 at ry; subst ry; cases ru; exact ⟨⟨.list_bool _ sq hu, .list_bool _ sq hu, .list_bool _ sq hu⟩, .bool_list _ sq hu, .bool_list _ sq hu, .bool_list _ sq hu⟩
   · unfold d8 at ry; subst ry; obtain ⟨t, rfl⟩ := ru; exact ⟨⟨.list_int _ _ sq hu, .list_int _ _ sq hu, .list_int _ _ sq hu⟩, .int_list _ _ sq hu, .int_list _ _ sq hu, .int_list _ _ sq hu⟩
   · unfold d8 at ry; subst ry; obtain ⟨t, rfl⟩ := ru; exact ⟨⟨.list_str _ _ sq hu, .list_str _ _ sq hu, .list_str _ _ sq hu⟩, .str_list _ _ sq hu, .str_list _ _ sq hu, .str_list _ _ sq hu⟩
 ·
   rcases dy with _ | j | j | j | _ | _ | _ | _ <;> try (cases hs; done)
   · unfold d8 at ry; subst ry; cases ru; exact ⟨⟨.tuple_none sq hu, .tuple_none sq hu, .tuple_none sq hu⟩, .none_tuple sq hu, .none_tuple sq hu, .none_tuple sq hu⟩
   · unfold d8 at ry; subst ry; cases ru; exact ⟨⟨.tuple_bool _ sq hu, .tuple_bool _ sq hu, .tuple_bool _ sq hu⟩, .bool_tuple _ sq hu, .bool_tuple _ sq hu, .bool_tuple _ sq hu⟩
   · unfold d8 at ry; subst ry; obtain ⟨t, rfl⟩ := ru; exact ⟨⟨.tuple_int _ _ sq hu, .tuple_int _ _ sq hu, .tuple_int _ _ sq hu⟩, .int_tuple _ _ sq hu, .int_tuple _ _ sq hu, .int_tuple _ _ sq hu⟩
   · unfold d8 at ry; subst ry; obtain ⟨t, rfl⟩ := ru; exact ⟨⟨.tuple_str _ _ sq hu, .tuple_str _ _ sq hu, .tuple_str _ _ sq hu⟩, .str_tuple _ _ sq hu, .str_tuple _ _ sq hu, .str_tuple _ _ sq hu⟩
theorem bW8 (I : Inv X pins σ H s) (h : m6 (wc X) μ G H) : ∀ (n : Nat) (A : Around), A.units + n < cLine → ∀ {dx dy : D} {x y : V} {v u : Value} {b : Bool}, d8 (wc X) μ H dx x → d8 (wc X) μ H dy y → o4 x v → o4 y u → eqN n G dx dy = some b →
 SeqAt.RcAt A s v u b ∧ SeqAt.RcNeAt A s v u (!b) ∧ SeqAt.EqAt A s v u b
 | 0, _, _, _, _, _, _, _, _, _, _, _, _, _, e => by exact m9 e
 | n + 1, A, hu, dx, dy, x, y, v, u, b, rx, ry, rv, ru, e => by
   have hu0 : A.units < cLine := by lia
   have hu1 : A.in1.units + n < cLine := by show A.units + 1 + n < cLine; lia
   have e0 := e
   rw [cM1] at e
   rcases hx : aA2 G dx with _ | p
   ·
     rw [hx] at e
     rcases hy : aA2 G dy with _ | p
     · rw [hy] at e; exact dF7 rx ry rv ru e
     ·
       obtain ⟨k, l⟩ := p
       rw [hy] at e
       dsimp only at e
       split at e
       · rename_i hs
         cases e
         obtain ⟨a, vs, its, rfl, rfl, _, _, sq, _⟩ := X5 I h hy ry ru
         exact (aS2 hu0 sq rx rv hs).2
       · exact m9 e
   ·
     obtain ⟨k, l⟩ := p
     rw [hx] at e
     obtain ⟨a, vs, its, rfl, rfl, rl, rr, sq, q⟩ := X5 I h hx rx rv
     rcases hy : aA2 G dy with _ | p'
     ·
       rw [hy] at e
       dsimp only at e
       split at e
       · rename_i hs
         cases e
         exact (aS2 hu0 sq ry ru hs).1
       · exact m9 e
     ·
       obtain ⟨k', l'⟩ := p'
       rw [hy] at e
       dsimp only at e
       obtain ⟨a', vs', its', rfl, rfl, rl', rr', sq', q'⟩ := X5 I h hy ry ru
       -- the two at one place
       have main : SeqAt.RcAt A s (.ref a) (.ref a') b ∧ SeqAt.RcNeAt A s (.ref a) (.ref a') (!b) := by
        have len1 : its.toArray.size = l.length := by rw [List.size_toArray, ← rr.length, rl.length]
        have len2 : its'.toArray.size = l'.length := by rw [List.size_toArray, ← rr'.length, rl'.length]
        by_cases hk : k = k'
        · subst hk
          rw [if_pos rfl] at e
          by_cases hlen : k = false ∧ l.length ≠ l'.length
          · rw [if_pos hlen] at e
            cases e
            obtain ⟨rfl, hne⟩ := hlen
            have hz : (its.toArray.size != its'.toArray.size) = true := by rw [len1, len2]; simpa using hne
            exact ⟨SeqAt.RcAt.lists_lengths sq sq' hz hu0, SeqAt.RcNeAt.lists_lengths sq sq' hz hu0⟩
          · rw [if_neg hlen] at e
            have items : ∀ j (h1 : j < its.toArray.size) (h2 : j < its'.toArray.size), ∃ e, eqN n G (l.getD j .non) (l'.getD j .non) = some e ∧ SeqAt.EqAt A.in1 s its.toArray[j] its'.toArray[j] e := fun j h1 h2 => by
             have j1 : j < l.length := by rw [← len1]; exact h1
             have j2 : j < l'.length := by rw [← len2]; exact h2
             have g1 : l[j]? = some l[j] := List.getElem?_eq_getElem j1
             have g2 : l'[j]? = some l'[j] := List.getElem?_eq_getElem j2
             obtain ⟨e1, he1⟩ := aY3 l l' b e j _ _ g1 g2
             obtain ⟨v1, hv1, r1⟩ := rl.get g1
             obtain ⟨v2, hv2, r2⟩ := rl'.get g2
             obtain ⟨u1, hu1', ru1⟩ := rr.get hv1
             obtain ⟨u2, hu2', ru2⟩ := rr'.get hv2
             have w1 : its.toArray[j] = u1 := by
              have : its.toArray[j]? = some u1 := by simpa using hu1'
              rw [Array.getElem?_eq_getElem h1] at this
              exact Option.some.inj this
             have w2 : its'.toArray[j] = u2 := by
              have : its'.toArray[j]? = some u2 := by simpa using hu2'
              rw [Array.getElem?_eq_getElem h2] at this
              exact Option.some.inj this
             rw [w1, w2]
             refine ⟨e1, ?_, (bW8 I h n A.in1 hu1 r1 r2 ru1 ru2 he1).2.2⟩
             rw [List.getD_eq_getElem?_getD, List.getD_eq_getElem?_getD, g1, g2]
             exact he1
            have hr := bD5 (e := fun j => (eqN n G (l.getD j .non) (l'.getD j .non)).getD false) l l' b e fun j x y g1 g2 => by
             obtain ⟨e1, he1⟩ := aY3 l l' b e j x y g1 g2
             rw [List.getD_eq_getElem?_getD, List.getD_eq_getElem?_getD, g1, g2]
             simp only [Option.getD_some]
             rw [he1]; rfl
            have he : ∀ j (h1 : j < its.toArray.size) (h2 : j < its'.toArray.size), SeqAt.EqAt A.in1 s its.toArray[j] its'.toArray[j] ((eqN n G (l.getD j .non) (l'.getD j .non)).getD false) := fun j h1 h2 => by
             obtain ⟨e1, he1, hh⟩ := items j h1 h2
             rw [he1]; exact hh
            rcases k with _ | _
            ·
              have hl : l.length = l'.length := Classical.byContradiction fun z => hlen ⟨rfl, z⟩
              have hsz : its.toArray.size = its'.toArray.size := by rw [len1, len2, hl]
              have z1 := SeqAt.RcAt.lists (A := A) sq sq' hsz hu0 he
              have z2 := SeqAt.RcNeAt.lists (A := A) sq sq' hsz hu0 he
              have hr2 : b = (List.range its.toArray.size).all fun j => (eqN n G (l.getD j .non) (l'.getD j .non)).getD false := by
               rw [hr, len1, hl]; simp
              rw [← hr2] at z1 z2
              exact ⟨z1, z2⟩
            ·
              have z1 := SeqAt.RcAt.tuples (A := A) sq sq' hu0 he
              have z2 := SeqAt.RcNeAt.tuples (A := A) sq sq' hu0 he
              rw [len1, len2, ← hr] at z1 z2
              exact ⟨z1, z2⟩
        · rw [if_neg hk] at e
          cases e
          cases k <;> cases k' <;> first
           | exact absurd rfl hk
           | exact ⟨SeqAt.RcAt.list_tuple sq sq' hu0, SeqAt.RcNeAt.list_tuple sq sq' hu0⟩
           | exact ⟨SeqAt.RcAt.tuple_list sq sq' hu0, SeqAt.RcNeAt.tuple_list sq sq' hu0⟩
       refine ⟨main.1, main.2, ?_⟩
       by_cases ha : a = a'
       · subst ha
         have : b = true := bO7 I h (n + 1) rx ry rv e0
         rw [this]
         exact SeqAt.EqAt.same _
       · exact SeqAt.EqAt.of_refs ha main.1
end
section
variable {X : Cx} {Z : XC}
def eqD : D → D → M D := fun x y G => match eqN 40 G x y with
 | some b => some (.ok (.bl b), G)
 | none => none
def neD : D → D → M D := fun x y G => match eqN 40 G x y with
 | some b => some (.ok (.bl (!b)), G)
 | none => none
theorem od_eq (hu : X.A.units + 64 < cLine) : OpD X Z (compareOp .Eq) eqD := ⟨by
 intro pins s σ H x y v u Q I rx ry hE0
 refine hE0.elim fun dx dy μ G rdx rdy hr p => ?_
 unfold eqD at p
 rcases e : eqN 40 G dx dy with _ | b
 · rw [e] at p; exact p.elim
 ·
   rw [e] at p
   exact (bW8 I hr 40 X.A (by lia) rdx rdy rx ry e).1 X.prog X.w X.xe _ ⟨.bl b, H, I, rfl, d7.ok p hr _ ofB⟩⟩
theorem od_ne (hu : X.A.units + 64 < cLine) : OpD X Z (compareOp .NotEq) neD := ⟨by
 intro pins s σ H x y v u Q I rx ry hE0
 refine hE0.elim fun dx dy μ G rdx rdy hr p => ?_
 unfold neD at p
 rcases e : eqN 40 G dx dy with _ | b
 · rw [e] at p; exact p.elim
 ·
   rw [e] at p
   exact (bW8 I hr 40 X.A (by lia) rdx rdy rx ry e).2.1 X.prog X.w X.xe _ ⟨.bl (!b), H, I, rfl, d7.ok p hr _ ofB⟩⟩
def leD : D → D → M D := fun x y => match x, y with
 | .int i, .int j => pure (.bl (decide (i ≤ j)))
 | .str i, .str j => pure (.bl (!decide (j.cps.toList < i.cps.toList)))
 | _, _ => M.stuck
def gtD : D → D → M D := fun x y => match x, y with
 | .int i, .int j => pure (.bl (decide (j < i)))
 | .str i, .str j => pure (.bl (decide (j.cps.toList < i.cps.toList)))
 | _, _ => M.stuck
theorem bV8 {op : CmpOp} {fi : Int → Int → Bool} {fs : Str → Str → Bool} {o : D → D → M D} (hi : OpR X (compareOp op) (rI0 fun i j => .bl (fi i j)))
 (hs : ∀ (i j : Str) (t u : Tok) (s : Shared) (Q : VSP) (E : VSP), Q (.bool (fs i j)) s → wpAny (model X.prog X.w) X.A (compareOp op (.str i t) (.str j u)) Q E s)
 (h1 : ∀ i j, o (.int i) (.int j) = pure (.bl (fi i j))) (h2 : ∀ i j, o (.str i) (.str j) = pure (.bl (fs i j)))
 (h3 : ∀ x y, (∀ i j, ¬ (x = .int i ∧ y = .int j)) → (∀ i j, ¬ (x = .str i ∧ y = .str j)) → o x y = M.stuck) : OpD X Z (compareOp op) o := ⟨by
 intro pins s σ H x y v u Q I rx ry hE0
 refine hE0.elim fun dx dy μ G rdx rdy hr p => ?_
 by_cases c1 : ∃ i j, dx = .int i ∧ dy = .int j
 · obtain ⟨i, j, rfl, rfl⟩ := c1
   rw [h1] at p
   exact hi pins s σ H x y v u Q I rx ry ⟨i, j, W8 rdx, W8 rdy, d7.ok p hr _ ofB⟩
 · by_cases c2 : ∃ i j, dx = .str i ∧ dy = .str j
   · obtain ⟨i, j, rfl, rfl⟩ := c2
     rw [h2] at p
     have e1 := aC6 rdx
     have e2 := aC6 rdy
     subst e1 e2
     obtain ⟨t, rfl⟩ := rx
     obtain ⟨t', rfl⟩ := ry
     exact hs i j t t' s _ _ ⟨.bl (fs i j), H, I, rfl, d7.ok p hr _ ofB⟩
   · rw [h3 dx dy (fun i j z => c1 ⟨i, j, z⟩) (fun i j z => c2 ⟨i, j, z⟩)] at p
     exact p.elim⟩
theorem od_le : OpD X Z (compareOp .LtE) leD := bV8 dI2 (fun _ _ _ _ _ _ _ q => PySem.P.le_str q) (fun _ _ => rfl) (fun _ _ => rfl) fun x y n1 n2 => by
 rcases x with _ | _ | _ | _ | _ | _ | _ | _ <;> rcases y with _ | _ | _ | _ | _ | _ | _ | _ <;> first
  | rfl
  | exact absurd ⟨rfl, rfl⟩ (n1 _ _)
  | exact absurd ⟨rfl, rfl⟩ (n2 _ _)
theorem od_gt : OpD X Z (compareOp .Gt) gtD := bV8 dJ3 (fun _ _ _ _ _ _ _ q => PySem.P.gt_str q) (fun _ _ => rfl) (fun _ _ => rfl) fun x y n1 n2 => by
 rcases x with _ | _ | _ | _ | _ | _ | _ | _ <;> rcases y with _ | _ | _ | _ | _ | _ | _ | _ <;> first
  | rfl
  | exact absurd ⟨rfl, rfl⟩ (n1 _ _)
  | exact absurd ⟨rfl, rfl⟩ (n2 _ _)
def bM9 : D → M D := fun x => match x with
 | .int i => pure (.int (-i))
 | _ => M.stuck
theorem ud_neg : UnD X Z (unaryOp .USub) bM9 := ⟨by
 intro pins s σ H x v Q I rx hE0
 refine hE0.elim fun dx μ G rdx hr p => ?_
 cases dx <;> first
  | exact p.elim
  | exact dC8 pins s σ H x v Q I rx ⟨_, W8 rdx, d7.ok p hr _ ofI⟩⟩
noncomputable instance (x : Str) (n : Int) : Decidable (PySem.MulOk x n) := by unfold PySem.MulOk; infer_instance
def aM1 : D → D → M D := fun x y => match x, y with
 | .int i, .int j => if bA8 i j then pure (.int (i * j)) else M.stuck
 | .str x, .int n => if PySem.MulOk x n then pure (.str (Txt.mul x n)) else M.stuck
 | _, _ => M.stuck
theorem bS8 : OpR X (binaryOp .Mult) (fun x y H Q => ∃ z n, x = .str z ∧ y = .int n ∧ PySem.MulOk z n ∧ Q (.str (Txt.mul z n)) H) := by
 intro pins s σ H x y v u Q I rx ry h
 obtain ⟨z, n, rfl, rfl, hk, q⟩ := h
 obtain ⟨t, rfl⟩ := rx
 obtain ⟨t', rfl⟩ := ry
 exact PySem.SB.mul hk fun t' k => ⟨.str _, H, I.tok _, ⟨_, rfl⟩, q⟩
theorem od_mul : OpD X Z (binaryOp .Mult) aM1 :=
 OpD.of (OpR.or dD2 bS8) fun x y H Q hE0 => hE0.elim fun dx dy μ G rdx rdy hr p => by
  rcases dx with _ | _ | _ | _ | _ | _ | _ | _ <;> rcases dy with _ | _ | _ | _ | _ | _ | _ | _ <;> first
   | exact p.elim
   | skip
  · unfold aM1 at p
    dsimp only at p
    split at p
    · rename_i hc; exact .inl ⟨_, _, W8 rdx, W8 rdy, hc, d7.ok p hr _ ofI⟩
    · exact p.elim
  · unfold aM1 at p
    dsimp only at p
    split at p
    · rename_i hc; exact .inr ⟨_, _, aC6 rdx, W8 rdy, hc, d7.ok p hr _ ofS⟩
    · exact p.elim
end
noncomputable def bS4 (A : Around) (s : Shared) (y x : Value) (b : Bool) : Prop :=
 ∀ (prog : Program) (w : World) (E : VSP) (Q : VSP), Q (.bool b) s → wpAny (model prog w) A (richCompare .Lt y x) Q E s
inductive LtR (A : Around) (s : Shared) : List Value → List Value → Bool → Prop
 | nil : LtR A s [] [] false
 | nilc {y ys} : LtR A s [] (y :: ys) true
 | cnil {x xs} : LtR A s (x :: xs) [] false
 | eq {x y xs ys b} : SeqAt.EqAt A s x y true → LtR A s xs ys b → LtR A s (x :: xs) (y :: ys) b
 | ne {x y xs ys b} : SeqAt.EqAt A s x y false → bS4 A s x y b → LtR A s (x :: xs) (y :: ys) b
section
open PySem.SeqAt
open PySem.AutoSeq1 (wpAny_loadPart')
open PySem.MeetsSeq PySem.MeetsSeq2 PySem.MeetsSeq3
theorem bQ6 (l b : Addr) (items items2 : Array Value) (n n2 : Nat) (dd dd2 : Option Addr) (sl sl2 : Array (Option Value)) (k : Bool) :
 Meets (Builtin.«tuple.__lt__» ⟨[.ref l, .ref b], []⟩)
  (fun A R s => s.heap.get? l = some { cls := .type "tuple", dict := dd, data := .seq items n, slots := sl } ∧ s.heap.get? b = some { cls := .type "tuple", dict := dd2, data := .seq items2 n2, slots := sl2 } ∧
    LtR A.in1 s items.toList items2.toList k ∧ R (.ok (.ret (.bool k))) s) :=
 .of_wp fun prog w A R s h => by
  obtain ⟨hp, g, d, tk, os⟩ := s; obtain ⟨hl, hb, hk, h⟩ := h
  have f2 := AutoSeq1.sub_tuple_tuple
  wp_walk using wpAny_loadPart' hl, wpAny_loadPart' hb, wpAny_forIn_list _ (fun t8 b s' => b.1 = none ∧ s' = ⟨hp, g, d, tk, os⟩ ∧ ∃ (vs ws : List Value), t8 = vs.zip ws ∧
   vs.length + items2.size = ws.length + items.size ∧ LtR A.in1 ⟨hp, g, d, tk, os⟩ vs ws k) _
  case turn =>
   rintro ⟨y, x⟩ t8 b s' ⟨hb', rfl, vs, ws, hz, hlen, hR⟩
   cases hR with
   | nil => exact cM8 hz
   | nilc => exact cM8 hz
   | cnil => exact cM8 hz
   | eq he hR' =>
     rw [List.zip_cons_cons] at hz
     injection hz with hyx hrest
     injection hyx with hy hx
     subst hy hx
     refine wpAny_bind (he prog w _ _ ?_)
     wp_walk
     simp only [List.length_cons] at hlen
     exact ⟨rfl, rfl, _, _, hrest, by lia, hR'⟩
   | ne he hc =>
     rw [List.zip_cons_cons] at hz
     injection hz with hyx hrest
     injection hyx with hy hx
     subst hy hx
     refine wpAny_bind (he prog w _ _ ?_)
     have hri := hc prog w
     wp_walk using hri
     exact ⟨_, rfl, h⟩
  case fin =>
   rintro ⟨b1, b2⟩ s' ⟨hb', rfl, vs, ws, hz, hlen, hR⟩
   simp only at hb'
   subst hb'
   have hv : k = decide (items.size < items2.size) := by
    cases hR with
    | nil => simp only [List.length_nil] at hlen; exact (decide_eq_false (by lia)).symm
    | nilc => simp only [List.length_nil, List.length_cons] at hlen; exact (decide_eq_true (by lia)).symm
    | cnil => simp only [List.length_nil, List.length_cons] at hlen; exact (decide_eq_false (by lia)).symm
    | eq _ _ => rw [List.zip_cons_cons] at hz; exact bU9 hz
    | ne _ _ => rw [List.zip_cons_cons] at hz; exact bU9 hz
   rw [hv] at h
   wp_walk
   exact ⟨_, rfl, by simpa [Builtin.Tuple.tupleCompareSizes] using h⟩
  case h =>
   exact ⟨rfl, rfl, items.toList, items2.toList, rfl, by simp; lia, hk⟩
theorem cC0 (l b : Addr) (items items2 : Array Value) (n n2 : Nat) (dd dd2 : Option Addr) (sl sl2 : Array (Option Value)) (k : Bool) : ∀ (vs ws : List Value) (i : Nat), items.toList.drop i = vs → items2.toList.drop i = ws → i ≤ items.size → i ≤ items2.size →
 Meets (Builtin.«list.__eq__.loop» ⟨[.ref l, .ref b, rawInt i, rawInt 0], []⟩)
  (fun A R s => s.heap.get? l = some { cls := .type "list", dict := dd, data := .seq items n, slots := sl } ∧ s.heap.get? b = some { cls := .type "list", dict := dd2, data := .seq items2 n2, slots := sl2 } ∧
    LtR A.in1 s vs ws k ∧ R (.ok (.ret (.bool k))) s) := by
 have dropn : ∀ (a : Array Value) (i : Nat), a.toList.drop i = [] → i ≤ a.size → i = a.size := fun a i e hi => by
  have := List.drop_eq_nil_iff.mp e
  simp at this; lia
 have dropc : ∀ (a : Array Value) (i : Nat) (v : Value) (r : List Value), a.toList.drop i = v :: r → i < a.size ∧ a[((i : Nat) : Int).toNat]? = some v ∧ a.toList.drop (i + 1) = r := fun a i v r e => by
  have hlt : i < a.toList.length := by
   rcases Nat.lt_or_ge i a.toList.length with q | q
   · exact q
   · rw [List.drop_eq_nil_of_le q] at e; exact bU9 e
  rw [List.drop_eq_getElem_cons hlt] at e
  injection e with e1 e2
  refine ⟨by simpa using hlt, ?_, e2⟩
  simp at hlt
  simp [hlt]
  simpa using e1
 intro vs
 induction vs with
 | nil =>
   intro ws i hv hw hi hi2 prog w A R s h
   obtain ⟨hp, g, d, tk, os⟩ := s; obtain ⟨hl, hb, he, h⟩ := h
   have e1 := dropn items i hv hi
   wp_walk using wpAny_loadPart' hl, wpAny_loadPart' hb
   have hi1 : items[((i : Nat) : Int).toNat]? = none := by simp; lia
   rw [hi1]
   rcases ws with _ | ⟨y, ys⟩
   ·
     have e2 := dropn items2 i hw hi2
     cases he
     wp_walk using wpAny_loadPart' hl, wpAny_loadPart' hb
     show R (.ok (.ret (.bool (decide (items.size < items2.size))))) _
     rw [decide_eq_false (by lia)]
     exact h
   ·
     obtain ⟨hlt, _, _⟩ := dropc items2 i y ys hw
     cases he
     wp_walk using wpAny_loadPart' hl, wpAny_loadPart' hb
     show R (.ok (.ret (.bool (decide (items.size < items2.size))))) _
     rw [decide_eq_true (by lia)]
     exact h
 | cons x xs ih =>
   intro ws i hv hw hi hi2 prog w A R s h
   obtain ⟨hp, g, d, tk, os⟩ := s; obtain ⟨hl, hb, he, h⟩ := h
   obtain ⟨hlt, g1, d1⟩ := dropc items i x xs hv
   wp_walk using wpAny_loadPart' hl, wpAny_loadPart' hb
   rcases ws with _ | ⟨y, ys⟩
   ·
     have e2 := dropn items2 i hw hi2
     have hi2' : items2[((i : Nat) : Int).toNat]? = none := by simp; lia
     rw [g1, hi2']
     cases he
     wp_walk using wpAny_loadPart' hl, wpAny_loadPart' hb
     show R (.ok (.ret (.bool (decide (items.size < items2.size))))) _
     rw [decide_eq_false (by lia)]
     exact h
   ·
     obtain ⟨hlt2, g2, d2⟩ := dropc items2 i y ys hw
     have hc : ((i : Int) + 1) = ((i + 1 : Nat) : Int) := by push_cast; rfl
     rw [g1, g2]
     cases he with
     | eq he he' =>
       refine wpAny_bind (he prog w _ _ ?_)
       wp_walk
       rw [hc]
       exact ⟨plainId_quiet plain_eq_loop _, codeAny_builtin entry_eq_loop (by
        rw [Around.under_plainId plain_eq_loop _]
        exact ih ys (i + 1) d1 d2 (by lia) (by lia) prog w A R _ ⟨hl, hb, he', h⟩)⟩
     | ne he hcmp =>
       refine wpAny_bind (he prog w _ _ ?_)
       have hri := hcmp prog w
       wp_walk using wpAny_loadPart' hl, wpAny_loadPart' hb
       rw [g1, g2]
       wp_walk using hri
       exact h
theorem cA7 (l b : Addr) (items items2 : Array Value) (n n2 : Nat) (dd dd2 : Option Addr) (sl sl2 : Array (Option Value)) (k : Bool) :
 Meets (Builtin.«list.__lt__» ⟨[.ref l, .ref b], []⟩)
  (fun A R s => s.heap.get? l = some { cls := .type "list", dict := dd, data := .seq items n, slots := sl } ∧ s.heap.get? b = some { cls := .type "list", dict := dd2, data := .seq items2 n2, slots := sl2 } ∧
    LtR A.in1 s items.toList items2.toList k ∧ R (.ok (.ret (.bool k))) s) := by
 intro prog w A R s h
 obtain ⟨hp, g, d, tk, os⟩ := s; obtain ⟨hl, hb, he, h⟩ := h
 have f3 := AutoSeq1.sub_list_list
 wp_walk using wpAny_loadPart' hl, wpAny_loadPart' hb
 exact ⟨plainId_quiet plain_eq_loop _, codeAny_builtin entry_eq_loop (by
  rw [Around.under_plainId plain_eq_loop _]
  exact cC0 l b items items2 n n2 dd dd2 sl sl2 k items.toList items2.toList 0 rfl rfl (Nat.zero_le _) (Nat.zero_le _) prog w A R _ ⟨hl, hb, he, h⟩)⟩
end
noncomputable def ltS : D → D → Option Bool
 | .int a, .int b => some (decide (a < b))
 | .str a, .str b => some (decide (a.cps.toList < b.cps.toList))
 | .bl a, .bl b => some (decide (b2i a < b2i b))
 | _, _ => none
noncomputable def ltL (eq lt : D → D → Option Bool) : List D → List D → Option Bool
 | [], [] => some false
 | [], _ :: _ => some true
 | _ :: _, [] => some false
 | x :: xs, y :: ys => match eq x y with
   | some true => ltL eq lt xs ys
   | some false => lt x y
   | none => none
def ltN : Nat → DH → D → D → Option Bool
 | 0, _, _, _ => none
 | n + 1, G, x, y => match aA2 G x, aA2 G y with
   | some (k1, a), some (k2, b) => if k1 = k2 then ltL (eqN n G) (ltN n G) a b else none
   | none, none => ltS x y
   | _, _ => none
theorem dL8 {n : Nat} {G : DH} {x y : D} : ltN (n + 1) G x y = match aA2 G x, aA2 G y with
 | some (k1, a), some (k2, b) => if k1 = k2 then ltL (eqN n G) (ltN n G) a b else none
 | none, none => ltS x y
 | _, _ => none := rfl
section
variable {X : Cx} {Z : XC} {pins : PNS} {σ : St} {H : Hp} {s : Shared} {μ : List Addr} {G : DH}
theorem dA3 {A : Around} {dx dy : D} {x y : V} {v u : Value} {b : Bool} {c : Wc} (rx : d8 c μ H dx x) (ry : d8 c μ H dy y) (rv : o4 x v) (ru : o4 y u) (e : ltS dx dy = some b) : bS4 A s v u b := by
 intro prog w E Q hq
 rcases dx with _ | _ | _ | _ | _ | _ | _ | _ <;> rcases dy with _ | _ | _ | _ | _ | _ | _ | _ <;> first
  | (cases e; done)
  | skip
 · cases e
   unfold d8 at rx ry; subst rx ry; cases rv; cases ru
   exact (lt_bool hq : wpAny (model prog w) A (compareOp .Lt _ _) Q E s)
 · cases e
   unfold d8 at rx ry; subst rx ry; obtain ⟨t, rfl⟩ := rv; obtain ⟨t', rfl⟩ := ru
   exact (lt_int hq : wpAny (model prog w) A (compareOp .Lt _ _) Q E s)
 · cases e
   unfold d8 at rx ry; subst rx ry; obtain ⟨t, rfl⟩ := rv; obtain ⟨t', rfl⟩ := ru
   exact (lt_str hq : wpAny (model prog w) A (compareOp .Lt _ _) Q E s)
theorem lt_at (I : Inv X pins σ H s) (h : m6 (wc X) μ G H) : ∀ (n : Nat) (A : Around), A.units + n < cLine → ∀ {dx dy : D} {x y : V} {v u : Value} {b : Bool}, d8 (wc X) μ H dx x → d8 (wc X) μ H dy y → o4 x v → o4 y u → ltN n G dx dy = some b → bS4 A s v u b
 | 0, _, _, _, _, _, _, _, _, _, _, _, _, _, e => by exact m9 e
 | n + 1, A, hu, dx, dy, x, y, v, u, b, rx, ry, rv, ru, e => by
   have hu0 : A.units < cLine := by lia
   have hu1 : A.in1.units + n < cLine := by show A.units + 1 + n < cLine; lia
   rw [dL8] at e
   rcases hx : aA2 G dx with _ | p
   ·
     rw [hx] at e
     rcases hy : aA2 G dy with _ | p
     · rw [hy] at e; exact dA3 rx ry rv ru e
     · rw [hy] at e; exact m9 e
   ·
     obtain ⟨k, l⟩ := p
     rw [hx] at e
     rcases hy : aA2 G dy with _ | p'
     · rw [hy] at e; exact m9 e
     ·
       obtain ⟨k', l'⟩ := p'
       rw [hy] at e
       dsimp only at e
       split at e
       case isFalse => exact m9 e
       rename_i hk
       subst hk
       obtain ⟨a, vs, its, rfl, rfl, rl, rr, sq, q⟩ := X5 I h hx rx rv
       obtain ⟨a', vs', its', rfl, rfl, rl', rr', sq', q'⟩ := X5 I h hy ry ru
       have main : ∀ (l l' : List D) (vs vs' : List V) (its its' : List Value), j9 (wc X) μ H l vs → j9 (wc X) μ H l' vs' → o5 vs its → o5 vs' its' → ltL (eqN n G) (ltN n G) l l' = some b → LtR A.in1 s its its' b := by
        intro l
        induction l with
        | nil =>
          intro l' vs vs' its its' r r' q q' e
          cases r; cases q
          rcases l' with _ | ⟨_, _⟩
          · cases r'; cases q'; cases e; exact .nil
          ·
            obtain ⟨_, _, rfl, _, _⟩ := r'
            cases q'
            cases e
            exact .nilc
        | cons d ds ih =>
          intro l' vs vs' its its' r r' q q' e
          obtain ⟨v0, vr, rfl, r0, rt⟩ := r
          cases q with
          | cons q0 qt =>
            rcases l' with _ | ⟨d', ds'⟩
            · cases r'; cases q'; cases e; exact .cnil
            ·
              obtain ⟨v1, vr', rfl, r1, rt'⟩ := r'
              cases q' with
              | cons q1 qt' =>
                unfold ltL at e
                rcases he : eqN n G d d' with _ | b0
                · rw [he] at e; exact m9 e
                ·
                  rw [he] at e
                  have hE := (bW8 I h n A.in1 hu1 r0 r1 q0 q1 he).2.2
                  rcases b0 with _ | _
                  · exact .ne hE (lt_at I h n A.in1 hu1 r0 r1 q0 q1 e)
                  · exact .eq hE (ih ds' vr vr' _ _ rt rt' qt qt' e)
       have hR := main l l' vs vs' its its' rl rl' rr rr' e
       intro prog w E Q hq
       rcases k with _ | _
       ·
         obtain ⟨⟨cls, dd, data, sl⟩, ho, hc, m, hd⟩ := id sq
         obtain ⟨⟨cls2, dd2, data2, sl2⟩, ho2, hc2, m2, hd2⟩ := id sq'
         simp only at hc hd hc2 hd2
         subst hc hd hc2 hd2
         exact richCompare_meets_room (op := .Lt) ⟨_, ho, rfl⟩ ⟨_, ho2, rfl⟩ PySem.F.slot_list_lt PySem.F.entry_list_lt (PySem.F.args_list_lt_2 _ _) (cA7 a a' its.toArray its'.toArray m m2 dd dd2 sl sl2 b)
          ⟨ho, ho2, hR, show Value.bool b ≠ Value.notImplemented ∧ Q (.bool b) s from ⟨(fun x => nomatch x), hq⟩⟩ hu0
       ·
         obtain ⟨⟨cls, dd, data, sl⟩, ho, hc, m, hd⟩ := id sq
         obtain ⟨⟨cls2, dd2, data2, sl2⟩, ho2, hc2, m2, hd2⟩ := id sq'
         simp only at hc hd hc2 hd2
         subst hc hd hc2 hd2
         exact richCompare_meets_room (op := .Lt) ⟨_, ho, rfl⟩ ⟨_, ho2, rfl⟩ PySem.F.slot_tuple_lt PySem.F.entry_tuple_lt (PySem.F.args_tuple_lt_2 _ _) (bQ6 a a' its.toArray its'.toArray m m2 dd dd2 sl sl2 b)
          ⟨ho, ho2, hR, show Value.bool b ≠ Value.notImplemented ∧ Q (.bool b) s from ⟨(fun x => nomatch x), hq⟩⟩ hu0
def ltD : D → D → M D := fun x y G => match ltN 40 G x y with
 | some b => some (.ok (.bl b), G)
 | none => none
theorem od_lt (hu : X.A.units + 64 < cLine) : OpD X Z (compareOp .Lt) ltD := ⟨by
 intro pins s σ H x y v u Q I rx ry hE0
 refine hE0.elim fun dx dy μ G rdx rdy hr p => ?_
 unfold ltD at p
 rcases e : ltN 40 G dx dy with _ | b
 · rw [e] at p; exact p.elim
 ·
   rw [e] at p
   exact lt_at I hr 40 X.A (by lia) rdx rdy rx ry e X.prog X.w X.xe _ ⟨.bl b, H, I, rfl, d7.ok p hr _ ofB⟩⟩
end
noncomputable def aH1 : D → Bool
 | .non => true
 | .bl _ => true
 | .int _ => true
 | .str _ => true
 | _ => false
noncomputable def toV : D → V
 | .bl b => .bl b
 | .int i => .int i
 | .str x => .str x
 | _ => .non
noncomputable def cC1 : D → Option Key
 | .int i => some (.inl i)
 | .str x => some (.inr x)
 | _ => none
noncomputable def aM4 (l : List (Key × D)) (k : Key) : Option D := (l.find? fun kv => decide (kv.1 = k)).map (·.2)
def inB (x y : D) (G : DH) : Option Bool := match y with
 | .str j => match x with
   | .str i => some (!(Builtin.Str.occurrences j i 0 j.length 1).isEmpty)
   | _ => none
 | .ref r => match G[r]? with
   | some (.dct l) => (cC1 x).map fun k => (aM4 l k).isSome
   | some (.rod _) => none
   | some (.lst l) => if aH1 x && l.all aH1 then some (inV (toV x) (l.map toV)) else none
   | some (.rol l) => if aH1 x && l.all aH1 then some (inV (toV x) (l.map toV)) else none
   | none => none
 | .tup l => if aH1 x && l.all aH1 then some (inV (toV x) (l.map toV)) else none
 | _ => none
def inD : D → D → M D := fun x y G => match inB x y G with
 | some b => some (.ok (.bl b), G)
 | none => none
section
variable {X : Cx} {Z : XC} {c : Wc} {μ : List Addr} {H : Hp} {G : DH}
theorem bL2 {d : D} {v : V} (f : aH1 d = true) (r : d8 c μ H d v) : v = toV d ∧ aK2 v = true := by
 cases d <;> first
  | exact absurd (show false = true from f) Bool.false_ne_true
  | (unfold d8 at r; subst r; exact ⟨rfl, rfl⟩)
theorem bB8 : ∀ {l : List D} {vs : List V}, l.all aH1 = true → j9 c μ H l vs → vs = l.map toV ∧ vs.all aK2 = true
 | [], _, _, r => by cases r; exact ⟨rfl, rfl⟩
 | d :: ds, _, f, r => by
   obtain ⟨v, t, rfl, q, rt⟩ := r
   rw [List.all_cons, Bool.and_eq_true] at f
   obtain ⟨e1, e2⟩ := bL2 f.1 q
   obtain ⟨e3, e4⟩ := bB8 f.2 rt
   refine ⟨by rw [List.map_cons, ← e1, ← e3], ?_⟩
   rw [List.all_cons, e2, e4]; rfl
theorem bV9 {d : D} {k : Key} {v : V} (e : cC1 d = some k) (r : d8 c μ H d v) : v = kV k := by
 cases d <;> first
  | (cases e; unfold d8 at r; exact r)
  | exact m9 e
theorem bB3 {k : Key} : ∀ {l : List (Key × D)} {kvs : List (Key × V)}, S5 c μ H l kvs → match aM4 l k with | some d => ∃ v, aL6 kvs k = some v ∧ d8 c μ H d v | none => aL6 kvs k = none
 | [], _, r => by cases r; exact rfl
 | (k', d) :: t, _, r => by
  obtain ⟨v, kt, rfl, q, rt⟩ := r
  by_cases e : k' = k
  · have h1 : aM4 ((k', d) :: t) k = some d := by unfold aM4; simp [e]
    rw [h1]
    exact ⟨v, aM6 e, q⟩
  · have h1 : aM4 ((k', d) :: t) k = aM4 t k := by unfold aM4; simp [e]
    rw [h1]
    have ih := bB3 (k := k) rt
    rw [aN0 e]
    exact ih
theorem bR5 {k : Key} {l : List (Key × D)} {kvs : List (Key × V)} (r : S5 c μ H l kvs) : (aM4 l k).isSome = (aL6 kvs k).isSome := by
 have q := bB3 (k := k) r
 rcases e : aM4 l k with _ | d
 · rw [e] at q; rw [q]; rfl
 · rw [e] at q; obtain ⟨v, q, _⟩ := q; rw [q]; rfl
theorem dL1 (hu : X.A.units + 64 < cLine) {pins : PNS} {σ : St} {s : Shared} {x y : V} {v u : Value} {dx dy : D} {b : Bool} {Q : VK} (I : Inv X pins σ H s) (hr : m6 (wc X) μ G H) (rdx : d8 (wc X) μ H dx x) (rdy : d8 (wc X) μ H dy y) (rx : o4 x v) (ry : o4 y u)
 (e : inB dx dy G = some b) :
 (Q (.bl b) H → wpAny (model X.prog X.w) X.A (compareOp .In v u) (EP X pins σ Q) X.xe s) ∧ (Q (.bl (!b)) H → wpAny (model X.prog X.w) X.A (compareOp .NotIn v u) (EP X pins σ Q) X.xe s) := by
 have seq : ∀ (p : Addr) (l : List D) (vs : List V), y = .ref p → (SqL X.K H p vs ∨ SqT X.K H p vs) → j9 (wc X) μ H l vs → (if (aH1 dx && l.all aH1) = true then some (inV (toV dx) (l.map toV)) else none) = some b →
  (Q (.bl b) H → wpAny (model X.prog X.w) X.A (compareOp .In v u) (EP X pins σ Q) X.xe s) ∧ (Q (.bl (!b)) H → wpAny (model X.prog X.w) X.A (compareOp .NotIn v u) (EP X pins σ Q) X.xe s) := by
  intro p l vs hy hq rl e
  split at e
  · rename_i hf
    rw [Bool.and_eq_true] at hf
    cases e
    obtain ⟨e1, e2⟩ := bL2 hf.1 rdx
    obtain ⟨e3, e4⟩ := bB8 hf.2 rl
    rw [← e1, ← e3]
    exact ⟨fun q => cB4 pins s σ H x y v u Q I rx ry ⟨p, vs, hy, hq, e2, e4, q⟩, fun q => bI6 pins s σ H x y v u Q I rx ry ⟨p, vs, hy, hq, e2, e4, q⟩⟩
  · exact m9 e
 rcases dy with _ | _ | _ | j | l | i | _ | _ <;> try (cases e; done)
 ·
   rcases dx with _ | _ | _ | i | _ | _ | _ | _ <;> try (cases e; done)
   ·
     cases e
     have e1 := aC6 rdx
     have e2 := aC6 rdy
     exact ⟨fun q => cC4 pins s σ H x y v u Q I rx ry ⟨i, j, e1, e2, q⟩, fun q => bJ7 pins s σ H x y v u Q I rx ry ⟨i, j, e1, e2, q⟩⟩
 ·
   unfold d8 at rdy
   obtain ⟨a, vs, hy, q, rl⟩ := rdy
   exact seq a l vs hy (.inr q) rl e
 ·
   unfold d8 at rdy
   obtain ⟨a, m, hy⟩ := rdy
   rcases g : G[i]? with _ | o
   · unfold inB at e; simp only [g] at e; exact m9 e
   ·
     have ro := hr.obj i o a g m
     rcases o with l | l | l | l
     ·
       obtain ⟨vs, q, rl⟩ := ro
       unfold inB at e; simp only [g] at e
       exact seq a l vs hy (.inl (SqL.of q)) rl e
     ·
       obtain ⟨vs, q, rl⟩ := ro
       unfold inB at e; simp only [g] at e
       exact seq a l vs hy (.inl q.sq) rl e
     ·
       obtain ⟨kvs, q, rk⟩ := ro
       unfold inB at e; simp only [g] at e
       rcases hk : cC1 dx with _ | k
       · rw [hk] at e; exact m9 e
       ·
         rw [hk] at e
         cases e
         have ek := bV9 hk rdx
         have dg : cD5 H a x (aL6 kvs k) := by rw [ek]; exact cD5.k q
         subst hy
         cases ry
         dsimp only
         rw [bR5 rk]
         exact ⟨fun q => dN1 (by lia) I dg rx fun s' I' => ⟨.bl _, H, I', rfl, q⟩, fun q => cT6 (by lia) I dg rx fun s' I' => ⟨.bl _, H, I', rfl, q⟩⟩
     · unfold inB at e; simp only [g] at e; exact m9 e
theorem od_in (hu : X.A.units + 64 < cLine) : OpD X Z (compareOp .In) inD := ⟨by
 intro pins s σ H x y v u Q I rx ry hE0
 refine hE0.elim fun dx dy μ G rdx rdy hr p => ?_
 unfold inD at p
 rcases e : inB dx dy G with _ | b
 · rw [e] at p; exact p.elim
 · rw [e] at p; exact (dL1 hu I hr rdx rdy rx ry e).1 (d7.ok p hr _ ofB)⟩
inductive Ty where
 | int | bool | str | tuple | list | dict
 deriving DecidableEq
noncomputable def Ty.name : Ty → String
 | .int => "int" | .bool => "bool" | .str => "str" | .tuple => "tuple" | .list => "list" | .dict => "dict"
noncomputable def Ty.of (n : String) : Option Ty := if n = "int" then some .int else if n = "bool" then some .bool else if n = "str" then some .str else if n = "tuple" then some .tuple else if n = "list" then some .list else if n = "dict" then some .dict else none
theorem Ty.of_name {n : String} {T : Ty} (h : Ty.of n = some T) : n = T.name := by
 unfold Ty.of at h
 split at h
 · rename_i e; cases h; exact e
 split at h
 · rename_i e; cases h; exact e
 split at h
 · rename_i e; cases h; exact e
 split at h
 · rename_i e; cases h; exact e
 split at h
 · rename_i e; cases h; exact e
 split at h
 · rename_i e; cases h; exact e
 · exact m9 h
inductive Kd where
 | non | bool | int | str | tuple | list | dict
noncomputable def Kd.is : Kd → Ty → Bool
 | .bool, .int => true
 | .bool, .bool => true
 | .int, .int => true
 | .str, .str => true
 | .tuple, .tuple => true
 | .list, .list => true
 | .dict, .dict => true
 | _, _ => false
def Kd.name : Kd → String
 | .non => "NoneType" | .bool => "bool" | .int => "int" | .str => "str" | .tuple => "tuple" | .list => "list" | .dict => "dict"
noncomputable def bQ1 (G : DH) : D → Option Kd
 | .non => some .non
 | .bl _ => some .bool
 | .int _ => some .int
 | .str _ => some .str
 | .tup _ => some .tuple
 | .ref i => match G[i]? with
   | some (.lst _) => some .list
   | some (.rol _) => some .list
   | some (.dct _) => some .dict
   | some (.rod _) => some .dict
   | none => none
 | _ => none
def bD7 : List D → Option (List Ty)
 | [] => some []
 | .ty n :: r => match Ty.of n, bD7 r with
   | some T, some Ts => some (T :: Ts)
   | _, _ => none
 | _ => none
def M9 : List D → M D := fun ds G => match ds with
 | [d, .ty n] => match bQ1 G d, Ty.of n with
   | some k, some T => some (.ok (.bl (k.is T)), G)
   | _, _ => none
 | [d, .tup l] => match bQ1 G d, bD7 l with
   | some k, some Ts => some (.ok (.bl (Ts.any k.is)), G)
   | _, _ => none
 | _ => none
theorem cR1 (K : PySem.W.Frag) (k : Kd) (T : Ty) : PySem.W.kitOne K (.type k.name) (.type T.name) = some (k.is T) := by
 cases k <;> cases T <;> rfl
theorem cK6 {A : Around} {E : VSP} {pins : PNS} {σ : St} {s : Shared} {d : D} {x : V} {v : Value} {k : Kd} (I : Inv X pins σ H s) (hr : m6 (wc X) μ G H) (r : d8 (wc X) μ H d x) (rv : o4 x v) (e : bQ1 G d = some k) :
 ∃ HH : Heap → Prop, PySem.W.KitX X.K v (.type k.name) HH ∧ HH s.heap ∧ v ≠ .builtin "__main__.__loader__#opaque" := by
 rcases d with _ | b | b | b | l | i | _ | _ <;> try (cases e; done)
 · cases e; unfold d8 at r; subst r; cases rv; exact ⟨_, PySem.W.kitx_none, True.intro, fun z => nomatch z⟩
 · cases e; unfold d8 at r; subst r; cases rv; exact ⟨_, PySem.W.kitx_bool, True.intro, fun z => nomatch z⟩
 · cases e; unfold d8 at r; subst r; obtain ⟨t, rfl⟩ := rv; exact ⟨_, PySem.W.kitx_int, True.intro, fun z => nomatch z⟩
 · cases e; unfold d8 at r; subst r; obtain ⟨t, rfl⟩ := rv; exact ⟨_, PySem.W.kitx_str, True.intro, fun z => nomatch z⟩
 ·
   cases e
   unfold d8 at r
   obtain ⟨a, vs, rfl, q, _⟩ := r
   cases rv
   obtain ⟨its, _, ⟨o, h1, h2, _⟩, _⟩ := I.tuple q
   exact ⟨_, PySem.W.kitx_tuple, ⟨o, h1, h2⟩, fun z => nomatch z⟩
 ·
   unfold d8 at r
   obtain ⟨a, m, rfl⟩ := r
   cases rv
   unfold bQ1 at e
   rcases g : G[i]? with _ | o
   · simp only [g] at e; exact m9 e
   ·
     have ro := hr.obj i o a g m
     simp only [g] at e
     rcases o with l | l | l | l
     ·
       cases e
       obtain ⟨vs, q, _⟩ := ro
       obtain ⟨its, _, ⟨o, n, h1, h2, _⟩, _⟩ := I.list (SqL.of q)
       exact ⟨_, PySem.W.kitx_list, ⟨o, h1, h2⟩, fun z => nomatch z⟩
     ·
       cases e
       obtain ⟨vs, q, _⟩ := ro
       obtain ⟨its, _, ⟨o, n, h1, h2, _⟩, _⟩ := I.list q.sq
       exact ⟨_, PySem.W.kitx_list, ⟨o, h1, h2⟩, fun z => nomatch z⟩
     ·
       cases e
       obtain ⟨kvs, q, _⟩ := ro
       obtain ⟨_, _, vs, _, o, es, ep, h1, h2, _⟩ := (show N7 X.prog X.w H s.heap a (.dK kvs) from I.hok a _ q)
       exact ⟨_, PySem.W.kitx_dict, ⟨o, h1, h2.1⟩, fun z => nomatch z⟩
     ·
       cases e
       obtain ⟨kvs, ob, q, _⟩ := ro
       obtain ⟨_, _, _, vs, _, o, es, ep, h1, h2, _⟩ := (show N7 X.prog X.w H s.heap a (.frz ob (.dK kvs)) from I.hok a _ q)
       exact ⟨_, PySem.W.kitx_dict, ⟨o, h1, h2.1⟩, fun z => nomatch z⟩
theorem bU7 : ∀ {l : List D} {vs : List V} {us : List Value} {Ts : List Ty}, bD7 l = some Ts → j9 c μ H l vs → o5 vs us → us = Ts.map fun T => .type T.name
 | [], _, _, _, e, r, q => by cases e; cases r; cases q; rfl
 | d :: ds, _, _, Ts, e, r, q => by
   obtain ⟨v, t, rfl, r0, rt⟩ := r
   cases q with
   | cons q0 qt =>
     rcases d with _ | _ | _ | _ | _ | _ | _ | n <;> try (cases e; done)
     ·
       replace e : (match Ty.of n, bD7 ds with | some T, some Ts => some (T :: Ts) | _, _ => none) = some Ts := e
       rcases h1 : Ty.of n with _ | T
       · rw [h1] at e; exact m9 e
       ·
         rcases h2 : bD7 ds with _ | Ts'
         · rw [h1, h2] at e; exact m9 e
         ·
           rw [h1, h2] at e
           cases e
           unfold d8 at r0
           subst r0
           rw [bU7 h2 rt qt, List.map_cons, show _ = Value.type n from q0, Ty.of_name h1]
theorem bX3 (K : PySem.W.Frag) (k : Kd) : ∀ Ts : List Ty, PySem.W.kitAny K (.type k.name) (Ts.map fun T => .type T.name) = some (Ts.any k.is)
 | [] => rfl
 | T :: Ts => by
   have ih := bX3 K k Ts
   cases k <;> cases T <;> first
    | rfl
    | exact ih
theorem cD1 : V0 X Z (.builtin "isinstance") M9 := ⟨by
 intro pins s σ H xs us Q I r hE0
 obtain ⟨ds, μ, G, rl, hr, p⟩ := hE0
 rcases ds with _ | ⟨d, _ | ⟨_ | _ | _ | _ | l | _ | _ | n, _ | ⟨_, _⟩⟩⟩ <;> try exact p.elim
 all_goals (delta M9 at p; dsimp only at p)
 · obtain ⟨v, t, rfl, r0, v1, t1, rfl, r1, e⟩ := rl
   cases e
   obtain ⟨u, u', rfl, ru, ru'⟩ := bY7 r
   unfold d8 at r1
   obtain ⟨a, vs, rfl, q, rll⟩ := r1
   cases ru'
   rcases hk : bQ1 G d with _ | k
   · rw [hk] at p; exact p.elim
   ·
     rcases hT : bD7 l with _ | Ts
     · rw [hk, hT] at p; exact p.elim
     ·
       rw [hk, hT] at p
       obtain ⟨HH, kx, hh, hne⟩ := cK6 (A := X.A) (E := X.xe) I hr r0 ru hk
       obtain ⟨its, rr, ⟨⟨cls, dd, data, sl⟩, h1, h2, n, h3⟩, _⟩ := I.tuple q
       simp only at h2 h3
       subst h2 h3
       exact PySem.W.kia_tup kx I.kIn hh h1 (by rw [bU7 hT rll rr]; exact bX3 X.K k Ts) hne fun tk => ⟨.bl _, H, I.tok tk, rfl, d7.ok p hr _ ofB⟩
 · obtain ⟨v, t, rfl, r0, v1, t1, rfl, r1, e⟩ := rl
   cases e
   obtain ⟨u, u', rfl, ru, ru'⟩ := bY7 r
   unfold d8 at r1
   subst r1
   cases ru'
   rcases hk : bQ1 G d with _ | k
   · rw [hk] at p; exact p.elim
   ·
     rcases hT : Ty.of n with _ | T
     · rw [hk, hT] at p; exact p.elim
     ·
       rw [hk, hT] at p
       rw [Ty.of_name hT]
       obtain ⟨HH, kx, hh, hne⟩ := cK6 (A := X.A) (E := X.xe) I hr r0 ru hk
       exact PySem.W.kia_one kx I.kIn hh (cR1 X.K k T) hne fun tk => ⟨.bl _, H, I.tok tk, rfl, d7.ok p hr _ ofB⟩⟩
end
theorem bX7 {c : Wc} {μ : List Addr} {H : Hp} {l : List D} {vs : List V} {i : Int} {d : D} (r : j9 c μ H l vs) (e : atI l i = some d) : ∃ v, atI vs i = some v ∧ d8 c μ H d v := by
 unfold atI at e ⊢
 rw [← r.length]
 cases h : ixN l.length i with
 | none => rw [h] at e; cases e
 | some j =>
   rw [h] at e
   obtain ⟨v, h1, h2⟩ := r.get e
   exact ⟨v, h1, h2⟩
def ixD : D → D → M D := fun x y => match x, y with
 | .tup l, .int i => aC7 (atI l i)
 | .str z, .int i => if z.length ≤ sizeLine then do
    let c ← aC7 (atI z.cps.toList i)
    pure (.str ⟨#[c]⟩)
   else M.stuck
 | .ref r, .int i => do
   let l ← M5 r >>= listOf
   aC7 (atI l i)
 | _, _ => M.stuck
section
variable {X : Cx} {Z : XC} {a b e : Expr} {fa fb : Fe} {pos : Pos}
def IxD (X : Cx) (Z : XC) (o : D → D → M D) : Prop := IxR X (aF8 (wc X) Z o)
theorem dF0 {o : D → D → M D} (ho : IxD X Z o) (ha : DE X Z a fa) (hb : DE X Z b fb) (hs : bI9 b) : DE X Z (.Subscript a b pos) (binE o fa fb) := DE.of (dG7 ho ha.h hb.h hs) aN7
theorem bK0 {c : Wc} {μ : List Addr} {H : Hp} {G : DH} {r : Option D} {K : D → List Addr → DH → Hp → Prop} (h : m6 c μ G H) (p : d7 c Z μ H (aC7 r G) K) : ∃ d, r = some d ∧ K d μ G H := by
 cases r with
 | none => exact p.elim
 | some d => exact ⟨d, rfl, d7.ok p h⟩
theorem dH2 : IxD X Z ixD := IxR.mono (cU2.or (ix_tup.or ix_str)) fun x y H Q hE0 => hE0.elim fun dx dy μ G rx ry hr p => by
 rcases dx with _ | _ | _ | _ | _ | _ | _ | _ <;> rcases dy with _ | _ | _ | _ | _ | _ | _ | _ <;> first
  | exact p.elim
  | skip
 · rename_i z i
   refine .inr (.inr ?_)
   unfold ixD at p
   dsimp only at p
   split at p
   · rename_i hz
     obtain ⟨c, ec, p2⟩ := V6 p
     exact ⟨z, i, c, aC6 rx, W8 ry, hz, ec, d7.ok p2 hr _ ofS⟩
   · exact p.elim
 · rename_i l i
   refine .inr (.inl ?_)
   unfold d8 at rx
   obtain ⟨a, vs, rfl, q, rl⟩ := rx
   obtain ⟨d, ed, k⟩ := bK0 hr p
   obtain ⟨v, ev, rv⟩ := bX7 rl ed
   exact ⟨a, vs, i, v, rfl, W8 ry, q, ev, k v rv⟩
 · rename_i r i
   refine .inl ?_
   obtain ⟨l, a, vs, rfl, rl, p2, hq⟩ := aQ3 (d := .ref r) (f := fun l => aC7 (atI l i)) hr rx p
   obtain ⟨d, ed, k⟩ := bK0 hr p2
   obtain ⟨v, ev, rv⟩ := bX7 rl ed
   rcases hq with ⟨z, _⟩ | ⟨_, _, _, ⟨_, q⟩ | ⟨_, q⟩⟩
   · cases z
   · exact ⟨a, vs, i, v, rfl, W8 ry, SqL.of q, ev, k v rv⟩
   · exact ⟨a, vs, i, v, rfl, W8 ry, q.sq, ev, k v rv⟩
theorem de_ix (ha : DE X Z a fa) (hb : DE X Z b fb) (hs : bI9 b) : DE X Z (.Subscript a b pos) (binE ixD fa fb) := dF0 dH2 ha hb hs
def cutD (xs : List D) (lo hi : Option Int) : List D := (xs.drop (HT.sIx xs.length 0 lo)).take (HT.sIx xs.length xs.length hi - HT.sIx xs.length 0 lo)
abbrev Fo := DSt → M (Option Int)
def aQ6 : Fo := fun _ => pure none
def W3 (f : Fe) : Fo := fun σ => do
 match ← f σ with
 | .int i => pure (some i)
 | _ => M.stuck
def bV4 (c : Wc) (Z : XC) (f : Fo) : TO := fun σ H Q => ∃ dσ μ G, u9 c μ H dσ σ ∧ m6 c μ G H ∧ d7 c Z μ H (f dσ G) fun o _ _ H' => Q o H'
theorem bV4.elim {c : Wc} {Z : XC} {P : Prop} {f : Fo} {σ : St} {H : Hp} {Q : Option Int → Hp → Prop} (h : bV4 c Z f σ H Q) (k : ∀ dσ μ G, u9 c μ H dσ σ → m6 c μ G H → d7 c Z μ H (f dσ G) (fun o _ _ H' => Q o H') → P) : P := by
 obtain ⟨e0, e1, e2, e3, e4, e5⟩ := h
 exact k e0 e1 e2 e3 e4 e5
structure DOp (X : Cx) (Z : XC) (e : Option Expr) (f : Fo) : Prop where
 h : PO X e (bV4 (wc X) Z f)
theorem PO.mono {e : Option Expr} {t t' : TO} (h : PO X e t) (k : ∀ σ H Q, t' σ H Q → t σ H Q) : PO X e t' := fun pins s σ H Q I q => h pins s σ H Q I (k σ H Q q)
theorem DOp.of {e : Option Expr} {f : Fo} {t : TO} (h : PO X e t) (k : ∀ σ H Q, bV4 (wc X) Z f σ H Q → t σ H Q) : DOp X Z e f := ⟨PO.mono h k⟩
theorem do_none : DOp X Z none aQ6 := DOp.of cU5 fun σ H Q hE0 => hE0.elim fun dσ μ G s h p => d7.ok p h
theorem do_some (h : DE X Z e fa) : DOp X Z (some e) (W3 fa) := DOp.of (cR5 h.h) fun σ H Q hE0 => hE0.elim fun dσ μ G s h p => ⟨dσ, μ, G, s, h, (d7.bind p).mono fun d μ1 G1 H1 x1 h1 p1 v rv => by
 cases d with
 | int i => exact ⟨i, W8 rv, d7.ok p1 h1⟩
 | _ => exact p1.elim⟩
def slD : D → Option Int → Option Int → M D := fun x lo hi => match x with
 | .tup l => pure (.tup (cutD l lo hi))
 | .ref r => do
   let l ← M5 r >>= listOf
   K7 (.lst (cutD l lo hi))
 | _ => M.stuck
def SlD (X : Cx) (Z : XC) (o : D → Option Int → Option Int → M D) : Prop :=
 SlR X fun x lo hi H Q => ∃ dx μ G, d8 (wc X) μ H dx x ∧ m6 (wc X) μ G H ∧ d7 (wc X) Z μ H (o dx lo hi G) fun d μ' _ H' => ∀ v, d8 (wc X) μ' H' d v → Q v H'
theorem SlR.mono {r r' : V → Option Int → Option Int → Hp → VK → Prop} (h : SlR X r) (k : ∀ x lo hi H Q, r' x lo hi H Q → r x lo hi H Q) : SlR X r' := fun pins s σ H x v vl vu lo hi sl Q I rx hs pl pu q => h pins s σ H x v vl vu lo hi sl Q I rx hs pl pu (k x lo hi H Q q)
theorem aJ7 {prog : Program} {w : World} {A : Around} {E : VSP} {s : Shared} {t sl : Addr} {items : Array Value} {vl vu : Value} {lo hi : Option Int} {Q : VSP} (ht : IsTup s.heap t items) (hs : s.heap.IsSliceOf sl vl vu .none) (pl : IsPart vl lo) (pu : IsPart vu hi)
 (hw : HT.sIx items.size 0 lo = 0 ∧ HT.sIx items.size items.size hi = items.size) (h : Q (.ref t) s) : wpAny (model prog w) A (getItem (.ref t) (.ref sl)) Q E s := by
 obtain ⟨os, hos, hcs, hds⟩ := id hs
 have hTs : s.TypeIs (.ref sl) "slice" := ⟨os, hos, hcs⟩
 unfold getItem
 try with_reducible refine wpAny_holding ?_
 first | refine wpAny_bind (wpAny_pure ?_) | skip
 refine wpAny_bind (wpAny_sequenceKey ht.typeIs (by decide) ?_)
 refine wpAny_bind (wpAny_callSpecial?_slot (name := Str.ofString "__getitem__") ht.typeIs PyProof.Rows.slot_tuple_getitem
  (wpAny_call_entry PyProof.Rows.slot_tuple_getitem ht.typeIs entry_tuple_getitem ?_ (args_tuple_getitem _ _)))
 show wpAny _ _ (Builtin.Tuple.tupleItemsOf (.ref t) >>= _) _ _ s
 refine wpAny_bind (tupleItemsOf_ ht ?_)
 refine wpAny_bind (wpAny_typeOf hTs ?_)
 rw [if_pos (by decide)]
 refine wpAny_bind (HT.sliceApplied_gen hs pl pu ?_)
 have hyes : (((HT.sIx items.size 0 lo : Nat) : Int) == 0 && (1 : Int) == 1 && (HT.sIx items.size items.size hi - HT.sIx items.size 0 lo) == items.size) = true := by
  rw [hw.1, hw.2]; simp
 show wpAny _ _ (if (((HT.sIx items.size 0 lo : Nat) : Int) == 0 && (1 : Int) == 1 && (HT.sIx items.size items.size hi - HT.sIx items.size 0 lo) == items.size) = true then _ else _) _ _ s
 rw [if_pos hyes]
 unfold Builtin.Tuple.tupleIsExact
 refine wpAny_bind (wpAny_bind (wpAny_typeOf ht.typeIs (wpAny_pure ?_)))
 rw [if_pos (by decide)]
 exact wpAny_bind (wpAny_rule (wpAny_pure ⟨_, rfl, wpAny_pure h⟩))
def dN5 (K : PySem.W.Frag) : V → Option Int → Option Int → Hp → VK → Prop := fun x lo hi H Q => ∃ a xs, x = .ref a ∧ SqT K H a xs ∧ (HT.sIx xs.length 0 lo = 0 ∧ HT.sIx xs.length xs.length hi = xs.length) ∧ Q (.ref a) H
theorem cP4 : SlR X (dN5 X.K) := by
 intro pins s σ H x v vl vu lo hi sl Q I rx hs pl pu h
 obtain ⟨a, xs, rfl, hx, hw, q⟩ := h
 cases rx
 obtain ⟨its, r, ht, hz⟩ := I.tuple hx
 have hlen : its.toArray.size = xs.length := by rw [List.size_toArray]; exact r.length.symm
 exact ⟨"tuple", _, PyProof.Rows.slot_tuple_getitem.lookup, ht.typeIs, aJ7 ht hs pl pu (by rw [hlen]; exact hw) ⟨.ref a, H, I, rfl, q⟩⟩
theorem bG8 {c : Wc} {μ : List Addr} {H : Hp} {l : List D} {vs : List V} (r : j9 c μ H l vs) (lo hi : Option Int) : j9 c μ H (cutD l lo hi) (bA0 vs lo hi) := by
 unfold cutD bA0
 rw [r.length]
 exact (r.drop _).take _
theorem dJ5 : SlD X Z slD := SlR.mono (sl_tup.or (cP4.or cQ8)) fun x lo hi H Q ⟨dx, μ, G, rx, hr, p⟩ => by
 rcases dx with _ | _ | _ | _ | l | r | _ | _ <;> try (exact p.elim; done)
 ·
   unfold d8 at rx
   obtain ⟨a, vs, rfl, q, rl⟩ := rx
   by_cases hw : HT.sIx vs.length 0 lo = 0 ∧ HT.sIx vs.length vs.length hi = vs.length
   · refine .inr (.inl ⟨a, vs, rfl, q, hw, aQ0 hr q ?_ p⟩)
     have e : bA0 vs lo hi = vs := by unfold bA0; rw [hw.1, hw.2]; simp
     have := bG8 rl lo hi
     rw [e] at this
     exact this
   · exact .inl ⟨a, vs, rfl, q, hw, fun p' hp => aO2 hr (bG8 rl lo hi) p p' hp⟩
 ·
   obtain ⟨l, a, vs, rfl, rl, p2, hq⟩ := aQ3 (d := .ref r) (f := fun l => K7 (.lst (cutD l lo hi))) hr rx p
   have hs : SqL (wc X).K H a vs := by
    rcases hq with ⟨z, _⟩ | ⟨_, _, _, ⟨_, q⟩ | ⟨_, q⟩⟩
    · cases z
    · exact SqL.of q
    · exact q.sq
   exact .inr (.inr ⟨a, vs, rfl, hs, fun p' hp => aD1 hr (bG8 rl lo hi) p2 p' hp⟩)
variable {lo hi : Option Expr} {fl fh : Fo} {p2 : Pos}
end
noncomputable def bL4 (r : Nat) (o : DO) : M Unit := fun G => some (.ok (), G.set r o)
noncomputable def aS6 (l : List (Key × D)) (k : Key) (d : D) : List (Key × D) := if l.any (fun kv => decide (kv.1 = k)) then l.map (fun kv => if kv.1 = k then (kv.1, d) else kv) else l ++ [(k, d)]
def bS0 : D → D → D → M Unit := fun o i d => match o with
 | .ref r => do
   match ← M5 r with
   | .lst l => match i with
     | .int k => match ixN l.length k with
       | some j => bL4 r (.lst (l.set j d))
       | none => M.stuck
     | _ => M.stuck
   | .dct l => match cC1 i with
     | some k => if l.length < sizeLine then bL4 r (.dct (aS6 l k d)) else M.stuck
     | none => M.stuck
   | .rol _ => M.stuck
   | .rod _ => M.stuck
 | _ => M.stuck
def aZ2 (fo fi : Fe) : Fg := fun d σ => do
 let o ← fo σ
 let i ← fi σ
 let _ ← bS0 o i d
 pure σ
section
variable {X : Cx} {Z : XC} {c : Wc} {μ : List Addr} {H : Hp} {G : DH}
theorem cI4 {k : Key} {d : D} {v : V} (rv : d8 c μ H d v) : ∀ {l : List (Key × D)} {kvs : List (Key × V)}, S5 c μ H l kvs → S5 c μ H (aS6 l k d) (aI5 kvs k v) := by
 have any_eq : ∀ {l : List (Key × D)} {kvs : List (Key × V)}, S5 c μ H l kvs → (l.any fun kv => decide (kv.1 = k)) = (kvs.any fun kv => decide (kv.1 = k)) := by
  intro l
  induction l with
  | nil => intro kvs r; cases r; rfl
  | cons p t ih =>
    intro kvs r
    obtain ⟨v', kt, rfl, _, rt⟩ := r
    rw [List.any_cons, List.any_cons, ih rt]
 have map_eq : ∀ {l : List (Key × D)} {kvs : List (Key × V)}, S5 c μ H l kvs → S5 c μ H (l.map fun kv => if kv.1 = k then (kv.1, d) else kv) (kvs.map fun kv => if kv.1 = k then (kv.1, v) else kv) := by
  intro l
  induction l with
  | nil => intro kvs r; cases r; rfl
  | cons p t ih =>
    intro kvs r
    obtain ⟨k', d'⟩ := p
    obtain ⟨v', kt, rfl, q, rt⟩ := r
    rw [List.map_cons, List.map_cons]
    by_cases e : k' = k
    · simp only [e, if_true]
      exact ⟨v, _, rfl, rv, ih rt⟩
    · simp only [e, if_false]
      exact ⟨v', _, rfl, q, ih rt⟩
 have app_eq : ∀ {l : List (Key × D)} {kvs : List (Key × V)}, S5 c μ H l kvs → S5 c μ H (l ++ [(k, d)]) (kvs ++ [(k, v)]) := by
  intro l
  induction l with
  | nil => intro kvs r; cases r; exact ⟨v, [], rfl, rv, rfl⟩
  | cons p t ih =>
    intro kvs r
    obtain ⟨v', kt, rfl, q, rt⟩ := r
    exact ⟨v', _, rfl, q, ih rt⟩
 intro l kvs r
 unfold aS6 aI5
 rw [any_eq r]
 split
 · exact map_eq r
 · exact app_eq r
theorem S5.length : ∀ {l : List (Key × D)} {kvs : List (Key × V)}, S5 c μ H l kvs → l.length = kvs.length
 | [], _, r => by cases r; rfl
 | _ :: _, _, r => by obtain ⟨_, _, rfl, _, t⟩ := r; simp [S5.length t]
theorem bM1 {r : Nat} {a : Addr} {o o' : DO} {u : HO} {Q : List Addr → DH → Hp → Prop} (h : m6 c μ G H) (g : G[r]? = some o) (n : ¬ aC8 (some o)) (m : μ[r]? = some a) (n' : ¬ aC8 (some o')) (ho : ∀ x : Ext μ H μ (upd H a u), aB0 c μ (upd H a u) a o')
 (p : d7 c Z μ H (bL4 r o' G) fun _ μ' G' H' => Q μ' G' H') : Q μ (G.set r o') (upd H a u) := by
 obtain ⟨u', e, n1, n2⟩ := (h.obj r o a g m).some_of n
 have x : Ext μ H μ (upd H a u) := Ext.mut (List.mem_of_getElem? m) e n1 n2 u
 exact p μ _ x (h.set g n m x n' (ho x))
def bI2 (c : Wc) (Z : XC) (f : D → D → D → M Unit) : cP1 := fun o i v H Q => ∃ d1 d2 d3 μ G, d8 c μ H d1 o ∧ d8 c μ H d2 i ∧ d8 c μ H d3 v ∧ m6 c μ G H ∧ d7 c Z μ H (f d1 d2 d3 G) fun _ _ _ H' => Q H'
theorem bI2.elim {c : Wc} {Z : XC} {P : Prop} {f : D → D → D → M Unit} {o : V} {i : V} {v : V} {H : Hp} {Q : Hp → Prop} (h : bI2 c Z f o i v H Q) (k : ∀ d1 d2 d3 μ G, d8 c μ H d1 o → d8 c μ H d2 i → d8 c μ H d3 v → m6 c μ G H → d7 c Z μ H (f d1 d2 d3 G) (fun _ _ _ H' => Q H') → P) : P := by
 obtain ⟨e0, e1, e2, e3, e4, e5, e6, e7, e8, e9⟩ := h
 exact k e0 e1 e2 e3 e4 e5 e6 e7 e8 e9
theorem dE9 (hu : X.A.units + 64 < cLine) : dG2 X (bI2 (wc X) Z bS0) := by
 intro pins s σ H o i v ov iv u Q I ro ri rv hE0
 obtain ⟨d1, d2, d3, μ, G, r1, r2, r3, hr, p⟩ := hE0
 rcases d1 with _ | _ | _ | _ | _ | r | _ | _ <;> try (exact p.elim; done)
 ·
   unfold d8 at r1
   obtain ⟨a, m, rfl⟩ := r1
   obtain ⟨ob, g, p1⟩ := J2 p
   have rob := hr.obj r ob a g m
   rcases ob with l | l | l | l
   ·
     obtain ⟨vs, ea, rl⟩ := rob
     rcases d2 with _ | _ | k | _ | _ | _ | _ | _ <;> try (exact p1.elim; done)
     ·
       dsimp only at p1
       rcases hk : ixN l.length k with _ | j
       · simp only [hk] at p1; exact p1.elim
       ·
         simp only [hk] at p1
         exact cK1 pins s σ H (.ref a) i v ov iv u Q I ro ri rv ⟨a, vs, k, j, rfl, W8 r2, ea, by rw [← rl.length]; exact hk, bM1 (o' := .lst (l.set j d3)) (Q := fun _ _ H' => Q H') hr g (fun z => z) m (fun z => z) (fun x => ⟨_, v8, (rl.mono x).set (r3.mono x) j⟩) p1⟩
   · exact p1.elim
   ·
     obtain ⟨kvs, ea, rk⟩ := rob
     dsimp only at p1
     rcases hk : cC1 d2 with _ | k
     · simp only [hk] at p1; exact p1.elim
     ·
       simp only [hk] at p1
       split at p1
       · rename_i hz
         have ei := bV9 hk r2
         subst ei
         cases ro
         refine cC8 (by lia) I (cP3.k ea (by rw [← rk.length]; exact hz)) ri rv fun s' I' => ⟨_, I', ?_⟩
         exact bM1 (o' := .dct (aS6 l k d3)) (Q := fun _ _ H' => Q H') hr g (fun z => z) m (fun z => z) (fun x => ⟨_, v8, cI4 (r3.mono x) (rk.mono x)⟩) p1
       · exact p1.elim
   · exact p1.elim
variable {a b e o i : Expr} {fa fb fo fi : Fe} {pos : Pos}
theorem dg_sub (hu : X.A.units + 64 < cLine) (ho : DE X Z o fo) (hi : DE X Z i fi)
 (ha : ∀ v, assign (.Subscript o i pos) X.env v = (do
   let ov ← holding [v] (eval o X.env)
   let iv ← holding [v, ov] (eval i X.env)
   standAt pos
   holding [v, ov, iv] (setItem ov iv v)
   release [v, ov, iv] [])) : DG X Z (.Subscript o i pos) (aZ2 fo fi) :=
 DG.of (cZ2 ho.h hi.h (dE9 hu) ha) fun v σ H Q hE0 => hE0.elim fun d dσ μ G r s h p => ⟨dσ, μ, G, s, h, (d7.bind p).mono fun d1 μ1 G1 H1 x1 h1 p1 v1 r1 =>
  ⟨dσ, μ1, G1, s.mono x1, h1, (d7.bind p1).mono fun d2 μ2 G2 H2 x2 h2 p2 v2 r2 => ⟨d1, d2, d, μ2, G2, r1.mono x2, r2, r.mono (x1.trans x2), h2, (d7.bind p2).mono fun _ μ3 G3 H3 x3 h3 p3 => d7.ok p3 h3 σ (s.mono (x1.trans (x2.trans x3)))⟩⟩⟩
def aY4 : Fe := fun _ => K7 (.dct [])
theorem de_dict0 : DE X Z (.Dict [] [] pos) aY4 := DE.of cJ5 fun σ H Q hE0 => hE0.elim fun dσ μ G s h p q hq => by
 have k : Ext μ H (μ ++ [q]) (upd H q (.dK [])) := Ext.add hq _
 refine p (μ ++ [q]) _ k (h.new hq ⟨[], v8, rfl⟩) _ ?_
 unfold d8
 exact ⟨q, by rw [← h.len]; simp, rfl⟩
def aM3 : D → M Unit := fun x => match x with
 | .ref r => do
   match ← M5 r with
   | .lst _ => pure ()
   | _ => M.stuck
 | _ => M.stuck
noncomputable def mtE (t : D → M Unit) (m : D → List D → M D) (fo : Fe) (fs : DSt → M (List D)) : Fe := fun σ => do
 let x ← fo σ
 let _ ← t x
 let xs ← fs σ
 m x xs
def lstM (r : Nat) : M (List D) := do
 match ← M5 r with
 | .lst l => pure l
 | _ => M.stuck
def aU1 : D → List D → M D := fun x xs => match x, xs with
 | .ref r, [y] => do
   let l ← lstM r
   if l.length < sizeLine then do
    let _ ← bL4 r (.lst (l ++ [y]))
    pure .non
   else M.stuck
 | _, _ => M.stuck
theorem cD8 {α : Type} {r : Nat} {a : Addr} {f : List D → M α} {K : α → List Addr → DH → Hp → Prop} (h : m6 c μ G H) (m : μ[r]? = some a) (p : d7 c Z μ H ((lstM r >>= f) G) K) :
 ∃ l vs, G[r]? = some (.lst l) ∧ H a = some (.lst vs) ∧ j9 c μ H l vs ∧ d7 c Z μ H (f l G) K := by
 have p' : d7 c Z μ H ((M5 r >>= fun o => (match o with | .lst l => pure l | _ => M.stuck : M (List D)) >>= f) G) K := by rw [← M.bind_assoc]; exact p
 obtain ⟨o, g, p2⟩ := J2 p'
 have ro := h.obj r o a g m
 rcases o with l | _ | _ | _ <;> try (exact p2.elim; done)
 · obtain ⟨vs, e, rl⟩ := ro; exact ⟨l, vs, g, e, rl, p2⟩
def MtD (X : Cx) (Z : XC) (id : String) (m : D → List D → M D) : Prop :=
 MtR X id fun x xs H Q => ∃ d ds μ G, d8 (wc X) μ H d x ∧ j9 (wc X) μ H ds xs ∧ m6 (wc X) μ G H ∧ d7 (wc X) Z μ H (m d ds G) fun d μ' _ H' => ∀ v, d8 (wc X) μ' H' d v → Q v H'
theorem cE7 {α : Type} {r : Nat} {a : Addr} {l l' : List D} {vs' : List V} {f : M α} {K : α → List Addr → DH → Hp → Prop} (h : m6 c μ G H) (g : G[r]? = some (.lst l)) (m : μ[r]? = some a) (rl : ∀ x : Ext μ H μ (upd H a (.lst vs')), j9 c μ (upd H a (.lst vs')) l' vs')
 (p : d7 c Z μ H ((bL4 r (.lst l') >>= fun _ => f) G) K) : Ext μ H μ (upd H a (.lst vs')) ∧ m6 c μ (G.set r (.lst l')) (upd H a (.lst vs')) ∧ d7 c Z μ (upd H a (.lst vs')) (f (G.set r (.lst l'))) K := by
 obtain ⟨u', e, n1, n2⟩ := (h.obj r _ a g m).some_of (fun z => z)
 have x : Ext μ H μ (upd H a (.lst vs')) := Ext.mut (List.mem_of_getElem? m) e n1 n2 _
 have h' : m6 c μ (G.set r (.lst l')) (upd H a (.lst vs')) := h.set g (fun z => z) m x (fun z => z) ⟨vs', v8, rl x⟩
 exact ⟨x, h', d7.from p x⟩
theorem md_append : MtD X Z "list.append" aU1 := by
 intro pins s σ H x xs v us Q I rx rs hE0
 obtain ⟨d, ds, μ, G, rd, rds, hr, p⟩ := hE0
 rcases d with _ | _ | _ | _ | _ | r | _ | _ <;> try (exact p.elim; done)
 ·
   unfold d8 at rd
   obtain ⟨a, m, rfl⟩ := rd
   rcases ds with _ | ⟨y, t⟩
   · exact p.elim
   ·
     rcases t with _ | ⟨_, _⟩
     ·
       obtain ⟨yv, tv, rfl, ry, e⟩ := rds
       cases e
       obtain ⟨l, vs, g, ea, rl, p1⟩ := cD8 hr m p
       split at p1
       · rename_i hz
         obtain ⟨x1, h1, p2⟩ := cE7 (l' := l ++ [y]) (vs' := vs ++ [yv]) hr g m (fun x => (rl.mono x).append (j9.cons (ry.mono x) j9.nil)) p1
         exact bE3 pins s σ H (.ref a) [yv] v us Q I rx rs ⟨a, vs, yv, rfl, rfl, ea, by rw [← rl.length]; exact hz, d7.ok p2 h1 _ ofN⟩
       · exact p1.elim
     · exact p.elim
variable {es : List Expr} {fs : DSt → M (List D)} {name : Str} {apos cpos : Pos} {id : String} {mm : D → List D → M D}
theorem bM6 {α : Type} {d : D} {v : V} {f : Unit → M α} {K : α → List Addr → DH → Hp → Prop} (h : m6 c μ G H) (r : d8 c μ H d v) (p : d7 c Z μ H ((aM3 d >>= f) G) K) : tyV c.K "list" v H ∧ d7 c Z μ H (f () G) K := by
 rcases d with _ | _ | _ | _ | _ | i | _ | _ <;> try (exact p.elim; done)
 ·
   unfold d8 at r
   obtain ⟨a, m, rfl⟩ := r
   have p' : d7 c Z μ H ((M5 i >>= fun o => (match o with | .lst _ => pure () | _ => M.stuck : M Unit) >>= f) G) K := by rw [← M.bind_assoc]; exact p
   obtain ⟨o, g, p2⟩ := J2 p'
   have ro := h.obj i o a g m
   rcases o with l | _ | _ | _ <;> try (exact p2.elim; done)
   · obtain ⟨vs, e, rl⟩ := ro; exact ⟨.inl ⟨rfl, vs, SqL.of e⟩, p2⟩
theorem de_mt (slot : Slot "list" name id) (hty : typeOf (.builtin id) = pure (.type "method_descriptor")) (hm : MtD X Z id mm) (ho : DE X Z o fo) (ha : DA X Z (e :: es) fs)
 (hbase : attributeBase o name X.env (eval o X.env) = eval o X.env)
 (hfew : ((backTo cpos (starEach (e :: es) X.env)).all (fun x => !x.1) && (backToKw cpos (keywordEach [] X.env)).all (fun x => x.1.isSome)
   && decide ((e :: es).length + ([] : List Keyword).length + (if ([] : List Keyword).isEmpty then 0 else 1) < 30)) = true)
 (hline : (apos.endLine == cpos.line) = true) (hs : starEach (e :: es) X.env = (false, eval e X.env) :: starEach es X.env) (hplain : (backTo cpos (starEach es X.env)).any (·.1) = false) :
 DE X Z (.Call (.Attribute o name apos) (e :: es) [] cpos) (mtE aM3 mm fo fs) :=
 DE.of (cW5 PySem.F.plainAttrs_list slot hty hm ho.h ha.h hbase hfew hline hs hplain) fun σ H Q hE0 => hE0.elim fun dσ μ G s h p => ⟨dσ, μ, G, s, h, (d7.bind p).mono fun d μ1 G1 H1 x1 h1 p1 v rv => by
  obtain ⟨ty, p2⟩ := bM6 h1 rv p1
  exact ⟨ty, dσ, μ1, G1, s.mono x1, h1, (d7.bind p2).mono fun ds μ2 G2 H2 x2 h2 p3 vs rvs => ⟨d, ds, μ2, G2, rv.mono x2, rvs, h2, p3⟩⟩⟩
end
noncomputable def SI (k : Bool) (h : Heap) (it a : Addr) (i : Nat) : Prop := if k then h.IsTupleIter it a i else h.IsListIter it a i
noncomputable def SC (k : Bool) (h : Heap) (a : Addr) (items : Array Value) : Prop := if k then h.IsTuple a items else h.IsList a items
section
variable {prog : Program} {w : World} {A : Around} {E : VSP} {s : Shared} {k : Bool}
theorem SI.keep {h h' : Heap} {it a : Addr} {i : Nat} (x : SI k h it a i) (q : ∀ o, h.get? it = some o → h'.get? it = some o) : SI k h' it a i := by
 rcases k with _ | _
 · exact Heap.IsListIter.at (show h.IsListIter it a i from x) q
 · exact Heap.IsTupleIter.at (show h.IsTupleIter it a i from x) q
theorem SC.keep {h h' : Heap} {a : Addr} {its : Array Value} (x : SC k h a its) (q : ∀ o, h.get? a = some o → h'.get? a = some o) : SC k h' a its := by
 rcases k with _ | _
 · obtain ⟨o, e, r⟩ := (show h.IsList a its from x); exact ⟨o, q o e, r⟩
 · obtain ⟨o, e, r⟩ := (show h.IsTuple a its from x); exact ⟨o, q o e, r⟩
theorem SI.there {h : Heap} {it a : Addr} {i : Nat} (x : SI k h it a i) : ∃ o, h.get? it = some o ∧ ∀ v, o.data ≠ .cell v := by
 rcases k with _ | _
 · obtain ⟨o, e, c, d⟩ := (show h.IsListIter it a i from x); exact ⟨o, e, fun v z => by rw [d] at z; cases z⟩
 · obtain ⟨o, e, c, d⟩ := (show h.IsTupleIter it a i from x); exact ⟨o, e, fun v z => by rw [d] at z; cases z⟩
theorem aO6 {it t : Addr} {i : Nat} {items : Array Value} {x : Value} {Q : VSP} (hit : s.heap.IsTupleIter it t i) (ht : s.heap.IsTuple t items) (hx : items[i]? = some x)
 (hQ : ∀ h', h'.IsTupleIter it t (i + 1) → Heap.SameBut it s.heap h' → Q x { s with heap := h' }) : wpAny (model prog w) A (Builtin.SmallTypes.nextOf (.ref it)) Q E s := by
 obtain ⟨ob, hob, hcls, hdat⟩ := id hit
 obtain ⟨ot, hot, _, nt, hdt⟩ := ht
 unfold Builtin.SmallTypes.nextOf
 refine wpAny_bind (wpAny_callSpecial?_slot (name := Str.ofString "__next__") hit.typeIs F.slot_tuple_iterator_next (wpAny_call_entry F.slot_tuple_iterator_next hit.typeIs F.entry_tuple_iterator_next ?_ (F.args_tuple_iterator_next_1 _)))
 show wpAny _ _ (field (.ref it) 0 >>= _) _ _ s
 refine wpAny_bind (wpAny_field hob hdat (x := .ref t) rfl ?_)
 show wpAny _ _ (if (Value.ref t == Value.none) = true then _ else _) _ _ s
 rw [if_neg (show ¬ ((Value.ref t == Value.none) = true) from Bool.false_ne_true)]
 show wpAny _ _ (field (.ref it) 1 >>= _) _ _ s
 refine wpAny_bind (wpAny_field hob hdat (x := .int i 0) rfl ?_)
 show wpAny _ _ (seqItems? (.ref t) >>= _) _ _ s
 refine wpAny_bind (wpAny_seqItems hot hdt ?_)
 simp only [Int.toNat_natCast, hx]
 refine wpAny_bind (wpAny_setField hob hdat (by simp) (wpAny_pure ⟨x, rfl, wpAny_pure (hQ _ ?_ (Heap.SameBut.update ..))⟩))
 exact ⟨_, Heap.get?_update_self _ hob (Obj.isFreed_of_fields (Obj.data_mapFields hdat _)), (Obj.cls_mapFields ..).trans hcls, by rw [Obj.data_mapFields hdat]; simp [rawInt]⟩
theorem aP5 {it t : Addr} {i : Nat} {items : Array Value} {Q : VSP} (hh : A.handled = none) (hit : s.heap.IsTupleIter it t i) (ht : s.heap.IsTuple t items) (hx : items[i]? = none)
 (hE : ∀ h' e, Heap.ExtBut it s.heap h' → (∃ o, h'.get? e = some o ∧ o.cls = .type "StopIteration") → E (.ref e) { s with heap := h' }) : wpAny (model prog w) A (Builtin.SmallTypes.nextOf (.ref it)) Q E s := by
 obtain ⟨ob, hob, hcls, hdat⟩ := id hit
 obtain ⟨ot, hot, _, nt, hdt⟩ := ht
 unfold Builtin.SmallTypes.nextOf
 refine wpAny_bind (wpAny_callSpecial?_slot (name := Str.ofString "__next__") hit.typeIs F.slot_tuple_iterator_next (wpAny_call_entry F.slot_tuple_iterator_next hit.typeIs F.entry_tuple_iterator_next ?_ (F.args_tuple_iterator_next_1 _)))
 show wpAny _ _ (field (.ref it) 0 >>= _) _ _ s
 refine wpAny_bind (wpAny_field hob hdat (x := .ref t) rfl ?_)
 show wpAny _ _ (if (Value.ref t == Value.none) = true then _ else _) _ _ s
 rw [if_neg (show ¬ ((Value.ref t == Value.none) = true) from Bool.false_ne_true)]
 show wpAny _ _ (field (.ref it) 1 >>= _) _ _ s
 refine wpAny_bind (wpAny_field hob hdat (x := .int i 0) rfl ?_)
 show wpAny _ _ (seqItems? (.ref t) >>= _) _ _ s
 refine wpAny_bind (wpAny_seqItems hot hdt ?_)
 simp only [Int.toNat_natCast, hx]
 refine wpAny_bind (wpAny_rule (wpAny_bind (wpAny_setField hob hdat (by simp) ?_)))
 show wpAny _ _ (newExc (.type "StopIteration") [] >>= _) _ _ _
 refine wpAny_bind ?_
 simp only [newExc, newTuple]
 refine wpAny_bind (wpAny_newObj_type ?_ (by size_fits))
 refine wpAny_bind (m := firstArgMember _ _) (wpAny_of_eq (a := Value.none) (by first | rfl | (simp only [firstArgMember]; rfl)) ?_)
 refine wpAny_newObj_type ?_ (by size_fits)
 delta raiseNew; dsimp only
 refine wpAny_bind (wpAny_handled ?_)
 first | rw [show A.in1.handled = none from hh] | rw [hh]
 refine wpAny_bind (wpAny_pure (wpAny_throw ?_))
 exact hE _ _ (((Heap.SameBut.update ..).extBut.push _).push _) ⟨_, Heap.get?_push_size _ rfl, rfl⟩
theorem aI1 {it a : Addr} {i : Nat} {items : Array Value} {x : Value} {Q : VSP} (hit : SI k s.heap it a i) (hl : SC k s.heap a items) (hx : items[i]? = some x)
 (hQ : ∀ h', SI k h' it a (i + 1) → Heap.SameBut it s.heap h' → Q x { s with heap := h' }) : wpAny (model prog w) A (Builtin.SmallTypes.nextOf (.ref it)) Q E s := by
 rcases k with _ | _
 · exact wpAny_nextOf_list_item hit hl hx hQ
 · exact aO6 hit hl hx hQ
theorem aX1 {it a : Addr} {i : Nat} {items : Array Value} {Q : VSP} (hh : A.handled = none) (hit : SI k s.heap it a i) (hl : SC k s.heap a items) (hx : items[i]? = none)
 (hE : ∀ h' e, Heap.ExtBut it s.heap h' → (∃ o, h'.get? e = some o ∧ o.cls = .type "StopIteration") → E (.ref e) { s with heap := h' }) : wpAny (model prog w) A (Builtin.SmallTypes.nextOf (.ref it)) Q E s := by
 rcases k with _ | _
 · exact wpAny_nextOf_list_end hh hit hl hx hE
 · exact aP5 hh hit hl hx hE
structure ZA (z TI TO i1 i2 : Addr) : Prop where
 TIz : TI ≠ z
 TOz : TO ≠ z
 i1z : i1 ≠ z
 i2z : i2 ≠ z
 TITO : TI ≠ TO
 TIi1 : TI ≠ i1
 TIi2 : TI ≠ i2
 TOi1 : TO ≠ i1
 TOi2 : TO ≠ i2
 i12 : i1 ≠ i2
theorem dK0 (n : Nat) : ZA (n + 4 : Nat) (n + 2 : Nat) (n + 3 : Nat) n (n + 1 : Nat) := ⟨(by show @Ne Nat _ _; lia), (by show @Ne Nat _ _; lia), (by show @Ne Nat _ _; lia), (by show @Ne Nat _ _; lia), (by show @Ne Nat _ _; lia), (by show @Ne Nat _ _; lia), (by show @Ne Nat _ _; lia), (by show @Ne Nat _ _; lia), (by show @Ne Nat _ _; lia), (by show @Ne Nat _ _; lia)⟩
theorem cL9 {l n : Nat} (h : l < n) : ¬ @Membership.mem Addr (List Addr) List.instMembership [(n + 4 : Nat), (n + 3 : Nat), n, (n + 1 : Nat)] l := by
 simp only [List.mem_cons, List.not_mem_nil, or_false, not_or]
 exact ⟨(by show ¬ @Eq Nat _ _; lia), (by show ¬ @Eq Nat _ _; lia), (by show ¬ @Eq Nat _ _; lia), (by show ¬ @Eq Nat _ _; lia)⟩
theorem dJ7 {n : Nat} {b : Addr} (hb : @Membership.mem Addr (List Addr) List.instMembership [(n + 4 : Nat), (n + 2 : Nat), (n + 3 : Nat), n, (n + 1 : Nat)] b) : @LE.le Nat instLENat n b := by
 simp only [List.mem_cons, List.not_mem_nil, or_false] at hb
 rcases hb with rfl | rfl | rfl | rfl | rfl <;> (show @LE.le Nat instLENat _ _; lia)
variable {z TI TO i1 i2 l1 l2 : Addr} {xs ys : Array Value} {k1 k2 : Bool} {i : Nat}
theorem cI5 {x y a b : Value} {Q : VSP} (Ap : ZA z TI TO i1 i2) (n1 : l1 ∉ [z, TO, i1, i2]) (n2 : l2 ∉ [z, TO, i1, i2])
 (hz : IsZip s.heap z TI TO .none) (hTI : IsPair s.heap TI (.ref i1) (.ref i2)) (hTO : IsPair s.heap TO a b)
 (h1 : SI k1 s.heap i1 l1 i) (h2 : SI k2 s.heap i2 l2 i) (hl1 : SC k1 s.heap l1 xs) (hl2 : SC k2 s.heap l2 ys) (hx : xs[i]? = some x) (hy : ys[i]? = some y)
 (hQ : ∀ h', IsZip h' z TI TO (rawInt s.heap.objs.size) → IsPair h' TO x y → SI k1 h' i1 l1 (i + 1) → SI k2 h' i2 l2 (i + 1) → IsPair h' s.heap.objs.size x y → h'.objs.size = s.heap.objs.size + 1 →
   (∀ c o, c ≠ z → c ≠ TO → c ≠ i1 → c ≠ i2 → s.heap.get? c = some o → h'.get? c = some o) → Q (.ref s.heap.objs.size) { s with heap := h' }) :
 wpAny (model prog w) A (Builtin.«zip.__next__» ⟨[.ref z], []⟩) (fun fin s' => ∃ v, fin = .done (.ret v) ∧ Q v s') E s := by
 simp only [List.mem_cons, List.not_mem_nil, or_false, not_or] at n1 n2
 show wpAny _ _ (field (.ref z) 2 >>= _) _ _ _
 refine wpAny_bind (wpAny_field hz rfl (x := .bool false) rfl ?_)
 show wpAny _ _ (field (.ref z) 3 >>= _) _ _ _
 refine wpAny_bind (wpAny_field hz rfl (x := .ref TI) rfl ?_)
 refine wpAny_bind (wpAny_seqItems hTI rfl ?_)
 show wpAny _ _ (Builtin.SmallTypes.ownedTupleIsFree (.ref z) >>= _) _ _ _
 refine wpAny_bind ?_
 unfold Builtin.SmallTypes.ownedTupleIsFree
 refine wpAny_bind (wpAny_field hz rfl (x := .none) rfl (wpAny_pure ?_))
 simp only [if_true]
 refine wpAny_bind (wpAny_rule ?_)
 refine wpAny_bind (wpAny_field hz rfl (x := .ref TO) rfl ?_)
 refine wpAny_bind (wpAny_setField_rec hz (by simp) fun g₁ hz₁ hs₁ => ?_)
 replace hz₁ : IsZip g₁ z TI TO .ellipsis := hz₁
 refine wpAny_bind ?_
 simp only [List.zipIdx_cons, List.zipIdx_nil, List.forIn_cons, List.forIn_nil]
 refine wpAny_bind (wpAny_bind (wpAny_onRaise ?_))
 show wpAny _ _ (Builtin.SmallTypes.nextOf (.ref i1) >>= _) _ _ _
 refine wpAny_bind (aI1 (h1.keep fun o e => hs₁.extBut _ _ Ap.i1z e) (hl1.keep fun o e => hs₁.extBut _ _ n1.1 e) hx fun g₂ h1₂ hs₂ => wpAny_pure ?_)
 have hTO₂ : IsPair g₂ TO a b := hs₂.extBut _ _ Ap.TOi1 (hs₁.extBut _ _ Ap.TOz hTO)
 refine wpAny_bind (wpAny_seqItems hTO₂ rfl ?_)
 refine wpAny_bind (wpAny_updateSeq_pair hTO₂ fun g₃ hTO₃ hs₃ => ?_)
 replace hTO₃ : IsPair g₃ TO x b := hTO₃
 refine wpAny_bind (wpAny_letGo (wpAny_pure ?_))
 refine wpAny_bind (wpAny_bind (wpAny_onRaise ?_))
 show wpAny _ _ (Builtin.SmallTypes.nextOf (.ref i2) >>= _) _ _ _
 have up3 : ∀ c o, c ≠ z → c ≠ TO → c ≠ i1 → s.heap.get? c = some o → g₃.get? c = some o := fun c o c1 c2 c3 e => hs₃.extBut _ _ c2 (hs₂.extBut _ _ c3 (hs₁.extBut _ _ c1 e))
 refine wpAny_bind (aI1 (h2.keep fun o e => up3 _ _ Ap.i2z Ap.TOi2.symm Ap.i12.symm e) (hl2.keep fun o e => up3 _ _ n2.1 n2.2.1 n2.2.2.1 e) hy fun g₄ h2₄ hs₄ => wpAny_pure ?_)
 have hTO₄ : IsPair g₄ TO x b := hs₄.extBut _ _ Ap.TOi2 hTO₃
 refine wpAny_bind (wpAny_seqItems hTO₄ rfl ?_)
 refine wpAny_bind (wpAny_updateSeq_pair hTO₄ fun g₅ hTO₅ hs₅ => ?_)
 replace hTO₅ : IsPair g₅ TO x y := hTO₅
 refine wpAny_bind (wpAny_letGo (wpAny_pure (wpAny_pure ?_)))
 refine wpAny_bind (wpAny_seqItems hTO₅ rfl ?_)
 refine wpAny_bind (wpAny_newTuple ?_)
 have hsz : g₅.objs.size = s.heap.objs.size := by rw [hs₅.1, hs₄.1, hs₃.1, hs₂.1, hs₁.1]
 have hz₅ : IsZip g₅ z TI TO .ellipsis := hs₅.extBut _ _ Ap.TOz.symm (hs₄.extBut _ _ Ap.i2z.symm (hs₃.extBut _ _ Ap.TOz.symm (hs₂.extBut _ _ Ap.i1z.symm hz₁)))
 have hk₅ : ∀ c o, c ≠ z → c ≠ TO → c ≠ i1 → c ≠ i2 → s.heap.get? c = some o → g₅.get? c = some o := fun c o c1 c2 c3 c4 e => hs₅.extBut _ _ c2 (hs₄.extBut _ _ c4 (up3 c o c1 c2 c3 e))
 have h1₅ : SI k1 g₅ i1 l1 (i + 1) := h1₂.keep fun o e => hs₅.extBut _ _ Ap.TOi1.symm (hs₄.extBut _ _ Ap.i12 (hs₃.extBut _ _ Ap.TOi1.symm e))
 have h2₅ : SI k2 g₅ i2 l2 (i + 1) := h2₄.keep fun o e => hs₅.extBut _ _ Ap.TOi2.symm e
 have hzlt : z < g₅.objs.size := Heap.lt_size hz₅
 show wpAny _ _ (Builtin.SmallTypes.ownedTupleHandOut (.ref z) (.ref g₅.objs.size) >>= _) _ _ _
 refine wpAny_bind ?_
 unfold Builtin.SmallTypes.ownedTupleHandOut
 have hz₆ : IsZip (g₅.push { cls := .type "tuple", data := .seq #[x, y] }) z TI TO .ellipsis := Heap.get?_push_of_some _ hz₅
 refine wpAny_bind (wpAny_setField_rec hz₆ (by simp) fun g₇ hz₇ hs₇ => ?_)
 replace hz₇ : IsZip g₇ z TI TO (rawInt g₅.objs.size) := hz₇
 refine wpAny_setField_rec hz₇ (by simp) fun g₈ hz₈ hs₈ => ?_
 replace hz₈ : IsZip g₈ z TI TO (rawInt g₅.objs.size) := hz₈
 have up : ∀ c o, c ≠ z → g₅.get? c = some o → g₈.get? c = some o := fun c o c1 e => hs₈.extBut _ _ c1 (hs₇.extBut _ _ c1 (Heap.get?_push_of_some _ e))
 have hT₈ : IsPair g₈ g₅.objs.size x y := hs₈.extBut _ _ (Nat.ne_of_gt hzlt) (hs₇.extBut _ _ (Nat.ne_of_gt hzlt) (Heap.get?_push_size _ rfl))
 have hz8 : g₈.objs.size = g₅.objs.size + 1 := by rw [hs₈.1, hs₇.1, Heap.size_push]
 rw [hsz] at hz₈ hT₈ hz8
 refine wpAny_pure ⟨_, rfl, ?_⟩
 show Q (.ref g₅.objs.size) _
 rw [hsz]
 exact hQ g₈ hz₈ (up _ _ Ap.TOz hTO₅) (h1₅.keep fun o e => up _ o Ap.i1z e) (h2₅.keep fun o e => up _ o Ap.i2z e) hT₈ hz8 fun c o c1 c2 c3 c4 e => up c o c1 (hk₅ c o c1 c2 c3 c4 e)
theorem cP7 {a b : Value} {Q : Fin → Shared → Prop} (hh : A.handled = none) (Ap : ZA z TI TO i1 i2) (n1 : l1 ∉ [z, TO, i1, i2]) (n2 : l2 ∉ [z, TO, i1, i2])
 (hz : IsZip s.heap z TI TO .none) (hTI : IsPair s.heap TI (.ref i1) (.ref i2)) (hTO : IsPair s.heap TO a b)
 (h1 : SI k1 s.heap i1 l1 i) (h2 : SI k2 s.heap i2 l2 i) (hl1 : SC k1 s.heap l1 xs) (hl2 : SC k2 s.heap l2 ys) (hend : xs[i]? = none ∨ ys[i]? = none)
 (hE : ∀ h' e, (∀ c o, c ≠ z → c ≠ TO → c ≠ i1 → c ≠ i2 → s.heap.get? c = some o → h'.get? c = some o) → (∃ o, h'.get? e = some o ∧ o.cls = .type "StopIteration") → E (.ref e) { s with heap := h' }) :
 wpAny (model prog w) A (Builtin.«zip.__next__» ⟨[.ref z], []⟩) Q E s := by
 simp only [List.mem_cons, List.not_mem_nil, or_false, not_or] at n1 n2
 show wpAny _ _ (field (.ref z) 2 >>= _) _ _ _
 refine wpAny_bind (wpAny_field hz rfl (x := .bool false) rfl ?_)
 show wpAny _ _ (field (.ref z) 3 >>= _) _ _ _
 refine wpAny_bind (wpAny_field hz rfl (x := .ref TI) rfl ?_)
 refine wpAny_bind (wpAny_seqItems hTI rfl ?_)
 show wpAny _ _ (Builtin.SmallTypes.ownedTupleIsFree (.ref z) >>= _) _ _ _
 refine wpAny_bind ?_
 unfold Builtin.SmallTypes.ownedTupleIsFree
 refine wpAny_bind (wpAny_field hz rfl (x := .none) rfl (wpAny_pure ?_))
 simp only [if_true]
 refine wpAny_bind (wpAny_rule ?_)
 refine wpAny_bind (wpAny_field hz rfl (x := .ref TO) rfl ?_)
 refine wpAny_bind (wpAny_setField_rec hz (by simp) fun g₁ hz₁ hs₁ => ?_)
 replace hz₁ : IsZip g₁ z TI TO .ellipsis := hz₁
 refine wpAny_bind ?_
 simp only [List.zipIdx_cons, List.zipIdx_nil, List.forIn_cons, List.forIn_nil]
 refine wpAny_bind (wpAny_bind (wpAny_onRaise ?_))
 show wpAny _ _ (Builtin.SmallTypes.nextOf (.ref i1) >>= _) _ _ _
 rcases hx : xs[i]? with _ | x
 ·
   refine wpAny_bind (aX1 hh (h1.keep fun o e => hs₁.extBut _ _ Ap.i1z e) (hl1.keep fun o e => hs₁.extBut _ _ n1.1 e) hx fun g₂ e hs₂ he => ?_)
   obtain ⟨oe, hoe, hce⟩ := he
   have hz₂ : IsZip g₂ z TI TO .ellipsis := hs₂ _ _ Ap.i1z.symm hz₁
   have hez : e ≠ z := fun q => by subst q; rw [hz₂] at hoe; cases hoe; simp at hce
   exact wpAny_setField_rec hz₂ (by simp) fun g₃ _ hs₃ => hE g₃ e (fun c o c1 _ c3 _ q => hs₃.extBut _ _ c1 (hs₂ _ _ c3 (hs₁.extBut _ _ c1 q))) ⟨oe, hs₃.extBut _ _ hez hoe, hce⟩
 ·
   have hy : ys[i]? = none := by
    rcases hend with h | h
    · rw [hx] at h; exact cV4 h
    · exact h
   refine wpAny_bind (aI1 (h1.keep fun o e => hs₁.extBut _ _ Ap.i1z e) (hl1.keep fun o e => hs₁.extBut _ _ n1.1 e) hx fun g₂ h1₂ hs₂ => wpAny_pure ?_)
   have hTO₂ : IsPair g₂ TO a b := hs₂.extBut _ _ Ap.TOi1 (hs₁.extBut _ _ Ap.TOz hTO)
   refine wpAny_bind (wpAny_seqItems hTO₂ rfl ?_)
   refine wpAny_bind (wpAny_updateSeq_pair hTO₂ fun g₃ hTO₃ hs₃ => ?_)
   refine wpAny_bind (wpAny_letGo (wpAny_pure ?_))
   refine wpAny_bind (wpAny_bind (wpAny_onRaise ?_))
   show wpAny _ _ (Builtin.SmallTypes.nextOf (.ref i2) >>= _) _ _ _
   have up3 : ∀ c o, c ≠ z → c ≠ TO → c ≠ i1 → s.heap.get? c = some o → g₃.get? c = some o := fun c o c1 c2 c3 e => hs₃.extBut _ _ c2 (hs₂.extBut _ _ c3 (hs₁.extBut _ _ c1 e))
   refine wpAny_bind (aX1 hh (h2.keep fun o e => up3 _ _ Ap.i2z Ap.TOi2.symm Ap.i12.symm e) (hl2.keep fun o e => up3 _ _ n2.1 n2.2.1 n2.2.2.1 e) hy fun g₄ e hs₄ he => ?_)
   obtain ⟨oe, hoe, hce⟩ := he
   have hz₄ : IsZip g₄ z TI TO .ellipsis := hs₄ _ _ Ap.i2z.symm (hs₃.extBut _ _ Ap.TOz.symm (hs₂.extBut _ _ Ap.i1z.symm hz₁))
   have hez : e ≠ z := fun q => by subst q; rw [hz₄] at hoe; cases hoe; simp at hce
   exact wpAny_setField_rec hz₄ (by simp) fun g₅ _ hs₅ => hE g₅ e (fun c o c1 c2 c3 c4 q => hs₅.extBut _ _ c1 (hs₄ _ _ c4 (up3 c o c1 c2 c3 q))) ⟨oe, hs₅.extBut _ _ hez hoe, hce⟩
theorem aT2 {x y a b : Value} {Q : Option Value → Shared → Prop} (Ap : ZA z TI TO i1 i2) (n1 : l1 ∉ [z, TO, i1, i2]) (n2 : l2 ∉ [z, TO, i1, i2])
 (hz : IsZip s.heap z TI TO .none) (hTI : IsPair s.heap TI (.ref i1) (.ref i2)) (hTO : IsPair s.heap TO a b)
 (h1 : SI k1 s.heap i1 l1 i) (h2 : SI k2 s.heap i2 l2 i) (hl1 : SC k1 s.heap l1 xs) (hl2 : SC k2 s.heap l2 ys) (hx : xs[i]? = some x) (hy : ys[i]? = some y)
 (hQ : ∀ h', IsZip h' z TI TO (rawInt s.heap.objs.size) → IsPair h' TO x y → SI k1 h' i1 l1 (i + 1) → SI k2 h' i2 l2 (i + 1) → IsPair h' s.heap.objs.size x y → h'.objs.size = s.heap.objs.size + 1 →
   (∀ c o, c ≠ z → c ≠ TO → c ≠ i1 → c ≠ i2 → s.heap.get? c = some o → h'.get? c = some o) → Q (some (.ref s.heap.objs.size)) { s with heap := h' }) :
 wpAny (model prog w) A (pyNext (.ref z)) Q E s := by
 have hT : s.TypeIs (.ref z) "zip" := ⟨_, hz, rfl⟩
 unfold pyNext
 exact wpAny_bind (wpAny_attempt (wpAny_callSpecial?_slot (name := Str.ofString "__next__") hT F.slot_zip_next (wpAny_call_entry F.slot_zip_next hT F.entry_zip_next
  (cI5 Ap n1 n2 hz hTI hTO h1 h2 hl1 hl2 hx hy fun h' a1 a2 a3 a4 a5 a6 a7 => wpAny_pure (hQ h' a1 a2 a3 a4 a5 a6 a7)) (F.args_zip_next_1 _))))
theorem aY9 {a b : Value} {Q : Option Value → Shared → Prop} (hh : A.handled = none) (Ap : ZA z TI TO i1 i2) (n1 : l1 ∉ [z, TO, i1, i2]) (n2 : l2 ∉ [z, TO, i1, i2])
 (hz : IsZip s.heap z TI TO .none) (hTI : IsPair s.heap TI (.ref i1) (.ref i2)) (hTO : IsPair s.heap TO a b)
 (h1 : SI k1 s.heap i1 l1 i) (h2 : SI k2 s.heap i2 l2 i) (hl1 : SC k1 s.heap l1 xs) (hl2 : SC k2 s.heap l2 ys) (hend : xs[i]? = none ∨ ys[i]? = none)
 (hQ : ∀ h', (∀ c o, c ≠ z → c ≠ TO → c ≠ i1 → c ≠ i2 → s.heap.get? c = some o → h'.get? c = some o) → Q none { s with heap := h' }) : wpAny (model prog w) A (pyNext (.ref z)) Q E s := by
 have hT : s.TypeIs (.ref z) "zip" := ⟨_, hz, rfl⟩
 unfold pyNext
 refine wpAny_bind (wpAny_attempt (wpAny_callSpecial?_slot (name := Str.ofString "__next__") hT F.slot_zip_next (wpAny_call_entry F.slot_zip_next hT F.entry_zip_next
  (cP7 hh Ap n1 n2 hz hTI hTO h1 h2 hl1 hl2 hend fun h' e hk he => ?_) (F.args_zip_next_1 _))))
 obtain ⟨o, ho, hc⟩ := he
 exact wpAny_bind (wpAny_isInstance (T := "StopIteration") (b := true) ⟨o, ho, hc⟩ isSubtype_stop (wpAny_pure (hQ _ hk)))
end
noncomputable def bB1 (k : Bool) (a : Addr) : Obj := { cls := .type (if k then "tuple_iterator" else "list_iterator"), data := .fields #[.ref a, .int 0 0] }
abbrev zh1 (k1 : Bool) (h : Heap) (l1 : Addr) : Heap := h.push (bB1 k1 l1)
abbrev zh2 (k1 k2 : Bool) (h : Heap) (l1 l2 : Addr) : Heap := (zh1 k1 h l1).push (bB1 k2 l2)
noncomputable abbrev zh3 (k1 k2 : Bool) (h : Heap) (l1 l2 : Addr) : Heap := (zh2 k1 k2 h l1 l2).push { cls := .type "tuple", data := .seq #[.ref h.objs.size, .ref (zh1 k1 h l1).objs.size] }
noncomputable abbrev zh4 (k1 k2 : Bool) (h : Heap) (l1 l2 : Addr) : Heap := (zh3 k1 k2 h l1 l2).push { cls := .type "tuple", data := .seq #[.none, .none] }
noncomputable abbrev zh5 (k1 k2 : Bool) (h : Heap) (l1 l2 : Addr) : Heap := (zh4 k1 k2 h l1 l2).push { cls := .type "zip", data := .fields #[.none, .bool false, .bool false, .ref (zh2 k1 k2 h l1 l2).objs.size, .ref (zh3 k1 k2 h l1 l2).objs.size] }
theorem aY5 {prog : Program} {w : World} {A : Around} {E : VSP} {s : Shared} {k : Bool} {a : Addr} {items : Array Value} {Q : VSP} (hl : SC k s.heap a items) (h : Q (.ref s.heap.objs.size) { s with heap := s.heap.push (bB1 k a) }) : wpAny (model prog w) A (pyIter (.ref a)) Q E s := by
 rcases k with _ | _
 · exact wpAny_pyIter_list hl h
 · exact wpAny_pyIter_tuple hl h
theorem cV3 (k1 k2 : Bool) (l1 l2 : Addr) (xs ys : Array Value) :
 Meets (Builtin.«zip.__new__» ⟨[.type "zip", .ref l1, .ref l2], []⟩) (fun _ R s => SC k1 s.heap l1 xs ∧ SC k2 s.heap l2 ys ∧ R (.ok (.ret (.ref (zh4 k1 k2 s.heap l1 l2).objs.size))) { s with heap := zh5 k1 k2 s.heap l1 l2 }) :=
 .of_wp fun prog w A R s h => by
  obtain ⟨hp, g, d, tk, os⟩ := s
  obtain ⟨hl1, hl2, h⟩ := h
  have hsub := sub_zip
  have hL1 : SC k1 (Shared.heap ⟨hp, g, d, tk, os⟩) l1 xs := hl1
  have hL2 : SC k2 (Shared.heap ⟨hp.push (bB1 k1 l1), g, d, tk, os⟩) l2 ys := hl2.keep fun o e => Heap.get?_push_of_some _ e
  wp_walk using aY5 hL1, aY5 hL2
  exact ⟨_, rfl, h⟩
section
variable {X : Cx} {pins : PNS} {σ : St} {H : Hp} {s : Shared}
theorem bC7 {h' : Heap} {t' : Nat} {ch : List Addr} {vs : List V} {us : List Value} (I : Inv X pins σ H s) (hf : ∀ b ∈ ch, aH2 X pins H b) (k : ∀ b o, b ∉ ch → s.heap.get? b = some o → h'.get? b = some o)
 (hz : vs.length ≤ sizeLine) (rv : o5 vs us) (ht : V3 h' s.heap.objs.size us.toArray) : Inv X pins σ (upd H s.heap.objs.size (.tup vs)) { s with heap := h', toks := t' } := by
 have hq : H s.heap.objs.size = none := I.hok.fresh (Nat.le_refl _)
 have neq : ∀ b o, s.heap.get? b = some o → b ≠ s.heap.objs.size := fun b o e => Nat.ne_of_lt (Heap.lt_size e)
 have nch : ∀ b u, H b = some u → b ∉ ch := fun b u e z => by rw [(hf b z).1] at e; cases e
 refine I.step (g' := s.gens) (d' := s.drawn) (ch := ch) (fun b hb => ⟨(hf b hb).2.2.2.1, (hf b hb).2.1, (hf b hb).2.2.2.2.1, (hf b hb).2.2.2.2.2⟩) (fun b o _ _ hc e _ => k b o hc e) (fun b o _ _ hc e _ => ⟨o.slots, k b o hc e⟩)
  (fun b o _ e n => by rw [m5 (neq b o e)]; exact n) (fun b o hc e => ⟨o, k b o hc e⟩) (fun b xs e => by rw [m5 (o7 e hq)]; exact e) (fun b o u e => by rw [m5 (o7 e hq)]; exact e)
  (fun b ps e => ⟨#[], by rw [m5 (o7 e hq), e]; simp⟩) (fun m hm => ?_) (fun b u e => ?_) I.bare
 · obtain ⟨o, es, ep, ho, r⟩ := hm
   exact ⟨o, es, ep, k _ o (fun z => (hf _ z).2.1 rfl) ho, r⟩
 · by_cases hb : b = s.heap.objs.size
   · subst hb
     rw [v8] at e
     cases e
     exact ⟨hz, us, rv, ht⟩
   · rw [m5 hb] at e
     refine (I.hok b u e).stay (fun c v hc q => k c v ?_ q) (fun c q => by rw [m5 (o7 q hq)]; exact q) fun c xs q => by rw [m5 (o7 q hq)]; exact q
     rcases hc with z | z
     · rw [z]; exact nch b u e
     · exact nch c _ z
theorem aV0 {h' : Heap} {t' : Nat} {ch : List Addr} (I : Inv X pins σ H s) (hf : ∀ b ∈ ch, aH2 X pins H b) (k : ∀ b o, b ∉ ch → s.heap.get? b = some o → h'.get? b = some o) : Inv X pins σ H { s with heap := h', toks := t' } := by
 have nch : ∀ b u, H b = some u → b ∉ ch := fun b u e z => by rw [(hf b z).1] at e; cases e
 refine I.step (g' := s.gens) (d' := s.drawn) (ch := ch) (fun b hb => ⟨(hf b hb).2.2.2.1, (hf b hb).2.1, (hf b hb).2.2.2.2.1, (hf b hb).2.2.2.2.2⟩) (fun b o _ _ hc e _ => k b o hc e) (fun b o _ _ hc e _ => ⟨o.slots, k b o hc e⟩)
  (fun _ _ _ _ n => n) (fun b o hc e => ⟨o, k b o hc e⟩) (fun _ _ e => e) (fun _ _ _ e => e) (fun b ps e => ⟨#[], by rw [e]; simp⟩) (fun m hm => ?_) (fun b u e => ?_) I.bare
 · obtain ⟨o, es, ep, ho, r⟩ := hm
   exact ⟨o, es, ep, k _ o (fun z => (hf _ z).2.1 rfl) ho, r⟩
 · refine (I.hok b u e).stay (fun c v hc q => k c v ?_ q) (fun _ q => q) fun _ _ q => q
   rcases hc with z | z
   · rw [z]; exact nch b u e
   · exact nch c _ z
end
def Sq (K : PySem.W.Frag) (k : Bool) (H : Hp) (a : Addr) (vs : List V) : Prop := if k then SqT K H a vs else SqL K H a vs
theorem bB7 {X : Cx} {pins : PNS} {σ : St} {H : Hp} {s : Shared} {k : Bool} {a : Addr} {vs : List V} (I : Inv X pins σ H s) (h : Sq X.K k H a vs) : ∃ its : List Value, o5 vs its ∧ SC k s.heap a its.toArray ∧ vs.length ≤ sizeLine := by
 rcases k with _ | _
 · obtain ⟨its, r, p, z⟩ := I.list h; exact ⟨its, r, p.isList, z⟩
 · obtain ⟨its, r, p, z⟩ := I.tuple h; exact ⟨its, r, p, z⟩
theorem cF8 {X : Cx} {pins : PNS} {σ : St} {H : Hp} {s : Shared} {k : Bool} {a : Addr} {vs ws : List V} (I : Inv X pins σ H s) (h : Sq X.K k H a vs) (h' : Sq X.K k H a ws) : vs = ws := by
 rcases k with _ | _
 · exact I.list_inj h h'
 · exact I.tuple_inj h h'
def Itz (K : PySem.W.Frag) (k1 k2 : Bool) (a b : Addr) : It :=
 ⟨fun i H => ∃ xs ys x y, Sq K k1 H a xs ∧ Sq K k2 H b ys ∧ xs[i]? = some x ∧ ys[i]? = some y,
  fun i H v H' => ∃ q x y, H q = none ∧ v = .ref q ∧ H' = upd H q (.tup [x, y]) ∧ (∀ xs, Sq K k1 H a xs → xs[i]? = some x) ∧ ∀ ys, Sq K k2 H b ys → ys[i]? = some y,
  fun i H => ∃ xs ys, Sq K k1 H a xs ∧ Sq K k2 H b ys ∧ (xs.length ≤ i ∨ ys.length ≤ i)⟩
theorem bF1 {vs : List V} {its : List Value} (r : o5 vs its) {i : Nat} {x : V} (h : vs[i]? = some x) : ∃ u, its.toArray[i]? = some u ∧ o4 x u := by
 obtain ⟨u, e, ru⟩ := r.get h
 exact ⟨u, by simpa using e, ru⟩
theorem cF2 {P : Program} {w : World} {K : PySem.W.Frag} {es : List Expr} {x1 : Nat} {tp : Pos} {k1 k2 : Bool} {l1 l2 z TI TO i1 i2 : Addr} (Ap : ZA z TI TO i1 i2) (n1 : l1 ∉ [z, TO, i1, i2]) (n2 : l2 ∉ [z, TO, i1, i2]) :
 aU5 P w K (.Tuple es x1 tp) (Itz K k1 k2 l1 l2) [z, TI, TO, i1, i2] z (fun i h => IsZip h z TI TO .none ∧ IsPair h TI (.ref i1) (.ref i2) ∧ (∃ a b, IsPair h TO a b) ∧ SI k1 h i1 l1 i ∧ SI k2 h i2 l2 i) where
 mem := by simp
 obj := fun i h st b hb => by
  obtain ⟨s1, s2, ⟨a, c, s3⟩, s4, s5⟩ := st
  simp only [List.mem_cons, List.not_mem_nil, or_false] at hb
  rcases hb with rfl | rfl | rfl | rfl | rfl
  · exact ⟨_, s1, fun v z => nomatch z⟩
  · exact ⟨_, s2, fun v z => nomatch z⟩
  · exact ⟨_, s3, fun v z => nomatch z⟩
  · exact s4.there
  · exact s5.there
 keep := fun i h h' st k => by
  obtain ⟨s1, s2, ⟨a, c, s3⟩, s4, s5⟩ := st
  exact ⟨k _ (by simp) _ s1, k _ (by simp) _ s2, ⟨a, c, k _ (by simp) _ s3⟩, s4.keep (k _ (by simp)), s5.keep (k _ (by simp))⟩
 item := by
  intro X hP hw hK hc i pins s σ H E I hf st hg
  subst hP hw hK
  obtain ⟨xs, ys, x, y, q1, q2, hx, hy⟩ := hg
  obtain ⟨its1, r1, c1, z1⟩ := bB7 I q1
  obtain ⟨its2, r2, c2, z2⟩ := bB7 I q2
  obtain ⟨u1, e1, ru1⟩ := bF1 r1 hx
  obtain ⟨u2, e2, ru2⟩ := bF1 r2 hy
  obtain ⟨s1, s2, ⟨a, c, s3⟩, s4, s5⟩ := st
  refine aT2 Ap n1 n2 s1 s2 s3 s4 s5 c1 c2 e1 e2 fun g b1 b2 b3 b4 b5 b6 b7 => ⟨_, rfl, ?_⟩
  refine wpAny_letOwnedTupleGo_zip b1 fun g2 c1' sb => ?_
  have keep : ∀ b o, b ∉ [z, TI, TO, i1, i2] → s.heap.get? b = some o → g2.get? b = some o := fun b o hb e => by
   simp only [List.mem_cons, List.not_mem_nil, or_false, not_or] at hb
   exact (sb.2 b hb.1).trans (b7 b o hb.1 hb.2.2.1 hb.2.2.2.1 hb.2.2.2.2 e)
  have zlt : z < s.heap.objs.size := Heap.lt_size s1
  have hnew : V3 g2 s.heap.objs.size [u1, u2].toArray := ⟨_, (sb.2 _ (Nat.ne_of_gt zlt)).trans b5, rfl, _, rfl⟩
  have hq : H s.heap.objs.size = none := I.hok.fresh (Nat.le_refl _)
  refine ⟨.ref s.heap.objs.size, upd H s.heap.objs.size (.tup [x, y]), bC7 I hf keep (by show 2 ≤ sizeLine; decide) (.cons ru1 (.cons ru2 .nil)) hnew, rfl, ⟨_, x, y, hq, rfl, rfl, fun xs' h => by rw [cF8 I h q1]; exact hx, fun ys' h => by rw [cF8 I h q2]; exact hy⟩, ?_, fun b hb => ?_⟩
  · refine ⟨c1', ?_, ⟨_, _, (sb.2 _ Ap.TOz).trans b2⟩, b3.keep fun o e => (sb.2 _ Ap.i1z).trans e, b4.keep fun o e => (sb.2 _ Ap.i2z).trans e⟩
    exact (sb.2 _ Ap.TIz).trans (b7 TI _ Ap.TIz Ap.TITO Ap.TIi1 Ap.TIi2 s2)
  · have hb' : b < s.heap.objs.size := by
     simp only [List.mem_cons, List.not_mem_nil, or_false] at hb
     rcases hb with rfl | rfl | rfl | rfl | rfl
     · exact zlt
     · exact Heap.lt_size s2
     · exact Heap.lt_size s3
     · obtain ⟨_, e, _⟩ := s4.there; exact Heap.lt_size e
     · obtain ⟨_, e, _⟩ := s5.there; exact Heap.lt_size e
    rw [m5 (Nat.ne_of_lt hb')]
    exact (hf b hb).1
 done := by
  intro X hP hw hK hc i pins s σ H E I hf st hg
  subst hP hw hK
  obtain ⟨xs, ys, q1, q2, hend⟩ := hg
  obtain ⟨its1, r1, c1, z1⟩ := bB7 I q1
  obtain ⟨its2, r2, c2, z2⟩ := bB7 I q2
  obtain ⟨s1, s2, ⟨a, c, s3⟩, s4, s5⟩ := st
  have hl1 := r1.length
  have hl2 := r2.length
  refine aY9 (I.ok.hd hc) Ap n1 n2 s1 s2 s3 s4 s5 c1 c2 (by rcases hend with h | h; left; simp; lia; right; simp; lia) fun g b7 => ⟨rfl, aV0 (t' := s.toks) I hf fun b o hb e => ?_⟩
  simp only [List.mem_cons, List.not_mem_nil, or_false, not_or] at hb
  exact b7 b o hb.1 hb.2.2.1 hb.2.2.2.1 hb.2.2.2.2 e
 self := fun _ _ _ _ _ st h => wpAny_pyIter_zip st.1 h
def dP6 (K : PySem.W.Frag) (ta : TA) : TI := fun σ H R => ta σ H fun vs H1 => ∃ k1 k2 a b xs ys, vs = [.ref a, .ref b] ∧ Sq K k1 H1 a xs ∧ Sq K k2 H1 b ys ∧ R (Itz K k1 k2 a b) H1
section
variable {X : Cx} {Z : XC}
theorem bH7 {prog : Program} {w : World} {A : Around} {E : VSP} {s : Shared} {k1 k2 : Bool} {l1 l2 : Addr} {xs ys : Array Value} {Q : VSP} (hl1 : SC k1 s.heap l1 xs) (hl2 : SC k2 s.heap l2 ys)
 (h : Q (.ref (zh4 k1 k2 s.heap l1 l2).objs.size) { s with heap := zh5 k1 k2 s.heap l1 l2 }) : wpAny (model prog w) A (call (.type "zip") [.ref l1, .ref l2]) Q E s := by
 refine callType_new F.called_zip (by decide) (F.typeCall_zip_2 _ _) (F.newCall_zip_2 _ _) (fun obj => F.args_object_init_3 obj _ _) F.entry_zip_new (cV3 k1 k2 l1 l2 xs ys) ⟨hl1, hl2, ?_⟩
 exact ⟨⟨_, Heap.get?_push_size _ rfl, rfl⟩, h⟩
structure ZMk (k1 k2 : Bool) (h h5 : Heap) (l1 l2 : Addr) (n : Nat) : Prop where
 keep : ∀ b o, h.get? b = some o → h5.get? b = some o
 sz : h5.objs.size = n + 5
 g5 : IsZip h5 (n + 4 : Nat) (n + 2 : Nat) (n + 3 : Nat) .none
 g4 : IsPair h5 (n + 3 : Nat) .none .none
 g3 : IsPair h5 (n + 2 : Nat) (.ref n) (.ref (n + 1 : Nat))
 s1 : SI k1 h5 n l1 0
 s2 : SI k2 h5 (n + 1 : Nat) l2 0
theorem zmk {k1 k2 : Bool} {h : Heap} {l1 l2 : Addr} : (zh4 k1 k2 h l1 l2).objs.size = h.objs.size + 4 ∧ ZMk k1 k2 h (zh5 k1 k2 h l1 l2) l1 l2 h.objs.size := by
 have z1 : (zh1 k1 h l1).objs.size = h.objs.size + 1 := Heap.size_push ..
 have z2 : (zh2 k1 k2 h l1 l2).objs.size = h.objs.size + 2 := by rw [Heap.size_push, z1]
 have z3 : (zh3 k1 k2 h l1 l2).objs.size = h.objs.size + 3 := by rw [Heap.size_push, z2]
 have z4 : (zh4 k1 k2 h l1 l2).objs.size = h.objs.size + 4 := by rw [Heap.size_push, z3]
 have z5 : (zh5 k1 k2 h l1 l2).objs.size = h.objs.size + 5 := by rw [Heap.size_push, z4]
 have g5 : IsZip (zh5 k1 k2 h l1 l2) (zh4 k1 k2 h l1 l2).objs.size (zh2 k1 k2 h l1 l2).objs.size (zh3 k1 k2 h l1 l2).objs.size .none := Heap.get?_push_size _ rfl
 have g4 : IsPair (zh5 k1 k2 h l1 l2) (zh3 k1 k2 h l1 l2).objs.size .none .none := Heap.get?_push_of_some _ (Heap.get?_push_size _ rfl)
 have g3 : IsPair (zh5 k1 k2 h l1 l2) (zh2 k1 k2 h l1 l2).objs.size (.ref h.objs.size) (.ref (zh1 k1 h l1).objs.size) := Heap.get?_push_of_some _ (Heap.get?_push_of_some _ (Heap.get?_push_size _ rfl))
 have g2 : (zh5 k1 k2 h l1 l2).get? (zh1 k1 h l1).objs.size = some (bB1 k2 l2) := Heap.get?_push_of_some _ (Heap.get?_push_of_some _ (Heap.get?_push_of_some _ (Heap.get?_push_size _ (by cases k2 <;> rfl))))
 have g1 : (zh5 k1 k2 h l1 l2).get? h.objs.size = some (bB1 k1 l1) := Heap.get?_push_of_some _ (Heap.get?_push_of_some _ (Heap.get?_push_of_some _ (Heap.get?_push_of_some _ (Heap.get?_push_size _ (by cases k1 <;> rfl)))))
 rw [z4, z2, z3] at g5
 rw [z3] at g4
 rw [z2, z1] at g3
 rw [z1] at g2
 refine ⟨z4, fun b o e => Heap.get?_push_of_some _ (Heap.get?_push_of_some _ (Heap.get?_push_of_some _ (Heap.get?_push_of_some _ (Heap.get?_push_of_some _ e)))), z5, g5, g4, g3, ?_, ?_⟩
 · rcases k1 with _ | _
   · exact ⟨_, g1, rfl, rfl⟩
   · exact ⟨_, g1, rfl, rfl⟩
 · rcases k2 with _ | _
   · exact ⟨_, g2, rfl, rfl⟩
   · exact ⟨_, g2, rfl, rfl⟩
theorem SC.lt {k : Bool} {h : Heap} {a : Addr} {xs : Array Value} (c : SC k h a xs) : @LT.lt Nat instLTNat a h.objs.size := by
 rcases k with _ | _
 · obtain ⟨o, e, _⟩ := (show h.IsList a _ from c); exact Heap.lt_size e
 · obtain ⟨o, e, _⟩ := (show h.IsTuple a _ from c); exact Heap.lt_size e
theorem bK3 {prog : Program} {w : World} {A : Around} {E : VSP} {s : Shared} {k1 k2 : Bool} {l1 l2 : Addr} {xs ys : Array Value} {Q : VSP} (hl1 : SC k1 s.heap l1 xs) (hl2 : SC k2 s.heap l2 ys)
 (h : ∀ (h5 : Heap) (n : Nat), n = s.heap.objs.size → ZMk k1 k2 s.heap h5 l1 l2 n → Q (.ref (n + 4 : Nat)) { s with heap := h5 }) : wpAny (model prog w) A (call (.type "zip") [.ref l1, .ref l2]) Q E s := by
 refine bH7 hl1 hl2 ?_
 have := zmk (k1 := k1) (k2 := k2) (h := s.heap) (l1 := l1) (l2 := l2)
 rw [this.1]
 exact h _ _ rfl this.2
theorem dG5 {es : List Expr} {x1 : Nat} {tp : Pos} {a b : Expr} {ta : TA} {p pos : Pos} (hg : Gl X "zip") (hm : X.mg "zip" = none) (ha : PA X [a, b] ta) (hs : starEach [a, b] X.env = [(false, eval a X.env), (false, eval b X.env)]) (hs2 : starEach [b] X.env = [(false, eval b X.env)]) (hbt : bootBuiltins "zip" = some (.type "zip")) :
 PI X (.Tuple es x1 tp) (.Call (.Name "zip" p) [a, b] [] pos) (dP6 X.K ta) := by
 intro pins s σ H R I h
 refine Call_ (aP6 I hg hm hbt (PyProof.Rows.callWith_type1 (thn (ha pos pins s σ H _ I h) fun us s1 hE1 => hE1.elim fun vs H1 I1 r1 q1 => ?_) (by rw [hs, hs2]) (by rw [hs2]; rfl)))
 obtain ⟨k1, k2, l1, l2, xs, ys, rfl, q1, q2, q⟩ := q1
 obtain ⟨u1, u2, rfl, ru1, ru2⟩ := bY7 r1
 cases ru1
 cases ru2
 obtain ⟨its1, rr1, c1, z1⟩ := bB7 I1 q1
 obtain ⟨its2, rr2, c2, z2⟩ := bB7 I1 q2
 refine bK3 c1 c2 fun h5 n en Z => ?_
 have n1 := cL9 (en ▸ c1.lt)
 have n2 := cL9 (en ▸ c2.lt)
 refine wpAny_pyIter_zip Z.g5 ?_
 refine ⟨(n + 4 : Nat), _, _, Itz X.K k1 k2 l1 l2, H1, rfl, I1.kept (t' := s1.toks) Z.keep, cF2 (dK0 n) n1 n2, ⟨Z.g5, Z.g3, ⟨_, _, Z.g4⟩, Z.s1, Z.s2⟩, fun b hb => ?_, q⟩
 have hb' : s1.heap.objs.size ≤ b := en ▸ dJ7 hb
 exact I1.fpOk hb' (I1.hok.fresh hb')
end
def Ite (K : PySem.W.Frag) (a : Addr) : It :=
 ⟨fun i H => ∃ xs x, SqL K H a xs ∧ xs[i]? = some x,
  fun i H v H' => ∃ q x, H q = none ∧ v = .ref q ∧ H' = upd H q (.tup [.int i, x]) ∧ ∀ xs, SqL K H a xs → xs[i]? = some x,
  fun i H => ∃ xs, SqL K H a xs ∧ xs.length ≤ i⟩
theorem cB9 {P : Program} {w : World} {K : PySem.W.Frag} {es : List Expr} {x1 : Nat} {tp : Pos} {l e it : Addr} (hne : e ≠ it) :
 aU5 P w K (.Tuple es x1 tp) (Ite K l) [e, it] e (fun i h => (∃ old, IsEnum h e it i old) ∧ h.IsListIter it l i) where
 mem := by simp
 obj := fun i h st b hb => by
  obtain ⟨⟨old, s1⟩, s2⟩ := st
  simp only [List.mem_cons, List.not_mem_nil, or_false] at hb
  rcases hb with rfl | rfl
  · exact ⟨_, s1, fun v z => nomatch z⟩
  · obtain ⟨o, q, c, d⟩ := s2
    exact ⟨o, q, fun v z => by rw [d] at z; cases z⟩
 keep := fun i h h' st k => by
  obtain ⟨⟨old, s1⟩, s2⟩ := st
  exact ⟨⟨old, k _ (by simp) _ s1⟩, s2.at fun o q => k _ (by simp) o q⟩
 item := by
  intro X hP hw hK hc i pins s σ H E I hf st hg
  subst hP hw hK
  obtain ⟨xs, x, q1, hx⟩ := hg
  obtain ⟨its, r1, c1, z1⟩ := I.list q1
  obtain ⟨u, e1, ru⟩ := bF1 r1 hx
  obtain ⟨⟨old, s1⟩, s2⟩ := st
  refine wpAny_pyNext_enum_item s1 s2 c1.isList e1 hne fun g b1 b2 b3 b4 b5 => ⟨_, rfl, ?_⟩
  refine wpAny_letOwnedTupleGo_enum b1 fun g2 c1' sb => ?_
  have elt : e < s.heap.objs.size := Heap.lt_size s1
  have ilt : it < s.heap.objs.size := by obtain ⟨_, q, _⟩ := s2; exact Heap.lt_size q
  have keep : ∀ b o, b ∉ [e, it] → s.heap.get? b = some o → g2.get? b = some o := fun b o hb q => by
   simp only [List.mem_cons, List.not_mem_nil, or_false, not_or] at hb
   exact (sb.2 b hb.1).trans (b5 b o hb.1 hb.2 q)
  have hnew : V3 g2 s.heap.objs.size [.int (i : Int) s.toks, u].toArray := ⟨_, (sb.2 _ (Nat.ne_of_gt elt)).trans b3, rfl, _, rfl⟩
  have hq : H s.heap.objs.size = none := I.hok.fresh (Nat.le_refl _)
  refine ⟨.ref s.heap.objs.size, upd H s.heap.objs.size (.tup [.int i, x]), bC7 I hf keep (by show 2 ≤ sizeLine; decide) (.cons ⟨_, rfl⟩ (.cons ru .nil)) hnew, rfl, ⟨_, x, hq, rfl, rfl, fun xs' h => by rw [I.list_inj h q1]; exact hx⟩, ?_, fun b hb => ?_⟩
  · exact ⟨⟨_, c1'⟩, b2.at fun o q => (sb.2 _ (Ne.symm hne)).trans q⟩
  · have hb' : b < s.heap.objs.size := by
     simp only [List.mem_cons, List.not_mem_nil, or_false] at hb
     rcases hb with rfl | rfl
     · exact elt
     · exact ilt
    rw [m5 (Nat.ne_of_lt hb')]
    exact (hf b hb).1
 done := by
  intro X hP hw hK hc i pins s σ H E I hf st hg
  subst hP hw hK
  obtain ⟨xs, q1, hend⟩ := hg
  obtain ⟨its, r1, c1, z1⟩ := I.list q1
  obtain ⟨⟨old, s1⟩, s2⟩ := st
  have hl := r1.length
  refine wpAny_pyNext_enum_end (I.ok.hd hc) s1 s2 c1.isList (by simp; lia) fun g b7 => ⟨rfl, aV0 (t' := s.toks) I hf fun b o hb q => ?_⟩
  simp only [List.mem_cons, List.not_mem_nil, or_false, not_or] at hb
  exact b7 b o hb.2 q
 self := fun _ _ _ _ _ st h => by obtain ⟨⟨old, s1⟩, _⟩ := st; exact wpAny_pyIter_enum s1 h
def dH1 (K : PySem.W.Frag) (ta : TA) : TI := fun σ H R => ta σ H fun vs H1 => ∃ a xs, vs = [.ref a] ∧ SqL K H1 a xs ∧ R (Ite K a) H1
section
variable {X : Cx} {Z : XC}
theorem cS7 {es : List Expr} {x1 : Nat} {tp : Pos} {a : Expr} {ta : TA} {p pos : Pos} (hg : Gl X "enumerate") (hm : X.mg "enumerate" = none) (ha : PA X [a] ta) (hs : starEach [a] X.env = [(false, eval a X.env)]) (hbt : bootBuiltins "enumerate" = some (.type "enumerate")) :
 PI X (.Tuple es x1 tp) (.Call (.Name "enumerate" p) [a] [] pos) (dH1 X.K ta) := by
 intro pins s σ H R I h
 refine Call_ (aP6 I hg hm hbt (PyProof.Rows.callWith_type1 (thn (ha pos pins s σ H _ I h) fun us s1 hE1 => hE1.elim fun vs H1 I1 r1 q1 => ?_) hs rfl))
 obtain ⟨l, xs, rfl, q1, q⟩ := q1
 obtain ⟨u1, rfl, ru1⟩ := X3 r1
 cases ru1
 obtain ⟨its, rr, c1, z1⟩ := I1.list q1
 refine call_enumerate_list c1.isList fun g b1 b2 b3 b4 => wpAny_pyIter_enum b1 ?_
 have hne : @Ne Nat (s1.heap.objs.size + 1) s1.heap.objs.size := by lia
 refine ⟨s1.heap.objs.size + 1, [s1.heap.objs.size + 1, s1.heap.objs.size], _, Ite X.K l, H1, rfl, I1.kept (t' := s1.toks) b4, cB9 hne, ⟨⟨_, b1⟩, b2⟩, fun b hb => ?_, q⟩
 have hb' : s1.heap.objs.size ≤ b := by
  simp only [List.mem_cons, List.not_mem_nil, or_false] at hb
  rcases hb with rfl | rfl
  · exact Nat.le_succ _
  · exact Nat.le_refl _
 exact I1.fpOk hb' (I1.hok.fresh hb')
variable {tg e : Expr}
open Classical in
noncomputable def ckO (r : Nat) (o : DO) : DH → Bool := fun G => decide (G[r]? = some o)
def aB3 : D → M Src := fun x => match x with
 | .tup l => pure ⟨l, fun _ => true⟩
 | .ref r => do
   let o ← M5 r
   let l ← listOf o
   pure ⟨l, ckO r o⟩
 | _ => M.stuck
def dG6 (c : Wc) (μ : List Addr) (H : Hp) (k : Bool) (a : Addr) (s : Src) : Prop := ∀ μ' G' H', Ext μ H μ' H' → m6 c μ' G' H' → s.ck G' = true → ∃ vs, Sq c.K k H' a vs ∧ j9 c μ' H' s.items vs
theorem aJ4 {α : Type} {c : Wc} {μ : List Addr} {H : Hp} {G : DH} {d : D} {v : V} {f : Src → M α} {K : α → List Addr → DH → Hp → Prop} (h : m6 c μ G H) (r : d8 c μ H d v) (p : d7 c Z μ H ((aB3 d >>= f) G) K) :
 ∃ s k a vs, v = .ref a ∧ Sq c.K k H a vs ∧ j9 c μ H s.items vs ∧ dG6 c μ H k a s ∧ s.ck G = true ∧ (∀ i, d = .ref i → k = false) ∧ d7 c Z μ H (f s G) K := by
 rcases d with _ | _ | _ | _ | l | i | _ | _ <;> try (exact p.elim; done)
 ·
   unfold d8 at r
   obtain ⟨a, vs, rfl, q, rl⟩ := r
   exact ⟨⟨l, fun _ => true⟩, true, a, vs, rfl, q, rl, fun μ' G' H' x h' _ => ⟨vs, x.sqT q, rl.mono x⟩, rfl, (fun i z => nomatch z), p⟩
 ·
   unfold d8 at r
   obtain ⟨a, m, rfl⟩ := r
   have p' : d7 c Z μ H ((M5 i >>= fun o => (listOf o >>= fun l => (pure ⟨l, ckO i o⟩ : M Src)) >>= f) G) K := by rw [← M.bind_assoc]; exact p
   obtain ⟨o, g, p2⟩ := J2 p'
   have ro := h.obj i o a g m
   have ck : ckO i o G = true := by unfold ckO; simp [g]
   cases o with
   | lst l =>
     obtain ⟨vs, q, rl⟩ := ro
     refine ⟨⟨l, ckO i (.lst l)⟩, false, a, vs, rfl, SqL.of q, rl, fun μ' G' H' x h' hck => ?_, ck, (fun _ _ => rfl), p2⟩
     have g' : G'[i]? = some (.lst l) := by unfold ckO at hck; simpa using hck
     obtain ⟨vs', q', rl'⟩ := h'.obj i _ a g' (bG0 x.pre m)
     exact ⟨vs', SqL.of q', rl'⟩
   | rol l =>
     obtain ⟨vs, q, rl⟩ := ro
     refine ⟨⟨l, ckO i (.rol l)⟩, false, a, vs, rfl, q.sq, rl, fun μ' G' H' x h' hck => ?_, ck, (fun _ _ => rfl), p2⟩
     have g' : G'[i]? = some (.rol l) := by unfold ckO at hck; simpa using hck
     obtain ⟨vs', q', rl'⟩ := h'.obj i _ a g' (bG0 x.pre m)
     exact ⟨vs', q'.sq, rl'⟩
   | dct l => exact p2.elim
   | rod l => exact p2.elim
theorem bZ2 {c : Wc} {μ : List Addr} {H : Hp} {l : List D} {vs : List V} {i : Nat} {d : D} {x : V} (r : j9 c μ H l vs) (h : l[i]? = some d) (hx : vs[i]? = some x) : d8 c μ H d x := by
 obtain ⟨v, e, q⟩ := r.get h
 rw [hx] at e
 cases e
 exact q
noncomputable def u6 (lo : Int) (n : Nat) : List D := (List.range n).map fun (i : Nat) => D.int (lo + (i : Int))
def R7 (fs : DSt → M (List D)) : DSt → M Src := fun σ => do
 match ← fs σ with
 | [.int j] => if -(2 ^ 62) ≤ j ∧ j < 2 ^ 62 then pure ⟨u6 0 j.toNat, fun _ => true⟩ else M.stuck
 | _ => M.stuck
theorem cC5 {c : Wc} {μ : List Addr} {H : Hp} (lo : Int) (n : Nat) : ItD c μ H (Itr lo n) ⟨u6 lo n, fun _ => true⟩ := fun μ' G' H' x' h' _ i => by
 refine ⟨fun d hd => ?_, fun hi => ?_⟩
 · have hi : i < n := by have := lt_of_get hd; simpa [u6] using this
   have e : d = .int (lo + i) := by
    unfold u6 at hd
    rw [List.getElem?_map, List.getElem?_range hi] at hd
    simp at hd
    exact hd.symm
   subst e
   exact ⟨hi, fun x H2 ⟨e1, e2⟩ => by subst e1 e2; exact ⟨Ext.refl _ _, h', ofI⟩⟩
 · show n ≤ i
   simpa [u6] using hi
theorem cO2 {a : Expr} {fs : DSt → M (List D)} {p pos : Pos} (hg : Gl X "range") (hm : X.mg "range" = none) (ha : DA X Z [a] fs) (hs : starEach [a] X.env = [(false, eval a X.env)]) : DI X Z tg (.Call (.Name "range" p) [a] [] pos) (R7 fs) :=
 DI.of (cA0 hg hm ha.h hs) fun σ H R hE0 => hE0.elim fun dσ μ G s h p => ⟨dσ, μ, G, s, h, (d7.bind p).mono fun ds μ1 G1 H1 x1 h1 p1 vs rv => by
  rcases ds with _ | ⟨_ | _ | j | _ | _ | _ | _ | _, _ | ⟨_, _⟩⟩ <;> dsimp only at p1 <;> try exact p1.elim
  · split at p1
    · rename_i hj
      obtain ⟨v, t, rfl, r0, e⟩ := rv
      cases e
      exact ⟨j, by rw [W8 r0], hj.1, hj.2, d7.ok p1 h1 _ (cC5 0 _)⟩
    · exact p1.elim⟩
def bC5 (fs : DSt → M (List D)) : DSt → M Src := fun σ => do
 match ← fs σ with
 | [a, b] => do
   let s1 ← aB3 a
   let s2 ← aB3 b
   pure ⟨(s1.items.zip s2.items).map fun p => .tup [p.1, p.2], fun G => s1.ck G && s2.ck G⟩
 | _ => M.stuck
def aP9 (fs : DSt → M (List D)) : DSt → M Src := fun σ => do
 match ← fs σ with
 | [.ref r] => do
   let s ← aB3 (.ref r)
   pure ⟨s.items.zipIdx.map fun p => .tup [.int ((p.2 : Nat) : Int), p.1], s.ck⟩
 | _ => M.stuck
theorem bY3 {c : Wc} {μ : List Addr} {H : Hp} {G : DH} {q : Addr} {ds : List D} {vs : List V} (h : m6 c μ G H) (hq : H q = none) (r : j9 c μ H ds vs) : Ext μ H μ (upd H q (.tup vs)) ∧ m6 c μ G (upd H q (.tup vs)) ∧ d8 c μ (upd H q (.tup vs)) (.tup ds) (.ref q) := by
 have k : Ext μ H μ (upd H q (.tup vs)) := Ext.lay hq _
 refine ⟨k, h.same k fun a o e n => by rw [m5 (o7 e hq)]; exact e, ?_⟩
 unfold d8
 exact ⟨q, vs, rfl, SqT.of v8, r.mono k⟩
theorem dE5 {es : List Expr} {x1 : Nat} {tp : Pos} {a b : Expr} {fs : DSt → M (List D)} {p pos : Pos} (hg : Gl X "zip") (hm : X.mg "zip" = none) (ha : DA X Z [a, b] fs) (hs : starEach [a, b] X.env = [(false, eval a X.env), (false, eval b X.env)]) (hs2 : starEach [b] X.env = [(false, eval b X.env)]) (hbt : bootBuiltins "zip" = some (.type "zip")) :
 DI X Z (.Tuple es x1 tp) (.Call (.Name "zip" p) [a, b] [] pos) (bC5 fs) :=
 DI.of (dG5 hg hm ha.h hs hs2 hbt) fun σ H R hE0 => hE0.elim fun dσ μ G s h p => ⟨dσ, μ, G, s, h, (d7.bind p).mono fun ds μ1 G1 H1 x1 h1 p1 vs rv => by
  rcases ds with _ | ⟨d1, _ | ⟨d2, _ | ⟨_, _⟩⟩⟩ <;> dsimp only at p1 <;> try exact p1.elim
  · obtain ⟨v1, t1, rfl, r1, v2, t2, rfl, r2, e⟩ := rv
    cases e
    obtain ⟨s1, k1, a1, w1, rfl, q1, l1, is1, ck1, _, p2⟩ := aJ4 h1 r1 p1
    obtain ⟨s2, k2, a2, w2, rfl, q2, l2, is2, ck2, _, p3⟩ := aJ4 h1 r2 p2
    refine ⟨k1, k2, a1, a2, w1, w2, rfl, q1, q2, d7.ok p3 h1 _ fun μ' G' H' x' h' ck' i => ?_⟩
    have ck'' : s1.ck G' = true ∧ s2.ck G' = true := by simpa using ck'
    obtain ⟨u1, q1', l1'⟩ := is1 μ' G' H' x' h' ck''.1
    obtain ⟨u2, q2', l2'⟩ := is2 μ' G' H' x' h' ck''.2
    refine ⟨fun d hd => ?_, fun hi => ?_⟩
    · rw [List.getElem?_map] at hd
      rcases hz : (s1.items.zip s2.items)[i]? with _ | pr
      · rw [hz] at hd; cases hd
      ·
        rw [hz] at hd
        obtain ⟨e1, e2⟩ := pr
        have hd' : d = .tup [e1, e2] := by simpa using hd.symm
        subst hd'
        rw [List.getElem?_zip_eq_some] at hz
        obtain ⟨y1, hy1, ry1⟩ := l1'.get hz.1
        obtain ⟨y2, hy2, ry2⟩ := l2'.get hz.2
        refine ⟨⟨u1, u2, y1, y2, q1', q2', hy1, hy2⟩, fun x H2 ⟨q, z1, z2, hq, ex, eH, f1, f2⟩ => ?_⟩
        subst ex eH
        have g1 := f1 u1 q1'
        have g2 := f2 u2 q2'
        rw [hy1] at g1
        rw [hy2] at g2
        cases g1
        cases g2
        exact bY3 h' hq ⟨y1, _, rfl, ry1, y2, _, rfl, ry2, rfl⟩
    · refine ⟨u1, u2, q1', q2', ?_⟩
      rw [← l1'.length, ← l2'.length]
      simp at hi
      lia⟩
theorem cQ5 {es : List Expr} {x1 : Nat} {tp : Pos} {a : Expr} {fs : DSt → M (List D)} {p pos : Pos} (hg : Gl X "enumerate") (hm : X.mg "enumerate" = none) (ha : DA X Z [a] fs) (hs : starEach [a] X.env = [(false, eval a X.env)]) (hbt : bootBuiltins "enumerate" = some (.type "enumerate")) :
 DI X Z (.Tuple es x1 tp) (.Call (.Name "enumerate" p) [a] [] pos) (aP9 fs) :=
 DI.of (cS7 hg hm ha.h hs hbt) fun σ H R hE0 => hE0.elim fun dσ μ G s h p => ⟨dσ, μ, G, s, h, (d7.bind p).mono fun ds μ1 G1 H1 x1 h1 p1 vs rv => by
  rcases ds with _ | ⟨_ | _ | _ | _ | _ | r | _ | _, _ | ⟨_, _⟩⟩ <;> dsimp only at p1 <;> try exact p1.elim
  · obtain ⟨v1, t1, rfl, r1, e⟩ := rv
    cases e
    obtain ⟨s1, k1, a1, w1, rfl, q1, l1, is1, ck1, hk, p2⟩ := aJ4 h1 r1 p1
    have hk := hk r rfl
    subst hk
    refine ⟨a1, w1, rfl, q1, d7.ok p2 h1 _ fun μ' G' H' x' h' ck' i => ?_⟩
    obtain ⟨u1, q1', l1'⟩ := is1 μ' G' H' x' h' ck'
    refine ⟨fun d hd => ?_, fun hi => ?_⟩
    · rw [List.getElem?_map, List.getElem?_zipIdx] at hd
      rcases hz : s1.items[i]? with _ | e1
      · rw [hz] at hd; cases hd
      ·
        rw [hz] at hd
        have hd' : d = .tup [.int ((i : Nat) : Int), e1] := by simpa using hd.symm
        subst hd'
        obtain ⟨y1, hy1, ry1⟩ := l1'.get hz
        refine ⟨⟨u1, y1, q1', hy1⟩, fun x H2 ⟨q, z1, hq, ex, eH, f1⟩ => ?_⟩
        subst ex eH
        have g1 := f1 u1 q1'
        rw [hy1] at g1
        cases g1
        exact bY3 h' hq ⟨_, _, rfl, ofI, y1, _, rfl, ry1, rfl⟩
    · refine ⟨u1, q1', ?_⟩
      rw [← l1'.length]
      simpa using hi⟩
end
def lenF : List D → M D := fun ds => match ds with
 | [.str z] => if z.length ≤ sizeLine then pure (.int z.length) else M.stuck
 | [.tup l] => pure (.int l.length)
 | [.ref r] => do
   match ← M5 r with
   | .lst l => pure (.int l.length)
   | .rol l => pure (.int l.length)
   | .dct l => pure (.int l.length)
   | .rod _ => M.stuck
 | _ => M.stuck
def W7 : List D → M D := fun ds => match ds with
 | [.tup l] => pure (.tup l)
 | [.ref r] => do
   let l ← M5 r >>= listOf
   pure (.tup l)
 | _ => M.stuck
def dH9 : List D → M D := fun ds => match ds with
 | [.int i] => pure (.int i)
 | [.bl k] => pure (.int (if k then 1 else 0))
 | _ => M.stuck
noncomputable def aI0 : List D → Option (List Int)
 | [] => some []
 | .int i :: r => (aI0 r).map (i :: ·)
 | _ => none
noncomputable def aY0 : List D → Option (List Bool)
 | [] => some []
 | .bl b :: r => (aY0 r).map (b :: ·)
 | _ => none
def cA4 : List D → M D := fun ds => match ds with
 | [.ref r] => do
   let l ← M5 r >>= listOf
   let ns ← aC7 (aI0 l)
   pure (.int ns.sum)
 | _ => M.stuck
def bG4 : List D → M D := fun ds => match ds with
 | [.ref r] => do
   let l ← M5 r >>= listOf
   let bs ← aC7 (aY0 l)
   pure (.bl (bs.all id))
 | _ => M.stuck
theorem cG1 {α : Type} {F : List D → M α} {c : Wc} {Z : XC} {μ : List Addr} {H : Hp} {G : DH} {K : α → List Addr → DH → Hp → Prop} {ds : List D} (p : d7 c Z μ H (F ds G) K) (h0 : F [] = M.stuck) (h2 : ∀ a b t, F (a :: b :: t) = M.stuck) (hn : F [.non] = M.stuck) (hb : ∀ b, F [.bl b] = M.stuck) (hi : ∀ b, F [.int b] = M.stuck) (hs : ∀ b, F [.str b] = M.stuck) (ht : ∀ b, F [.tup b] = M.stuck) (hf : ∀ b, F [.fn b] = M.stuck) (hy : ∀ b, F [.ty b] = M.stuck) : ∃ r, ds = [.ref r] := by
 rcases ds with _ | ⟨d, _ | ⟨_, _⟩⟩
 · rw [h0] at p; exact p.elim
 · rcases d with _ | b | b | b | b | b | b | b
   · rw [hn] at p; exact p.elim
   · rw [hb] at p; exact p.elim
   · rw [hi] at p; exact p.elim
   · rw [hs] at p; exact p.elim
   · rw [ht] at p; exact p.elim
   · exact ⟨b, rfl⟩
   · rw [hf] at p; exact p.elim
   · rw [hy] at p; exact p.elim
 · rw [h2] at p; exact p.elim
section
variable {X : Cx} {Z : XC} {c : Wc} {μ : List Addr} {H : Hp} {G : DH}
theorem aJ6 {d : D} {vs : List V} (r : j9 c μ H [d] vs) : ∃ v, vs = [v] ∧ d8 c μ H d v := by
 obtain ⟨v, t, rfl, q, e⟩ := r
 cases e
 exact ⟨v, rfl, q⟩
theorem dQ1 {d e : D} {vs : List V} (r : j9 c μ H [d, e] vs) : ∃ v w, vs = [v, w] ∧ d8 c μ H d v ∧ d8 c μ H e w := by
 obtain ⟨v, t, rfl, q, v', t', rfl, q', z⟩ := r
 cases z
 exact ⟨v, v', rfl, q, q'⟩
theorem dF5 : V0 X Z (.builtin "len") lenF := V0.of (T5.or bF5 (T5.or bJ0 cE4)) fun xs H Q hE0 => hE0.elim fun ds μ G rl hr p => by
 rcases ds with _ | ⟨_ | _ | _ | z | l | i | _ | _, _ | ⟨_, _⟩⟩ <;> try exact p.elim
 all_goals (delta lenF at p; dsimp only at p)
 · obtain ⟨v, rfl, r⟩ := aJ6 rl
   split at p
   · rename_i hz
     exact .inr (.inl ⟨z, by rw [aC6 r], hz, d7.ok p hr _ ofI⟩)
   · exact p.elim
 · obtain ⟨v, rfl, r⟩ := aJ6 rl
   unfold d8 at r
   obtain ⟨a, vs, rfl, q, rl'⟩ := r
   exact .inl ⟨a, vs, rfl, .inr q, by rw [← rl'.length]; exact d7.ok p hr _ ofI⟩
 · obtain ⟨v, rfl, r⟩ := aJ6 rl
   unfold d8 at r
   obtain ⟨a, m, rfl⟩ := r
   obtain ⟨o, g, p1⟩ := J2 p
   have ro := hr.obj i o a g m
   rcases o with l | l | l | l
   · obtain ⟨vs, q, rl'⟩ := ro; exact .inl ⟨a, vs, rfl, .inl (SqL.of q), by rw [← rl'.length]; exact d7.ok p1 hr _ ofI⟩
   · obtain ⟨vs, q, rl'⟩ := ro; exact .inl ⟨a, vs, rfl, .inl q.sq, by rw [← rl'.length]; exact d7.ok p1 hr _ ofI⟩
   · obtain ⟨kvs, q, rk⟩ := ro; exact .inr (.inr ⟨a, kvs, rfl, q, by rw [← rk.length]; exact d7.ok p1 hr _ ofI⟩)
   · exact p1.elim
theorem aL8 {α : Type} {r : Nat} {v : V} {f : List D → M α} {K : α → List Addr → DH → Hp → Prop} (h : m6 c μ G H) (rv : d8 c μ H (.ref r) v) (p : d7 c Z μ H (((M5 r >>= listOf) >>= f) G) K) :
 ∃ l a vs, v = .ref a ∧ j9 c μ H l vs ∧ SqL c.K H a vs ∧ d7 c Z μ H (f l G) K := by
 obtain ⟨l, a, vs, rfl, rl, p2, hq⟩ := aQ3 (d := .ref r) (f := f) h rv p
 refine ⟨l, a, vs, rfl, rl, ?_, p2⟩
 rcases hq with ⟨z, _⟩ | ⟨_, _, _, ⟨_, q⟩ | ⟨_, q⟩⟩
 · cases z
 · exact SqL.of q
 · exact q.sq
theorem cE5 : V0 X Z (.type "tuple") W7 := V0.of aZ9 fun xs H Q hE0 => hE0.elim fun ds μ G rl hr p => by
 rcases ds with _ | ⟨_ | _ | _ | _ | l | i | _ | _, _ | ⟨_, _⟩⟩ <;> try exact p.elim
 all_goals (delta W7 at p; dsimp only at p)
 · obtain ⟨v, rfl, r⟩ := aJ6 rl
   have r' := r
   unfold d8 at r'
   obtain ⟨a, vs, rfl, q, rl'⟩ := r'
   exact ⟨a, vs, rfl, .inr ⟨q, d7.ok p hr _ r⟩⟩
 · obtain ⟨v, rfl, r⟩ := aJ6 rl
   obtain ⟨l, a, vs, rfl, rl', q, p2⟩ := aL8 hr r p
   exact ⟨a, vs, rfl, .inl ⟨q, fun l' hl => aO2 hr rl' p2 l' hl⟩⟩
theorem cM7 : V0 X Z (.type "int") dH9 := V0.of cC3 fun xs H Q hE0 => hE0.elim fun ds μ G rl hr p => by
 rcases ds with _ | ⟨_ | _ | _ | _ | _ | _ | _ | _, _ | ⟨_, _⟩⟩ <;> try exact p.elim
 all_goals (delta dH9 at p; dsimp only at p)
 · obtain ⟨v, rfl, r⟩ := aJ6 rl
   exact .inr ⟨_, by rw [cA6 r], d7.ok p hr _ ofI⟩
 · obtain ⟨v, rfl, r⟩ := aJ6 rl
   exact .inl ⟨_, by rw [W8 r], d7.ok p hr _ ofI⟩
theorem bC8 : ∀ {l : List D} {ns : List Int} {vs : List V} {us : List Value}, aI0 l = some ns → j9 c μ H l vs → o5 vs us → us.length = ns.length ∧ ∀ (i : Nat) (u : Value), us[i]? = some u → ∃ t, u = Value.int (ns.getD i 0) t
 | [], _, _, _, e, r, q => by cases e; cases r; cases q; exact ⟨rfl, fun i u h => by simp at h⟩
 | d :: ds, ns, _, _, e, r, q => by
   obtain ⟨v, t, rfl, r0, rt⟩ := r
   cases q with
   | cons q0 qt =>
     rcases d with _ | _ | n | _ | _ | _ | _ | _ <;> try (cases e; done)
     ·
       replace e : (aI0 ds).map (n :: ·) = some ns := e
       rcases h : aI0 ds with _ | ms
       · rw [h] at e; exact m9 e
       ·
         rw [h] at e
         cases e
         obtain ⟨h1, h2⟩ := bC8 h rt qt
         refine ⟨by simp [h1], fun i u hu => ?_⟩
         cases i with
         | zero =>
           simp at hu; subst hu
           rw [W8 r0] at q0
           exact q0
         | succ i => simpa using h2 i u (by simpa using hu)
theorem bL3 : ∀ {l : List D} {bs : List Bool} {vs : List V} {us : List Value}, aY0 l = some bs → j9 c μ H l vs → o5 vs us → us.length = bs.length ∧ ∀ (i : Nat) (u : Value), us[i]? = some u → u = Value.bool (bs.getD i false)
 | [], _, _, _, e, r, q => by cases e; cases r; cases q; exact ⟨rfl, fun i u h => by simp at h⟩
 | d :: ds, ns, _, _, e, r, q => by
   obtain ⟨v, t, rfl, r0, rt⟩ := r
   cases q with
   | cons q0 qt =>
     rcases d with _ | n | _ | _ | _ | _ | _ | _ <;> try (cases e; done)
     ·
       replace e : (aY0 ds).map (n :: ·) = some ns := e
       rcases h : aY0 ds with _ | ms
       · rw [h] at e; exact m9 e
       ·
         rw [h] at e
         cases e
         obtain ⟨h1, h2⟩ := bL3 h rt qt
         refine ⟨by simp [h1], fun i u hu => ?_⟩
         cases i with
         | zero =>
           simp at hu; subst hu
           rw [cA6 r0] at q0
           exact q0
         | succ i => simpa using h2 i u (by simpa using hu)
theorem cB6 (bs : List Bool) : ((List.range bs.length).all fun i => bs.getD i false) = bs.all id := by
 induction bs with
 | nil => rfl
 | cons b t ih => rw [List.length_cons, List.range_succ_eq_map, List.all_cons, List.all_map, List.all_cons]; simp [Function.comp_def]; rw [← ih]; simp
theorem bC6 {pins : PNS} {σ : St} {s : Shared} {a : Addr} {its : List Value} (hc : X.calm = true) (I : Inv X pins σ H s) (hl : s.heap.IsList a its.toArray) {Q : VSP} {E : VSP}
 (h : Walks X.prog X.w X.A.in1 s.heap.objs.size [s.heap.objs.size, a] [s.heap.objs.size] its.toArray.size (fun i v => its.toArray[i]? = some v) (fun i h => h.IsListIter s.heap.objs.size a i ∧ h.IsList a its.toArray) →
   ∀ h2 : Heap, (h2.IsListIter s.heap.objs.size a 0 ∧ h2.IsList a its.toArray) → (∀ b ∈ [s.heap.objs.size, a], b < h2.objs.size) → (∀ h' tk, (∀ b o, b ∉ [s.heap.objs.size] → h2.get? b = some o → h'.get? b = some o) → Inv X pins σ H { s with heap := h', toks := tk }) → Q (.ref s.heap.objs.size) { s with heap := h2 }) :
 wpAny (model X.prog X.w) X.A.in1 (pyIter (.ref a)) Q E s := by
 have hlt : a < s.heap.objs.size := by obtain ⟨_, e, _⟩ := hl; exact Heap.lt_size e
 refine wpAny_pyIter_list hl ?_
 have hh : X.A.in1.handled = none := I.ok.hd hc
 refine h (Walks.list hh s.heap.objs.size a (Nat.ne_of_lt hlt) its.toArray) _ ⟨⟨_, Heap.get?_push_size _ rfl, rfl, rfl⟩, hl.push _⟩ (fun b hb => ?_) fun h' tk k => ?_
 · rw [Heap.size_push]
   simp only [List.mem_cons, List.not_mem_nil, or_false] at hb
   rcases hb with rfl | rfl
   · exact Nat.lt_succ_self _
   · exact Nat.lt_succ_of_lt hlt
 · exact I.kept fun b o e => k b o (by simp only [List.mem_singleton]; exact Nat.ne_of_lt (Heap.lt_size e)) (Heap.get?_push_of_some _ e)
theorem dC5 (hc : X.calm = true) : V0 X Z (.builtin "sum") cA4 := ⟨by
 intro pins s σ H xs us Q I r hE0
 obtain ⟨ds, μ, G, rl, hr, p⟩ := hE0
 obtain ⟨i, rfl⟩ := cG1 (F := cA4) p rfl (fun a _ _ => by cases a <;> rfl) rfl (fun _ => rfl) (fun _ => rfl) (fun _ => rfl) (fun _ => rfl) (fun _ => rfl) fun _ => rfl
 · obtain ⟨v, rfl, rv⟩ := aJ6 rl
   obtain ⟨u, rfl, ru⟩ := X3 r
   obtain ⟨l, a, vs, rfl, rl', q, p2⟩ := aL8 hr rv p
   cases ru
   obtain ⟨ns, en, p3⟩ := V6 p2
   obtain ⟨its, rr, pl, hz⟩ := I.list q
   obtain ⟨h1, h2⟩ := bC8 en rl' rr
   refine call_sum_walkG (bC6 hc I pl.isList fun W g hg hb hk => ⟨_, _, _, _, _, _, fun i => ns.getD i 0, rfl, W, hg, hb, fun i v hv => h2 i v (by simpa using hv), fun h' tk t' k => ?_⟩)
   refine ⟨.int ns.sum, H, hk h' tk k, ⟨t', ?_⟩, d7.ok p3 hr _ ofI⟩
   have e := preSum_getD ns its.toArray.size
   rw [e, List.take_of_length_le (by rw [List.size_toArray]; lia)]⟩
theorem dF2 (hc : X.calm = true) : V0 X Z (.builtin "all") bG4 := ⟨by
 intro pins s σ H xs us Q I r hE0
 obtain ⟨ds, μ, G, rl, hr, p⟩ := hE0
 obtain ⟨i, rfl⟩ := cG1 (F := bG4) p rfl (fun a _ _ => by cases a <;> rfl) rfl (fun _ => rfl) (fun _ => rfl) (fun _ => rfl) (fun _ => rfl) (fun _ => rfl) fun _ => rfl
 · obtain ⟨v, rfl, rv⟩ := aJ6 rl
   obtain ⟨u, rfl, ru⟩ := X3 r
   obtain ⟨l, a, vs, rfl, rl', q, p2⟩ := aL8 hr rv p
   cases ru
   obtain ⟨bs, en, p3⟩ := V6 p2
   obtain ⟨its, rr, pl, hz⟩ := I.list q
   obtain ⟨h1, h2⟩ := bL3 en rl' rr
   refine call_all_walk (bC6 hc I pl.isList fun W g hg hb hk => ⟨_, _, _, _, _, _, fun i => bs.getD i false, rfl, W, hg, fun i v s' Q' E' hv hq => ?_, fun h' tk k => ?_⟩)
   · rw [h2 i v (by simpa using hv)]
     exact wpAny_truthy_bool hq
   · refine ⟨.bl (bs.all id), H, hk h' tk k, ?_, d7.ok p3 hr _ ofB⟩
     have e : its.toArray.size = bs.length := by rw [List.size_toArray]; exact h1
     rw [e, cB6]; rfl⟩
theorem dM8 {x : Str} {n : String} {pos : Pos} (hg : Gl X x) (hm : X.mg x = none) (hv : bootBuiltins x = some (.type n)) (hn : x ≠ "__name__") (hd : (x == ("__debug__" : Str)) = false) : DE X Z (.Name x pos) (cE (.ty n)) :=
 cQ2 (v := .ty n) (cT2 hg hm hv rfl hn hd) fun _ _ => by unfold d8; rfl
end
def aE4 : D → M Bool := fun x => match x with
 | .non => pure false
 | .bl b => pure b
 | .int i => pure (i != 0)
 | .str y => if y.length ≤ sizeLine then pure ((y.length : Int) != 0) else M.stuck
 | .tup l => pure (!l.isEmpty)
 | .ref r => do
   match ← M5 r with
   | .lst l => pure (!l.isEmpty)
   | .rol l => pure (!l.isEmpty)
   | .dct l => pure (!l.isEmpty)
   | .rod _ => M.stuck
 | _ => M.stuck
def truthE (f : Fe) : DSt → M Bool := fun σ => do aE4 (← f σ)
section
variable {X : Cx} {Z : XC} {a b c e : Expr} {fa fb fc : Fe} {pos : Pos}
theorem V4 {cc : Wc} {μ : List Addr} {H : Hp} {l : List D} {vs : List V} (r : j9 cc μ H l vs) : vs.isEmpty = l.isEmpty := by
 cases l with
 | nil => cases r; rfl
 | cons _ _ => obtain ⟨_, _, rfl, _⟩ := r; rfl
theorem aU4 {cc : Wc} {μ : List Addr} {H : Hp} {l : List (Key × D)} {vs : List (Key × V)} (r : S5 cc μ H l vs) : vs.isEmpty = l.isEmpty := by
 cases l with
 | nil => cases r; rfl
 | cons _ _ => obtain ⟨_, _, rfl, _⟩ := r; rfl
theorem dt_truth (ha : DE X Z a fa) (he : ∀ whole, isTrue a X.env whole = (do let v ← whole; standAt a.pos; holding [v] (truthy v))) : DT X Z a (truthE fa) :=
 DT.of (cH6 ha.h he) fun σ H Q hE0 => hE0.elim fun dσ μ G s h p => ⟨dσ, μ, G, s, h, (d7.bind p).mono fun d μ1 G1 H1 x1 h1 p1 v rv => by
  cases d with
  | non => rw [dI8 rv]; exact ⟨false, rfl, d7.ok p1 h1⟩
  | bl b => rw [cA6 rv]; exact ⟨b, rfl, d7.ok p1 h1⟩
  | int b => rw [W8 rv]; exact ⟨_, rfl, d7.ok p1 h1⟩
  | str y =>
    rw [aC6 rv]
    unfold aE4 at p1
    dsimp only at p1
    split at p1
    · rename_i hz; exact ⟨_, ⟨hz, rfl⟩, d7.ok p1 h1⟩
    · exact p1.elim
  | tup l =>
    unfold d8 at rv
    obtain ⟨a, vs, rfl, q, rl⟩ := rv
    exact ⟨!vs.isEmpty, .inr (.inl ⟨vs, q, rfl⟩), by rw [V4 rl]; exact d7.ok p1 h1⟩
  | ref r =>
    unfold d8 at rv
    obtain ⟨a, m, rfl⟩ := rv
    obtain ⟨o, g, p2⟩ := J2 p1
    have ro := h1.obj r o a g m
    cases o with
    | lst l => obtain ⟨vs, q, rl⟩ := ro; exact ⟨!vs.isEmpty, .inl ⟨vs, SqL.of q, rfl⟩, by rw [V4 rl]; exact d7.ok p2 h1⟩
    | rol l => obtain ⟨vs, q, rl⟩ := ro; exact ⟨!vs.isEmpty, .inl ⟨vs, q.sq, rfl⟩, by rw [V4 rl]; exact d7.ok p2 h1⟩
    | dct l => obtain ⟨vs, q, rl⟩ := ro; exact ⟨!vs.isEmpty, .inr (.inr ⟨vs, q, rfl⟩), by rw [aU4 rl]; exact d7.ok p2 h1⟩
    | rod l => exact p2.elim
  | _ => exact p1.elim⟩
def aX8 (o o' : D → D → M D) (fa fb fc : Fe) : Fe := fun σ => do
 let x ← fa σ
 let y ← fb σ
 if ← cU4 (← o x y) then o' y (← fc σ) else pure (.bl false)
end
noncomputable def bG3 (osc scope : Scope) (N XN : List Str) (caps : List (Option Nat)) : Bool :=
 decide (scope.kind = .function) && scope.names.all (fun y => decide (y.2 ≠ .cell)) && scope.names.all (fun y => decide (y.2 = .local → scope.names.lookup y.1 = some .local)) &&
 scope.names.all (fun y => decide (y.2 = .free → (osc.names.lookup y.1 = some .cell ∨ osc.names.lookup y.1 = some .free))) && scope.names.all (fun y => decide (y.2 = .free → scope.names.lookup y.1 = some .free)) &&
 decide (caps.length = N.length) && (List.range caps.length).all fun i => match caps[i]? with
  | some (some j) => match N[i]?, XN[j]? with
    | some x, some y => decide (x = y) && decide ((x, NameKind.free) ∈ scope.names)
    | _, _ => false
  | _ => true
theorem aA0.of {X : Cx} {osc scope : Scope} {N XN : List Str} {caps : List (Option Nat)} (h : bG3 osc scope N XN caps = true) (hs : X.env.scope = osc) (hN : X.N = XN) : aA0 X scope N caps := by
 unfold bG3 at h
 simp only [Bool.and_eq_true, decide_eq_true_eq, List.all_eq_true] at h
 obtain ⟨⟨⟨⟨⟨⟨h1, h2⟩, h3⟩, h4⟩, h5⟩, h6⟩, h7⟩ := h
 refine ⟨h1, h2, h3, fun y hy e => ?_, h5, h6, fun i j e => ?_⟩
 · have := h4 y hy e
   show X.env.scope.names.lookup y.1 = _ ∨ X.env.scope.names.lookup y.1 = _
   rw [hs]; exact this
 · have hi : i ∈ List.range caps.length := by rw [List.mem_range]; exact lt_of_get e
   have q := h7 i hi
   simp only [e] at q
   rw [hN]
   split at q
   · rename_i x y e1 e2
     simp only [Bool.and_eq_true, decide_eq_true_eq] at q
     exact ⟨x, e1, by rw [e2, q.1], q.2⟩
   · exact bK8 q
def v9 (m : Nat) (fb : Fs) : List D → M D := fun ds => do
 match ← fb (ds.map some ++ List.replicate (m - ds.length) none) with
 | .nx _ => pure .non
 | .rt d => pure d
 | _ => M.stuck
structure FF (K : PySem.W.Frag) (mg : Str → Option Value) (x : Str) (st : Stmt) (ps : List Str) (f : Addr) (fd : FuncData) : Prop where
 F : Fun K x x st f fd
 b : aS0 K fd ps []
 m : mg x = some (.ref f)
theorem cD2 {c : Wc} {μ : List Addr} {H : Hp} {N : List Str} {ds : List D} {vs : List V} (r : j9 c μ H ds vs) : u9 c μ H (ds.map some ++ List.replicate (N.length - ds.length) none) (L2.start N vs) := by
 unfold L2.start
 rw [r.length]
 refine ⟨by simp [r.length], fun i d e => ?_⟩
 by_cases hi : i < ds.length
 · rw [List.getElem?_append_left (by simpa using hi), List.getElem?_map] at e
   have hd : ds[i]? = some d := by
    cases h : ds[i]? with
    | none => rw [h] at e; exact m9 e
    | some d' => rw [h] at e; simpa using e
   obtain ⟨v, hv, rv⟩ := r.get hd
   refine ⟨v, ?_, rv⟩
   rw [List.getElem?_append_left (by simp; rw [← r.length]; exact hi), List.getElem?_map, hv]
   rfl
 · rw [List.getElem?_append_right (by simpa using hi), List.getElem?_replicate] at e
   split at e <;> cases e
theorem U6 {P : Program} {w : World} {K : PySem.W.Frag} {mg : Str → Option Value} {base : Heap} {x : Str} {st : Stmt} {f : Addr} {fd : FuncData} {N ps : List Str} {k n m : Nat} {fb : Fs} (F : FF K mg x st ps f fd) (S : m7 N ps (g8 st)) (hn : ps.length = n) (hm : N.length = m)
 (hbody : ∀ (cdv : Value) (A : Around) (outer : List Env) (s : Shared) (H : Hp) (E : XK), V2 k (A.deeper (envOfC x (g8 st) s.heap.objs.size f cdv)) → DB (bQ5 CX0 P w K mg base N x (g8 st) f cdv A outer s H E).nox ZF (M7 st) fb) :
 v6 P w K mg base CX0 (k + 1) f fd ps (spD ⟨K, mg⟩ n (v9 m fb)) := by
 refine F.F.ok S (fun vs H Q E h => by rw [hn]; exact h.1) fun cdv A outer s H vs Q E hr h => ⟨_, (hbody cdv A outer s H E hr).h, ?_⟩
 obtain ⟨hl, ds, μ, G, rl, hG, p⟩ := h
 subst hm
 refine ⟨_, μ, G, cD2 rl, hG, (d7.bind p).mono fun fl μ1 G1 H1 x1 h1 p1 => ?_⟩
 cases fl with
 | nx dσ => exact fun σ _ => d7.ok p1 h1 _ ofN
 | rt d => exact fun v rv => d7.ok p1 h1 v rv
 | bk _ => exact p1.elim
 | ct _ => exact p1.elim
def bV1 (K : PySem.W.Frag) : Sp := fun vs H Q _ => ∃ (a : Addr) (ns : List Int), vs = [.ref a] ∧ SqL K H a (ns.map V.int) ∧ cT8 H ∧ ns.length ≤ 63 ∧ ∀ H', Q (.bl true) H'
theorem bN5 {c : Wc} {μ : List Addr} {H : Hp} : ∀ ns : List Int, j9 c μ H (ns.map D.int) (ns.map V.int)
 | [] => rfl
 | n :: t => ⟨.int n, _, rfl, ofI, bN5 t⟩
theorem dE0 {P : Program} {w : World} {K : PySem.W.Frag} {mg : Str → Option Value} {base : Heap} {f : Addr} {fd : FuncData} {k : Nat} {F : List D → M D} (hF : v6 P w K mg base CX0 k f fd ["script"] (spD ⟨K, mg⟩ 1 F))
 (pure : ∀ ns : List Int, ns.length ≤ 63 → ∃ G', F [.ref 0] [.rol (ns.map D.int)] = some (.ok (.bl true), G')) : v6 P w K mg base CX0 k f fd ["script"] (bV1 K) :=
 hF.imp fun vs H Q E h => by
  obtain ⟨a, ns, rfl, hS, hO, hl, q⟩ := h
  obtain ⟨G', e⟩ := pure ns hl
  refine ⟨rfl, [.ref 0], [a], [.rol (ns.map D.int)], ⟨.ref a, [], rfl, by unfold d8; exact ⟨a, rfl, rfl⟩, rfl⟩, ⟨rfl, fun i j b e1 e2 => ?_, fun i o b e1 e2 => ?_⟩, ?_⟩
  · have h1 := lt_of_get e1
    have h2 := lt_of_get e2
    simp at h1 h2
    left; lia
  · have h1 := lt_of_get e2
    simp at h1
    subst h1
    have e1' : o = .rol (ns.map D.int) := by simpa using e1.symm
    have e2' : b = a := by simpa using e2.symm
    subst e1' e2'
    refine ⟨ns.map V.int, ?_, bN5 ns⟩
    rcases hS with (hS | ⟨o, hS⟩) | hS
    · rcases hO b with z | ⟨o, xs, z⟩
      · rw [z] at hS; exact m9 hS
      · rw [z] at hS; cases hS
    · exact .inl ⟨o, hS⟩
    · exact .inr (.inr hS)
  · rw [e]
    exact fun μ' H' _ _ v rv => by rw [cA6 rv]; exact q H'
theorem dA1 : bootBuiltins "len" = some (.builtin "len") := by decide +kernel
theorem bA5 : bootBuiltins "isinstance" = some (.builtin "isinstance") := by decide +kernel
theorem dB1 : bootBuiltins "all" = some (.builtin "all") := by decide +kernel
theorem dE4 : bootBuiltins "sum" = some (.builtin "sum") := by decide +kernel
theorem bZ8 : bootBuiltins "sorted" = some (.builtin "sorted") := by decide +kernel
theorem cM5 : bootBuiltins "tuple" = some (.type "tuple") := by decide +kernel
theorem cZ6 : bootBuiltins "int" = some (.type "int") := by decide +kernel
theorem cZ0 : bootBuiltins "str" = some (.type "str") := by decide +kernel
theorem cY2 : bootBuiltins "zip" = some (.type "zip") := by decide +kernel
theorem bH1 : bootBuiltins "enumerate" = some (.type "enumerate") := by decide +kernel
end DL
namespace DL
open PySem L2
noncomputable def Wp {α : Type} (m : M α) (G : DH) (Q : α → DH → Prop) : Prop := ∃ a G', m G = some (.ok a, G') ∧ Q a G'
section
variable {α β : Type} {G : DH} {Q Q' : α → DH → Prop}
theorem Wp.mono {m : M α} (h : Wp m G Q) (k : ∀ a G', Q a G' → Q' a G') : Wp m G Q' := let ⟨a, G', e, q⟩ := h; ⟨a, G', e, k a G' q⟩
theorem f9 {a : α} : Wp (pure a) G Q ↔ Q a G := by
 constructor
 · rintro ⟨b, G', e, q⟩
   cases e
   exact q
 · exact fun q => ⟨a, G, rfl, q⟩
theorem Z6 : Wp (M.stuck : M α) G Q ↔ False := by
 constructor
 · rintro ⟨b, G', e, q⟩
   exact m9 e
 · exact False.elim
theorem j6 {m : M β} {f : β → M α} : Wp (m >>= f) G Q ↔ Wp m G fun a G1 => Wp (f a) G1 Q := by
 constructor
 · rintro ⟨a, G', e, q⟩
   rw [M.bind_eq] at e
   match h : m G, e with
   | some (.ok b, G1), e => exact ⟨b, G1, h, a, G', e, q⟩
 · rintro ⟨b, G1, e, a, G', e', q⟩
   exact ⟨a, G', by rw [M.bind_ok e]; exact e', q⟩
theorem bX4 {m : M α} {a : α} {G' : DH} (h : m G = some (.ok a, G')) : Wp m G Q ↔ Q a G' := ⟨fun ⟨b, G2, e, q⟩ => by rw [h] at e; cases e; exact q, fun q => ⟨a, G', h, q⟩⟩
theorem aF2 {o : Option α} : Wp (aC7 o) G Q ↔ ∃ a, o = some a ∧ Q a G := by
 rcases o with _ | a
 ·
   constructor
   · rintro ⟨_, _, e, _⟩
     exact m9 e
   · rintro ⟨_, e, _⟩
     exact m9 e
 ·
   constructor
   · rintro ⟨_, _, e, q⟩
     cases e
     exact ⟨_, rfl, q⟩
   · rintro ⟨_, e, q⟩
     cases e
     exact ⟨_, _, rfl, q⟩
theorem R5 {r : Nat} {Q : DO → DH → Prop} : Wp (M5 r) G Q ↔ ∃ o, G[r]? = some o ∧ Q o G := by
 constructor
 · rintro ⟨a, G', e, q⟩
   delta M5 at e
   rcases h : G[r]? with _ | o
   · rw [h] at e; exact m9 e
   · rw [h] at e; cases e; exact ⟨_, rfl, q⟩
 · rintro ⟨o, e, q⟩
   refine ⟨o, G, ?_, q⟩
   delta M5
   rw [e]
theorem V8 {o : DO} {Q : DPP} : Wp (K7 o) G Q ↔ Q (.ref G.length) (G ++ [o]) := bX4 rfl
theorem bQ9 {r : Nat} {o : DO} {Q : Unit → DH → Prop} : Wp (bL4 r o) G Q ↔ Q () (G.set r o) := bX4 rfl
end
section
variable {G : DH} {σ : DSt} {Q : DPP} {a b c : Fe} {t u : DSt → M Bool} {P : Fl → DH → Prop} {B : Bool → DH → Prop}
theorem dC4 {i : Nat} : Wp (varE i σ) G Q ↔ ∃ d, σ[i]? = some (some d) ∧ Q d G := by
 constructor
 · rintro ⟨d, G', e, q⟩
   delta varE at e
   rcases h : σ[i]? with _ | o
   · rw [h] at e; exact m9 e
   ·
     rw [h] at e
     rcases o with _ | d'
     · exact m9 e
     · cases e; exact ⟨_, rfl, q⟩
 · rintro ⟨d, h, q⟩
   exact ⟨d, G, by delta varE; rw [h], q⟩
theorem cH7 {o : D → D → M D} : Wp (binE o a b σ) G Q ↔ Wp (a σ) G fun x G1 => Wp (b σ) G1 fun y G2 => Wp (o x y) G2 Q := by unfold binE; simp only [j6]
theorem aG2 {α : Type} {k : Bool} {m n : M α} {R : α → DH → Prop} : Wp (if k = true then m else n) G R ↔ if k = true then Wp m G R else Wp n G R := by cases k <;> exact Iff.rfl
theorem bV6 {d : D} : Wp (cU4 d) G B ↔ ∃ k, d = .bl k ∧ B k G := by
 constructor
 · rintro ⟨k, G', e, q⟩
   rcases d with _ | b | _ | _ | _ | _ | _ | _ <;> try (cases e; done)
   · cases e; exact ⟨_, rfl, q⟩
 · rintro ⟨k, e, q⟩
   subst e
   exact ⟨k, G, rfl, q⟩
theorem cJ0 : Wp (ifE t a b σ) G Q ↔ Wp (t σ) G fun k G1 => if k = true then Wp (a σ) G1 Q else Wp (b σ) G1 Q := by unfold ifE; simp only [j6, aG2]
theorem cV9 : Wp (G5 a σ) G B ↔ Wp (a σ) G fun x G1 => ∃ k, x = .bl k ∧ B k G1 := by unfold G5; simp only [j6, bV6]
theorem aY2 : Wp (truthE a σ) G B ↔ Wp (a σ) G fun x G1 => Wp (aE4 x) G1 B := by unfold truthE; simp only [j6]
theorem cO8 : Wp (bI4 t u σ) G B ↔ Wp (t σ) G fun k G1 => if k = true then Wp (u σ) G1 B else B false G1 := by unfold bI4; simp only [j6, aG2, f9]
theorem dF1 : Wp (orT t u σ) G B ↔ Wp (t σ) G fun k G1 => if k = true then B true G1 else Wp (u σ) G1 B := by unfold orT; simp only [j6, aG2, f9]
theorem cV8 : Wp (bF3 t σ) G B ↔ Wp (t σ) G fun k G1 => B (!k) G1 := by unfold bF3; simp only [j6, f9]
variable {R : List D → DH → Prop} {fs : DSt → M (List D)}
theorem t6 : Wp (q11 σ) G R ↔ R [] G := f9
theorem bY6 : Wp (q10 a fs σ) G R ↔ Wp (a σ) G fun x G1 => Wp (fs σ) G1 fun xs G2 => R (x :: xs) G2 := by unfold q10; simp only [j6, f9]
theorem bJ9 {F : List D → M D} : Wp (q12 F fs σ) G Q ↔ Wp (fs σ) G fun ds G1 => Wp (F ds) G1 Q := by unfold q12; simp only [j6]
theorem bR3 {α : Type} {m : M α} {R : α → DH → Prop} : Wp (noX m) G R ↔ Wp m G R := by
 constructor
 · rintro ⟨x, G', e, q⟩
   delta noX at e
   rcases h : m G with _ | p
   · rw [h] at e; exact m9 e
   ·
     rw [h] at e
     obtain ⟨_ | y, G1⟩ := p
     · exact m9 e
     · cases e; exact ⟨_, _, h, q⟩
 · rintro ⟨x, G', e, q⟩
   exact ⟨x, G', by delta noX; rw [e], q⟩
theorem aB1 {n : Nat} {F : List D → M D} {ds : List D} : Wp (fnX n F ds) G Q ↔ ds.length = n ∧ Wp (F ds) G Q := by
 unfold fnX
 by_cases h : ds.length = n
 · rw [if_pos h, bR3]; exact ⟨fun q => ⟨h, q⟩, fun q => q.2⟩
 · rw [if_neg h]; exact ⟨fun q => (Z6.mp q).elim, fun q => (h q.1).elim⟩
theorem W5 : Wp (tupE fs σ) G Q ↔ Wp (fs σ) G fun xs G1 => xs.length ≤ sizeLine ∧ Q (.tup xs) G1 := by
 unfold tupE
 simp only [j6]
 constructor
 · rintro ⟨xs, G1, e, q⟩
   refine ⟨xs, G1, e, ?_⟩
   by_cases h : xs.length ≤ sizeLine
   · rw [if_pos h] at q; exact ⟨h, f9.mp q⟩
   · rw [if_neg h] at q; exact (Z6.mp q).elim
 · rintro ⟨xs, G1, e, h, q⟩
   exact ⟨xs, G1, e, by dsimp only; rw [if_pos h]; exact f9.mpr q⟩
theorem aF9 : Wp (aA3 fs σ) G Q ↔ Wp (fs σ) G fun xs G1 => xs.length ≤ sizeLine ∧ Q (.ref G1.length) (G1 ++ [.lst xs]) := by
 unfold aA3
 simp only [j6]
 constructor
 · rintro ⟨xs, G1, e, q⟩
   refine ⟨xs, G1, e, ?_⟩
   by_cases h : xs.length ≤ sizeLine
   · rw [if_pos h] at q; exact ⟨h, V8.mp q⟩
   · rw [if_neg h] at q; exact (Z6.mp q).elim
 · rintro ⟨xs, G1, e, h, q⟩
   exact ⟨xs, G1, e, by dsimp only; rw [if_pos h]; exact V8.mpr q⟩
variable {f g : Fs} {gg : Fg}
theorem u0 : Wp (nextS σ) G P ↔ P (.nx σ) G := f9
theorem j5 : Wp (seqS f g σ) G P ↔ Wp (f σ) G fun fl G1 => match fl with
 | .nx σ' => Wp (g σ') G1 P
 | r => P r G1 := by
 delta seqS
 refine Iff.trans j6 ?_
 constructor
 · rintro ⟨fl, G1, e, q⟩
   refine ⟨fl, G1, e, ?_⟩
   cases fl <;> first
    | exact q
    | exact f9.mp q
 · rintro ⟨fl, G1, e, q⟩
   refine ⟨fl, G1, e, ?_⟩
   cases fl <;> first
    | exact q
    | exact f9.mpr q
theorem dA8 : Wp (retS a σ) G P ↔ Wp (a σ) G fun d G1 => P (.rt d) G1 := by unfold retS; simp only [j6, f9]
theorem cU6 : Wp (bU6 a σ) G P ↔ Wp (a σ) G fun _ G1 => P (.nx σ) G1 := by unfold bU6; simp only [j6, f9]
theorem dK9 : Wp (ifS t f g σ) G P ↔ Wp (t σ) G fun k G1 => if k = true then Wp (f σ) G1 P else Wp (g σ) G1 P := by unfold ifS; simp only [j6, aG2]
theorem aX0 : Wp (J0 a gg σ) G P ↔ Wp (a σ) G fun d G1 => Wp (gg d σ) G1 fun σ' G2 => P (.nx σ') G2 := by unfold J0; simp only [j6, f9]
theorem U3 {i : Nat} {d : D} {S : DSt → DH → Prop} : Wp (q13 i d σ) G S ↔ S (σ.set i (some d)) G := f9
theorem cV2 {m : Nat} {ds : List D} : Wp (v9 m f ds) G Q ↔ Wp (f (ds.map some ++ List.replicate (m - ds.length) none)) G fun fl G1 => match fl with
 | .nx _ => Q .non G1
 | .rt d => Q d G1
 | _ => False := by
 delta v9
 refine Iff.trans j6 ?_
 constructor
 · rintro ⟨fl, G1, e, q⟩
   refine ⟨fl, G1, e, ?_⟩
   cases fl <;> first
    | exact f9.mp q
    | exact Z6.mp q
 · rintro ⟨fl, G1, e, q⟩
   refine ⟨fl, G1, e, ?_⟩
   cases fl <;> first
    | exact f9.mpr q
    | exact Z6.mpr q
noncomputable def dJ6 (o : Option Bool) (g : Bool → Bool) (G : DH) : Option (Except Str D × DH) := match o with
 | some b => some (.ok (.bl (g b)), G)
 | none => none
theorem aU2 {m : M D} {o : Option Bool} {g : Bool → Bool} (h : m G = dJ6 o g G) : Wp m G Q ↔ ∃ k, o = some k ∧ Q (.bl (g k)) G := by
 unfold Wp
 rw [h]
 rcases o with _ | k
 ·
   constructor
   · rintro ⟨_, _, e, _⟩
     exact m9 e
   · rintro ⟨_, e, _⟩
     exact m9 e
 ·
   constructor
   · rintro ⟨_, _, e, q⟩
     cases e
     exact ⟨_, rfl, q⟩
   · rintro ⟨_, e, q⟩
     cases e
     exact ⟨_, _, rfl, q⟩
theorem cH4 {x y : D} : Wp (eqD x y) G Q ↔ ∃ k, eqN 40 G x y = some k ∧ Q (.bl k) G := aU2 (g := id) rfl
theorem cW3 {x y : D} : Wp (neD x y) G Q ↔ ∃ k, eqN 40 G x y = some k ∧ Q (.bl (!k)) G := aU2 (g := not) rfl
theorem cX4 {x y : D} : Wp (ltD x y) G Q ↔ ∃ k, ltN 40 G x y = some k ∧ Q (.bl k) G := aU2 (g := id) rfl
end
end DL
namespace DL
open PySem PySem.Spec L2
open PyProof.Rows hiding St
section
variable {X : Cx} {Z : XC} {elt tg iter : Expr} {ifs : List Expr} {scope : Scope} {pos : Pos} {N : List Str} {caps : List (Option Nat)} {it : DSt → M Src} {gg : Fg} {tt : DSt → M Bool} {fe : Fe}
end
noncomputable def W9 : List D → Option (List Str)
 | [] => some []
 | .str x :: r => (W9 r).map (x :: ·)
 | _ => none
noncomputable def o8 : List (Key × D) → Option (List Str)
 | [] => some []
 | (.inr x, _) :: r => (o8 r).map (x :: ·)
 | _ => none
noncomputable def leS (a b : Str) : Bool := !decide (b.cps.toList < a.cps.toList)
def aA9 (l : List Str) : List Str := l.mergeSort leS
theorem aT7 {a b : Str} : leS a b = true ↔ a.cps.toList ≤ b.cps.toList := by unfold leS; simp
theorem aR0 (a b c : Str) (h1 : leS a b = true) (h2 : leS b c = true) : leS a c = true := by
 rw [aT7] at *; exact List.le_trans h1 h2
theorem bE1 (a b : Str) : (leS a b || leS b a) = true := by
 rw [Bool.or_eq_true, aT7, aT7]; exact List.le_total _ _
theorem aO7 {a b : Str} (h1 : leS a b = true) (h2 : leS b a = true) : a = b := by
 rw [aT7] at *
 have e : a.cps.toList = b.cps.toList := List.le_antisymm h1 h2
 cases a; cases b
 congr 1
 exact Array.toList_inj.mp e
theorem bD0 : ∀ (l : List Str) (p : Str), risingS p l = true → (p :: l).Pairwise fun a b => leS a b = true
 | [], p, _ => by simp
 | x :: r, p, h => by
   unfold risingS at h
   rw [Bool.and_eq_true] at h
   have ih := bD0 r x h.2
   have hpx : leS p x = true := by unfold leS; rw [← ltCps_eq]; exact h.1
   refine List.pairwise_cons.mpr ⟨fun y hy => ?_, ih⟩
   rcases List.mem_cons.mp hy with rfl | hy
   · exact hpx
   · exact aR0 _ _ _ hpx ((List.pairwise_cons.mp ih).1 y hy)
theorem bN9 {l l' : List Str} (hp : l'.Perm l) (hs : sortedS l' = true) : l' = aA9 l := by
 have h1 : l'.Pairwise fun a b => leS a b = true := by
  rcases l' with _ | ⟨x, r⟩
  · simp
  · exact bD0 r x hs
 have h2 : (aA9 l).Pairwise fun a b => leS a b = true := List.pairwise_mergeSort aR0 bE1 l
 exact List.Perm.eq_of_pairwise (fun a b _ _ h1 h2 => aO7 h1 h2) h1 h2 (hp.trans (List.mergeSort_perm l leS).symm)
section
variable {prog : Program} {w : World} {A : Around} {E : VSP} {s : Shared} {T : String} {r d : Addr} {n : Nat} {P : Nat → Value → Prop} {OK : Heap → Prop} {Q : VSP}
theorem bT3 (K : PySem.W.KdlSrc prog w T r d n P OK) (hh : A.handled = none) (hok : OK s.heap) (hn : n < 64) {ss : List Str} (hP : ∀ vs : List Value, vs.length = n → (∀ (j : Nat) (v : Value), vs[j]? = some v → P j v) → StrsAre vs ss)
 (h : ∀ (h1 h' : Heap) (tk e : Nat) (out : List Value) (ss' : List Str), (∀ b o, s.heap.get? b = some o → h1.get? b = some o) → (∀ b o, h1.get? b = some o → h'.get? b = some o) → h'.get? h1.objs.size = some (seqObj "list" out.toArray e) → StrsAre out ss' → ss'.Perm ss → sortedS ss' = true → Q (.ref h1.objs.size) { s with heap := h', toks := tk }) :
 wpAny (model prog w) A (call (.builtin "sorted") [.ref r]) Q E s := by
 have hz : n ≤ sizeLine := Nat.le_trans (Nat.le_of_lt hn) (by decide)
 refine Calls.call_function_entry kind_sorted plain_sorted entry_sorted (args_sorted1 _) ?_
 unfold Builtin.«sorted»
 refine wpAny_bind (m := checkCount "sorted" 1 1 _) (wpAny_pure ?_)
 refine wpAny_bind (PySem.W.kdu_collect (A := A.in1) K hh hok hz fun h1 tk acc hk hacc => ?_)
 have hl : acc.toList.length = n := by rw [Array.length_toList]; exact hacc.1
 refine wpAny_bind (wpAny_newList ?_ (by rw [hl]; exact hz))
 have hS : StrsAre acc.toList ss := hP acc.toList hl fun j v e => hacc.2 j v (by rw [← Array.getElem?_toList]; exact e)
 have hoL : (h1.push (seqObj "list" acc.toList.toArray 0)).get? h1.objs.size = some (seqObj "list" acc.toList.toArray 0) := Heap.get?_push_size _ rfl
 refine wpAny_bind (wpAny_holding (wpAny_call_entry slot_list_sort ⟨_, hoL, rfl⟩ entry_list_sort (list_sort_treeK strKind_oneLt hoL hS.keysOf (fun v₁ v₂ t8 e => keyKind_strs (by rw [← e]; exact hS)) (by rw [hl]; exact hn) fun st' a1 a2 => ⟨_, rfl, ?_⟩) (args_list_sort _)))
 obtain ⟨ss', b1, b2, b3⟩ := sorted_out_str hS a1 a2
 obtain ⟨e, he⟩ := sortedHeap_at (vs := acc.toList) (out := (arrOf st').map (·.2)) hoL
 refine wpAny_pure ⟨_, rfl, h h1 _ tk e ((arrOf st').map (·.2)).toList ss' hk (fun b o hb => ?_) (by rw [Array.toArray_toList]; exact he) b1 b2 b3⟩
 have hlt : b < h1.objs.size := Heap.lt_size hb
 rw [sortedHeap_old (Nat.ne_of_lt hlt) (by rw [size_push']; exact Nat.lt_succ_of_lt hlt), Heap.get?_push_ne _ _ _ (Nat.ne_of_lt hlt)]
 exact hb
end
def bJ5 : List D → M D := fun ds => match ds with
 | [.ref r] => do
   match ← M5 r with
   | .dct l => do
     let ss ← aC7 (o8 l)
     if ss.length < 64 then K7 (.lst ((aA9 ss).map .str)) else M.stuck
   | _ => M.stuck
 | _ => M.stuck
section
variable {X : Cx} {Z : XC} {c : Wc} {μ : List Addr} {H : Hp} {G : DH}
theorem aI7 : ∀ {l : List (Key × D)} {ss : List Str}, o8 l = some ss → ss.length = l.length
 | [], _, e => by cases e; rfl
 | (.inr x, _) :: r, ss, e => by
  replace e := show (o8 r).map (_ :: ·) = some _ from e
  rcases h : o8 r with _ | t
  · rw [h] at e; cases e
  · rw [h] at e; cases e; simp [aI7 h]
 | (.inl _, _) :: _, _, e => by cases e
theorem aM7 {P : Program} {w : World} : ∀ {l : List (Key × D)} {ss : List Str} {kvs : List (Key × V)} {xs : List (Key × Value)} {vs : List Value}, o8 l = some ss → S5 c μ H l kvs → KV kvs xs → vs.length = xs.length →
 (∀ (j : Nat) (v : Value), vs[j]? = some v → ∃ k x, xs[j]? = some (k, x) ∧ (J3 P w).is k v = true) → StrsAre vs ss
 | [], _, _, xs, vs, e, r, kv, hl, hv => by
   cases e; cases r; cases kv
   rcases vs with _ | ⟨_, _⟩
   · exact .nil
   · simp at hl
 | (.inr x, d) :: t, ss, kvs, xs, vs, e, r, kv, hl, hv => by
  replace e := show (o8 t).map (_ :: ·) = some _ from e
  rcases h : o8 t with _ | q
  · rw [h] at e; cases e
  ·
    rw [h] at e
    cases e
    obtain ⟨v0, tl, rfl, r0, rt⟩ := r
    cases kv with
    | cons hk ht =>
      cases vs with
      | nil => simp at hl
      | cons u us =>
        obtain ⟨k, y, e1, e2⟩ := hv 0 u rfl
        simp only [List.getElem?_cons_zero, Option.some.injEq] at e1
        have hk1 : (Sum.inr x : Key) = _ := hk.1
        rw [e1] at hk1
        have e3 : aY6 (.inr x) u = true := by rw [hk1]; exact e2
        rcases J1 e3 with ⟨_, _, z, _⟩ | ⟨x', t', z, eu⟩
        · cases z
        · cases z
          subst eu
          exact .cons _ _ (aM7 (P := P) (w := w) h rt ht (by simpa using hl) fun j v hj => by simpa using hv (j + 1) v (by simpa using hj))
 | (.inl _, _) :: _, _, _, _, _, e, _, _, _, _ => by cases e
theorem aV5 : ∀ {out : List Value} {ss : List Str}, StrsAre out ss → ∃ vs, vs = ss.map V.str ∧ o5 vs out ∧ j9 c μ H (ss.map D.str) vs
 | _, _, .nil => ⟨[], rfl, .nil, rfl⟩
 | _, _, .cons x t q => by
   obtain ⟨vs, e, h1, h2⟩ := aV5 q
   subst e
   exact ⟨_, rfl, .cons ⟨t, rfl⟩ h1, _, _, rfl, by unfold d8; rfl, h2⟩
theorem cA8 (hc : X.calm = true) : V0 X Z (.builtin "sorted") bJ5 := ⟨by
 intro pins s σ H xs us Q I r hE0
 obtain ⟨ds, μ, G, rl, hr, p⟩ := hE0
 rcases ds with _ | ⟨_ | _ | _ | _ | _ | i | _ | _, _ | ⟨_, _⟩⟩ <;> try exact p.elim
 all_goals (delta bJ5 at p; dsimp only at p)
 · obtain ⟨v, rfl, rv⟩ := aJ6 rl
   obtain ⟨u, rfl, ru⟩ := X3 r
   unfold d8 at rv
   obtain ⟨a, m, rfl⟩ := rv
   cases ru
   obtain ⟨o, g, p1⟩ := J2 p
   have ro := hr.obj i o a g m
   cases o with
   | dct l =>
     obtain ⟨kvs, q, rk⟩ := ro
     obtain ⟨ss, es, p2⟩ := V6 p1
     split at p2
     case isFalse => exact p2.elim
     rename_i h64
     obtain ⟨z, hd, vs, rel, dd⟩ := bY8 I.hok q
     obtain ⟨ep, hat⟩ := dd.dictAt
     have hn : vs.length = ss.length := by rw [aI7 es, ← rel.length, ← rk.length]
     refine bT3 (PySem.W.kdl_dict (knd := J3 X.prog X.w) (kvs := vs) (ep := ep) hd) (I.ok.hd hc) hat (by omega) (ss := ss) (fun us hl hu => aM7 es rk rel (by omega) hu) fun h1 h' tk e out ss' k1 k2 he hS hp hs => ?_
     have e2 := bN9 hp hs
     subst e2
     obtain ⟨ws, ew, rv, rl2⟩ := aV5 (c := wc X) (μ := μ) (H := H) hS
     have I1 : Inv X pins σ H { s with heap := h1, toks := tk } := I.kept k1
     have hf := I1.hok.fresh (Nat.le_refl _)
     have hlen : ws.length ≤ sizeLine := by
      rw [ew, List.length_map]
      have := (List.mergeSort_perm ss leS).length_eq
      have e3 : (aA9 ss).length = ss.length := this
      have : (64 : Nat) ≤ sizeLine := by decide
      omega
     refine ⟨.ref h1.objs.size, upd H h1.objs.size (.lst ws), I1.laid (t' := tk) k2 (Nat.le_refl _) ⟨hlen, out, e, rv, he⟩, rfl, aD1 hr rl2 p2 _ hf⟩
   | lst l => exact p1.elim
   | rod l => exact p1.elim
   | rol l => exact p1.elim⟩
end
noncomputable def Its (z : Str) : It := ⟨fun i _ => ∃ c, z.cps[i]? = some c, fun i H x H' => H' = H ∧ ∃ c, z.cps[i]? = some c ∧ x = .str ⟨#[c]⟩, fun i _ => z.cps[i]? = none⟩
theorem bQ3 {P : Program} {w : World} {K : PySem.W.Frag} {tg : Expr} (z : Str) (t : Tok) (it : Addr) : aU5 P w K tg (Its z) [it] it (fun i h => h.IsStrIter it "str_ascii_iterator" z t i) where
 mem := by simp
 obj := fun i h st b hb => by
  have e : b = it := by simpa using hb
  subst e
  obtain ⟨o, e, c, d⟩ := st
  exact ⟨o, e, fun v z => by rw [d] at z; cases z⟩
 keep := fun i h h' st k => let ⟨o, ho, r⟩ := st; ⟨o, k it (by simp) o ho, r⟩
 item := by
  intro X hP hw hK hc i pins s σ H E I hf st hg
  subst hP hw hK
  obtain ⟨c, hx⟩ := hg
  obtain ⟨f0, f1, f2, f3, f4, f5⟩ := hf it (by simp)
  refine wpAny_pyNext_ascii_item st hx fun h' st' sb => ?_
  have I1 : Inv X pins σ H { s with heap := h', toks := s.toks + 1 } := I.turned (t' := s.toks + 1) (fun b o hb e => (sb.2 b hb).trans e) f0 f1 f3 f4 f5
  obtain ⟨o, e, cc, d⟩ := id st'
  exact ⟨_, rfl, bE7 (s := { s with heap := h', toks := s.toks + 1 }) e cc d (by decide) ⟨.str ⟨#[c]⟩, H, I1, ⟨_, rfl⟩, ⟨rfl, c, hx, rfl⟩, st', fun b hb => (hf b hb).1⟩⟩
 done := by
  intro X hP hw hK hc i pins s σ H E I hf st hg
  subst hP hw hK
  obtain ⟨f0, f1, f2, f3, f4, f5⟩ := hf it (by simp)
  exact wpAny_pyNext_ascii_end (I.ok.hd hc) st hg fun h' eb => ⟨rfl, I.turned (t' := s.toks) (fun b o hb e => eb b o hb e) f0 f1 f3 f4 f5⟩
 self := fun _ _ _ _ _ st h => wpAny_pyIter_striter_ascii st h
theorem cA2 {P : Program} {w : World} {K : PySem.W.Frag} {tg : Expr} (z : Str) (t : Tok) (it : Addr) : aU5 P w K tg (Its z) [it] it (fun i h => h.IsStrIter it "str_iterator" z t i) where
 mem := by simp
 obj := fun i h st b hb => by
  have e : b = it := by simpa using hb
  subst e
  obtain ⟨o, e, c, d⟩ := st
  exact ⟨o, e, fun v z => by rw [d] at z; cases z⟩
 keep := fun i h h' st k => let ⟨o, ho, r⟩ := st; ⟨o, k it (by simp) o ho, r⟩
 item := by
  intro X hP hw hK hc i pins s σ H E I hf st hg
  subst hP hw hK
  obtain ⟨c, hx⟩ := hg
  obtain ⟨f0, f1, f2, f3, f4, f5⟩ := hf it (by simp)
  refine wpAny_pyNext_wide_item st hx fun h' st' sb => ?_
  have I1 : Inv X pins σ H { s with heap := h', toks := s.toks + 1 } := I.turned (t' := s.toks + 1) (fun b o hb e => (sb.2 b hb).trans e) f0 f1 f3 f4 f5
  obtain ⟨o, e, cc, d⟩ := id st'
  exact ⟨_, rfl, bE7 (s := { s with heap := h', toks := s.toks + 1 }) e cc d (by decide) ⟨.str ⟨#[c]⟩, H, I1, ⟨_, rfl⟩, ⟨rfl, c, hx, rfl⟩, st', fun b hb => (hf b hb).1⟩⟩
 done := by
  intro X hP hw hK hc i pins s σ H E I hf st hg
  subst hP hw hK
  obtain ⟨f0, f1, f2, f3, f4, f5⟩ := hf it (by simp)
  exact wpAny_pyNext_wide_end (I.ok.hd hc) st hg fun h' eb => ⟨rfl, I.turned (t' := s.toks) (fun b o hb e => eb b o hb e) f0 f1 f3 f4 f5⟩
 self := fun _ _ _ _ _ st h => wpAny_pyIter_striter_wide st h
section
variable {X : Cx} {Z : XC} {tg e : Expr}
noncomputable def bR2 (z : Str) : List D := z.cps.toList.map fun c => .str ⟨#[c]⟩
def cT9 : D → M Src := fun x => match x with
 | .str z => pure ⟨bR2 z, fun _ => true⟩
 | .tup l => aB3 (.tup l)
 | .ref r => aB3 (.ref r)
 | _ => M.stuck
end
section
variable {X : Cx} {Z : XC} {pos p q : Pos}
theorem upd_upd {H : Hp} {a : Addr} {o o' : HO} : upd (upd H a o) a o' = upd H a o' := by
 funext b
 by_cases e : b = a
 · subst e; rw [v8, v8]
 · rw [m5 e, m5 e, m5 e]
end
theorem aG8 {P : Program} {w : World} {K : PySem.W.Frag} {mg : Str → Option Value} {base : Heap} {CX : CXT} {k n : Nat} {f : Addr} {fd : FuncData} {ps : List Str} (hn : ps.length = n) : v6 P w K mg base CX k f fd ps (spD ⟨K, mg⟩ n fun _ => M.stuck) :=
 ⟨fun vs H Q E h => by rw [hn]; exact h.1, fun A outer s H args us vs Q E hr => by
  intros
  rename_i h
  first
   | exact h.2.elim
   | (obtain ⟨_, _, _, _, _, _, z⟩ := h; exact z.elim)⟩
end DL
namespace W
open PySem PySem.Spec L2 DL
open PyProof.Rows hiding St
def bN6 (G : DH) (d : D) : Prop := ∃ k, bQ1 G d = some k
theorem st1 {d : D} {n : Nat} : ([d].map some ++ List.replicate n none : DSt)[0]? = some (some d) := by rfl
theorem T3 {α : Type} {b : α} {P : α → Prop} : (∃ k, some b = some k ∧ P k) ↔ P b := ⟨fun ⟨k, e, p⟩ => by cases e; exact p, fun p => ⟨b, rfl, p⟩⟩
noncomputable def dC6 : Option Int → D
 | none => .non
 | some i => .int i
theorem cG6 {i j : Int} {G : DH} {Q : DPP} : Wp (gtD (.int i) (.int j)) G Q ↔ Q (.bl (decide (j < i))) G := f9
theorem ix_tup {l : List D} {i : Int} {G : DH} {Q : DPP} : Wp (ixD (.tup l) (.int i)) G Q ↔ ∃ d, atI l i = some d ∧ Q d G := aF2
def aV7 : Nat → DH → D → Prop
 | 0, G, d => bN6 G d
 | n+1, G, d => bN6 G d ∧ ∀ l, d = .tup l → ∀ x ∈ l, aV7 n G x
theorem aV7.there {n : Nat} {G : DH} {d : D} (h : aV7 n G d) : bN6 G d := by cases n; exact h; exact h.1
theorem aG1 {b : Bool} {G : DH} {B : Bool → DH → Prop} : Wp (aE4 (.bl b)) G B ↔ B b G := f9
theorem aA4 {i j : Int} {G : DH} {Q : DPP} : Wp (eqD (.int i) (.int j)) G Q ↔ Q (.bl (decide (i = j))) G := by
 have e : eqN 40 G (.int i) (.int j) = some (decide (i = j)) := by rfl
 rw [cH4, e]; exact T3
theorem bW1 {α : Type} {f : α → Bool} : ∀ l : List α, aY0 (l.map fun x => D.bl (f x)) = some (l.map f)
 | [] => rfl
 | a :: r => by show (aY0 (r.map fun x => D.bl (f x))).map (f a :: ·) = _; rw [bW1 r]; rfl
theorem cI0 {G : DH} {r : Nat} {l : List D} {f : D → Bool} {Q : DPP} (h : G[r]? = some (.lst (l.map fun x => .bl (f x)))) : Wp (bG4 [.ref r]) G Q ↔ Q (.bl (l.all f)) G := by
 unfold bG4
 simp only [j6, R5, h, T3, DL.listOf, f9, aF2, bW1]
 simp [List.all_map, Function.comp_def]
theorem bI8 {i j : Int} {G : DH} {Q : DPP} : Wp (ltD (.int i) (.int j)) G Q ↔ Q (.bl (decide (i < j))) G := by
 have e : ltN 40 G (.int i) (.int j) = some (decide (i < j)) := by rfl
 rw [cX4, e]; exact T3
theorem aB4 {i j : Int} {G : DH} {Q : DPP} : Wp (addD (.int i) (.int j)) G Q ↔ Q (.int (i + j)) G := f9
theorem cW4 (l : List D) : DL.cutD l (some 1) none = l.drop 1 := by
 unfold DL.cutD
 rw [HT.sIx_none, show (some (1 : Int)) = some ((1 : Nat) : Int) from rfl, HT.sIx_nat]
 rcases l with _ | ⟨a, r⟩
 · rfl
 · simp [List.length_cons]
section
variable {G : DH} {σ : DSt} {P : Fl → DH → Prop} {g : Fg} {b : Fs} {ck : DH → Bool}
theorem aM8 : Wp (aB8 g b ck [] σ) G P ↔ ck G = true ∧ P (.nx σ) G := by
 unfold aB8
 constructor
 · rintro ⟨a, G', e, q⟩
   by_cases h : ck G = true
   · simp only [h, if_true] at e; cases e; exact ⟨h, q⟩
   · simp only [h] at e; exact m9 e
 · rintro ⟨h, q⟩
   exact ⟨_, G, by simp only [h, if_true], q⟩
theorem aM9 {d : D} {r : List D} : Wp (aB8 g b ck (d :: r) σ) G P ↔ ck G = true ∧ Wp (g d σ) G fun σ1 G1 => Wp (b σ1) G1 fun fl G2 => match fl with
 | .nx σ' => Wp (aB8 g b ck r σ') G2 P
 | .ct σ' => Wp (aB8 g b ck r σ') G2 P
 | .bk σ' => P (.nx σ') G2
 | .rt d => P (.rt d) G2 := by
 have e : Wp (aB8 g b ck (d :: r) σ) G P ↔ ck G = true ∧ Wp (do
  match ← b (← g d σ) with
  | .nx σ' => aB8 g b ck r σ'
  | .ct σ' => aB8 g b ck r σ'
  | .bk σ' => pure (.nx σ')
  | .rt d => pure (.rt d) : M Fl) G P := by
  rw [aB8]
  constructor
  · rintro ⟨a, G', e, q⟩
    by_cases h : ck G = true
    · simp only [h, if_true] at e; exact ⟨h, a, G', e, q⟩
    · simp only [h] at e; exact m9 e
  · rintro ⟨h, a, G', e, q⟩
    exact ⟨a, G', by simp only [h, if_true]; exact e, q⟩
 rw [e]
 simp only [j6]
 refine and_congr_right fun _ => ?_
 constructor
 · rintro ⟨σ1, G1, e1, fl, G2, e2, q⟩
   refine ⟨σ1, G1, e1, fl, G2, e2, ?_⟩
   cases fl <;> first
    | exact q
    | exact f9.mp q
 · rintro ⟨σ1, G1, e1, fl, G2, e2, q⟩
   refine ⟨σ1, G1, e1, fl, G2, e2, ?_⟩
   cases fl <;> first
    | exact q
    | exact f9.mpr q
theorem aU6 {it : DSt → M Src} : Wp (aR2 it g b σ) G P ↔ Wp (it σ) G fun s G1 => Wp (aB8 g b s.ck s.items σ) G1 P := by unfold aR2; simp only [j6]
end
theorem aO0 {i j : Int} {G : DH} {Q : DPP} : Wp (aP7 (.int i) (.int j)) G Q ↔ Q (.int (i - j)) G := f9
theorem cL3 {i j : Int} {G : DH} {Q : DPP} : Wp (neD (.int i) (.int j)) G Q ↔ Q (.bl (!decide (i = j))) G := by
 have e : eqN 40 G (.int i) (.int j) = some (decide (i = j)) := by rfl
 rw [cW3, e]; exact T3
theorem atI_nat {l : List D} {k : Nat} {s : D} (h : l[k]? = some s) : atI l (k : Int) = some s := by
 have hk : k < l.length := by
  by_cases hk : k < l.length
  · exact hk
  · rw [List.getElem?_eq_none (by omega)] at h; exact m9 h
 unfold atI ixN
 rw [if_pos (by omega), if_pos (by omega)]
 simpa using h
section
variable {G : DH} {σ : DSt} {Q : DPP}
theorem aB5 {i j : Int} (h : 0 < j) : Wp (aU7 (.int i) (.int j)) G Q ↔ Q (.int (i % j)) G := by
 have e : aU7 (.int i) (.int j) = if 0 < j then pure (.int (i % j)) else M.stuck := rfl
 rw [e, if_pos h]; exact f9
theorem aV9 {i j : Int} (h : 0 < j ∧ j < 2 ^ 100) : Wp (bB6 (.int i) (.int j)) G Q ↔ Q (.int (i / j)) G := by
 have e : bB6 (.int i) (.int j) = if bE8 i j then pure (.int (i / j)) else M.stuck := rfl
 rw [e, if_pos (show bE8 i j from h)]; exact f9
theorem aJ5 {i j : Int} (h : bA8 i j) : Wp (aM1 (.int i) (.int j)) G Q ↔ Q (.int (i * j)) G := by
 have e : aM1 (.int i) (.int j) = if bA8 i j then pure (.int (i * j)) else M.stuck := rfl
 rw [e, if_pos h]; exact f9
theorem bH6 {r : Nat} {l : List D} {i : Int} (h : G[r]? = some (.lst l)) : Wp (ixD (.ref r) (.int i)) G Q ↔ ∃ d, atI l i = some d ∧ Q d G := by
 have e : ixD (.ref r) (.int i) = (do
  let l ← M5 r >>= DL.listOf
  aC7 (atI l i)) := rfl
 rw [e]
 simp only [j6, R5, h, T3, DL.listOf, f9, aF2]
theorem cT3 {r : Nat} {l : List D} {k : Int} {j : Nat} {d : D} {R : Unit → DH → Prop} (h : G[r]? = some (.lst l)) (hj : ixN l.length k = some j) : Wp (bS0 (.ref r) (.int k) d) G R ↔ R () (G.set r (.lst (l.set j d))) := by
 unfold bS0
 simp only [j6, R5, h, T3, hj, bQ9]
theorem cF6 {fo fi : Fe} {d : D} {S : DSt → DH → Prop} : Wp (aZ2 fo fi d σ) G S ↔ Wp (fo σ) G fun o G1 => Wp (fi σ) G1 fun i G2 => Wp (bS0 o i d) G2 fun _ G3 => S σ G3 := by
 unfold aZ2; simp only [j6, f9]
end
noncomputable def M3 (G : DH) (r : Nat) : Prop := ∃ a b c e : Int, G[r]? = some (.lst [.int a, .int b, .int c, .int e]) ∧ 0 ≤ b ∧ b < 2 ^ 40
def Fr (r : Nat) (G G' : DH) : Prop := G.length ≤ G'.length ∧ (∀ i, i ≠ r → i < G.length → G'[i]? = G[i]?) ∧ M3 G' r
theorem M3.lt {G : DH} {r : Nat} (h : M3 G r) : r < G.length := by
 obtain ⟨a, b, c, e, hr, _⟩ := h
 by_cases hi : r < G.length
 · exact hi
 · rw [List.getElem?_eq_none (by omega)] at hr; exact m9 hr
theorem M3.app {G t : DH} {r : Nat} (h : M3 G r) : M3 (G ++ t) r := by
 have hl := h.lt
 obtain ⟨a, b, c, e, hr, hb⟩ := h
 exact ⟨a, b, c, e, by rw [List.getElem?_append_left hl]; exact hr, hb⟩
theorem Fr.refl {r : Nat} {G : DH} (h : M3 G r) : Fr r G G := ⟨Nat.le_refl _, fun _ _ _ => rfl, h⟩
theorem Fr.trans {r : Nat} {G G1 G2 : DH} (h : Fr r G G1) (k : Fr r G1 G2) : Fr r G G2 :=
 ⟨Nat.le_trans h.1 k.1, fun i hi hl => by rw [k.2.1 i hi (by have := h.1; omega), h.2.1 i hi hl], k.2.2⟩
theorem Fr.app {r : Nat} {G t : DH} (h : M3 G r) : Fr r G (G ++ t) := ⟨by simp, fun i _ hl => List.getElem?_append_left hl, h.app⟩
theorem Fr.set {r : Nat} {G : DH} {o : DO} (h : M3 (G.set r o) r) : Fr r G (G.set r o) := ⟨by simp, fun i hi hl => by rw [List.getElem?_set_ne (Ne.symm hi)], h⟩
theorem cO5 {i : Int} {G : DH} {Q : DPP} : Wp (bM9 (.int i)) G Q ↔ Q (.int (-i)) G := f9
theorem cL5 {l : List D} {k : Int} (h0 : 0 ≤ k) (h1 : k < l.length) : ∃ d, d ∈ l ∧ atI l k = some d := by
 obtain ⟨n, rfl⟩ := Int.eq_ofNat_of_zero_le h0
 have hn : n < l.length := by omega
 exact ⟨l[n], List.getElem_mem hn, atI_nat (List.getElem?_eq_getElem hn)⟩
theorem sz {l : List D} (h : Nat.ble l.length 100 = true := by rfl) : l.length ≤ sizeLine := Nat.le_trans (Nat.le_of_ble_eq_true h) (by decide)
theorem Fr.lt {r : Nat} {G G' : DH} (h : Fr r G G') : r < G'.length := h.2.2.lt
theorem Fr.at {r p : Nat} {G G' : DH} {o : DO} (h : Fr r G G') (hp : p ≠ r) (e : G[p]? = some o) : G'[p]? = some o := by
 have hl : p < G.length := by
  by_cases hi : p < G.length
  · exact hi
  · rw [List.getElem?_eq_none (by omega)] at e; exact m9 e
 rw [h.2.1 p hp hl]; exact e
theorem cZ5 {G t : DH} {k : Nat} : (G ++ t)[G.length + k]? = t[k]? := by
 rw [List.getElem?_append_right (by omega)]; congr 1; omega
theorem bY1 {G t : DH} : (G ++ t)[G.length]? = t[0]? := cZ5 (k := 0)
section
variable {G : DH} {σ : DSt} {Q : DPP}
theorem bD1 {t : D → M Unit} {m : D → List D → M D} {fo : Fe} {fs : DSt → M (List D)} : Wp (mtE t m fo fs σ) G Q ↔ Wp (fo σ) G fun x G1 => Wp (t x) G1 fun _ G2 => Wp (fs σ) G2 fun xs G3 => Wp (m x xs) G3 Q := by
 unfold mtE; simp only [j6]
theorem bS3 {r : Nat} {l : List D} {R : Unit → DH → Prop} (h : G[r]? = some (.lst l)) : Wp (aM3 (.ref r)) G R ↔ R () G := by
 delta aM3; exact j6.trans ((R5.trans (by rw [h]; exact T3)).trans f9)
theorem bQ4 {r : Nat} {l : List D} {y : D} (h : G[r]? = some (.lst l)) (hl : l.length < sizeLine) : Wp (aU1 (.ref r) [y]) G Q ↔ Q .non (G.set r (.lst (l ++ [y]))) := by
 have e : aU1 (.ref r) [y] = (do
  let l ← lstM r
  if l.length < sizeLine then do
   let _ ← bL4 r (.lst (l ++ [y]))
   pure .non
  else M.stuck) := rfl
 rw [e]
 unfold lstM
 simp only [j6, R5, h, T3, f9, hl, if_true, bQ9]
theorem Z1 {r : Nat} {l : List D} (h : G[r]? = some (.lst l)) : Wp (W7 [.ref r]) G Q ↔ Q (.tup l) G := by
 have e : W7 [.ref r] = (do
  let l ← M5 r >>= DL.listOf
  pure (.tup l)) := rfl
 rw [e]
 simp only [j6, R5, h, T3, DL.listOf, f9]
theorem rng1 {fs : DSt → M (List D)} {R : Src → DH → Prop} : Wp (R7 fs σ) G R ↔ Wp (fs σ) G fun xs G1 => Wp (match xs with
 | [.int j] => if -(2 ^ 62) ≤ j ∧ j < 2 ^ 62 then pure ⟨u6 0 j.toNat, fun _ => true⟩ else M.stuck
 | _ => M.stuck : M Src) G1 R := by
 delta R7; exact j6
theorem rng1_int {j : Int} {R : Src → DH → Prop} (h : -(2 ^ 62) ≤ j ∧ j < 2 ^ 62) : Wp (match [D.int j] with
 | [.int j] => if -(2 ^ 62) ≤ j ∧ j < 2 ^ 62 then pure ⟨u6 0 j.toNat, fun _ => true⟩ else M.stuck
 | _ => M.stuck : M Src) G R ↔ R ⟨u6 0 j.toNat, fun _ => true⟩ G := by
 show Wp (if -(2 ^ 62) ≤ j ∧ j < 2 ^ 62 then pure ⟨u6 0 j.toNat, fun _ => true⟩ else M.stuck : M Src) G R ↔ _
 rw [if_pos h]; exact f9
theorem bU8 {i j : Nat} {a b : List D} (ha : G[i]? = some (.lst a)) (hb : G[j]? = some (.lst b)) (hl : a.length + b.length ≤ sizeLine) : Wp (addD (.ref i) (.ref j)) G Q ↔ Q (.ref G.length) (G ++ [.lst (a ++ b)]) := by
 have e : addD (.ref i) (.ref j) = (do
  match ← M5 i, ← M5 j with
  | .lst a, .lst b => if a.length + b.length ≤ sizeLine then K7 (.lst (a ++ b)) else M.stuck
  | _, _ => M.stuck) := rfl
 rw [e]
 simp only [j6, R5, ha, hb, T3, if_pos hl, V8]
theorem cA1 {R : Option Int → DH → Prop} : Wp (aQ6 σ) G R ↔ R none G := f9
theorem cV6 {f : Fe} {R : Option Int → DH → Prop} : Wp (W3 f σ) G R ↔ Wp (f σ) G fun x G1 => ∃ i, x = .int i ∧ R (some i) G1 := by
 delta W3
 refine Iff.trans j6 ?_
 constructor
 · rintro ⟨x, G1, e, q⟩
   refine ⟨x, G1, e, ?_⟩
   rcases x with _ | _ | i | _ | _ | _ | _ | _ <;> try (exact (Z6.mp q).elim; done)
   · exact ⟨i, rfl, f9.mp q⟩
 · rintro ⟨x, G1, e, i, rfl, q⟩
   exact ⟨_, G1, e, f9.mpr q⟩
theorem sl_tup {l : List D} {lo hi : Option Int} : Wp (slD (.tup l) lo hi) G Q ↔ Q (.tup (DL.cutD l lo hi)) G := f9
end
def bE2 (d : D) : Prop := ∃ x y : Option Int, d = .tup [dC6 x, dC6 y]
def Fr2 (r p : Nat) (G G' : DH) : Prop := G.length ≤ G'.length ∧ (∀ i, i ≠ r → i ≠ p → i < G.length → G'[i]? = G[i]?) ∧ M3 G' r
theorem Fr2.trans {r p : Nat} {G G1 G2 : DH} (h : Fr2 r p G G1) (k : Fr2 r p G1 G2) : Fr2 r p G G2 :=
 ⟨Nat.le_trans h.1 k.1, fun i hi hp hl => by rw [k.2.1 i hi hp (by have := h.1; omega), h.2.1 i hi hp hl], k.2.2⟩
theorem Fr.two {r p : Nat} {G G1 : DH} (h : Fr r G G1) : Fr2 r p G G1 := ⟨h.1, fun i hi _ hl => h.2.1 i hi hl, h.2.2⟩
theorem Fr2.set {r p : Nat} {G : DH} {o : DO} (hp : p ≠ r) (h : M3 G r) : Fr2 r p G (G.set p o) := by
 refine ⟨by simp, fun i _ hi hl => by rw [List.getElem?_set_ne (Ne.symm hi)], ?_⟩
 obtain ⟨a, b, c, e, hr, hb⟩ := h
 exact ⟨a, b, c, e, by rw [List.getElem?_set_ne hp]; exact hr, hb⟩
theorem bE2.set {xs : List D} {j : Nat} {d : D} (h : ∀ d ∈ xs, bE2 d) (hd : bE2 d) : ∀ x ∈ xs.set j d, bE2 x := fun x hx => by
 rcases List.mem_or_eq_of_mem_set hx with hx | rfl
 · exact h x hx
 · exact hd
theorem o9 {G : DH} {o : DO} : (G ++ [o])[G.length]? = some o := bY1
theorem Z7 {G t : DH} {p : Nat} {o : DO} (e : G[p]? = some o) : (G ++ t)[p]? = some o := by
 have hlt : p < G.length := by
  by_cases hi : p < G.length
  · exact hi
  · rw [List.getElem?_eq_none (by omega)] at e; exact m9 e
 rw [List.getElem?_append_left hlt]; exact e
noncomputable def okD : D → Bool
 | .non => true
 | .bl _ => true
 | .int _ => true
 | .str _ => true
 | .tup _ => true
 | _ => false
theorem cU1 (x : Option Int) : okD (dC6 x) = true := by cases x <;> rfl
theorem cM9 {G : DH} {d : D} (h : okD d = true) : bN6 G d := by
 cases d <;> first | exact ⟨_, rfl⟩ | exact bK8 h
theorem dO1 {G : DH} {l : List D} (h : ∀ x ∈ l, okD x = true) : aV7 1 G (.tup l) := ⟨⟨_, rfl⟩, fun l' e x hx => by cases e; exact cM9 (h x hx)⟩
theorem bE2.there {G : DH} {d : D} (h : bE2 d) : aV7 1 G d := by
 obtain ⟨x, y, rfl⟩ := h
 exact dO1 fun z hz => by
  simp only [List.mem_cons, List.not_mem_nil, or_false] at hz
  rcases hz with rfl | rfl <;> exact cU1 _
noncomputable def Gr (G G' : DH) : Prop := G.length ≤ G'.length ∧ ∀ i, i < G.length → G'[i]? = G[i]?
theorem Gr.refl {G : DH} : Gr G G := ⟨Nat.le_refl _, fun _ _ => rfl⟩
theorem Gr.trans {G G1 G2 : DH} (h : Gr G G1) (k : Gr G1 G2) : Gr G G2 := ⟨Nat.le_trans h.1 k.1, fun i hi => by rw [k.2 i (by have := h.1; omega), h.2 i hi]⟩
theorem Gr.app {G t : DH} : Gr G (G ++ t) := ⟨by simp, fun i hi => List.getElem?_append_left hi⟩
theorem Gr.of {r : Nat} {G G1 G2 : DH} (h : Gr G G1) (f : Fr r G1 G2) (hr : G.length ≤ r) : Gr G G2 := ⟨Nat.le_trans h.1 f.1, fun i hi => by rw [f.2.1 i (by omega) (by have := h.1; omega), h.2 i hi]⟩
theorem Gr.at {p : Nat} {G G' : DH} {o : DO} (h : Gr G G') (e : G[p]? = some o) : G'[p]? = some o := by
 have hl : p < G.length := by
  by_cases hi : p < G.length
  · exact hi
  · rw [List.getElem?_eq_none (by omega)] at e; cases e
 rw [h.2 p hl]; exact e
theorem bK1 : ∀ ns : List Int, aI0 (ns.map D.int) = some ns
 | [] => rfl
 | a :: r => by show (aI0 (r.map D.int)).map (a :: ·) = _; rw [bK1 r]; rfl
theorem cO1 {G : DH} {p : Nat} {ns : List Int} {Q : DPP} (e : G[p]? = some (.rol (ns.map D.int))) : Wp (cA4 [.ref p]) G Q ↔ Q (.int ns.sum) G := by
 have h : cA4 [.ref p] = (do
  let l ← M5 p >>= DL.listOf
  let ns ← aC7 (aI0 l)
  pure (.int ns.sum)) := rfl
 rw [h]
 simp only [j6, R5, e, T3, DL.listOf, f9, aF2, bK1]
theorem cV7 {G : DH} {p q : Nat} {xs : List D} {Q : DPP} (e : G[p]? = some (.rol xs)) (eq : G[q]? = some (.lst [])) : Wp (neD (.ref p) (.ref q)) G Q ↔ Q (.bl (!xs.isEmpty)) G := by
 have h : eqN 40 G (.ref p) (.ref q) = some xs.isEmpty := by
  have h1 : aA2 G (.ref p) = some (false, xs) := by delta aA2; dsimp only; rw [e]
  have h2 : aA2 G (.ref q) = some (false, []) := by delta aA2; dsimp only; rw [eq]
  rw [cM1, h1, h2]
  cases xs <;> rfl
 rw [cW3, h]; exact T3
theorem aU3 {G : DH} {σ : DSt} {p : Nat} {l : List D} {R : Src → DH → Prop} (e : G[p]? = some (.lst l)) : Wp (aB3 (.ref p)) G R ↔ R ⟨l, ckO p (.lst l)⟩ G := by
 have h : aB3 (.ref p) = (do
  let o ← M5 p
  let l ← DL.listOf o
  pure ⟨l, ckO p o⟩) := rfl
 rw [h]
 simp only [j6, R5, e, T3, DL.listOf, f9]
theorem dD4 {G : DH} {p : Nat} {l : List D} {lo hi : Option Int} {Q : DPP} (e : G[p]? = some (.rol l)) : Wp (slD (.ref p) lo hi) G Q ↔ Q (.ref G.length) (G ++ [.lst (DL.cutD l lo hi)]) := by
 have h : slD (.ref p) lo hi = (do
  let l ← M5 p >>= DL.listOf
  K7 (.lst (DL.cutD l lo hi))) := rfl
 rw [h]
 simp only [j6, R5, e, T3, DL.listOf, f9, V8]
theorem cH3 {G : DH} {σ : DSt} {fs : DSt → M (List D)} {R : Src → DH → Prop} : Wp (aP9 fs σ) G R ↔ Wp (fs σ) G fun xs G1 => Wp (match xs with
 | [.ref r] => do
   let s ← aB3 (.ref r)
   pure ⟨s.items.zipIdx.map fun p => .tup [.int ((p.2 : Nat) : Int), p.1], s.ck⟩
 | _ => M.stuck : M Src) G1 R := by
 delta aP9; exact j6
theorem cN4 {G : DH} {p : Nat} {l : List D} {R : Src → DH → Prop} (e : G[p]? = some (.lst l)) : Wp (match [D.ref p] with
 | [.ref r] => do
   let s ← aB3 (.ref r)
   pure ⟨s.items.zipIdx.map fun p => .tup [.int ((p.2 : Nat) : Int), p.1], s.ck⟩
 | _ => M.stuck : M Src) G R ↔ R ⟨l.zipIdx.map fun p => .tup [.int ((p.2 : Nat) : Int), p.1], ckO p (.lst l)⟩ G := by
 show Wp (do
  let s ← aB3 (.ref p)
  pure ⟨s.items.zipIdx.map fun p => .tup [.int ((p.2 : Nat) : Int), p.1], s.ck⟩ : M Src) G R ↔ _
 simp only [j6]
 rw [aU3 (σ := []) e]
 exact f9
section
variable {G : DH} {σ : DSt} {Q : DPP}
theorem bK4 {o o' : D → D → M D} {a b c : Fe} : Wp (aX8 o o' a b c σ) G Q ↔ Wp (a σ) G fun x G1 => Wp (b σ) G1 fun y G2 => Wp (o x y) G2 fun z G3 => ∃ k, z = .bl k ∧ if k = true then Wp (c σ) G3 fun w G4 => Wp (o' y w) G4 Q else Q (.bl false) G3 := by
 unfold aX8; simp only [j6, bV6, aG2, f9]
theorem wp_trueT {B : Bool → DH → Prop} : Wp (V1 σ) G B ↔ B true G := f9
variable {g : Fg} {t : DSt → M Bool} {e : Fe} {ck : DH → Bool} {R : List D → DH → Prop}
theorem bO5 : Wp (K9 g t e ck [] σ) G R ↔ ck G = true ∧ R [] G := by
 unfold K9
 constructor
 · rintro ⟨a, G', e, q⟩
   by_cases h : ck G = true
   · simp only [h, if_true] at e; cases e; exact ⟨h, q⟩
   · simp only [h] at e; exact m9 e
 · rintro ⟨h, q⟩
   exact ⟨_, G, by simp only [h, if_true], q⟩
theorem bN2 {d : D} {r : List D} : Wp (K9 g t e ck (d :: r) σ) G R ↔ ck G = true ∧ Wp (g d σ) G fun σ1 G1 => Wp (t σ1) G1 fun b G2 => if b = true then Wp (e σ1) G2 fun y G3 => Wp (K9 g t e ck r σ1) G3 fun ys G4 => R (y :: ys) G4 else Wp (K9 g t e ck r σ1) G2 R := by
 have h0 : Wp (K9 g t e ck (d :: r) σ) G R ↔ ck G = true ∧ Wp (do
  let σ1 ← g d σ
  if ← t σ1 then do
   let y ← e σ1
   let ys ← K9 g t e ck r σ1
   pure (y :: ys)
  else K9 g t e ck r σ1 : M (List D)) G R := by
  rw [K9]
  constructor
  · rintro ⟨a, G', e, q⟩
    by_cases h : ck G = true
    · simp only [h, if_true] at e; exact ⟨h, a, G', e, q⟩
    · simp only [h] at e; exact m9 e
  · rintro ⟨h, a, G', e, q⟩
    exact ⟨a, G', by simp only [h, if_true]; exact e, q⟩
 rw [h0]
 simp only [j6, aG2, f9]
theorem wp_comp {it : DSt → M Src} {caps : List (Option Nat)} : Wp (R9 it caps g t e σ) G Q ↔ Wp (it σ) G fun s G1 => s.items.length ≤ sizeLine ∧ Wp (K9 g t e s.ck s.items (X4 caps σ)) G1 fun ys G2 => Q (.ref G2.length) (G2 ++ [.lst ys]) := by
 unfold R9
 simp only [j6]
 constructor
 · rintro ⟨s, G1, e1, q⟩
   refine ⟨s, G1, e1, ?_⟩
   by_cases h : s.items.length ≤ sizeLine
   · rw [if_pos h] at q
     simp only [j6, bR3, V8] at q
     exact ⟨h, q⟩
   · rw [if_neg h] at q; exact (Z6.mp q).elim
 · rintro ⟨s, G1, e1, h, q⟩
   refine ⟨s, G1, e1, ?_⟩
   dsimp only
   rw [if_pos h]
   simp only [j6, bR3, V8]
   exact q
end
section
variable {G : DH} {σ : DSt} {Q : DPP}
theorem cU8 {a b : Str} : Wp (leD (.str a) (.str b)) G Q ↔ Q (.bl (!decide (b.cps.toList < a.cps.toList))) G := f9
theorem V7 {a b : Str} (h : a.length + b.length ≤ sizeLine) : Wp (addD (.str a) (.str b)) G Q ↔ Q (.str (a ++ b)) G := by
 have e : addD (.str a) (.str b) = if a.length + b.length ≤ sizeLine then pure (.str (a ++ b)) else M.stuck := rfl
 rw [e, if_pos h]; exact f9
theorem aN6 {z : Str} (h : z.length ≤ sizeLine) : Wp (lenF [.str z]) G Q ↔ Q (.int z.length) G := by
 have e : lenF [.str z] = if z.length ≤ sizeLine then pure (.int z.length) else M.stuck := rfl
 rw [e, if_pos h]; exact f9
theorem cX2 {x y : D} : Wp (inD x y) G Q ↔ ∃ k, inB x y G = some k ∧ Q (.bl k) G := aU2 (g := id) (by unfold inD dJ6; cases inB x y G <;> rfl)
theorem cE9 {p : Nat} {l : List D} {R : Src → DH → Prop} (e : G[p]? = some (.lst l)) : Wp (cT9 (.ref p)) G R ↔ R ⟨l, ckO p (.lst l)⟩ G := aU3 (σ := []) e
end
noncomputable def cD9 (c : Nat) : Bool := decide (97 ≤ c) && decide (c ≤ 122)
def aD2 (z : Str) : Bool := z.cps.toList.all cD9
end W
namespace DL
open PySem PySem.Spec L2
open PyProof.Rows hiding St
section
variable {prog : Program} {w : World} {A : Around} {E : VSP} {s : Shared} {I l : Addr} {items : Array Value}
end
section
variable {X : Cx} {Z : XC} {e : Expr} {fa : Fe} {p1 p2 pos1 pos2 : Pos}
end
end DL
namespace DL
open PySem PySem.Spec L2 Builtin Builtin.Str
open PyProof.Rows hiding St
section
variable {X : Cx} {Z : XC} {e : Expr} {fa : Fe} {p2 pos : Pos} {lo hi : Option Expr} {fl fh : Fo}
theorem bZ3 {v : Value} {o : Option Int} (p : IsPart v o) : ∃ l : Option (Int × Tok), v = partValue l ∧ l.map (·.1) = o := by
 cases p with
 | none => exact ⟨none, rfl, rfl⟩
 | int i t => exact ⟨some (i, t), rfl, rfl⟩
theorem cY7 : SlR X (fun x lo hi H Q => ∃ z, x = .str z ∧ z.length ≤ sizeLine ∧ Q (.str (Txt.slice z lo hi)) H) := by
 intro pins s σ H x v vl vu lo hi sl Q I rx hs pl pu h
 obtain ⟨z, rfl, hz, q⟩ := h
 obtain ⟨t, rfl⟩ := rx
 obtain ⟨l, el, eml⟩ := bZ3 pl
 obtain ⟨u, eu, emu⟩ := bZ3 pu
 subst el eu eml emu
 refine ⟨"str", _, PySem.F.slot_str_getitem.lookup, typeIs_str _ z t, ?_⟩
 refine wpAny_getItem_str_slice (l := l) (u := u) (st := none) (let ⟨o, h1, h2, h3⟩ := hs; ⟨o, h1, h2, h3⟩) rfl ?_
 unfold sliceMade
 unfold Txt.slice at q
 unfold slicePicked
 have e1 : ((Option.map (fun x : Int × Tok => x.1) none).getD 1) = (1 : Int) := rfl
 simp only [e1]
 by_cases hc : ((1 : Int) == 1 && (strSliceIndices (l.map (·.1)) (u.map (·.1)) 1 z.length).length == z.length) = true
 · rw [if_pos hc] at q
   rw [if_pos hc]
   exact ⟨.str z, H, I, ⟨t, rfl⟩, q⟩
 · rw [if_neg hc] at q
   rw [if_neg hc]
   refine ⟨?_, .str _, H, I.tok _, ⟨_, rfl⟩, q⟩
   have hle := Txt.slice_le z (l.map (·.1)) (u.map (·.1))
   unfold Txt.slice at hle
   rw [if_neg hc] at hle
   exact Nat.le_trans hle hz
def slT : D → Option Int → Option Int → M D := fun x lo hi => match x with
 | .str z => if z.length ≤ sizeLine then pure (.str (Txt.slice z lo hi)) else M.stuck
 | .tup l => slD (.tup l) lo hi
 | .ref r => slD (.ref r) lo hi
 | _ => M.stuck
def W6 (f : Fe) (lo hi : Fo) : Fe := fun σ => do
 let x ← f σ
 let l ← lo σ
 let h ← hi σ
 slT x l h
theorem dD5 : SlD X Z slT := SlR.mono (cY7.or (dJ5 (Z := Z))) fun x lo hi H Q ⟨dx, μ, G, rx, hr, p⟩ => by
 rcases dx with _ | _ | _ | z | l | r | _ | _ <;> try (exact p.elim; done)
 ·
   unfold slT at p
   dsimp only at p
   split at p
   · rename_i hz
     exact .inl ⟨z, aC6 rx, hz, d7.ok p hr _ (by unfold d8; rfl)⟩
   · exact p.elim
 · exact .inr ⟨.tup l, μ, G, rx, hr, p⟩
 · exact .inr ⟨.ref r, μ, G, rx, hr, p⟩
theorem de_sliceT (he : DE X Z e fa) (hl : DOp X Z lo fl) (hu : DOp X Z hi fh) : DE X Z (.Subscript e (.Slice lo hi none p2) pos) (W6 fa fl fh) :=
 DE.of (cK8 dD5 he.h hl.h hu.h) fun σ H Q hE0 => hE0.elim fun dσ μ G s h p => ⟨dσ, μ, G, s, h, (d7.bind p).mono fun d μ1 G1 H1 x1 h1 p1 v rv =>
  ⟨dσ, μ1, G1, s.mono x1, h1, (d7.bind p1).mono fun l μ2 G2 H2 x2 h2 p2 => ⟨dσ, μ2, G2, s.mono (x1.trans x2), h2, (d7.bind p2).mono fun u μ3 G3 H3 x3 h3 p3 => ⟨d, μ3, G3, rv.mono (x2.trans x3), h3, p3⟩⟩⟩⟩
end
section
variable {X : Cx} {Z : XC} {e : Expr} {fa : Fe} {p2 pos : Pos}
end
end DL
namespace W
open PySem PySem.Spec L2 DL Builtin Builtin.Str
open PyProof.Rows hiding St
section
variable {G : DH} {σ : DSt} {Q : DPP}
theorem aC3 {f : Fe} {lo hi : Fo} : Wp (W6 f lo hi σ) G Q ↔ Wp (f σ) G fun x G1 => Wp (lo σ) G1 fun l G2 => Wp (hi σ) G2 fun h G3 => Wp (slT x l h) G3 Q := by
 unfold W6; simp only [j6]
theorem bI1 {z : Str} {lo hi : Option Int} (h : z.length ≤ sizeLine) : Wp (slT (.str z) lo hi) G Q ↔ Q (.str (Txt.slice z lo hi)) G := by
 have e : slT (.str z) lo hi = if z.length ≤ sizeLine then pure (.str (Txt.slice z lo hi)) else M.stuck := rfl
 rw [e, if_pos h]; exact f9
end
end W
namespace DL
open PySem PySem.Spec L2
open PyProof.Rows hiding St
def aX3 (a b : Fe) : Fe := fun σ => do
 let x ← a σ
 if ← aE4 x then b σ else pure x
section
variable {X : Cx} {Z : XC} {a b : Expr} {fa fb : Fe} {pos : Pos}
theorem bM7 {α : Type} {μ : List Addr} {H : Hp} {G : DH} {d : D} {v : V} {f : Bool → M α} {K : α → List Addr → DH → Hp → Prop} (h : m6 (wc X) μ G H) (rv : d8 (wc X) μ H d v) (p : d7 (wc X) Z μ H ((aE4 d >>= f) G) K) :
 ∃ k, dB7 X.K v H k ∧ d7 (wc X) Z μ H (f k G) K := by
 have p1 := d7.bind p
 rcases d with _ | b | b | y | l | r | _ | _ <;> try (exact p1.elim; done)
 · rw [dI8 rv]; exact ⟨false, rfl, d7.ok p1 h⟩
 · rw [cA6 rv]; exact ⟨b, rfl, d7.ok p1 h⟩
 · rw [W8 rv]; exact ⟨_, rfl, d7.ok p1 h⟩
 ·
   rw [aC6 rv]
   unfold aE4 at p1
   dsimp only at p1
   split at p1
   · rename_i hz; exact ⟨_, ⟨hz, rfl⟩, d7.ok p1 h⟩
   · exact p1.elim
 ·
   unfold d8 at rv
   obtain ⟨a, vs, rfl, q, rl⟩ := rv
   exact ⟨!vs.isEmpty, .inr (.inl ⟨vs, q, rfl⟩), by rw [V4 rl]; exact d7.ok p1 h⟩
 ·
   unfold d8 at rv
   obtain ⟨a, m, rfl⟩ := rv
   obtain ⟨o, g, p2⟩ := J2 p1
   have ro := h.obj r o a g m
   rcases o with l | l | l | l
   · obtain ⟨vs, q, rl⟩ := ro; exact ⟨!vs.isEmpty, .inl ⟨vs, SqL.of q, rfl⟩, by rw [V4 rl]; exact d7.ok p2 h⟩
   · obtain ⟨vs, q, rl⟩ := ro; exact ⟨!vs.isEmpty, .inl ⟨vs, q.sq, rfl⟩, by rw [V4 rl]; exact d7.ok p2 h⟩
   · obtain ⟨vs, q, rl⟩ := ro; exact ⟨!vs.isEmpty, .inr (.inr ⟨vs, q, rfl⟩), by rw [aU4 rl]; exact d7.ok p2 h⟩
   · exact p2.elim
theorem de_andV {t8 : List Expr} (ha : DE X Z a fa) (hb : DE X Z (.BoolOp .And (b :: t8) pos) fb) : DE X Z (.BoolOp .And (a :: b :: t8) pos) (aX3 fa fb) := by
 refine ⟨?_⟩
 intro pins s σ H Q I hE0
 refine hE0.elim fun dσ μ G sr h p => ?_
 refine BoolOp_and (thn (ha.h pins s σ H _ I ⟨dσ, μ, G, sr, h, (d7.bind p).mono fun d μ1 G1 H1 x1 h1 p1 v rv => (⟨d, μ1, G1, x1, rv, h1, p1⟩ : ∃ d μ1 G1, Ext μ H μ1 H1 ∧ d8 (wc X) μ1 H1 d v ∧ m6 (wc X) μ1 G1 H1 ∧ d7 (wc X) Z μ1 H1 ((aE4 d >>= fun k => if k = true then fb dσ else pure d) G1) fun d μ' _ H' => ∀ v, d8 (wc X) μ' H' d v → Q v H')⟩) fun v s1 ⟨x, H1, I1, r1, d, μ1, G1, x1, rd, h1, p1⟩ => ?_)
 obtain ⟨k, tk, p2⟩ := bM7 h1 rd p1
 refine thn (cJ2 pins s1 σ H1 x v (fun c H' => c = k ∧ H' = H1) I1 r1 ⟨k, tk, rfl, rfl⟩) fun c s2 ⟨H2, I2, e1, e2⟩ => ?_
 subst e1 e2
 rcases c with _ | _
 · exact ⟨x, H2, I2, r1, d7.ok p2 h1 _ rd⟩
 · exact hb.h pins s2 σ H2 Q I2 ⟨dσ, μ1, G1, sr.mono x1, h1, p2⟩
end
end DL
namespace W
open PySem PySem.Spec L2 DL
open PyProof.Rows hiding St
section
variable {G : DH} {σ : DSt} {Q : DPP} {a b : Fe}
theorem bU5 : Wp (aX3 a b σ) G Q ↔ Wp (a σ) G fun x G1 => Wp (aE4 x) G1 fun k G2 => if k = true then Wp (b σ) G2 Q else Q x G2 := by unfold aX3; simp only [j6, aG2, f9]
end
end W
namespace DL
open PySem PySem.Spec L2
open PyProof.Rows hiding St
structure b8 (F : List D → M D) (n : Nat) (x : Str) (P : Program) (w : World) (K : PySem.W.Frag) (mg : Str → Option Value) (base : Heap) (k : Nat) : Prop where
 ex : ∃ f fd ps, v6 P w K mg base CX0 k f fd ps (spD ⟨K, mg⟩ n F) ∧ mg x = some (.ref f) ∧ PySem.W.keepIn K (.ref f) = true ∧ aS0 K fd ps []
theorem b8.of {P : Program} {w : World} {K : PySem.W.Frag} {mg : Str → Option Value} {base : Heap} {k n : Nat} {x : Str} {st : Stmt} {ps : List Str} {f : Addr} {fd : FuncData} {F : List D → M D} (c : FF K mg x st ps f fd) (h : v6 P w K mg base CX0 k f fd ps (spD ⟨K, mg⟩ n F)) : b8 F n x P w K mg base k :=
 ⟨f, fd, ps, h, c.m, c.F.kp, c.b⟩
noncomputable def bltL : List Str := ["len", "isinstance", "all", "any", "sum", "min", "max", "abs", "sorted", "tuple", "list", "int", "str", "bool", "dict", "zip", "enumerate", "range", "reversed"]
structure BLs (mg : Str → Option Value) : Prop where
 h : ∀ b ∈ bltL, mg b = none
theorem aE7 {p : Pos} {l : List (Bool × Sem Value)} : (backTo p l).any (·.1) = l.any (·.1) := by
 unfold backTo
 rw [List.any_map]
 rfl
theorem aJ1 {env : Env} : ∀ {es : List Expr}, es.all N8 = true → (starEach es env).any (·.1) = false
 | [], _ => rfl
 | e :: es, h => by
   rw [List.all_cons, Bool.and_eq_true] at h
   rw [q14 h.1, List.any_cons, aJ1 h.2]
   rfl
section
variable {X : Cx} {Z : XC} {a b c e : Expr} {es : List Expr} {fa fb fc : Fe} {fs : DSt → M (List D)} {pos p : Pos} {x : Str}
theorem dg_nm {i : Nat} (hN : ∃ N ps sc, m7 N ps sc ∧ X.N = N) (hi : X.N[i]? = some x) (hx : Loc X.env.scope x) (hf : X.fn x = true ∨ X.env.scope.names.lookup x = some .local) : DG X Z (.Name x pos) (q13 i) := by
 obtain ⟨N, ps, sc, S, e⟩ := hN
 exact dg_name (by rw [e]; exact S.nd) hi hx hf
theorem da_c (ha : DE X Z e fa) (hr : DA X Z es fs) (hs : N8 e = true) : DA X Z (e :: es) (q10 fa fs) := q15 ha hr (q14 hs)
theorem de_callC {F : List D → M D} {n : Nat} (hF : ∃ k kk, b8 F n x X.prog X.w X.K X.mg X.base k ∧ V2 kk X.A ∧ k ≤ kk) (hg : Gl X x) (ha : DA X Z (e :: es) fs) (hdb : (x == ("__debug__" : Str)) = false) (hs : (e :: es).all N8 = true) :
 DE X Z (.Call (.Name x p) (e :: es) [] pos) (q12 (fnX n F) fs) := by
 obtain ⟨k, kk, hF, hr, hk⟩ := hF
 obtain ⟨f, fd, ps, h1, h2, h3, h4⟩ := hF.ex
 rw [List.all_cons, Bool.and_eq_true] at hs
 exact cS4 h1 (hr.mono hk) hg h2 h3 h4 ha hdb (q14 hs.1) (by rw [aE7]; exact aJ1 hs.2)
structure BD (F : List D → M D) (x : Str) (X : Cx) (Z : XC) : Prop where
 ex : (∃ id, V0 X Z (.builtin id) F ∧ bootBuiltins x = some (.builtin id)) ∨ (∃ T, V0 X Z (.type T) F ∧ bootBuiltins x = some (.type T))
theorem de_blt {F : List D → M D} (hc : X.calm = true) (hF : X.calm = true → BD F x X Z) (hb : BLs X.mg) (hx : bltL.elem x = true) (hg : Gl X x) (ha : DA X Z (e :: es) fs) (hn : x ≠ "__name__") (hdb : (x == ("__debug__" : Str)) = false) (hs : (e :: es).all N8 = true) :
 DE X Z (.Call (.Name x p) (e :: es) [] pos) (q12 F fs) := by
 have hm := hb.h x (List.elem_iff.mp hx)
 rw [List.all_cons, Bool.and_eq_true] at hs
 rcases (hF hc).ex with ⟨id, h1, h2⟩ | ⟨T, h1, h2⟩
 · exact cK5 h1 hg hm h2 ha hn hdb (q14 hs.1) (by rw [aE7]; exact aJ1 hs.2)
 · exact bZ6 h1 hg hm h2 ha hn hdb (q14 hs.1) (by rw [aE7]; exact aJ1 hs.2)
theorem bd_len (_ : X.calm = true) : BD lenF "len" X Z := ⟨.inl ⟨_, dF5, dA1⟩⟩
theorem bd_isinstance (_ : X.calm = true) : BD M9 "isinstance" X Z := ⟨.inl ⟨_, cD1, bA5⟩⟩
theorem bd_all (h : X.calm = true) : BD bG4 "all" X Z := ⟨.inl ⟨_, dF2 h, dB1⟩⟩
theorem bd_sum (h : X.calm = true) : BD cA4 "sum" X Z := ⟨.inl ⟨_, dC5 h, dE4⟩⟩
theorem bd_tuple (_ : X.calm = true) : BD W7 "tuple" X Z := ⟨.inr ⟨_, cE5, cM5⟩⟩
theorem cS2 : ∀ n ∈ ["int", "bool", "str", "tuple", "list", "dict"], bootBuiltins (Str.ofString n) = some (.type n) := by decide +kernel
theorem de_tyN {n : String} (hb : BLs X.mg) (hn : n ∈ ["int", "bool", "str", "tuple", "list", "dict"]) (hx : bltL.elem (Str.ofString n) = true) (hg : Gl X (Str.ofString n)) (hnn : Str.ofString n ≠ "__name__") (hd : (Str.ofString n == ("__debug__" : Str)) = false) : DE X Z (.Name (Str.ofString n) pos) (cE (.ty n)) :=
 dM8 hg (hb.h _ (List.elem_iff.mp hx)) (cS2 n hn) hnn hd
variable {tg : Expr} {tp : Pos} {x1 : Nat} {es1 : List Expr}
theorem di_r1 (hb : BLs X.mg) (hg : Gl X "range") (ha : DA X Z [a] fs) (hs : N8 a = true) : DI X Z tg (.Call (.Name "range" p) [a] [] pos) (R7 fs) := cO2 hg (hb.h _ (by decide +kernel)) ha (aN1 hs)
theorem di_z (hb : BLs X.mg) (hg : Gl X "zip") (ha : DA X Z [a, b] fs) (hs : N8 a = true) (hs2 : N8 b = true) : DI X Z (.Tuple es1 x1 tp) (.Call (.Name "zip" p) [a, b] [] pos) (bC5 fs) := dE5 hg (hb.h _ (by decide +kernel)) ha (cJ6 hs hs2) (aN1 hs2) cY2
theorem di_e (hb : BLs X.mg) (hg : Gl X "enumerate") (ha : DA X Z [a] fs) (hs : N8 a = true) : DI X Z (.Tuple es1 x1 tp) (.Call (.Name "enumerate" p) [a] [] pos) (aP9 fs) := cQ5 hg (hb.h _ (by decide +kernel)) ha (aN1 hs) bH1
noncomputable def aQ2 (sc : Scope) : List Str := (sc.names.filterMap fun y => if y.2 == .local && y.1 != (".0" : Str) then some y.1 else none) ++ (sc.names.filterMap fun y => if y.2 == .free then some y.1 else none)
variable {elt iter : Expr} {ifs : List Expr} {scope : Scope} {caps : List (Option Nat)} {it : DSt → M Src} {gg : Fg} {tt : DSt → M Bool} {fe : Fe}
theorem de_cmpr (hc : X.calm = true) (hi : DI X Z tg iter it) (k : ∃ XN ps osc, m7 XN ps osc ∧ X.env.scope = osc ∧ X.N = XN ∧ bG3 osc scope (aQ2 scope) XN caps = true) (nd : (aQ2 scope).Nodup)
 (hg : (aQ2 scope).Nodup → ∀ C s H ex, DG (R4 X scope (aQ2 scope) C s H ex) ZF tg gg) (ht : ∀ C s H ex, DTs (R4 X scope (aQ2 scope) C s H ex) ZF ifs tt) (he : ∀ C s H ex, DE (R4 X scope (aQ2 scope) C s H ex) ZF elt fe)
 (hf : ∀ x, foldedSetIterable iter X.env x = pure x) : DE X Z (.ListComp elt [⟨tg, iter, ifs, 0⟩] scope pos) (R9 it caps gg tt fe) := let ⟨_, _, _, _, hs, hN, k⟩ := k; cO4 hc hi (aA0.of k hs hN) (hg nd) ht he hf
end
section
variable {X : Cx} {Z : XC}
end
end DL
namespace W
open PySem PySem.Spec L2 DL
open PyProof.Rows hiding St
section
variable {G : DH} {Q : DPP}
end
end W
namespace DL
open PySem PySem.Spec L2
open PyProof.Rows hiding St
def Itd (a : Addr) (o : Obj) (kvs : List (Key × V)) : It :=
 ⟨fun i H => H a = some (.frz o (.dK kvs)) ∧ ∃ kv, kvs[i]? = some kv, fun i H x H' => H' = H ∧ ∃ kv, kvs[i]? = some kv ∧ x = kV kv.1, fun i H => H a = some (.frz o (.dK kvs)) ∧ kvs.length ≤ i⟩
theorem cM3 {κ : Type} : ∀ {kvs : List (κ × V)} {vs : List (κ × Value)} {i : Nat} {kv : κ × V}, KV kvs vs → kvs[i]? = some kv → ∃ v, vs[i]? = some (kv.1, v)
 | _, _, _, _, .nil, e => by simp at e
 | _, _, 0, _, .cons h t, e => by
   simp only [List.getElem?_cons_zero, Option.some.injEq] at e
   subst e
   exact ⟨_, by rw [List.getElem?_cons_zero, h.1]⟩
 | _, _, i + 1, _, .cons h t, e => by
   simp only [List.getElem?_cons_succ] at e ⊢
   exact cM3 t e
theorem dG3 {P : Program} {w : World} {k : Key} {u : Value} (h : (J3 P w).is k u = true) : o4 (kV k) u := by
 rcases J1 (k := k) (v := u) h with ⟨i, t, rfl, rfl⟩ | ⟨x, t, rfl, rfl⟩
 · exact ⟨t, rfl⟩
 · exact ⟨t, rfl⟩
theorem cJ3 {X : Cx} {pins : PNS} {s : Shared} {σ : St} {H : Hp} {a : Addr} {o : Obj} {es : Array DictEntry} {ep : Nat} {kvs : List (Key × V)} (I : Inv X pins σ H s) (ho : o.data = .dict es ep) (e : H a = some (.frz o (.dK kvs))) :
 (a == sysModules) = false ∧ ∃ vs, KV kvs vs ∧ s.heap.DictAt (J3 X.prog X.w) a vs ep := by
 obtain ⟨hget, hz, hS, vs, r, m⟩ := (show N7 X.prog X.w H s.heap a (.frz o (.dK kvs)) from I.hok a _ e)
 obtain ⟨ep', dat⟩ := m.dictAt
 have hep : ep' = ep := by
  obtain ⟨o', es', h1, _, h3, _⟩ := id dat
  rw [hget] at h1
  cases h1
  rw [ho] at h3
  cases h3
  rfl
 subst hep
 exact ⟨hS, vs, r, dat⟩
theorem bC1 {P : Program} {w : World} {K : PySem.W.Frag} {tg : Expr} {a : Addr} {o : Obj} {es : Array DictEntry} {ep : Nat} {kvs : List (Key × V)} (ho : o.data = .dict es ep) (it : Addr) : aU5 P w K tg (Itd a o kvs) [it] it (fun i h => h.IsKeyIter it a i kvs.length ep) where
 mem := by simp
 obj := fun i h st b hb => by
  have e : b = it := by simpa using hb
  subst e
  obtain ⟨o, e, c, d⟩ := st
  exact ⟨o, e, fun v z => by rw [d] at z; cases z⟩
 keep := fun i h h' st k => let ⟨o, ho, r⟩ := st; ⟨o, k it (by simp) o ho, r⟩
 item := by
  intro X hP hw hK hc i pins s σ H E I hf st hg
  subst hP hw hK
  obtain ⟨hfr, kv, hx⟩ := hg
  obtain ⟨f0, f1, f2, f3, f4, f5⟩ := hf it (by simp)
  obtain ⟨hS, vs, rel, dat⟩ := cJ3 I ho hfr
  obtain ⟨v, hv⟩ := cM3 rel hx
  have hlen : kvs.length = vs.length := Paired.length rel
  rw [hlen] at st
  refine wpAny_pyNext_dict_item st dat hv fun key h' hk st' sb => ?_
  have I1 : Inv X pins σ H { s with heap := h' } := I.turned (t' := s.toks) (fun b o hb e => (sb.2 b hb).trans e) f0 f1 f3 f4 f5
  obtain ⟨o', e, cc, d⟩ := id st'
  refine ⟨_, rfl, bE7 (s := { s with heap := h' }) e cc d (by decide) ⟨kV kv.1, H, I1, dG3 hk, ⟨rfl, kv, hx, rfl⟩, by rw [hlen]; exact st', fun b hb => (hf b hb).1⟩⟩
 done := by
  intro X hP hw hK hc i pins s σ H E I hf st hg
  subst hP hw hK
  obtain ⟨hfr, hi⟩ := hg
  obtain ⟨f0, f1, f2, f3, f4, f5⟩ := hf it (by simp)
  obtain ⟨hS, vs, rel, dat⟩ := cJ3 I ho hfr
  have hlen : kvs.length = vs.length := Paired.length rel
  rw [hlen] at st hi
  exact wpAny_pyNext_dict_end (I.ok.hd hc) st dat (List.getElem?_eq_none hi) fun h' eb => ⟨rfl, I.turned (t' := s.toks) (fun b o hb e => eb b o hb e) f0 f1 f3 f4 f5⟩
 self := fun _ _ _ _ _ st h => wpAny_pyIter_keyiter st h
theorem m6.setR {c : Wc} {μ : List Addr} {G : DH} {H : Hp} {i : Nat} {a : Addr} {o o' : DO} {u : HO} (h : m6 c μ G H) (g : G[i]? = some o) (n : ¬ aC8 (some o)) (m : μ[i]? = some a) (k : Ext μ H μ (upd H a u)) (ho : aB0 c μ (upd H a u) a o') : m6 c μ (G.set i o') (upd H a u) := by
 have hi : i < G.length := lt_of_get g
 have get : ∀ j, (G.set i o')[j]? = if i = j then some o' else G[j]? := fun j => by
  rw [List.getElem?_set]
  by_cases e : i = j
  · subst e; simp [hi]
  · simp [e]
 refine ⟨by simp [h.len], fun j l b ej el => ?_, fun j o2 b gj mj => ?_⟩
 · rcases h.inj j l b ej el with e | e | e
   · exact .inl e
   · by_cases ij : i = j
     · subst ij; rw [g] at e; exact (n e).elim
     · right; left; rw [get, if_neg ij]; exact e
   · by_cases ij : i = l
     · subst ij; rw [g] at e; exact (n e).elim
     · right; right; rw [get, if_neg ij]; exact e
 · rw [get] at gj
   by_cases ij : i = j
   · subst ij
     rw [if_pos rfl] at gj
     cases gj
     rw [m] at mj
     cases mj
     exact ho
   · rw [if_neg ij] at gj
     have q := h.obj j o2 b gj mj
     by_cases hr : aC8 (some o2)
     · exact q.mono k (.inr hr)
     · have nb : b ≠ a := fun e => by
        subst e
        rcases h.inj i j b m mj with e | e | e
        · exact ij e
        · rw [g] at e; exact n e
        · rw [gj] at e; exact hr e
       exact q.mono k (.inl (m5 nb))
section
variable {X : Cx} {Z : XC} {tg e : Expr}
theorem Inv.freeze {pins : PNS} {s : Shared} {σ : St} {H : Hp} {a : Addr} {o : Obj} {kvs : List (Key × V)} (I : Inv X pins σ H s) (e : H a = some (.dK kvs)) (ho : s.heap.get? a = some o) : Inv X pins σ (upd H a (.frz o (.dK kvs))) s := by
 have q : N7 X.prog X.w H s.heap a (.dK kvs) := I.hok a _ e
 exact I.write (x := a) (e := a) (t' := s.toks) (h' := s.heap) (by rw [e]; exact trivial) (.inl rfl) (fun b u _ z => z) ⟨o, ho⟩ ⟨ho, q⟩
def iW (K : PySem.W.Frag) (tl : TE) : TI := fun σ H R => tl σ H fun x H1 => ((∃ z, x = .str z ∧ R (Its z) H1) ∨ (∃ k a xs, x = .ref a ∧ Sq K k H1 a xs ∧ R (if k = true then Itt K a else Itl K a) H1)) ∨
 (∃ a kvs, x = .ref a ∧ H1 a = some (.dK kvs) ∧ ∀ o, R (Itd a o kvs) (upd H1 a (.frz o (.dK kvs)))) ∨ (∃ a o kvs, x = .ref a ∧ H1 a = some (.frz o (.dK kvs)) ∧ R (Itd a o kvs) H1)
theorem dP3 {tl : TE} (hl : PE X e tl) : PI X tg e (iW X.K tl) := by
 intro pins s σ H R I h
 refine thn (hl pins s σ H _ I h) fun v s1 hE1 => hE1.elim fun x H1 I1 r1 q1 => ?_
 have fpo : ∀ b ∈ [s1.heap.objs.size], aH2 X pins H1 b := fun b hb => by
  have z : b = s1.heap.objs.size := by simpa using hb
  subst z
  exact I1.fpOk (Nat.le_refl _) (I1.hok.fresh (Nat.le_refl _))
 rcases q1 with (⟨z, rfl, q⟩ | ⟨k, a, xs, rfl, hq, q⟩) | ⟨a, kvs, rfl, hq, q⟩ | ⟨a, o, kvs, rfl, hq, q⟩
 · obtain ⟨t, rfl⟩ := (show ∃ t, v = Value.str z t from r1)
   refine wpAny_pyIter_strU ?_
   have I2 : Inv X pins σ H1 { s1 with heap := s1.heap.push { cls := .type (strIterType z), data := .fields #[.str z t, .int 0 0] } } := I1.kept (t' := s1.toks) fun b o z => Heap.get?_push_of_some _ z
   have hg : (s1.heap.push { cls := .type (strIterType z), data := .fields #[.str z t, .int 0 0] }).get? s1.heap.objs.size = some { cls := .type (strIterType z), data := .fields #[.str z t, .int 0 0] } := Heap.get?_push_size _ rfl
   by_cases ha : z.cps.all (· < 128) = true
   · have e : strIterType z = "str_ascii_iterator" := by unfold strIterType; rw [if_pos ha]
     refine ⟨s1.heap.objs.size, [s1.heap.objs.size], _, _, H1, rfl, I2, bQ3 z t _, ?_, fpo, q⟩
     rw [e] at hg ⊢
     exact ⟨_, hg, rfl, rfl⟩
   · have e : strIterType z = "str_iterator" := by unfold strIterType; rw [if_neg ha]
     refine ⟨s1.heap.objs.size, [s1.heap.objs.size], _, _, H1, rfl, I2, cA2 z t _, ?_, fpo, q⟩
     rw [e] at hg ⊢
     exact ⟨_, hg, rfl, rfl⟩
 · cases r1
   rcases k with _ | _
   ·
     obtain ⟨its, rv, p, hz⟩ := I1.list hq
     exact wpAny_pyIter_list p.isList ⟨s1.heap.objs.size, [s1.heap.objs.size], _, _, H1, rfl, I1.kept (t' := s1.toks) fun b o z => Heap.get?_push_of_some _ z, cB8 a _, ⟨_, Heap.get?_push_size _ rfl, rfl, rfl⟩, fpo, q⟩
   ·
     obtain ⟨its, rv, p, hz⟩ := I1.tuple hq
     exact wpAny_pyIter_tuple (show s1.heap.IsTuple a its.toArray from p) ⟨s1.heap.objs.size, [s1.heap.objs.size], _, _, H1, rfl, I1.kept (t' := s1.toks) fun b o z => Heap.get?_push_of_some _ z, bT6 a _, ⟨_, Heap.get?_push_size _ rfl, rfl, rfl⟩, fpo, q⟩
 · cases r1
   obtain ⟨hz, hS, vs, rel, dd⟩ := bY8 I1.hok hq
   obtain ⟨ep, dat⟩ := dd.dictAt
   obtain ⟨o, es, h1, h2, h3, h4⟩ := id dat
   have hlen : kvs.length = vs.length := Paired.length rel
   have I2 := DL.Inv.freeze I1 hq h1
   have fpo2 : ∀ b ∈ [s1.heap.objs.size], aH2 X pins (upd H1 a (.frz o (.dK kvs))) b := fun b hb => by
    have z : b = s1.heap.objs.size := by simpa using hb
    subst z
    exact I2.fpOk (Nat.le_refl _) (I2.hok.fresh (Nat.le_refl _))
   refine wpAny_pyIter_dict hS dat ⟨s1.heap.objs.size, [s1.heap.objs.size], _, _, upd H1 a (.frz o (.dK kvs)), rfl, I2.kept (t' := s1.toks) fun b o z => Heap.get?_push_of_some _ z, bC1 (kvs := kvs) h3 _, ?_, fpo2, q o⟩
   rw [hlen]
   exact ⟨_, Heap.get?_push_size _ rfl, rfl, rfl⟩
 · cases r1
   obtain ⟨hget, hz, hS, vs, rel, dd⟩ := (show N7 X.prog X.w H1 s1.heap a (.frz o (.dK kvs)) from I1.hok a _ hq)
   obtain ⟨ep, dat⟩ := dd.dictAt
   obtain ⟨o', es, h1, h2, h3, h4⟩ := id dat
   rw [hget] at h1
   cases h1
   have hlen : kvs.length = vs.length := Paired.length rel
   refine wpAny_pyIter_dict hS dat ⟨s1.heap.objs.size, [s1.heap.objs.size], _, _, H1, rfl, I1.kept (t' := s1.toks) fun b o z => Heap.get?_push_of_some _ z, bC1 (kvs := kvs) h3 _, ?_, fpo, q⟩
   rw [hlen]
   exact ⟨_, Heap.get?_push_size _ rfl, rfl, rfl⟩
noncomputable def cN5 : Key → D
 | .inl i => .int i
 | .inr x => .str x
def bK9 (l : List (Key × D)) : List D := l.map fun kv => cN5 kv.1
def cH9 : D → M Src := fun x => match x with
 | .ref r => do
   match ← M5 r with
   | .dct l => do
     let _ ← bL4 r (.rod l)
     pure ⟨bK9 l, fun _ => true⟩
   | .rod l => pure ⟨bK9 l, fun _ => true⟩
   | _ => cT9 (.ref r)
 | d => cT9 d
def itW (f : Fe) : DSt → M Src := fun σ => do cH9 (← f σ)
theorem bI0 {μ1 : List Addr} {G1 : DH} {H1 : Hp} {d : D} {v : V} {R : It → Hp → Prop} (h1 : m6 (wc X) μ1 G1 H1) (rv : d8 (wc X) μ1 H1 d v) (p1 : d7 (wc X) Z μ1 H1 (cT9 d G1) fun s μ' _ H' => ∀ J, ItD (wc X) μ' H' J s → R J H') :
 (∃ z, v = .str z ∧ R (Its z) H1) ∨ (∃ k a xs, v = .ref a ∧ Sq X.K k H1 a xs ∧ R (if k = true then Itt X.K a else Itl X.K a) H1) := by
 have main : ∀ dd : D, (∀ z, dd ≠ .str z) → d8 (wc X) μ1 H1 dd v → d7 (wc X) Z μ1 H1 (aB3 dd G1) (fun s μ' _ H' => ∀ J, ItD (wc X) μ' H' J s → R J H') → (∃ z, v = .str z ∧ R (Its z) H1) ∨ (∃ k a xs, v = .ref a ∧ Sq X.K k H1 a xs ∧ R (if k = true then Itt X.K a else Itl X.K a) H1) := by
  intro dd _ rv p1
  have p1' : d7 (wc X) Z μ1 H1 ((aB3 dd >>= fun s => (pure s : M Src)) G1) fun s μ' _ H' => ∀ J, ItD (wc X) μ' H' J s → R J H' := by
   have e : (aB3 dd >>= fun s => (pure s : M Src)) = aB3 dd := by
    funext G
    rw [M.bind_eq]
    rcases aB3 dd G with _ | q
    · rfl
    · obtain ⟨r, G'⟩ := q; cases r <;> rfl
   rw [e]; exact p1
  obtain ⟨sr, k, a, vs, rfl, q, rl, is, ck, _, p2⟩ := aJ4 h1 rv p1'
  refine .inr ⟨k, a, vs, rfl, q, d7.ok p2 h1 _ fun μ' G' H' x' h' ck' i => ?_⟩
  obtain ⟨vs', q', rl'⟩ := is μ' G' H' x' h' ck'
  refine ⟨fun d hd => ?_, fun hi => ?_⟩
  · obtain ⟨y, hy, ry⟩ := rl'.get hd
    cases k with
    | true =>
      rw [if_pos rfl]
      exact ⟨⟨vs', y, q', hy⟩, fun x H2 ⟨e1, e2⟩ => by subst e1; exact ⟨Ext.refl _ _, h', bZ2 rl' hd (e2 vs' q')⟩⟩
    | false =>
      rw [if_neg Bool.false_ne_true]
      exact ⟨⟨vs', y, q', hy⟩, fun x H2 ⟨e1, e2⟩ => by subst e1; exact ⟨Ext.refl _ _, h', bZ2 rl' hd (e2 vs' q')⟩⟩
  · cases k with
    | true => rw [if_pos rfl]; exact ⟨vs', q', by rw [← rl'.length]; exact hi⟩
    | false => rw [if_neg Bool.false_ne_true]; exact ⟨vs', q', by rw [← rl'.length]; exact hi⟩
 cases d with
 | str z =>
   refine .inl ⟨z, aC6 rv, d7.ok p1 h1 _ fun μ' G' H' x' h' ck' i => ⟨fun d hd => ?_, fun hi => ?_⟩⟩
   · simp only [bR2, List.getElem?_map] at hd
     cases hc : z.cps.toList[i]? with
     | none => rw [hc] at hd; cases hd
     | some c =>
       rw [hc] at hd
       cases hd
       have hc' : z.cps[i]? = some c := by rw [← Array.getElem?_toList]; exact hc
       exact ⟨⟨c, hc'⟩, fun x H2 ⟨e1, c2, e2, e3⟩ => by
        subst e1
        rw [hc'] at e2
        cases e2
        exact ⟨Ext.refl _ _, h', by rw [e3]; unfold d8; rfl⟩⟩
   · simp only [bR2, List.length_map] at hi
     show z.cps[i]? = none
     rw [← Array.getElem?_toList]
     exact List.getElem?_eq_none hi
 | tup l => exact main (.tup l) (fun z q => nomatch q) rv p1
 | ref r => exact main (.ref r) (fun z q => nomatch q) rv p1
 | _ => exact p1.elim
theorem bK5 {c : Wc} {μ : List Addr} {H : Hp} : ∀ {l : List (Key × D)} {kvs : List (Key × V)} {i : Nat} {kd : Key × D}, S5 c μ H l kvs → l[i]? = some kd → ∃ v, kvs[i]? = some (kd.1, v)
 | [], _, _, _, _, e => by simp at e
 | (k, d) :: r, _, 0, _, h, e => by
  obtain ⟨v, t, rfl, _, _⟩ := h
  simp only [List.getElem?_cons_zero, Option.some.injEq] at e
  subst e
  exact ⟨v, rfl⟩
 | (k, d) :: r, _, i + 1, _, h, e => by
  obtain ⟨v, t, rfl, _, ht⟩ := h
  simp only [List.getElem?_cons_succ] at e ⊢
  exact bK5 ht e
theorem cQ0 {c : Wc} {μ : List Addr} {H : Hp} (k : Key) : d8 c μ H (cN5 k) (kV k) := by
 cases k <;> (unfold cN5 d8; rfl)
theorem cF7 {c : Wc} {μ : List Addr} {H : Hp} {a : Addr} {o : Obj} {l : List (Key × D)} {kvs : List (Key × V)} (e : H a = some (.frz o (.dK kvs))) (rk : S5 c μ H l kvs) : ItD c μ H (Itd a o kvs) ⟨bK9 l, fun _ => true⟩ := by
 intro μ' G' H' x h' _ i
 have e' := x.frz _ _ _ e
 refine ⟨fun d hd => ?_, fun hi => ⟨e', by rw [← rk.length]; simpa [bK9] using hi⟩⟩
 simp only [bK9, List.getElem?_map] at hd
 cases hl : l[i]? with
 | none => rw [hl] at hd; cases hd
 | some kd =>
   rw [hl] at hd
   cases hd
   obtain ⟨v, hv⟩ := bK5 rk hl
   exact ⟨⟨e', _, hv⟩, fun y H2 ⟨e1, kv, e2, e3⟩ => by
    subst e1
    rw [hv] at e2
    cases e2
    exact ⟨Ext.refl _ _, h', by rw [e3]; exact cQ0 _⟩⟩
theorem di_W {f : Fe} (he : DE X Z e f) : DI X Z tg e (itW f) :=
 DI.of (dP3 he.h) fun σ H R hE0 => hE0.elim fun dσ μ G s h p => ⟨dσ, μ, G, s, h, (d7.bind p).mono fun d μ1 G1 H1 x1 h1 p1 v rv => by
  cases d with
  | ref r =>
    have rv' := rv
    unfold d8 at rv'
    obtain ⟨a, m, rfl⟩ := rv'
    obtain ⟨o, g, p2⟩ := J2 p1
    have ro := h1.obj r o a g m
    rcases o with l | l | l | l
    · exact .inl (bI0 h1 rv p2)
    · exact .inl (bI0 h1 rv p2)
    ·
      obtain ⟨kvs, q, rk⟩ := ro
      refine .inr (.inl ⟨a, kvs, rfl, q, fun o => ?_⟩)
      have x : Ext μ1 H1 μ1 (upd H1 a (.frz o (.dK kvs))) := Ext.mut (List.mem_of_getElem? m) q (fun _ z => nomatch z) (fun _ _ z => nomatch z) _
      have hk' := rk.mono x
      have h2 : m6 (wc X) μ1 (G1.set r (.rod l)) (upd H1 a (.frz o (.dK kvs))) := h1.setR g (fun z => z) m x ⟨kvs, o, v8, hk'⟩
      have p3 := d7.from p2 x
      exact d7.ok p3 h2 _ (cF7 v8 hk')
    ·
      obtain ⟨kvs, o, q, rk⟩ := ro
      exact .inr (.inr ⟨a, o, kvs, rfl, q, d7.ok p2 h1 _ (cF7 q rk)⟩)
  | _ => exact .inl (bI0 h1 rv p1)⟩
end
end DL
namespace W
open PySem PySem.Spec L2 DL
open PyProof.Rows hiding St
section
variable {G : DH} {σ : DSt} {R : Src → DH → Prop}
theorem wp_itW {f : Fe} : Wp (itW f σ) G R ↔ Wp (f σ) G fun x G1 => Wp (cH9 x) G1 R := by
 unfold itW; simp only [j6]
theorem srcW_tup {l : List D} : Wp (cH9 (.tup l)) G R ↔ R ⟨l, fun _ => true⟩ G := f9
theorem bL8 {p : Nat} {l : List D} (e : G[p]? = some (.lst l)) : Wp (cH9 (.ref p)) G R ↔ R ⟨l, ckO p (.lst l)⟩ G := by
 unfold cH9
 simp only [j6, R5, e, T3]
 exact cE9 e
end
end W
namespace DL
open PySem PySem.Spec L2
open PyProof.Rows hiding St
section
variable {prog : Program} {w : World} {A : Around} {E : VSP} {s : Shared} {Q : VSP}
theorem bP9 {a : Addr} {T : String} {o : Obj} {vs : List Value} {n : Nat} (hT : T = "list" ∨ T = "tuple") (ho : s.heap.get? a = some o) (hc : o.cls = .type T) (hd : o.data = .seq vs.toArray n) (h64 : vs.length < 64) {ss : List Str} (hS : StrsAre vs ss)
 (h : ∀ (h1 h' : Heap) (tk e : Nat) (out : List Value) (ss' : List Str), (∀ b o, s.heap.get? b = some o → h1.get? b = some o) → (∀ b o, h1.get? b = some o → h'.get? b = some o) → h'.get? h1.objs.size = some (seqObj "list" out.toArray e) → StrsAre out ss' → ss'.Perm ss → sortedS ss' = true → Q (.ref h1.objs.size) { s with heap := h', toks := tk }) :
 wpAny (model prog w) A (call (.builtin "sorted") [.ref a]) Q E s := by
 have hz : vs.length ≤ sizeLine := Nat.le_trans (Nat.le_of_lt h64) (by decide)
 refine Calls.call_function_entry kind_sorted plain_sorted entry_sorted (args_sorted1 _) ?_
 unfold Builtin.«sorted»
 refine wpAny_bind (m := checkCount "sorted" 1 1 _) (wpAny_pure ?_)
 refine wpAny_bind (wpAny_collect_seq (A := A.in1) a hT ho hc hd (fun h1 hk => ?_) (by rw [List.size_toArray]; exact hz))
 refine wpAny_bind (wpAny_newList ?_ hz)
 have hoL : (h1.push (seqObj "list" vs.toArray 0)).get? h1.objs.size = some (seqObj "list" vs.toArray 0) := Heap.get?_push_size _ rfl
 refine wpAny_bind (wpAny_holding (wpAny_call_entry slot_list_sort ⟨_, hoL, rfl⟩ entry_list_sort (list_sort_treeK strKind_oneLt hoL hS.keysOf (fun v₁ v₂ t8 e => keyKind_strs (by rw [← e]; exact hS)) h64 fun st' a1 a2 => ⟨_, rfl, ?_⟩) (args_list_sort _)))
 obtain ⟨ss', b1, b2, b3⟩ := sorted_out_str hS a1 a2
 obtain ⟨e, he⟩ := sortedHeap_at (vs := vs) (out := (arrOf st').map (·.2)) hoL
 refine wpAny_pure ⟨_, rfl, h h1 _ s.toks e ((arrOf st').map (·.2)).toList ss' hk (fun b o hb => ?_) (by rw [Array.toArray_toList]; exact he) b1 b2 b3⟩
 have hlt : b < h1.objs.size := Heap.lt_size hb
 rw [sortedHeap_old (Nat.ne_of_lt hlt) (by rw [size_push']; exact Nat.lt_succ_of_lt hlt), Heap.get?_push_ne _ _ _ (Nat.ne_of_lt hlt)]
 exact hb
end
def cK7 (l : List D) : M D := do
 let ss ← aC7 (W9 l)
 if ss.length < 64 then K7 (.lst ((aA9 ss).map .str)) else M.stuck
def aD4 : List D → M D := fun ds => match ds with
 | [.tup l] => cK7 l
 | [.ref r] => do
   match ← M5 r with
   | .lst l => cK7 l
   | .dct l => do
     let ss ← aC7 (o8 l)
     if ss.length < 64 then K7 (.lst ((aA9 ss).map .str)) else M.stuck
   | _ => M.stuck
 | _ => M.stuck
section
variable {X : Cx} {Z : XC}
theorem aN2 {c : Wc} {μ : List Addr} {H : Hp} : ∀ {l : List D} {ss : List Str} {vs : List V} {us : List Value}, W9 l = some ss → j9 c μ H l vs → o5 vs us → StrsAre us ss
 | [], _, _, _, e, r, v => by cases e; cases r; cases v; exact .nil
 | .str x :: t, ss, _, _, e, r, v => by
   replace e := show (W9 t).map (_ :: ·) = some _ from e
   rcases h : W9 t with _ | q
   · rw [h] at e; exact m9 e
   ·
     rw [h] at e
     cases e
     obtain ⟨v0, tl, rfl, r0, rt⟩ := r
     cases v with
     | cons ru rt2 =>
       rw [aC6 r0] at ru
       obtain ⟨tk, rfl⟩ := ru
       exact .cons _ _ (aN2 h rt rt2)
 | .non :: _, _, _, _, e, _, _ => by exact m9 e
 | .bl _ :: _, _, _, _, e, _, _ => by exact m9 e
 | .int _ :: _, _, _, _, e, _, _ => by exact m9 e
 | .tup _ :: _, _, _, _, e, _, _ => by exact m9 e
 | .ref _ :: _, _, _, _, e, _, _ => by exact m9 e
 | .fn _ :: _, _, _, _, e, _, _ => by exact m9 e
 | .ty _ :: _, _, _, _, e, _, _ => by exact m9 e
theorem bM2 : ∀ {l : List D} {ss : List Str}, W9 l = some ss → ss.length = l.length
 | [], _, e => by cases e; rfl
 | .str x :: t, ss, e => by
   replace e := show (W9 t).map (_ :: ·) = some _ from e
   rcases h : W9 t with _ | q
   · rw [h] at e; exact m9 e
   · rw [h] at e; cases e; simp [bM2 h]
 | .non :: _, _, e => by exact m9 e
 | .bl _ :: _, _, e => by exact m9 e
 | .int _ :: _, _, e => by exact m9 e
 | .tup _ :: _, _, e => by exact m9 e
 | .ref _ :: _, _, e => by exact m9 e
 | .fn _ :: _, _, e => by exact m9 e
 | .ty _ :: _, _, e => by exact m9 e
theorem bP4 {μ : List Addr} {G : DH} {pins : PNS} {s : Shared} {σ : St} {H : Hp} {Q : VK} {a : Addr} {T : String} {o : Obj} {vs : List V} {us : List Value} {n : Nat} {l : List D} (I : Inv X pins σ H s) (hr : m6 (wc X) μ G H) (rl : j9 (wc X) μ H l vs) (rv : o5 vs us) (hT : T = "list" ∨ T = "tuple") (ho : s.heap.get? a = some o) (hc : o.cls = .type T) (hd : o.data = .seq us.toArray n)
 (p : d7 (wc X) Z μ H (cK7 l G) fun d μ' _ H' => ∀ v, d8 (wc X) μ' H' d v → Q v H') : wpAny (model X.prog X.w) X.A (call (.builtin "sorted") [.ref a]) (EP X pins σ Q) X.xe s := by
 obtain ⟨ss, es, p2⟩ := V6 p
 split at p2
 case isFalse => exact p2.elim
 rename_i h64
 have hS := aN2 es rl rv
 have hlen0 : us.length = ss.length := by rw [bM2 es, rl.length, rv.length]
 refine bP9 hT ho hc hd (by lia) hS fun h1 h' tk e out ss' k1 k2 he hS' hp hs => ?_
 have e2 := bN9 hp hs
 subst e2
 obtain ⟨ws, ew, rv', rl2⟩ := aV5 (c := wc X) (μ := μ) (H := H) hS'
 have I1 : Inv X pins σ H { s with heap := h1, toks := tk } := I.kept k1
 have hf := I1.hok.fresh (Nat.le_refl _)
 have hlen : ws.length ≤ sizeLine := by
  rw [ew, List.length_map]
  have e3 : (aA9 ss).length = ss.length := (List.mergeSort_perm ss leS).length_eq
  have : (64 : Nat) ≤ sizeLine := by decide
  lia
 exact ⟨.ref h1.objs.size, upd H h1.objs.size (.lst ws), I1.laid (t' := tk) k2 (Nat.le_refl _) ⟨hlen, out, e, rv', he⟩, rfl, aD1 hr rl2 p2 _ hf⟩
theorem bR7 (hc : X.calm = true) : V0 X Z (.builtin "sorted") aD4 := ⟨by
 intro pins s σ H xs us Q I r hE0
 obtain ⟨ds, μ, G, rl, hr, p⟩ := hE0
 rcases ds with _ | ⟨_ | _ | _ | _ | l | i | _ | _, _ | ⟨_, _⟩⟩ <;> try exact p.elim
 all_goals (delta aD4 at p; dsimp only at p)
 · obtain ⟨v, rfl, rv⟩ := aJ6 rl
   obtain ⟨u, rfl, ru⟩ := X3 r
   unfold d8 at rv
   obtain ⟨a, vs, rfl, q, rl'⟩ := rv
   cases ru
   obtain ⟨its, rv, ⟨o, h1, h2, n, h3⟩, hz⟩ := I.tuple q
   exact bP4 I hr rl' rv (.inr rfl) h1 h2 h3 p
 · obtain ⟨v, rfl, rv⟩ := aJ6 rl
   obtain ⟨u, rfl, ru⟩ := X3 r
   have rv' := rv
   unfold d8 at rv'
   obtain ⟨a, m, rfl⟩ := rv'
   cases ru
   obtain ⟨o, g, p1⟩ := J2 p
   have ro := hr.obj i o a g m
   rcases o with l | l | l | l
   ·
     obtain ⟨vs, q, rl'⟩ := ro
     obtain ⟨its, rv, pl, hz⟩ := I.list (SqL.of q)
     obtain ⟨o, h1, h2, n, h3⟩ := pl.isList
     exact bP4 I hr rl' rv (.inl rfl) h1 h2 h3 p1
   · exact p1.elim
   ·
     refine (cA8 (Z := Z) hc).h pins s σ H [.ref a] [.ref a] Q I r ⟨[.ref i], μ, G, rl, hr, ?_⟩
     have eo : M5 i G = some (.ok (.dct l), G) := by unfold M5; simp only [g]
     have e : bJ5 [.ref i] G = ((do
      let ss ← aC7 (o8 l)
      if ss.length < 64 then K7 (.lst ((aA9 ss).map .str)) else M.stuck : M D)) G := by
      show ((M5 i >>= fun o => match o with
       | .dct l => (do
         let ss ← aC7 (o8 l)
         if ss.length < 64 then K7 (.lst ((aA9 ss).map .str)) else M.stuck : M D)
       | _ => M.stuck) : M D) G = _
      rw [M.bind_ok eo]
     rw [e]
     exact p1
   · exact p1.elim⟩
theorem bd_sortedG (h : X.calm = true) : BD aD4 "sorted" X Z := ⟨.inl ⟨_, bR7 h, bZ8⟩⟩
end
end DL
namespace W
open PySem PySem.Spec L2 DL
open PyProof.Rows hiding St
section
variable {G : DH} {Q : DPP}
theorem cB5 {r : Nat} {l : List (Key × D)} {ss : List Str} (e : G[r]? = some (.dct l)) (hs : o8 l = some ss) (h64 : ss.length < 64) : Wp (aD4 [.ref r]) G Q ↔ Q (.ref G.length) (G ++ [.lst ((aA9 ss).map .str)]) := by
 unfold aD4
 simp only [j6, R5, e, T3, aF2, hs, if_pos h64, V8]
end
end W
namespace DL
open PySem
section
variable {prog : Program} {w : World} {A : Around} {E : VSP}
end
end DL
namespace DL
open PySem
open PyProof.Rows (IsTup)
section
variable {prog : Program} {w : World} {A : Around} {R : Result → Shared → Prop} {I : Addr} {fp wr : List Addr} {n : Nat} {P : Nat → Value → Prop} {St : Nat → Heap → Prop} {K : Type} [DecidableEq K] {knd : KeyKind prog w K}
end
section
variable {prog : Program} {w : World} {A : Around} {E : VSP} {s : Shared} {K : Type} [DecidableEq K] {knd : KeyKind prog w K}
end
end DL
namespace DL
open PySem PySem.Spec L2
open PyProof.Rows hiding St
section
variable {X : Cx} {Z : XC} {c : Wc} {μ : List Addr} {H : Hp} {G : DH}
end
end DL
namespace W
open PySem PySem.Spec L2 DL
open PyProof.Rows hiding St
end W
namespace DL
open PySem PySem.Spec L2
open PyProof.Rows hiding St
section
variable {X : Cx} {Z : XC} {c : Wc} {μ : List Addr} {H : Hp}
end
end DL
namespace W
open PySem PySem.Spec L2 DL
open PyProof.Rows hiding St
end W
namespace DL
open PySem PySem.Spec L2
open PyProof.Rows hiding St
section
variable {X : Cx} {Z : XC} {a b e : Expr} {fa fb : Fe} {pos : Pos}
end
end DL
namespace W
open PySem PySem.Spec L2 DL
open PyProof.Rows hiding St
end W
namespace DL
open PySem PySem.W
open PyProof.Rows hiding St
noncomputable def tOk {α : Type} (lt : Nat → Nat → Bool) (n : Nat) : KasT α → (α → Prop) → Prop
 | .ret a, Q => Q a
 | .ask i j k, Q => i < n ∧ j < n ∧ tOk lt n (k (lt i j)) Q
section
variable {α β : Type} {lt : Nat → Nat → Bool} {n : Nat}
theorem tOk.bind {f : α → KasT β} {Q : β → Prop} : ∀ (t : KasT α), tOk lt n t (fun a => tOk lt n (f a) Q) → tOk lt n (t.bind f) Q
 | .ret _, h => h
 | .ask i j k, h => ⟨h.1, h.2.1, tOk.bind (k (lt i j)) h.2.2⟩
theorem tOk.mono {Q Q' : α → Prop} (hq : ∀ a, Q a → Q' a) : ∀ (t : KasT α), tOk lt n t Q → tOk lt n t Q'
 | .ret a, h => hq a h
 | .ask i j k, h => ⟨h.1, h.2.1, tOk.mono hq (k (lt i j)) h.2.2⟩
end
structure OrdN (lt : Nat → Nat → Bool) (n : Nat) : Prop where
 tr : ∀ i j k, lt i j = true → lt j k = true → lt i k = true
 tot : ∀ i j, i < n → j < n → i ≠ j → lt i j = false → lt j i = true
structure bX1 (p : Array Nat) (n : Nat) : Prop where
 pm : p.toList.Perm (List.range n)
section
variable {lt : Nat → Nat → Bool} {n : Nat} {p : Array Nat}
theorem bX1.size (h : bX1 p n) : p.size = n := by have := h.pm.length_eq; simpa using this
theorem bX1.ne (h : bX1 p n) {i j : Nat} (hi : i < n) (hj : j < n) (hij : i ≠ j) : p.getD i 0 ≠ p.getD j 0 := by
 have hs := h.size
 have nd : p.toList.Nodup := h.pm.nodup_iff.mpr List.nodup_range
 have e1 : p.getD i 0 = p.toList[i]'(by simp; lia) := by simp [Array.getD, hs, hi]
 have e2 : p.getD j 0 = p.toList[j]'(by simp; lia) := by simp [Array.getD, hs, hj]
 rw [e1, e2]
 intro e
 exact hij ((List.getElem_inj nd).mp e)
end
end DL
namespace DL
open PySem PySem.Spec L2
open PyProof.Rows hiding St
section
variable {X : Cx} {pins : PNS} {σ : St} {H : Hp} {s : Shared} {A : Around}
end
section
variable {X : Cx} {pins : PNS} {σ : St} {A : Around} {F : List D → M D} {k : Nat} {f : Addr} {fd : FuncData} {ps : List Str}
end
section
variable {X : Cx} {pins : PNS} {σ : St} {H : Hp} {s : Shared}
end
section
variable {prog : Program} {w : World} {A : Around} {E : VSP} {s : Shared} {C : Bool → Shared → Prop}
end
section
variable {X : Cx} {Z : XC} {pins : PNS} {σ : St} {H : Hp} {s : Shared} {F : List D → M D} {k : Nat} {f : Addr} {fd : FuncData} {ps : List Str} {μ : List Addr} {G : DH}
end
section
variable {X : Cx} {Z : XC} {e : Expr} {fe : Fe} {p pf kp pos : Pos} {x : Str} {F : List D → M D}
end
def CR (K : PySem.W.Frag) (mg : Str → Option Value) (d : D) (u : Value) : Prop := ∃ v, o4 v u ∧ ∀ μ H, d8 ⟨K, mg⟩ μ H d v
section
variable {K : PySem.W.Frag} {mg : Str → Option Value}
theorem cN7 {i : Int} {t : Tok} : CR K mg (.int i) (.int i t) := ⟨.int i, ⟨t, rfl⟩, fun μ H => by unfold d8; rfl⟩
end
structure cL6 (K : PySem.W.Frag) (mg : Str → Option Value) (x : Str) (d : D) : Prop where
 ex : ∃ u, mg x = some u ∧ CR K mg d u
section
variable {X : Cx} {Z : XC} {pos : Pos} {x : Str} {d : D}
theorem de_cst (hc : cL6 X.K X.mg x d) (hg : Gl X x) (hdb : (x == ("__debug__" : Str)) = false) : DE X Z (.Name x pos) (cE d) := ⟨by
 intro pins s σ H Q I hE0
 refine hE0.elim fun dσ μ G sr hr p => ?_
 obtain ⟨u, hm, v, ru, rv⟩ := hc.ex
 exact bI7 I hg hm ⟨v, H, I, ru, d7.ok p hr v (rv μ H)⟩ hdb⟩
end
def isStrM : D → M Unit := fun x => match x with
 | .str _ => pure ()
 | _ => M.stuck
section
variable {X : Cx} {Z : XC} {o e : Expr} {es : List Expr} {fo : Fe} {fs : DSt → M (List D)} {name : Str} {id : String} {mm : D → List D → M D} {apos cpos : Pos}
theorem bQ7 {α : Type} {c : Wc} {μ : List Addr} {H : Hp} {G : DH} {d : D} {v : V} {f : Unit → M α} {K : α → List Addr → DH → Hp → Prop} (r : d8 c μ H d v) (p : d7 c Z μ H ((isStrM d >>= f) G) K) : tyV c.K "str" v H ∧ d7 c Z μ H (f () G) K := by
 rcases d with _ | _ | _ | x | _ | _ | _ | _ <;> try (exact p.elim; done)
 · rw [aC6 r]; exact ⟨rfl, p⟩
theorem de_mtS (slot : Slot "str" name id) (hty : typeOf (.builtin id) = pure (.type "method_descriptor")) (hm : MtD X Z id mm) (ho : DE X Z o fo) (ha : DA X Z (e :: es) fs)
 (hbase : attributeBase o name X.env (eval o X.env) = eval o X.env)
 (hfew : ((backTo cpos (starEach (e :: es) X.env)).all (fun x => !x.1) && (backToKw cpos (keywordEach [] X.env)).all (fun x => x.1.isSome)
   && decide ((e :: es).length + ([] : List Keyword).length + (if ([] : List Keyword).isEmpty then 0 else 1) < 30)) = true)
 (hline : (apos.endLine == cpos.line) = true) (hs : starEach (e :: es) X.env = (false, eval e X.env) :: starEach es X.env) (hplain : (backTo cpos (starEach es X.env)).any (·.1) = false) :
 DE X Z (.Call (.Attribute o name apos) (e :: es) [] cpos) (mtE isStrM mm fo fs) :=
 DE.of (cW5 PySem.F.plainAttrs_str slot hty hm ho.h ha.h hbase hfew hline hs hplain) fun σ H Q hE0 => hE0.elim fun dσ μ G s h p => ⟨dσ, μ, G, s, h, (d7.bind p).mono fun d μ1 G1 H1 x1 h1 p1 v rv => by
  obtain ⟨ty, p2⟩ := bQ7 rv p1
  exact ⟨ty, dσ, μ1, G1, s.mono x1, h1, (d7.bind p2).mono fun ds μ2 G2 H2 x2 h2 p3 vs rvs => ⟨d, ds, μ2, G2, rv.mono x2, rvs, h2, p3⟩⟩⟩
end
def bB5 (sep : Str) (l : List D) : M D := do
 let ss ← aC7 (W9 l)
 if (ss.map (·.length)).sum + ss.length * sep.length ≤ 16777216 then pure (.str (Txt.join sep ss)) else M.stuck
def aM0 : D → List D → M D := fun x ds => match x, ds with
 | .str sep, [.tup l] => bB5 sep l
 | .str sep, [.ref r] => do
   match ← M5 r with
   | .lst l => bB5 sep l
   | _ => M.stuck
 | _, _ => M.stuck
section
variable {X : Cx} {Z : XC}
theorem md_join : MtD X Z "str.join" aM0 := by
 intro pins s σ H x xs v us Q I rx rvs hE0
 obtain ⟨d, ds, μ, G, rd, rl, hr, p⟩ := hE0
 unfold aM0 at p
 split at p
 · rename_i sep l
   rw [aC6 rd] at rx
   obtain ⟨t, rfl⟩ := rx
   obtain ⟨v1, rfl, rv1⟩ := aJ6 rl
   obtain ⟨u, rfl, ru⟩ := X3 rvs
   unfold d8 at rv1
   obtain ⟨a, vs, rfl, q, rl'⟩ := rv1
   cases ru
   obtain ⟨its, rv, tp, hz⟩ := I.tuple q
   unfold bB5 at p
   obtain ⟨ss, es, p2⟩ := V6 p
   split at p2
   case isFalse => exact p2.elim
   rename_i hok
   exact join_tuple tp (aN2 es rl' rv) hok fun t' k => ⟨.str (Txt.join sep ss), H, I.tok k, ⟨t', rfl⟩, d7.ok p2 hr _ (by unfold d8; rfl)⟩
 · rename_i sep r
   rw [aC6 rd] at rx
   obtain ⟨t, rfl⟩ := rx
   obtain ⟨v1, rfl, rv1⟩ := aJ6 rl
   obtain ⟨u, rfl, ru⟩ := X3 rvs
   unfold d8 at rv1
   obtain ⟨a, m, rfl⟩ := rv1
   cases ru
   obtain ⟨o, g, p1⟩ := J2 p
   have ro := hr.obj r o a g m
   rcases o with l | l | l | l
   ·
     obtain ⟨vs, q, rl'⟩ := ro
     obtain ⟨its, rv, pl, hz⟩ := I.list (SqL.of q)
     unfold bB5 at p1
     obtain ⟨ss, es, p2⟩ := V6 p1
     split at p2
     case isFalse => exact p2.elim
     rename_i hok
     exact join_list pl.isList (aN2 es rl' rv) hok fun t' k => ⟨.str (Txt.join sep ss), H, I.tok k, ⟨t', rfl⟩, d7.ok p2 hr _ (by unfold d8; rfl)⟩
   · exact p1.elim
   · exact p1.elim
   · exact p1.elim
 · exact p.elim
end
end DL
namespace W
open PySem PySem.Spec L2 DL
open PyProof.Rows hiding St
section
variable {G : DH} {σ : DSt} {Q : DPP}
theorem aI4 {z : Str} {R : Unit → DH → Prop} : Wp (isStrM (.str z)) G R ↔ R () G := f9
theorem cI8 {sep : Str} {r : Nat} {l : List D} {ss : List Str} (e : G[r]? = some (.lst l)) (hs : W9 l = some ss) (hok : (ss.map (·.length)).sum + ss.length * sep.length ≤ 16777216) : Wp (aM0 (.str sep) [.ref r]) G Q ↔ Q (.str (Txt.join sep ss)) G := by
 have h : aM0 (.str sep) [.ref r] = (do
  match ← M5 r with
  | .lst l => bB5 sep l
  | _ => M.stuck) := rfl
 rw [h]
 simp only [j6, R5, e, T3, bB5, aF2, hs, if_pos hok, f9]
end
end W
namespace DL
open PySem PySem.Spec L2
open PyProof.Rows hiding St
section
variable {X : Cx} {Z : XC} {c : Wc} {μ : List Addr} {H : Hp}
variable {e t : Expr} {lo hi : Option Expr} {fa : Fe} {fl fh ft : Fo} {p2 pos : Pos}
end
end DL
namespace W
open PySem PySem.Spec L2 DL
open PyProof.Rows hiding St
section
variable {G : DH} {σ : DSt} {Q : DPP}
end
end W
namespace DL
open PySem PySem.Spec L2
open PyProof.Rows hiding St
section
variable {X : Cx} {Z : XC} {a b c : Expr} {fa fb fc : Fe} {pos p : Pos} {x : Str}
theorem bR9 {o o' : D → D → M D} (σ : St) (H : Hp) (Q : VK) (h : aF6 (wc X) Z (aX8 o o' fa fb fc) σ H Q) : cH0 (aF8 (wc X) Z o) (aF8 (wc X) Z o') (aF6 (wc X) Z fa) (aF6 (wc X) Z fb) (aF6 (wc X) Z fc) σ H Q := by
 obtain ⟨dσ, μ, G, s, h, p⟩ := h
 exact ⟨dσ, μ, G, s, h, (d7.bind p).mono fun x μ1 G1 H1 x1 h1 p1 v rv =>
  ⟨dσ, μ1, G1, s.mono x1, h1, (d7.bind p1).mono fun y μ2 G2 H2 x2 h2 p2 u ru => ⟨x, y, μ2, G2, rv.mono x2, ru, h2, (d7.bind p2).mono fun z μ3 G3 H3 x3 h3 p3 w rw' => by
   obtain ⟨k, rfl, p4⟩ := cB7 p3
   refine ⟨k, cA6 rw', ?_⟩
   cases k with
   | true => exact ⟨dσ, μ3, G3, s.mono (x1.trans (x2.trans x3)), h3, (d7.bind p4).mono fun t μ4 G4 H4 x4 h4 p5 q rq => ⟨y, t, μ4, G4, ru.mono (x3.trans x4), rq, h4, p5⟩⟩
   | false => exact d7.ok p4 h3 _ ofB⟩⟩⟩
theorem dt_chain {op op' : CmpOp} {o o' : D → D → M D} (ho : OpD X Z (compareOp op) o) (ho' : OpD X Z (compareOp op') o') (ha : DE X Z a fa) (hb : DE X Z b fb) (hc : DE X Z c fc)
 (hm : lastMarks [op, op'] [b, c] = false) : DT X Z (.Compare a [op, op'] [b, c] pos) (G5 (aX8 o o' fa fb fc)) :=
 DT.of (cJ7 ho.h ho'.h ha.h hb.h hc.h hm) fun σ H Q hE0 => hE0.elim fun dσ μ G s h p => bR9 σ H _ ⟨dσ, μ, G, s, h, (d7.bind p).mono fun x μ1 G1 H1 x' h1 p1 v rv => by
  cases x with
  | bl k' => unfold d8 at rv; exact ⟨k', rv, d7.ok p1 h1⟩
  | _ => exact p1.elim⟩
end
section
variable {X : Cx} {Z : XC} {pos : Pos}
end
end DL
namespace W
open PySem PySem.Spec L2 DL
open PyProof.Rows hiding St
end W
namespace DL
open PySem PySem.Spec L2
open PyProof.Rows hiding St
section
variable {X : Cx} {Z : XC} {o e : Expr} {es : List Expr} {fo : Fe} {fs : DSt → M (List D)} {name : Str} {id : String} {mm : D → List D → M D} {apos cpos : Pos}
end
section
variable {X : Cx} {Z : XC} {a b e : Expr} {fa fb : Fe} {pos : Pos}
end
section
variable {X : Cx} {Z : XC} {μ : List Addr} {H : Hp} {G : DH}
end
section
variable {X : Cx} {Z : XC}
end
end DL
namespace W
open PySem PySem.Spec L2 DL
open PyProof.Rows hiding St
end W
namespace DL
open PySem PySem.Spec L2
open PyProof.Rows hiding St
section
variable {prog : Program} {w : World} {A : Around} {E : VSP} {s : Shared} {j t : Addr} {k : Nat} {ys : Array Value}
end
section
variable {X : Cx} {Z : XC}
end
end DL
namespace W
open PySem PySem.Spec L2 DL
open PyProof.Rows hiding St
end W
namespace DL
open PySem PySem.Spec L2
open PyProof.Rows hiding St
theorem c7 {α : Type} {m : M α} {a : α} {G G' : DH} {Q : α → DH → Prop} (e : m G = some (.ok a, G')) (q : Q a G') : Wp m G Q := ⟨a, G', e, q⟩
noncomputable def PB (Q : DPP) : Fl → DH → Prop
 | .nx _, G => Q .non G
 | .rt d, G => Q d G
 | _, _ => False
section
variable {m : Nat} {f S g : Fs} {ds as : List D} {d : D} {G G' : DH} {Q : DPP} {P A : Fl → DH → Prop} {σ σ' : DSt} {F : List D → M D} {e : Fe}
theorem o6 (w : Wp (f (ds.map some ++ List.replicate (m - ds.length) none)) G (PB Q)) : Wp (v9 m f ds) G Q :=
 cV2.mpr (w.mono fun fl G1 h => match fl, h with
  | .nx _, h => h
  | .rt _, h => h
  | .bk _, h => h.elim
  | .ct _, h => h.elim)
theorem G9 (q : Q d G) : PB Q (.rt d) G := q
theorem bJ1 (e : f (ds.map some ++ List.replicate (m - ds.length) none) G = some (.ok (.rt d), G')) (q : Q d G') : Wp (v9 m f ds) G Q := o6 (c7 e q)
theorem v7 (e : S σ G = some (.ok (.nx σ'), G')) (w : Wp (g σ') G' P) : Wp (seqS S g σ) G P := j5.mpr (c7 e w)
end
section
variable {α : Type} {m n : Nat} {f g : Fs} {a b c : Fe} {t : DSt → M Bool} {fs : DSt → M (List D)} {as : List D} {d x y z : D} {k : Bool} {G G1 G2 : DH} {Q : DPP} {P : Fl → DH → Prop} {R : List D → DH → Prop} {B : Bool → DH → Prop} {σ : DSt} {F : List D → M D} {o : D → D → M D}
theorem Q0 (w : Wp (t σ) G fun k G1 => (k = true → Wp (f σ) G1 P) ∧ (k = false → Wp (g σ) G1 P)) : Wp (ifS t f g σ) G P :=
 dK9.mpr (w.mono fun k G1 h => by cases k with | true => exact h.1 rfl | false => exact h.2 rfl)
theorem bO8 {u : DSt → M Bool} (w : Wp (t σ) G fun k G1 => (k = true → Wp (u σ) G1 B) ∧ (k = false → B false G1)) : Wp (bI4 t u σ) G B :=
 cO8.mpr (w.mono fun k G1 h => by cases k with | true => exact h.1 rfl | false => exact h.2 rfl)
theorem dO6 {u : DSt → M Bool} (w : Wp (t σ) G fun k G1 => (k = true → B true G1) ∧ (k = false → Wp (u σ) G1 B)) : Wp (orT t u σ) G B :=
 dF1.mpr (w.mono fun k G1 h => by cases k with | true => exact h.1 rfl | false => exact h.2 rfl)
theorem aP2 {i : Nat} {S : DSt → Prop} {R : DPP} (hS : S (σ.set i (some d))) (w : Wp (a (σ.set i (some d))) G R) : Wp (q13 i d σ) G fun σ1 G1 => G1 = G ∧ S σ1 ∧ Wp (V1 σ1) G fun b G2 => b = true ∧ G2 = G ∧ Wp (a σ1) G R :=
 U3.mpr ⟨rfl, hS, W.wp_trueT.mpr ⟨rfl, rfl, w⟩⟩
theorem aZ3 {g : Fg} {caps : List (Option Nat)} {j : Int} (e : fs σ G = some (.ok [.int j], G1)) (h0 : 0 ≤ j) (h1 : j ≤ 10000) (w : Wp (K9 g t a (fun _ => true) (u6 0 j.toNat) (X4 caps σ)) G1 fun ys G2 => Q (.ref G2.length) (G2 ++ [.lst ys])) : Wp (R9 (R7 fs) caps g t a σ) G Q := by
 refine W.wp_comp.mpr (W.rng1.mpr (c7 e ((W.rng1_int ⟨by lia, by lia⟩).mpr ⟨?_, w⟩)))
 show (u6 0 j.toNat).length ≤ sizeLine
 unfold u6; rw [List.length_map, List.length_range]
 exact Nat.le_trans (by lia) (show 10000 ≤ sizeLine by decide)
theorem aH4 {g : Fg} {caps : List (Option Nat)} {l : List D} (e : b σ G = some (.ok (.tup l), G1)) (h : l.length ≤ 10000) (w : Wp (K9 g t a (fun _ => true) l (X4 caps σ)) G1 fun ys G2 => Q (.ref G2.length) (G2 ++ [.lst ys])) : Wp (R9 (itW b) caps g t a σ) G Q :=
 W.wp_comp.mpr (W.wp_itW.mpr (c7 e (W.srcW_tup.mpr ⟨Nat.le_trans h (show 10000 ≤ sizeLine by decide), w⟩)))
theorem bT8 {A : Fl → DH → Prop} (w : Wp (t σ) G fun k G1 => (k = true → Wp (f σ) G1 A) ∧ (k = false → Wp (g σ) G1 A)) (k : ∀ fl G1, A fl G1 → P fl G1) : Wp (ifS t f g σ) G P := (Q0 w).mono k
theorem K5 {i : Nat} (w : Wp (a σ) G fun d G1 => P (.nx (σ.set i (some d))) G1) : Wp (J0 a (q13 i) σ) G P := aX0.mpr (w.mono fun _ _ h => U3.mpr h)
theorem t7 (w : Wp (a σ) G fun d G1 => P (.rt d) G1) : Wp (retS a σ) G P := dA8.mpr w
theorem j8 (e : fs σ G = some (.ok as, G1)) (h : as.length = n) (w : Wp (F as) G1 Q) : Wp (q12 (fnX n F) fs σ) G Q := bJ9.mpr (c7 e (aB1.mpr ⟨h, w⟩))
theorem aI2 (e : fs σ G = some (.ok as, G1)) (w : Wp (F as) G1 Q) : Wp (q12 F fs σ) G Q := bJ9.mpr (c7 e w)
theorem R6 (w : Wp (fs σ) G fun as G1 => Wp (F as) G1 Q) : Wp (q12 F fs σ) G Q := bJ9.mpr w
theorem aW4 (ea : a σ G = some (.ok x, G1)) (eb : b σ G1 = some (.ok y, G2)) (w : Wp (o x y) G2 Q) : Wp (binE o a b σ) G Q := cH7.mpr (c7 ea (c7 eb w))
theorem bin_w (w : Wp (a σ) G fun x G1 => Wp (b σ) G1 fun y G2 => Wp (o x y) G2 Q) : Wp (binE o a b σ) G Q := cH7.mpr w
theorem J8 (e : a σ G = some (.ok x, G1)) (w : Wp (fs σ) G1 fun xs G2 => R (x :: xs) G2) : Wp (q10 a fs σ) G R := bY6.mpr (c7 e w)
theorem m8 (w : Wp (a σ) G fun x G1 => Wp (fs σ) G1 fun xs G2 => R (x :: xs) G2) : Wp (q10 a fs σ) G R := bY6.mpr w
theorem J4 (w : Wp (a σ) G fun x G1 => ∃ k, x = .bl k ∧ B k G1) : Wp (G5 a σ) G B := cV9.mpr w
end
def FH (K : PySem.W.Frag) (x : Str) (st : Stmt) : Prop := ∃ (f : Addr) (od an : Option Addr) (sl : Array (Option Value)) (oc kV dc pm cd ct : Value), PySem.W.nsIn K mainGlobals x = some (some (.ref f)) ∧
 K.lookup f = some ⟨oc, od, .func (PySem.W.fnOf x x (R1 st) (M7 st) (g8 st) .none kV dc pm an cd ct), sl⟩ ∧ PySem.W.codeIn K cd x = true ∧ PySem.W.keepIn K (.ref f) = true
section
variable {K : PySem.W.Frag} {h : Heap} {mg : Str → Option Value} {x : Str} {st : Stmt}
theorem FH.of {f : Addr} {od an : Option Addr} {sl : Array (Option Value)} {oc kV dc pm cd ct : Value} (a : PySem.W.nsIn K mainGlobals x = some (some (.ref f)))
 (l : K.lookup f = some ⟨oc, od, .func (PySem.W.fnOf x x (R1 st) (M7 st) (g8 st) .none kV dc pm an cd ct), sl⟩) (e : PySem.W.codeIn K cd x = true) (k : PySem.W.keepIn K (.ref f) = true) : FH K x st :=
 ⟨f, od, an, sl, oc, kV, dc, pm, cd, ct, a, l, e, k⟩
variable {ps : List Str} {p1 p2 p3 p4 p5 p6 : Str}
theorem FH.ff (H : FH K x st) (X : K.In h) (G : h.Ns mainGlobals mg) (b : ∀ (kV doc pm : Value) (an : Option Addr) (cdv ct : Value) (us : List Value), us.length = ps.length → bindArgs (PySem.W.fnOf x x (R1 st) (M7 st) (g8 st) .none kV doc pm an cdv ct) ⟨us, []⟩ = pure (ps.zip us)) : ∃ f fd, FF K mg x st ps f fd := by
 obtain ⟨f, od, an, sl, oc, kV, dc, pm, cd, ct, a, l, e, k⟩ := H
 exact ⟨_, _, bI5 l e k, (bI5 l e k).binds b, PySem.W.mg_of X G a⟩
theorem aB2 {α : Type} {us : List α} {n : Nat} (h : us.length = n + 1) : ∃ a t, us = a :: t ∧ t.length = n := by
 rcases us with _ | ⟨a, t⟩
 · cases h
 · exact ⟨a, t, rfl, Nat.succ.inj h⟩
theorem FH.ff1 (H : FH K x st) (X : K.In h) (G : h.Ns mainGlobals mg) (b : ∀ kV doc pm an cdv ct v1, bindArgs (PySem.W.fnOf x x (R1 st) (M7 st) (g8 st) .none kV doc pm an cdv ct) ⟨[v1], []⟩ = pure [(p1, v1)]) : ∃ f fd, FF K mg x st [p1] f fd :=
 H.ff X G fun kV doc pm an cdv ct us h0 => by
  obtain ⟨v1, w1, rfl, h1⟩ := aB2 h0
  cases List.eq_nil_of_length_eq_zero h1
  exact b _ _ _ _ _ _ _
theorem FH.ff2 (H : FH K x st) (X : K.In h) (G : h.Ns mainGlobals mg) (b : ∀ kV doc pm an cdv ct v1 v2, bindArgs (PySem.W.fnOf x x (R1 st) (M7 st) (g8 st) .none kV doc pm an cdv ct) ⟨[v1, v2], []⟩ = pure [(p1, v1), (p2, v2)]) : ∃ f fd, FF K mg x st [p1, p2] f fd :=
 H.ff X G fun kV doc pm an cdv ct us h0 => by
  obtain ⟨v1, w1, rfl, h1⟩ := aB2 h0
  obtain ⟨v2, w2, rfl, h2⟩ := aB2 h1
  cases List.eq_nil_of_length_eq_zero h2
  exact b _ _ _ _ _ _ _ _
theorem FH.ff3 (H : FH K x st) (X : K.In h) (G : h.Ns mainGlobals mg) (b : ∀ kV doc pm an cdv ct v1 v2 v3, bindArgs (PySem.W.fnOf x x (R1 st) (M7 st) (g8 st) .none kV doc pm an cdv ct) ⟨[v1, v2, v3], []⟩ = pure [(p1, v1), (p2, v2), (p3, v3)]) : ∃ f fd, FF K mg x st [p1, p2, p3] f fd :=
 H.ff X G fun kV doc pm an cdv ct us h0 => by
  obtain ⟨v1, w1, rfl, h1⟩ := aB2 h0
  obtain ⟨v2, w2, rfl, h2⟩ := aB2 h1
  obtain ⟨v3, w3, rfl, h3⟩ := aB2 h2
  cases List.eq_nil_of_length_eq_zero h3
  exact b _ _ _ _ _ _ _ _ _
theorem FH.ff4 (H : FH K x st) (X : K.In h) (G : h.Ns mainGlobals mg) (b : ∀ kV doc pm an cdv ct v1 v2 v3 v4, bindArgs (PySem.W.fnOf x x (R1 st) (M7 st) (g8 st) .none kV doc pm an cdv ct) ⟨[v1, v2, v3, v4], []⟩ = pure [(p1, v1), (p2, v2), (p3, v3), (p4, v4)]) : ∃ f fd, FF K mg x st [p1, p2, p3, p4] f fd :=
 H.ff X G fun kV doc pm an cdv ct us h0 => by
  obtain ⟨v1, w1, rfl, h1⟩ := aB2 h0
  obtain ⟨v2, w2, rfl, h2⟩ := aB2 h1
  obtain ⟨v3, w3, rfl, h3⟩ := aB2 h2
  obtain ⟨v4, w4, rfl, h4⟩ := aB2 h3
  cases List.eq_nil_of_length_eq_zero h4
  exact b _ _ _ _ _ _ _ _ _ _
theorem FH.ff5 (H : FH K x st) (X : K.In h) (G : h.Ns mainGlobals mg) (b : ∀ kV doc pm an cdv ct v1 v2 v3 v4 v5, bindArgs (PySem.W.fnOf x x (R1 st) (M7 st) (g8 st) .none kV doc pm an cdv ct) ⟨[v1, v2, v3, v4, v5], []⟩ = pure [(p1, v1), (p2, v2), (p3, v3), (p4, v4), (p5, v5)]) : ∃ f fd, FF K mg x st [p1, p2, p3, p4, p5] f fd :=
 H.ff X G fun kV doc pm an cdv ct us h0 => by
  obtain ⟨v1, w1, rfl, h1⟩ := aB2 h0
  obtain ⟨v2, w2, rfl, h2⟩ := aB2 h1
  obtain ⟨v3, w3, rfl, h3⟩ := aB2 h2
  obtain ⟨v4, w4, rfl, h4⟩ := aB2 h3
  obtain ⟨v5, w5, rfl, h5⟩ := aB2 h4
  cases List.eq_nil_of_length_eq_zero h5
  exact b _ _ _ _ _ _ _ _ _ _ _
theorem BLs.of (X : K.In h) (G : h.Ns mainGlobals mg) (z : ∀ b ∈ bltL, PySem.W.nsIn K mainGlobals b = some none) : BLs mg := ⟨fun b hb => PySem.W.mg_none_of X G (z b hb)⟩
end
noncomputable abbrev cY8 (h : Heap) (z TI TO : Addr) (f0 : Value) (b : Bool) : Prop :=
 h.get? z = some { cls := .type "zip", dict := none, data := .fields #[f0, .bool b, .bool false, .ref TI, .ref TO], slots := #[] }
section
variable {prog : Program} {w : World} {A : Around} {E : VSP} {s : Shared} {k1 k2 : Bool} {i : Nat} {z TI TO i1 i2 l1 l2 T : Addr} {xs ys : Array Value} {b : Bool}
structure ZSt (k1 k2 : Bool) (z TI TO i1 i2 l1 l2 : Addr) (xs ys : Array Value) (n0 i : Nat) (h : Heap) : Prop where
 hz : (IsZip h z TI TO .none ∧ ∃ a b, IsPair h TO a b) ∨ ∃ T b, cY8 h z TI TO (rawInt ((n0 + T : Nat) : Int)) b ∧ T < i
 hTI : IsPair h TI (.ref i1) (.ref i2)
 h1 : SI k1 h i1 l1 i
 h2 : SI k2 h i2 l2 i
 c1 : SC k1 h l1 xs
 c2 : SC k2 h l2 ys
end
section
variable {H : Hp} {n0 : Nat} {ws : List (V × V)}
end
section
variable {X : Cx} {Z : XC} {a b : Expr} {fs : DSt → M (List D)} {p1 p2 pos1 pos2 : Pos}
end
end DL
namespace TS
open PySem PyProof.Rows
section
variable {prog : Program} {w : World} {A : Around} {E : VSP} {s : Shared}
noncomputable def kz (p : Keyed) : Int := numOf p.1
noncomputable def isI (p : Keyed) : Prop := ∃ n t, p.1 = .int n t
end
def leK (x y : Keyed) : Prop := kz x ≤ kz y
def Srt (l : List Keyed) : Prop := l.Pairwise leK
theorem Srt.app {a b : List Keyed} (ha : Srt a) (hb : Srt b) (h : ∀ x ∈ a, ∀ y ∈ b, leK x y) : Srt (a ++ b) := List.pairwise_append.mpr ⟨ha, hb, h⟩
theorem Srt.left {a b : List Keyed} (h : Srt (a ++ b)) : Srt a := (List.pairwise_append.mp h).1
theorem Srt.right {a b : List Keyed} (h : Srt (a ++ b)) : Srt b := (List.pairwise_append.mp h).2.1
theorem Srt.mid {a b : List Keyed} (h : Srt (a ++ b)) : ∀ x ∈ a, ∀ y ∈ b, leK x y := (List.pairwise_append.mp h).2.2
structure MI (L out A B : List Keyed) : Prop where
 perm : (out ++ (A ++ B)).Perm L
 so : Srt out
 oa : ∀ x ∈ out, ∀ y ∈ A, leK x y
 ob : ∀ x ∈ out, ∀ y ∈ B, leK x y
 sa : Srt A
 sb : Srt B
theorem MI.bk {L out C A B : List Keyed} (h : MI L out A (C ++ B)) (k : ∀ c ∈ C, ∀ x ∈ A, leK c x) : MI L (out ++ C) A B where
 perm := by
  refine List.Perm.trans ?_ h.perm
  rw [List.append_assoc]
  refine List.Perm.append_left _ ?_
  rw [← List.append_assoc, ← List.append_assoc]
  exact List.Perm.append_right _ List.perm_append_comm
 so := h.so.app h.sb.left fun x hx y hy => h.ob x hx y (by simp [hy])
 oa := fun x hx y hy => by
  rcases List.mem_append.mp hx with hx | hx
  · exact h.oa x hx y hy
  · exact k x hx y hy
 ob := fun x hx y hy => by
  rcases List.mem_append.mp hx with hx | hx
  · exact h.ob x hx y (by simp [hy])
  · exact h.sb.mid x hx y hy
 sa := h.sa
 sb := h.sb.right
structure MJ (L A B S : List Keyed) : Prop where
 perm : (A ++ (B ++ S)).Perm L
 ss : Srt S
 as : ∀ x ∈ A, ∀ y ∈ S, leK x y
 bs : ∀ x ∈ B, ∀ y ∈ S, leK x y
 sa : Srt A
 sb : Srt B
theorem MJ.bk {L A B C S : List Keyed} (h : MJ L A (B ++ C) S) (k : ∀ a ∈ A, ∀ c ∈ C, leK a c) : MJ L A B (C ++ S) where
 perm := by have := h.perm; simp only [List.append_assoc] at this ⊢; exact this
 ss := h.sb.right.app h.ss fun x hx y hy => h.bs x (by simp [hx]) y hy
 as := fun x hx y hy => by
  rcases List.mem_append.mp hy with hy | hy
  · exact k x hx y hy
  · exact h.as x hx y hy
 bs := fun x hx y hy => by
  rcases List.mem_append.mp hy with hy | hy
  · exact h.sb.mid x hx y hy
  · exact h.bs x (by simp [hx]) y hy
 sa := h.sa
 sb := h.sb.left
def bF4 (a : Array Keyed) : Prop := ∀ p ∈ a.toList, isI p
theorem bF4.at {a : Array Keyed} (h : bF4 a) {i : Nat} {p : Keyed} (e : a[i]? = some p) : isI p := h p (by
 rw [← Array.getElem?_toList] at e
 exact List.mem_of_getElem? e)
theorem bF4.get {a : Array Keyed} (h : bF4 a) {i : Nat} (hi : i < a.size) : ∃ p, a[i]? = some p ∧ isI p := ⟨_, Array.getElem?_eq_getElem hi, h.at (Array.getElem?_eq_getElem hi)⟩
noncomputable def Same (st st' : SortSt) : Prop := kindOf st' = kindOf st ∧ arrOf st' = arrOf st ∧ pendingOf st' = pendingOf st ∧ failedOf st' = failedOf st
theorem Same.refl {st : SortSt} : Same st st := ⟨rfl, rfl, rfl, rfl⟩
theorem Same.trans {a b c : SortSt} (h : Same a b) (k : Same b c) : Same a c := ⟨k.1.trans h.1, k.2.1.trans h.2.1, k.2.2.1.trans h.2.2.1, k.2.2.2.trans h.2.2.2⟩
structure LI (a b : Array Keyed) (out : Array Keyed) (ia ib : Nat) : Prop where
 mi : MI (a.toList ++ b.toList) out.toList (a.toList.drop ia) (b.toList.drop ib)
 ha : ia + 1 < a.size
 hb : ib < b.size
 sz : out.size = ia + ib
section
variable {a b out : Array Keyed} {ia ib : Nat}
end
section
variable {prog : Program} {w : World} {A : Around} {E : VSP} {s : Shared}
end
section
variable {prog : Program} {w : World} {A : Around} {E : VSP} {s : Shared}
end
structure HI (a b : Array Keyed) (out : Array Keyed) (na nb : Nat) : Prop where
 mj : MJ (a.toList ++ b.toList) (a.toList.take na) (b.toList.take nb) out.toList.reverse
 ha : 0 < na
 hb : 1 < nb
 la : na ≤ a.size
 lb : nb ≤ b.size
 sz : out.size + na + nb = a.size + b.size
section
variable {a b out : Array Keyed} {na nb : Nat}
end
section
variable {prog : Program} {w : World} {A : Around} {E : VSP} {s : Shared}
end
section
variable {prog : Program} {w : World} {A : Around} {E : VSP} {s : Shared}
structure Aft (st st' : SortSt) (l : List Keyed) (p : Array (Nat × Nat × Nat)) : Prop where
 kind : kindOf st' = oneType'
 arr : (arrOf st').toList = l
 pend : pendingOf st' = p
 fail : failedOf st' = none
end
def ND (a : Array Keyed) : Prop := (a.toList.map kz).Nodup
theorem cT0 {a : Array Keyed} {i : Nat} {p : Keyed} (e : a[i]? = some p) : K a i = kz p := by unfold K; rw [e]; rfl
theorem ND.ne {a : Array Keyed} (h : ND a) {i j : Nat} (hi : i < a.size) (hj : j < a.size) (ne : i ≠ j) : K a i ≠ K a j := by
 rw [cT0 (Array.getElem?_eq_getElem hi), cT0 (Array.getElem?_eq_getElem hj)]
 intro e
 have := List.getElem_inj (i := i) (j := j) (h₀ := by simpa using hi) (h₁ := by simpa using hj) h
 simp only [List.getElem_map, Array.getElem_toList] at this
 exact ne (this.mp e)
theorem bF4.perm {a b : Array Keyed} (h : bF4 a) (p : b.Perm a) : bF4 b := fun x hx => h x ((Array.perm_iff_toList_perm.mp p).mem_iff.mp hx)
theorem ND.perm {a b : Array Keyed} (h : ND a) (p : b.Perm a) : ND b := ((Array.perm_iff_toList_perm.mp p).map kz).nodup_iff.mpr h
noncomputable def Asc (a : Array Keyed) (lo m : Nat) : Prop := ∀ i, i + 1 < m → K a (lo + i) < K a (lo + i + 1)
theorem Asc.lt {a : Array Keyed} {lo m : Nat} (h : Asc a lo m) : ∀ {j i : Nat}, i < j → j < m → K a (lo + i) < K a (lo + j)
 | 0, i, hij, _ => by lia
 | j + 1, i, hij, hj => by
   have h1 := h j hj
   by_cases e : i = j
   · subst e; exact h1
   · exact Int.lt_trans (h.lt (show i < j by lia) (by lia)) h1
theorem Asc.snoc {a : Array Keyed} {lo m : Nat} (h : Asc a lo m) (k : K a (lo + m - 1) < K a (lo + m)) (hm : 1 ≤ m) : Asc a lo (m + 1) := fun i hi => by
 by_cases e : i + 1 < m
 · exact h i e
 · have : i = m - 1 := by lia
   subst this
   rw [show lo + (m - 1) = lo + m - 1 by lia, show lo + m - 1 + 1 = lo + m by lia]
   exact k
structure Run (lo : Nat) (st st' : SortSt) : Prop where
 kind : kindOf st' = oneType'
 pend : pendingOf st' = pendingOf st
 fail : failedOf st' = none
 perm : (arrOf st').Perm (arrOf st)
 low : ∀ i, i < lo → (arrOf st')[i]? = (arrOf st)[i]?
theorem Run.refl {lo : Nat} {st : SortSt} (hk : kindOf st = oneType') (hf : failedOf st = none) : Run lo st st := ⟨hk, rfl, hf, .refl _, fun _ _ => rfl⟩
theorem Run.size {lo : Nat} {st st' : SortSt} (h : Run lo st st') : (arrOf st').size = (arrOf st).size := h.perm.size_eq
section
variable {prog : Program} {w : World} {A : Around} {E : VSP} {s : Shared}
theorem lt_at {st : SortSt} {i j : Nat} {Q : Option Bool → SortSt → Prop} (hk : kindOf st = oneType') (ha : bF4 (arrOf st)) (hi : i < (arrOf st).size) (hj : j < (arrOf st).size) (h : Q (some (decide (K (arrOf st) i < K (arrOf st) j))) st) : wpS (model prog w) A E s (ltAt' i j) Q st := by
 obtain ⟨p, e1, n, t, hp⟩ := ha.get hi
 obtain ⟨q, e2, m, u, hq⟩ := ha.get hj
 obtain ⟨p1, p2⟩ := p
 obtain ⟨q1, q2⟩ := q
 cases hp
 cases hq
 rw [cT0 e1, cT0 e2] at h
 exact wpS_ltAt hk e1 e2 h
end
theorem Run.trans {lo : Nat} {a b c : SortSt} (h : Run lo a b) (k : Run lo b c) : Run lo a c := ⟨k.kind, k.pend.trans h.pend, k.fail, k.perm.trans h.perm, fun i hi => (k.low i hi).trans (h.low i hi)⟩
theorem cV0 {a : Array Keyed} {lo k l : Nat} (nd : ND a) (hs : lo + k < a.size) (h : Asc a lo k) (hl : l ≤ k) (h1 : ∀ i, i < l → K a (lo + i) ≤ K a (lo + k)) (h2 : ∀ i, l ≤ i → i < k → K a (lo + k) < K a (lo + i)) : Asc (bubble a (lo + k) (lo + k - (lo + l))) lo (k + 1) := by
 have hd : lo + k - (lo + l) = k - l := by lia
 rw [hd]
 have hK := fun j => K_bubble (xs := a) (src := lo + k) (d := k - l) hs (by lia) j
 intro i hi
 rw [hK, hK]
 have e : lo + k - (k - l) = lo + l := by lia
 rw [e]
 by_cases c1 : lo + i = lo + l
 · rw [if_pos c1, if_neg (by lia), if_pos (by lia)]
   have : i = l := by lia
   subst this
   rw [show lo + i + 1 - 1 = lo + i by lia]
   exact h2 i (Nat.le_refl _) (by lia)
 · rw [if_neg c1]
   by_cases c2 : lo + i + 1 = lo + l
   · rw [if_pos c2, if_neg (by lia)]
     have := h1 i (by lia)
     have := nd.ne (i := lo + i) (j := lo + k) (by lia) (by lia) (by lia)
     lia
   · rw [if_neg c2]
     by_cases c3 : lo + l < lo + i ∧ lo + i ≤ lo + k
     · rw [if_pos c3, if_pos (by lia)]
       have := h (i - 1) (by lia)
       rw [show lo + (i - 1) = lo + i - 1 by lia, show lo + i - 1 + 1 = lo + i by lia] at this
       rw [show lo + i + 1 - 1 = lo + i by lia]
       exact this
     · rw [if_neg c3, if_neg (by lia)]
       exact h i (by lia)
section
variable {prog : Program} {w : World} {A : Around} {E : VSP} {s : Shared}
theorem bin_w {st : SortSt} {lo n ok : Nat} {Q : Bool → SortSt → Prop} (hk : kindOf st = oneType') (hf : failedOf st = none) (ha : bF4 (arrOf st)) (nd : ND (arrOf st)) (h1 : 1 ≤ ok) (hn : ok ≤ n) (hs : lo + n ≤ (arrOf st).size) (h0 : Asc (arrOf st) lo ok)
 (h : ∀ st', Run lo st st' → Asc (arrOf st') lo n → Q true st') : wpS (model prog w) A E s (binarySort' lo n ok) Q st := by
 unfold binarySort'
 refine wpS_bind (wpS_mono (wpS_forRange (I := fun k c st' => c = (none, ()) ∧ Run lo st st' ∧ ok ≤ k ∧ k ≤ n ∧ Asc (arrOf st') lo k) (Q := fun c st' => c = (none, ()) ∧ Run lo st st' ∧ Asc (arrOf st') lo n) ?_ ?_ ⟨rfl, .refl hk hf, by lia, by lia, by rw [Nat.max_eq_left h1]; exact h0⟩) ?_)
 · rintro k c st1 _ hx ⟨rfl, hR, g1, g2, g3⟩
   dsimp only
   have hz := hR.size
   have ha1 := ha.perm hR.perm
   have nd1 := nd.perm hR.perm
   refine wpS_bind (wpS_mono (wpS_forRange (I := fun x c st' => st' = st1 ∧ ∃ l r, c = (none, l, r) ∧ l ≤ r ∧ r ≤ k ∧ r - l + x ≤ k ∧ (∀ i, i < l → K (arrOf st1) (lo + i) ≤ K (arrOf st1) (lo + k)) ∧ ∀ i, r ≤ i → i < k → K (arrOf st1) (lo + k) < K (arrOf st1) (lo + i)) (Q := fun c st' => st' = st1 ∧ ∃ l, c = (none, l, l) ∧ l ≤ k ∧ (∀ i, i < l → K (arrOf st1) (lo + i) ≤ K (arrOf st1) (lo + k)) ∧ ∀ i, l ≤ i → i < k → K (arrOf st1) (lo + k) < K (arrOf st1) (lo + i)) ?_ ?_ ⟨rfl, 0, k, rfl, by lia, by lia, by lia, fun i hi => by lia, fun i a b => by lia⟩) ?_)
   · rintro x c st2 _ hx2 ⟨rfl, l, r, rfl, q1, q2, q3, q4, q5⟩
     dsimp only
     by_cases hl : l ≥ r
     · rw [if_pos hl]
       have : l = r := by lia
       subst this
       exact wpS_pure ⟨rfl, l, rfl, q2, q4, q5⟩
     · rw [if_neg hl]
       refine wpS_bind (lt_at hR.kind ha1 (by lia) (by lia) ?_)
       dsimp only
       have hm1 : l ≤ (l + r) / 2 := by lia
       have hm2 : (l + r) / 2 < r := by lia
       generalize (l + r) / 2 = m at hm1 hm2
       by_cases hlt : K (arrOf st2) (lo + k) < K (arrOf st2) (lo + m)
       · rw [if_pos (decide_eq_true hlt)]
         refine wpS_pure ⟨rfl, l, m, rfl, by lia, by lia, by lia, q4, fun i a b => ?_⟩
         by_cases e : i = m
         · subst e; exact hlt
         · exact Int.lt_trans hlt (g3.lt (show m < i by lia) b)
       · rw [if_neg (by simpa using hlt)]
         refine wpS_pure ⟨rfl, m + 1, r, rfl, by lia, by lia, by lia, fun i a => ?_, q5⟩
         by_cases e : i = m
         · subst e; lia
         · have := g3.lt (show i < m by lia) (by lia)
           lia
   · rintro c st2 ⟨rfl, l, r, rfl, q1, q2, q3, q4, q5⟩
     have : l = r := by rw [Nat.zero_max] at q3; lia
     subst this
     exact ⟨rfl, l, rfl, q2, q4, q5⟩
   · rintro c st2 ⟨rfl, l, rfl, q2, q4, q5⟩
     dsimp only
     refine wpS_bind ?_
     show wpS _ _ _ _ (moveDown' (lo + k) (lo + l)) _ _
     rw [moveDown'_eq]
     refine wpS_modify (wpS_pure ⟨rfl, hR.trans ⟨hR.kind, rfl, hR.fail, bubble_perm _ _ _, fun i hi => ?_⟩, by lia, by lia, cV0 nd1 (by lia) g3 q2 q4 q5⟩)
     show (bubble (arrOf st2) (lo + k) (lo + k - (lo + l)))[i]? = _
     rw [getElem?_bubble (by lia) _ (by lia), if_neg (by lia), if_neg (by lia)]
 · rintro c st1 ⟨rfl, hR, g1, g2, g3⟩
   rw [Nat.max_eq_right (by lia)] at g3
   exact ⟨rfl, hR, g3⟩
 · rintro c st1 ⟨rfl, hR, g3⟩
   exact wpS_pure (h st1 hR g3)
end
noncomputable def lay : Nat → List (List Keyed) → List Nat → List (Nat × Nat × Nat)
 | o, r :: rs, p :: ps => (o, r.length, p) :: lay (o + r.length) rs ps
 | _, _, _ => []
theorem bZ1 : ∀ {rs1 : List (List Keyed)} {ps1 : List Nat} {rs2 : List (List Keyed)} {ps2 : List Nat} {o : Nat}, rs1.length = ps1.length → lay o (rs1 ++ rs2) (ps1 ++ ps2) = lay o rs1 ps1 ++ lay (o + rs1.flatten.length) rs2 ps2
 | [], [], _, _, o, _ => by simp [lay]
 | [], _ :: _, _, _, _, h => by cases h
 | _ :: _, [], _, _, _, h => by cases h
 | r :: rs1, p :: ps1, rs2, ps2, o, h => by
   show (o, r.length, p) :: lay (o + r.length) (rs1 ++ rs2) (ps1 ++ ps2) = (o, r.length, p) :: (lay (o + r.length) rs1 ps1 ++ _)
   rw [bZ1 (Nat.succ.inj h), List.flatten_cons, List.length_append, Nat.add_assoc]
structure GI (a0 : List Keyed) (st : SortSt) (rs : List (List Keyed)) (ps : List Nat) (T : List Keyed) : Prop where
 kind : kindOf st = oneType'
 fail : failedOf st = none
 arr : (arrOf st).toList = rs.flatten ++ T
 perm : (arrOf st).toList.Perm a0
 len : rs.length = ps.length
 pend : pendingOf st = (lay 0 rs ps).toArray
 ok : ∀ r ∈ rs, 0 < r.length ∧ Srt r
section
variable {prog : Program} {w : World} {A : Around} {E : VSP} {s : Shared}
end
theorem GI.push {a0 : List Keyed} {st : SortSt} {rs : List (List Keyed)} {ps : List Nat} {C T : List Keyed} {lo n : Nat} (g : GI a0 st rs ps (C ++ T)) (hC : 0 < C.length) (sC : Srt C) (e : rs.flatten.length = lo) (en : C.length = n) : GI a0 (setPending st ((pendingOf st).push (lo, n, 0))) (rs ++ [C]) (ps ++ [0]) T := by
 refine ⟨g.kind, g.fail, ?_, g.perm, by rw [List.length_append, List.length_append, g.len]; rfl, ?_, fun r hr => ?_⟩
 · show (arrOf st).toList = _
   rw [g.arr]; simp
 · show (pendingOf st).push (lo, n, 0) = _
   rw [g.pend, bZ1 g.len, List.push_toArray, Nat.zero_add, e]
   subst en
   rfl
 · rcases List.mem_append.mp hr with hr | hr
   · exact g.ok r hr
   · rw [List.mem_singleton.mp hr]; exact ⟨hC, sC⟩
section
variable {prog : Program} {w : World} {A : Around} {E : VSP} {s : Shared}
end
section
variable {prog : Program} {w : World} {A : Around} {E : VSP} {s : Shared}
end
end TS
namespace DL
open PySem PySem.Spec L2
open PyProof.Rows hiding St
section
variable {prog : Program} {w : World} {A : Around} {E : VSP} {s : Shared} {T : String} {r d : Addr} {n : Nat} {P : Nat → Value → Prop} {OK : Heap → Prop} {Q : VSP}
end
section
variable {X : Cx} {Z : XC} {c : Wc} {μ : List Addr} {H : Hp} {G : DH}
end
section
variable {prog : Program} {w : World} {A : Around} {E : VSP}
end
section
variable {prog : Program} {w : World} {A : Around} {E : VSP}
end
section
variable {X : Cx} {Z : XC} {c : Wc} {μ : List Addr} {H : Hp} {G : DH}
end
section
variable {X : Cx} {Z : XC} {e : Expr} {fe : Fe} {p pn kp pos : Pos} {j : _}
end
def dI7 (l : List Int) : Fe := fun _ => K7 (.dct (l.map fun k => (.inl k, .bl true)))
structure aZ7 (X : Cx) (e : Expr) (k : Int) : Prop where
 h : PE X e (tC (.int k))
section
variable {X : Cx} {Z : XC} {pos : Pos} {e f : Expr} {i j k : Int}
theorem dE1 {m pos} : aZ7 X (.Constant (.int i) m pos) i := ⟨cL2⟩
theorem dC0 (he : aZ7 X e i) (hf : aZ7 X f j) (hc : cD4 i j) (hk : i ^ j.toNat = k) : aZ7 X (.BinOp e .Pow f pos) k := ⟨by
 subst hk
 exact PE.mono (cG7 cJ4 he.h hf.h) fun σ H Q q => ⟨i, j, rfl, rfl, hc, q⟩⟩
theorem dE3 (he : aZ7 X e i) (hf : aZ7 X f j) (hk : i - j = k) : aZ7 X (.BinOp e .Sub f pos) k := ⟨by
 subst hk
 exact PE.mono (cG7 cJ1 he.h hf.h) fun σ H Q q => ⟨i, j, rfl, rfl, q⟩⟩
theorem S5.map_true {c : Wc} {μ : List Addr} {H : Hp} : ∀ (l : List Int), S5 c μ H (l.map fun k => (.inl k, .bl true)) (l.map fun k => ((.inl k : Key), V.bl true))
 | [] => rfl
 | k :: l => ⟨.bl true, _, rfl, by unfold d8; rfl, S5.map_true l⟩
theorem cC7 {e1 e2 e3 : Expr} {k1 k2 k3 : Int} {m1 m2 m3 : Nat} {q1 q2 q3 : Pos} (h1 : aZ7 X e1 k1) (h2 : aZ7 X e2 k2) (h3 : aZ7 X e3 k3) (hm : aQ4 [] ([k1, k2, k3].map fun k => ((.inl k : Key), V.bl true)) = [k1, k2, k3].map fun k => ((.inl k : Key), V.bl true)) :
 DE X Z (.Dict [some e1, some e2, some e3] [.Constant (.bool true) m1 q1, .Constant (.bool true) m2 q2, .Constant (.bool true) m3 q3] pos) (dI7 [k1, k2, k3]) :=
 DE.of (cR3 (aW1 h1.h bZ0 (aW1 h2.h bZ0 (aW1 h3.h bZ0 cR8))) rfl rfl (by simp) (by simp)) fun σ H Q hE0 => hE0.elim fun dσ μ G s h p a ha => by
  refine ⟨v8, [k1, k2, k3].map fun k => ((.inl k : Key), V.bl true), rfl, by simp, ?_⟩
  rw [hm, upd_upd]
  have kx : Ext μ H (μ ++ [a]) (upd H a (.dK ([k1, k2, k3].map fun k => ((.inl k : Key), V.bl true)))) := Ext.add ha _
  refine p (μ ++ [a]) _ kx (h.new ha ⟨_, v8, S5.map_true _⟩) _ ?_
  unfold d8
  exact ⟨a, by rw [← h.len]; simp, rfl⟩
end
end DL
namespace DL
open PySem PySem.W
open PyProof.Rows hiding St
structure WO (lt : Nat → Nat → Bool) : Prop where
 tr : ∀ i j k, lt j i = false → lt k j = false → lt k i = false
 as : ∀ i j, lt i j = true → lt j i = false
section
variable {lt : Nat → Nat → Bool} {n : Nat} {p : Array Nat}
noncomputable def dE8 {α : Type} (lt : Nat → Nat → Bool) : KasT α → α
 | .ret a => a
 | .ask i j k => dE8 lt (k (lt i j))
theorem tOk.run {α : Type} {Q : α → Prop} : ∀ (t : KasT α), tOk lt n t Q → tOk lt n t (fun a => a = dE8 lt t ∧ Q a)
 | .ret a, h => ⟨rfl, h⟩
 | .ask i j k, h => ⟨h.1, h.2.1, tOk.run (k (lt i j)) h.2.2⟩
theorem tOk.is {α : Type} {Q : α → Prop} : ∀ (t : KasT α), tOk lt n t Q → Q (dE8 lt t)
 | .ret a, h => h
 | .ask i j k, h => tOk.is (k (lt i j)) h.2.2
end
end DL
namespace DL
open PySem PySem.Spec L2
open PyProof.Rows hiding St
section
variable {X : Cx} {pins : PNS} {σ : St} {H : Hp} {s : Shared}
end
section
variable {prog : Program} {w : World} {A : Around} {E : VSP} {s : Shared} {C : Bool → Shared → Prop}
end
section
variable {X : Cx} {Z : XC} {pins : PNS} {σ : St} {H : Hp} {s : Shared} {F : List D → M D} {k : Nat} {f : Addr} {fd : FuncData} {ps : List Str} {μ : List Addr} {G : DH}
end
section
variable {X : Cx} {Z : XC} {e : Expr} {fe : Fe} {p pf kp pos : Pos} {x : Str} {F : List D → M D}
end
section
variable {prog : Program} {w : World} {A : Around} {E : VSP} {s : Shared}
end
section
variable {X : Cx} {Z : XC} {es : List Expr} {pos : Pos}
end
section
variable {X : Cx} {Z : XC}
theorem dB0 {x : Str} {p : Pos} (hF : ∃ F n k, b8 F n x X.prog X.w X.K X.mg X.base k) (hg : Gl X x) (hdb : (x == ("__debug__" : Str)) = false) : DE X Z (.Name x p) (cE (.fn x)) := ⟨by
 intro pins s σ H Q I h
 obtain ⟨F, n, k, hF⟩ := hF
 obtain ⟨f, fd, ps, f1, f2, f3, f4⟩ := hF.ex
 obtain ⟨dσ, μ, G, sr, hr, pp⟩ := h
 exact bI7 I hg f2 ⟨.ref f, H, I, rfl, d7.ok pp hr _ ⟨f, f2, rfl⟩⟩ hdb⟩
def aS5 (i n : Nat) (tab : Str → Option (List D → M D)) (fs : DSt → M (List D)) : Fe := fun σ => match σ[i]? with
 | some (some (.fn x)) => match tab x with
   | some F => fs σ >>= fnX n F
   | none => M.stuck
 | _ => M.stuck
theorem cG8 {α : Type} {i n : Nat} {tab : Str → Option (List D → M D)} {fs : DSt → M (List D)} {dσ : DSt} {c : Wc} {μ : List Addr} {H : Hp} {G : DH} {K : D → List Addr → DH → Hp → Prop} (p : d7 c Z μ H (aS5 i n tab fs dσ G) K) :
 ∃ x F, dσ[i]? = some (some (.fn x)) ∧ tab x = some F ∧ d7 c Z μ H ((fs dσ >>= fnX n F) G) K := by
 delta aS5 at p
 rcases hx : dσ[i]? with _ | _ | d
 · rw [hx] at p; exact p.elim
 · rw [hx] at p; exact p.elim
 · rw [hx] at p
   rcases d with _ | _ | _ | _ | _ | _ | x | _ <;> try exact p.elim
   have p : d7 c Z μ H ((match tab x with | some F => fs dσ >>= fnX n F | none => M.stuck : M D) G) K := p
   rcases hF : tab x with _ | F
   · rw [hF] at p; exact p.elim
   · rw [hF] at p; exact ⟨x, F, rfl, hF, p⟩
theorem cI2 {i n : Nat} {tab : Str → Option (List D → M D)} {e : Expr} {es : List Expr} {fs : DSt → M (List D)} {y : Str} {p pos : Pos} (hT : ∀ x F, tab x = some F → ∃ k kk, b8 F n x X.prog X.w X.K X.mg X.base k ∧ V2 kk X.A ∧ k ≤ kk) (hv : PE X (.Name y p) (dA6 i)) (ha : DA X Z (e :: es) fs) (hs : (e :: es).all N8 = true) :
 DE X Z (.Call (.Name y p) (e :: es) [] pos) (aS5 i n tab fs) := ⟨by
 intro pins s σ H Q I h
 obtain ⟨dσ, μ, G, sr, hr, pp⟩ := h
 obtain ⟨x, F, hx, hF, pp⟩ := cG8 (α := D) pp
 obtain ⟨k, kk, hC, hrm, hk⟩ := hT x F hF
 obtain ⟨f, fd, ps, f1, f2, f3, f4⟩ := hC.ex
 rw [List.all_cons, Bool.and_eq_true] at hs
 obtain ⟨v, e1, r⟩ := sr.2 i _ hx
 unfold d8 at r
 obtain ⟨a, ea, rfl⟩ := r
 have ea : X.mg x = some (.ref a) := ea
 rw [f2] at ea
 cases ea
 refine wpAny_Call_Name_kw (thn (hv pins s σ H (fun v' H' => v' = .ref f ∧ H' = H) I ⟨_, e1, rfl, rfl⟩) fun u s1 ⟨v', H', I1, rv, e2, e3⟩ => ?_)
 subst e2 e3
 cases rv
 refine PySem.W.callWith_K (h₀ := X.base) I1.ok.mod.kin f3 (thn (ha.h pos pins s1 σ H' (fun vs H2 => spD (wc X) n F vs H2 Q E0) I1 ⟨dσ, μ, G, sr, hr, (d7.bind pp).mono fun ds' μ1 G1 H1 x' h1 p1 vs rv => ?_⟩) fun us s2 ⟨vs, H2, I2, r2, q2⟩ => ⟨I2.kIn, ?_⟩) (q14 hs.1) (by rw [aE7]; exact aJ1 hs.2)
 · obtain ⟨hl, p2⟩ := bO9 p1
   exact ⟨by rw [← rv.length]; exact hl, ds', μ1, G1, rv, h1, p2⟩
 · exact cK3 (dvs := []) (ds := []) f1 (hrm.mono hk) f4 .nil cW0 I2 r2 (by rw [List.append_nil]; exact q2)⟩
end
def cD7 : List D → M D := fun ds => match ds with
 | [.int n] => if n.natAbs.log2 < 1920 then pure (.str (Str.ofString (toString n))) else M.stuck
 | _ => M.stuck
def bP6 : List D → M D := fun ds => match ds with
 | [.int i] => pure (.int i)
 | [.bl k] => pure (.int (if k then 1 else 0))
 | [.str z] => match intText? z with
   | some n => if z.length ≤ 640 then pure (.int n) else M.stuck
   | none => M.stuck
 | _ => M.stuck
noncomputable def aL2 (z p : Str) (i : Int) : Bool := decide (fromIndex z.length i + p.length ≤ z.length) && Builtin.Str.subAt z p (fromIndex z.length i)
def startsD : D → List D → M D := fun x ds => match x, ds with
 | .str z, [.str p, .int i] => pure (.bl (aL2 z p i))
 | _, _ => M.stuck
def aB9 : Fs := fun _ => M.stuck
section
variable {X : Cx} {Z : XC}
theorem cY9 : V0 X Z (.type "str") cD7 := ⟨by
 intro pins s σ H xs us Q I r hE0
 obtain ⟨ds, μ, G, rl, hr, p⟩ := hE0
 rcases ds with _ | ⟨_ | _ | n | _ | _ | _ | _ | _, _ | ⟨_, _⟩⟩ <;> try exact p.elim
 obtain ⟨v, rfl, rv⟩ := aJ6 rl
 obtain ⟨u, rfl, ru⟩ := X3 r
 rw [W8 rv] at ru
 obtain ⟨t, rfl⟩ := ru
 have p : d7 (wc X) Z μ H ((if n.natAbs.log2 < 1920 then pure (.str (Str.ofString (toString n))) else M.stuck : M D) G) _ := p
 split at p
 case isFalse => exact p.elim
 rename_i hn
 exact PySem.P.str_of_int hn ⟨.str (Str.ofString (toString n)), H, I.tok _, ⟨_, rfl⟩, d7.ok p hr _ (by unfold d8; rfl)⟩⟩
theorem cV5 : V0 X Z (.type "int") bP6 := ⟨by
 intro pins s σ H xs us Q I r hE0
 have hE := hE0
 obtain ⟨ds, μ, G, rl, hr, p⟩ := hE0
 rcases ds with _ | ⟨_ | b | n | z | _ | _ | _ | _, _ | ⟨_, _⟩⟩ <;> try exact p.elim
 · exact (cM7 (X := X) (Z := Z)).h pins s σ H xs us Q I r ⟨_, μ, G, rl, hr, p⟩
 · exact (cM7 (X := X) (Z := Z)).h pins s σ H xs us Q I r ⟨_, μ, G, rl, hr, p⟩
 · obtain ⟨v, rfl, rv⟩ := aJ6 rl
   obtain ⟨u, rfl, ru⟩ := X3 r
   rw [aC6 rv] at ru
   obtain ⟨t, rfl⟩ := ru
   have p : d7 (wc X) Z μ H ((match intText? z with | some n => if z.length ≤ 640 then pure (.int n) else M.stuck | none => M.stuck : M D) G) _ := p
   rcases hz : intText? z with _ | n
   · rw [hz] at p; exact p.elim
   · rw [hz] at p
     have p : d7 (wc X) Z μ H ((if z.length ≤ 640 then pure (.int n) else M.stuck : M D) G) _ := p
     split at p
     case isFalse => exact p.elim
     rename_i hl
     exact PySem.W.KIN.call_text hz hl ⟨.int n, H, I.tok _, ⟨_, rfl⟩, d7.ok p hr _ ofI⟩⟩
theorem bd_strN (_ : X.calm = true) : BD cD7 "str" X Z := ⟨.inr ⟨_, cY9, cZ0⟩⟩
theorem bd_intX (_ : X.calm = true) : BD bP6 "int" X Z := ⟨.inr ⟨_, cV5, cZ6⟩⟩
theorem md_starts : MtD X Z "str.startswith" startsD := by
 intro pins s σ H x xs v us Q I rx rvs hE0
 obtain ⟨d, ds, μ, G, rd, rl, hr, p⟩ := hE0
 unfold startsD at p
 split at p
 · rename_i z q i
   rw [aC6 rd] at rx
   obtain ⟨t, rfl⟩ := rx
   obtain ⟨v1, v2, rfl, r1, r2⟩ := dQ1 rl
   obtain ⟨u1, u2, rfl, s1, s2⟩ := bY7 rvs
   rw [aC6 r1] at s1
   rw [W8 r2] at s2
   obtain ⟨t1, rfl⟩ := s1
   obtain ⟨t2, rfl⟩ := s2
   exact call_gives F.slot_str_startswith (typeIs_str _ _ _) F.entry_str_startswith (F.args_str_startswith_3 _ _ _) (gives_str_startswith_from z q i t t1 t2) (show (PySem.Made.val _).post _ s from ⟨.bl (aL2 z q i), H, I, rfl, d7.ok p hr _ (by unfold d8; rfl)⟩)
 · exact p.elim
noncomputable def bF2 (a b : Str) (Fa Fb : List D → M D) : Str → Option (List D → M D) := fun x => if x = a then some Fa else if x = b then some Fb else none
theorem cC2 {i n : Nat} {a b y : Str} {Fa Fb : List D → M D} {e : Expr} {es : List Expr} {fs : DSt → M (List D)} {p pos : Pos} (ha : ∃ k kk, b8 Fa n a X.prog X.w X.K X.mg X.base k ∧ V2 kk X.A ∧ k ≤ kk) (hb : ∃ k kk, b8 Fb n b X.prog X.w X.K X.mg X.base k ∧ V2 kk X.A ∧ k ≤ kk)
 (hN : X.N[i]? = some y) (hv : Vis X.env.scope y) (hd : (y == ("__debug__" : Str)) = false) (hcd : (y == ("__classdict__" : Str)) = false) (hs : (e :: es).all N8 = true) (hA : DA X Z (e :: es) fs) :
 DE X Z (.Call (.Name y p) (e :: es) [] pos) (aS5 i n (bF2 a b Fa Fb) fs) := cI2 (fun x F h => by
 unfold bF2 at h
 split at h
 · rename_i k; cases h; rw [k]; exact ha
 · split at h
   · rename_i k; cases h; rw [k]; exact hb
   · cases h) (cH2 hN hv hd hcd) hA hs
theorem ds_stuck {st : Stmt} : DS X Z st aB9 := ⟨by
 intro pins s σ H E I hE0
 obtain ⟨dσ, μ, G, sr, hr, p⟩ := hE0
 exact p.elim⟩
end
end DL
namespace W
open PySem PySem.Spec L2 DL
open PyProof.Rows hiding St
def aR9 (R : List D → M D) : Fs := retS (binE addD (binE addD (binE ixD (varE 0) (cE (.int 0))) (cE (.str (": " : Str)))) (q12 (fnX 1 R) (q10 (binE ixD (varE 0) (cE (.int 1))) (q11))))
def S7 (R : List D → M D) : List D → M D := v9 1 (aR9 R)
def aE2 (R : List D → M D) : Fs := seqS (ifS (truthE (q12 M9 (q10 (varE 0) (q10 (cE (.ty "bool")) (q11))))) (retS (ifE (truthE (varE 0)) (cE (.str ("true" : Str))) (cE (.str ("false" : Str))))) (nextS)) (seqS (ifS (truthE (q12 M9 (q10 (varE 0) (q10 (cE (.ty "int")) (q11))))) (retS (q12 cD7 (q10 (varE 0) (q11)))) (nextS)) (seqS (ifS (truthE (q12 M9 (q10 (varE 0) (q10 (cE (.ty "str")) (q11))))) (retS (binE addD (binE addD (cE (.str ("\"" : Str))) (varE 0)) (cE (.str ("\"" : Str))))) (nextS)) (seqS (ifS (G5 (binE eqD (binE ixD (varE 0) (cE (.int 0))) (cE (.str ("list" : Str))))) (retS (binE addD (binE addD (cE (.str ("[" : Str))) (mtE isStrM aM0 (cE (.str (", " : Str))) (q10 (R9 (itW (binE ixD (varE 0) (cE (.int 1)))) [none] (q13 0) (V1) (q12 (fnX 1 R) (q10 (varE 0) (q11)))) (q11)))) (cE (.str ("]" : Str))))) (nextS)) (retS (binE addD (binE addD (cE (.str ("{" : Str))) (mtE isStrM aM0 (cE (.str (", " : Str))) (q10 (R9 (itW (binE ixD (varE 0) (cE (.int 1)))) [none] (q13 0) (V1) (q12 (fnX 1 (S7 R)) (q10 (varE 0) (q11)))) (q11)))) (cE (.str ("}" : Str))))))))
def X8 : Nat → List D → M D
 | 0 => fun _ => M.stuck
 | n + 1 => v9 1 (aE2 (X8 n))
def U0 : List D → M D := X8 21
def bK7 : List D → M D := S7 U0
def aD5 (R : List D → M D) : Fs := seqS (ifS (orT (G5 (binE neD (q12 M9 (q10 (varE 0) (q10 (cE (.ty "bool")) (q11)))) (q12 M9 (q10 (varE 1) (q10 (cE (.ty "bool")) (q11)))))) (G5 (binE neD (q12 M9 (q10 (varE 0) (q10 (cE (.ty "tuple")) (q11)))) (q12 M9 (q10 (varE 1) (q10 (cE (.ty "tuple")) (q11))))))) (retS (cE (.bl false))) (nextS)) (seqS (ifS (bF3 (truthE (q12 M9 (q10 (varE 0) (q10 (cE (.ty "tuple")) (q11)))))) (retS (binE eqD (varE 0) (varE 1))) (nextS)) (seqS (ifS (G5 (binE neD (q12 lenF (q10 (varE 0) (q11))) (q12 lenF (q10 (varE 1) (q11))))) (retS (cE (.bl false))) (nextS)) (retS (q12 bG4 (q10 (R9 (R7 (q10 (q12 lenF (q10 (varE 0) (q11))) (q11))) [none, some 0, some 1] (q13 0) (V1) (q12 (fnX 2 R) (q10 (binE ixD (varE 1) (varE 0)) (q10 (binE ixD (varE 2) (varE 0)) (q11))))) (q11))))))
def Z0 : Nat → List D → M D
 | 0 => fun _ => M.stuck
 | n + 1 => v9 2 (aD5 (Z0 n))
def aD8 : List D → M D := Z0 64
def Z8 (R : List D → M D) : Fs := seqS (ifS (truthE (q12 M9 (q10 (varE 0) (q10 (cE (.ty "bool")) (q11))))) (retS (binE ixD (aA3 (q10 (cE (.str ("false" : Str))) (q10 (cE (.str ("true" : Str))) (q11)))) (q12 bP6 (q10 (varE 0) (q11))))) (nextS)) (seqS (ifS (truthE (q12 M9 (q10 (varE 0) (q10 (cE (.ty "int")) (q11))))) (retS (q12 cD7 (q10 (varE 0) (q11)))) (nextS)) (seqS (ifS (truthE (q12 M9 (q10 (varE 0) (q10 (cE (.ty "str")) (q11))))) (retS (binE addD (binE addD (cE (.str ("\"" : Str))) (varE 0)) (cE (.str ("\"" : Str))))) (nextS)) (seqS (ifS (G5 (binE eqD (binE ixD (varE 0) (cE (.int 0))) (cE (.str ("list" : Str))))) (retS (binE addD (binE addD (cE (.str ("[" : Str))) (mtE isStrM aM0 (cE (.str (", " : Str))) (q10 (R9 (itW (binE ixD (varE 0) (cE (.int 1)))) [none] (q13 0) (V1) (q12 (fnX 1 R) (q10 (varE 0) (q11)))) (q11)))) (cE (.str ("]" : Str))))) (nextS)) (retS (binE addD (binE addD (cE (.str ("{" : Str))) (mtE isStrM aM0 (cE (.str (", " : Str))) (q10 (R9 (itW (binE ixD (varE 0) (cE (.int 1)))) [none, none] (bN1 2 (Z9 (q13 0) (Z9 (q13 1) (bO2)))) (V1) (binE addD (binE addD (varE 0) (cE (.str (": " : Str)))) (q12 (fnX 1 R) (q10 (varE 1) (q11))))) (q11)))) (cE (.str ("}" : Str))))))))
def T8 : Nat → List D → M D
 | 0 => fun _ => M.stuck
 | n + 1 => v9 1 (Z8 (T8 n))
def Z5 : List D → M D := T8 21
def RT : DSt → M Bool := (bI4 (G5 (binE ltD (varE 4) (q12 lenF (q10 (varE 0) (q11))))) (G5 (aX8 leD leD (varE 2) (binE ixD (varE 0) (varE 4)) (varE 3))))
def RB : Fs := (J0 (binE addD (varE 4) (cE (.int 1))) (q13 4))
def aJ2 : Fs := seqS (J0 (varE 1) (q13 4)) (seqS (aG4 RT RB) (retS (varE 4)))
def K3 : List D → M D := v9 5 aJ2
def aH6 : Fs := seqS (J0 (ifE (truthE (mtE isStrM startsD (varE 0) (q10 (cE (.str ("-" : Str))) (q10 (varE 1) (q11))))) (binE addD (varE 1) (cE (.int 1))) (varE 1)) (q13 2)) (seqS (J0 (q12 (fnX 4 K3) (q10 (varE 0) (q10 (varE 2) (q10 (cE (.str ("0" : Str))) (q10 (cE (.str ("9" : Str))) (q11)))))) (q13 3)) (seqS (ifS (orT (G5 (binE eqD (varE 3) (varE 2))) (G5 (binE gtD (binE aP7 (varE 3) (varE 2)) (cE (.int 40))))) (aB9) (nextS)) (seqS (ifS (bI4 (truthE (mtE isStrM startsD (varE 0) (q10 (cE (.str ("0" : Str))) (q10 (varE 2) (q11))))) (G5 (binE gtD (binE aP7 (varE 3) (varE 1)) (cE (.int 1))))) (aB9) (nextS)) (retS (tupE (q10 (q12 bP6 (q10 (W6 (varE 0) (W3 (varE 1)) (W3 (varE 3))) (q11))) (q10 (varE 3) (q11))))))))
def P0 : List D → M D := v9 4 aH6
def bO4 : Fs := seqS (ifS (bF3 (truthE (mtE isStrM startsD (varE 0) (q10 (varE 2) (q10 (varE 1) (q11)))))) (aB9) (nextS)) (retS (binE addD (varE 1) (q12 lenF (q10 (varE 2) (q11)))))
def M4 : List D → M D := v9 3 bO4
def bE5 : Fs := seqS (J0 (q12 (fnX 4 K3) (q10 (varE 0) (q10 (binE addD (varE 1) (cE (.int 1))) (q10 (cE (.str ("a" : Str))) (q10 (cE (.str ("z" : Str))) (q11)))))) (q13 2)) (retS (tupE (q10 (W6 (varE 0) (W3 (binE addD (varE 1) (cE (.int 1)))) (W3 (varE 2))) (q10 (q12 (fnX 3 M4) (q10 (varE 0) (q10 (varE 2) (q10 (cE (.str ("\"" : Str))) (q11))))) (q11)))))
def F_text_at : List D → M D := v9 3 bE5
def bO0 : Fs := retS (q12 bG4 (q10 (R9 (bC5 (q10 (varE 0) (q10 (W6 (varE 0) (W3 (cE (.int 1))) (aQ6)) (q11)))) [none, none] (bN1 2 (Z9 (q13 0) (Z9 (q13 1) (bO2)))) (V1) (binE ltD (varE 0) (varE 1))) (q11)))
def W4 : List D → M D := v9 1 bO0
def aV4 : Fs := retS (R9 (itW (varE 0)) [none] (q13 0) (V1) (binE ixD (varE 0) (cE (.int 0))))
def Q3 : List D → M D := v9 1 aV4
def bC4 (R : List D → M D) : Fs := seqS (J0 (q12 (fnX 4 K3) (q10 (varE 0) (q10 (varE 1) (q10 (cE (.str ("a" : Str))) (q10 (cE (.str ("z" : Str))) (q11)))))) (q13 3)) (seqS (ifS (G5 (binE eqD (varE 3) (varE 1))) (aB9) (nextS)) (seqS (J0 (q12 (fnX 3 R) (q10 (varE 0) (q10 (q12 (fnX 3 M4) (q10 (varE 0) (q10 (varE 3) (q10 (cE (.str (": " : Str))) (q11))))) (q10 (varE 2) (q11))))) (q13 4)) (retS (tupE (q10 (tupE (q10 (W6 (varE 0) (W3 (varE 1)) (W3 (varE 3))) (q10 (binE ixD (varE 4) (cE (.int 0))) (q11)))) (q10 (binE ixD (varE 4) (cE (.int 1))) (q11)))))))
def K1 (R : List D → M D) : List D → M D := v9 5 (bC4 R)
def PW (R : List D → M D) : Fs := (seqS (J0 (aS5 3 3 (bF2 "value_at" "pair_at" R (K1 R)) (q10 (varE 0) (q10 (varE 1) (q10 (varE 4) (q11))))) (q13 6)) (seqS (bU6 (mtE aM3 aU1 (varE 5) (q10 (binE ixD (varE 6) (cE (.int 0))) (q11)))) (seqS (ifS (truthE (mtE isStrM startsD (varE 0) (q10 (varE 2) (q10 (binE ixD (varE 6) (cE (.int 1))) (q11))))) (retS (tupE (q10 (q12 W7 (q10 (varE 5) (q11))) (q10 (binE addD (binE ixD (varE 6) (cE (.int 1))) (q12 lenF (q10 (varE 2) (q11)))) (q11))))) (nextS)) (J0 (q12 (fnX 3 M4) (q10 (varE 0) (q10 (binE ixD (varE 6) (cE (.int 1))) (q10 (cE (.str (", " : Str))) (q11))))) (q13 1)))))
def aF1 (R : List D → M D) : Fs := seqS (ifS (truthE (mtE isStrM startsD (varE 0) (q10 (varE 2) (q10 (varE 1) (q11))))) (retS (tupE (q10 (tupE (q11)) (q10 (binE addD (varE 1) (q12 lenF (q10 (varE 2) (q11)))) (q11))))) (nextS)) (seqS (J0 (aA3 (q11)) (q13 5)) (aG4 (truthE (cE (.bl true))) (PW R)))
def Q5 (R : List D → M D) : List D → M D := v9 7 (aF1 R)
def bB4 (R : List D → M D) : Fs := seqS (J0 (q12 (fnX 5 (Q5 R)) (q10 (varE 0) (q10 (binE addD (varE 1) (cE (.int 1))) (q10 (cE (.str ("]" : Str))) (q10 (cE (.fn "value_at")) (q10 (binE addD (varE 2) (cE (.int 1))) (q11))))))) (q13 3)) (retS (tupE (q10 (tupE (q10 (cE (.str ("list" : Str))) (q10 (binE ixD (varE 3) (cE (.int 0))) (q11)))) (q10 (binE ixD (varE 3) (cE (.int 1))) (q11)))))
def aD3 (R : List D → M D) : List D → M D := v9 4 (bB4 R)
def aS4 (R : List D → M D) : Fs := seqS (J0 (q12 (fnX 5 (Q5 R)) (q10 (varE 0) (q10 (binE addD (varE 1) (cE (.int 1))) (q10 (cE (.str ("}" : Str))) (q10 (cE (.fn "pair_at")) (q10 (binE addD (varE 2) (cE (.int 1))) (q11))))))) (q13 3)) (seqS (ifS (bF3 (truthE (q12 (fnX 1 W4) (q10 (q12 (fnX 1 Q3) (q10 (binE ixD (varE 3) (cE (.int 0))) (q11))) (q11))))) (aB9) (nextS)) (retS (tupE (q10 (tupE (q10 (cE (.str ("record" : Str))) (q10 (binE ixD (varE 3) (cE (.int 0))) (q11)))) (q10 (binE ixD (varE 3) (cE (.int 1))) (q11))))))
def W2 (R : List D → M D) : List D → M D := v9 4 (aS4 R)
def aF3 (R : List D → M D) : Fs := seqS (ifS (G5 (binE gtD (varE 2) (cE (.int 20)))) (aB9) (nextS)) (seqS (ifS (truthE (mtE isStrM startsD (varE 0) (q10 (cE (.str ("[" : Str))) (q10 (varE 1) (q11))))) (retS (q12 (fnX 3 (aD3 R)) (q10 (varE 0) (q10 (varE 1) (q10 (varE 2) (q11)))))) (nextS)) (seqS (ifS (truthE (mtE isStrM startsD (varE 0) (q10 (cE (.str ("{" : Str))) (q10 (varE 1) (q11))))) (retS (q12 (fnX 3 (W2 R)) (q10 (varE 0) (q10 (varE 1) (q10 (varE 2) (q11)))))) (nextS)) (seqS (ifS (truthE (mtE isStrM startsD (varE 0) (q10 (cE (.str ("\"" : Str))) (q10 (varE 1) (q11))))) (retS (q12 (fnX 2 F_text_at) (q10 (varE 0) (q10 (varE 1) (q11))))) (nextS)) (seqS (ifS (truthE (mtE isStrM startsD (varE 0) (q10 (cE (.str ("true" : Str))) (q10 (varE 1) (q11))))) (retS (tupE (q10 (cE (.bl true)) (q10 (binE addD (varE 1) (q12 lenF (q10 (cE (.str ("true" : Str))) (q11)))) (q11))))) (nextS)) (seqS (ifS (truthE (mtE isStrM startsD (varE 0) (q10 (cE (.str ("false" : Str))) (q10 (varE 1) (q11))))) (retS (tupE (q10 (cE (.bl false)) (q10 (binE addD (varE 1) (q12 lenF (q10 (cE (.str ("false" : Str))) (q11)))) (q11))))) (nextS)) (retS (q12 (fnX 2 P0) (q10 (varE 0) (q10 (varE 1) (q11))))))))))
def aA5 : Nat → List D → M D
 | 0 => fun _ => M.stuck
 | n + 1 => v9 3 (aF3 (aA5 n))
def J6 : List D → M D := aA5 21
def aQ1 : List D → M D := K1 J6
def aL4 : List D → M D := Q5 J6
def cE3 : List D → M D := aD3 J6
def bL1 : List D → M D := W2 J6
def aP0 : Fs := seqS (J0 (q12 (fnX 3 J6) (q10 (varE 0) (q10 (cE (.int 0)) (q10 (cE (.int 1)) (q11))))) (q13 1)) (seqS (ifS (G5 (binE neD (binE ixD (varE 1) (cE (.int 1))) (q12 lenF (q10 (varE 0) (q11))))) (aB9) (nextS)) (retS (binE ixD (varE 1) (cE (.int 0)))))
def U5 : List D → M D := v9 2 aP0
def aN8 : Fs := seqS (J0 (q12 (fnX 1 U0) (q10 (varE 0) (q11))) (q13 1)) (retS (aX3 (q12 M9 (q10 (varE 1) (q10 (cE (.ty "str")) (q11)))) (aX3 (binE eqD (varE 1) (q12 (fnX 1 Z5) (q10 (varE 0) (q11)))) (q12 (fnX 2 aD8) (q10 (q12 (fnX 1 U5) (q10 (varE 1) (q11))) (q10 (varE 0) (q11)))))))
def K4 : List D → M D := v9 2 aN8
def aG7 : Fs := seqS (J0 (cE (.int 0)) (q13 3)) (seqS (ifS (G5 (binE neD (varE 0) (aA3 (q11)))) (J0 (binE aU7 (q12 cA4 (q10 (varE 0) (q11))) (cE (.int 2))) (q13 3)) (nextS)) (retS (aA3 (q10 (varE 1) (q10 (binE aU7 (binE aM1 (binE addD (binE addD (binE aU7 (varE 1) (cE (.int 2147483629))) (binE aM1 (cE (.int 7919)) (varE 2))) (cE (.int 1))) (cE (.int 48271))) (cE (.int 2147483647))) (q10 (varE 3) (q10 (cE (.int 0)) (q11))))))))
def V9 : List D → M D := v9 4 aG7
def aG5 : Fs := seqS (ifS (G5 (binE eqD (binE ixD (varE 0) (cE (.int 2))) (cE (.int 0)))) (seqS (J0 (binE aU7 (binE ixD (varE 0) (cE (.int 0))) (varE 1)) (q13 2)) (seqS (J0 (binE bB6 (binE ixD (varE 0) (cE (.int 0))) (varE 1)) (aZ2 (varE 0) (cE (.int 0)))) (retS (varE 2)))) (nextS)) (seqS (J0 (binE addD (binE aU7 (binE aM1 (binE ixD (varE 0) (cE (.int 1))) (binE ixD (varE 0) (cE (.int 1)))) (cE (.int 2147483629))) (cE (.int 3))) (aZ2 (varE 0) (cE (.int 1)))) (retS (binE aU7 (binE bB6 (binE aU7 (binE aM1 (binE ixD (varE 0) (cE (.int 1))) (cE (.int 69621))) (cE (.int 2147483563))) (cE (.int 8))) (varE 1))))
def d9 : List D → M D := v9 3 aG5
def aC1 : Fs := seqS (ifS (G5 (binE eqD (q12 (fnX 2 d9) (q10 (varE 0) (q10 (cE (.int 3)) (q11)))) (cE (.int 1)))) (retS (binE aP7 (q12 (fnX 2 d9) (q10 (varE 0) (q10 (binE addD (binE aM1 (cE (.int 2)) (binE cM6 (cE (.int 10)) (cE (.int 18)))) (cE (.int 1))) (q11)))) (binE cM6 (cE (.int 10)) (cE (.int 18))))) (nextS)) (retS (binE ixD (aA3 (q10 (cE (.int 0)) (q10 (cE (.int 1)) (q10 (unE bM9 (cE (.int 1))) (q10 (cE (.int 2)) (q10 (unE bM9 (cE (.int 2))) (q10 (cE (.int 3)) (q10 (cE (.int 10)) (q10 (unE bM9 (cE (.int 10))) (q10 (binE cM6 (cE (.int 10)) (cE (.int 18))) (q10 (binE aP7 (cE (.int 0)) (binE cM6 (cE (.int 10)) (cE (.int 18)))) (q11)))))))))))) (q12 (fnX 2 d9) (q10 (varE 0) (q10 (cE (.int 10)) (q11))))))
def J5 : List D → M D := v9 1 aC1
def LT : Fs := (J0 (binE addD (varE 3) (binE ixD (cE (.str ("abcdefghijklmnopqrstuvwxyz" : Str))) (q12 (fnX 2 d9) (q10 (varE 0) (q10 (cE (.int 26)) (q11)))))) (q13 3))
def T7 : Fs := seqS (J0 (cE (.str ("" : Str))) (q13 3)) (seqS (aR2 (R7 (q10 (binE addD (varE 1) (q12 (fnX 2 d9) (q10 (varE 0) (q10 (binE addD (binE aP7 (varE 2) (varE 1)) (cE (.int 1))) (q11))))) (q11))) (q13 4) LT) (retS (varE 3)))
def J7 : List D → M D := v9 5 T7
def aI3 : Fs := seqS (ifS (G5 (binE eqD (q12 (fnX 2 d9) (q10 (varE 0) (q10 (cE (.int 3)) (q11)))) (cE (.int 1)))) (retS (q12 (fnX 3 J7) (q10 (varE 0) (q10 (cE (.int 0)) (q10 (cE (.int 20)) (q11)))))) (nextS)) (retS (binE ixD (aA3 (q10 (cE (.str ("" : Str))) (q10 (cE (.str ("a" : Str))) (q10 (cE (.str ("b" : Str))) (q10 (cE (.str ("aa" : Str))) (q10 (cE (.str ("ab" : Str))) (q10 (cE (.str ("ba" : Str))) (q10 (cE (.str ("abc" : Str))) (q10 (cE (.str ("z" : Str))) (q10 (cE (.str ("true" : Str))) (q10 (binE aM1 (cE (.str ("z" : Str))) (cE (.int 20))) (q11)))))))))))) (q12 (fnX 2 d9) (q10 (varE 0) (q10 (cE (.int 10)) (q11))))))
def Q4 : List D → M D := v9 1 aI3
def NB : Fs := (seqS (J0 (binE ixD (aA3 (q10 (cE (.str ("a" : Str))) (q10 (cE (.str ("b" : Str))) (q10 (cE (.str ("ab" : Str))) (q10 (cE (.str ("ba" : Str))) (q10 (cE (.str ("abc" : Str))) (q10 (cE (.str ("z" : Str))) (q10 (cE (.str ("zz" : Str))) (q10 (cE (.str ("zzzzzzzz" : Str))) (q11)))))))))) (q12 (fnX 2 d9) (q10 (varE 0) (q10 (cE (.int 8)) (q11))))) (q13 3)) (seqS (ifS (G5 (binE eqD (q12 (fnX 2 d9) (q10 (varE 0) (q10 (cE (.int 3)) (q11)))) (cE (.int 1)))) (J0 (q12 (fnX 3 J7) (q10 (varE 0) (q10 (cE (.int 1)) (q10 (cE (.int 8)) (q11))))) (q13 3)) (nextS)) (J0 (cE (.bl true)) (aZ2 (varE 1) (varE 3)))))
def X7 : Fs := seqS (J0 (aY4) (q13 1)) (seqS (aR2 (R7 (q10 (q12 (fnX 2 d9) (q10 (varE 0) (q10 (binE ixD (aA3 (q10 (cE (.int 4)) (q10 (cE (.int 9)) (q11)))) (q12 (fnX 2 d9) (q10 (varE 0) (q10 (cE (.int 2)) (q11))))) (q11)))) (q11))) (q13 2) NB) (retS (q12 aD4 (q10 (varE 1) (q11)))))
def M8 : List D → M D := v9 4 X7
def VAb (R : List D → M D) : Fs := (seqS (ifS (G5 (binE eqD (varE 2) (cE (.int 6)))) (seqS (J0 (q12 (fnX 2 d9) (q10 (varE 0) (q10 (binE ixD (aA3 (q10 (cE (.int 4)) (q10 (cE (.int 9)) (q11)))) (q12 (fnX 2 d9) (q10 (varE 0) (q10 (cE (.int 2)) (q11))))) (q11)))) (q13 3)) (retS (tupE (q10 (cE (.str ("list" : Str))) (q10 (q12 W7 (q10 (R9 (R7 (q10 (varE 3) (q11))) [none, some 1, some 0] (q13 0) (V1) (q12 (fnX 2 R) (q10 (varE 2) (q10 (binE aP7 (varE 1) (cE (.int 1))) (q11))))) (q11))) (q11)))))) (nextS)) (retS (tupE (q10 (cE (.str ("record" : Str))) (q10 (q12 W7 (q10 (R9 (itW (q12 (fnX 1 M8) (q10 (varE 0) (q11)))) [none, some 1, some 0] (q13 0) (V1) (tupE (q10 (varE 0) (q10 (q12 (fnX 2 R) (q10 (varE 2) (q10 (binE aP7 (varE 1) (cE (.int 1))) (q11)))) (q11))))) (q11))) (q11))))))
def VC : Fs := (seqS (ifS (G5 (binE inD (varE 2) (tupE (q10 (cE (.int 0)) (q10 (cE (.int 3)) (q10 (cE (.int 6)) (q11))))))) (retS (q12 (fnX 1 J5) (q10 (varE 0) (q11)))) (nextS)) (seqS (ifS (G5 (binE inD (varE 2) (tupE (q10 (cE (.int 1)) (q10 (cE (.int 4)) (q10 (cE (.int 7)) (q11))))))) (retS (q12 (fnX 1 Q4) (q10 (varE 0) (q11)))) (nextS)) (retS (binE ixD (aA3 (q10 (cE (.bl false)) (q10 (cE (.bl true)) (q11)))) (q12 (fnX 2 d9) (q10 (varE 0) (q10 (cE (.int 2)) (q11))))))))
def VT : DSt → M Bool := (bI4 (G5 (binE gtD (varE 2) (cE (.int 5)))) (bI4 (G5 (binE gtD (varE 1) (cE (.int 1)))) (G5 (binE ltD (binE ixD (varE 0) (cE (.int 3))) (cE (.int 20))))))
def R0 (R : List D → M D) : Fs := seqS (J0 (q12 (fnX 2 d9) (q10 (varE 0) (q10 (cE (.int 8)) (q11)))) (q13 2)) (seqS (J0 (binE addD (binE ixD (varE 0) (cE (.int 3))) (cE (.int 1))) (aZ2 (varE 0) (cE (.int 3)))) (seqS (ifS VT (VAb R) (nextS)) VC))
def R3 : Nat → List D → M D
 | 0 => fun _ => M.stuck
 | n + 1 => v9 4 (R0 (R3 n))
def aE8 : List D → M D := R3 6
def aD9 : Fs := retS (binE ixD (aA3 (q10 (cE (.int 0)) (q10 (cE (.int 1)) (q10 (unE bM9 (cE (.int 1))) (q10 (cE (.str ("a" : Str))) (q10 (cE (.str ("" : Str))) (q10 (cE (.bl true)) (q10 (cE (.bl false)) (q10 (cE (.int 7)) (q11)))))))))) (q12 (fnX 2 d9) (q10 (varE 0) (q10 (cE (.int 8)) (q11)))))
def K6 : List D → M D := v9 1 aD9
def WA : Fs := (J0 (R9 (R7 (q10 (binE addD (cE (.int 9)) (q12 (fnX 2 d9) (q10 (varE 0) (q10 (cE (.int 50)) (q11))))) (q11))) [none, some 0] (q13 0) (V1) (q12 (fnX 1 K6) (q10 (varE 1) (q11)))) (q13 2))
def WB : Fs := (retS (tupE (q10 (cE (.str ("record" : Str))) (q10 (q12 W7 (q10 (R9 (R7 (q10 (q12 lenF (q10 (varE 2) (q11))) (q11))) [none, some 3, some 2] (q13 0) (V1) (tupE (q10 (binE addD (binE ixD (varE 1) (binE bB6 (varE 0) (cE (.int 3)))) (binE ixD (cE (.str ("abc" : Str))) (binE aU7 (varE 0) (cE (.int 3))))) (q10 (binE ixD (varE 2) (varE 0)) (q11))))) (q11))) (q11)))))
def aB7 : Fs := seqS (J0 (q12 (fnX 2 d9) (q10 (varE 0) (q10 (cE (.int 2)) (q11)))) (q13 1)) (seqS WA (seqS (ifS (G5 (binE eqD (varE 1) (cE (.int 0)))) (retS (tupE (q10 (cE (.str ("list" : Str))) (q10 (q12 W7 (q10 (varE 2) (q11))) (q11))))) (nextS)) (seqS (J0 (cE (.str ("abcdefghijklmnopqrstuvwxyz" : Str))) (q13 3)) WB)))
def W0 : List D → M D := v9 4 aB7
def CB : Fs := (seqS (J0 (aA3 (q10 (tupE (q10 (cE (.str ("list" : Str))) (q10 (tupE (q10 (varE 2) (q11))) (q11)))) (q10 (tupE (q10 (cE (.str ("list" : Str))) (q10 (tupE (q10 (cE (.int 0)) (q10 (varE 2) (q11)))) (q11)))) (q10 (tupE (q10 (cE (.str ("record" : Str))) (q10 (tupE (q10 (tupE (q10 (cE (.str ("a" : Str))) (q10 (varE 2) (q11)))) (q11))) (q11)))) (q11))))) (q13 4)) (J0 (binE ixD (binE addD (varE 4) (aA3 (q10 (tupE (q10 (cE (.str ("record" : Str))) (q10 (tupE (q10 (tupE (q10 (cE (.str ("a" : Str))) (q10 (cE (.int 1)) (q11)))) (q10 (tupE (q10 (cE (.str ("b" : Str))) (q10 (varE 2) (q11)))) (q11)))) (q11)))) (q11)))) (q12 (fnX 2 d9) (q10 (varE 0) (q10 (cE (.int 4)) (q11))))) (q13 2)))
def X6 : Fs := seqS (J0 (q12 (fnX 1 K6) (q10 (varE 0) (q11))) (q13 2)) (seqS (aR2 (R7 (q10 (q12 (fnX 2 d9) (q10 (varE 0) (q10 (varE 1) (q11)))) (q11))) (q13 3) CB) (retS (varE 2)))
def T9 : List D → M D := v9 5 X6
def aD7 : Fs := seqS (J0 (q12 (fnX 2 d9) (q10 (varE 0) (q10 (cE (.int 6)) (q11)))) (q13 2)) (seqS (ifS (G5 (binE eqD (varE 2) (cE (.int 1)))) (retS (q12 (fnX 1 W0) (q10 (varE 0) (q11)))) (nextS)) (seqS (ifS (G5 (binE eqD (varE 2) (cE (.int 2)))) (retS (q12 (fnX 2 T9) (q10 (varE 0) (q10 (varE 1) (q11))))) (nextS)) (retS (q12 (fnX 2 aE8) (q10 (varE 0) (q10 (cE (.int 5)) (q11)))))))
def U8 : List D → M D := v9 3 aD7
def LA : Fs := (ifS (bF3 (truthE (q12 (fnX 1 K4) (q10 (varE 2) (q11))))) (retS (cE (.bl false))) (nextS))
def LB : Fs := (seqS (J0 (q12 (fnX 3 V9) (q10 (varE 0) (q10 (varE 4) (q10 (varE 3) (q11))))) (q13 5)) (ifS (bF3 (truthE (q12 (fnX 1 K4) (q10 (q12 (fnX 2 U8) (q10 (varE 5) (q10 (cE (.int 20)) (q11)))) (q11))))) (retS (cE (.bl false))) (nextS)))
def LC : Fs := (retS (q12 (fnX 1 K4) (q10 (tupE (q10 (cE (.str ("list" : Str))) (q10 (q12 W7 (q10 (R9 (R7 (q10 (cE (.int 60)) (q11))) [none] (q13 0) (V1) (binE aP7 (binE aM1 (varE 0) (cE (.int 7))) (cE (.int 200)))) (q11))) (q11)))) (q11))))
def bX0 : Fs := seqS (J0 (aA3 (q10 (cE (.int 0)) (q10 (unE bM9 (cE (.int 1))) (q10 (cE (.str ("" : Str))) (q10 (cE (.str ("true" : Str))) (q10 (cE (.bl true)) (q10 (cE (.bl false)) (q10 (tupE (q10 (cE (.str ("list" : Str))) (q10 (tupE (q11)) (q11)))) (q10 (tupE (q10 (cE (.str ("record" : Str))) (q10 (tupE (q11)) (q11)))) (q11)))))))))) (q13 1)) (seqS (aR2 (itW (binE addD (varE 1) (aA3 (q10 (tupE (q10 (cE (.str ("list" : Str))) (q10 (tupE (q10 (tupE (q10 (cE (.str ("list" : Str))) (q10 (tupE (q11)) (q11)))) (q10 (tupE (q10 (cE (.str ("record" : Str))) (q10 (tupE (q11)) (q11)))) (q11)))) (q11)))) (q11))))) (q13 2) LA) (seqS (aR2 (aP9 (q10 (W6 (varE 0) (aQ6) (W3 (cE (.int 63)))) (q11))) (bN1 2 (Z9 (q13 3) (Z9 (q13 4) (bO2)))) LB) LC))
def bP3 : List D → M D := v9 6 bX0
local macro_rules | `(tactic| walk_at $s:str) => (match s.getString.splitOn " " with | "u" :: l => (l.toArray.mapM fun x => `(Lean.Parser.Tactic.tacticSeq| apply $(Lean.mkIdent x.toName))) >>= fun t => `(tactic| with_reducible first $[| $t]*) | "g" :: n :: c :: l => (l.toArray.mapM fun x => match x with | "a" => `(tactic| assumption) | "d" => `(tactic| decide) | "k" => `(tactic| decide +kernel) | "r" => `(tactic| rfl) | "A" => `(tactic| all_goals walk_at "z") | x => `(tactic| walk_at $(Lean.Syntax.mkStrLit x))) >>= fun t => `(?_) >>= fun h => `(tactic| ((with_reducible refine $(Lean.mkIdent n.toName) $(Array.replicate c.toNat! h)*); ($[$t];*))) | "m" :: f :: l => `(tactic| ((with_reducible apply $(Lean.mkIdent f.toName) $(l.toArray.map fun x => ⟨(Lean.mkIdent x.toName).raw⟩)*) <;> walk_at "z")) | k :: m :: l => ((m :: l).toArray.mapM fun x => `(Lean.Parser.Tactic.tacticSeq| ((with_reducible apply $(Lean.mkIdent x.toName)) <;> walk_at $(Lean.Syntax.mkStrLit (if k == "x" then "c" else "z"))))) >>= fun t => `(tactic| first $[| $t]*) | _ => Lean.Macro.throwUnsupported)
local macro_rules | `(tactic| walk_at "c") => `(tactic| first
 | rfl
 | decide
 | assumption
 | exact .inl rfl
 | exact .inr rfl
 | exact .inr (.inl rfl)
 | exact .inr (.inr rfl)
 | exact V2.units ‹_›
 | exact fun _ => rfl
 | exact fun _ _ => rfl
 | exact q14 rfl
 | exact PassesOwn.never
 | with_unfolding_all rfl
 | exact ⟨_, _, _, ‹m7 _ _ _›, rfl⟩)
local macro_rules | `(tactic| walk_at "cl") => `(tactic| exact ⟨_, _, by assumption, by assumption, by first | decide | omega⟩)
local macro_rules | `(tactic| walk_at "ck") => `(tactic| exact ⟨_, _, _, by assumption, by rfl, by rfl, by decide +kernel⟩)
local macro_rules | `(tactic| walk_at "pk") => `(tactic| first | exact dE1 | ((apply dC0); walk_at "pk"; walk_at "pk"; (unfold cD4; decide); rfl) | ((apply dE3); walk_at "pk"; walk_at "pk"; rfl))
local macro_rules | `(tactic| walk_at "z") => `(tactic| first
 | exact rfl
 | (walk_at "u q16 da_c q17 de_bl de_str od_add od_sub od_mul od_fdiv od_mod od_pow od_le od_gt od_eq od_ne od_lt od_in bd_len bd_isinstance bd_all bd_sum bd_tuple bd_intX bd_strN bd_sortedG do_none do_some de_op de_cmp de_one de_andV de_if de_tup de_lst de_dict0 de_sliceT dt_not dt_cmp dt_chain dw_and1 dw_or1 dw_and dw_or dts_nil dg_tup dg_sub dgs_nil dgs_cons ds_ret ds_if ds_expr ds_for ds_while ds_stuck db_nil db_one db_cons" <;> walk_at "z")
 | walk_at "x de_v de_cst dg_nm dg_name"
 | walk_at "y de_ix di_r1 di_z di_e"
 | walk_at "g de_tyN 6 a d k r d d"
 | walk_at "g de_callC 5 cl r z d r"
 | ((with_reducible refine cC7 ?_ ?_ ?_ ?_); walk_at "pk"; walk_at "pk"; walk_at "pk"; rfl)
 | ((with_reducible refine cC2 ?_ ?_ ?_ ?_ ?_ ?_ ?_ ?_); walk_at "cl"; walk_at "cl"; rfl; (first | exact .inl rfl | exact .inr (.inl rfl) | exact .inr (.inr rfl)); decide; decide; rfl; walk_at "z")
 | ((with_reducible refine dB0 ?_ ?_ ?_); exact ⟨_, _, _, by assumption⟩; rfl; decide)
 | walk_at "g de_blt 9 r z a k r z d d r"
 | walk_at "m de_mt PySem.F.slot_list_append PySem.F.type_list_append md_append"
 | walk_at "m de_mtS PySem.F.slot_str_join PySem.F.type_str_join md_join"
 | walk_at "m de_mtS PySem.F.slot_str_startswith PySem.F.type_str_startswith md_starts"
 | walk_at "g de_cmpr 8 r z ck k A"
 | walk_at "m de_un ud_neg"
 | ((with_reducible apply DW.dt) <;> walk_at "u dw_and1 dw_or1 dw_and dw_or" <;> walk_at "z")
 | walk_at "y ds_asg dt_truth di_W"
 | walk_at "c"
 | (intro _; walk_at "z"))
local macro_rules | `(tactic| walk_at "db0") => `(tactic| ((first | apply db_one | apply db_cons) <;> walk_at "z"))
set_option maxHeartbeats 0
local macro_rules | `(tactic| walk_at "sc") => `(tactic| exact ⟨rfl, rfl, rfl, by decide +kernel, rfl, by decide +kernel, by decide +kernel⟩)
structure BC (K : PySem.W.Frag) (mg : Str → Option Value) : Prop where
 b : BLs mg
 c_MOST_FIGURES : cL6 K mg "MOST_FIGURES" (.int 40)
 c_MOST_DEEP : cL6 K mg "MOST_DEEP" (.int 20)
noncomputable def top (i : Nat) : Stmt := PySem.Challenge.pw_allmeet_k04_values_written.main.body.getD i (.Pass ⟨0, 0, 0, 0⟩)
abbrev U4 : Stmt := top 9
abbrev S8 : Stmt := top 10
abbrev T6 : Stmt := top 34
abbrev Q8 : Stmt := top 33
abbrev aQ8 : Stmt := top 19
abbrev aH3 : Stmt := top 18
abbrev aV1 : Stmt := top 20
abbrev aP3 : Stmt := top 17
abbrev aY7 : Stmt := top 4
abbrev aL5 : Stmt := top 5
abbrev aA1 : Stmt := top 12
abbrev Z2 : Stmt := top 16
abbrev V5 : Stmt := top 15
abbrev Z4 : Stmt := top 13
abbrev T4 : Stmt := top 14
abbrev aE9 : Stmt := top 11
abbrev aE1 : Stmt := top 35
abbrev aI8 : Stmt := top 22
abbrev aI9 : Stmt := top 23
abbrev aC0 : Stmt := top 26
abbrev aA6 : Stmt := top 24
abbrev aH0 : Stmt := top 25
abbrev aE5 : Stmt := top 27
abbrev U9 : Stmt := top 28
abbrev aD6 : Stmt := top 29
abbrev aH9 : Stmt := top 30
abbrev aE6 : Stmt := top 31
abbrev aE0 : Stmt := top 32
abbrev aW9 : Stmt := top 36
theorem aK9 : m7 ["value"] ["value"] (g8 U4) := by walk_at "sc"
theorem aM5 : m7 ["pair"] ["pair"] (g8 S8) := by walk_at "sc"
theorem aK7 : m7 ["one", "other"] ["one", "other"] (g8 T6) := by walk_at "sc"
theorem aF4 : m7 ["value"] ["value"] (g8 Q8) := by walk_at "sc"
theorem aW3 : m7 ["text", "at", "first", "last", "end"] ["text", "at", "first", "last"] (g8 aQ8) := by walk_at "sc"
theorem aO5 : m7 ["text", "at", "start", "end"] ["text", "at"] (g8 aH3) := by walk_at "sc"
theorem bD9 : m7 ["text", "at", "sign"] ["text", "at", "sign"] (g8 aV1) := by walk_at "sc"
theorem aY1 : m7 ["text", "at", "end"] ["text", "at"] (g8 aP3) := by walk_at "sc"
theorem bB9 : m7 ["keys"] ["keys"] (g8 aY7) := by walk_at "sc"
theorem aS1 : m7 ["pairs"] ["pairs"] (g8 aL5) := by walk_at "sc"
theorem aR6 : m7 ["text", "at", "depth"] ["text", "at", "depth"] (g8 aA1) := by walk_at "sc"
theorem aX5 : m7 ["text", "at", "depth", "end", "found"] ["text", "at", "depth"] (g8 Z2) := by walk_at "sc"
theorem aS7 : m7 ["text", "at", "close", "part_at", "depth", "parts", "found"] ["text", "at", "close", "part_at", "depth"] (g8 V5) := by walk_at "sc"
theorem aY8 : m7 ["text", "at", "depth", "found"] ["text", "at", "depth"] (g8 Z4) := by walk_at "sc"
theorem aM2 : m7 ["text", "at", "depth", "found"] ["text", "at", "depth"] (g8 T4) := by walk_at "sc"
theorem aL1 : m7 ["text", "found"] ["text"] (g8 aE9) := by walk_at "sc"
theorem aL0 : m7 ["value", "text"] ["value"] (g8 aE1) := by walk_at "sc"
theorem aO9 : m7 ["script", "cell", "k", "way"] ["script", "cell", "k"] (g8 aI8) := by walk_at "sc"
theorem aO1 : m7 ["hand", "limit", "got"] ["hand", "limit"] (g8 aI9) := by walk_at "sc"
theorem aF7 : m7 ["hand"] ["hand"] (g8 aC0) := by walk_at "sc"
theorem aF5 : m7 ["hand", "least", "most", "text", "k"] ["hand", "least", "most"] (g8 aA6) := by walk_at "sc"
theorem aO8 : m7 ["hand"] ["hand"] (g8 aH0) := by walk_at "sc"
theorem aK3 : m7 ["hand", "some", "k", "name"] ["hand"] (g8 aE5) := by walk_at "sc"
theorem aK6 : m7 ["hand", "deep", "kind", "many"] ["hand", "deep"] (g8 U9) := by walk_at "sc"
theorem aK5 : m7 ["hand"] ["hand"] (g8 aD6) := by walk_at "sc"
theorem aN5 : m7 ["hand", "kind", "parts", "letters"] ["hand"] (g8 aH9) := by walk_at "sc"
theorem aK8 : m7 ["hand", "most", "value", "k", "ways"] ["hand", "most"] (g8 aE6) := by walk_at "sc"
theorem aK0 : m7 ["hand", "most", "way"] ["hand", "most"] (g8 aE0) := by walk_at "sc"
theorem cF0 : m7 ["script", "some", "value", "k", "cell", "hand"] ["script"] (g8 aW9) := by walk_at "sc"
section
variable {P : Program} {w : World} {K : PySem.W.Frag} {mg : Str → Option Value} {base : Heap} {a : Addr} {d : FuncData} (zb : BC K mg)
include zb
theorem aJ8 (c : FF K mg "show_pair" S8 ["pair"] a d) {R : List D → M D} {lv : Nat} (k_R : b8 R 1 "show_value" P w K mg base lv) (h2 : 0 ≤ lv) : v6 P w K mg base CX0 (lv + 1) a d ["pair"] (spD ⟨K, mg⟩ 1 (S7 R)) := by
 unfold S7
 exact U6 c aM5 rfl rfl fun _ _ _ _ _ _ _ => by obtain ⟨_, _, _⟩ := zb; have := aM5; unfold aR9; walk_at "db0"
theorem aS8 (c : FF K mg "show_value" U4 ["value"] a d) {R : List D → M D} {lv : Nat} (k_R : b8 R 1 "show_value" P w K mg base lv) (k1 : b8 (S7 R) 1 "show_pair" P w K mg base (lv + 1)) (h2 : 0 ≤ lv) : v6 P w K mg base CX0 (lv + 2) a d ["value"] (spD ⟨K, mg⟩ 1 (v9 1 (aE2 R))) :=
 U6 c aK9 rfl rfl fun _ _ _ _ _ _ _ => by obtain ⟨_, _, _⟩ := zb; have := aK9; unfold aE2; walk_at "db0"
theorem aG0 (c : FF K mg "show_value" U4 ["value"] a d) {a1 : Addr} {d1 : FuncData} (c1 : FF K mg "show_pair" S8 ["pair"] a1 d1) : ∀ n, v6 P w K mg base CX0 (0 + 2 * n) a d ["value"] (spD ⟨K, mg⟩ 1 (X8 n))
 | 0 => aG8 rfl
 | n + 1 => by
   have kR := b8.of c (aG0 c c1 n)
   have h1 := b8.of c1 (aJ8 zb c1 kR (Nat.le_add_right _ _))
   exact aS8 zb c kR h1 (Nat.le_add_right _ _)
theorem aZ8 (c : FF K mg "show_value" U4 ["value"] a d) {a1 : Addr} {d1 : FuncData} (c1 : FF K mg "show_pair" S8 ["pair"] a1 d1) : v6 P w K mg base CX0 42 a d ["value"] (spD ⟨K, mg⟩ 1 U0) := aG0 zb c c1 21
theorem bF8 (c : FF K mg "show_pair" S8 ["pair"] a d) (k0 : b8 U0 1 "show_value" P w K mg base 42) : v6 P w K mg base CX0 43 a d ["pair"] (spD ⟨K, mg⟩ 1 bK7) := aJ8 zb c k0 (by decide)
theorem aT4 (c : FF K mg "_law_alike" T6 ["one", "other"] a d) {R : List D → M D} {lv kk : Nat} (k_R : b8 R 2 "_law_alike" P w K mg base lv) (h1 : lv ≤ kk) (h2 : 0 ≤ kk) : v6 P w K mg base CX0 (kk + 1) a d ["one", "other"] (spD ⟨K, mg⟩ 2 (v9 2 (aD5 R))) :=
 U6 c aK7 rfl rfl fun _ _ _ _ _ _ _ => by obtain ⟨_, _, _⟩ := zb; have := aK7; unfold aD5; walk_at "db0"
theorem aI6 (c : FF K mg "_law_alike" T6 ["one", "other"] a d) : ∀ n, v6 P w K mg base CX0 (0 + n) a d ["one", "other"] (spD ⟨K, mg⟩ 2 (Z0 n))
 | 0 => aG8 rfl
 | n + 1 => aT4 zb c (b8.of c (aI6 c n)) (Nat.le_refl _) (Nat.le_add_right _ _)
theorem bA9 (c : FF K mg "_law_alike" T6 ["one", "other"] a d) : v6 P w K mg base CX0 64 a d ["one", "other"] (spD ⟨K, mg⟩ 2 aD8) := aI6 zb c 64
theorem aN4 (c : FF K mg "_law_written" Q8 ["value"] a d) {R : List D → M D} {lv kk : Nat} (k_R : b8 R 1 "_law_written" P w K mg base lv) (h1 : lv ≤ kk) (h2 : 0 ≤ kk) : v6 P w K mg base CX0 (kk + 1) a d ["value"] (spD ⟨K, mg⟩ 1 (v9 1 (Z8 R))) :=
 U6 c aF4 rfl rfl fun _ _ _ _ _ _ _ => by obtain ⟨_, _, _⟩ := zb; have := aF4; unfold Z8; walk_at "db0"
theorem aC2 (c : FF K mg "_law_written" Q8 ["value"] a d) : ∀ n, v6 P w K mg base CX0 (0 + n) a d ["value"] (spD ⟨K, mg⟩ 1 (T8 n))
 | 0 => aG8 rfl
 | n + 1 => aN4 zb c (b8.of c (aC2 c n)) (Nat.le_refl _) (Nat.le_add_right _ _)
theorem aT1 (c : FF K mg "_law_written" Q8 ["value"] a d) : v6 P w K mg base CX0 21 a d ["value"] (spD ⟨K, mg⟩ 1 Z5) := aC2 zb c 21
theorem bS6 (c : FF K mg "run_end" aQ8 ["text", "at", "first", "last"] a d) : v6 P w K mg base CX0 1 a d ["text", "at", "first", "last"] (spD ⟨K, mg⟩ 4 K3) := by
 unfold K3
 exact U6 c aW3 rfl rfl fun _ _ _ _ _ _ _ => by obtain ⟨_, _, _⟩ := zb; have := aW3; unfold aJ2; unfold RT RB; walk_at "db0"
theorem bG9 (c : FF K mg "number_at" aH3 ["text", "at"] a d) (k4 : b8 K3 4 "run_end" P w K mg base 1) : v6 P w K mg base CX0 2 a d ["text", "at"] (spD ⟨K, mg⟩ 2 P0) := by
 unfold P0
 exact U6 c aO5 rfl rfl fun _ _ _ _ _ _ _ => by obtain ⟨_, _, _⟩ := zb; have := aO5; unfold aH6; walk_at "db0"
theorem cB0 (c : FF K mg "behind" aV1 ["text", "at", "sign"] a d) : v6 P w K mg base CX0 1 a d ["text", "at", "sign"] (spD ⟨K, mg⟩ 3 M4) := by
 unfold M4
 exact U6 c bD9 rfl rfl fun _ _ _ _ _ _ _ => by obtain ⟨_, _, _⟩ := zb; have := bD9; unfold bO4; walk_at "db0"
theorem bR0 (c : FF K mg "text_at" aP3 ["text", "at"] a d) (k4 : b8 K3 4 "run_end" P w K mg base 1) (k6 : b8 M4 3 "behind" P w K mg base 1) : v6 P w K mg base CX0 2 a d ["text", "at"] (spD ⟨K, mg⟩ 2 F_text_at) := by
 unfold F_text_at
 exact U6 c aY1 rfl rfl fun _ _ _ _ _ _ _ => by obtain ⟨_, _, _⟩ := zb; have := aY1; unfold bE5; walk_at "db0"
theorem cD0 (c : FF K mg "rising" aY7 ["keys"] a d) : v6 P w K mg base CX0 1 a d ["keys"] (spD ⟨K, mg⟩ 1 W4) := by
 unfold W4
 exact U6 c bB9 rfl rfl fun _ _ _ _ _ _ _ => by obtain ⟨_, _, _⟩ := zb; have := bB9; unfold bO0; walk_at "db0"
theorem bP1 (c : FF K mg "names_of" aL5 ["pairs"] a d) : v6 P w K mg base CX0 1 a d ["pairs"] (spD ⟨K, mg⟩ 1 Q3) := by
 unfold Q3
 exact U6 c aS1 rfl rfl fun _ _ _ _ _ _ _ => by obtain ⟨_, _, _⟩ := zb; have := aS1; unfold aV4; walk_at "db0"
theorem aR8 (c : FF K mg "pair_at" Z2 ["text", "at", "depth"] a d) (k4 : b8 K3 4 "run_end" P w K mg base 1) (k6 : b8 M4 3 "behind" P w K mg base 1) {R : List D → M D} {lv : Nat} (k_R : b8 R 3 "value_at" P w K mg base lv) (h2 : 2 ≤ lv) : v6 P w K mg base CX0 (lv + 1) a d ["text", "at", "depth"] (spD ⟨K, mg⟩ 3 (K1 R)) := by
 unfold K1
 exact U6 c aX5 rfl rfl fun _ _ _ _ _ _ _ => by obtain ⟨_, _, _⟩ := zb; have := aX5; unfold bC4; walk_at "db0"
theorem aN3 (c : FF K mg "parts_at" V5 ["text", "at", "close", "part_at", "depth"] a d) (k6 : b8 M4 3 "behind" P w K mg base 1) {R : List D → M D} {lv : Nat} (k_R : b8 R 3 "value_at" P w K mg base lv) (k11 : b8 (K1 R) 3 "pair_at" P w K mg base (lv + 1)) (h2 : 2 ≤ lv) : v6 P w K mg base CX0 (lv + 2) a d ["text", "at", "close", "part_at", "depth"] (spD ⟨K, mg⟩ 5 (Q5 R)) := by
 unfold Q5
 exact U6 c aS7 rfl rfl fun _ _ _ _ _ _ _ => by obtain ⟨_, _, _⟩ := zb; have := aS7; unfold aF1; unfold PW; walk_at "db0"
theorem aR7 (c : FF K mg "list_at" Z4 ["text", "at", "depth"] a d) {R : List D → M D} {lv : Nat} (k_R : b8 R 3 "value_at" P w K mg base lv) (k12 : b8 (Q5 R) 5 "parts_at" P w K mg base (lv + 2)) (h2 : 2 ≤ lv) : v6 P w K mg base CX0 (lv + 3) a d ["text", "at", "depth"] (spD ⟨K, mg⟩ 3 (aD3 R)) := by
 unfold aD3
 exact U6 c aY8 rfl rfl fun _ _ _ _ _ _ _ => by obtain ⟨_, _, _⟩ := zb; have := aY8; unfold bB4; walk_at "db0"
theorem aK1 (c : FF K mg "record_at" T4 ["text", "at", "depth"] a d) (k8 : b8 W4 1 "rising" P w K mg base 1) (k9 : b8 Q3 1 "names_of" P w K mg base 1) {R : List D → M D} {lv : Nat} (k_R : b8 R 3 "value_at" P w K mg base lv) (k11 : b8 (K1 R) 3 "pair_at" P w K mg base (lv + 1)) (k12 : b8 (Q5 R) 5 "parts_at" P w K mg base (lv + 2)) (h2 : 2 ≤ lv) : v6 P w K mg base CX0 (lv + 3) a d ["text", "at", "depth"] (spD ⟨K, mg⟩ 3 (W2 R)) := by
 unfold W2
 exact U6 c aM2 rfl rfl fun _ _ _ _ _ _ _ => by obtain ⟨_, _, _⟩ := zb; have := aM2; unfold aS4; walk_at "db0"
theorem bA3 (c : FF K mg "value_at" aA1 ["text", "at", "depth"] a d) (k5 : b8 P0 2 "number_at" P w K mg base 2) (k7 : b8 F_text_at 2 "text_at" P w K mg base 2) {R : List D → M D} {lv : Nat} (k_R : b8 R 3 "value_at" P w K mg base lv) (k13 : b8 (aD3 R) 3 "list_at" P w K mg base (lv + 3)) (k14 : b8 (W2 R) 3 "record_at" P w K mg base (lv + 3)) (h2 : 2 ≤ lv) : v6 P w K mg base CX0 (lv + 4) a d ["text", "at", "depth"] (spD ⟨K, mg⟩ 3 (v9 3 (aF3 R))) :=
 U6 c aR6 rfl rfl fun _ _ _ _ _ _ _ => by obtain ⟨_, _, _⟩ := zb; have := aR6; unfold aF3; walk_at "db0"
theorem aO4 (c : FF K mg "value_at" aA1 ["text", "at", "depth"] a d) {a11 : Addr} {d11 : FuncData} (c11 : FF K mg "pair_at" Z2 ["text", "at", "depth"] a11 d11) {a12 : Addr} {d12 : FuncData} (c12 : FF K mg "parts_at" V5 ["text", "at", "close", "part_at", "depth"] a12 d12) {a13 : Addr} {d13 : FuncData} (c13 : FF K mg "list_at" Z4 ["text", "at", "depth"] a13 d13) {a14 : Addr} {d14 : FuncData} (c14 : FF K mg "record_at" T4 ["text", "at", "depth"] a14 d14) (k5 : b8 P0 2 "number_at" P w K mg base 2) (k7 : b8 F_text_at 2 "text_at" P w K mg base 2) (k8 : b8 W4 1 "rising" P w K mg base 1) (k9 : b8 Q3 1 "names_of" P w K mg base 1) (k6 : b8 M4 3 "behind" P w K mg base 1) (k4 : b8 K3 4 "run_end" P w K mg base 1) : ∀ n, v6 P w K mg base CX0 (2 + 4 * n) a d ["text", "at", "depth"] (spD ⟨K, mg⟩ 3 (aA5 n))
 | 0 => aG8 rfl
 | n + 1 => by
   have kR := b8.of c (aO4 c c11 c12 c13 c14 k5 k7 k8 k9 k6 k4 n)
   have h11 := b8.of c11 (aR8 zb c11 k4 k6 kR (Nat.le_add_right _ _))
   have h12 := b8.of c12 (aN3 zb c12 k6 kR h11 (Nat.le_add_right _ _))
   have h13 := b8.of c13 (aR7 zb c13 kR h12 (Nat.le_add_right _ _))
   have h14 := b8.of c14 (aK1 zb c14 k8 k9 kR h11 h12 (Nat.le_add_right _ _))
   exact bA3 zb c k5 k7 kR h13 h14 (Nat.le_add_right _ _)
theorem bM8 (c : FF K mg "value_at" aA1 ["text", "at", "depth"] a d) {a11 : Addr} {d11 : FuncData} (c11 : FF K mg "pair_at" Z2 ["text", "at", "depth"] a11 d11) {a12 : Addr} {d12 : FuncData} (c12 : FF K mg "parts_at" V5 ["text", "at", "close", "part_at", "depth"] a12 d12) {a13 : Addr} {d13 : FuncData} (c13 : FF K mg "list_at" Z4 ["text", "at", "depth"] a13 d13) {a14 : Addr} {d14 : FuncData} (c14 : FF K mg "record_at" T4 ["text", "at", "depth"] a14 d14) (k5 : b8 P0 2 "number_at" P w K mg base 2) (k7 : b8 F_text_at 2 "text_at" P w K mg base 2) (k8 : b8 W4 1 "rising" P w K mg base 1) (k9 : b8 Q3 1 "names_of" P w K mg base 1) (k6 : b8 M4 3 "behind" P w K mg base 1) (k4 : b8 K3 4 "run_end" P w K mg base 1) : v6 P w K mg base CX0 86 a d ["text", "at", "depth"] (spD ⟨K, mg⟩ 3 J6) := aO4 zb c c11 c12 c13 c14 k5 k7 k8 k9 k6 k4 21
theorem bS2 (c : FF K mg "pair_at" Z2 ["text", "at", "depth"] a d) (k4 : b8 K3 4 "run_end" P w K mg base 1) (k6 : b8 M4 3 "behind" P w K mg base 1) (k10 : b8 J6 3 "value_at" P w K mg base 86) : v6 P w K mg base CX0 87 a d ["text", "at", "depth"] (spD ⟨K, mg⟩ 3 aQ1) := aR8 zb c k4 k6 k10 (by decide)
theorem bM3 (c : FF K mg "parts_at" V5 ["text", "at", "close", "part_at", "depth"] a d) (k6 : b8 M4 3 "behind" P w K mg base 1) (k10 : b8 J6 3 "value_at" P w K mg base 86) (k11 : b8 aQ1 3 "pair_at" P w K mg base 87) : v6 P w K mg base CX0 88 a d ["text", "at", "close", "part_at", "depth"] (spD ⟨K, mg⟩ 5 aL4) := aN3 zb c k6 k10 k11 (by decide)
theorem bT9 (c : FF K mg "list_at" Z4 ["text", "at", "depth"] a d) (k10 : b8 J6 3 "value_at" P w K mg base 86) (k12 : b8 aL4 5 "parts_at" P w K mg base 88) : v6 P w K mg base CX0 89 a d ["text", "at", "depth"] (spD ⟨K, mg⟩ 3 cE3) := aR7 zb c k10 k12 (by decide)
theorem bJ8 (c : FF K mg "record_at" T4 ["text", "at", "depth"] a d) (k8 : b8 W4 1 "rising" P w K mg base 1) (k9 : b8 Q3 1 "names_of" P w K mg base 1) (k10 : b8 J6 3 "value_at" P w K mg base 86) (k11 : b8 aQ1 3 "pair_at" P w K mg base 87) (k12 : b8 aL4 5 "parts_at" P w K mg base 88) : v6 P w K mg base CX0 89 a d ["text", "at", "depth"] (spD ⟨K, mg⟩ 3 bL1) := aK1 zb c k8 k9 k10 k11 k12 (by decide)
theorem bA6 (c : FF K mg "read_value" aE9 ["text"] a d) (k10 : b8 J6 3 "value_at" P w K mg base 86) : v6 P w K mg base CX0 87 a d ["text"] (spD ⟨K, mg⟩ 1 U5) := by
 unfold U5
 exact U6 c aL1 rfl rfl fun _ _ _ _ _ _ _ => by obtain ⟨_, _, _⟩ := zb; have := aL1; unfold aP0; walk_at "db0"
theorem bA4 (c : FF K mg "_law_right" aE1 ["value"] a d) (k0 : b8 U0 1 "show_value" P w K mg base 42) (k2 : b8 aD8 2 "_law_alike" P w K mg base 64) (k3 : b8 Z5 1 "_law_written" P w K mg base 21) (k15 : b8 U5 1 "read_value" P w K mg base 87) : v6 P w K mg base CX0 88 a d ["value"] (spD ⟨K, mg⟩ 1 K4) := by
 unfold K4
 exact U6 c aL0 rfl rfl fun _ _ _ _ _ _ _ => by obtain ⟨_, _, _⟩ := zb; have := aL0; unfold aN8; walk_at "db0"
theorem bH4 (c : FF K mg "_law_hand" aI8 ["script", "cell", "k"] a d) : v6 P w K mg base CX0 1 a d ["script", "cell", "k"] (spD ⟨K, mg⟩ 3 V9) := by
 unfold V9
 exact U6 c aO9 rfl rfl fun _ _ _ _ _ _ _ => by obtain ⟨_, _, _⟩ := zb; have := aO9; unfold aG7; walk_at "db0"
theorem bG2 (c : FF K mg "_law_draw" aI9 ["hand", "limit"] a d) : v6 P w K mg base CX0 1 a d ["hand", "limit"] (spD ⟨K, mg⟩ 2 d9) := by
 unfold d9
 exact U6 c aO1 rfl rfl fun _ _ _ _ _ _ _ => by obtain ⟨_, _, _⟩ := zb; have := aO1; unfold aG5; walk_at "db0"
theorem aX2 (c : FF K mg "_law_number" aC0 ["hand"] a d) (k18 : b8 d9 2 "_law_draw" P w K mg base 1) : v6 P w K mg base CX0 2 a d ["hand"] (spD ⟨K, mg⟩ 1 J5) := by
 unfold J5
 exact U6 c aF7 rfl rfl fun _ _ _ _ _ _ _ => by obtain ⟨_, _, _⟩ := zb; have := aF7; unfold aC1; walk_at "db0"
theorem aT0 (c : FF K mg "_law_letters" aA6 ["hand", "least", "most"] a d) (k18 : b8 d9 2 "_law_draw" P w K mg base 1) : v6 P w K mg base CX0 2 a d ["hand", "least", "most"] (spD ⟨K, mg⟩ 3 J7) := by
 unfold J7
 exact U6 c aF5 rfl rfl fun _ _ _ _ _ _ _ => by obtain ⟨_, _, _⟩ := zb; have := aF5; unfold T7; unfold LT; walk_at "db0"
theorem bI3 (c : FF K mg "_law_text" aH0 ["hand"] a d) (k18 : b8 d9 2 "_law_draw" P w K mg base 1) (k20 : b8 J7 3 "_law_letters" P w K mg base 2) : v6 P w K mg base CX0 3 a d ["hand"] (spD ⟨K, mg⟩ 1 Q4) := by
 unfold Q4
 exact U6 c aO8 rfl rfl fun _ _ _ _ _ _ _ => by obtain ⟨_, _, _⟩ := zb; have := aO8; unfold aI3; walk_at "db0"
theorem bA7 (c : FF K mg "_law_names" aE5 ["hand"] a d) (k18 : b8 d9 2 "_law_draw" P w K mg base 1) (k20 : b8 J7 3 "_law_letters" P w K mg base 2) : v6 P w K mg base CX0 3 a d ["hand"] (spD ⟨K, mg⟩ 1 M8) := by
 unfold M8
 exact U6 c aK3 rfl rfl fun _ _ _ _ _ _ _ => by obtain ⟨_, _, _⟩ := zb; have := aK3; unfold X7; unfold NB; walk_at "db0"
theorem aT3 (c : FF K mg "_law_value" U9 ["hand", "deep"] a d) (k18 : b8 d9 2 "_law_draw" P w K mg base 1) (k19 : b8 J5 1 "_law_number" P w K mg base 2) (k21 : b8 Q4 1 "_law_text" P w K mg base 3) (k22 : b8 M8 1 "_law_names" P w K mg base 3) {R : List D → M D} {lv kk : Nat} (k_R : b8 R 2 "_law_value" P w K mg base lv) (h1 : lv ≤ kk) (h2 : 3 ≤ kk) : v6 P w K mg base CX0 (kk + 1) a d ["hand", "deep"] (spD ⟨K, mg⟩ 2 (v9 4 (R0 R))) :=
 U6 c aK6 rfl rfl fun _ _ _ _ _ _ _ => by obtain ⟨_, _, _⟩ := zb; have := aK6; unfold R0; unfold VAb VC VT; walk_at "db0"
theorem aH7 (c : FF K mg "_law_value" U9 ["hand", "deep"] a d) (k18 : b8 d9 2 "_law_draw" P w K mg base 1) (k19 : b8 J5 1 "_law_number" P w K mg base 2) (k21 : b8 Q4 1 "_law_text" P w K mg base 3) (k22 : b8 M8 1 "_law_names" P w K mg base 3) : ∀ n, v6 P w K mg base CX0 (3 + n) a d ["hand", "deep"] (spD ⟨K, mg⟩ 2 (R3 n))
 | 0 => aG8 rfl
 | n + 1 => aT3 zb c k18 k19 k21 k22 (b8.of c (aH7 c k18 k19 k21 k22 n)) (Nat.le_refl _) (Nat.le_add_right _ _)
theorem bA1 (c : FF K mg "_law_value" U9 ["hand", "deep"] a d) (k18 : b8 d9 2 "_law_draw" P w K mg base 1) (k19 : b8 J5 1 "_law_number" P w K mg base 2) (k21 : b8 Q4 1 "_law_text" P w K mg base 3) (k22 : b8 M8 1 "_law_names" P w K mg base 3) : v6 P w K mg base CX0 9 a d ["hand", "deep"] (spD ⟨K, mg⟩ 2 aE8) := aH7 zb c k18 k19 k21 k22 6
theorem aZ6 (c : FF K mg "_law_small" aD6 ["hand"] a d) (k18 : b8 d9 2 "_law_draw" P w K mg base 1) : v6 P w K mg base CX0 2 a d ["hand"] (spD ⟨K, mg⟩ 1 K6) := by
 unfold K6
 exact U6 c aK5 rfl rfl fun _ _ _ _ _ _ _ => by obtain ⟨_, _, _⟩ := zb; have := aK5; unfold aD9; walk_at "db0"
theorem bG5 (c : FF K mg "_law_wide" aH9 ["hand"] a d) (k18 : b8 d9 2 "_law_draw" P w K mg base 1) (k24 : b8 K6 1 "_law_small" P w K mg base 2) : v6 P w K mg base CX0 3 a d ["hand"] (spD ⟨K, mg⟩ 1 W0) := by
 unfold W0
 exact U6 c aN5 rfl rfl fun _ _ _ _ _ _ _ => by obtain ⟨_, _, _⟩ := zb; have := aN5; unfold aB7; unfold WB WA; walk_at "db0"
theorem aZ4 (c : FF K mg "_law_chain" aE6 ["hand", "most"] a d) (k24 : b8 K6 1 "_law_small" P w K mg base 2) (k18 : b8 d9 2 "_law_draw" P w K mg base 1) : v6 P w K mg base CX0 3 a d ["hand", "most"] (spD ⟨K, mg⟩ 2 T9) := by
 unfold T9
 exact U6 c aK8 rfl rfl fun _ _ _ _ _ _ _ => by obtain ⟨_, _, _⟩ := zb; have := aK8; unfold X6; unfold CB; walk_at "db0"
theorem aZ5 (c : FF K mg "_law_drawn" aE0 ["hand", "most"] a d) (k18 : b8 d9 2 "_law_draw" P w K mg base 1) (k23 : b8 aE8 2 "_law_value" P w K mg base 9) (k25 : b8 W0 1 "_law_wide" P w K mg base 3) (k26 : b8 T9 2 "_law_chain" P w K mg base 3) : v6 P w K mg base CX0 10 a d ["hand", "most"] (spD ⟨K, mg⟩ 2 U8) := by
 unfold U8
 exact U6 c aK0 rfl rfl fun _ _ _ _ _ _ _ => by obtain ⟨_, _, _⟩ := zb; have := aK0; unfold aD7; walk_at "db0"
theorem dE2 (c : FF K mg "law" aW9 ["script"] a d) (k16 : b8 K4 1 "_law_right" P w K mg base 88) (k17 : b8 V9 3 "_law_hand" P w K mg base 1) (k27 : b8 U8 2 "_law_drawn" P w K mg base 10) : v6 P w K mg base CX0 89 a d ["script"] (spD ⟨K, mg⟩ 1 bP3) := by
 unfold bP3
 exact U6 c cF0 rfl rfl fun _ _ _ _ _ _ _ => by obtain ⟨_, _, _⟩ := zb; have := cF0; unfold bX0; unfold LB LC LA; walk_at "db0"
end
set_option maxHeartbeats 4000000 in
theorem all_mk {l : PySem.W.OpenLaw} {w : World} {K : PySem.W.Frag} {h : Heap} {mg : Str → Option Value} {fa : Addr} (X : K.In h) (G : h.Ns mainGlobals mg) (hfa : mg "law" = some (.ref fa))
 (Y0 : FH K "show_value" U4) (Y1 : FH K "show_pair" S8) (Y2 : FH K "_law_alike" T6) (Y3 : FH K "_law_written" Q8) (Y4 : FH K "run_end" aQ8) (Y5 : FH K "number_at" aH3) (Y6 : FH K "behind" aV1) (Y7 : FH K "text_at" aP3) (Y8 : FH K "rising" aY7) (Y9 : FH K "names_of" aL5) (Y10 : FH K "value_at" aA1) (Y11 : FH K "pair_at" Z2) (Y12 : FH K "parts_at" V5) (Y13 : FH K "list_at" Z4) (Y14 : FH K "record_at" T4) (Y15 : FH K "read_value" aE9) (Y16 : FH K "_law_right" aE1) (Y17 : FH K "_law_hand" aI8) (Y18 : FH K "_law_draw" aI9) (Y19 : FH K "_law_number" aC0) (Y20 : FH K "_law_letters" aA6) (Y21 : FH K "_law_text" aH0) (Y22 : FH K "_law_names" aE5) (Y23 : FH K "_law_value" U9) (Y24 : FH K "_law_small" aD6) (Y25 : FH K "_law_wide" aH9) (Y26 : FH K "_law_chain" aE6) (Y27 : FH K "_law_drawn" aE0) (Y28 : FH K "law" aW9)
 {t_MOST_FIGURES : Tok}
 (g_MOST_FIGURES : PySem.W.nsIn K mainGlobals "MOST_FIGURES" = some (some (.int 40 t_MOST_FIGURES)))
 {t_MOST_DEEP : Tok}
 (g_MOST_DEEP : PySem.W.nsIn K mainGlobals "MOST_DEEP" = some (some (.int 20 t_MOST_DEEP)))
 (z : ∀ b ∈ bltL, PySem.W.nsIn K mainGlobals b = some none)
 (pure : ∀ ns : List Int, ns.length ≤ 63 → ∃ G', bP3 [.ref 0] [.rol (ns.map D.int)] = some (.ok (.bl true), G')) :
 ∃ fd : FuncData, (∀ (s : Shared) (v : Value), BindsTo s fd ⟨[v], []⟩ [("script", v)]) ∧ ∀ base : Heap, K.In base → base.Ns mainGlobals mg → v6 l.prog w K mg base CX0 89 fa fd ["script"] (bV1 K) := by
 obtain ⟨_, _, an_law, _, _, kV_law, dc_law, pm_law, cd_law, ct_law, a28, l_law, e_law, k28⟩ := Y28
 have e := hfa.symm.trans (PySem.W.mg_of X G a28)
 cases e
 obtain ⟨_, _, C0⟩ := Y0.ff1 (p1 := "value") X G fun _ _ _ _ _ _ _ => rfl
 obtain ⟨_, _, C1⟩ := Y1.ff1 (p1 := "pair") X G fun _ _ _ _ _ _ _ => rfl
 obtain ⟨_, _, C2⟩ := Y2.ff2 (p1 := "one") (p2 := "other") X G fun _ _ _ _ _ _ _ _ => rfl
 obtain ⟨_, _, C3⟩ := Y3.ff1 (p1 := "value") X G fun _ _ _ _ _ _ _ => rfl
 obtain ⟨_, _, C4⟩ := Y4.ff4 (p1 := "text") (p2 := "at") (p3 := "first") (p4 := "last") X G fun _ _ _ _ _ _ _ _ _ _ => rfl
 obtain ⟨_, _, C5⟩ := Y5.ff2 (p1 := "text") (p2 := "at") X G fun _ _ _ _ _ _ _ _ => rfl
 obtain ⟨_, _, C6⟩ := Y6.ff3 (p1 := "text") (p2 := "at") (p3 := "sign") X G fun _ _ _ _ _ _ _ _ _ => rfl
 obtain ⟨_, _, C7⟩ := Y7.ff2 (p1 := "text") (p2 := "at") X G fun _ _ _ _ _ _ _ _ => rfl
 obtain ⟨_, _, C8⟩ := Y8.ff1 (p1 := "keys") X G fun _ _ _ _ _ _ _ => rfl
 obtain ⟨_, _, C9⟩ := Y9.ff1 (p1 := "pairs") X G fun _ _ _ _ _ _ _ => rfl
 obtain ⟨_, _, C10⟩ := Y10.ff3 (p1 := "text") (p2 := "at") (p3 := "depth") X G fun _ _ _ _ _ _ _ _ _ => rfl
 obtain ⟨_, _, C11⟩ := Y11.ff3 (p1 := "text") (p2 := "at") (p3 := "depth") X G fun _ _ _ _ _ _ _ _ _ => rfl
 obtain ⟨_, _, C12⟩ := Y12.ff5 (p1 := "text") (p2 := "at") (p3 := "close") (p4 := "part_at") (p5 := "depth") X G fun _ _ _ _ _ _ _ _ _ _ _ => rfl
 obtain ⟨_, _, C13⟩ := Y13.ff3 (p1 := "text") (p2 := "at") (p3 := "depth") X G fun _ _ _ _ _ _ _ _ _ => rfl
 obtain ⟨_, _, C14⟩ := Y14.ff3 (p1 := "text") (p2 := "at") (p3 := "depth") X G fun _ _ _ _ _ _ _ _ _ => rfl
 obtain ⟨_, _, C15⟩ := Y15.ff1 (p1 := "text") X G fun _ _ _ _ _ _ _ => rfl
 obtain ⟨_, _, C16⟩ := Y16.ff1 (p1 := "value") X G fun _ _ _ _ _ _ _ => rfl
 obtain ⟨_, _, C17⟩ := Y17.ff3 (p1 := "script") (p2 := "cell") (p3 := "k") X G fun _ _ _ _ _ _ _ _ _ => rfl
 obtain ⟨_, _, C18⟩ := Y18.ff2 (p1 := "hand") (p2 := "limit") X G fun _ _ _ _ _ _ _ _ => rfl
 obtain ⟨_, _, C19⟩ := Y19.ff1 (p1 := "hand") X G fun _ _ _ _ _ _ _ => rfl
 obtain ⟨_, _, C20⟩ := Y20.ff3 (p1 := "hand") (p2 := "least") (p3 := "most") X G fun _ _ _ _ _ _ _ _ _ => rfl
 obtain ⟨_, _, C21⟩ := Y21.ff1 (p1 := "hand") X G fun _ _ _ _ _ _ _ => rfl
 obtain ⟨_, _, C22⟩ := Y22.ff1 (p1 := "hand") X G fun _ _ _ _ _ _ _ => rfl
 obtain ⟨_, _, C23⟩ := Y23.ff2 (p1 := "hand") (p2 := "deep") X G fun _ _ _ _ _ _ _ _ => rfl
 obtain ⟨_, _, C24⟩ := Y24.ff1 (p1 := "hand") X G fun _ _ _ _ _ _ _ => rfl
 obtain ⟨_, _, C25⟩ := Y25.ff1 (p1 := "hand") X G fun _ _ _ _ _ _ _ => rfl
 obtain ⟨_, _, C26⟩ := Y26.ff2 (p1 := "hand") (p2 := "most") X G fun _ _ _ _ _ _ _ _ => rfl
 obtain ⟨_, _, C27⟩ := Y27.ff2 (p1 := "hand") (p2 := "most") X G fun _ _ _ _ _ _ _ _ => rfl
 have C28 : FF K mg "law" aW9 ["script"] _ _ := ⟨bI5 l_law e_law k28, (bI5 l_law e_law k28).binds (ps := ["script"]) (fun _ _ _ _ _ _ us hl => match us, hl with | [_], _ => rfl), PySem.W.mg_of X G a28⟩
 have zb0 := BLs.of X G z
 have zb : BC K mg := ⟨zb0, ⟨_, PySem.W.mg_of X G g_MOST_FIGURES, cN7⟩, ⟨_, PySem.W.mg_of X G g_MOST_DEEP, cN7⟩⟩
 refine ⟨PySem.W.fnOf "law" "law" (R1 aW9) (M7 aW9) (g8 aW9) .none kV_law dc_law pm_law an_law cd_law ct_law, fun s v => .of_eq rfl, fun base _ _ => dE0 ?_ pure⟩
 have O0 := aZ8 (P := l.prog) (w := w) (base := base) zb C0 C1
 have O1 := bF8 (P := l.prog) (w := w) (base := base) zb C1 (b8.of C0 O0)
 have O2 := bA9 (P := l.prog) (w := w) (base := base) zb C2
 have O3 := aT1 (P := l.prog) (w := w) (base := base) zb C3
 have O4 := bS6 (P := l.prog) (w := w) (base := base) zb C4
 have O5 := bG9 (P := l.prog) (w := w) (base := base) zb C5 (b8.of C4 O4)
 have O6 := cB0 (P := l.prog) (w := w) (base := base) zb C6
 have O7 := bR0 (P := l.prog) (w := w) (base := base) zb C7 (b8.of C4 O4) (b8.of C6 O6)
 have O8 := cD0 (P := l.prog) (w := w) (base := base) zb C8
 have O9 := bP1 (P := l.prog) (w := w) (base := base) zb C9
 have O10 := bM8 (P := l.prog) (w := w) (base := base) zb C10 C11 C12 C13 C14 (b8.of C5 O5) (b8.of C7 O7) (b8.of C8 O8) (b8.of C9 O9) (b8.of C6 O6) (b8.of C4 O4)
 have O11 := bS2 (P := l.prog) (w := w) (base := base) zb C11 (b8.of C4 O4) (b8.of C6 O6) (b8.of C10 O10)
 have O12 := bM3 (P := l.prog) (w := w) (base := base) zb C12 (b8.of C6 O6) (b8.of C10 O10) (b8.of C11 O11)
 have O13 := bT9 (P := l.prog) (w := w) (base := base) zb C13 (b8.of C10 O10) (b8.of C12 O12)
 have O14 := bJ8 (P := l.prog) (w := w) (base := base) zb C14 (b8.of C8 O8) (b8.of C9 O9) (b8.of C10 O10) (b8.of C11 O11) (b8.of C12 O12)
 have O15 := bA6 (P := l.prog) (w := w) (base := base) zb C15 (b8.of C10 O10)
 have O16 := bA4 (P := l.prog) (w := w) (base := base) zb C16 (b8.of C0 O0) (b8.of C2 O2) (b8.of C3 O3) (b8.of C15 O15)
 have O17 := bH4 (P := l.prog) (w := w) (base := base) zb C17
 have O18 := bG2 (P := l.prog) (w := w) (base := base) zb C18
 have O19 := aX2 (P := l.prog) (w := w) (base := base) zb C19 (b8.of C18 O18)
 have O20 := aT0 (P := l.prog) (w := w) (base := base) zb C20 (b8.of C18 O18)
 have O21 := bI3 (P := l.prog) (w := w) (base := base) zb C21 (b8.of C18 O18) (b8.of C20 O20)
 have O22 := bA7 (P := l.prog) (w := w) (base := base) zb C22 (b8.of C18 O18) (b8.of C20 O20)
 have O23 := bA1 (P := l.prog) (w := w) (base := base) zb C23 (b8.of C18 O18) (b8.of C19 O19) (b8.of C21 O21) (b8.of C22 O22)
 have O24 := aZ6 (P := l.prog) (w := w) (base := base) zb C24 (b8.of C18 O18)
 have O25 := bG5 (P := l.prog) (w := w) (base := base) zb C25 (b8.of C18 O18) (b8.of C24 O24)
 have O26 := aZ4 (P := l.prog) (w := w) (base := base) zb C26 (b8.of C24 O24) (b8.of C18 O18)
 have O27 := aZ5 (P := l.prog) (w := w) (base := base) zb C27 (b8.of C18 O18) (b8.of C23 O23) (b8.of C25 O25) (b8.of C26 O26)
 have O28 := dE2 (P := l.prog) (w := w) (base := base) zb C28 (b8.of C16 O16) (b8.of C17 O17) (b8.of C27 O27)
 exact O28
theorem walk {l : PySem.W.OpenLaw} {q : Program} {loose : List Str} {XP : (Str → Option Value) → Heap → Prop} {YP : World → Heap → Prop} {d : DefRec} {K : Params → PySem.W.Frag} (hn : l.most = some 63) (hdf : d.params.defaults = [])
 (hY : ∀ (w : World) (h : Heap), YP w h → (K w.params).In h)
 (F : ∀ (w : World) (mg : Str → Option Value) (fa : Addr) (h : Heap), (K w.params).In h → h.Ns mainGlobals mg → mg d.name = some (.ref fa) →
   ∃ fd : FuncData, (∀ (s : Shared) (u : Value), BindsTo s fd ⟨[u], []⟩ [("script", u)]) ∧ ∀ base : Heap, (K w.params).In base → base.Ns mainGlobals mg → v6 l.prog w (K w.params) mg base CX0 89 fa fd ["script"] (bV1 (K w.params))) :
 PySem.W.WalkO q loose XP YP l.row.toRowW d [] (fun f vs => PySem.call f vs) :=
 L2.walk_of (n := 63) (k := 89) (x := "script") (CX := fun _ => CX0) (sp := fun w => bV1 (K w.params)) hn (by decide) hdf ⟨rfl, by decide, by decide⟩ hY F (fun _ _ a ns hl hO hS => ⟨a, ns, rfl, hS, hO, hl, fun _ => rfl⟩) fun _ _ _ _ _ z => z
mutual
noncomputable def szD : D → Nat
 | .tup l => 1 + szL l
 | .str _ => 1
 | .ref _ => 1
 | .fn _ => 1
 | .ty _ => 1
 | .non => 1
 | .bl _ => 1
 | .int _ => 1
noncomputable def szL : List D → Nat
 | [] => 0
 | d :: r => szD d + szL r
end
noncomputable abbrev N6 : Str := "list"
noncomputable abbrev aC5 : Str := "record"
noncomputable def Ap (G G' : DH) : Prop := ∃ t, G' = G ++ t
theorem Ap.refl {G : DH} : Ap G G := ⟨[], by simp⟩
theorem Ap.trans {G G1 G2 : DH} (h : Ap G G1) (k : Ap G1 G2) : Ap G G2 := by
 obtain ⟨t, rfl⟩ := h
 obtain ⟨u, rfl⟩ := k
 exact ⟨t ++ u, by simp⟩
theorem Ap.one {G : DH} {o : DO} : Ap G (G ++ [o]) := ⟨_, rfl⟩
theorem Ap.at {G G' : DH} {p : Nat} {o : DO} (h : Ap G G') (e : G[p]? = some o) : G'[p]? = some o := by
 obtain ⟨t, rfl⟩ := h
 exact Z7 e
theorem Ap.len {G G' : DH} (h : Ap G G') : G.length ≤ G'.length := by
 obtain ⟨t, rfl⟩ := h
 simp
theorem Ap.gr {G G' : DH} (h : Ap G G') : Gr G G' := by
 obtain ⟨t, rfl⟩ := h
 exact Gr.app
section
variable {g : Fg} {t : DSt → M Bool} {e : Fe} {ck : DH → Bool}
theorem S9 (J : DH → Prop) (S : DSt → Prop) (f : D → D) (hck : ∀ G, J G → ck G = true) : ∀ (items : List D) (σ : DSt) (G : DH), S σ → J G →
 (∀ d ∈ items, ∀ σ G, S σ → J G → Wp (g d σ) G fun σ1 G1 => G1 = G ∧ S σ1 ∧ Wp (t σ1) G fun b G2 => b = true ∧ G2 = G ∧ Wp (e σ1) G fun y G3 => J G3 ∧ y = f d) →
 Wp (K9 g t e ck items σ) G fun ys G' => J G' ∧ ys = items.map f
 | [], σ, G, s, j, _ => by
   rw [bO5]
   exact ⟨hck G j, j, rfl⟩
 | d :: r, σ, G, s, j, step => by
   rw [bN2]
   refine ⟨hck G j, Wp.mono (step d (by simp) σ G s j) fun σ1 G1 ⟨e1, s1, w1⟩ => ?_⟩
   subst e1
   refine Wp.mono w1 fun b G2 ⟨eb, e2, w2⟩ => ?_
   subst eb e2
   rw [if_pos rfl]
   refine Wp.mono w2 fun y G3 ⟨j3, py⟩ => ?_
   refine Wp.mono (S9 J S f hck r σ1 G3 s1 j3 fun d hd => step d (by simp [hd])) fun ys G4 ⟨j4, l4⟩ => ⟨j4, by simp [l4, py]⟩
end
theorem cZ1 {G : DH} {p : Nat} {l : List D} {lo hi : Option Int} {Q : DPP} (e : G[p]? = some (.lst l)) : Wp (slD (.ref p) lo hi) G Q ↔ Q (.ref G.length) (G ++ [.lst (DL.cutD l lo hi)]) := by
 have h : slD (.ref p) lo hi = (do
  let l ← M5 p >>= DL.listOf
  K7 (.lst (DL.cutD l lo hi))) := rfl
 rw [h]
 simp only [j6, R5, e, T3, DL.listOf, f9, V8]
theorem big : 1000000 < sizeLine := by decide
section
variable {t : DSt → M Bool} {b : Fs} {σ : DSt} {G : DH} {P : Fl → DH → Prop}
theorem aR5 {n : Nat} : Wp (K8 (n + 1) t b σ) G P ↔ Wp (t σ) G fun k G1 => if k = true then Wp (b σ) G1 fun fl G2 => match fl with
 | .nx σ' => Wp (K8 n t b σ') G2 P
 | .ct σ' => Wp (K8 n t b σ') G2 P
 | .bk σ' => P (.nx σ') G2
 | .rt d => P (.rt d) G2
 else P (.nx σ) G1 := by
 rw [K8]
 simp only [j6, aG2, f9]
 constructor
 · rintro ⟨k, G1, e, q⟩
   refine ⟨k, G1, e, ?_⟩
   rcases k with _ | _
   · exact q
   ·
     simp only [if_true] at q ⊢
     obtain ⟨fl, G2, e2, q⟩ := q
     refine ⟨fl, G2, e2, ?_⟩
     cases fl <;> first
      | exact q
      | exact f9.mp q
 · rintro ⟨k, G1, e, q⟩
   refine ⟨k, G1, e, ?_⟩
   rcases k with _ | _
   · exact q
   ·
     simp only [if_true] at q ⊢
     obtain ⟨fl, G2, e2, q⟩ := q
     refine ⟨fl, G2, e2, ?_⟩
     cases fl <;> first
      | exact q
      | exact f9.mpr q
theorem bN4 {n : Nat} (h : Wp (K8 n t b σ) G P) : Wp (aG4 t b σ) G P := by
 obtain ⟨a, G', e, q⟩ := h
 refine ⟨a, G', ?_, q⟩
 have hx : ∃ n, (K8 n t b σ G).isSome = true := ⟨n, by rw [e]; rfl⟩
 unfold aG4
 rw [dif_pos hx]
 have hs := Classical.choose_spec hx
 obtain ⟨r, hr⟩ := Option.isSome_iff_exists.mp hs
 rw [hr]
 have e1 := bE9 (Nat.le_max_left n (Classical.choose hx)) e
 have e2 := bE9 (Nat.le_max_right n (Classical.choose hx)) hr
 rw [e1] at e2
 exact e2.symm
end
theorem Gr.set {G0 G : DH} {p : Nat} {o : DO} (h : Gr G0 G) (hp : G0.length ≤ p) : Gr G0 (G.set p o) := ⟨by rw [List.length_set]; exact h.1, fun i hi => by rw [List.getElem?_set_ne (by lia)]; exact h.2 i hi⟩
theorem lt_of_get {G : DH} {p : Nat} {o : DO} (e : G[p]? = some o) : p < G.length := by
 by_cases hi : p < G.length
 · exact hi
 · rw [List.getElem?_eq_none (by lia)] at e; exact m9 e
noncomputable def VB (b : Nat) : Nat → D → Prop
 | 0, _ => False
 | n + 1, d => (∃ i, d = .int i) ∨ (∃ k, d = .bl k) ∨ (∃ z, d = .str z ∧ z.length ≤ b) ∨ (∃ l, d = .tup [.str N6, .tup l] ∧ ∀ x ∈ l, VB b n x) ∨ (∃ l, d = .tup [.str aC5, .tup l] ∧ ∀ x ∈ l, ∃ nm v, x = .tup [.str nm, v] ∧ nm.length ≤ 1000 ∧ VB b n v)
theorem VB.le {b c : Nat} (hb : b ≤ c) : ∀ {n m : Nat} {d : D}, n ≤ m → VB b n d → VB c m d
 | 0, _, _, _, h => h.elim
 | n + 1, 0, _, h, _ => by lia
 | n + 1, m + 1, d, h, a => by
   rcases a with a | a | ⟨z, e, hz⟩ | ⟨l, e, hl⟩ | ⟨l, e, hl⟩
   · exact .inl a
   · exact .inr (.inl a)
   · exact .inr (.inr (.inl ⟨z, e, by lia⟩))
   · exact .inr (.inr (.inr (.inl ⟨l, e, fun x hx => VB.le hb (by lia) (hl x hx)⟩)))
   · exact .inr (.inr (.inr (.inr ⟨l, e, fun x hx => let ⟨nm, v, q1, q2, q3⟩ := hl x hx; ⟨nm, v, q1, q2, VB.le hb (by lia) q3⟩⟩)))
section
variable {bd n : Nat}
theorem VB.i {i : Int} : VB bd (n + 1) (.int i) := .inl ⟨i, rfl⟩
theorem VB.b {i : Bool} : VB bd (n + 1) (.bl i) := .inr (.inl ⟨i, rfl⟩)
theorem VB.s {z : Str} (h : z.length ≤ bd) : VB bd (n + 1) (.str z) := .inr (.inr (.inl ⟨z, rfl, h⟩))
theorem VB.l {l : List D} (h : ∀ x ∈ l, VB bd n x) : VB bd (n + 1) (.tup [.str N6, .tup l]) := .inr (.inr (.inr (.inl ⟨l, rfl, h⟩)))
theorem VB.r {l : List D} (h : ∀ x ∈ l, ∃ nm v, x = .tup [.str nm, v] ∧ nm.length ≤ 1000 ∧ VB bd n v) : VB bd (n + 1) (.tup [.str aC5, .tup l]) := .inr (.inr (.inr (.inr ⟨l, rfl, h⟩)))
end
theorem VB.pos {b n : Nat} {d : D} (h : VB b n d) : 0 < n := by
 cases n with
 | zero => exact h.elim
 | succ n => lia
theorem VB.there {b n : Nat} {d : D} {G : DH} (h : VB b n d) : bN6 G d := by
 cases n with
 | zero => exact h.elim
 | succ n => rcases h with ⟨i, rfl⟩ | ⟨k, rfl⟩ | ⟨z, rfl, hz⟩ | ⟨l, rfl, hl⟩ | ⟨l, rfl, hl⟩ <;> exact ⟨_, rfl⟩
theorem cN6 (l : List D) (n : Nat) : DL.cutD l none (some (n : Int)) = l.take n := by
 unfold DL.cutD
 rw [HT.sIx_none, HT.sIx_nat, List.drop_zero, Nat.sub_zero]
 by_cases h : n ≤ l.length
 · rw [Nat.min_eq_left h]
 · rw [Nat.min_eq_right (by lia), List.take_of_length_le (Nat.le_refl _), List.take_of_length_le (by lia)]
section
variable {G : DH} {Q : DPP}
end
noncomputable def aQ5 {α β : Type} (R : α → β → Prop) : List α → List β → Prop
 | [], [] => True
 | a :: r, b :: s => R a b ∧ aQ5 R r s
 | _, _ => False
section
variable {α β : Type} {R S : α → β → Prop}
theorem aQ5.len : ∀ {a : List α} {b : List β}, aQ5 R a b → a.length = b.length
 | [], [], _ => rfl
 | _ :: _, _ :: _, h => by simp [aQ5.len h.2]
 | [], _ :: _, h => h.elim
 | _ :: _, [], h => h.elim
theorem aQ5.mono (k : ∀ a b, R a b → S a b) : ∀ {a : List α} {b : List β}, aQ5 R a b → aQ5 S a b
 | [], [], _ => trivial
 | _ :: _, _ :: _, h => ⟨k _ _ h.1, aQ5.mono k h.2⟩
 | [], _ :: _, h => h.elim
 | _ :: _, [], h => h.elim
theorem aQ5.app : ∀ {a c : List α} {b d : List β}, aQ5 R a b → aQ5 R c d → aQ5 R (a ++ c) (b ++ d)
 | [], _, [], _, _, h => h
 | _ :: _, _, _ :: _, _, h, k => ⟨h.1, aQ5.app h.2 k⟩
 | [], _, _ :: _, _, h, _ => h.elim
 | _ :: _, _, [], _, h, _ => h.elim
end
noncomputable abbrev tl (z : Str) : List Nat := z.cps.toList
noncomputable abbrev ofL (l : List Nat) : Str := ⟨l.toArray⟩
theorem Q7 (z : Str) : (tl z).length = z.length := rfl
theorem cX5 (l : List Nat) : tl (ofL l) = l := rfl
theorem aE3 {a b : Str} (h : tl a = tl b) : a = b := by
 obtain ⟨⟨a⟩⟩ := a
 obtain ⟨⟨b⟩⟩ := b
 have h : a = b := h
 rw [h]
theorem dB4 (a b : List Nat) : ofL a ++ ofL b = ofL (a ++ b) := aE3 (show tl (ofL a ++ ofL b) = a ++ b from Array.toList_append)
theorem bD4 {z p : Str} {pre t8 : List Nat} (h : tl z = pre ++ t8) : aL2 z p (pre.length : Int) = decide (tl p <+: t8) := by
 have hl : z.length = pre.length + t8.length := by rw [← Q7, h, List.length_append]
 have fi : fromIndex z.length (pre.length : Int) = pre.length := by unfold fromIndex; rw [if_neg (by lia)]; lia
 have e : Builtin.Str.subAt z p pre.length = decide (tl p = t8.take p.length) := by
  rw [Bool.eq_iff_iff, decide_eq_true_iff]
  unfold Builtin.Str.subAt
  rw [beq_iff_eq, ← Array.toList_inj, Array.toList_extract, List.extract_eq_drop_take]
  show List.take (pre.length + p.length - pre.length) (List.drop pre.length (tl z)) = tl p ↔ _
  rw [h, List.drop_left, Nat.add_sub_cancel_left]
  exact eq_comm
 unfold aL2
 rw [fi, e, Bool.eq_iff_iff, Bool.and_eq_true_iff, decide_eq_true_iff, decide_eq_true_iff, decide_eq_true_iff, List.prefix_iff_eq_take]
 refine ⟨fun k => k.2, fun k => ⟨?_, k⟩⟩
 have := congrArg List.length k
 rw [List.length_take] at this
 have q : (tl p).length = p.length := rfl
 lia
theorem aC4 {z p : Str} {pre t8 r : List Nat} (h : tl z = pre ++ t8) (k : t8 = tl p ++ r) : aL2 z p (pre.length : Int) = true := by
 rw [bD4 h, decide_eq_true_iff, k]
 exact List.prefix_append ..
def hdN (c : Nat) (t8 : List Nat) : Prop := ∀ d r, t8 = d :: r → d ≠ c
theorem aD0 {z p : Str} {pre t8 : List Nat} {c : Nat} {ps : List Nat} (h : tl z = pre ++ t8) (hp : tl p = c :: ps) (k : hdN c t8) : aL2 z p (pre.length : Int) = false := by
 rw [bD4 h, decide_eq_false_iff_not, hp]
 rintro ⟨t, e⟩
 exact k c (ps ++ t) e.symm rfl
theorem aW2 {f g : Nat → Option Nat} : ∀ {l : List Nat}, (∀ k ∈ l, f k = g k) → l.filterMap f = l.filterMap g
 | [], _ => rfl
 | a :: r, h => by
   rw [List.filterMap_cons, List.filterMap_cons, h a (List.mem_cons_self ..), aW2 fun k hk => h k (List.mem_cons_of_mem _ hk)]
theorem bS5 (l : List Nat) : (List.range l.length).filterMap (fun k => l[k]?) = l := by
 have e : (List.range l.length).filterMap (fun k => l[k]?) = (List.range l.length).map fun k => l.getD k 0 := by
  rw [← List.filterMap_eq_map]
  refine aW2 fun k hk => ?_
  have := List.mem_range.mp hk
  simp [this]
 rw [e]
 apply List.ext_getElem
 · simp
 · intro i hi hj
   simp [hj]
theorem cQ4 (a b n : Nat) (h : a + b ≤ n) : Builtin.Str.strSliceIndices (some (a : Int)) (some ((a : Int) + b)) 1 n = (List.range b).map fun k => a + k := by
 unfold Builtin.Str.strSliceIndices sliceRange
 have e1 : max 0 (min (a : Int) n) = a := by lia
 have e2 : max 0 (min ((a : Int) + b) n) = (a : Int) + b := by lia
 simp only [show (1 : Int) > 0 by decide, if_true, show ¬ (a : Int) < 0 by lia, show ¬ (a : Int) + b < 0 by lia, if_false, e1, e2]
 have e3 : (if (a : Int) < (a : Int) + b then ((a : Int) + b - a + 1 - 1) / 1 else 0).toNat = b := by split <;> lia
 rw [e3]
 refine List.map_congr_left fun k _ => ?_
 lia
theorem aR4 {z : Str} {a b c : List Nat} (h : tl z = a ++ b ++ c) : Txt.slice z (some (a.length : Int)) (some ((a.length : Int) + b.length)) = ofL b := by
 have hl : z.length = a.length + b.length + c.length := by rw [← Q7, h, List.length_append, List.length_append]
 unfold Txt.slice
 rw [cQ4 _ _ _ (by lia)]
 split
 · rename_i k
   rw [Bool.and_eq_true_iff, beq_iff_eq, beq_iff_eq, List.length_map, List.length_range] at k
   have ha : a = [] := List.eq_nil_of_length_eq_zero (by lia)
   have hc : c = [] := List.eq_nil_of_length_eq_zero (by lia)
   subst ha hc
   exact aE3 (by rw [h]; simp)
 · refine aE3 ?_
   show List.filterMap (fun i => z.cps[i]?) (List.map (fun k => a.length + k) (List.range b.length)) = b
   rw [List.filterMap_map]
   refine Eq.trans (aW2 fun k hk => ?_) (bS5 b)
   have hk := List.mem_range.mp hk
   show z.cps[a.length + k]? = b[k]?
   rw [← Array.getElem?_toList]
   show (tl z)[a.length + k]? = b[k]?
   rw [h, List.append_assoc, List.getElem?_append_right (by lia), Nat.add_sub_cancel_left, List.getElem?_append_left hk]
theorem bH5 {a c : Nat} {G : DH} {Q : DPP} : Wp (leD (.str ⟨#[a]⟩) (.str ⟨#[c]⟩)) G Q ↔ Q (.bl (decide (a ≤ c))) G := by
 rw [cU8]
 have : (!decide ((⟨#[c]⟩ : Str).cps.toList < (⟨#[a]⟩ : Str).cps.toList)) = decide (a ≤ c) := by
  show (!decide ([c] < [a])) = _
  by_cases h : a ≤ c
  · have : ¬ c < a := by lia
    simp [h, List.cons_lt_cons_iff, this]
  · have : c < a := by lia
    simp [h, List.cons_lt_cons_iff, this]
 rw [this]
noncomputable def dg (m : Nat) : List Nat := (Nat.toDigits 10 m).map Char.toNat
theorem aL3 (m : Nat) : NumText.AllDigits (dg m) := by
 intro c hc
 obtain ⟨ch, hch, e⟩ := List.mem_map.mp hc
 rw [← e]
 exact digit_range (Nat.isDigit_of_mem_toDigits (by decide) (by decide) hch)
theorem bX9 {m : Nat} (h : ¬ m < 10) : dg m = dg (m / 10) ++ dg (m % 10) := by
 have hm : m % 10 < 10 := Nat.mod_lt m (by decide)
 have t : Nat.toDigits 10 (m / 10) ++ Nat.toDigits 10 (m % 10) = Nat.toDigits 10 (10 * (m / 10) + m % 10) := Nat.toDigits_append_toDigits (by decide) (by lia) hm
 rw [Nat.div_add_mod] at t
 unfold dg
 rw [← t, List.map_append]
theorem aP8 {m : Nat} (h : m < 10) : dg m = [48 + m] := by
 unfold dg
 rw [Nat.toDigits_of_lt_base h]
 have : ∀ d, d < 10 → (Nat.digitChar d).toNat = 48 + d := by decide
 show [(Nat.digitChar m).toNat] = _
 rw [this m h]
theorem bS7 : ∀ (k m : Nat), m < 10 ^ (k + 1) → (dg m).length ≤ k + 1
 | 0, m, h => by rw [aP8 (by lia)]; simp
 | k + 1, m, h => by
   by_cases h' : m < 10
   · rw [aP8 h']; simp
   · rw [bX9 h', List.length_append, aP8 (Nat.mod_lt m (by decide))]
     have := bS7 k (m / 10) (by rw [Nat.pow_succ] at h; lia)
     simp; lia
theorem bJ2 (m : Nat) (h : 0 < m) : ∃ c r, dg m = c :: r ∧ 49 ≤ c := by
 induction m using Nat.strongRecOn with
 | _ m ih =>
   by_cases h' : m < 10
   · exact ⟨48 + m, [], aP8 h', by lia⟩
   · obtain ⟨c, r, e, k⟩ := ih (m / 10) (by lia) (by lia)
     exact ⟨c, r ++ dg (m % 10), by rw [bX9 h', e]; rfl, k⟩
theorem bE4 (m : Nat) : dg m ≠ [] := by
 rcases Nat.eq_zero_or_pos m with rfl | h
 · rw [aP8 (by decide)]; exact List.cons_ne_nil _ _
 · obtain ⟨c, r, e, _⟩ := bJ2 m h
   rw [e]; exact List.cons_ne_nil _ _
noncomputable def nmL (i : Int) : List Nat := tl (Str.ofString (toString i))
theorem aV3 (m : Nat) : nmL (m : Int) = dg m := PySem.W.KIN.signs_num m
theorem aW0 (m : Nat) (h : 0 < m) : nmL (-(m : Int)) = 45 :: dg m := by
 obtain ⟨k, rfl⟩ : ∃ k, m = k + 1 := ⟨m - 1, by lia⟩
 unfold nmL tl
 rw [signs_ofString]
 show (("-" ++ Nat.repr (k + 1) : String)).toList.map Char.toNat = _
 rw [String.toList_append, List.map_append, Nat.toList_repr]
 rfl
noncomputable def bC9 : Nat := 1000000000000000000
def smI (i : Int) : Prop := i.natAbs ≤ bC9
theorem aG3 (i : Int) : (∃ m : Nat, i = m) ∨ ∃ m : Nat, 0 < m ∧ i = -(m : Int) := by
 rcases Int.lt_or_le i 0 with h | h
 · exact .inr ⟨i.natAbs, by lia, by lia⟩
 · exact .inl ⟨i.natAbs, by lia⟩
theorem aQ9 {i : Int} (h : smI i) : (nmL i).length ≤ 20 := by
 unfold smI bC9 at h
 rcases aG3 i with ⟨m, rfl⟩ | ⟨m, hm, rfl⟩
 · rw [aV3]
   have := bS7 18 m (by lia)
   lia
 · rw [aW0 m hm, List.length_cons]
   have := bS7 18 m (by lia)
   lia
theorem cS5 {i : Int} (h : smI i) : intText? (ofL (nmL i)) = some i := by
 have hl := aQ9 h
 have hl' : (ofL (nmL i)).length ≤ 4300 := by rw [← Q7, cX5]; lia
 rcases aG3 i with ⟨m, rfl⟩ | ⟨m, hm, rfl⟩
 · rw [aV3] at hl' ⊢
   have e := PySem.intText_digits (x := ofL (dg m)) (aL3 m) (bE4 m) hl'
   rw [e]
   show some ((NumText.digitsVal (dg m) : Nat) : Int) = _
   rw [show NumText.digitsVal (dg m) = m from PySem.W.KIN.val_back m]
 · rw [aW0 m hm] at hl' ⊢
   have e := PySem.intText_neg (x := ofL (45 :: dg m)) (cs := dg m) rfl (aL3 m) (bE4 m) hl'
   rw [e, show NumText.digitsVal (dg m) = m from PySem.W.KIN.val_back m]
noncomputable def glL (s : List Nat) : List (List Nat) → List Nat
 | [] => []
 | p :: r => s ++ p ++ glL s r
def N5 (s : List Nat) : List (List Nat) → List Nat
 | [] => []
 | a :: r => a ++ glL s r
theorem cU0 (sep : Str) (ss : List Str) : tl (Txt.join sep ss) = N5 (tl sep) (ss.map tl) := by
 have go : ∀ (r : List Str) (acc : Array Nat), (r.foldl (fun acc p => acc ++ sep.cps ++ p.cps) acc).toList = acc.toList ++ glL (tl sep) (r.map tl) := fun r => by
  induction r with
  | nil => intro acc; simp [glL]
  | cons p r ih =>
    intro acc
    rw [List.foldl_cons, ih, Array.toList_append, Array.toList_append, List.map_cons, glL, List.append_assoc, List.append_assoc, List.append_assoc]
 rcases ss with _ | ⟨a, r⟩
 · rfl
 · exact go r a.cps
theorem bP8 : ∀ L : List (List Nat), (glL [44, 32] L).length = (L.map List.length).sum + 2 * L.length
 | [] => rfl
 | p :: r => by
   rw [glL, List.length_append, List.length_append, bP8 r, List.map_cons, List.sum_cons, List.length_cons]
   simp; lia
theorem bV5 : ∀ L : List (List Nat), (L.map List.length).sum + 2 * L.length ≤ (N5 [44, 32] L).length + 2
 | [] => by simp [N5]
 | a :: r => by
   rw [N5, List.length_append, bP8 r, List.map_cons, List.sum_cons, List.length_cons]
   lia
theorem bW4 : ∀ {L : List (List Nat)} {a : List Nat}, a ∈ L → a.length ≤ (L.map List.length).sum
 | b :: r, a, h => by
   rw [List.map_cons, List.sum_cons]
   rcases List.mem_cons.mp h with rfl | h
   · lia
   · have := bW4 h; lia
theorem aT5 {L : List (List Nat)} {a : List Nat} (h : a ∈ L) : a.length ≤ (N5 [44, 32] L).length := by
 have h1 := bW4 h
 have h2 := bV5 L
 have h3 : 0 < L.length := List.length_pos_of_mem h
 lia
noncomputable abbrev cT : List Nat := [116, 114, 117, 101]
noncomputable abbrev cF : List Nat := [102, 97, 108, 115, 101]
noncomputable def shQ (f : D → List Nat) : D → List Nat
 | .tup [.str nm, v] => tl nm ++ [58, 32] ++ f v
 | _ => []
def shN : Nat → D → List Nat
 | 0, _ => []
 | _ + 1, .int i => nmL i
 | _ + 1, .bl k => if k then cT else cF
 | _ + 1, .str z => 34 :: (tl z ++ [34])
 | n + 1, .tup [.str w, .tup l] => if w = N6 then 91 :: (N5 [44, 32] (l.map (shN n)) ++ [93]) else 123 :: (N5 [44, 32] (l.map (shQ (shN n))) ++ [125])
 | _ + 1, _ => []
noncomputable def prD (p : Str × D) : D := .tup [.str p.1, p.2]
noncomputable def TxL (z : Str) : Prop := (∀ c ∈ tl z, 97 ≤ c ∧ c ≤ 122) ∧ z.length ≤ 1000
noncomputable def LtS (a b : Str) : Prop := a.cps.toList < b.cps.toList
inductive GV : Nat → D → Prop
 | i {n : Nat} {i : Int} (h : smI i) : GV (n + 1) (.int i)
 | b {n : Nat} {k : Bool} : GV (n + 1) (.bl k)
 | s {n : Nat} {z : Str} (h : TxL z) : GV (n + 1) (.str z)
 | l {n : Nat} {l : List D} (hl : l.length ≤ 100) (h : ∀ x ∈ l, GV n x) : GV (n + 1) (.tup [.str N6, .tup l])
 | r {n : Nat} {ps : List (Str × D)} (hl : ps.length ≤ 100) (hp : (ps.map (·.1)).Pairwise LtS) (hn : ∀ p ∈ ps, TxL p.1 ∧ tl p.1 ≠ []) (h : ∀ p ∈ ps, GV n p.2) : GV (n + 1) (.tup [.str aC5, .tup (ps.map prD)])
theorem bJ3 {n : Nat} {l : List D} : shN (n + 1) (.tup [.str N6, .tup l]) = 91 :: (N5 [44, 32] (l.map (shN n)) ++ [93]) := by
 show (if N6 = N6 then _ else _) = _
 rw [if_pos rfl]
theorem bG7 {n : Nat} {l : List D} : shN (n + 1) (.tup [.str aC5, .tup l]) = 123 :: (N5 [44, 32] (l.map (shQ (shN n))) ++ [125]) := by
 show (if aC5 = N6 then _ else _) = _
 rw [if_neg (by decide)]
noncomputable def One (σ : DSt) : Prop := ∃ u, σ = [u]
theorem bX2 (f : D → List Nat) : ∀ l : List D, W9 (l.map fun d => .str (ofL (f d))) = some (l.map fun d => ofL (f d))
 | [] => rfl
 | d :: r => by
   show (W9 (r.map fun d => .str (ofL (f d)))).map (ofL (f d) :: ·) = _
   rw [bX2 f r]; rfl
theorem aT8 {o c : Str} {f : D → List Nat} {l : List D} {r : Nat} {G : DH} {Q : DPP} {a : Nat} {b : Nat} (ho : tl o = [a]) (hc : tl c = [b]) (e : G[r]? = some (.lst (l.map fun d => .str (ofL (f d))))) (hz : (N5 [44, 32] (l.map f)).length ≤ 10000000)
 (q : Q (.str (ofL (a :: (N5 [44, 32] (l.map f) ++ [b])))) G) : Wp (aM0 (.str (", " : Str)) [.ref r]) G fun x G1 => Wp (addD (.str o) x) G1 fun y G2 => Wp (addD y (.str c)) G2 Q := by
 have bg := big
 have z1 : 10000100 < sizeLine := by decide
 have sl := bV5 (l.map f)
 have hs : ((l.map fun d => ofL (f d)).map (·.length)).sum = ((l.map f).map List.length).sum := by rw [List.map_map, List.map_map]; rfl
 refine (cI8 e (bX2 f l) (by rw [hs, List.length_map]; rw [List.length_map] at sl; show _ + _ * 2 ≤ _; lia)).mpr ?_
 have ej : tl (Txt.join (", " : Str) (l.map fun d => ofL (f d))) = N5 [44, 32] (l.map f) := by
  rw [cU0, List.map_map]; rfl
 have l1 : (Txt.join (", " : Str) (l.map fun d => ofL (f d))).length = (N5 [44, 32] (l.map f)).length := by rw [← Q7, ej]
 have lo : o.length = 1 := by rw [← Q7, ho]; rfl
 have lc : c.length = 1 := by rw [← Q7, hc]; rfl
 refine (V7 (by lia)).mpr ?_
 have e2 : o ++ Txt.join (", " : Str) (l.map fun d => ofL (f d)) = ofL (a :: N5 [44, 32] (l.map f)) := aE3 (by
  show (o.cps ++ _).toList = _
  rw [Array.toList_append]
  show tl o ++ tl _ = _
  rw [ho, ej]; rfl)
 rw [e2]
 have l2 : (ofL (a :: N5 [44, 32] (l.map f))).length = (N5 [44, 32] (l.map f)).length + 1 := rfl
 refine (V7 (by lia)).mpr ?_
 have e3 : ofL (a :: N5 [44, 32] (l.map f)) ++ c = ofL (a :: (N5 [44, 32] (l.map f) ++ [b])) := aE3 (by
  show (_ ++ c.cps).toList = _
  rw [Array.toList_append]
  show (a :: N5 [44, 32] (l.map f)) ++ tl c = _
  rw [hc]; rfl)
 rw [e3]
 exact q
theorem bM5 {z : Str} {G : DH} {Q : DPP} (hz : z.length ≤ 1000) (q : Q (.str (ofL (34 :: (tl z ++ [34])))) G) : Wp (addD (.str ("\"" : Str)) (.str z)) G fun y G1 => Wp (addD y (.str ("\"" : Str))) G1 Q := by
 have bg := big
 have q1 : ("\"" : Str).length = 1 := rfl
 refine (V7 (by lia)).mpr ?_
 have l2 : (("\"" : Str) ++ z).length = z.length + 1 := by
  rw [← Q7]
  show ((("\"" : Str).cps ++ z.cps).toList).length = _
  rw [Array.toList_append, List.length_append]
  show 1 + (tl z).length = _
  rw [Q7]; lia
 refine (V7 (by lia)).mpr ?_
 have e : ("\"" : Str) ++ z ++ ("\"" : Str) = ofL (34 :: (tl z ++ [34])) := aE3 (by
  show ((("\"" : Str).cps ++ z.cps) ++ ("\"" : Str).cps).toList = _
  rw [Array.toList_append, Array.toList_append]; rfl)
 rw [e]; exact q
theorem dD8 {i : Int} (h : smI i) : i.natAbs.log2 < 1920 := by
 unfold smI bC9 at h
 rcases Nat.eq_zero_or_pos i.natAbs with z | z
 · rw [z]; decide
 · exact Nat.lt_of_lt_of_le ((Nat.log2_lt (by lia)).mpr (show i.natAbs < 2 ^ 60 by lia)) (by decide)
theorem bY4 {i : Int} {G : DH} {Q : DPP} (h : smI i) (q : Q (.str (ofL (nmL i))) G) : Wp (cD7 [.int i]) G Q := by
 have e : cD7 [.int i] = (if i.natAbs.log2 < 1920 then pure (.str (Str.ofString (toString i))) else M.stuck : M D) := rfl
 rw [e, if_pos (dD8 h)]
 exact f9.mpr q
def bL0 (R : List D → M D) (t : List Nat) (d : D) : Prop := ∀ {G : DH} {Q : DPP}, (∀ G', Ap G G' → Q (.str (ofL t)) G') → Wp (R [d]) G Q
theorem cX3 : ("true" : Str) = ofL cT := by rfl
theorem cG9 : ("false" : Str) = ofL cF := by rfl
theorem bW7 {R : List D → M D} {nm : Str} {v : D} {t : List Nat} {G : DH} {Q : DPP} (h : bL0 R t v) (hn : nm.length ≤ 1000) (ht : t.length ≤ 10000000) (q : ∀ G', Ap G G' → Q (.str (ofL (tl nm ++ [58, 32] ++ t))) G') :
 Wp (addD (.str nm) (.str (": " : Str))) G fun y G1 => Wp (R [v]) G1 fun w G2 => Wp (addD y w) G2 Q := by
 have z1 : 10010100 < sizeLine := by decide
 have q1 : (": " : Str).length = 2 := rfl
 refine (V7 (by lia)).mpr <| h fun G' j => ?_
 have e : nm ++ (": " : Str) = ofL (tl nm ++ [58, 32]) := aE3 (by
  show (nm.cps ++ (": " : Str).cps).toList = _
  rw [Array.toList_append]; rfl)
 rw [e]
 have l1 : (ofL (tl nm ++ [58, 32])).length = nm.length + 2 := by rw [← Q7, cX5, List.length_append, Q7]; rfl
 have l2 : (ofL t).length = t.length := rfl
 refine (V7 (by lia)).mpr ?_
 rw [dB4]
 exact q G' j
theorem cY4 {R : List D → M D} {f : D → List Nat} {p : Str × D} (h : bL0 R (f p.2) p.2) (hn : p.1.length ≤ 1000) (ht : (f p.2).length ≤ 10000000) : bL0 (S7 R) (shQ f (prD p)) (prD p) := fun {G Q} q =>
 o6 <| t7 <| bin_w <| bin_w <| c7 (a := .str p.1) (G' := G) rfl <| c7 (a := .str (": " : Str)) (G' := G) rfl <| (bW7 h hn ht fun G' j => q G' j).mono fun y G1 k => j8 (as := [p.2]) rfl rfl k
theorem bW6 {f : D → List Nat} {p : Str × D} : (f p.2).length ≤ (shQ f (prD p)).length := by
 show _ ≤ (tl p.1 ++ [58, 32] ++ f p.2).length
 rw [List.length_append]; lia
theorem dB2 : ∀ {n N : Nat} {d : D}, GV n d → n ≤ N → (shN n d).length ≤ 10000000 → bL0 (X8 N) (shN n d) d := by
 intro n
 induction n with
 | zero => intro N d h; cases h
 | succ n ih =>
   intro N d h hN hz G Q q
   obtain ⟨M, rfl⟩ : ∃ M, N = M + 1 := ⟨N - 1, by lia⟩
   have bg := big
   cases h with
   | @i _ i hi => exact o6 <| v7 (σ' := [some (.int i)]) (G' := G) rfl <| j5.mpr <| Q0 <| c7 (a := true) (G' := G) rfl ⟨fun _ => t7 <| aI2 (as := [.int i]) rfl <| bY4 hi <| q G Ap.refl, fun z => nomatch z⟩
   | @b _ k =>
     rcases k with _ | _
     · exact bJ1 (d := .str ("false" : Str)) rfl (by rw [cG9]; exact q G Ap.refl)
     · exact bJ1 (d := .str ("true" : Str)) rfl (by rw [cX3]; exact q G Ap.refl)
   | @s _ z hs =>
     exact o6 <| v7 (σ' := [some (.str z)]) (G' := G) rfl <| v7 (σ' := [some (.str z)]) (G' := G) rfl <| j5.mpr <| Q0 <| c7 (a := true) (G' := G) rfl ⟨fun _ => t7 <| bin_w <| bin_w <| c7 (a := .str ("\"" : Str)) (G' := G) rfl <| c7 (a := .str z) (G' := G) rfl <| (bM5 hs.2 (q G Ap.refl)).mono fun y G1 k => c7 rfl k, fun z => nomatch z⟩
   | @l _ l hl hx =>
     rw [bJ3] at hz q
     simp only [List.length_cons, List.length_append, List.length_nil] at hz
     refine o6 <| v7 (σ' := [some (.tup [.str N6, .tup l])]) (G' := G) rfl <| v7 (σ' := [some (.tup [.str N6, .tup l])]) (G' := G) rfl <| v7 (σ' := [some (.tup [.str N6, .tup l])]) (G' := G) rfl <| j5.mpr <| Q0 <| c7 (a := true) (G' := G) rfl ⟨fun _ => ?_, fun z => nomatch z⟩
     refine t7 <| bin_w <| bin_w <| c7 (a := .str ("[" : Str)) (G' := G) rfl <| bD1.mpr <| c7 (a := .str (", " : Str)) (G' := G) rfl <| aI4.mpr <| m8 <| aH4 (l := l) (G1 := G) rfl (by lia) <| (S9 (Ap G) One (fun d => .str (ofL (shN n d))) (fun _ _ => rfl) _ _ G ⟨_, rfl⟩ Ap.refl ?_).mono ?_
     · rintro x hxl _ G1 ⟨u, rfl⟩ j
       have := aT5 (List.mem_map_of_mem (f := shN n) hxl)
       exact aP2 ⟨_, rfl⟩ (j8 (as := [x]) rfl rfl <| ih (hx x hxl) (by lia) (by lia) fun G2 j2 => ⟨j.trans j2, rfl⟩)
     · rintro _ G1 ⟨j, rfl⟩
       exact t6.mpr <| (aT8 (o := ("[" : Str)) (c := ("]" : Str)) (a := 91) (b := 93) rfl rfl o9 (by lia) (q _ (j.trans Ap.one))).mono fun x G2 k => k.mono fun y G3 k => c7 rfl k
   | @r _ ps hl hp hn hx =>
     rw [bG7] at hz q
     simp only [List.length_cons, List.length_append, List.length_nil] at hz
     refine o6 <| v7 (σ' := [some (.tup [.str aC5, .tup (ps.map prD)])]) (G' := G) rfl <| v7 (σ' := [some (.tup [.str aC5, .tup (ps.map prD)])]) (G' := G) rfl <| v7 (σ' := [some (.tup [.str aC5, .tup (ps.map prD)])]) (G' := G) rfl <| v7 (σ' := [some (.tup [.str aC5, .tup (ps.map prD)])]) (G' := G) rfl ?_
     refine t7 <| bin_w <| bin_w <| c7 (a := .str ("{" : Str)) (G' := G) rfl <| bD1.mpr <| c7 (a := .str (", " : Str)) (G' := G) rfl <| aI4.mpr <| m8 <| aH4 (l := ps.map prD) (G1 := G) rfl (by rw [List.length_map]; lia) <| (S9 (Ap G) One (fun d => .str (ofL (shQ (shN n) d))) (fun _ _ => rfl) _ _ G ⟨_, rfl⟩ Ap.refl ?_).mono ?_
     · rintro x hxl _ G1 ⟨u, rfl⟩ j
       have h1 := aT5 (List.mem_map_of_mem (f := shQ (shN n)) hxl)
       obtain ⟨p, hp, rfl⟩ := List.mem_map.mp hxl
       have h2 := bW6 (f := shN n) (p := p)
       exact aP2 ⟨_, rfl⟩ (j8 (as := [prD p]) rfl rfl <| cY4 (ih (hx p hp) (by lia) (by lia)) (hn p hp).1.2 (by lia) fun G2 j2 => ⟨j.trans j2, rfl⟩)
     · rintro _ G1 ⟨j, rfl⟩
       exact t6.mpr <| (aT8 (o := ("{" : Str)) (c := ("}" : Str)) (a := 123) (b := 125) rfl rfl o9 (by lia) (q _ (j.trans Ap.one))).mono fun x G2 k => k.mono fun y G3 k => c7 rfl k
noncomputable def Two (σ : DSt) : Prop := ∃ u v, σ = [u, v]
theorem cE1 : ∀ {n N : Nat} {d : D}, GV n d → n ≤ N → (shN n d).length ≤ 10000000 → bL0 (T8 N) (shN n d) d := by
 intro n
 induction n with
 | zero => intro N d h; cases h
 | succ n ih =>
   intro N d h hN hz G Q q
   obtain ⟨M, rfl⟩ : ∃ M, N = M + 1 := ⟨N - 1, by lia⟩
   have bg := big
   cases h with
   | @i _ i hi => exact o6 <| v7 (σ' := [some (.int i)]) (G' := G) rfl <| j5.mpr <| Q0 <| c7 (a := true) (G' := G) rfl ⟨fun _ => t7 <| aI2 (as := [.int i]) rfl <| bY4 hi <| q G Ap.refl, fun z => nomatch z⟩
   | @b _ k =>
     refine o6 <| j5.mpr <| Q0 <| c7 (a := true) (G' := G) rfl ⟨fun _ => t7 <| bin_w <| aF9.mpr <| c7 (a := [.str ("false" : Str), .str ("true" : Str)]) (G' := G) rfl ⟨sz, ?_⟩, fun z => nomatch z⟩
     rcases k with _ | _
     · exact c7 (a := .int 0) rfl <| (bH6 o9).mpr ⟨.str ("false" : Str), rfl, by rw [cG9]; exact q _ Ap.one⟩
     · exact c7 (a := .int 1) rfl <| (bH6 o9).mpr ⟨.str ("true" : Str), rfl, by rw [cX3]; exact q _ Ap.one⟩
   | @s _ z hs =>
     exact o6 <| v7 (σ' := [some (.str z)]) (G' := G) rfl <| v7 (σ' := [some (.str z)]) (G' := G) rfl <| j5.mpr <| Q0 <| c7 (a := true) (G' := G) rfl ⟨fun _ => t7 <| bin_w <| bin_w <| c7 (a := .str ("\"" : Str)) (G' := G) rfl <| c7 (a := .str z) (G' := G) rfl <| (bM5 hs.2 (q G Ap.refl)).mono fun y G1 k => c7 rfl k, fun z => nomatch z⟩
   | @l _ l hl hx =>
     rw [bJ3] at hz q
     simp only [List.length_cons, List.length_append, List.length_nil] at hz
     refine o6 <| v7 (σ' := [some (.tup [.str N6, .tup l])]) (G' := G) rfl <| v7 (σ' := [some (.tup [.str N6, .tup l])]) (G' := G) rfl <| v7 (σ' := [some (.tup [.str N6, .tup l])]) (G' := G) rfl <| j5.mpr <| Q0 <| c7 (a := true) (G' := G) rfl ⟨fun _ => ?_, fun z => nomatch z⟩
     refine t7 <| bin_w <| bin_w <| c7 (a := .str ("[" : Str)) (G' := G) rfl <| bD1.mpr <| c7 (a := .str (", " : Str)) (G' := G) rfl <| aI4.mpr <| m8 <| aH4 (l := l) (G1 := G) rfl (by lia) <| (S9 (Ap G) One (fun d => .str (ofL (shN n d))) (fun _ _ => rfl) _ _ G ⟨_, rfl⟩ Ap.refl ?_).mono ?_
     · rintro x hxl _ G1 ⟨u, rfl⟩ j
       have := aT5 (List.mem_map_of_mem (f := shN n) hxl)
       exact aP2 ⟨_, rfl⟩ (j8 (as := [x]) rfl rfl <| ih (hx x hxl) (by lia) (by lia) fun G2 j2 => ⟨j.trans j2, rfl⟩)
     · rintro _ G1 ⟨j, rfl⟩
       exact t6.mpr <| (aT8 (o := ("[" : Str)) (c := ("]" : Str)) (a := 91) (b := 93) rfl rfl o9 (by lia) (q _ (j.trans Ap.one))).mono fun x G2 k => k.mono fun y G3 k => c7 rfl k
   | @r _ ps hl hp hn hx =>
     rw [bG7] at hz q
     simp only [List.length_cons, List.length_append, List.length_nil] at hz
     refine o6 <| v7 (σ' := [some (.tup [.str aC5, .tup (ps.map prD)])]) (G' := G) rfl <| v7 (σ' := [some (.tup [.str aC5, .tup (ps.map prD)])]) (G' := G) rfl <| v7 (σ' := [some (.tup [.str aC5, .tup (ps.map prD)])]) (G' := G) rfl <| v7 (σ' := [some (.tup [.str aC5, .tup (ps.map prD)])]) (G' := G) rfl ?_
     refine t7 <| bin_w <| bin_w <| c7 (a := .str ("{" : Str)) (G' := G) rfl <| bD1.mpr <| c7 (a := .str (", " : Str)) (G' := G) rfl <| aI4.mpr <| m8 <| aH4 (l := ps.map prD) (G1 := G) rfl (by rw [List.length_map]; lia) <| (S9 (Ap G) Two (fun d => .str (ofL (shQ (shN n) d))) (fun _ _ => rfl) _ _ G ⟨_, _, rfl⟩ Ap.refl ?_).mono ?_
     · rintro x hxl _ G1 ⟨u, v, rfl⟩ j
       have h1 := aT5 (List.mem_map_of_mem (f := shQ (shN n)) hxl)
       obtain ⟨p, hp, rfl⟩ := List.mem_map.mp hxl
       have h2 := bW6 (f := shN n) (p := p)
       exact c7 (a := [some (.str p.1), some p.2]) (G' := G1) rfl ⟨rfl, ⟨_, _, rfl⟩, c7 (a := true) (G' := G1) rfl ⟨rfl, rfl, bin_w <| bin_w <| c7 (a := .str p.1) (G' := G1) rfl <| c7 (a := .str (": " : Str)) (G' := G1) rfl <| (bW7 (ih (hx p hp) (by lia) (by lia)) (hn p hp).1.2 (by lia) fun G2 j2 => ⟨j.trans j2, rfl⟩).mono fun y G2 k => j8 (as := [p.2]) rfl rfl k⟩⟩
     · rintro _ G1 ⟨j, rfl⟩
       exact t6.mpr <| (aT8 (o := ("{" : Str)) (c := ("}" : Str)) (a := 123) (b := 125) rfl rfl o9 (by lia) (q _ (j.trans Ap.one))).mono fun x G2 k => k.mono fun y G3 k => c7 rfl k
section
variable {a b : Fe} {t : DSt → M Bool} {f g : Fs} {σ : DSt} {G G1 : DH} {Q : DPP} {P : Fl → DH → Prop} {B : Bool → DH → Prop}
theorem dE7 (e : a σ G = some (.ok (.bl true), G1)) (w : Wp (b σ) G1 Q) : Wp (aX3 a b σ) G Q := bU5.mpr (c7 e (aG1.mpr (by rw [if_pos rfl]; exact w)))
theorem dG0 (w : Wp (a σ) G fun x G1 => x = .bl true ∧ Wp (b σ) G1 Q) : Wp (aX3 a b σ) G Q := bU5.mpr (w.mono fun x G1 q => by
 obtain ⟨rfl, q⟩ := q
 exact aG1.mpr (by rw [if_pos rfl]; exact q))
theorem bY0 (w : Wp (t σ) G fun k G1 => k = true ∧ Wp (g σ) G1 P) : Wp (ifS (bF3 t) f g σ) G P := Q0 (cV8.mpr (w.mono fun k G1 q => by
 obtain ⟨rfl, q⟩ := q
 exact ⟨fun z => (by exact bK8 z), fun _ => q⟩))
theorem aB6 (w : Wp (a σ) G fun x G1 => x = .bl true ∧ B true G1) : Wp (truthE a σ) G B := aY2.mpr (w.mono fun x G1 q => by
 obtain ⟨rfl, q⟩ := q
 exact aG1.mpr q)
theorem aT6 (w : Wp (a σ) G fun x G1 => x = .bl false ∧ B false G1) : Wp (truthE a σ) G B := aY2.mpr (w.mono fun x G1 q => by
 obtain ⟨rfl, q⟩ := q
 exact aG1.mpr q)
end
theorem dI4 : aJ2 = seqS (J0 (varE 1) (q13 4)) (seqS (aG4 RT RB) (retS (varE 4))) := rfl
section
variable {T : Str} {G : DH} {Q : DPP}
theorem cX7 {pre t8 : List Nat} {c : Nat} (h : tl T = pre ++ c :: t8) (hz : T.length ≤ sizeLine) (q : Q (.str ⟨#[c]⟩) G) : Wp (ixD (.str T) (.int (pre.length : Int))) G Q := by
 have e : ixD (.str T) (.int (pre.length : Int)) = if T.length ≤ sizeLine then (do
  let c ← aC7 (atI T.cps.toList (pre.length : Int))
  pure (.str ⟨#[c]⟩) : M D) else M.stuck := rfl
 rw [e, if_pos hz]
 refine j6.mpr <| aF2.mpr ⟨c, ?_, f9.mpr q⟩
 have hl : (tl T).length = pre.length + (c :: t8).length := by rw [h, List.length_append]
 show atI (tl T) (pre.length : Int) = some c
 unfold atI ixN
 simp only [List.length_cons] at hl
 rw [if_pos (by lia), if_pos (by lia)]
 simp only [Int.toNat_natCast, Option.bind_some, h]
 rw [List.getElem?_append_right (Nat.le_refl _), Nat.sub_self]; rfl
def cI6 (lo hi : Nat) (t8 : List Nat) : Prop := ∀ c r, t8 = c :: r → ¬ (lo ≤ c ∧ c ≤ hi)
theorem bL5 {lo hi : Nat} {a1 : Option D} (hz : T.length ≤ sizeLine) : ∀ (run pre t8 : List Nat) (n : Nat), run.length ≤ n → tl T = pre ++ run ++ t8 → (∀ c ∈ run, lo ≤ c ∧ c ≤ hi) → cI6 lo hi t8 →
 Wp (K8 (n + 1) RT RB [some (.str T), a1, some (.str ⟨#[lo]⟩), some (.str ⟨#[hi]⟩), some (.int (pre.length : Int))]) G fun fl G' => G' = G ∧ fl = .nx [some (.str T), a1, some (.str ⟨#[lo]⟩), some (.str ⟨#[hi]⟩), some (.int ((pre.length : Int) + run.length))]
 | [], pre, t8, n, hn, h, hr, ho => by
   rw [List.append_nil] at h
   have hl : T.length = pre.length + t8.length := by rw [← Q7, h, List.length_append]
   refine aR5.mpr ?_
   refine (show Wp (RT _) G fun k G1 => k = false ∧ G1 = G from ?_).mono ?_
   · refine bO8 <| J4 <| bin_w <| c7 (a := .int (pre.length : Int)) (G' := G) rfl <| aI2 (as := [.str T]) rfl <| (aN6 hz).mpr <| bI8.mpr ⟨_, rfl, fun k => ?_, fun k => ⟨rfl, rfl⟩⟩
     have k := of_decide_eq_true k
     rcases t8 with _ | ⟨c, r⟩
     · simp at hl; lia
     · have nc := ho c r rfl
       refine J4 <| bK4.mpr <| c7 (a := .str ⟨#[lo]⟩) (G' := G) rfl <| bin_w <| c7 (a := .str T) (G' := G) rfl <| c7 (a := .int (pre.length : Int)) (G' := G) rfl <| cX7 h hz <| bH5.mpr ⟨_, rfl, ?_⟩
       by_cases h1 : lo ≤ c
       · rw [decide_eq_true h1, if_pos rfl]
         refine c7 (a := .str ⟨#[hi]⟩) (G' := G) rfl <| bH5.mpr ⟨_, rfl, ?_, rfl⟩
         exact decide_eq_false fun h2 => nc ⟨h1, h2⟩
       · rw [decide_eq_false h1, if_neg Bool.false_ne_true]
         exact ⟨_, rfl, rfl, rfl⟩
   · rintro _ _ ⟨rfl, rfl⟩
     rw [if_neg Bool.false_ne_true]
     exact ⟨rfl, by simp⟩
 | c :: r, pre, t8, n, hn, h, hr, ho => by
   obtain ⟨m, rfl⟩ : ∃ m, n = m + 1 := ⟨n - 1, by simp at hn; lia⟩
   have hc := hr c (List.mem_cons_self ..)
   have h' : tl T = pre ++ c :: (r ++ t8) := by rw [h, List.append_assoc]; rfl
   have hl : T.length = pre.length + (c :: (r ++ t8)).length := by rw [← Q7, h', List.length_append]
   refine aR5.mpr ?_
   refine (show Wp (RT _) G fun k G1 => k = true ∧ G1 = G from ?_).mono ?_
   · refine bO8 <| J4 <| bin_w <| c7 (a := .int (pre.length : Int)) (G' := G) rfl <| aI2 (as := [.str T]) rfl <| (aN6 hz).mpr <| bI8.mpr ⟨_, rfl, fun _ => ?_, fun k => ?_⟩
     · refine J4 <| bK4.mpr <| c7 (a := .str ⟨#[lo]⟩) (G' := G) rfl <| bin_w <| c7 (a := .str T) (G' := G) rfl <| c7 (a := .int (pre.length : Int)) (G' := G) rfl <| cX7 h' hz <| bH5.mpr ⟨_, rfl, ?_⟩
       rw [decide_eq_true hc.1, if_pos rfl]
       exact c7 (a := .str ⟨#[hi]⟩) (G' := G) rfl <| bH5.mpr ⟨_, rfl, decide_eq_true hc.2, rfl⟩
     · have k := of_decide_eq_false k
       simp at hl; lia
   · rintro _ G1 ⟨rfl, eG⟩
     rw [if_pos rfl, eG]
     clear eG
     refine c7 (a := .nx [some (.str T), a1, some (.str ⟨#[lo]⟩), some (.str ⟨#[hi]⟩), some (.int ((pre.length : Int) + 1))]) rfl ?_
     have ih := bL5 (a1 := a1) hz r (pre ++ [c]) t8 m (by simp at hn; lia) (by rw [h]; simp) (fun c hc => hr c (List.mem_cons_of_mem _ hc)) ho
     rw [List.length_append] at ih
     refine (show Wp (K8 (m + 1) RT RB [some (.str T), a1, some (.str ⟨#[lo]⟩), some (.str ⟨#[hi]⟩), some (.int ((pre.length : Int) + 1))]) G _ from ih).mono ?_
     rintro _ _ ⟨rfl, rfl⟩
     refine ⟨rfl, ?_⟩
     rw [List.length_cons]
     congr 6
     simp; lia
theorem bF6 {lo hi : Nat} {pre run t8 : List Nat} {at' : Int} (hz : T.length ≤ sizeLine) (ha : at' = pre.length) (h : tl T = pre ++ run ++ t8) (hr : ∀ c ∈ run, lo ≤ c ∧ c ≤ hi) (ho : cI6 lo hi t8) (q : Q (.int ((pre.length : Int) + run.length)) G) :
 Wp (K3 [.str T, .int at', .str ⟨#[lo]⟩, .str ⟨#[hi]⟩]) G Q := by
 subst ha
 refine o6 (show Wp (aJ2 [some (.str T), some (.int pre.length), some (.str ⟨#[lo]⟩), some (.str ⟨#[hi]⟩), none]) G _ from ?_)
 rw [dI4]
 refine v7 (G' := G) rfl <| j5.mpr <| bN4 (n := run.length + 1) <| (bL5 hz run pre t8 _ (Nat.le_refl _) h hr ho).mono ?_
 rintro _ _ ⟨rfl, rfl⟩
 exact t7 <| c7 rfl <| G9 q
theorem R8 {p : Str} {i : Int} {a b c : Fe} {σ : DSt} (ha : a σ G = some (.ok (.str T), G)) (hb : b σ G = some (.ok (.str p), G)) (hc : c σ G = some (.ok (.int i), G)) (q : Q (.bl (aL2 T p i)) G) : Wp (mtE isStrM startsD a (q10 b (q10 c q11)) σ) G Q :=
 bD1.mpr <| c7 ha <| aI4.mpr <| J8 hb <| J8 hc <| t6.mpr <| c7 (a := .bl (aL2 T p i)) rfl q
theorem aP4 {p : Str} {pre t8 : List Nat} {at' : Int} (ha : at' = pre.length) (hp : p.length ≤ sizeLine) (h : tl T = pre ++ (tl p ++ t8)) (q : Q (.int ((pre.length : Int) + p.length)) G) : Wp (M4 [.str T, .int at', .str p]) G Q := by
 subst ha
 refine o6 <| j5.mpr <| bY0 <| aB6 <| R8 (G := G) rfl rfl rfl ?_
 rw [aC4 h rfl]
 exact ⟨rfl, rfl, u0.mpr <| t7 <| bin_w <| c7 (a := .int pre.length) (G' := G) rfl <| aI2 (as := [.str p]) rfl <| (aN6 hp).mpr <| aB4.mpr <| G9 q⟩
end
section
variable {T : Str} {G : DH} {Q : DPP}
theorem cK2 {n : Nat} {z : Str} : shN (n + 1) (.str z) = 34 :: (tl z ++ [34]) := rfl
theorem aR3 {n : Nat} {i : Int} : shN (n + 1) (.int i) = nmL i := rfl
theorem dC7 {z : Str} {pre post : List Nat} (hz : T.length ≤ sizeLine) (ht : TxL z) (h : tl T = pre ++ (34 :: (tl z ++ [34])) ++ post) (q : Q (.tup [.str z, .int ((pre.length : Int) + (z.length + 2 : Nat))]) G) : Wp (F_text_at [.str T, .int pre.length]) G Q := by
 have h1 : tl T = (pre ++ [34]) ++ tl z ++ ([34] ++ post) := by rw [h]; simp
 have e1 : ((pre ++ [34]).length : Int) = (pre.length : Int) + 1 := by simp
 refine o6 <| j5.mpr <| K5 <| j8 (as := [.str T, .int ((pre.length : Int) + 1), .str ⟨#[97]⟩, .str ⟨#[122]⟩]) rfl rfl <| bF6 hz e1.symm h1 ht.1 (fun c r e => by cases e; decide) ?_
 rw [e1]
 have h2 := aR4 h1
 rw [e1] at h2
 refine t7 <| W5.mpr <| m8 <| aC3.mpr <| c7 (a := .str T) (G' := G) rfl <| c7 (a := some ((pre.length : Int) + 1)) (G' := G) rfl <| c7 (a := some ((pre.length : Int) + 1 + (tl z).length)) (G' := G) rfl <| (bI1 hz).mpr ?_
 rw [h2]
 have h3 : tl T = (pre ++ [34] ++ tl z) ++ (tl ("\"" : Str) ++ post) := by rw [h1]; simp; rfl
 refine m8 <| j8 (as := [.str T, .int ((pre.length : Int) + 1 + (tl z).length), .str ("\"" : Str)]) rfl rfl <| aP4 (by simp; lia) (by decide) h3 <| t6.mpr ⟨sz, G9 ?_⟩
 have e4 : (((pre ++ [34] ++ tl z).length : Int) + (("\"" : Str).length : Nat)) = (pre.length : Int) + (z.length + 2 : Nat) := by
  rw [List.length_append, List.length_append, Q7]
  show (((pre.length + 1 + z.length : Nat) : Int) + (1 : Nat)) = _
  lia
 rw [e4]
 exact q
theorem cT5 {i : Int} (h : smI i) (q : Q (.int i) G) : Wp (bP6 [.str (ofL (nmL i))]) G Q := by
 have e : bP6 [.str (ofL (nmL i))] = (match intText? (ofL (nmL i)) with | some n => if (ofL (nmL i)).length ≤ 640 then pure (.int n) else M.stuck | none => M.stuck : M D) := rfl
 have hl := aQ9 h
 rw [e, cS5 h]
 show Wp (if (ofL (nmL i)).length ≤ 640 then pure (.int i) else M.stuck : M D) G Q
 rw [if_pos (show (ofL (nmL i)).length ≤ 640 from Nat.le_trans hl (by decide))]
 exact f9.mpr q
theorem bZ5 {i : Int} {pre post ds : List Nat} {st : Int} (hz : T.length ≤ sizeLine) (hi : smI i) (h : tl T = pre ++ nmL i ++ post) (en : (pre.length : Int) + (nmL i).length = st + ds.length) (hd : ds ≠ []) (h40 : ds.length ≤ 40) (h0 : (aL2 T ("0" : Str) st = false) ∨ (nmL i).length = 1)
 (q : Q (.tup [.int i, .int ((pre.length : Int) + (nmL i).length)]) G) :
 Wp (seqS (ifS (orT (G5 (binE eqD (varE 3) (varE 2))) (G5 (binE gtD (binE aP7 (varE 3) (varE 2)) (cE (.int 40))))) (aB9) (nextS)) (seqS (ifS (bI4 (truthE (mtE isStrM startsD (varE 0) (q10 (cE (.str ("0" : Str))) (q10 (varE 2) (q11))))) (G5 (binE gtD (binE aP7 (varE 3) (varE 1)) (cE (.int 1))))) (aB9) (nextS)) (retS (tupE (q10 (q12 bP6 (q10 (W6 (varE 0) (W3 (varE 1)) (W3 (varE 3))) (q11))) (q10 (varE 3) (q11)))))) [some (.str T), some (.int pre.length), some (.int st), some (.int (st + ds.length))]) G (PB Q) := by
 have hp : 0 < ds.length := List.length_pos_iff.mpr hd
 refine j5.mpr <| Q0 <| dO6 <| J4 <| bin_w <| c7 (a := .int (st + ds.length)) (G' := G) rfl <| c7 (a := .int st) (G' := G) rfl <| aA4.mpr ⟨_, rfl, fun k => ?_, fun _ => J4 <| bin_w <| bin_w <| c7 (a := .int (st + ds.length)) (G' := G) rfl <| c7 (a := .int st) (G' := G) rfl <| aO0.mpr <| c7 (a := .int 40) (G' := G) rfl <| cG6.mpr ⟨_, rfl, fun k => ?_, fun _ => u0.mpr ?_⟩⟩
 · have := of_decide_eq_true k; lia
 · have := of_decide_eq_true k; lia
 · have fin : Wp (retS (tupE (q10 (q12 bP6 (q10 (W6 (varE 0) (W3 (varE 1)) (W3 (varE 3))) (q11))) (q10 (varE 3) (q11)))) [some (.str T), some (.int pre.length), some (.int st), some (.int (st + ds.length))]) G (PB Q) := by
    refine t7 <| W5.mpr <| m8 <| R6 <| m8 <| aC3.mpr <| c7 (a := .str T) (G' := G) rfl <| c7 (a := some (pre.length : Int)) (G' := G) rfl <| c7 (a := some (st + ds.length)) (G' := G) rfl <| (bI1 hz).mpr <| t6.mpr ?_
    rw [← en, aR4 h]
    refine cT5 hi <| c7 (a := [.int ((pre.length : Int) + (nmL i).length)]) (G' := G) (by rw [en]; rfl) ⟨sz, G9 q⟩
   refine j5.mpr <| Q0 <| bO8 <| aY2.mpr <| R8 (G := G) (i := st) (p := ("0" : Str)) rfl rfl rfl <| aG1.mpr ⟨fun k => ?_, fun _ => ⟨fun z => (nomatch z), fun _ => u0.mpr fin⟩⟩
   rcases h0 with h0 | h0
   · rw [h0] at k; cases k
   · exact J4 <| bin_w <| bin_w <| c7 (a := .int (st + ds.length)) (G' := G) rfl <| c7 (a := .int pre.length) (G' := G) rfl <| aO0.mpr <| c7 (a := .int 1) (G' := G) rfl <| cG6.mpr ⟨_, rfl, fun k => (by have := of_decide_eq_true k; lia), fun _ => u0.mpr fin⟩
theorem cF1 {i : Int} {pre post : List Nat} (hz : T.length ≤ sizeLine) (hi : smI i) (h : tl T = pre ++ nmL i ++ post) (ho : cI6 48 57 post) (q : Q (.tup [.int i, .int ((pre.length : Int) + (nmL i).length)]) G) : Wp (P0 [.str T, .int pre.length]) G Q := by
 have hl := aQ9 hi
 have hs : tl T = pre ++ (nmL i ++ post) := by rw [h, List.append_assoc]
 refine o6 (show Wp (aH6 [some (.str T), some (.int pre.length), none, none]) G _ from ?_)
 rcases aG3 i with ⟨m, rfl⟩ | ⟨m, hm, rfl⟩
 · have en := aV3 m
   have hb : aL2 T ("-" : Str) (pre.length : Int) = false := aD0 hs (c := 45) (ps := []) rfl fun c r e => by
    rw [en] at e
    rcases k : dg m with _ | ⟨x, y⟩
    · exact absurd k (bE4 m)
    · rw [k] at e
      have e := (List.cons.inj e).1
      have := aL3 m x (by rw [k]; exact List.mem_cons_self ..)
      lia
   refine j5.mpr <| K5 <| cJ0.mpr <| aT6 <| R8 (G := G) rfl rfl rfl ?_
   rw [hb]
   refine ⟨rfl, ?_⟩
   rw [if_neg Bool.false_ne_true]
   refine c7 (a := .int pre.length) (G' := G) rfl <| j5.mpr <| K5 <| j8 (as := [.str T, .int pre.length, .str ⟨#[48]⟩, .str ⟨#[57]⟩]) rfl rfl <| bF6 hz rfl (by rw [h, en]) (aL3 m) ho ?_
   refine bZ5 (ds := dg m) hz hi h (by rw [en]) (bE4 m) (by rw [en] at hl; lia) ?_ q
   rcases Nat.eq_zero_or_pos m with rfl | hp
   · exact .inr (by rw [en, aP8 (by decide)]; rfl)
   · refine .inl <| aD0 hs (c := 48) (ps := []) rfl fun c r e => ?_
     obtain ⟨x, y, k, h49⟩ := bJ2 m hp
     rw [en, k] at e
     cases e; lia
 · have en := aW0 m hm
   have hb : aL2 T ("-" : Str) (pre.length : Int) = true := aC4 hs (r := dg m ++ post) (by rw [en]; rfl)
   refine j5.mpr <| K5 <| cJ0.mpr <| aB6 <| R8 (G := G) rfl rfl rfl ?_
   rw [hb]
   refine ⟨rfl, ?_⟩
   rw [if_pos rfl]
   have h1 : tl T = (pre ++ [45]) ++ dg m ++ post := by rw [h, en]; simp
   have e1 : ((pre ++ [45]).length : Int) = (pre.length : Int) + 1 := by simp
   refine c7 (a := .int ((pre.length : Int) + 1)) (G' := G) rfl <| j5.mpr <| K5 <| j8 (as := [.str T, .int ((pre.length : Int) + 1), .str ⟨#[48]⟩, .str ⟨#[57]⟩]) rfl rfl <| bF6 hz e1.symm h1 (aL3 m) ho ?_
   rw [e1]
   refine bZ5 (ds := dg m) hz hi h (by rw [en, List.length_cons]; lia) (bE4 m) (by rw [en, List.length_cons] at hl; lia) (.inl ?_) q
   rw [← e1]
   refine aD0 (t8 := dg m ++ post) (by rw [h1, List.append_assoc]) (c := 48) (ps := []) rfl fun c r e => ?_
   obtain ⟨x, y, k, h49⟩ := bJ2 m hm
   rw [k] at e
   cases e; lia
end
theorem Gr.ap {G G' : DH} (h : Gr G G') : Ap G G' := by
 refine ⟨G'.drop G.length, ?_⟩
 refine List.ext_getElem? fun i => ?_
 rcases Nat.lt_or_ge i G.length with c | c
 · rw [List.getElem?_append_left c]; exact h.2 i c
 · rw [List.getElem?_append_right c, List.getElem?_drop]
   congr 1; lia
theorem cT1 {G : DH} {σ : DSt} {fs : DSt → M (List D)} {R : Src → DH → Prop} : Wp (bC5 fs σ) G R ↔ Wp (fs σ) G fun xs G1 => Wp (match xs with
 | [a, b] => do
   let s1 ← aB3 a
   let s2 ← aB3 b
   pure ⟨(s1.items.zip s2.items).map fun p => .tup [p.1, p.2], fun G => s1.ck G && s2.ck G⟩
 | _ => M.stuck : M Src) G1 R := by
 unfold bC5; simp only [j6] <;> rfl
theorem cQ1 {G : DH} {p q : Nat} {k l : List D} {R : Src → DH → Prop} (ep : G[p]? = some (.lst k)) (eq : G[q]? = some (.lst l)) : Wp (match [D.ref p, D.ref q] with
 | [a, b] => do
   let s1 ← aB3 a
   let s2 ← aB3 b
   pure ⟨(s1.items.zip s2.items).map fun p => .tup [p.1, p.2], fun G => s1.ck G && s2.ck G⟩
 | _ => M.stuck : M Src) G R ↔ R ⟨(k.zip l).map fun p => .tup [p.1, p.2], fun G => ckO p (.lst k) G && ckO q (.lst l) G⟩ G := by
 show Wp (do
  let s1 ← aB3 (.ref p)
  let s2 ← aB3 (.ref q)
  pure ⟨(s1.items.zip s2.items).map fun p => .tup [p.1, p.2], fun G => s1.ck G && s2.ck G⟩ : M Src) G R ↔ _
 simp only [j6]
 rw [aU3 (σ := []) ep, aU3 (σ := []) eq]
 exact f9
theorem cM4 {α : Type} {R : α → α → Prop} : ∀ {l : List α}, l.Pairwise R → ∀ p ∈ l.zip (l.drop 1), R p.1 p.2
 | [], _, p, hp => by cases hp
 | [x], _, p, hp => by cases hp
 | x :: y :: r, h, p, hp => by
   have h' := List.pairwise_cons.mp h
   rcases List.mem_cons.mp (show p ∈ (x, y) :: (y :: r).zip r from hp) with rfl | hp
   · exact h'.1 _ (by simp)
   · exact cM4 (l := y :: r) h'.2 p hp
theorem cP9 {G : DH} {p : Nat} {l : List D} {lo hi : Option Int} {Q : DPP} (e : G[p]? = some (.lst l)) : Wp (slT (.ref p) lo hi) G Q ↔ Q (.ref G.length) (G ++ [.lst (DL.cutD l lo hi)]) := cZ1 e
noncomputable def SqD (G : DH) (d : D) (l : List D) : Prop := d = .tup l ∨ ∃ p, d = .ref p ∧ G[p]? = some (.lst l)
theorem dC1 {d : D} {l : List D} {e : Fe} {G : DH} {Q : DPP} (hd : SqD G d l) (hl : l.length ≤ 10000)
 (h : ∀ p ∈ l.zip (l.drop 1), ∀ G1, Ap G G1 → Wp (e [some p.1, some p.2]) G1 fun y G2 => y = .bl true ∧ Ap G1 G2) (q : ∀ G', Ap G G' → Q (.bl true) G') :
 Wp (q12 bG4 (q10 (R9 (bC5 (q10 (varE 0) (q10 (W6 (varE 0) (W3 (cE (.int 1))) (aQ6)) (q11)))) [none, none] (bN1 2 (Z9 (q13 0) (Z9 (q13 1) (bO2)))) (V1) e) (q11)) [some d]) G Q := by
 have bg := big
 have hz : (l.zip (l.drop 1)).length ≤ sizeLine := by rw [List.length_zip]; lia
 have main : ∀ (ck : DH → Bool) (G0 : DH), Ap G G0 → (∀ G', Ap G0 G' → ck G' = true) → Wp (K9 (bN1 2 (Z9 (q13 0) (Z9 (q13 1) (bO2)))) V1 e ck ((l.zip (l.drop 1)).map fun p => .tup [p.1, p.2]) [none, none]) G0 fun ys G2 => Wp (q11 [some d]) (G2 ++ [.lst ys]) fun xs G3 => Wp (bG4 (.ref G2.length :: xs)) G3 Q := by
  intro ck G0 j0 hck
  refine (S9 (Ap G0) (fun σ => ∃ u v, σ = [u, v]) (fun _ => .bl true) hck _ _ G0 ⟨_, _, rfl⟩ Ap.refl ?_).mono ?_
  · rintro d hd _ G1 ⟨u, v, rfl⟩ j
    obtain ⟨p, hp, rfl⟩ := List.mem_map.mp hd
    exact c7 (a := [some p.1, some p.2]) rfl ⟨rfl, ⟨_, _, rfl⟩, c7 (a := true) rfl ⟨rfl, rfl, (h p hp G1 (j0.trans j)).mono fun y G2 q => ⟨j.trans q.2, q.1⟩⟩⟩
  · rintro _ G2 ⟨j, rfl⟩
    refine t6.mpr ((cI0 (l := (l.zip (l.drop 1)).map fun p => .tup [p.1, p.2]) (f := fun _ => true) o9).mpr ?_)
    rw [List.all_eq_true.mpr fun _ _ => rfl]
    exact q _ ((j0.trans j).trans Ap.one)
 refine R6 <| m8 <| wp_comp.mpr ?_
 rcases hd with rfl | ⟨p, rfl, ep⟩
 · refine c7 (a := ⟨(l.zip (DL.cutD l (some 1) none)).map fun p => .tup [p.1, p.2], fun _ => true && true⟩) (G' := G) rfl ?_
   rw [cW4]
   exact ⟨by rw [List.length_map]; exact hz, main _ G Ap.refl fun _ _ => rfl⟩
 · refine cT1.mpr <| J8 (x := .ref p) rfl <| m8 <| aC3.mpr <| c7 (a := .ref p) rfl <| cV6.mpr <| c7 (a := .int 1) rfl ⟨1, rfl, cA1.mpr <| (cP9 ep).mpr <| t6.mpr <| (cQ1 (Z7 ep) o9).mpr ?_⟩
   rw [cW4]
   refine ⟨by rw [List.length_map]; exact hz, main _ _ Ap.one fun G' j => ?_⟩
   have h1 := j.at (Z7 ep)
   have h2 := j.at (o9 (G := G) (o := DO.lst (l.drop 1)))
   simp only [ckO, h1, h2]
   simp
theorem cI9 {d : D} {l : List D} {G : DH} {Q : DPP} (hd : SqD G d l) (hl : l.length ≤ 10000) (h : l.Pairwise fun a b => ∀ G, ltN 40 G a b = some true) (q : ∀ G', Ap G G' → Q (.bl true) G') : Wp (W4 [d]) G Q :=
 o6 <| t7 <| dC1 hd hl (fun p hp G1 j => bin_w <| c7 rfl <| c7 rfl <| cX4.mpr ⟨true, cM4 h p hp G1, rfl, Ap.refl⟩) fun G' a => G9 (q G' a)
theorem cQ7 {ss : List Str} (h : ss.Pairwise LtS) : (ss.map D.str).Pairwise fun a b => ∀ G, ltN 40 G a b = some true :=
 List.pairwise_map.mpr (h.imp fun {a b} q G => (show ltN 40 G (.str a) (.str b) = some (decide (a.cps.toList < b.cps.toList)) from rfl).trans (by rw [decide_eq_true (show a.cps.toList < b.cps.toList from q)]))
noncomputable def hd0 : D → D
 | .tup (x :: _) => x
 | _ => .non
def PT : DSt → M Bool := (truthE (cE (.bl true)))
theorem dJ4 (R : List D → M D) : aF1 R = seqS (ifS (truthE (mtE isStrM startsD (varE 0) (q10 (varE 2) (q10 (varE 1) (q11))))) (retS (tupE (q10 (tupE (q11)) (q10 (binE addD (varE 1) (q12 lenF (q10 (varE 2) (q11)))) (q11))))) (nextS)) (seqS (J0 (aA3 (q11)) (q13 5)) (aG4 PT (PW R))) := rfl
theorem cP8 {i n : Nat} {tab : Str → Option (List D → M D)} {fs : DSt → M (List D)} {σ : DSt} {x : Str} {F : List D → M D} {G : DH} {Q : DPP} (h : σ[i]? = some (some (.fn x))) (ht : tab x = some F) (w : Wp (fs σ) G fun ds G1 => ds.length = n ∧ Wp (F ds) G1 Q) : Wp (aS5 i n tab fs σ) G Q := by
 have e : aS5 i n tab fs σ = (fs σ >>= fnX n F) := by
  delta aS5
  rw [h]
  show (match tab x with | some F => fs σ >>= fnX n F | none => M.stuck : M D) = _
  rw [ht]
 rw [e]
 exact j6.mpr (w.mono fun ds G1 q => aB1.mpr q)
def bM4 (T : Str) (F : List D → M D) (dp : Int) (t : List Nat) (d : D) : Prop := ∀ {pre post : List Nat} {G : DH} {Q : DPP}, tl T = pre ++ t ++ post → cI6 48 57 post → (∀ G', Ap G G' → Q (.tup [d, .int ((pre.length : Int) + t.length)]) G') → Wp (F [.str T, .int pre.length, .int dp]) G Q
section
variable {T : Str} {R F : List D → M D} {x : Str} {dp : Int} {f : D → List Nat} {cl : Nat} {G0 : DH} {c : Nat}
noncomputable abbrev pS (T : Str) (at' : Int) (cl : Nat) (x : Str) (dp : Int) (c : Nat) (u : Option D) : DSt := [some (.str T), some (.int at'), some (.str ⟨#[cl]⟩), some (.fn x), some (.int dp), some (.ref c), u]
theorem aU9 (hz : T.length ≤ sizeLine) (ht : bF2 "value_at" "pair_at" R (K1 R) x = some F) (h44 : cl ≠ 44) (hcl : ¬ (48 ≤ cl ∧ cl ≤ 57)) (hle : G0.length ≤ c) : ∀ (xs dn : List D) (y : D) (pre post : List Nat) (u : Option D) (n : Nat) (G : DH), xs.length < n → (∀ x ∈ y :: xs, bM4 T F dp (f x) x) → tl T = pre ++ (f y ++ (glL [44, 32] (xs.map f) ++ (cl :: post))) → Gr G0 G → G[c]? = some (.lst dn) → dn.length + xs.length < 1000 →
 Wp (K8 n PT (PW R) (pS T pre.length cl x dp c u)) G fun fl G' => Gr G0 G' ∧ fl = .rt (.tup [.tup (dn ++ y :: xs), .int ((pre.length : Int) + (f y ++ glL [44, 32] (xs.map f)).length + 1)])
 | xs, dn, y, pre, post, u, 0, G, hn, hr, h, g, e, hl => by lia
 | xs, dn, y, pre, post, u, n + 1, G, hn, hr, h, g, e, hl => by
   have bg := big
   refine aR5.mpr <| c7 (a := true) (G' := G) rfl ?_
   rw [if_pos rfl]
   have h1 : tl T = pre ++ f y ++ (glL [44, 32] (xs.map f) ++ (cl :: post)) := by rw [h, List.append_assoc]
   have ho : cI6 48 57 (glL [44, 32] (xs.map f) ++ (cl :: post)) := by
    intro a r ea
    rcases xs with _ | ⟨z, t⟩
    · have ea : cl = a := (List.cons.inj ea).1
      rw [← ea]; exact hcl
    · have ea : 44 = a := (List.cons.inj ea).1
      rw [← ea]; decide
   refine j5.mpr <| K5 <| cP8 rfl ht <| c7 (a := [.str T, .int pre.length, .int dp]) (G' := G) rfl ⟨rfl, hr y (List.mem_cons_self ..) h1 ho fun G1 j1 => ?_⟩
   have e1 := j1.at e
   refine j5.mpr <| cU6.mpr <| bD1.mpr <| c7 (a := .ref c) (G' := G1) rfl <| (bS3 e1).mpr <| c7 (a := [y]) (G' := G1) rfl <| (bQ4 e1 (by lia)).mpr ?_
   have e2 : (G1.set c (.lst (dn ++ [y])))[c]? = some (.lst (dn ++ [y])) := List.getElem?_set_self (lt_of_get e1)
   have g2 : Gr G0 (G1.set c (.lst (dn ++ [y]))) := (g.trans j1.gr).set hle
   generalize G1.set c (.lst (dn ++ [y])) = G2 at e2 g2
   have el : ((pre ++ f y).length : Int) = (pre.length : Int) + (f y).length := by simp
   rcases xs with _ | ⟨z, t⟩
   · have hb : aL2 T ⟨#[cl]⟩ ((pre.length : Int) + (f y).length) = true := by
      rw [← el]
      exact aC4 (t8 := cl :: post) (r := post) (by rw [h1]; rfl) rfl
     refine j5.mpr <| Q0 <| aB6 <| R8 (G := G2) rfl rfl rfl ?_
     rw [hb]
     refine ⟨rfl, fun _ => t7 <| W5.mpr <| m8 <| aI2 (as := [.ref c]) rfl <| (Z1 e2).mpr <| c7 (a := [.int ((pre.length : Int) + (f y).length + 1)]) (G' := G2) rfl ⟨sz, g2, ?_⟩, fun z => nomatch z⟩
     simp [glL]
   · have hb : aL2 T ⟨#[cl]⟩ ((pre.length : Int) + (f y).length) = false := by
      rw [← el]
      exact aD0 h1 (c := cl) (ps := []) rfl fun a r ea => by
       have ea : 44 = a := (List.cons.inj ea).1
       rw [← ea]; exact Ne.symm h44
     refine j5.mpr <| Q0 <| aT6 <| R8 (G := G2) rfl rfl rfl ?_
     rw [hb]
     refine ⟨rfl, fun z => (nomatch z), fun _ => u0.mpr ?_⟩
     have h2 : tl T = (pre ++ f y) ++ (tl (", " : Str) ++ (f z ++ (glL [44, 32] (t.map f) ++ (cl :: post)))) := by rw [h1]; simp [glL]; rfl
     refine K5 <| j8 (as := [.str T, .int ((pre.length : Int) + (f y).length), .str (", " : Str)]) rfl rfl <| aP4 el.symm (by decide) h2 ?_
     have el2 : (((pre ++ f y).length : Int) + ((", " : Str).length : Nat)) = ((pre ++ f y ++ [44, 32]).length : Int) := by
      rw [List.length_append (as := pre ++ f y)]
      show _ + ((2 : Nat) : Int) = _
      simp
     rw [el2]
     have h3 : tl T = (pre ++ f y ++ [44, 32]) ++ (f z ++ (glL [44, 32] (t.map f) ++ (cl :: post))) := by rw [h2, List.append_assoc (as := pre ++ f y)]; rfl
     refine (aU9 hz ht h44 hcl hle t (dn ++ [y]) z _ post _ n G2 (by simp at hn; lia) (fun x hx => hr x (List.mem_cons_of_mem _ hx)) h3 g2 e2 (by simp at hl ⊢; lia)).mono ?_
     rintro _ G3 ⟨g3, rfl⟩
     refine ⟨g3, ?_⟩
     rw [List.append_assoc]
     have : ((pre ++ f y ++ [44, 32]).length : Int) + (f z ++ glL [44, 32] (t.map f)).length + 1 = (pre.length : Int) + (f y ++ glL [44, 32] ((z :: t).map f)).length + 1 := by
      simp [glL]; lia
     rw [this]; rfl
theorem bW2 (hz : T.length ≤ sizeLine) (ht : bF2 "value_at" "pair_at" R (K1 R) x = some F) (h44 : cl ≠ 44) (hcl : ¬ (48 ≤ cl ∧ cl ≤ 57)) {xs : List D} {pre post : List Nat} {at' : Int} {G : DH} {Q : DPP} (ha : at' = pre.length) (hr : ∀ x ∈ xs, bM4 T F dp (f x) x) (hh : ∀ x ∈ xs, f x ≠ [] ∧ hdN cl (f x)) (hl : xs.length ≤ 100) (h : tl T = pre ++ (N5 [44, 32] (xs.map f) ++ (cl :: post)))
 (q : ∀ G', Ap G G' → Q (.tup [.tup xs, .int ((pre.length : Int) + (N5 [44, 32] (xs.map f)).length + 1)]) G') : Wp (Q5 R [.str T, .int at', .str ⟨#[cl]⟩, .fn x, .int dp]) G Q := by
 subst ha
 refine o6 (show Wp (aF1 R [some (.str T), some (.int pre.length), some (.str ⟨#[cl]⟩), some (.fn x), some (.int dp), none, none]) G _ from ?_)
 rw [dJ4]
 rcases xs with _ | ⟨y, t⟩
 · have hb : aL2 T ⟨#[cl]⟩ (pre.length : Int) = true := aC4 (t8 := cl :: post) (r := post) h rfl
   refine j5.mpr <| Q0 <| aB6 <| R8 (G := G) rfl rfl rfl ?_
   rw [hb]
   exact ⟨rfl, fun _ => t7 <| c7 (a := .tup [.tup [], .int ((pre.length : Int) + 1)]) (G' := G) rfl <| G9 (by have := q G Ap.refl; simpa [N5] using this), fun z => nomatch z⟩
 · have hy := hh y (List.mem_cons_self ..)
   have hb : aL2 T ⟨#[cl]⟩ (pre.length : Int) = false := aD0 h (c := cl) (ps := []) rfl fun a r ea => by
    rcases k : f y with _ | ⟨b, s⟩
    · exact absurd k hy.1
    · have ea : b = a := by
       have ea : (f y ++ glL [44, 32] (t.map f)) ++ (cl :: post) = a :: r := ea
       rw [k] at ea
       exact (List.cons.inj ea).1
      rw [← ea]; exact hy.2 b s k
   refine j5.mpr <| Q0 <| aT6 <| R8 (G := G) rfl rfl rfl ?_
   rw [hb]
   refine ⟨rfl, fun z => (nomatch z), fun _ => u0.mpr ?_⟩
   refine v7 (σ' := pS T pre.length cl x dp G.length none) (G' := G ++ [.lst []]) rfl <| bN4 (n := t.length + 1) <| (aU9 (G0 := G) (f := f) hz ht h44 hcl (Nat.le_refl _) t [] y pre post none (t.length + 1) _ (by lia) hr (by rw [h]; show _ = pre ++ (f y ++ (_ ++ _)); rw [← List.append_assoc (f y)]; rfl) Gr.app o9 (by simp at hl ⊢; lia)).mono ?_
   rintro _ G1 ⟨g1, rfl⟩
   exact G9 (q G1 g1.ap)
end
section
variable {T : Str} {R : List D → M D} {dp : Int}
theorem dH5 : bF2 "value_at" "pair_at" R (K1 R) "value_at" = some R := by unfold bF2; rw [if_pos rfl]
theorem dK8 : bF2 "value_at" "pair_at" R (K1 R) "pair_at" = some (K1 R) := by unfold bF2; rw [if_neg (by decide), if_pos rfl]
theorem bT7 {f : D → List Nat} {p : Str × D} (hz : T.length ≤ sizeLine) (hn : TxL p.1 ∧ tl p.1 ≠ []) (h : bM4 T R dp (f p.2) p.2) : bM4 T (K1 R) dp (shQ f (prD p)) (prD p) := by
 intro pre post G Q ht ho q
 have e0 : shQ f (prD p) = tl p.1 ++ [58, 32] ++ f p.2 := rfl
 rw [e0] at ht q
 have h1 : tl T = pre ++ tl p.1 ++ ([58, 32] ++ f p.2 ++ post) := by rw [ht]; simp
 have np : 0 < (tl p.1).length := List.length_pos_iff.mpr hn.2
 refine o6 <| j5.mpr <| K5 <| j8 (as := [.str T, .int pre.length, .str ⟨#[97]⟩, .str ⟨#[122]⟩]) rfl rfl <| bF6 hz rfl h1 hn.1.1 (fun c r e => by cases e; decide) ?_
 refine j5.mpr <| Q0 <| J4 <| bin_w <| c7 (a := .int ((pre.length : Int) + (tl p.1).length)) (G' := G) rfl <| c7 (a := .int pre.length) (G' := G) rfl <| aA4.mpr ⟨_, rfl, fun k => (by have := of_decide_eq_true k; lia), fun _ => u0.mpr ?_⟩
 have el : ((pre ++ tl p.1).length : Int) = (pre.length : Int) + (tl p.1).length := by simp
 have h2 : tl T = (pre ++ tl p.1) ++ (tl (": " : Str) ++ (f p.2 ++ post)) := by rw [h1]; simp; rfl
 have el2 : (((pre ++ tl p.1).length : Int) + ((": " : Str).length : Nat)) = ((pre ++ tl p.1 ++ [58, 32]).length : Int) := by
  rw [List.length_append (as := pre ++ tl p.1)]
  show _ + ((2 : Nat) : Int) = _
  simp
 refine j5.mpr <| K5 <| R6 <| J8 (x := .str T) rfl <| m8 <| j8 (as := [.str T, .int ((pre.length : Int) + (tl p.1).length), .str (": " : Str)]) rfl rfl <| aP4 el.symm (by decide) h2 <| c7 (a := [.int dp]) (G' := G) rfl <| aB1.mpr ⟨rfl, ?_⟩
 rw [el2]
 have h3 : tl T = (pre ++ tl p.1 ++ [58, 32]) ++ f p.2 ++ post := by rw [h2]; simp; rfl
 refine h h3 ho fun G1 j1 => ?_
 refine t7 <| W5.mpr <| m8 <| W5.mpr <| m8 <| aC3.mpr <| c7 (a := .str T) (G' := G1) rfl <| c7 (a := some (pre.length : Int)) (G' := G1) rfl <| c7 (a := some ((pre.length : Int) + (tl p.1).length)) (G' := G1) rfl <| (bI1 hz).mpr ?_
 rw [aR4 h1]
 refine c7 (a := [p.2]) (G' := G1) rfl ⟨sz, c7 (a := [.int (((pre ++ tl p.1 ++ [58, 32]).length : Int) + (f p.2).length)]) (G' := G1) rfl ⟨sz, G9 ?_⟩⟩
 have e4 : ((pre ++ tl p.1 ++ [58, 32]).length : Int) + (f p.2).length = (pre.length : Int) + (tl p.1 ++ [58, 32] ++ f p.2).length := by simp; lia
 rw [e4]
 exact q G1 j1
theorem cU3 {ps : List (Str × D)} {G : DH} {Q : DPP} (hl : ps.length ≤ 100) (q : Q (.ref G.length) (G ++ [.lst ((ps.map (·.1)).map D.str)])) : Wp (Q3 [.tup (ps.map prD)]) G Q := by
 refine o6 <| t7 <| aH4 (l := ps.map prD) (G1 := G) rfl (by rw [List.length_map]; lia) <| (S9 (fun G2 => G2 = G) One hd0 (fun _ _ => rfl) _ _ G ⟨_, rfl⟩ rfl ?_).mono ?_
 · rintro d hd _ _ ⟨u, rfl⟩ rfl
   obtain ⟨f, hf, rfl⟩ := List.mem_map.mp hd
   exact aP2 ⟨_, rfl⟩ (c7 (a := .str f.1) rfl ⟨rfl, rfl⟩)
 · rintro _ _ ⟨rfl, rfl⟩
   rw [List.map_map] at q ⊢
   exact G9 q
theorem S6 {p : Str} {pre t8 : List Nat} {G : DH} {P : Fl → DH → Prop} {X Y : Fs} {c : Nat} {ps : List Nat} (h : tl T = pre ++ t8) (hp : tl p = c :: ps) (k : hdN c t8) (w : Wp (Y [some (.str T), some (.int pre.length), some (.int dp)]) G P) :
 Wp (seqS (ifS (truthE (mtE isStrM startsD (varE 0) (q10 (cE (.str p)) (q10 (varE 1) (q11))))) X (nextS)) Y [some (.str T), some (.int pre.length), some (.int dp)]) G P := by
 refine j5.mpr <| Q0 <| aT6 <| R8 (G := G) (T := T) (p := p) (i := pre.length) rfl rfl rfl ?_
 rw [aD0 h hp k]
 exact ⟨rfl, fun z => (nomatch z), fun _ => u0.mpr w⟩
theorem aO3 {p : Str} {pre t8 r : List Nat} {G : DH} {P : Fl → DH → Prop} {e : Fe} {Y : Fs} (h : tl T = pre ++ t8) (k : t8 = tl p ++ r) (w : Wp (e [some (.str T), some (.int pre.length), some (.int dp)]) G fun d G1 => P (.rt d) G1) :
 Wp (seqS (ifS (truthE (mtE isStrM startsD (varE 0) (q10 (cE (.str p)) (q10 (varE 1) (q11))))) (retS e) (nextS)) Y [some (.str T), some (.int pre.length), some (.int dp)]) G P := by
 refine j5.mpr <| Q0 <| aB6 <| R8 (G := G) (T := T) (p := p) (i := pre.length) rfl rfl rfl ?_
 rw [aC4 h k]
 exact ⟨rfl, fun _ => t7 w, fun z => nomatch z⟩
theorem Q9 {c d : Nat} {r : List Nat} (h : d ≠ c) : hdN c (d :: r) := fun a s e => by
 have := (List.cons.inj e).1
 rw [← this]; exact h
theorem cW1 {n : Nat} {d : D} (h : GV n d) : ∃ c r, shN n d = c :: r ∧ (c = 91 ∨ c = 123 ∨ c = 34 ∨ c = 116 ∨ c = 102 ∨ c = 45 ∨ (48 ≤ c ∧ c ≤ 57)) := by
 cases h with
 | @i n i hi =>
   rw [aR3]
   rcases aG3 i with ⟨m, rfl⟩ | ⟨m, hm, rfl⟩
   · rw [aV3]
     rcases k : dg m with _ | ⟨x, y⟩
     · exact absurd k (bE4 m)
     · exact ⟨x, y, rfl, by have := aL3 m x (by rw [k]; exact List.mem_cons_self ..); lia⟩
   · rw [aW0 m hm]; exact ⟨45, _, rfl, by lia⟩
 | @b n k => rcases k with _ | _ <;> exact ⟨_, _, rfl, by decide⟩
 | @s n z hs => exact ⟨34, _, rfl, by lia⟩
 | @l n l hl hx => rw [bJ3]; exact ⟨91, _, rfl, by lia⟩
 | @r n ps hl hp hn hx => rw [bG7]; exact ⟨123, _, rfl, by lia⟩
end
theorem dL3 {T : Str} (hz : T.length ≤ sizeLine) : ∀ {n N : Nat} {d : D} {dp : Int}, GV n d → n ≤ N → dp + n ≤ 21 → bM4 T (aA5 N) dp (shN n d) d := by
 intro n
 induction n with
 | zero => intro N d dp h; cases h
 | succ n ih =>
   intro N d dp h hN hd pre post G Q ht ho q
   obtain ⟨M, rfl⟩ : ∃ M, N = M + 1 := ⟨N - 1, by lia⟩
   have bg := big
   have ht' : tl T = pre ++ (shN (n + 1) d ++ post) := by rw [ht, List.append_assoc]
   refine o6 (show Wp (aF3 (aA5 M) [some (.str T), some (.int pre.length), some (.int dp)]) G _ from ?_)
   refine j5.mpr <| Q0 <| J4 <| bin_w <| c7 (a := .int dp) (G' := G) rfl <| c7 (a := .int 20) (G' := G) rfl <| cG6.mpr ⟨_, rfl, fun k => (by have := of_decide_eq_true k; lia), fun _ => u0.mpr ?_⟩
   cases h with
   | @i _ i hi =>
     obtain ⟨c, r, e, hc⟩ := cW1 (GV.i (n := n) hi)
     have hs : tl T = pre ++ (c :: (r ++ post)) := by rw [ht', e]; rfl
     have hc : c = 45 ∨ (48 ≤ c ∧ c ≤ 57) := by
      rcases aG3 i with ⟨m, rfl⟩ | ⟨m, hm, rfl⟩
      · rw [aR3, aV3] at e
        have := aL3 m c (by rw [e]; exact List.mem_cons_self ..)
        exact .inr this
      · rw [aR3, aW0 m hm] at e
        exact .inl (List.cons.inj e).1.symm
     refine S6 hs (c := 91) (ps := []) rfl (Q9 (by lia)) <| S6 hs (c := 123) (ps := []) rfl (Q9 (by lia)) <| S6 hs (c := 34) (ps := []) rfl (Q9 (by lia)) <| S6 hs (c := 116) (ps := [114, 117, 101]) rfl (Q9 (by lia)) <| S6 hs (c := 102) (ps := [97, 108, 115, 101]) rfl (Q9 (by lia)) ?_
     exact t7 <| j8 (as := [.str T, .int pre.length]) rfl rfl <| cF1 hz hi ht ho <| G9 (q G Ap.refl)
   | @b _ k =>
     rcases k with _ | _
     · have hs : tl T = pre ++ (102 :: ([97, 108, 115, 101] ++ post)) := ht'
       refine S6 hs (c := 91) (ps := []) rfl (Q9 (by decide)) <| S6 hs (c := 123) (ps := []) rfl (Q9 (by decide)) <| S6 hs (c := 34) (ps := []) rfl (Q9 (by decide)) <| S6 hs (c := 116) (ps := [114, 117, 101]) rfl (Q9 (by decide)) <| aO3 (r := post) hs rfl ?_
       exact c7 (a := .tup [.bl false, .int ((pre.length : Int) + 5)]) (G' := G) rfl <| G9 (q G Ap.refl)
     · have hs : tl T = pre ++ (116 :: ([114, 117, 101] ++ post)) := ht'
       refine S6 hs (c := 91) (ps := []) rfl (Q9 (by decide)) <| S6 hs (c := 123) (ps := []) rfl (Q9 (by decide)) <| S6 hs (c := 34) (ps := []) rfl (Q9 (by decide)) <| aO3 (r := post) hs rfl ?_
       exact c7 (a := .tup [.bl true, .int ((pre.length : Int) + 4)]) (G' := G) rfl <| G9 (q G Ap.refl)
   | @s _ z hs =>
     rw [cK2] at ht ht' q
     refine S6 ht' (c := 91) (ps := []) rfl (Q9 (by decide)) <| S6 ht' (c := 123) (ps := []) rfl (Q9 (by decide)) <| aO3 (r := tl z ++ [34] ++ post) ht' rfl ?_
     refine j8 (as := [.str T, .int pre.length]) rfl rfl <| dC7 hz hs ht <| G9 ?_
     have e : (34 :: (tl z ++ [34])).length = z.length + 2 := by rw [List.length_cons, List.length_append, Q7]; rfl
     rw [← e]
     exact q G Ap.refl
   | @l _ l hl hx =>
     rw [bJ3] at ht ht' q
     refine aO3 (r := N5 [44, 32] (l.map (shN n)) ++ [93] ++ post) ht' rfl ?_
     have h1 : tl T = (pre ++ [91]) ++ (N5 [44, 32] (l.map (shN n)) ++ (93 :: post)) := by rw [ht']; simp
     have e1 : (pre.length : Int) + 1 = ((pre ++ [91]).length : Int) := by simp
     refine j8 (as := [.str T, .int pre.length, .int dp]) rfl rfl <| o6 <| j5.mpr <| K5 <| j8 (as := [.str T, .int ((pre.length : Int) + 1), .str ⟨#[93]⟩, .fn "value_at", .int (dp + 1)]) rfl rfl <| bW2 hz dH5 (by decide) (by decide) e1 (fun x hxl => ih (hx x hxl) (by lia) (by lia)) (fun x hxl => ?_) hl h1 fun G1 j1 => ?_
     · obtain ⟨c, r, e, hc⟩ := cW1 (hx x hxl)
       rw [e]
       exact ⟨List.cons_ne_nil _ _, Q9 (by lia)⟩
     · refine t7 <| c7 (a := .tup [.tup [.str N6, .tup l], .int (((pre ++ [91]).length : Int) + (N5 [44, 32] (l.map (shN n))).length + 1)]) (G' := G1) rfl <| G9 <| G9 ?_
       have e4 : ((pre ++ [91]).length : Int) + (N5 [44, 32] (l.map (shN n))).length + 1 = (pre.length : Int) + (91 :: (N5 [44, 32] (l.map (shN n)) ++ [93])).length := by simp; lia
       rw [e4]
       exact q G1 j1
   | @r _ ps hl hp hn hx =>
     rw [bG7] at ht ht' q
     refine S6 ht' (c := 91) (ps := []) rfl (Q9 (by decide)) <| aO3 (r := N5 [44, 32] ((ps.map prD).map (shQ (shN n))) ++ [125] ++ post) ht' rfl ?_
     have h1 : tl T = (pre ++ [123]) ++ (N5 [44, 32] ((ps.map prD).map (shQ (shN n))) ++ (125 :: post)) := by rw [ht']; simp
     have e1 : (pre.length : Int) + 1 = ((pre ++ [123]).length : Int) := by simp
     refine j8 (as := [.str T, .int pre.length, .int dp]) rfl rfl <| o6 <| j5.mpr <| K5 <| j8 (as := [.str T, .int ((pre.length : Int) + 1), .str ⟨#[125]⟩, .fn "pair_at", .int (dp + 1)]) rfl rfl <| bW2 hz dK8 (by decide) (by decide) e1 (fun x hxl => ?_) (fun x hxl => ?_) (by rw [List.length_map]; exact hl) h1 fun G1 j1 => ?_
     · obtain ⟨p, hpl, rfl⟩ := List.mem_map.mp hxl
       exact bT7 hz (hn p hpl) (ih (hx p hpl) (by lia) (by lia))
     · obtain ⟨p, hpl, rfl⟩ := List.mem_map.mp hxl
       have hnp := hn p hpl
       show (tl p.1 ++ [58, 32] ++ shN n p.2) ≠ [] ∧ hdN 125 (tl p.1 ++ [58, 32] ++ shN n p.2)
       rcases k : tl p.1 with _ | ⟨a, s⟩
       · exact absurd k hnp.2
       · have := hnp.1.1 a (by rw [k]; exact List.mem_cons_self ..)
         exact ⟨List.cons_ne_nil _ _, Q9 (by lia)⟩
     · refine j5.mpr <| bY0 <| aB6 <| R6 <| m8 <| j8 (as := [.tup (ps.map prD)]) rfl rfl <| cU3 hl <| t6.mpr <| aB1.mpr ⟨rfl, ?_⟩
       refine cI9 (.inr ⟨_, rfl, o9⟩) (by rw [List.length_map, List.length_map]; lia) (cQ7 hp) fun G2 j2 => ⟨rfl, rfl, u0.mpr ?_⟩
       refine t7 <| c7 (a := .tup [.tup [.str aC5, .tup (ps.map prD)], .int (((pre ++ [123]).length : Int) + (N5 [44, 32] ((ps.map prD).map (shQ (shN n)))).length + 1)]) (G' := G2) rfl <| G9 <| G9 ?_
       have e4 : ((pre ++ [123]).length : Int) + (N5 [44, 32] ((ps.map prD).map (shQ (shN n)))).length + 1 = (pre.length : Int) + (123 :: (N5 [44, 32] ((ps.map prD).map (shQ (shN n))) ++ [125])).length := by simp; lia
       rw [e4]
       exact q G2 ((j1.trans Ap.one).trans j2)
def AL (N : Nat) (d : D) : Prop := ∀ {G : DH} {Q : DPP}, (∀ G', Ap G G' → Q (.bl true) G') → Wp (Z0 N [d, d]) G Q
theorem cZ8 {N : Nat} {i : Int} : AL (N + 1) (.int i) := fun {G Q} q => o6 <| v7 (σ' := [some (.int i), some (.int i)]) (G' := G) rfl <| j5.mpr <| Q0 <| c7 (a := true) (G' := G) rfl ⟨fun _ => t7 <| bin_w <| c7 (a := .int i) (G' := G) rfl <| c7 (a := .int i) (G' := G) rfl <| aA4.mpr <| by rw [decide_eq_true rfl]; exact G9 (q G Ap.refl), fun z => nomatch z⟩
theorem dM6 {N : Nat} {k : Bool} : AL (N + 1) (.bl k) := fun {G Q} q => by
 rcases k with _ | _ <;> exact bJ1 (d := .bl true) rfl (q G Ap.refl)
theorem bH9 {N : Nat} {z : Str} : AL (N + 1) (.str z) := fun {G Q} q => o6 <| v7 (σ' := [some (.str z), some (.str z)]) (G' := G) rfl <| j5.mpr <| Q0 <| c7 (a := true) (G' := G) rfl ⟨fun _ => t7 <| bin_w <| c7 (a := .str z) (G' := G) rfl <| c7 (a := .str z) (G' := G) rfl <| cH4.mpr ⟨z == z, rfl, by rw [beq_self_eq_true]; exact G9 (q G Ap.refl)⟩, fun z => nomatch z⟩
theorem bQ0 {N : Nat} {l : List D} (hl : l.length ≤ 100) (h : ∀ x ∈ l, AL N x) : AL (N + 1) (.tup l) := fun {G Q} q => by
 have bg := big
 refine o6 <| v7 (σ' := [some (.tup l), some (.tup l)]) (G' := G) rfl <| v7 (σ' := [some (.tup l), some (.tup l)]) (G' := G) rfl <| j5.mpr <| Q0 <| J4 <| bin_w <| c7 (a := .int l.length) (G' := G) rfl <| c7 (a := .int l.length) (G' := G) rfl <| cL3.mpr ?_
 rw [decide_eq_true rfl]
 refine ⟨_, rfl, fun z => (nomatch z), fun _ => u0.mpr ?_⟩
 refine t7 <| R6 <| m8 <| aZ3 (j := (l.length : Int)) (G1 := G) rfl (by lia) (by lia) ?_
 rw [Int.toNat_natCast]
 refine (S9 (Ap G) (fun σ => ∃ u, σ = [u, some (.tup l), some (.tup l)]) (fun _ => .bl true) (fun _ _ => rfl) _ _ G ⟨_, rfl⟩ Ap.refl ?_).mono ?_
 · rintro d hd _ G1 ⟨u, rfl⟩ j
   unfold u6 at hd
   obtain ⟨i, hi, rfl⟩ := List.mem_map.mp hd
   have hi := List.mem_range.mp hi
   have ed : atI l (0 + (i : Int)) = some l[i] := by rw [Int.zero_add]; exact atI_nat (List.getElem?_eq_getElem hi)
   exact aP2 ⟨_, rfl⟩ (R6 <| m8 <| bin_w <| c7 (a := .tup l) (G' := G1) rfl <| c7 (a := .int (0 + (i : Int))) (G' := G1) rfl <| ix_tup.mpr ⟨_, ed, m8 <| bin_w <| c7 (a := .tup l) (G' := G1) rfl <| c7 (a := .int (0 + (i : Int))) (G' := G1) rfl <| ix_tup.mpr ⟨_, ed, t6.mpr <| aB1.mpr ⟨rfl, h _ (List.getElem_mem hi) fun G2 j2 => ⟨j.trans j2, rfl⟩⟩⟩⟩)
 · rintro _ G2 ⟨j, rfl⟩
   refine t6.mpr ((cI0 (l := u6 0 l.length) (f := fun _ => true) o9).mpr ?_)
   rw [List.all_eq_true.mpr fun _ _ => rfl]
   exact G9 (q _ (j.trans Ap.one))
theorem bQ2 {N : Nat} {a b : D} (ha : AL N a) (hb : AL N b) : AL (N + 1) (.tup [a, b]) := bQ0 (show [a, b].length ≤ 100 from Nat.le_of_ble_eq_true rfl) fun x hx => by
 simp only [List.mem_cons, List.not_mem_nil, or_false] at hx
 rcases hx with rfl | rfl
 · exact ha
 · exact hb
theorem cQ6 : ∀ {n N : Nat} {d : D}, GV n d → 3 * n ≤ N → AL N d := by
 intro n
 induction n with
 | zero => intro N d h; cases h
 | succ n ih =>
   intro N d h hN
   obtain ⟨M, rfl⟩ : ∃ M, N = M + 3 := ⟨N - 3, by lia⟩
   cases h with
   | @i _ i hi => exact cZ8
   | @b _ k => exact dM6
   | @s _ z hs => exact bH9
   | @l _ l hl hx => exact bQ2 bH9 <| bQ0 hl fun x hxl => ih (hx x hxl) (by lia)
   | @r _ ps hl hp hn hx =>
     refine bQ2 bH9 <| bQ0 (by rw [List.length_map]; exact hl) fun x hxl => ?_
     obtain ⟨p, hpl, rfl⟩ := List.mem_map.mp hxl
     rcases M with _ | M
     · rcases n with _ | n
       · exact absurd (hx p hpl) (by intro z; cases z)
       · lia
     · exact bQ2 bH9 (ih (hx p hpl) (by lia))
theorem dE6 {n : Nat} {d : D} {G : DH} {Q : DPP} (h : GV n d) (hn : n ≤ 20) (hl : (shN n d).length ≤ 10000000) (q : ∀ G', Ap G G' → Q d G') : Wp (U5 [.str (ofL (shN n d))]) G Q := by
 have z1 : 10000000 < sizeLine := by decide
 have hz : (ofL (shN n d)).length ≤ sizeLine := by show (shN n d).length ≤ _; lia
 refine o6 <| j5.mpr <| K5 <| j8 (as := [.str (ofL (shN n d)), .int (([] : List Nat).length : Int), .int 1]) rfl rfl <| dL3 (N := 21) hz h (by lia) (by lia) (pre := []) (post := []) (by simp) (fun _ _ e => nomatch e) fun G1 j1 => ?_
 refine j5.mpr <| Q0 <| J4 <| bin_w <| c7 (a := .int ((([] : List Nat).length : Int) + (shN n d).length)) (G' := G1) rfl <| aI2 (as := [.str (ofL (shN n d))]) rfl <| (aN6 hz).mpr <| cL3.mpr ?_
 have e : ((([] : List Nat).length : Int) + (shN n d).length) = ((ofL (shN n d)).length : Int) := by
  show ((0 : Nat) : Int) + _ = ((shN n d).length : Int)
  simp
 rw [decide_eq_true e]
 exact ⟨_, rfl, fun z => (nomatch z), fun _ => u0.mpr <| t7 <| c7 (a := d) (G' := G1) rfl <| G9 (q G1 j1)⟩
theorem cR0 {n : Nat} {d : D} {G : DH} {Q : DPP} (h : GV n d) (hn : n ≤ 20) (hl : (shN n d).length ≤ 10000000) (q : ∀ G', Ap G G' → Q (.bl true) G') : Wp (K4 [d]) G Q := by
 refine o6 <| j5.mpr <| K5 <| j8 (as := [d]) rfl rfl <| dB2 (N := 21) h (by lia) hl fun G1 j1 => ?_
 refine t7 <| dE7 (G1 := G1) rfl <| dG0 <| bin_w <| c7 (a := .str (ofL (shN n d))) (G' := G1) rfl <| j8 (as := [d]) rfl rfl <| cE1 (N := 21) h (by lia) hl fun G2 j2 => cH4.mpr ⟨ofL (shN n d) == ofL (shN n d), rfl, ?_⟩
 rw [beq_self_eq_true]
 refine ⟨rfl, R6 <| m8 <| j8 (as := [.str (ofL (shN n d))]) rfl rfl <| dE6 h hn hl fun G3 j3 => c7 (a := [d]) (G' := G3) rfl <| aB1.mpr ⟨rfl, ?_⟩⟩
 exact cQ6 (N := 64) h (by lia) fun G4 j4 => G9 (q G4 (((j1.trans j2).trans j3).trans j4))
section
variable {n : Nat} {ns : List (D × D)} {w : Str} {ts : List Str} {tr : List Bool} {li re : D}
end
theorem bR6 {i j : Int} {G : DH} {Q : DPP} : Wp (gtD (.int i) (.int j)) G Q ↔ Q (.bl (decide (i > j))) G := f9
section
variable {ps : List (Str × D)} {fs : List (Str × Bool × D)} {m : D} {G : DH}
end
section
variable {ps : List (Str × D)} {fs : List (Str × Bool × D)} {m s v : D} {G : DH}
end
theorem ixv {r : Nat} {l : List D} {j : Int} {a b : Fe} {σ : DSt} {d : D} {G G1 : DH} {Q : DPP} (ha : a σ G = some (.ok (.ref r), G)) (hb : b σ G = some (.ok (.int j), G)) (e : G[r]? = some (.lst l)) (hd : atI l j = some d) (q : Q d G) : Wp (binE ixD a b σ) G Q := aW4 ha hb ((bH6 e).mpr ⟨d, hd, q⟩)
theorem cY1 {r : Nat} {l : List D} {k : Int} {j : Nat} {a b : Fe} {σ : DSt} {d : D} {G : DH} {S : DSt → DH → Prop} (ha : a σ G = some (.ok (.ref r), G)) (hb : b σ G = some (.ok (.int k), G)) (e : G[r]? = some (.lst l)) (hj : ixN l.length k = some j) (q : S σ (G.set r (.lst (l.set j d)))) : Wp (aZ2 a b d σ) G S := cF6.mpr (c7 ha (c7 hb ((cT3 e hj).mpr q)))
theorem cS3 {r : Nat} {n : Int} {G : DH} (h : M3 G r) (hn : 0 < n ∧ n < 2 ^ 100) : Wp (d9 [.ref r, .int n]) G fun x G' => ∃ k, x = .int k ∧ 0 ≤ k ∧ k < n ∧ ∃ o, G' = G.set r o ∧ M3 G' r := by
 have hlt := h.lt
 obtain ⟨a, b, c, e, hr, hb1, hb2⟩ := h
 refine o6 (show Wp (aG5 [some (.ref r), some (.int n), none]) G _ from ?_)
 refine j5.mpr (Q0 (J4 (bin_w (ixv (G1 := G) rfl rfl hr rfl (c7 (a := .int 0) rfl (aA4.mpr ⟨_, rfl, fun _ => ?_, fun _ => ?_⟩))))))
 · refine j5.mpr (K5 (bin_w (ixv (G1 := G) rfl rfl hr rfl (c7 (a := .int n) rfl ((aB5 hn.1).mpr ?_)))))
   refine j5.mpr (aX0.mpr (bin_w (ixv (G1 := G) rfl rfl hr rfl (c7 (a := .int n) rfl ((aV9 hn).mpr (cY1 (k := 0) rfl rfl hr rfl ?_))))))
   refine c7 (a := .rt (.int (a % n))) rfl (G9 ⟨_, rfl, Int.emod_nonneg _ (by lia), Int.emod_lt_of_pos _ hn.1, _, rfl, a / n, b, c, e, ?_, hb1, hb2⟩)
   exact List.getElem?_set_self hlt
 · have b1 : 0 ≤ b * b % 2147483629 := Int.emod_nonneg _ (by lia)
   have b2 : b * b % 2147483629 < 2147483629 := Int.emod_lt_of_pos _ (by lia)
   have hr2 : (G.set r (.lst [.int a, .int (b * b % 2147483629 + 3), .int c, .int e]))[r]? = some (.lst [.int a, .int (b * b % 2147483629 + 3), .int c, .int e]) := List.getElem?_set_self hlt
   refine u0.mpr (j5.mpr (aX0.mpr (bin_w (bin_w (bin_w (ixv (G1 := G) rfl rfl hr rfl (ixv (G1 := G) rfl rfl hr rfl ((aJ5 (Or.inl ⟨by lia, by lia⟩)).mpr (c7 (a := .int 2147483629) rfl ((aB5 (by decide)).mpr (c7 (a := .int 3) rfl (aB4.mpr (cY1 (k := 1) rfl rfl hr rfl ?_)))))))))))))
   refine t7 (bin_w (bin_w (bin_w (bin_w (ixv (G1 := G) rfl rfl hr2 rfl (c7 (a := .int 69621) rfl ((aJ5 (Or.inr ⟨by lia, by lia⟩)).mpr (c7 (a := .int 2147483563) rfl ((aB5 (by decide)).mpr (c7 (a := .int 8) rfl ((aV9 (by decide)).mpr (c7 (a := .int n) rfl ((aB5 hn.1).mpr ?_)))))))))))))
   exact ⟨_, rfl, Int.emod_nonneg _ (by lia), Int.emod_lt_of_pos _ hn.1, _, rfl, a, b * b % 2147483629 + 3, c, e, hr2, by lia, by lia⟩
theorem bW0 {r : Nat} {n : Int} {G : DH} (h : M3 G r) (hn : 0 < n ∧ n < 2 ^ 100) : Wp (d9 [.ref r, .int n]) G fun x G' => ∃ k, x = .int k ∧ 0 ≤ k ∧ k < n ∧ Fr r G G' :=
 Wp.mono (cS3 h hn) fun x G' ⟨k, e, h1, h2, o, e2, hh⟩ => ⟨k, e, h1, h2, by subst e2; exact Fr.set hh⟩
theorem bY9 {r : Nat} {G : DH} {n : Int} {ds : List D} {Q : DPP} (h : M3 G r) (hn : (ds.length : Int) = n) (h0 : 0 < n) (h1 : n < 2 ^ 100) (q : ∀ d ∈ ds, ∀ G', Fr r G G' → Fr r (G ++ [.lst ds]) G' → Q d G') :
 Wp (d9 [.ref r, .int n]) (G ++ [.lst ds]) fun y G2 => Wp (ixD (.ref G.length) y) G2 Q := by
 refine Wp.mono (bW0 h.app ⟨h0, h1⟩) fun x G2 ⟨k, e, h3, h4, f2⟩ => ?_
 subst e
 have hne : G.length ≠ r := by have := h.lt; lia
 have hg := f2.at hne (o := .lst ds) bY1
 rw [bH6 hg]
 obtain ⟨d, hd, e⟩ := cL5 (l := ds) h3 (by lia)
 exact ⟨d, e, q d hd G2 ((Fr.app h).trans f2) f2⟩
theorem U7 {r : Nat} {n : Int} {G : DH} {Q : DPP} (h : M3 G r) (hn : 0 < n ∧ n < 2 ^ 100) (q : ∀ k : Int, 0 ≤ k → k < n → ∀ G', Fr r G G' → Q (.int k) G') : Wp (d9 [.ref r, .int n]) G Q :=
 Wp.mono (bW0 h hn) fun x G' ⟨k, e, h1, h2, f⟩ => by subst e; exact q k h1 h2 G' f
theorem aX9 {r : Nat} {n : Int} {fs : DSt → M (List D)} {σ : DSt} {G : DH} {Q : DPP} (hσ : σ[0]? = some (some (.ref r))) (h0 : 0 < n) (h1 : n < 2 ^ 100) (w : Wp (fs σ) G fun ds G1 => ds.length ≤ sizeLine ∧ M3 G1 r ∧ (ds.length : Int) = n ∧ ∀ d ∈ ds, ∀ G', Fr r G1 G' → Q d G') :
 Wp (binE ixD (aA3 fs) (q12 (fnX 2 d9) (q10 (varE 0) (q10 (cE (.int n)) (q11)))) σ) G Q :=
 bin_w (aF9.mpr (w.mono fun ds G1 q => ⟨q.1, R6 (m8 (dC4.mpr ⟨_, hσ, J8 rfl (t6.mpr (aB1.mpr ⟨rfl, bY9 q.2.1 q.2.2.1 h0 h1 fun d hd G' f _ => q.2.2.2 d hd G' f⟩))⟩))⟩))
theorem cB2 {r : Nat} {G : DH} (h : M3 G r) : Wp (J5 [.ref r]) G fun x G' => ∃ k, x = .int k ∧ -1000000000000000000 ≤ k ∧ k ≤ 1000000000000000000 ∧ Fr r G G' := by
 refine o6 (show Wp (aC1 [some (.ref r)]) G _ from ?_)
 refine j5.mpr (Q0 (J4 (bin_w (j8 (as := [.ref r, .int 3]) rfl rfl (U7 h ⟨by decide, by decide⟩ fun k h1 h2 G1 f1 => c7 (a := .int 1) rfl (aA4.mpr ⟨_, rfl, fun _ => ?_, fun _ => ?_⟩))))))
 · refine t7 (bin_w (j8 (as := [.ref r, .int (2 * 1000000000000000000 + 1)]) rfl rfl (U7 f1.2.2 ⟨by decide, by decide⟩ fun k2 h3 h4 G2 f2 => c7 (a := .int 1000000000000000000) rfl (aO0.mpr ?_))))
   exact ⟨_, rfl, by lia, by lia, f1.trans f2⟩
 · refine u0.mpr (t7 (aX9 rfl (by decide) (by decide) (c7 (a := [.int 0, .int 1, .int (-1), .int 2, .int (-2), .int 3, .int 10, .int (-10), .int 1000000000000000000, .int (-1000000000000000000)]) (G' := G1) rfl ⟨sz, f1.2.2, rfl, fun d hd G2 f2 => ?_⟩)))
   simp only [List.mem_cons, List.not_mem_nil, or_false] at hd
   have ff := f1.trans f2
   rcases hd with rfl | rfl | rfl | rfl | rfl | rfl | rfl | rfl | rfl | rfl <;> exact ⟨_, rfl, by decide, by decide, ff⟩
theorem cI7 {r : Nat} {G : DH} {Q : DPP} (h : M3 G r) (q : ∀ k : Int, -1000000000000000000 ≤ k → k ≤ 1000000000000000000 → ∀ G', Fr r G G' → Q (.int k) G') : Wp (J5 [.ref r]) G Q :=
 Wp.mono (cB2 h) fun x G' ⟨k, e, h1, h2, f⟩ => by subst e; exact q k h1 h2 G' f
theorem cU7 {G : DH} {p : Nat} {ns : List Int} {c k : Int} (e : G[p]? = some (.rol (ns.map D.int))) (hk : 0 ≤ k ∧ k < 64) : Wp (V9 [.ref p, .int c, .int k]) G fun d G' => ∃ r, d = .ref r ∧ G.length ≤ r ∧ M3 G' r ∧ Gr G G' := by
 have m1 : bA8 7919 k := Or.inl ⟨by lia, by lia⟩
 have b1 : 0 ≤ c % 2147483629 := Int.emod_nonneg _ (by lia)
 have b2 : c % 2147483629 < 2147483629 := Int.emod_lt_of_pos _ (by lia)
 have m2 : bA8 (c % 2147483629 + 7919 * k + 1) 48271 := Or.inr ⟨by lia, by lia⟩
 have ln : G.length ≤ (G ++ [DO.lst []]).length := by simp
 refine o6 (show Wp (aG7 [some (.ref p), some (.int c), some (.int k), none]) G _ from ?_)
 refine v7 (σ' := [some (.ref p), some (.int c), some (.int k), some (.int 0)]) rfl ?_
 refine j5.mpr (bT8 (A := fun fl G1 => ∃ w, fl = .nx [some (.ref p), some (.int c), some (.int k), some (.int w)] ∧ G1 = G ++ [.lst []]) (J4 (bin_w (c7 (a := .ref p) rfl (aF9.mpr (t6.mpr ⟨sz, (cV7 (Z7 e) o9).mpr ⟨_, rfl, fun _ => ?_, fun _ => ?_⟩⟩))))) ?_)
 · rintro _ _ ⟨w, rfl, rfl⟩
   refine t7 <| aF9.mpr <| J8 (x := .int c) rfl <| m8 <| bin_w <| bin_w <| bin_w <| bin_w <| aW4 (x := .int c) (y := .int 2147483629) rfl rfl <| (aB5 (by decide)).mpr <| aW4 (x := .int 7919) (y := .int k) rfl rfl <| (aJ5 m1).mpr <| aB4.mpr <| c7 (a := .int 1) rfl <| aB4.mpr <| c7 (a := .int 48271) rfl <| (aJ5 m2).mpr <| c7 (a := .int 2147483647) rfl <| (aB5 (by decide)).mpr <| c7 (a := [.int w, .int 0]) rfl ⟨sz, ?_⟩
   exact ⟨_, rfl, ln, ⟨_, _, _, _, o9, Int.emod_nonneg _ (by lia), Int.lt_trans (Int.emod_lt_of_pos _ (by lia)) (by decide)⟩, Gr.app.trans Gr.app⟩
 · exact K5 (bin_w (aI2 (as := [.ref p]) rfl ((cO1 (Z7 e)).mpr (c7 (a := .int 2) rfl ((aB5 (by decide)).mpr ⟨_, rfl, rfl⟩)))))
 · exact u0.mpr ⟨_, rfl, rfl⟩
section
variable {G : DH} {Q : DPP}
theorem ix_str {z : Str} {k : Int} (hz : z.length ≤ sizeLine) (h0 : 0 ≤ k) (h1 : k < z.length) (q : ∀ c ∈ z.cps.toList, Q (.str ⟨#[c]⟩) G) : Wp (ixD (.str z) (.int k)) G Q := by
 have e : ixD (.str z) (.int k) = if z.length ≤ sizeLine then (do
  let c ← aC7 (atI z.cps.toList k)
  pure (.str ⟨#[c]⟩) : M D) else M.stuck := rfl
 rw [e, if_pos hz]
 simp only [j6, aF2, f9]
 have hl : z.length = z.cps.toList.length := rfl
 obtain ⟨n, rfl⟩ := Int.eq_ofNat_of_zero_le h0
 have hn : n < z.cps.toList.length := by lia
 refine ⟨z.cps.toList[n], ?_, q _ (List.getElem_mem _)⟩
 unfold atI ixN
 rw [if_pos (by omega), if_pos (by lia)]
 simp only [Int.toNat_natCast, Option.bind_some, List.getElem?_eq_getElem hn]
theorem cN3 {a b : Str} (h : aD2 a = true) (k : aD2 b = true) : aD2 (a ++ b) = true := by
 have e : aD2 (a ++ b) = (aD2 a && aD2 b) := by
  unfold aD2
  rw [show (a ++ b).cps.toList = a.cps.toList ++ b.cps.toList from Array.toList_append, List.all_append]
 rw [e, h, k]; rfl
theorem cG0 {c : Nat} (h : cD9 c = true) : aD2 ⟨#[c]⟩ = true := by
 show [c].all cD9 = true
 rw [List.all_cons, h]; rfl
theorem cV1 : ∀ c ∈ ("abcdefghijklmnopqrstuvwxyz" : Str).cps.toList, cD9 c = true := by decide +kernel
theorem aN9 (c : Nat) : (⟨#[c]⟩ : Str).length = 1 := rfl
end
theorem dL6 : T7 = seqS (J0 (cE (.str ("" : Str))) (q13 3)) (seqS (aR2 (R7 (q10 (binE addD (varE 1) (q12 (fnX 2 d9) (q10 (varE 0) (q10 (binE addD (binE aP7 (varE 2) (varE 1)) (cE (.int 1))) (q11))))) (q11))) (q13 4) LT) (retS (varE 3))) := rfl
theorem dH3 {r : Nat} {a b : Int} {z : Str} {u : Option D} {G : DH} (h : M3 G r) (hz : z.length ≤ 1000) : Wp (LT [some (.ref r), some (.int a), some (.int b), some (.str z), u]) G fun fl G' => Fr r G G' ∧ ∃ c, cD9 c = true ∧ fl = .nx [some (.ref r), some (.int a), some (.int b), some (.str (z ++ ⟨#[c]⟩)), u] := by
 have bg := big
 have hA : ("abcdefghijklmnopqrstuvwxyz" : Str).length = 26 := by rfl
 refine K5 <| bin_w <| c7 (a := .str z) rfl <| bin_w <| c7 (a := .str "abcdefghijklmnopqrstuvwxyz") rfl <| j8 (as := [.ref r, .int 26]) rfl rfl <| U7 h ⟨by decide, by decide⟩ fun k h0 h1 G1 f1 => ix_str (by lia) h0 (by lia) fun c hc => (V7 (by rw [aN9]; lia)).mpr ?_
 exact ⟨f1, c, cV1 c hc, rfl⟩
theorem bY5 {r : Nat} {a b : Int} : ∀ (items : List D) (z : Str) (u : Option D) (G : DH), M3 G r → aD2 z = true → z.length + items.length ≤ 100 →
 Wp (aB8 (q13 4) LT (fun _ => true) items [some (.ref r), some (.int a), some (.int b), some (.str z), u]) G fun fl G' => Fr r G G' ∧ ∃ z' u', fl = .nx [some (.ref r), some (.int a), some (.int b), some (.str z'), u'] ∧ z'.length = z.length + items.length ∧ aD2 z' = true
 | [], z, u, G, h, ht, hl => by
   rw [aM8]
   exact ⟨rfl, Fr.refl h, z, u, rfl, rfl, ht⟩
 | d :: t, z, u, G, h, ht, hl => by
   simp only [List.length_cons] at hl
   rw [aM9, U3]
   refine ⟨rfl, (dH3 h (by lia)).mono ?_⟩
   rintro _ G1 ⟨f1, c, hc, rfl⟩
   refine (bY5 t (z ++ ⟨#[c]⟩) (some d) G1 f1.2.2 (cN3 ht (cG0 hc)) (by rw [Str.length_append, aN9]; lia)).mono fun fl G2 q => ?_
   obtain ⟨q1, z', u', q2, q3, q4⟩ := q
   exact ⟨f1.trans q1, z', u', q2, by rw [q3, Str.length_append, aN9, List.length_cons]; lia, q4⟩
theorem aV6 {r : Nat} {a b : Int} {G : DH} (h : M3 G r) (h0 : 0 ≤ a) (h1 : a ≤ b) (h2 : b ≤ 20) : Wp (J7 [.ref r, .int a, .int b]) G fun x G' => ∃ z, x = .str z ∧ z.length ≤ 100 ∧ Fr r G G' ∧ aD2 z = true ∧ a ≤ z.length := by
 refine o6 (show Wp (T7 [some (.ref r), some (.int a), some (.int b), none, none]) G _ from ?_)
 rw [dL6]
 refine v7 (σ' := [some (.ref r), some (.int a), some (.int b), some (.str ""), none]) rfl <| j5.mpr <| aU6.mpr <| rng1.mpr <| m8 <| bin_w <| c7 (a := .int a) rfl <| j8 (as := [.ref r, .int (b - a + 1)]) rfl rfl <| U7 h ⟨by lia, by lia⟩ fun k hk0 hk1 G1 f1 => aB4.mpr <| t6.mpr <| (rng1_int ⟨by lia, by lia⟩).mpr ?_
 have hlen : (u6 0 (a + k).toNat).length = (a + k).toNat := by unfold u6; rw [List.length_map, List.length_range]
 refine (bY5 (u6 0 (a + k).toNat) "" none G1 f1.2.2 rfl ?_).mono ?_
 · rw [hlen, show (("" : Str).length) = 0 from rfl]
   lia
 · rintro _ G2 ⟨f2, z', u', rfl, hz, ht⟩
   rw [hlen, show (("" : Str).length) = 0 from rfl] at hz
   exact c7 rfl (G9 ⟨z', rfl, by lia, f1.trans f2, ht, by lia⟩)
theorem dL0 : ∃ z : Str, (z.length ≤ 1000 ∧ aD2 z = true) ∧ ∀ {G : DH} {Q : DPP}, Wp (aM1 (.str ("z" : Str)) (.int 20)) G Q ↔ Q (.str z) G := by
 refine ⟨Txt.mul ("z" : Str) 20, ⟨by decide +kernel, by decide +kernel⟩, fun {G Q} => ?_⟩
 have e : aM1 (.str ("z" : Str)) (.int 20) = if PySem.MulOk ("z" : Str) 20 then pure (.str (Txt.mul ("z" : Str) 20)) else M.stuck := rfl
 rw [e, if_pos (by decide +kernel)]
 exact f9
def TX (z : Str) : Prop := aD2 z = true ∧ z.length ≤ 1000
def NM (z : Str) : Prop := TX z ∧ 0 < z.length
theorem cO9 {r : Nat} {G : DH} (h : M3 G r) : Wp (Q4 [.ref r]) G fun x G' => ∃ z, x = .str z ∧ TX z ∧ Fr r G G' := by
 obtain ⟨zz, hzz, emul⟩ := dL0
 refine o6 (show Wp (aI3 [some (.ref r)]) G _ from ?_)
 refine j5.mpr <| Q0 <| J4 <| bin_w <| j8 (as := [.ref r, .int 3]) rfl rfl <| U7 h ⟨by decide, by decide⟩ fun k hk0 hk1 G1 f1 => c7 (a := .int 1) rfl <| aA4.mpr ⟨_, rfl, fun _ => ?_, fun _ => u0.mpr ?_⟩
 · refine t7 <| j8 (as := [.ref r, .int 0, .int 20]) rfl rfl <| (aV6 f1.2.2 (by decide) (by decide) (by decide)).mono ?_
   rintro _ G2 ⟨z, rfl, hz, f2, ht, _⟩
   exact ⟨z, rfl, ⟨ht, by lia⟩, f1.trans f2⟩
 · refine t7 <| aX9 rfl (by decide) (by decide) <| J8 (x := .str "") rfl <| J8 (x := .str "a") rfl <| J8 (x := .str "b") rfl <| J8 (x := .str "aa") rfl <| J8 (x := .str "ab") rfl <| J8 (x := .str "ba") rfl <| J8 (x := .str "abc") rfl <| J8 (x := .str "z") rfl <| J8 (x := .str "true") rfl <| m8 <| aW4 (x := .str "z") (y := .int 20) rfl rfl <| emul.mpr <| t6.mpr ⟨sz, f1.2.2, rfl, fun d hd G2 f2 => ?_⟩
   simp only [List.mem_cons, List.not_mem_nil, or_false] at hd
   have f02 := f1.trans f2
   rcases hd with rfl | rfl | rfl | rfl | rfl | rfl | rfl | rfl | rfl | rfl
   all_goals first
    | exact ⟨_, rfl, ⟨rfl, by decide⟩, f02⟩
    | exact ⟨_, rfl, ⟨hzz.2, hzz.1⟩, f02⟩
theorem bN7 (z : Str) (d : D) : ∀ l : List (Key × D), o8 (l.map fun kv => if kv.1 = .inr z then (kv.1, d) else kv) = o8 l
 | [] => rfl
 | (k, v) :: r => by
  have ih := bN7 z d r
  rw [List.map_cons]
  have e : (if ((k, v) : Key × D).1 = .inr z then (((k, v) : Key × D).1, d) else (k, v)).1 = k := by split <;> rfl
  generalize (if ((k, v) : Key × D).1 = .inr z then (((k, v) : Key × D).1, d) else (k, v)) = p at e
  obtain ⟨k', v'⟩ := p
  cases e
  rcases k' with i | y
  · rfl
  · exact congrArg (Option.map (y :: ·)) ih
theorem bL9 (z : Str) (d : D) : ∀ (l : List (Key × D)) (ss : List Str), o8 l = some ss → o8 (l ++ [(.inr z, d)]) = some (ss ++ [z])
 | [], ss, h => by cases h; rfl
 | (.inl i, v) :: r, ss, h => by exact m9 h
 | (.inr y, v) :: r, ss, h => by
  replace h : (o8 r).map (y :: ·) = some ss := h
  rcases hr : o8 r with _ | t
  · rw [hr] at h; exact m9 h
  ·
    rw [hr] at h
    cases h
    exact congrArg (Option.map (y :: ·)) (bL9 z d r t hr)
noncomputable def NS (P : Str → Prop) (ss : List Str) : Prop := (∀ z ∈ ss, P z) ∧ ss.Nodup
theorem bO1 (z : Str) : ∀ (l : List (Key × D)) (ss : List Str), o8 l = some ss → z ∈ ss → (l.any fun kv => decide (kv.1 = .inr z)) = true
 | [], ss, h, hz => by cases h; cases hz
 | (.inl i, v) :: r, ss, h, hz => by exact m9 h
 | (.inr y, v) :: r, ss, h, hz => by
  replace h : (o8 r).map (y :: ·) = some ss := h
  rcases hr : o8 r with _ | t
  · rw [hr] at h; exact m9 h
  ·
    rw [hr] at h
    cases h
    rw [List.any_cons, Bool.or_eq_true]
    rcases List.mem_cons.mp hz with rfl | hz
    · exact .inl (by simp)
    · exact .inr (bO1 z r t hr hz)
theorem cN9 {l : List (Key × D)} {ss : List Str} {z : Str} {d : D} {P : Str → Prop} (h : o8 l = some ss) (hn : NS P ss) (hz : P z) : ∃ ss', o8 (aS6 l (.inr z) d) = some ss' ∧ ss'.length ≤ ss.length + 1 ∧ NS P ss' := by
 unfold aS6
 split
 · exact ⟨ss, by rw [bN7]; exact h, by lia, hn⟩
 · rename_i c
   refine ⟨ss ++ [z], bL9 z d l ss h, by simp, fun x hx => ?_, ?_⟩
   · rcases List.mem_append.mp hx with hx | hx
     · exact hn.1 x hx
     · rw [List.mem_singleton.mp hx]; exact hz
   · refine List.nodup_append.mpr ⟨hn.2, by simp, fun a ha b hb => ?_⟩
     rw [List.mem_singleton] at hb
     subst hb
     intro e
     subst e
     exact c (bO1 _ l ss h ha)
theorem cR7 {r : Nat} {l : List (Key × D)} {z : Str} {d : D} {G : DH} {R : Unit → DH → Prop} (h : G[r]? = some (.dct l)) (hl : l.length < sizeLine) : Wp (bS0 (.ref r) (.str z) d) G R ↔ R () (G.set r (.dct (aS6 l (.inr z) d))) := by
 unfold bS0
 simp only [j6, R5, h, T3, cC1, if_pos hl, bQ9]
theorem bH3 {l : List (Key × D)} {ss : List Str} (h : o8 l = some ss) : l.length = ss.length := (aI7 h).symm
theorem cT4 {ss : List Str} (h : ss.Nodup) : (aA9 ss).Pairwise LtS := by
 have h1 : (aA9 ss).Pairwise fun a b => leS a b = true := List.pairwise_mergeSort aR0 bE1 ss
 have h2 : (aA9 ss).Nodup := (List.mergeSort_perm ss leS).nodup_iff.mpr h
 refine (List.Pairwise.and h1 h2).imp fun {a b} q => ?_
 refine Classical.byContradiction fun n => q.2 (aO7 q.1 ?_)
 show (!decide (a.cps.toList < b.cps.toList)) = true
 rw [decide_eq_false (show ¬ a.cps.toList < b.cps.toList from n)]; rfl
theorem dM4 : X7 = seqS (J0 (aY4) (q13 1)) (seqS (aR2 (R7 (q10 (q12 (fnX 2 d9) (q10 (varE 0) (q10 (binE ixD (aA3 (q10 (cE (.int 4)) (q10 (cE (.int 9)) (q11)))) (q12 (fnX 2 d9) (q10 (varE 0) (q10 (cE (.int 2)) (q11))))) (q11)))) (q11))) (q13 2) NB) (retS (q12 aD4 (q10 (varE 1) (q11))))) := rfl
theorem dM5 {r p : Nat} {u v : Option D} {l : List (Key × D)} {ss : List Str} {G : DH} (hp : p ≠ r) (h : M3 G r) (e : G[p]? = some (.dct l)) (hk : o8 l = some ss) (hl : ss.length ≤ 60) (hz : NS NM ss) :
 Wp (NB [some (.ref r), some (.ref p), u, v]) G fun fl G' => Fr2 r p G G' ∧ ∃ v' l' ss', fl = .nx [some (.ref r), some (.ref p), u, v'] ∧ G'[p]? = some (.dct l') ∧ o8 l' = some ss' ∧ ss'.length ≤ ss.length + 1 ∧ NS NM ss' := by
 have bg := big
 have next : ∀ (z : Str) (G3 : DH), NM z → Fr r G G3 → Wp (J0 (cE (.bl true)) (aZ2 (varE 1) (varE 3)) [some (.ref r), some (.ref p), u, some (.str z)]) G3 fun fl G' => Fr2 r p G G' ∧ ∃ v' l' ss', fl = .nx [some (.ref r), some (.ref p), u, v'] ∧ G'[p]? = some (.dct l') ∧ o8 l' = some ss' ∧ ss'.length ≤ ss.length + 1 ∧ NS NM ss' := by
  intro z G3 hzl f3
  have e3 := f3.at hp e
  obtain ⟨ss', k1, k2, k3⟩ := cN9 (z := z) (d := .bl true) hk hz hzl
  have f4 : Fr2 r p G3 (G3.set p (.dct (aS6 l (.inr z) (.bl true)))) := Fr2.set hp f3.2.2
  exact aX0.mpr <| c7 (a := .bl true) rfl <| cF6.mpr <| c7 (a := .ref p) rfl <| c7 (a := .str z) rfl <| (cR7 e3 (by rw [bH3 hk]; lia)).mpr ⟨f3.two.trans f4, _, _, ss', rfl, List.getElem?_set_self (lt_of_get e3), k1, k2, k3⟩
 refine j5.mpr <| K5 <| aX9 rfl (by decide) (by decide) <| c7 (a := [.str "a", .str "b", .str "ab", .str "ba", .str "abc", .str "z", .str "zz", .str "zzzzzzzz"]) (G' := G) rfl ⟨sz, h, rfl, fun x hx G1 f1 => ?_⟩
 have hx' : ∃ z : Str, x = .str z ∧ NM z := by
  simp only [List.mem_cons, List.not_mem_nil, or_false] at hx
  rcases hx with rfl | rfl | rfl | rfl | rfl | rfl | rfl | rfl <;> exact ⟨_, rfl, ⟨rfl, by decide⟩, by decide⟩
 obtain ⟨z0, rfl, hz0⟩ := hx'
 refine j5.mpr <| Q0 <| J4 <| bin_w <| j8 (as := [.ref r, .int 3]) rfl rfl <| U7 f1.2.2 ⟨by decide, by decide⟩ fun k hk0 hk1 G2 f2 => c7 (a := .int 1) rfl <| aA4.mpr ⟨_, rfl, fun _ => ?_, fun _ => u0.mpr (next z0 G2 hz0 (f1.trans f2))⟩
 refine K5 <| j8 (as := [.ref r, .int 1, .int 8]) rfl rfl <| (aV6 f2.2.2 (by decide) (by decide) (by decide)).mono ?_
 rintro _ G3 ⟨z, rfl, hz3, f3, ht3, hl3⟩
 exact next z G3 ⟨⟨ht3, by lia⟩, by lia⟩ (f1.trans (f2.trans f3))
theorem bV7 {r p : Nat} (hp : p ≠ r) : ∀ (items : List D) (u v : Option D) (l : List (Key × D)) (ss : List Str) (G : DH), M3 G r → G[p]? = some (.dct l) → o8 l = some ss → ss.length + items.length ≤ 60 → NS NM ss →
 Wp (aB8 (q13 2) NB (fun _ => true) items [some (.ref r), some (.ref p), u, v]) G fun fl G' => Fr2 r p G G' ∧ ∃ u' v' l' ss', fl = .nx [some (.ref r), some (.ref p), u', v'] ∧ G'[p]? = some (.dct l') ∧ o8 l' = some ss' ∧ ss'.length ≤ ss.length + items.length ∧ NS NM ss'
 | [], u, v, l, ss, G, h, e, hk, hl, hz => by
   rw [aM8]
   exact ⟨rfl, (Fr.refl h).two, u, v, l, ss, rfl, e, hk, by simp, hz⟩
 | d :: t, u, v, l, ss, G, h, e, hk, hl, hz => by
   simp only [List.length_cons] at hl
   rw [aM9, U3]
   refine ⟨rfl, (dM5 (u := some d) (v := v) hp h e hk (by lia) hz).mono ?_⟩
   rintro _ G1 ⟨f1, v1, l1, ss1, rfl, q2, q3, q4, q5⟩
   refine (bV7 hp t (some d) v1 l1 ss1 G1 f1.2.2 q2 q3 (by lia) q5).mono ?_
   rintro _ G2 ⟨f2, u', v', l', ss', p1, p2, p3, p4, p5⟩
   exact ⟨f1.trans f2, u', v', l', ss', p1, p2, p3, by simp only [List.length_cons]; lia, p5⟩
theorem cF9 {r : Nat} {G : DH} (h : M3 G r) : Wp (M8 [.ref r]) G fun x G' => ∃ (q : Nat) (ss : List Str), x = .ref q ∧ q ≠ r ∧ G'[q]? = some (.lst (ss.map D.str)) ∧ ss.length ≤ 8 ∧ NS NM ss ∧ ss.Pairwise LtS ∧ Fr r G G' := by
 have fd : Fr r G (G ++ [DO.dct []]) := Fr.app h
 have hp : G.length ≠ r := by have := h.lt; lia
 refine o6 (show Wp (X7 [some (.ref r), none, none, none]) G _ from ?_)
 rw [dM4]
 refine v7 (σ' := [some (.ref r), some (.ref G.length), none, none]) (G' := G ++ [.dct []]) rfl <| j5.mpr <| aU6.mpr <| rng1.mpr <| m8 <| R6 <| J8 (x := .ref r) rfl <| m8 <| aX9 rfl (by decide) (by decide) <| c7 (a := [.int 4, .int 9]) (G' := G ++ [.dct []]) rfl ⟨sz, fd.2.2, rfl, fun d hd G1 f1 => ?_⟩
 have hd' : ∃ i : Int, d = .int i ∧ 0 < i ∧ i ≤ 9 := by
  simp only [List.mem_cons, List.not_mem_nil, or_false] at hd
  rcases hd with rfl | rfl
  · exact ⟨4, rfl, by decide, by decide⟩
  · exact ⟨9, rfl, by decide, by decide⟩
 obtain ⟨i, rfl, hi1, hi2⟩ := hd'
 refine t6.mpr <| aB1.mpr ⟨rfl, U7 f1.2.2 ⟨hi1, by lia⟩ fun k hk0 hk1 G2 f2 => t6.mpr <| (rng1_int ⟨by lia, by lia⟩).mpr ?_⟩
 have f12 := f1.trans f2
 have e2 : G2[G.length]? = some (.dct []) := f12.at hp o9
 have hlen : (u6 0 k.toNat).length = k.toNat := by unfold u6; rw [List.length_map, List.length_range]
 refine (bV7 hp (u6 0 k.toNat) none none [] [] G2 f2.2.2 e2 rfl (by rw [hlen]; simp; lia) ⟨(fun z hz => by cases hz), List.nodup_nil⟩).mono ?_
 rintro _ G3 ⟨f3, u', v', l', ss', rfl, q2, q3, q4, q5⟩
 rw [hlen] at q4
 simp only [List.length_nil] at q4
 refine t7 <| aI2 (as := [.ref G.length]) rfl <| (cB5 q2 q3 (by lia)).mpr ?_
 have hperm : (aA9 ss').Perm ss' := List.mergeSort_perm ss' leS
 have hr3 := f3.2.2.lt
 refine G9 ⟨G3.length, aA9 ss', rfl, by lia, o9, by rw [hperm.length_eq]; lia, ⟨fun z hz => q5.1 z (hperm.mem_iff.mp hz), hperm.nodup_iff.mpr q5.2⟩, cT4 q5.2, ?_⟩
 have f02 := fd.trans f12
 refine Fr.trans ⟨Nat.le_trans f02.1 f3.1, fun j hj hl => ?_, f3.2.2⟩ (Fr.app f3.2.2)
 have h02 := f02.1
 have hfd := fd.1
 rw [f3.2.1 j hj (by lia) (by lia), f02.2.1 j hj hl]
theorem GV.up {n : Nat} {d : D} (h : GV n d) : ∀ m, n ≤ m → GV m d ∧ shN m d = shN n d := by
 induction h with
 | @i n i hi => intro m hm; obtain ⟨k, rfl⟩ : ∃ k, m = k + 1 := ⟨m - 1, by lia⟩; exact ⟨.i hi, rfl⟩
 | @b n k => intro m hm; obtain ⟨k, rfl⟩ : ∃ k, m = k + 1 := ⟨m - 1, by lia⟩; exact ⟨.b, rfl⟩
 | @s n z hs => intro m hm; obtain ⟨k, rfl⟩ : ∃ k, m = k + 1 := ⟨m - 1, by lia⟩; exact ⟨.s hs, rfl⟩
 | @l n l hl hx ih =>
   intro m hm
   obtain ⟨k, rfl⟩ : ∃ k, m = k + 1 := ⟨m - 1, by lia⟩
   refine ⟨.l hl fun x hxl => (ih x hxl k (by lia)).1, ?_⟩
   rw [bJ3, bJ3, List.map_congr_left fun x hxl => (ih x hxl k (by lia)).2]
 | @r n ps hl hp hn hx ih =>
   intro m hm
   obtain ⟨k, rfl⟩ : ∃ k, m = k + 1 := ⟨m - 1, by lia⟩
   refine ⟨.r hl hp hn fun p hpl => (ih p hpl k (by lia)).1, ?_⟩
   rw [bG7, bG7, List.map_congr_left (f := shQ (shN k)) (g := shQ (shN n)) fun x hxl => ?_]
   obtain ⟨p, hpl, rfl⟩ := List.mem_map.mp hxl
   show tl p.1 ++ [58, 32] ++ shN k p.2 = tl p.1 ++ [58, 32] ++ shN n p.2
   rw [(ih p hpl k (by lia)).2]
structure Dr (n B : Nat) (d : D) : Prop where
 gv : GV n d
 ln : (shN n d).length ≤ B
theorem Dr.up {n m B C : Nat} {d : D} (h : Dr n B d) (hn : n ≤ m) (hb : B ≤ C) : Dr m C d := ⟨(h.gv.up m hn).1, by rw [(h.gv.up m hn).2]; exact Nat.le_trans h.ln hb⟩
theorem cN0 : ∀ {L : List (List Nat)} {C : Nat}, (∀ a ∈ L, a.length ≤ C) → (N5 [44, 32] L).length ≤ L.length * (C + 2)
 | [], _, _ => by simp [N5]
 | a :: r, C, h => by
   have g : ∀ {L : List (List Nat)}, (∀ a ∈ L, a.length ≤ C) → (L.map List.length).sum ≤ L.length * C := fun {L} h => by
    induction L with
    | nil => simp
    | cons a r ih =>
      rw [List.map_cons, List.sum_cons, List.length_cons, Nat.succ_mul]
      have := h a (List.mem_cons_self ..)
      have := ih fun b hb => h b (List.mem_cons_of_mem _ hb)
      lia
   rw [N5, List.length_append, bP8, List.length_cons, Nat.succ_mul, Nat.mul_add]
   have := h a (List.mem_cons_self ..)
   have := g fun b hb => h b (List.mem_cons_of_mem _ hb)
   lia
theorem Dr.l {n B k : Nat} {l : List D} (hk : k ≤ 100) (hl : l.length ≤ k) (h : ∀ x ∈ l, Dr n B x) : Dr (n + 1) (2 + k * (B + 2)) (.tup [.str N6, .tup l]) := by
 refine ⟨.l (by lia) fun x hx => (h x hx).gv, ?_⟩
 rw [bJ3]
 have := cN0 (L := l.map (shN n)) (C := B) fun a ha => by obtain ⟨x, hx, rfl⟩ := List.mem_map.mp ha; exact (h x hx).ln
 rw [List.length_map] at this
 have := Nat.mul_le_mul_right (B + 2) hl
 simp only [List.length_cons, List.length_append, List.length_nil]
 lia
theorem Dr.r {n B k : Nat} {ps : List (Str × D)} (hk : k ≤ 100) (hl : ps.length ≤ k) (hp : (ps.map (·.1)).Pairwise LtS) (hn : ∀ p ∈ ps, TxL p.1 ∧ tl p.1 ≠ []) (h : ∀ p ∈ ps, Dr n B p.2) : Dr (n + 1) (2 + k * (B + 1004)) (.tup [.str aC5, .tup (ps.map prD)]) := by
 refine ⟨.r (by lia) hp hn fun p hpl => (h p hpl).gv, ?_⟩
 rw [bG7]
 have := cN0 (L := (ps.map prD).map (shQ (shN n))) (C := B + 1002) fun a ha => by
  obtain ⟨x, hx, rfl⟩ := List.mem_map.mp ha
  obtain ⟨p, hpl, rfl⟩ := List.mem_map.mp hx
  show (tl p.1 ++ [58, 32] ++ shN n p.2).length ≤ _
  have := (h p hpl).ln
  have := (hn p hpl).1.2
  rw [List.length_append, List.length_append, Q7]
  simp; lia
 rw [List.length_map, List.length_map] at this
 have := Nat.mul_le_mul_right (B + 1004) hl
 simp only [List.length_cons, List.length_append, List.length_nil]
 lia
theorem Dr.i {n : Nat} {i : Int} (h : smI i) : Dr (n + 1) 1002 (.int i) := ⟨.i h, by rw [aR3]; have := aQ9 h; lia⟩
theorem Dr.b {n : Nat} {k : Bool} : Dr (n + 1) 1002 (.bl k) := ⟨.b, by rcases k with _ | _ <;> exact Nat.le_of_ble_eq_true rfl⟩
theorem Dr.s {n : Nat} {z : Str} (h : TxL z) : Dr (n + 1) 1002 (.str z) := ⟨.s h, by rw [cK2, List.length_cons, List.length_append, Q7]; have := h.2; simp; lia⟩
theorem cX6 {z : Str} (h : TX z) : TxL z := ⟨fun c hc => by
 have := List.all_eq_true.mp h.1 c hc
 unfold cD9 at this
 rw [Bool.and_eq_true_iff, decide_eq_true_iff, decide_eq_true_iff] at this
 exact this, h.2⟩
theorem dK1 {z : Str} (h : NM z) : TxL z ∧ tl z ≠ [] := ⟨cX6 h.1, fun k => by have := h.2; rw [← Q7, k] at this; exact absurd this (by decide)⟩
theorem bU3 {k : Int} {l : List D} {G : DH} (h : l.all aH1 = true) : ∃ b, DL.inB (.int k) (.tup l) G = some b := by
 unfold DL.inB
 exact ⟨_, if_pos (by rw [h]; rfl)⟩
theorem bC0 {g : Fg} {e : Fe} {ck : DH → Bool} (J : DH → Prop) (S : DSt → Prop) (rel : D → D → Prop) (hck : ∀ G, J G → ck G = true) : ∀ (items : List D) (σ : DSt) (G : DH), S σ → J G →
 (∀ d ∈ items, ∀ σ G, S σ → J G → Wp (g d σ) G fun σ1 G1 => G1 = G ∧ S σ1 ∧ Wp (e σ1) G fun y G3 => J G3 ∧ rel d y) →
 Wp (K9 g V1 e ck items σ) G fun ys G' => J G' ∧ ∃ zs : List (D × D), zs.map (·.1) = items ∧ ys = zs.map (·.2) ∧ ∀ z ∈ zs, rel z.1 z.2
 | [], σ, G, s, j, _ => bO5.mpr ⟨hck G j, j, [], rfl, rfl, fun _ h => nomatch h⟩
 | d :: r, σ, G, s, j, step => by
   refine bN2.mpr ⟨hck G j, (step d (List.mem_cons_self ..) σ G s j).mono fun σ1 G1 ⟨e1, s1, w1⟩ => ?_⟩
   subst e1
   refine c7 (a := true) rfl ?_
   rw [if_pos rfl]
   refine w1.mono fun y G3 ⟨j3, py⟩ => ?_
   refine (bC0 J S rel hck r σ1 G3 s1 j3 fun d hd => step d (List.mem_cons_of_mem _ hd)).mono fun ys G4 ⟨j4, zs, h1, h2, h3⟩ => ⟨j4, (d, y) :: zs, by rw [List.map_cons, h1], by rw [List.map_cons, h2], fun z hz => ?_⟩
   rcases List.mem_cons.mp hz with rfl | hz
   · exact py
   · exact h3 z hz
theorem cX1 (R : List D → M D) : R0 R = seqS (J0 (q12 (fnX 2 d9) (q10 (varE 0) (q10 (cE (.int 8)) (q11)))) (q13 2)) (seqS (J0 (binE addD (binE ixD (varE 0) (cE (.int 3))) (cE (.int 1))) (aZ2 (varE 0) (cE (.int 3)))) (seqS (ifS VT (VAb R) (nextS)) VC)) := rfl
noncomputable def Bd : Nat → Nat
 | 0 => 0
 | 1 => 1002
 | k + 2 => 2 + 8 * (Bd (k + 1) + 1004)
theorem dL9 : ∀ k, 1 ≤ k → 1002 ≤ Bd k
 | 0, h => by lia
 | 1, _ => Nat.le_refl _
 | k + 2, _ => by show 1002 ≤ 2 + 8 * (Bd (k + 1) + 1004); lia
section
variable {r : Nat} {G : DH}
theorem cW2 {deep kind : Int} {u : Option D} {n : Nat} (h : M3 G r) : Wp (VC [some (.ref r), some (.int deep), some (.int kind), u]) G fun fl G' => ∃ d, fl = .rt d ∧ Dr (n + 1) 1002 d ∧ Fr r G G' := by
 obtain ⟨b1, h1⟩ := bU3 (k := kind) (l := [.int 0, .int 3, .int 6]) (G := G) rfl
 obtain ⟨b2, h2⟩ := bU3 (k := kind) (l := [.int 1, .int 4, .int 7]) (G := G) rfl
 refine j5.mpr <| Q0 <| J4 <| bin_w <| c7 (a := .int kind) (G' := G) rfl <| c7 (a := .tup [.int 0, .int 3, .int 6]) (G' := G) rfl <| cX2.mpr ⟨b1, h1, _, rfl, fun _ => t7 <| j8 (as := [.ref r]) rfl rfl <| cI7 h fun k hk0 hk1 G1 f1 => ⟨_, rfl, .i (by unfold smI bC9; lia), f1⟩, fun _ => u0.mpr ?_⟩
 refine j5.mpr <| Q0 <| J4 <| bin_w <| c7 (a := .int kind) (G' := G) rfl <| c7 (a := .tup [.int 1, .int 4, .int 7]) (G' := G) rfl <| cX2.mpr ⟨b2, h2, _, rfl, fun _ => t7 <| j8 (as := [.ref r]) rfl rfl <| (cO9 h).mono ?_, fun _ => u0.mpr ?_⟩
 · rintro _ G1 ⟨z, rfl, tz, f1⟩
   exact ⟨_, rfl, .s (cX6 tz), f1⟩
 · refine t7 <| aX9 rfl (by decide) (by decide) <| c7 (a := [.bl false, .bl true]) (G' := G) rfl ⟨sz, h, rfl, fun d hd G1 f1 => ?_⟩
   simp only [List.mem_cons, List.not_mem_nil, or_false] at hd
   rcases hd with rfl | rfl <;> exact ⟨_, rfl, .b, f1⟩
theorem dJ9 {R : List D → M D} {deep kind : Int} {u : Option D} {n : Nat} (h : M3 G r) (hR : ∀ G1, M3 G1 r → Wp (R [.ref r, .int (deep - 1)]) G1 fun x G2 => Dr (n + 1) (Bd (n + 1)) x ∧ Fr r G1 G2) :
 Wp (VAb R [some (.ref r), some (.int deep), some (.int kind), u]) G fun fl G' => ∃ d, fl = .rt d ∧ Dr (n + 2) (Bd (n + 2)) d ∧ Fr r G G' := by
 have bg := big
 refine j5.mpr <| Q0 <| J4 <| bin_w <| c7 (a := .int kind) (G' := G) rfl <| c7 (a := .int 6) (G' := G) rfl <| aA4.mpr ⟨_, rfl, fun _ => ?_, fun _ => u0.mpr ?_⟩
 · refine j5.mpr <| K5 <| R6 <| J8 (x := .ref r) rfl <| m8 <| aX9 rfl (by decide) (by decide) <| c7 (a := [.int 4, .int 9]) (G' := G) rfl ⟨sz, h, rfl, fun d hd G1 f1 => ?_⟩
   have hd' : ∃ i : Int, d = .int i ∧ 0 < i ∧ i ≤ 9 := by
    simp only [List.mem_cons, List.not_mem_nil, or_false] at hd
    rcases hd with rfl | rfl
    · exact ⟨4, rfl, by decide, by decide⟩
    · exact ⟨9, rfl, by decide, by decide⟩
   obtain ⟨i, rfl, hi1, hi2⟩ := hd'
   refine t6.mpr <| aB1.mpr ⟨rfl, ?_⟩
   refine U7 f1.2.2 ⟨hi1, by lia⟩ fun m hm0 hm1 G2 f2 => ?_
   have f12 := f1.trans f2
   refine t7 <| W5.mpr <| J8 (x := .str N6) rfl <| m8 <| R6 <| m8 <| aZ3 (j := m) (G1 := G2) rfl hm0 (by lia) <| (bC0 (Fr r G) (fun σ => ∃ u, σ = [u, some (.int deep), some (.ref r)]) (fun _ y => Dr (n + 1) (Bd (n + 1)) y) (fun _ _ => rfl) _ _ G2 ⟨_, rfl⟩ f12 ?_).mono ?_
   · rintro d hd _ G3 ⟨v, rfl⟩ j
     exact U3.mpr ⟨rfl, ⟨_, rfl⟩, j8 (as := [.ref r, .int (deep - 1)]) rfl rfl <| (hR G3 j.2.2).mono fun x G4 ⟨dx, f4⟩ => ⟨j.trans f4, dx⟩⟩
   · rintro _ G3 ⟨f3, zs, e1, rfl, hz⟩
     have ln : zs.length ≤ 8 := by
      have := congrArg List.length e1
      unfold u6 at this
      rw [List.length_map, List.length_map, List.length_range] at this
      lia
     refine t6.mpr <| (Z1 o9).mpr <| t6.mpr ⟨sz, _, rfl, ?_, f3.trans (Fr.app f3.2.2)⟩
     refine (Dr.l (k := 8) (B := Bd (n + 1)) (by decide) (by rw [List.length_map]; exact ln) fun x hx => ?_).up (Nat.le_refl _) (by show _ ≤ 2 + 8 * (Bd (n + 1) + 1004); lia)
     obtain ⟨z, hzm, rfl⟩ := List.mem_map.mp hx
     exact hz z hzm
 · refine t7 <| W5.mpr <| J8 (x := .str aC5) rfl <| m8 <| R6 <| m8 <| wp_comp.mpr <| wp_itW.mpr <| j8 (as := [.ref r]) rfl rfl <| (cF9 h).mono ?_
   rintro _ G1 ⟨q, ss, rfl, hq, e1, hl, hs, hlt, f1⟩
   refine (bL8 e1).mpr ⟨by show (ss.map D.str).length ≤ _; rw [List.length_map]; lia, (bC0 (Fr r G1) (fun σ => ∃ u, σ = [u, some (.int deep), some (.ref r)]) (fun x y => ∃ nm v, x = .str nm ∧ y = prD (nm, v) ∧ Dr (n + 1) (Bd (n + 1)) v) (fun G' j => ?_) _ _ G1 ⟨_, rfl⟩ (Fr.refl f1.2.2) ?_).mono ?_⟩
   · have := j.at hq e1
     show ckO q (.lst (ss.map D.str)) G' = true
     unfold ckO; rw [this]; simp
   · rintro d hd _ G3 ⟨v, rfl⟩ j
     obtain ⟨nm, _, rfl⟩ := List.mem_map.mp hd
     exact U3.mpr ⟨rfl, ⟨_, rfl⟩, W5.mpr <| J8 (x := .str nm) rfl <| m8 <| j8 (as := [.ref r, .int (deep - 1)]) rfl rfl <| (hR G3 j.2.2).mono fun x G4 ⟨dx, f4⟩ => t6.mpr ⟨sz, j.trans f4, nm, x, rfl, rfl, dx⟩⟩
   · rintro _ G3 ⟨f3, zs, e2, rfl, hz⟩
     obtain ⟨ps, ep, en, hd⟩ : ∃ ps : List (Str × D), zs.map (·.2) = ps.map prD ∧ ps.map (·.1) = ss ∧ ∀ p ∈ ps, Dr (n + 1) (Bd (n + 1)) p.2 := by
      clear hlt hs hl e1
      induction zs generalizing ss with
      | nil =>
        rcases ss with _ | ⟨_, _⟩
        · exact ⟨[], rfl, rfl, fun _ h => nomatch h⟩
        · cases e2
      | cons z t ih =>
        rcases ss with _ | ⟨a, b⟩
        · cases e2
        · obtain ⟨nm, v, k1, k2, k3⟩ := hz z (List.mem_cons_self ..)
          have e3 := List.cons.inj e2
          obtain ⟨ps, h1, h2, h3⟩ := ih b e3.2 fun z hz' => hz z (List.mem_cons_of_mem _ hz')
          have ea : nm = a := by have := k1.symm.trans e3.1; cases this; rfl
          subst ea
          refine ⟨(nm, v) :: ps, by rw [List.map_cons, List.map_cons, h1, k2], by rw [List.map_cons, h2], fun p hp => ?_⟩
          rcases List.mem_cons.mp hp with rfl | hp
          · exact k3
          · exact h3 p hp
     refine t6.mpr <| (Z1 o9).mpr <| t6.mpr ⟨sz, _, rfl, ?_, (f1.trans f3).trans (Fr.app f3.2.2)⟩
     rw [ep]
     refine (Dr.r (k := 8) (B := Bd (n + 1)) (by decide) (by rw [← en, List.length_map] at hl; exact hl) (by rw [en]; exact hlt) (fun p hp => dK1 (hs.1 p.1 (by rw [← en]; exact List.mem_map_of_mem hp))) hd).up (Nat.le_refl _) (by show _ ≤ 2 + 8 * (Bd (n + 1) + 1004); lia)
end
theorem cX8 {r : Nat} {G : DH} {kind : Int} {s1 s3 : Option D} {Q : Fl → DH → Prop} (h : M3 G r) (q : ∀ G', Fr r G G' → Q (.nx [some (.ref r), s1, some (.int kind), s3]) G') : Wp (J0 (binE addD (binE ixD (varE 0) (cE (.int 3))) (cE (.int 1))) (aZ2 (varE 0) (cE (.int 3))) [some (.ref r), s1, some (.int kind), s3]) G Q := by
 have hlt := h.lt
 obtain ⟨a, b, c, e, hr, hb1, hb2⟩ := h
 refine aX0.mpr (bin_w (ixv (G1 := G) rfl rfl hr rfl (c7 (a := .int 1) rfl (aB4.mpr (cY1 (k := 3) rfl rfl hr rfl ?_)))))
 exact q _ (Fr.set ⟨a, b, c, e + 1, List.getElem?_set_self hlt, hb1, hb2⟩)
theorem cW7 {r : Nat} {G : DH} {deep kind : Int} {s3 : Option D} {Q : Bool → DH → Prop} (h : M3 G r) (q : ∀ b, (b = true → 1 < deep) → Q b G) : Wp (VT [some (.ref r), some (.int deep), some (.int kind), s3]) G Q := by
 obtain ⟨a, b, c, e, hr, hb1, hb2⟩ := h
 refine bO8 <| J4 <| bin_w <| c7 (a := .int kind) (G' := G) rfl <| c7 (a := .int 5) (G' := G) rfl <| bR6.mpr ⟨_, rfl, fun _ => ?_, fun _ => q _ fun z => nomatch z⟩
 refine bO8 <| J4 <| bin_w <| c7 (a := .int deep) (G' := G) rfl <| c7 (a := .int 1) (G' := G) rfl <| bR6.mpr ⟨_, rfl, fun hd => ?_, fun _ => q _ fun z => nomatch z⟩
 refine J4 <| bin_w <| ixv (G1 := G) rfl rfl hr rfl <| c7 (a := .int 20) (G' := G) rfl <| bI8.mpr ⟨_, rfl, q _ fun _ => ?_⟩
 exact of_decide_eq_true hd
theorem cM2 {r : Nat} : ∀ (n N : Nat) (deep : Int) (G : DH), deep ≤ n + 1 → n + 1 ≤ N → M3 G r → Wp (R3 N [.ref r, .int deep]) G fun x G' => Dr (n + 1) (Bd (n + 1)) x ∧ Fr r G G' := by
 intro n
 induction n with
 | zero =>
   intro N deep G hd hN h
   obtain ⟨M, rfl⟩ : ∃ M, N = M + 1 := ⟨N - 1, by lia⟩
   refine o6 (show Wp (R0 (R3 M) [some (.ref r), some (.int deep), none, none]) G _ from ?_)
   rw [cX1]
   refine j5.mpr <| K5 <| j8 (as := [.ref r, .int 8]) rfl rfl <| U7 h ⟨by decide, by decide⟩ fun k hk0 hk1 G1 f1 => j5.mpr <| cX8 f1.2.2 fun G2 f2 => j5.mpr <| Q0 <| cW7 f2.2.2 fun b hb => ⟨fun z => absurd (hb z) (by lia), fun _ => u0.mpr <| (cW2 (n := 0) f2.2.2).mono ?_⟩
   rintro _ G3 ⟨d, rfl, hd, f3⟩
   exact G9 ⟨hd, (f1.trans f2).trans f3⟩
 | succ n ih =>
   intro N deep G hd hN h
   obtain ⟨M, rfl⟩ : ∃ M, N = M + 1 := ⟨N - 1, by lia⟩
   refine o6 (show Wp (R0 (R3 M) [some (.ref r), some (.int deep), none, none]) G _ from ?_)
   rw [cX1]
   refine j5.mpr <| K5 <| j8 (as := [.ref r, .int 8]) rfl rfl <| U7 h ⟨by decide, by decide⟩ fun k hk0 hk1 G1 f1 => j5.mpr <| cX8 f1.2.2 fun G2 f2 => j5.mpr <| Q0 <| cW7 f2.2.2 fun b hb => ⟨fun _ => ?_, fun _ => u0.mpr <| (cW2 (n := 0) f2.2.2).mono ?_⟩
   · refine (dJ9 (n := n) f2.2.2 fun G3 h3 => ih M (deep - 1) G3 (by lia) (by lia) h3).mono ?_
     rintro _ G3 ⟨d, rfl, hd, f3⟩
     exact G9 ⟨hd, (f1.trans f2).trans f3⟩
   · rintro _ G3 ⟨d, rfl, hd, f3⟩
     exact G9 ⟨hd.up (by lia) (dL9 _ (by lia)), (f1.trans f2).trans f3⟩
theorem bd5 : Bd 5 ≤ 10000000 := by decide +kernel
theorem aP1 : ∀ z : Str, z = "a" ∨ z = "" → TxL z := by
 rintro z (rfl | rfl)
 · exact ⟨by decide +kernel, by decide +kernel⟩
 · exact ⟨by decide +kernel, by decide +kernel⟩
theorem bK6 {r : Nat} {G : DH} (h : M3 G r) : Wp (K6 [.ref r]) G fun x G' => Dr 1 1002 x ∧ Fr r G G' := by
 refine o6 (show Wp (aD9 [some (.ref r)]) G _ from ?_)
 refine t7 <| aX9 rfl (by decide) (by decide) <| c7 (a := [.int 0, .int 1, .int (-1), .str "a", .str "", .bl true, .bl false, .int 7]) (G' := G) rfl ⟨sz, h, rfl, fun d hd G1 f1 => G9 ⟨?_, f1⟩⟩
 have si : ∀ i : Int, -10 ≤ i → i ≤ 10 → Dr 1 1002 (.int i) := fun i h1 h2 => .i (by unfold smI bC9; lia)
 simp only [List.mem_cons, List.not_mem_nil, or_false] at hd
 rcases hd with rfl | rfl | rfl | rfl | rfl | rfl | rfl | rfl
 · exact si _ (by decide) (by decide)
 · exact si _ (by decide) (by decide)
 · exact si _ (by decide) (by decide)
 · exact .s (aP1 _ (.inl rfl))
 · exact .s (aP1 _ (.inr rfl))
 · exact .b
 · exact .b
 · exact si _ (by decide) (by decide)
theorem cF3 {G : DH} {p : Nat} {l : List D} {Q : DPP} (e : G[p]? = some (.lst l)) : Wp (lenF [.ref p]) G Q ↔ Q (.int l.length) G := by
 unfold lenF
 simp only [j6, R5, e, T3, f9]
theorem cL1 {z : Str} {k c : Nat} {G : DH} {Q : DPP} (hz : z.length ≤ sizeLine) (h : z.cps.toList[k]? = some c) (q : Q (.str ⟨#[c]⟩) G) : Wp (ixD (.str z) (.int (k : Int))) G Q := by
 have e : ixD (.str z) (.int (k : Int)) = if z.length ≤ sizeLine then (do
  let c ← aC7 (atI z.cps.toList (k : Int))
  pure (.str ⟨#[c]⟩) : M D) else M.stuck := rfl
 rw [e, if_pos hz]
 simp only [j6, aF2, f9]
 refine ⟨c, ?_, q⟩
 have hn : k < z.cps.toList.length := (List.getElem?_eq_some_iff.mp h).1
 unfold atI ixN
 rw [if_pos (by omega), if_pos (by lia)]
 simp only [Int.toNat_natCast, Option.bind_some, h]
noncomputable def nmK (k : Nat) : Str := ofL [97 + k / 3, 97 + k % 3]
theorem dA4 {a b : Nat} (h : a < b) : LtS (nmK a) (nmK b) := by
 show [97 + a / 3, 97 + a % 3] < [97 + b / 3, 97 + b % 3]
 rcases Nat.lt_or_ge (a / 3) (b / 3) with z | z
 · exact List.cons_lt_cons_iff.mpr (.inl (by lia))
 · have : a / 3 = b / 3 := by lia
   refine List.cons_lt_cons_iff.mpr (.inr ⟨by lia, List.cons_lt_cons_iff.mpr (.inl (by lia))⟩)
theorem cY6 {k : Nat} (h : k ≤ 70) : TxL (nmK k) ∧ tl (nmK k) ≠ [] := by
 refine ⟨⟨fun c hc => ?_, ?_⟩, ?_⟩
 · have : c ∈ [97 + k / 3, 97 + k % 3] := hc
   simp only [List.mem_cons, List.not_mem_nil, or_false] at this
   rcases this with rfl | rfl <;> constructor <;> lia
 · show (2 : Nat) ≤ 1000; decide
 · exact List.cons_ne_nil _ _
theorem dD1 : ∀ k, k < 26 → ("abcdefghijklmnopqrstuvwxyz" : Str).cps.toList[k]? = some (97 + k) := by decide +kernel
theorem dP5 : ∀ k, k < 3 → ("abc" : Str).cps.toList[k]? = some (97 + k) := by decide +kernel
def gK : D → Str
 | .int i => nmK i.toNat
 | _ => ""
theorem cW9 (g : D → Str) (P : D → Prop) : ∀ zs : List (D × D), (∀ z ∈ zs, ∃ v, z.2 = prD (g z.1, v) ∧ P v) → ∃ ps : List (Str × D), zs.map (·.2) = ps.map prD ∧ ps.map (·.1) = (zs.map (·.1)).map g ∧ ∀ p ∈ ps, P p.2
 | [], _ => ⟨[], rfl, rfl, fun _ h => nomatch h⟩
 | z :: t, h => by
   obtain ⟨v, e, hv⟩ := h z (List.mem_cons_self ..)
   obtain ⟨ps, h1, h2, h3⟩ := cW9 g P t fun z hz => h z (List.mem_cons_of_mem _ hz)
   refine ⟨(g z.1, v) :: ps, by rw [List.map_cons, List.map_cons, h1, e], by rw [List.map_cons, h2, List.map_cons, List.map_cons], fun p hp => ?_⟩
   rcases List.mem_cons.mp hp with rfl | hp
   · exact hv
   · exact h3 p hp
theorem dQ0 : aB7 = seqS (J0 (q12 (fnX 2 d9) (q10 (varE 0) (q10 (cE (.int 2)) (q11)))) (q13 1)) (seqS WA (seqS (ifS (G5 (binE eqD (varE 1) (cE (.int 0)))) (retS (tupE (q10 (cE (.str ("list" : Str))) (q10 (q12 W7 (q10 (varE 2) (q11))) (q11))))) (nextS)) (seqS (J0 (cE (.str ("abcdefghijklmnopqrstuvwxyz" : Str))) (q13 3)) WB))) := rfl
section
variable {r : Nat} {G : DH}
theorem dL4 {kind : Int} {s2 s3 : Option D} (h : M3 G r) : Wp (WA [some (.ref r), some (.int kind), s2, s3]) G fun fl G' => Fr r G G' ∧ ∃ q l, fl = .nx [some (.ref r), some (.int kind), some (.ref q), s3] ∧ G'[q]? = some (.lst l) ∧ q ≠ r ∧ l.length ≤ 58 ∧ ∀ x ∈ l, Dr 1 1002 x := by
 have bg := big
 refine K5 <| wp_comp.mpr <| rng1.mpr <| m8 <| bin_w <| c7 (a := .int 9) (G' := G) rfl <| j8 (as := [.ref r, .int 50]) rfl rfl <| U7 h ⟨by decide, by decide⟩ fun k hk0 hk1 G1 f1 => aB4.mpr <| t6.mpr <| (rng1_int ⟨by lia, by lia⟩).mpr ?_
 have ln : (u6 0 (9 + k).toNat).length = (9 + k).toNat := by unfold u6; rw [List.length_map, List.length_range]
 refine ⟨by show (u6 0 (9 + k).toNat).length ≤ _; rw [ln]; lia, (bC0 (Fr r G) (fun σ => ∃ u, σ = [u, some (.ref r)]) (fun _ y => Dr 1 1002 y) (fun _ _ => rfl) _ _ G1 ⟨_, rfl⟩ f1 ?_).mono ?_⟩
 · rintro d hd _ G3 ⟨v, rfl⟩ j
   exact U3.mpr ⟨rfl, ⟨_, rfl⟩, j8 (as := [.ref r]) rfl rfl <| (bK6 j.2.2).mono fun x G4 ⟨dx, f4⟩ => ⟨j.trans f4, dx⟩⟩
 · rintro _ G3 ⟨f3, zs, e1, rfl, hz⟩
   have hr3 := f3.2.2.lt
   refine ⟨f3.trans (Fr.app f3.2.2), _, _, rfl, o9, by lia, ?_, fun x hx => ?_⟩
   · have := congrArg List.length e1
     rw [List.length_map, ln] at this
     rw [List.length_map]; lia
   · obtain ⟨z, hzm, rfl⟩ := List.mem_map.mp hx
     exact hz z hzm
theorem dI6 {s0 s1 : Option D} {q : Nat} {l : List D} (h : M3 G r) (e : G[q]? = some (.lst l)) (hl : l.length ≤ 58) (hx : ∀ x ∈ l, Dr 1 1002 x) : Wp (WB [s0, s1, some (.ref q), some (.str "abcdefghijklmnopqrstuvwxyz")]) G fun fl G' => ∃ d, fl = .rt d ∧ Dr 2 200000 d ∧ Fr r G G' := by
 have bg := big
 have z26 : ("abcdefghijklmnopqrstuvwxyz" : Str).length = 26 := rfl
 have z3 : ("abc" : Str).length = 3 := rfl
 refine t7 <| W5.mpr <| J8 (x := .str aC5) rfl <| m8 <| R6 <| m8 <| wp_comp.mpr <| rng1.mpr <| m8 <| aI2 (as := [.ref q]) rfl <| (cF3 e).mpr <| t6.mpr <| (rng1_int ⟨by lia, by lia⟩).mpr ?_
 rw [Int.toNat_natCast]
 have ln : (u6 0 l.length).length = l.length := by unfold u6; rw [List.length_map, List.length_range]
 refine ⟨by show (u6 0 l.length).length ≤ _; rw [ln]; lia, (bC0 (fun G' => G' = G) (fun σ => ∃ u, σ = [u, some (.str "abcdefghijklmnopqrstuvwxyz"), some (.ref q)]) (fun x y => ∃ v, y = prD (gK x, v) ∧ Dr 1 1002 v) (fun _ _ => rfl) _ _ G ⟨_, rfl⟩ rfl ?_).mono ?_⟩
 · rintro d hd _ G3 ⟨v, rfl⟩ j
   subst j
   unfold u6 at hd
   obtain ⟨i, hi, rfl⟩ := List.mem_map.mp hd
   have hi := List.mem_range.mp hi
   have e3 : ((0 : Int) + (i : Int)) / 3 = ((i / 3 : Nat) : Int) := by lia
   have e4 : ((0 : Int) + (i : Int)) % 3 = ((i % 3 : Nat) : Int) := by lia
   have eg : gK (.int (0 + (i : Int))) = nmK i := by show nmK (0 + (i : Int)).toNat = _; rw [Int.zero_add, Int.toNat_natCast]
   have ed : atI l (0 + (i : Int)) = some l[i] := by rw [Int.zero_add]; exact atI_nat (List.getElem?_eq_getElem hi)
   refine U3.mpr ⟨rfl, ⟨_, rfl⟩, W5.mpr <| m8 <| bin_w <| bin_w <| c7 (a := .str "abcdefghijklmnopqrstuvwxyz") (G' := G3) rfl <| aW4 (x := .int (0 + (i : Int))) (y := .int 3) rfl rfl <| (aV9 ⟨by decide, by decide⟩).mpr ?_⟩
   rw [e3]
   refine cL1 (c := 97 + i / 3) (by lia) (dD1 _ (by lia)) <| bin_w <| c7 (a := .str "abc") (G' := G3) rfl <| aW4 (x := .int (0 + (i : Int))) (y := .int 3) rfl rfl <| (aB5 (by decide)).mpr ?_
   rw [e4]
   refine cL1 (c := 97 + i % 3) (by lia) (dP5 _ (by lia)) <| (V7 (by rw [aN9, aN9]; lia)).mpr <| m8 <| ixv (G1 := G3) rfl rfl e ed <| t6.mpr ⟨sz, rfl, l[i], ?_, hx _ (List.getElem_mem hi)⟩
   rw [eg]
   rfl
 · rintro _ G3 ⟨rfl, zs, e1, rfl, hz⟩
   obtain ⟨ps, ep, en, hd⟩ := cW9 gK (Dr 1 1002) zs fun z hz' => hz z hz'
   rw [e1] at en
   have en2 : ps.map (·.1) = (List.range l.length).map nmK := by
    rw [en]; unfold u6; rw [List.map_map]
    refine List.map_congr_left fun i _ => ?_
    show nmK (0 + (i : Int)).toNat = _
    rw [Int.zero_add, Int.toNat_natCast]
   have lp : ps.length = l.length := by have := congrArg List.length en2; rw [List.length_map, List.length_map, List.length_range] at this; exact this
   refine t6.mpr <| (Z1 o9).mpr <| t6.mpr ⟨sz, _, rfl, ?_, Fr.app h⟩
   rw [ep]
   refine (Dr.r (n := 1) (k := 58) (B := 1002) (by decide) (by lia) ?_ (fun p hp => ?_) hd).up (Nat.le_refl _) (by decide)
   · rw [en2]
     exact List.pairwise_map.mpr (List.pairwise_lt_range.imp fun h => dA4 h)
   · have : p.1 ∈ ps.map (·.1) := List.mem_map_of_mem hp
     rw [en2] at this
     obtain ⟨i, hi, ei⟩ := List.mem_map.mp this
     rw [← ei]
     exact cY6 (by have := List.mem_range.mp hi; lia)
theorem cS6 (h : M3 G r) : Wp (W0 [.ref r]) G fun x G' => Dr 2 200000 x ∧ Fr r G G' := by
 refine o6 (show Wp (aB7 [some (.ref r), none, none, none]) G _ from ?_)
 rw [dQ0]
 refine j5.mpr <| K5 <| j8 (as := [.ref r, .int 2]) rfl rfl <| U7 h ⟨by decide, by decide⟩ fun k hk0 hk1 G1 f1 => j5.mpr <| (dL4 f1.2.2).mono ?_
 rintro _ G2 ⟨f2, q, l, rfl, e, hq, hl, hx⟩
 refine j5.mpr <| Q0 <| J4 <| bin_w <| c7 (a := .int k) (G' := G2) rfl <| c7 (a := .int 0) (G' := G2) rfl <| aA4.mpr ⟨_, rfl, fun _ => ?_, fun _ => u0.mpr ?_⟩
 · refine t7 <| W5.mpr <| J8 (x := .str N6) rfl <| m8 <| aI2 (as := [.ref q]) rfl <| (Z1 e).mpr <| t6.mpr ⟨sz, G9 ⟨(Dr.l (n := 1) (B := 1002) (k := 58) (by decide) hl hx).up (Nat.le_refl _) (by decide), f1.trans f2⟩⟩
 · refine v7 (σ' := [some (.ref r), some (.int k), some (.ref q), some (.str "abcdefghijklmnopqrstuvwxyz")]) (G' := G2) rfl <| (dI6 f2.2.2 e hl hx).mono ?_
   rintro _ G3 ⟨d, rfl, hd, f3⟩
   exact G9 ⟨hd, (f1.trans f2).trans f3⟩
end
noncomputable abbrev c1 (v : D) : D := .tup [.str N6, .tup [v]]
noncomputable abbrev c2 (v : D) : D := .tup [.str N6, .tup [.int 0, v]]
noncomputable abbrev c3 (v : D) : D := .tup [.str aC5, .tup [.tup [.str "a", v]]]
noncomputable abbrev c4 (v : D) : D := .tup [.str aC5, .tup [.tup [.str "a", .int 1], .tup [.str "b", v]]]
theorem dM1 : TxL "a" ∧ tl ("a" : Str) ≠ [] := ⟨aP1 _ (.inl rfl), by decide +kernel⟩
theorem dN9 : TxL "b" ∧ tl ("b" : Str) ≠ [] := ⟨⟨by decide +kernel, by decide +kernel⟩, by decide +kernel⟩
theorem cG5 {i : Int} (h0 : -1000 ≤ i) (h1 : i ≤ 1000) : smI i := by unfold smI bC9; lia
theorem dH4 {n B : Nat} {v : D} (h : Dr (n + 1) B v) : Dr (n + 2) (B + 100) (c1 v) := by
 refine ⟨.l (l := [v]) (Nat.le_of_ble_eq_true rfl) fun x hx => List.mem_singleton.mp hx ▸ h.gv, ?_⟩
 rw [bJ3]
 have := h.ln
 simp only [List.map_cons, List.map_nil, N5, glL, List.length_cons, List.length_append, List.length_nil]
 lia
theorem dK2 {n B : Nat} {v : D} (h : Dr (n + 1) B v) : Dr (n + 2) (B + 100) (c2 v) := by
 have s0 : smI 0 := cG5 (by decide) (by decide)
 refine ⟨.l (l := [.int 0, v]) (Nat.le_of_ble_eq_true rfl) fun x hx => ?_, ?_⟩
 · simp only [List.mem_cons, List.not_mem_nil, or_false] at hx
   rcases hx with rfl | rfl
   · exact .i s0
   · exact h.gv
 · rw [bJ3]
   have := h.ln
   have := aQ9 s0
   simp only [List.map_cons, List.map_nil, N5, glL, aR3, List.length_cons, List.length_append, List.length_nil]
   lia
theorem dG9 {n B : Nat} {v : D} (h : Dr (n + 1) B v) : Dr (n + 2) (B + 100) (c3 v) := by
 refine ⟨.r (ps := [("a", v)]) (Nat.le_of_ble_eq_true rfl) (List.pairwise_singleton ..) (fun p hp => List.mem_singleton.mp hp ▸ dM1) fun p hp => List.mem_singleton.mp hp ▸ h.gv, ?_⟩
 rw [bG7]
 have := h.ln
 have la : (tl ("a" : Str)).length = 1 := rfl
 simp only [List.map_cons, List.map_nil, N5, glL, shQ, List.length_cons, List.length_append, List.length_nil, la]
 lia
theorem dJ2 {n B : Nat} {v : D} (h : Dr (n + 1) B v) : Dr (n + 2) (B + 100) (c4 v) := by
 have s1 : smI 1 := cG5 (by decide) (by decide)
 refine ⟨.r (ps := [("a", .int 1), ("b", v)]) (Nat.le_of_ble_eq_true rfl) ?_ (fun p hp => ?_) fun p hp => ?_, ?_⟩
 · refine List.pairwise_cons.mpr ⟨fun x hx => List.mem_singleton.mp hx ▸ ?_, List.pairwise_singleton ..⟩
   show ("a" : Str).cps.toList < ("b" : Str).cps.toList
   decide +kernel
 · simp only [List.mem_cons, List.not_mem_nil, or_false] at hp
   rcases hp with rfl | rfl
   · exact dM1
   · exact dN9
 · simp only [List.mem_cons, List.not_mem_nil, or_false] at hp
   rcases hp with rfl | rfl
   · exact .i s1
   · exact h.gv
 · rw [bG7]
   have := h.ln
   have := aQ9 s1
   have la : (tl ("a" : Str)).length = 1 := rfl
   have lb : (tl ("b" : Str)).length = 1 := rfl
   simp only [List.map_cons, List.map_nil, N5, glL, shQ, aR3, List.length_cons, List.length_append, List.length_nil, la, lb]
   lia
theorem dP4 : X6 = seqS (J0 (q12 (fnX 1 K6) (q10 (varE 0) (q11))) (q13 2)) (seqS (aR2 (R7 (q10 (q12 (fnX 2 d9) (q10 (varE 0) (q10 (varE 1) (q11)))) (q11))) (q13 3) CB) (retS (varE 2))) := rfl
theorem dM2 {r n B : Nat} {G : DH} {v : D} {s1 s3 s4 : Option D} (h : M3 G r) (hv : Dr (n + 1) B v) : Wp (CB [some (.ref r), s1, some v, s3, s4]) G fun fl G' => Fr r G G' ∧ ∃ w s4', fl = .nx [some (.ref r), s1, some w, s3, s4'] ∧ Dr (n + 2) (B + 100) w := by
 have bg := big
 refine j5.mpr <| K5 <| aF9.mpr <| c7 (a := [c1 v, c2 v, c3 v]) (G' := G) rfl ⟨sz, ?_⟩
 refine K5 <| bin_w <| bin_w <| c7 (a := .ref G.length) (G' := G ++ [.lst [c1 v, c2 v, c3 v]]) rfl <| aF9.mpr <| c7 (a := [c4 v]) (G' := G ++ [.lst [c1 v, c2 v, c3 v]]) rfl ⟨sz, ?_⟩
 refine (bU8 (a := [c1 v, c2 v, c3 v]) (b := [c4 v]) (Z7 o9) o9 (show 3 + 1 ≤ sizeLine by lia)).mpr <| j8 (as := [.ref r, .int 4]) rfl rfl <| bY9 h.app.app (ds := [c1 v, c2 v, c3 v, c4 v]) rfl (by decide) (by decide) fun d hd G' f _ => ?_
 refine ⟨(Fr.app h).trans ((Fr.app h.app).trans f), d, _, rfl, ?_⟩
 simp only [List.mem_cons, List.not_mem_nil, or_false] at hd
 rcases hd with rfl | rfl | rfl | rfl
 · exact dH4 hv
 · exact dK2 hv
 · exact dG9 hv
 · exact dJ2 hv
theorem bU4 {r : Nat} {s1 : Option D} : ∀ (items : List D) (n B : Nat) (v : D) (s3 s4 : Option D) (G : DH), M3 G r → Dr (n + 1) B v →
 Wp (aB8 (q13 3) CB (fun _ => true) items [some (.ref r), s1, some v, s3, s4]) G fun fl G' => Fr r G G' ∧ ∃ w s3' s4', fl = .nx [some (.ref r), s1, some w, s3', s4'] ∧ Dr (n + 1 + items.length) (B + 100 * items.length) w
 | [], n, B, v, s3, s4, G, h, hv => aM8.mpr ⟨rfl, Fr.refl h, v, s3, s4, rfl, hv⟩
 | d :: t, n, B, v, s3, s4, G, h, hv => by
   refine aM9.mpr ⟨rfl, U3.mpr <| (dM2 h hv).mono ?_⟩
   rintro _ G1 ⟨f1, w, s4', rfl, hw⟩
   refine (bU4 t (n + 1) (B + 100) w _ _ G1 f1.2.2 hw).mono ?_
   rintro _ G2 ⟨f2, w', s3', s4', rfl, hw'⟩
   exact ⟨f1.trans f2, w', s3', s4', rfl, hw'.up (by rw [List.length_cons]; lia) (by rw [List.length_cons]; lia)⟩
section
variable {r : Nat} {G : DH}
theorem cL8 (h : M3 G r) : Wp (T9 [.ref r, .int 20]) G fun x G' => Dr 20 10000 x ∧ Fr r G G' := by
 refine o6 (show Wp (X6 [some (.ref r), some (.int 20), none, none, none]) G _ from ?_)
 rw [dP4]
 refine j5.mpr <| K5 <| j8 (as := [.ref r]) rfl rfl <| (bK6 h).mono ?_
 rintro v G1 ⟨hv, f1⟩
 refine j5.mpr <| aU6.mpr <| rng1.mpr <| m8 <| j8 (as := [.ref r, .int 20]) rfl rfl <| U7 f1.2.2 ⟨by decide, by decide⟩ fun k hk0 hk1 G2 f2 => t6.mpr <| (rng1_int ⟨by lia, by lia⟩).mpr ?_
 have hlen : (u6 0 k.toNat).length = k.toNat := by unfold u6; rw [List.length_map, List.length_range]
 refine (bU4 (u6 0 k.toNat) 0 1002 v _ _ G2 f2.2.2 hv).mono ?_
 rintro _ G3 ⟨f3, w, s3, s4, rfl, hw⟩
 rw [hlen] at hw
 exact c7 rfl (G9 ⟨hw.up (by lia) (by lia), (f1.trans f2).trans f3⟩)
theorem cG4 (h : M3 G r) : Wp (U8 [.ref r, .int 20]) G fun x G' => Dr 20 10000000 x ∧ Fr r G G' := by
 refine o6 (show Wp (aD7 [some (.ref r), some (.int 20), none]) G _ from ?_)
 refine j5.mpr <| K5 <| j8 (as := [.ref r, .int 6]) rfl rfl <| U7 h ⟨by decide, by decide⟩ fun k hk0 hk1 G1 f1 => j5.mpr <| Q0 <| J4 <| bin_w <| c7 (a := .int k) (G' := G1) rfl <| c7 (a := .int 1) (G' := G1) rfl <| aA4.mpr ⟨_, rfl, fun _ => ?_, fun _ => u0.mpr ?_⟩
 · refine t7 <| j8 (as := [.ref r]) rfl rfl <| (cS6 f1.2.2).mono ?_
   rintro x G2 ⟨hx, f2⟩
   exact G9 ⟨hx.up (by decide) (by decide), f1.trans f2⟩
 · refine j5.mpr <| Q0 <| J4 <| bin_w <| c7 (a := .int k) (G' := G1) rfl <| c7 (a := .int 2) (G' := G1) rfl <| aA4.mpr ⟨_, rfl, fun _ => ?_, fun _ => u0.mpr ?_⟩
   · refine t7 <| j8 (as := [.ref r, .int 20]) rfl rfl <| (cL8 f1.2.2).mono ?_
     rintro x G2 ⟨hx, f2⟩
     exact G9 ⟨hx.up (by decide) (by decide), f1.trans f2⟩
   · refine t7 <| j8 (as := [.ref r, .int 5]) rfl rfl <| (cM2 4 6 5 G1 (by decide) (by decide) f1.2.2).mono ?_
     rintro x G2 ⟨hx, f2⟩
     exact G9 ⟨hx.up (by decide) bd5, f1.trans f2⟩
end
theorem bX5 {q : Nat} {o : DO} {G : DH} (e : G[q]? = some o) : ckO q o G = true := by unfold ckO; rw [e]; simp
theorem dP1 : bX0 = seqS (J0 (aA3 (q10 (cE (.int 0)) (q10 (unE bM9 (cE (.int 1))) (q10 (cE (.str ("" : Str))) (q10 (cE (.str ("true" : Str))) (q10 (cE (.bl true)) (q10 (cE (.bl false)) (q10 (tupE (q10 (cE (.str ("list" : Str))) (q10 (tupE (q11)) (q11)))) (q10 (tupE (q10 (cE (.str ("record" : Str))) (q10 (tupE (q11)) (q11)))) (q11)))))))))) (q13 1)) (seqS (aR2 (itW (binE addD (varE 1) (aA3 (q10 (tupE (q10 (cE (.str ("list" : Str))) (q10 (tupE (q10 (tupE (q10 (cE (.str ("list" : Str))) (q10 (tupE (q11)) (q11)))) (q10 (tupE (q10 (cE (.str ("record" : Str))) (q10 (tupE (q11)) (q11)))) (q11)))) (q11)))) (q11))))) (q13 2) LA) (seqS (aR2 (aP9 (q10 (W6 (varE 0) (aQ6) (W3 (cE (.int 63)))) (q11))) (bN1 2 (Z9 (q13 3) (Z9 (q13 4) (bO2)))) LB) LC)) := rfl
noncomputable abbrev e1 : D := .tup [.str N6, .tup []]
noncomputable abbrev e2 : D := .tup [.str aC5, .tup []]
noncomputable def dD6 : List D := [.int 0, .int (-1), .str "", .str "true", .bl true, .bl false, e1, e2] ++ [.tup [.str N6, .tup [e1, e2]]]
theorem cS0 : ∀ x ∈ dD6, Dr 20 10000000 x := by
 have h1 : Dr 2 1002 e1 := (Dr.l (n := 1) (B := 0) (k := 0) (l := []) (by decide) (Nat.le_refl _) (fun _ h => nomatch h)).up (by decide) (by decide)
 have h2 : Dr 2 1002 e2 := (Dr.r (n := 1) (B := 0) (k := 0) (ps := []) (by decide) (Nat.le_refl _) List.Pairwise.nil (fun _ h => nomatch h) (fun _ h => nomatch h)).up (by decide) (by decide)
 have tt : TxL "true" := ⟨by decide +kernel, by decide +kernel⟩
 intro x hx
 unfold dD6 at hx
 simp only [List.cons_append, List.nil_append, List.mem_cons, List.not_mem_nil, or_false] at hx
 rcases hx with rfl | rfl | rfl | rfl | rfl | rfl | rfl | rfl | rfl
 · exact (Dr.i (n := 0) (cG5 (by decide) (by decide))).up (by decide) (by decide)
 · exact (Dr.i (n := 0) (cG5 (by decide) (by decide))).up (by decide) (by decide)
 · exact (Dr.s (n := 0) (aP1 _ (.inr rfl))).up (by decide) (by decide)
 · exact (Dr.s (n := 0) tt).up (by decide) (by decide)
 · exact (Dr.b (n := 0)).up (by decide) (by decide)
 · exact (Dr.b (n := 0)).up (by decide) (by decide)
 · exact h1.up (by decide) (by decide)
 · exact h2.up (by decide) (by decide)
 · refine (Dr.l (n := 2) (B := 1002) (k := 2) (by decide) (Nat.le_of_ble_eq_true rfl) fun x hx => ?_).up (by decide) (by decide)
   simp only [List.mem_cons, List.not_mem_nil, or_false] at hx
   rcases hx with rfl | rfl
   · exact h1
   · exact h2
theorem bG1 {d : D} {G : DH} {Q : DPP} (h : Dr 20 10000000 d) (q : ∀ G', Ap G G' → Q (.bl true) G') : Wp (K4 [d]) G Q := cR0 h.gv (Nat.le_refl _) h.ln q
theorem bV0 {q : Nat} {K : List D} {s0 s1 s3 s4 s5 : Option D} : ∀ (items : List D) (s2 : Option D) (G : DH), (∀ x ∈ items, Dr 20 10000000 x) → G[q]? = some (.lst K) →
 Wp (aB8 (q13 2) LA (ckO q (.lst K)) items [s0, s1, s2, s3, s4, s5]) G fun fl G' => Ap G G' ∧ ∃ u, fl = .nx [s0, s1, u, s3, s4, s5]
 | [], s2, G, h, e => aM8.mpr ⟨bX5 e, Ap.refl, s2, rfl⟩
 | d :: t, s2, G, h, e => by
   refine aM9.mpr ⟨bX5 e, U3.mpr <| bY0 <| aB6 <| j8 (as := [d]) rfl rfl <| bG1 (h d (List.mem_cons_self ..)) fun G1 j1 => ⟨rfl, rfl, u0.mpr ?_⟩⟩
   refine (bV0 t _ G1 (fun x hx => h x (List.mem_cons_of_mem _ hx)) (j1.at e)).mono ?_
   rintro _ G2 ⟨j2, x⟩
   exact ⟨j1.trans j2, x⟩
theorem dL2 {ns : List Int} {p : Nat} {k c : Int} {G : DH} {s1 s2 s5 : Option D} (e : G[p]? = some (.rol (ns.map D.int))) (hk : 0 ≤ k ∧ k < 64) : Wp (LB [some (.ref p), s1, s2, some (.int k), some (.int c), s5]) G fun fl G' => Gr G G' ∧ ∃ b5, fl = .nx [some (.ref p), s1, s2, some (.int k), some (.int c), b5] := by
 refine j5.mpr <| K5 <| j8 (as := [.ref p, .int c, .int k]) rfl rfl <| (cU7 e hk).mono ?_
 rintro _ G1 ⟨r, rfl, hr, hh, g1⟩
 refine bY0 <| aB6 <| R6 <| m8 <| j8 (as := [.ref r, .int 20]) rfl rfl <| (cG4 hh).mono ?_
 rintro x G2 ⟨hx, f2⟩
 refine t6.mpr <| aB1.mpr ⟨rfl, bG1 hx fun G3 j3 => ⟨rfl, rfl, u0.mpr ⟨?_, _, rfl⟩⟩⟩
 obtain ⟨t, rfl⟩ := j3
 exact Gr.of g1 (f2.trans (Fr.app f2.2.2)) hr
theorem bW9 {ns : List Int} {p q : Nat} {L : List D} : ∀ (cs : List Int) (k : Nat) (u1 u2 u3 u4 u5 : Option D) (G : DH), G[p]? = some (.rol (ns.map D.int)) → G[q]? = some (.lst L) → k + cs.length ≤ 63 →
 Wp (aB8 (bN1 2 (Z9 (q13 3) (Z9 (q13 4) bO2))) LB (ckO q (.lst L)) (((cs.map D.int).zipIdx k).map fun p => .tup [.int ((p.2 : Nat) : Int), p.1]) [some (.ref p), u1, u2, u3, u4, u5]) G fun fl G' => Gr G G' ∧ ∃ u1 u2 u3 u4 u5, fl = .nx [some (.ref p), u1, u2, u3, u4, u5]
 | [], k, u1, u2, u3, u4, u5, G, e, et, hk => by
   simp only [List.map_nil, List.zipIdx_nil]
   exact aM8.mpr ⟨bX5 et, Gr.refl, _, _, _, _, _, rfl⟩
 | c :: r, k, u1, u2, u3, u4, u5, G, e, et, hk => by
   simp only [List.map_cons, List.zipIdx_cons]
   simp only [List.length_cons] at hk
   refine aM9.mpr ⟨bX5 et, ?_⟩
   refine c7 (a := [some (.ref p), u1, u2, some (.int k), some (.int c), u5]) (G' := G) rfl ?_
   refine (dL2 e ⟨by lia, by lia⟩).mono ?_
   rintro _ G1 ⟨g1, b5, rfl⟩
   refine (bW9 r (k + 1) _ _ _ _ _ G1 (g1.at e) (g1.at et) (by lia)).mono fun fl G2 z => ?_
   exact ⟨g1.trans z.1, z.2⟩
theorem cO3 {G : DH} {p : Nat} {l : List D} {lo hi : Option Int} {Q : DPP} (e : G[p]? = some (.rol l)) : Wp (slT (.ref p) lo hi) G Q ↔ Q (.ref G.length) (G ++ [.lst (DL.cutD l lo hi)]) := dD4 e
theorem dJ1 (ns : List Int) : ∃ cs : List Int, DL.cutD (ns.map D.int) none (some 63) = cs.map D.int ∧ cs.length ≤ 63 := by
 refine ⟨ns.take 63, ?_, by rw [List.length_take]; lia⟩
 have := cN6 (ns.map D.int) 63
 rw [← List.map_take] at this
 exact this
theorem dI5 {s0 s1 s2 s3 s4 s5 : Option D} {G : DH} : Wp (LC [s0, s1, s2, s3, s4, s5]) G fun fl _ => fl = .rt (.bl true) := by
 refine t7 <| R6 <| m8 <| W5.mpr <| J8 (x := .str N6) rfl <| m8 <| R6 <| m8 <| aZ3 (j := 60) (G1 := G) rfl (by decide) (by decide) <| (bC0 (fun G' => G' = G) One (fun _ y => ∃ i : Int, y = .int i ∧ -1000 ≤ i ∧ i ≤ 1000) (fun _ _ => rfl) _ _ G ⟨_, rfl⟩ rfl ?_).mono ?_
 · rintro d hd _ G3 ⟨v, rfl⟩ j
   subst j
   unfold u6 at hd
   obtain ⟨i, hi, rfl⟩ := List.mem_map.mp hd
   have hi : i < 60 := List.mem_range.mp hi
   refine U3.mpr ⟨rfl, ⟨_, rfl⟩, bin_w <| aW4 (x := .int (0 + (i : Int))) (y := .int 7) rfl rfl <| (aJ5 (Or.inr ⟨by lia, by lia⟩)).mpr <| c7 (a := .int 200) (G' := G3) rfl <| aO0.mpr ⟨rfl, _, rfl, by lia, by lia⟩⟩
 · rintro _ G3 ⟨rfl, zs, ez, rfl, hz⟩
   refine t6.mpr <| (Z1 o9).mpr <| t6.mpr ⟨sz, t6.mpr <| aB1.mpr ⟨rfl, bG1 ?_ fun G4 j4 => rfl⟩⟩
   have ln : zs.length = 60 := by
    have := congrArg List.length ez
    unfold u6 at this
    rw [List.length_map, List.length_map, List.length_range] at this
    exact this
   refine (Dr.l (n := 1) (B := 1002) (k := 60) (by decide) (by rw [List.length_map, ln]; exact Nat.le_refl _) fun x hx => ?_).up (by decide) (by decide)
   obtain ⟨z, hzm, rfl⟩ := List.mem_map.mp hx
   obtain ⟨i, ei, h0, h1⟩ := hz z hzm
   rw [ei]
   exact Dr.i (n := 0) (cG5 h0 h1)
theorem cS9 (ns : List Int) (hn : ns.length ≤ 63) : Wp (bP3 [.ref 0]) [.rol (ns.map D.int)] fun d _ => d = .bl true := by
 have e0 : ([DO.rol (ns.map D.int)] : DH)[0]? = some (.rol (ns.map D.int)) := rfl
 generalize hG : ([DO.rol (ns.map D.int)] : DH) = G at *
 refine o6 (show Wp (bX0 [some (.ref 0), none, none, none, none, none]) G _ from ?_)
 rw [dP1]
 refine j5.mpr <| K5 <| aF9.mpr <| c7 (a := [.int 0, .int (-1), .str "", .str "true", .bl true, .bl false, e1, e2]) (G' := G) rfl ⟨sz, j5.mpr ?_⟩
 refine aU6.mpr <| wp_itW.mpr <| bin_w <| c7 (a := .ref G.length) (G' := G ++ [.lst [.int 0, .int (-1), .str "", .str "true", .bl true, .bl false, e1, e2]]) rfl <| aF9.mpr <| c7 (a := [.tup [.str N6, .tup [e1, e2]]]) (G' := G ++ [.lst [.int 0, .int (-1), .str "", .str "true", .bl true, .bl false, e1, e2]]) rfl ⟨sz, ?_⟩
 refine (bU8 (a := [.int 0, .int (-1), .str "", .str "true", .bl true, .bl false, e1, e2]) (b := [.tup [.str N6, .tup [e1, e2]]]) (Z7 o9) o9 (show 8 + 1 ≤ sizeLine by have := big; lia)).mpr <| (bL8 o9).mpr ?_
 refine (bV0 dD6 none _ cS0 o9).mono ?_
 rintro _ G1 ⟨j1, u, rfl⟩
 have e1' := j1.at (Z7 (Z7 (Z7 e0)))
 obtain ⟨cs, ec, hc⟩ := dJ1 ns
 refine j5.mpr <| aU6.mpr <| cH3.mpr <| m8 <| aC3.mpr <| c7 (a := .ref 0) rfl <| c7 (a := none) rfl <| c7 (a := some 63) rfl <| (cO3 e1').mpr <| t6.mpr <| (cN4 o9).mpr ?_
 simp only [ec]
 refine (bW9 (ns := ns) cs 0 _ _ _ _ _ _ (Z7 e1') (by rw [← ec]; exact o9) (by lia)).mono ?_
 rintro _ G2 ⟨g2, u1, u2, u3, u4, u5, rfl⟩
 refine dI5.mono ?_
 rintro _ G3 rfl
 exact G9 rfl
theorem pure_law : ∀ ns : List Int, ns.length ≤ 63 → ∃ G', bP3 [.ref 0] [.rol (ns.map D.int)] = some (.ok (.bl true), G') := fun ns hn => by
 obtain ⟨d, G', e, rfl⟩ := cS9 ns hn
 exact ⟨G', e⟩
end W
set_option maxRecDepth 100000 in
set_option maxHeartbeats 0 in
theorem PySem.Challenge.cw_allmeet_k04_values_written_holds : PySem.Challenge.rw_allmeet_k04_values_written.Holds := by
 w_on; o_law; k_head; (case hw => w_witness2)
 k_fill
 refine W.walk (l := PySem.Challenge.rw_allmeet_k04_values_written) rfl rfl (fun w h Y => PySem.W.kIn_of Y) ?F
 case F =>
  intro w mg fa h KX G hmg
  refine' W.all_mk KX G hmg ?_ ?_ ?_ ?_ ?_ ?_ ?_ ?_ ?_ ?_ ?_ ?_ ?_ ?_ ?_ ?_ ?_ ?_ ?_ ?_ ?_ ?_ ?_ ?_ ?_ ?_ ?_ ?_ ?_ ?g_MOST_FIGURES ?g_MOST_DEEP ?z W.pure_law
  (case g_MOST_FIGURES => k_is)
  (case g_MOST_DEEP => k_is)
  (case z => intro b hb; simp only [DL.bltL, List.mem_cons, List.not_mem_nil, or_false] at hb; rcases hb with rfl | rfl | rfl | rfl | rfl | rfl | rfl | rfl | rfl | rfl | rfl | rfl | rfl | rfl | rfl | rfl | rfl | rfl | rfl <;> k_is)
  all_goals (refine' DL.FH.of ?a ?l ?e ?k; (case a => k_is); (case l => k_is); (case e => k_is); (case k => k_is))
