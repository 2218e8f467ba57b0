import PyProof.Rows.All
import Wide.All
import OpenK.AllK
import Wide.FinOn
import Lean
import PyProof.EqAt
import PyProof.EqKinds
import PyProof.TupleCall
import PyProof.NeKinds
import PyProof.ZipIter
import PyProof.EnumFor
import PyProof.EnumMake
import PyProof.EnumStmt
import PyProof.Draws
import KE.KDictSum
import PyProof.Rows.SortStr
import PyProof.StrWalks
import KE.KRevIter
import KE.KDictList
import PyProof.CollectIter
import PyProof.SliceStr2
import PyProof.StrBlockI
import KE.KListMore
import PyProof.DictWalks
import PyProof.TupleOfSeq
import PyProof.AttrMissHeap
import PyProof.AttrMissSeq
import KE.KDictOf
import PyProof.WalksMore
import KE.KSortTup
import KE.KSortKey
import PySem.Challenge.RW_allmeet_k12_texts_met_and_joined
set_option Elab.async false
set_option linter.all false
set_option maxRecDepth 100000
namespace L2
open PySem PySem.Spec PyProof.Rows
abbrev Key := Sum Int Str
def keyIs : Key → Value → Bool
  | .inl k, v => Value.isInt k v
  | .inr x, v => Value.isStrOf x v
def keyH (w : World) : Key → Int
  | .inl k => hashInt k
  | .inr x => hashStr w x
theorem keyIs_shape : ∀ {k : Key} {v : Value}, keyIs k v = true → (∃ i t, k = Sum.inl i ∧ v = Value.int i t) ∨ (∃ x t, k = Sum.inr x ∧ v = Value.str x t)
  | .inl i, v, h => by
    obtain ⟨t, e⟩ := Value.isInt_shape (k := i) (v := v) h
    exact .inl ⟨i, t, rfl, e⟩
  | .inr x, v, h => by
    obtain ⟨t, e⟩ := Value.isStrOf_shape (x := x) (v := v) h
    exact .inr ⟨x, t, rfl, e⟩
theorem keyIs_int (i : Int) (t : Tok) : keyIs (.inl i) (.int i t) = true := by simp [keyIs, Value.isInt]
theorem keyIs_str (x : Str) (t : Tok) : keyIs (.inr x) (.str x t) = true := by simp [keyIs, Value.isStrOf]
theorem key_ll (a b : Int) : decide ((Sum.inl a : Key) = Sum.inl b) = (a == b) := by
  by_cases e : a = b
  · subst e; simp
  · have h : ¬ (Sum.inl a : Key) = Sum.inl b := fun q => e (Sum.inl.inj q)
    rw [decide_eq_false h]
    exact (beq_eq_false_iff_ne.mpr e).symm
theorem key_rr (a b : Str) : decide ((Sum.inr a : Key) = Sum.inr b) = decide (a = b) := by
  by_cases e : a = b
  · subst e; simp
  · have h : ¬ (Sum.inr a : Key) = Sum.inr b := fun q => e (Sum.inr.inj q)
    rw [decide_eq_false h, decide_eq_false e]
theorem key_lr (a : Int) (b : Str) : decide ((Sum.inl a : Key) = Sum.inr b) = false := decide_eq_false (fun q => nomatch q)
theorem key_rl (a : Str) (b : Int) : decide ((Sum.inr a : Key) = Sum.inl b) = false := decide_eq_false (fun q => nomatch q)
def mixKind (prog : Program) (w : World) : PySem.KeyKind prog w Key where
  is := keyIs
  hash := keyH w
  inj := fun v a b ha hb => by
    rcases keyIs_shape ha with ⟨i, t, rfl, rfl⟩ | ⟨x, t, rfl, rfl⟩
    · rcases keyIs_shape hb with ⟨j, u, rfl, e⟩ | ⟨y, u, rfl, e⟩
      · injection e with e1 _; rw [e1]
      · exact nomatch e
    · rcases keyIs_shape hb with ⟨j, u, rfl, e⟩ | ⟨y, u, rfl, e⟩
      · exact nomatch e
      · injection e with e1 _; rw [e1]
  byValue := fun k v h => by
    rcases keyIs_shape h with ⟨i, t, rfl, rfl⟩ | ⟨x, t, rfl, rfl⟩ <;> rfl
  pyHash := fun hv h => by
    rcases keyIs_shape hv with ⟨i, t, rfl, rfl⟩ | ⟨x, t, rfl, rfl⟩
    · exact wpAny_pyHash_int h
    · exact wpAny_pyHash_str h
  eqBool := fun hu hv h => by
    rcases keyIs_shape hu with ⟨i, t, rfl, rfl⟩ | ⟨x, t, rfl, rfl⟩
    · rcases keyIs_shape hv with ⟨j, u, rfl, rfl⟩ | ⟨y, u, rfl, rfl⟩
      · rw [key_ll] at h; exact wpAny_eqBool_int h
      · rw [key_lr] at h; exact SeqAt.EqAt.int_str i t y u _ _ _ _ h
    · rcases keyIs_shape hv with ⟨j, u, rfl, rfl⟩ | ⟨y, u, rfl, rfl⟩
      · rw [key_rl] at h; exact SeqAt.EqAt.str_int x t j u _ _ _ _ h
      · rw [key_rr] at h; exact wpAny_eqBool_str h
  «strs» := fun k x t v h => by
    rcases keyIs_shape h with ⟨i, u, rfl, e⟩ | ⟨y, u, rfl, e⟩
    · exact nomatch e
    · injection e with e1 _
      subst e1
      cases v <;> rfl
theorem mixKind_int (prog : Program) (w : World) (i : Int) (t : Tok) : (mixKind prog w).is (.inl i) (.int i t) = true := keyIs_int i t
theorem mixKind_str (prog : Program) (w : World) (x : Str) (t : Tok) : (mixKind prog w).is (.inr x) (.str x t) = true := keyIs_str x t
end L2
namespace L2
open PySem PySem.Spec PyProof.Rows
inductive V where
  | non | bl (b : Bool) | int (i : Int) | str (x : Str) | byt (b : Array UInt8) | flt (b : UInt64) | ref (a : Addr) | ty (n : String)
  deriving DecidableEq
def RelV : V → Value → Prop
  | .non, u => u = Value.none
  | .bl b, u => u = Value.bool b
  | .int i, u => ∃ t, u = Value.int i t
  | .str x, u => ∃ t, u = Value.str x t
  | .byt b, u => ∃ t, u = Value.bytes b t
  | .flt b, u => ∃ t, u = Value.float b t
  | .ref a, u => u = Value.ref a
  | .ty n, u => u = Value.type n
abbrev Vals : List V → List Value → Prop := Paired RelV
theorem Vals.length {xs : List V} {us : List Value} (r : Vals xs us) : xs.length = us.length := Paired.length r
theorem Vals.get : ∀ {xs : List V} {us : List Value} {i : Nat} {x : V}, Vals xs us → xs[i]? = some x → ∃ u, us[i]? = some u ∧ RelV x u
  | _, _, _, _, .nil, e => by simp at e
  | _, _, 0, _, .cons r _, e => by simp at e; subst e; exact ⟨_, rfl, r⟩
  | _, _, i + 1, x, .cons _ t, e => by
    obtain ⟨u, h1, h2⟩ := Vals.get (i := i) (x := x) t (by simpa using e)
    exact ⟨u, by simpa using h1, h2⟩
theorem Vals.set {x : V} {u : Value} (r : RelV x u) : ∀ {xs : List V} {us : List Value} (i : Nat), Vals xs us → Vals (xs.set i x) (us.set i u)
  | _, _, _, .nil => .nil
  | _, _, 0, .cons _ t => .cons r t
  | _, _, i + 1, .cons q t => .cons q (Vals.set r i t)
theorem Vals.append : ∀ {xs ys : List V} {us ws : List Value}, Vals xs us → Vals ys ws → Vals (xs ++ ys) (us ++ ws)
  | _, _, _, _, .nil, s => s
  | _, _, _, _, .cons r t, s => .cons r (Vals.append t s)
theorem Vals.take : ∀ {xs : List V} {us : List Value} (n : Nat), Vals xs us → Vals (xs.take n) (us.take n)
  | _, _, 0, _ => .nil
  | _, _, _ + 1, .nil => .nil
  | _, _, n + 1, .cons r t => .cons r (Vals.take n t)
theorem Vals.drop : ∀ {xs : List V} {us : List Value} (n : Nat), Vals xs us → Vals (xs.drop n) (us.drop n)
  | _, _, 0, r => r
  | _, _, _ + 1, .nil => .nil
  | _, _, n + 1, .cons _ t => Vals.drop n t
def RelO : Option V → Option Value → Prop
  | some v, some u => RelV v u
  | none, none => True
  | _, _ => False
def KV {κ : Type} : List (κ × V) → List (κ × Value) → Prop := Paired fun (p : κ × V) (q : κ × Value) => p.1 = q.1 ∧ RelV p.2 q.2
def kV : Key → V
  | .inl i => .int i
  | .inr x => .str x
inductive HO where
  /-- a list -/
  | lst (xs : List V)
  /-- a tuple (never changes) -/
  | tup (xs : List V)
  /-- a dict whose keys are ints and texts; one whose keys are tuples of ints and texts (the empty one is both) -/
  | dK (kvs : List (Key × V)) | dT (kvs : List (List Key × V))
  /-- a set of ints: its members, its size -/
  | set (S : Int → Bool) (n : Nat)
  /-- an instance of the class at C, its dict at dx, its attributes -/
  | ins (C dx : Addr) (fs : List (Str × V))
  /-- the dict of the instance at x -/
  | own (x : Addr)
  /-- the dict of an exception -/
  | xd (fs : List (Str × V))
  /-- a bound method, f of x -/
  | met (f x : Addr)
  /-- a range object lo, lo + 1, .. below hi -/
  | rng (lo hi : Int)
  /-- a thing that is known to the object (the script; a dict while a loop walks it): read, never written while it is so -/
  | frz (o : Obj) (u : HO)
  /-- a code object's table -/
  | tbl (ps : Array Value)
  /-- any other thing, by what is true of its one object (a def of one's own: SetO a S n := HO.ext fun h => ..) -/
  | ext (φ : Heap → Prop)
abbrev Hp := Addr → Option HO
def upd (H : Hp) (a : Addr) (o : HO) : Hp := fun b => if b = a then some o else H b
theorem upd_same {H : Hp} {a : Addr} {o : HO} : upd H a o a = some o := by unfold upd; rw [if_pos rfl]
theorem upd_ne {H : Hp} {a b : Addr} {o : HO} (h : b ≠ a) : upd H a o b = H b := by unfold upd; rw [if_neg h]
theorem ne_of {H : Hp} {a b : Addr} {o u : HO} (h : H a = some o) (h' : H b = some u) (d : o ≠ u) : a ≠ b := by
  intro e; subst e; rw [h] at h'; exact d (Option.some.inj h')
theorem ne_of_none {H : Hp} {a b : Addr} {o : HO} (h : H a = some o) (h' : H b = none) : a ≠ b := by
  intro e; subst e; rw [h] at h'; cases h'
section
variable (P : Program) (w : World)
def IsTupN (h : Heap) (a : Addr) (items : Array Value) : Prop := ∃ o, h.get? a = some o ∧ o.cls = .type "tuple" ∧ ∃ n, (o.data, o.dict) = (Data.seq items n, none)
theorem IsTupN.tup {h : Heap} {a : Addr} {items : Array Value} (x : IsTupN h a items) : IsTup h a items := by
  obtain ⟨o, e, c, n, d⟩ := x
  exact ⟨o, e, c, n, (Prod.mk.inj d).1⟩
theorem IsTupN.new (h : Heap) (items : Array Value) : IsTupN (h.push { cls := .type "tuple", data := .seq items }) h.objs.size items := ⟨_, Heap.get?_push_size _ rfl, rfl, _, rfl⟩
def ObjOk (H : Hp) (h : Heap) (a : Addr) : HO → Prop
  | .lst xs => xs.length ≤ sizeLine ∧ ∃ (its : List Value) (n : Nat), Vals xs its ∧ h.get? a = some { cls := .type "list", data := .seq its.toArray n }
  | .tup xs => xs.length ≤ sizeLine ∧ ∃ its : List Value, Vals xs its ∧ IsTupN h a its.toArray
  | .dK kvs => kvs.length ≤ sizeLine ∧ (a == sysModules) = false ∧ ∃ vs, KV kvs vs ∧ h.DictOf (mixKind P w) a vs
  | .dT kvs => kvs.length ≤ sizeLine ∧ (a == sysModules) = false ∧ ∃ xs : List (List Key × Addr × Value),
      Paired (fun (p : List Key × V) (q : List Key × Addr × Value) => p.1 = q.1 ∧ H q.2.1 = some (.tup (p.1.map kV)) ∧ RelV p.2 q.2.2) kvs xs ∧
      ∃ o es ep, h.get? a = some o ∧ o.ExactDict ∧ o.data = .dict es ep ∧ es.toList = xs.map (entryOfKey (tupleKind (mixKind P w))) ∧ (xs.map (·.1)).Nodup
  | .set S n => h.SetOf (intKind P w) a S n
  | .ins C dx fs => H dx = some (.own a) ∧ fs.length ≤ 1000 ∧ dx ≠ a ∧ h.get? a = some (PySem.W.instObj C dx) ∧
      ∃ mA, h.Ns1 dx mA ∧ (∀ f, RelO (fs.lookup f) (mA f)) ∧ PySem.Within mA (fs.map (·.1))
  | .own _ => ∃ o, h.get? a = some o
  | .xd fs => ∃ mA, h.Ns1 a mA ∧ ∀ f, RelO (fs.lookup f) (mA f)
  | .rng lo hi => ∃ t u v, h.get? a = some { cls := .type "range", data := .fields #[.int lo t, .int hi u, .int 1 v] }
  | .frz o u => h.get? a = some o ∧ ObjOk H h a u
  | .tbl ps => h.get? a = some { cls := .none, data := .fields ps }
  | .met f x => h.get? a = some (PySem.W.methodObj (.ref f) (.ref x))
  | .ext φ => φ h ∧ (∃ o, h.get? a = some o) ∧ ∀ h1 h2 : Heap, φ h1 → (∀ o, h1.get? a = some o → h2.get? a = some o) → φ h2
def HOk (H : Hp) (h : Heap) : Prop := ∀ a o, H a = some o → ObjOk P w H h a o
end
section
variable {P : Program} {w : World} {H H' : Hp} {h h' : Heap} {a : Addr} {o : HO}
theorem ObjOk.lt (x : ObjOk P w H h a o) : a < h.objs.size := by
  cases o with
  | lst xs => obtain ⟨_, _, _, _, e⟩ := x; exact Heap.lt_size e
  | tup xs => obtain ⟨_, _, _, p⟩ := x; exact (IsTupN.tup p).lt
  | dK kvs => obtain ⟨_, _, _, _, o, _, _, e, _⟩ := x; exact Heap.lt_size e
  | dT kvs => obtain ⟨_, _, _, _, o, _, _, e, _⟩ := x; exact Heap.lt_size e
  | set S n => obtain ⟨o, _, _, _, e, _⟩ := x; exact Heap.lt_size e
  | ins C dx fs => obtain ⟨_, _, _, e, _⟩ := x; exact Heap.lt_size e
  | own y => obtain ⟨_, e⟩ := x; exact Heap.lt_size e
  | xd fs => obtain ⟨_, ⟨_, _, _, e, _⟩, _⟩ := x; exact Heap.lt_size e
  | rng lo hi => obtain ⟨_, _, _, e⟩ := x; exact Heap.lt_size e
  | frz ob u => obtain ⟨e, _⟩ := x; exact Heap.lt_size e
  | tbl ps => exact Heap.lt_size (show h.get? a = some _ from x)
  | met f y => exact Heap.lt_size (show h.get? a = some _ from x)
  | ext φ => obtain ⟨_, ⟨_, e⟩, _⟩ := x; exact Heap.lt_size e
theorem Paired.mapP {α β : Type} {F G : α → β → Prop} : ∀ {l₁ : List α} {l₂ : List β}, Paired F l₁ l₂ → (∀ a b, F a b → G a b) → Paired G l₁ l₂
  | _, _, .nil, _ => .nil
  | _, _, .cons r t, f => .cons (f _ _ r) (Paired.mapP t f)
theorem ObjOk.stay (x : ObjOk P w H h a o) (k : ∀ b u, (b = a ∨ H b = some (.own a)) → h.get? b = some u → h'.get? b = some u)
    (ho : ∀ b, H b = some (.own a) → H' b = some (.own a)) (ht : ∀ b xs, H b = some (.tup xs) → H' b = some (.tup xs)) : ObjOk P w H' h' a o := by
  induction o with
  | lst xs => obtain ⟨z, its, n, r, e⟩ := x; exact ⟨z, its, n, r, k _ _ (.inl rfl) e⟩
  | tup xs => obtain ⟨z, its, r, ob, e, c⟩ := x; exact ⟨z, its, r, ob, k _ _ (.inl rfl) e, c⟩
  | dK kvs => obtain ⟨z, y, vs, r, ob, es, ep, e, c⟩ := x; exact ⟨z, y, vs, r, ob, es, ep, k _ _ (.inl rfl) e, c⟩
  | dT kvs =>
    obtain ⟨z, y, xs, r, ob, es, ep, e, c⟩ := x
    exact ⟨z, y, xs, Paired.mapP r fun p q z => ⟨z.1, ht _ _ z.2.1, z.2.2⟩, ob, es, ep, k _ _ (.inl rfl) e, c⟩
  | set S n => obtain ⟨ob, es, ep, t, e, c⟩ := x; exact ⟨ob, es, ep, t, k _ _ (.inl rfl) e, c⟩
  | ins C dx fs =>
    obtain ⟨d, z, ne, e, mA, ⟨od, es, ep, e2, c⟩, r⟩ := x
    exact ⟨ho _ d, z, ne, k _ _ (.inl rfl) e, mA, ⟨od, es, ep, k _ _ (.inr d) e2, c⟩, r⟩
  | own y => obtain ⟨ob, e⟩ := x; exact ⟨ob, k _ _ (.inl rfl) e⟩
  | xd fs => obtain ⟨mA, ⟨od, es, ep, e, c⟩, r⟩ := x; exact ⟨mA, ⟨od, es, ep, k _ _ (.inl rfl) e, c⟩, r⟩
  | rng lo hi => obtain ⟨t, u, v, e⟩ := x; exact ⟨t, u, v, k _ _ (.inl rfl) e⟩
  | frz ob u ih => obtain ⟨e, q⟩ := x; exact ⟨k _ _ (.inl rfl) e, ih q⟩
  | tbl ps =>
    have e : h.get? a = some { cls := .none, data := .fields ps } := x
    show h'.get? a = some { cls := .none, data := .fields ps }
    exact k a _ (.inl rfl) e
  | met f y =>
    have e : h.get? a = some (PySem.W.methodObj (.ref f) (.ref y)) := x
    show h'.get? a = some (PySem.W.methodObj (.ref f) (.ref y))
    exact k a _ (.inl rfl) e
  | ext φ => obtain ⟨p, ⟨o, e⟩, st⟩ := x; exact ⟨st _ _ p fun o q => k _ _ (.inl rfl) q, ⟨o, k _ _ (.inl rfl) e⟩, st⟩
theorem HOk.lt (x : HOk P w H h) (e : H a = some o) : a < h.objs.size := (x a o e).lt
theorem HOk.fresh (x : HOk P w H h) (e : h.objs.size ≤ a) : H a = none := by
  cases q : H a with
  | none => rfl
  | some u => exact absurd (Nat.lt_of_lt_of_le (x.lt q) e) (Nat.lt_irrefl _)
theorem HOk.kept (x : HOk P w H h) (k : ∀ b u, h.get? b = some u → h'.get? b = some u) : HOk P w H h' := fun a o e =>
  (x a o e).stay (fun b u _ q => k b u q) (fun _ q => q) fun _ _ q => q
theorem HOk.laid (x : HOk P w H h) (k : ∀ b u, h.get? b = some u → h'.get? b = some u) (hp : h.objs.size ≤ a) (new : ObjOk P w (upd H a o) h' a o) : HOk P w (upd H a o) h' := fun b u e => by
  have hn := x.fresh hp
  by_cases hb : b = a
  · subst hb; rw [upd_same] at e; cases e; exact new
  · rw [upd_ne hb] at e
    exact (x b u e).stay (fun c v _ q => k c v q) (fun c q => by rw [upd_ne (ne_of_none q hn)]; exact q) fun c xs q => by rw [upd_ne (ne_of_none q hn)]; exact q
end
def Rd (H : Hp) (a : Addr) (u : HO) : Prop := H a = some u ∨ ∃ o, H a = some (.frz o u)
theorem Rd.of {H : Hp} {a : Addr} {u : HO} (h : H a = some u) : Rd H a u := .inl h
theorem Rd.ok {P : Program} {w : World} {H : Hp} {h : Heap} {a : Addr} {u : HO} (r : Rd H a u) (x : HOk P w H h) : ObjOk P w H h a u := by
  rcases r with r | ⟨o, r⟩
  · exact x a u r
  · obtain ⟨_, q⟩ := x a _ r
    exact q
def Mut : Option HO → Prop
  | some (.lst _) => True
  | some (.dK _) => True
  | some (.dT _) => True
  | some (.set _ _) => True
  | some (.ins _ _ _) => True
  | some (.ext _) => True
  | _ => False
section
variable {P : Program} {w : World} {H : Hp} {h h' : Heap} {x e : Addr} {o' : HO}
theorem HOk.write (ok : HOk P w H h) (mu : Mut (H x)) (he : e = x ∨ H e = some (.own x)) (k : ∀ b u, b ≠ e → h.get? b = some u → h'.get? b = some u) (heo : ∃ u, h'.get? e = some u)
    (new : ObjOk P w (upd H x o') h' x o') : HOk P w (upd H x o') h' := fun b u q => by
  have nown : ∀ c y, H c = some (.own y) → c ≠ x := fun c y r z => by subst z; rw [r] at mu; exact mu
  have ntup : ∀ c xs, H c = some (.tup xs) → c ≠ x := fun c xs r z => by subst z; rw [r] at mu; exact mu
  by_cases hb : b = x
  · subst hb; rw [upd_same] at q; cases q; exact new
  · rw [upd_ne hb] at q
    by_cases hbe : b = e
    · have q' : H b = some (.own x) := by
        rcases he with z | z
        · exact absurd (hbe.trans z) hb
        · rw [hbe]; exact z
      rw [q] at q'; cases q'
      obtain ⟨v, hv⟩ := heo
      exact ⟨v, by rw [hbe]; exact hv⟩
    · refine (ok b u q).stay (fun c v hc r => k c v ?_ r) (fun c r => by rw [upd_ne (nown c b r)]; exact r) fun c xs r => by rw [upd_ne (ntup c xs r)]; exact r
      rcases hc with rfl | hc
      · exact hbe
      · rintro rfl
        rcases he with z | z
        · exact nown c b hc z
        · rw [hc] at z; cases z; exact hb rfl
end
structure Un (fs ex : List Addr) (H H' : Hp) (h h' : Heap) : Prop where
  keep : ∀ b o, h.get? b = some o → H b = none → b ∉ fs → b ∉ ex → h'.get? b = some o
  slot : ∀ b o, h.get? b = some o → H b = none → b ∈ fs → b ∉ ex → ∃ sl, h'.get? b = some { o with slots := sl }
  free : ∀ b o, h.get? b = some o → H b = none → b ∉ ex → H' b = none
  there : ∀ b o, h.get? b = some o → b ∉ ex → ∃ o', h'.get? b = some o'
  tups : ∀ b xs, H b = some (.tup xs) → H' b = some (.tup xs)
  frzs : ∀ b o u, H b = some (.frz o u) → H' b = some (.frz o u)
  tbls : ∀ b ps, H b = some (.tbl ps) → ∃ more, H' b = some (.tbl (ps ++ more))
section
variable {fs fs' ex ex' : List Addr} {H H1 H2 : Hp} {h h1 h2 h' : Heap} {a x e : Addr} {o : HO}
theorem Un.any (u : Un fs ex H H1 h h1) {b : Addr} {ob : Obj} (q : h.get? b = some ob) (n : H b = none) (hx : b ∉ ex) : ∃ sl, h1.get? b = some { ob with slots := sl } := by
  by_cases hb : b ∈ fs
  · exact u.slot b ob q n hb hx
  · exact ⟨ob.slots, u.keep b ob q n hb hx⟩
theorem Un.trans (a : Un fs ex H H1 h h1) (b : Un fs ex H1 H2 h1 h2) : Un fs ex H H2 h h2 where
  keep := fun c ob q n hc hx => b.keep c ob (a.keep c ob q n hc hx) (a.free c ob q n hx) hc hx
  slot := fun c ob q n hc hx => by
    obtain ⟨sl, e1⟩ := a.slot c ob q n hc hx
    obtain ⟨sl', e2⟩ := b.slot c _ e1 (a.free c ob q n hx) hc hx
    exact ⟨sl', e2⟩
  free := fun c ob q n hx => by
    obtain ⟨o', e1⟩ := a.there c ob q hx
    exact b.free c o' e1 (a.free c ob q n hx) hx
  there := fun c ob q hx => by
    obtain ⟨o', e1⟩ := a.there c ob q hx
    exact b.there c o' e1 hx
  tups := fun c xs q => b.tups c xs (a.tups c xs q)
  frzs := fun c ob xs q => b.frzs c ob xs (a.frzs c ob xs q)
  tbls := fun c ps q => by
    obtain ⟨m1, e1⟩ := a.tbls c ps q
    obtain ⟨m2, e2⟩ := b.tbls c _ e1
    exact ⟨m1 ++ m2, by rw [e2, Array.append_assoc]⟩
theorem Un.kept (k : ∀ b u, h.get? b = some u → h'.get? b = some u) : Un fs ex H H h h' :=
  ⟨fun b ob q _ _ _ => k b ob q, fun b ob q _ _ _ => ⟨ob.slots, k b ob q⟩, fun _ _ _ n _ => n, fun b ob q _ => ⟨ob, k b ob q⟩, fun _ _ q => q, fun _ _ _ q => q, fun _ ps q => ⟨#[], by rw [q]; simp⟩⟩
theorem Un.refl : Un fs ex H H h h := Un.kept fun _ _ q => q
theorem Un.laid (k : ∀ b u, h.get? b = some u → h'.get? b = some u) (hp : h.objs.size ≤ a) (hn : H a = none) : Un fs ex H (upd H a o) h h' where
  keep := fun b u q _ _ _ => k b u q
  slot := fun b u q _ _ _ => ⟨u.slots, k b u q⟩
  free := fun b u q n _ => by rw [upd_ne (Nat.ne_of_lt (Nat.lt_of_lt_of_le (Heap.lt_size q) hp))]; exact n
  there := fun b u q _ => ⟨u, k b u q⟩
  tups := fun b xs q => by rw [upd_ne (ne_of_none q hn)]; exact q
  frzs := fun b u xs q => by rw [upd_ne (ne_of_none q hn)]; exact q
  tbls := fun b ps q => ⟨#[], by rw [upd_ne (ne_of_none q hn), q]; simp⟩
theorem Un.write (mu : Mut (H x)) (he : e = x ∨ H e = some (.own x)) (k : ∀ b u, b ≠ e → h.get? b = some u → h'.get? b = some u) (heo : ∃ u, h'.get? e = some u) : Un fs ex H (upd H x o) h h' := by
  have hx : ∀ b, H b = none → b ≠ x := fun b n z => by subst z; rw [n] at mu; exact mu
  have hb : ∀ b, H b = none → b ≠ e := fun b n z => by
    subst z
    rcases he with r | r
    · exact hx b n r
    · rw [n] at r; cases r
  have hm : ∀ b u, H b = some u → ¬ Mut (some u) → b ≠ x := fun b u q nm z => by subst z; rw [q] at mu; exact nm mu
  refine ⟨fun b u q n _ _ => k b u (hb b n) q, fun b u q n _ _ => ⟨u.slots, k b u (hb b n) q⟩, fun b u q n _ => by rw [upd_ne (hx b n)]; exact n, fun b u q _ => ?_,
    fun b xs q => by rw [upd_ne (hm b _ q fun z => z)]; exact q, fun b u xs q => by rw [upd_ne (hm b _ q fun z => z)]; exact q, fun b ps q => ⟨#[], by rw [upd_ne (hm b _ q fun z => z), q]; simp⟩⟩
  by_cases hbe : b = e
  · subst hbe; exact heo
  · exact ⟨u, k b u hbe q⟩
theorem Un.mono (u : Un fs ex H H1 h h1) (hs : ∀ b ∈ fs, b ∈ fs') (hx : ∀ b ∈ ex, b ∈ ex') : Un fs' ex' H H1 h h1 :=
  ⟨fun b ob q n hb he => u.keep b ob q n (fun z => hb (hs b z)) fun z => he (hx b z), fun _ _ q n _ he => u.any q n fun z => he (hx _ z), fun b ob q n he => u.free b ob q n fun z => he (hx b z), fun b ob q he => u.there b ob q fun z => he (hx b z), u.tups, u.frzs, u.tbls⟩
end
def trk (h : Heap) (H : Hp) : List Addr := (List.range h.objs.size).filter fun a => (H a).isSome
def hidT (h : Heap) (H : Hp) : Heap := PySem.W.hideAll h (trk h H)
theorem hidT_size (h : Heap) (H : Hp) : (hidT h H).objs.size = h.objs.size := PySem.W.hideAll_size _ _
theorem hidT_get {h : Heap} {H : Hp} {b : Addr} {o : Obj} (e : h.get? b = some o) (n : H b = none) : (hidT h H).get? b = some o :=
  PySem.W.hideAll_get _ e fun hm => by
    have q : (H b).isSome = true := (List.mem_filter.mp hm).2
    rw [n] at q; simp at q
theorem of_hidT {h : Heap} {H : Hp} {b : Addr} {o : Obj} (e : (hidT h H).get? b = some o) : h.get? b = some o ∧ H b = none := by
  have e' : h.get? b = some o := PySem.W.of_hideAll (trk h H) e
  refine ⟨e', ?_⟩
  cases q : H b with
  | none => rfl
  | some x =>
    have hm : b ∈ trk h H := List.mem_filter.mpr ⟨List.mem_range.mpr (Heap.lt_size e'), by simp [q]⟩
    have z : (hidT h H).get? b = none := PySem.W.hideAll_none (trk h H) hm
    rw [z] at e; cases e
def allNews (g h : Heap) (L : Addr) : List (Addr × Obj) := (List.range h.objs.size).filterMap fun a => if a = L ∨ (g.get? a).isSome = true then none else (h.get? a).map fun o => (a, o)
def rest (g h : Heap) (L d : Addr) : List (Addr × Obj) := (allNews g h L).filter fun p => decide (p.1 ≠ d)
end L2
namespace L2
open PySem PySem.Spec PyProof.Rows
structure Mod (K : PySem.W.Frag) (mg : Str → Option Value) (base : Heap) : Prop where
  kin : K.In base
  glob : base.Ns mainGlobals mg
  blt : ∃ mb, base.Ns builtinsNs mb ∧ ∀ x : Str, x ≠ "__name__" → mb x = bootBuiltins x
  nolimit : base.NoLimit
structure Cx where
  prog : Program
  w : World
  K : PySem.W.Frag
  mg : Str → Option Value
  base : Heap
  A : Around
  N : List Str
  s₀ : Shared
  H₀ : Hp
  env : Env
  outer : List Env
  stack : List Env
  ex : List Addr
  fn : Str → Bool
  calm : Bool
  pn : List (Addr × Obj)
  xe : Value → Shared → Prop
def frs (l : List Env) : List Addr := l.filterMap (·.frame)
abbrev Cx.fs (X : Cx) : List Addr := frs X.outer
def Vis (sc : Scope) (x : Str) : Prop := sc.names.lookup x = some .local ∨ sc.names.lookup x = some .cell ∨ sc.names.lookup x = some .free
def Loc (sc : Scope) (x : Str) : Prop := sc.names.lookup x = some .local ∨ sc.names.lookup x = some .cell
def Look (env : Env) (h : Heap) (m : Str → Option Value) (x : Str) (u : Value) : Prop :=
  (env.kindOf x = some .local ∧ m x = some u) ∨ ((env.kindOf x = some .cell ∨ env.kindOf x = some .free) ∧ ∃ c, env.cells.lookup x = some c ∧ h.IsCell c (some u))
structure Cx.Ok (X : Cx) : Prop where
  mod : Mod X.K X.mg X.base
  kind : X.env.scope.kind = .function
  glob : X.env.globals = mainGlobals
  blt : X.env.builtins = builtinsNs
  above : X.s₀.heap.objs.size ≤ X.env.locals
  inj : ∀ x y c, X.env.cells.lookup x = some c → X.env.cells.lookup y = some c → x = y
  has : ∀ x, (X.env.kindOf x = some .cell ∨ X.env.kindOf x = some .free) → ∃ c, X.env.cells.lookup x = some c
  cab : ∀ x c, X.fn x = true → X.env.cells.lookup x = some c → X.s₀.heap.objs.size ≤ c
  hd : X.calm = true → X.A.handled = none
  frames : X.A.frames = some X.stack
  stk : X.stack = X.outer ∨ (X.stack = X.env :: X.outer ∧ X.env.frame = some X.env.locals)
  exf : ∀ b ∈ X.ex, b ≠ X.env.locals ∧ ∀ x c, X.env.cells.lookup x = some c → c ≠ b
  bs : ∀ b o, X.base.get? b = some o → X.s₀.heap.get? b = some o ∧ X.H₀ b = none
  bsz : X.base.objs.size ≤ X.s₀.heap.objs.size
  noex : ∀ b o, X.base.get? b = some o → b ∉ X.ex
  exfs : ∀ b ∈ X.ex, b ∉ X.fs
  funs : X.s₀.heap.FunFrames X.base X.outer
  frf : ∀ b ∈ X.fs, X.H₀ b = none
structure Inv (X : Cx) (pins : List (Addr × Obj)) (σ : List (Option V)) (H : Hp) (s : Shared) : Prop where
  ok : X.Ok
  os : s.os = X.s₀.os
  bare : AllBare s.gens
  base : Un X.fs X.ex X.H₀ H X.s₀.heap s.heap
  loc : ∃ m, s.heap.Ns X.env.locals m ∧ ∀ (i : Nat) (x : Str) (v : V), X.N[i]? = some x → σ[i]? = some (some v) → Vis X.env.scope x → ∃ u, RelV v u ∧ Look X.env s.heap m x u
  cell : ∀ x c, X.env.cells.lookup x = some c → ∃ v, s.heap.IsCell c v
  free : H X.env.locals = none
  freeC : ∀ x c, X.env.cells.lookup x = some c → H c = none
  pin : ∀ p ∈ X.pn ++ pins, s.heap.get? p.1 = some p.2 ∧ H p.1 = none ∧ p.1 ≠ X.env.locals ∧ p.1 ∉ X.fs ∧ ∀ v, p.2.data ≠ .cell v
  hok : HOk X.prog X.w H s.heap
  len : σ.length = X.N.length
section
variable {X : Cx} {pins : List (Addr × Obj)} {σ : List (Option V)} {H H' : Hp} {s : Shared} {h' : Heap}
theorem Cx.Ok.nofr (ok : X.Ok) {b : Addr} {o : Obj} (e : X.base.get? b = some o) : b ∉ X.fs := fun hb => by
  have := (ok.funs.mem hb).1
  rw [e] at this; cases this
theorem Inv.bs (I : Inv X pins σ H s) : ∀ b o, X.base.get? b = some o → s.heap.get? b = some o ∧ H b = none := fun b o e =>
  ⟨I.base.keep b o (I.ok.bs b o e).1 (I.ok.bs b o e).2 (I.ok.nofr e) (I.ok.noex b o e), I.base.free b o (I.ok.bs b o e).1 (I.ok.bs b o e).2 (I.ok.noex b o e)⟩
theorem Inv.bk (I : Inv X pins σ H s) : ∀ b o, X.base.get? b = some o → s.heap.get? b = some o := fun b o e => (I.bs b o e).1
theorem Inv.mod (I : Inv X pins σ H s) : Mod X.K X.mg X.base := I.ok.mod
theorem Inv.kIn (I : Inv X pins σ H s) : X.K.In s.heap := I.ok.mod.kin.keeps I.bk
theorem Inv.nolimit (I : Inv X pins σ H s) : s.heap.NoLimit := I.ok.mod.nolimit.keeps I.bk
theorem Inv.lt (I : Inv X pins σ H s) : X.env.locals < s.heap.objs.size := let ⟨_, hn, _⟩ := I.loc; hn.lt
theorem Inv.sz (I : Inv X pins σ H s) : X.s₀.heap.objs.size ≤ s.heap.objs.size := Nat.le_trans I.ok.above (Nat.le_of_lt I.lt)
theorem Inv.nofs (I : Inv X pins σ H s) {a : Addr} (h : s.heap.objs.size ≤ a) : a ∉ X.fs := fun hb => by
  obtain ⟨_, o, ho, _⟩ := I.ok.funs.mem hb
  exact absurd (Nat.lt_of_lt_of_le (Heap.lt_size ho) (Nat.le_trans I.sz h)) (Nat.lt_irrefl _)
theorem Inv.cne (I : Inv X pins σ H s) : ∀ x c, X.env.cells.lookup x = some c → c ≠ X.env.locals := fun x c e z => by
  obtain ⟨v, o, ho, hd⟩ := I.cell x c e
  obtain ⟨m, ⟨o', es, ep, ho', hd', _⟩, _⟩ := I.loc
  rw [z, ho'] at ho; cases ho; rw [hd'] at hd; cases hd
theorem Inv.funs (I : Inv X pins σ H s) : s.heap.FunFrames X.base X.outer := by
  have all : ∀ (l : List Env), (∀ b ∈ frs l, b ∈ X.fs) → X.s₀.heap.FunFrames X.base l → s.heap.FunFrames X.base l := by
    intro l
    induction l with
    | nil => intro _ _; trivial
    | cons env r ih =>
      intro hs hl
      obtain ⟨hk, ⟨L, o, hf, hn, ho, hd⟩, hr⟩ := hl
      have hL : L ∈ X.fs := hs L (by unfold frs; rw [List.filterMap_cons, hf]; exact List.mem_cons_self)
      obtain ⟨sl, e⟩ := I.base.slot L o ho (I.ok.frf L hL) hL fun z => I.ok.exfs L z hL
      exact ⟨hk, ⟨L, _, hf, hn, e, hd⟩, ih (fun b hb => hs b (by unfold frs; rw [List.filterMap_cons, hf]; exact List.mem_cons_of_mem _ hb)) hr⟩
  exact all X.outer (fun _ hb => hb) I.ok.funs
theorem Inv.stack (I : Inv X pins σ H s) : s.heap.FunFrames X.base X.stack := by
  rcases I.ok.stk with e | ⟨e, hf⟩
  · rw [e]; exact I.funs
  · rw [e]
    obtain ⟨m, hn, _⟩ := I.loc
    refine .cons (by rw [I.ok.kind]; decide) hf hn ?_ I.funs
    exact Heap.get?_none_of_le (Nat.le_trans I.ok.bsz I.ok.above)
theorem Inv.stkSub (I : Inv X pins σ H s) : ∀ b ∈ frs X.stack, b ∈ X.env.locals :: X.fs := fun b hb => by
  rcases I.ok.stk with e | ⟨e, hf⟩
  · rw [e] at hb; exact List.mem_cons_of_mem _ hb
  · rw [e] at hb
    unfold frs at hb
    rw [List.filterMap_cons, hf] at hb
    exact hb
theorem Inv.stkFree (I : Inv X pins σ H s) : ∀ b ∈ frs X.stack, H b = none := fun b hb => by
  rcases List.mem_cons.mp (I.stkSub b hb) with e | hb
  · rw [e]; exact I.free
  · obtain ⟨_, o, ho, _⟩ := I.ok.funs.mem hb
    exact I.base.free b o ho (I.ok.frf b hb) fun z => I.ok.exfs b z hb
theorem Inv.step {g' : Array GenState} {t' : Nat} {d' : Drawn} {ch : List Addr} (I : Inv X pins σ H s)
    (hch : ∀ b ∈ ch, (b ∈ X.ex ∨ X.s₀.heap.objs.size ≤ b) ∧ b ≠ X.env.locals ∧ (∀ x c, X.env.cells.lookup x = some c → c ≠ b) ∧ ∀ p ∈ X.pn ++ pins, p.1 ≠ b)
    (keep : ∀ b o, b ≠ X.env.locals → b ∉ X.fs → b ∉ ch → s.heap.get? b = some o → H b = none → h'.get? b = some o)
    (slot : ∀ b o, b ≠ X.env.locals → b ∈ X.fs → b ∉ ch → s.heap.get? b = some o → H b = none → ∃ sl, h'.get? b = some { o with slots := sl }) (free : ∀ b o, b ∉ ch → s.heap.get? b = some o → H b = none → H' b = none)
    (there : ∀ b o, b ∉ ch → s.heap.get? b = some o → ∃ o', h'.get? b = some o')
    (tups : ∀ b xs, H b = some (.tup xs) → H' b = some (.tup xs)) (frzs : ∀ b o u, H b = some (.frz o u) → H' b = some (.frz o u)) (tbls : ∀ b ps, H b = some (.tbl ps) → ∃ more, H' b = some (.tbl (ps ++ more)))
    (ns : ∀ m, s.heap.Ns X.env.locals m → h'.Ns X.env.locals m) (hok : HOk X.prog X.w H' h') (hg : AllBare g') :
    Inv X pins σ H' { s with heap := h', gens := g', drawn := d', toks := t' } := by
  have neL : ∀ b o, X.s₀.heap.get? b = some o → b ≠ X.env.locals := fun b o e => Nat.ne_of_lt (Nat.lt_of_lt_of_le (Heap.lt_size e) I.ok.above)
  have neC : ∀ b o, X.s₀.heap.get? b = some o → b ∉ X.ex → b ∉ ch := fun b o e hx hb => by
    rcases (hch b hb).1 with z | z
    · exact hx z
    · exact absurd (Nat.lt_of_lt_of_le (Heap.lt_size e) z) (Nat.lt_irrefl _)
  have cellK : ∀ x c, X.env.cells.lookup x = some c → ∀ v, s.heap.IsCell c v → h'.IsCell c v := fun x c e v ⟨o, ho, hd⟩ => by
    have nch : c ∉ ch := fun z => (hch c z).2.2.1 x c e rfl
    by_cases hc : c ∈ X.fs
    · obtain ⟨sl, q⟩ := slot c o (I.cne x c e) hc nch ho (I.freeC x c e)
      exact ⟨_, q, hd⟩
    · exact ⟨o, keep c o (I.cne x c e) hc nch ho (I.freeC x c e), hd⟩
  refine ⟨I.ok, I.os, hg, ⟨fun b o e n hb hx => ?_, fun b o e n hb hx => ?_, fun b o e n hx => ?_, fun b o e hx => ?_, fun b xs e => tups b xs (I.base.tups b xs e), fun b o xs e => frzs b o xs (I.base.frzs b o xs e), fun b ps e => ?_⟩, ?_, fun x c e => ?_, ?_, fun x c e => ?_, fun p hp => ?_, hok, I.len⟩
  · exact keep b o (neL b o e) hb (neC b o e hx) (I.base.keep b o e n hb hx) (I.base.free b o e n hx)
  · obtain ⟨sl, e1⟩ := I.base.slot b o e n hb hx
    obtain ⟨sl', e2⟩ := slot b _ (neL b o e) hb (neC b o e hx) e1 (I.base.free b o e n hx)
    exact ⟨sl', e2⟩
  · obtain ⟨o', e1⟩ := I.base.there b o e hx
    exact free b o' (neC b o e hx) e1 (I.base.free b o e n hx)
  · obtain ⟨o', e1⟩ := I.base.there b o e hx
    exact there b o' (neC b o e hx) e1
  · obtain ⟨m1, e1⟩ := I.base.tbls b ps e
    obtain ⟨m2, e2⟩ := tbls b _ e1
    exact ⟨m1 ++ m2, by rw [e2, Array.append_assoc]⟩
  · obtain ⟨m, hn, hl⟩ := I.loc
    refine ⟨m, ns m hn, fun i x v e1 e2 e3 => ?_⟩
    obtain ⟨u, r, l⟩ := hl i x v e1 e2 e3
    refine ⟨u, r, ?_⟩
    rcases l with l | ⟨k, c, e, z⟩
    · exact .inl l
    · exact .inr ⟨k, c, e, cellK x c e _ z⟩
  · obtain ⟨v, z⟩ := I.cell x c e
    exact ⟨v, cellK x c e v z⟩
  · obtain ⟨m, ⟨o, _, _, ho, _⟩, _⟩ := I.loc
    exact free _ o (fun z => (hch _ z).2.1 rfl) ho I.free
  · obtain ⟨v, o, ho, hd⟩ := I.cell x c e
    exact free c o (fun z => (hch c z).2.2.1 x c e rfl) ho (I.freeC x c e)
  · obtain ⟨e, n, ne, nf, d⟩ := I.pin p hp
    have nch : p.1 ∉ ch := fun z => (hch p.1 z).2.2.2 p hp rfl
    exact ⟨keep p.1 p.2 ne nf nch e n, free p.1 p.2 nch e n, ne, nf, d⟩
theorem Inv.un {t' : Nat} (I : Inv X pins σ H s) (u : Un X.fs [] H H' s.heap h') (hok : HOk X.prog X.w H' h') : Inv X pins σ H' { s with heap := h', toks := t' } := by
  obtain ⟨m, ⟨o, es, ep, ho, r⟩, _⟩ := id I.loc
  obtain ⟨sl, hL⟩ := u.any ho I.free (by simp)
  exact I.step (g' := s.gens) (d' := s.drawn) (ch := []) (fun _ z => nomatch z) (fun b o _ hb _ e n => u.keep b o e n hb (by simp)) (fun b o _ hb _ e n => u.slot b o e n hb (by simp)) (fun b o _ e n => u.free b o e n (by simp)) (fun b o _ e => u.there b o e (by simp)) u.tups u.frzs u.tbls (fun m' hm => by
    obtain ⟨o', es', ep', ho', r'⟩ := hm
    rw [ho] at ho'; cases ho'
    exact ⟨_, es', ep', hL, r'⟩) hok I.bare
theorem Inv.call {g' : Array GenState} {t' : Nat} {d' : Drawn} {ch : List Addr} (I : Inv X pins σ H s) (u : Un (frs X.stack) ch H H' s.heap h') (hok : HOk X.prog X.w H' h') (hg : AllBare g')
    (hch : ∀ b ∈ ch, (b ∈ X.ex ∨ X.s₀.heap.objs.size ≤ b) ∧ b ≠ X.env.locals ∧ (∀ x c, X.env.cells.lookup x = some c → c ≠ b) ∧ ∀ p ∈ X.pn ++ pins, p.1 ≠ b) :
    Inv X pins σ H' { s with heap := h', gens := g', drawn := d', toks := t' } := by
  obtain ⟨m, ⟨o, es, ep, ho, r⟩, _⟩ := id I.loc
  obtain ⟨sl, hL⟩ := u.any ho I.free fun z => (hch _ z).2.1 rfl
  exact I.step (ch := ch) hch (fun b o hL hb hc e n => u.keep b o e n (fun z => (List.mem_cons.mp (I.stkSub b z)).elim hL hb) hc) (fun b o _ _ hc e n => u.any e n hc) (fun b o hc e n => u.free b o e n hc) (fun b o hc e => u.there b o e hc) u.tups u.frzs u.tbls (fun m' hm => by
    obtain ⟨o', es', ep', ho', r'⟩ := hm
    rw [ho] at ho'; cases ho'
    exact ⟨_, es', ep', hL, r'⟩) hok hg
theorem Inv.turned {t' : Nat} {it : Addr} (I : Inv X pins σ H s) (k : ∀ b o, b ≠ it → s.heap.get? b = some o → h'.get? b = some o) (hn : H it = none) (hL : it ≠ X.env.locals)
    (h1 : it ∈ X.ex ∨ X.s₀.heap.objs.size ≤ it) (h2 : ∀ x c, X.env.cells.lookup x = some c → c ≠ it) (h3 : ∀ p ∈ X.pn ++ pins, p.1 ≠ it) : Inv X pins σ H { s with heap := h', toks := t' } := by
  have nit : ∀ b u, H b = some u → b ≠ it := fun b u e z => by rw [z, hn] at e; cases e
  refine I.step (g' := s.gens) (d' := s.drawn) (ch := [it]) (fun b hb => ?_) (fun b o _ _ hc e _ => k b o (fun z => hc (by simp [z])) e) (fun b o _ _ hc e _ => ⟨o.slots, k b o (fun z => hc (by simp [z])) e⟩) (fun _ _ _ _ n => n)
    (fun b o hc e => ⟨o, k b o (fun z => hc (by simp [z])) e⟩) (fun _ _ e => e) (fun _ _ _ e => e) (fun b ps e => ⟨#[], by rw [e]; simp⟩) (fun m hm => ?_) (fun b u e => ?_) I.bare
  · have e : b = it := by simpa using hb
    subst e
    exact ⟨h1, hL, h2, h3⟩
  · obtain ⟨o, es, ep, ho, r⟩ := hm
    exact ⟨o, es, ep, k _ o (Ne.symm hL) ho, r⟩
  · refine (I.hok b u e).stay (fun c v hc q => k c v ?_ q) (fun _ q => q) fun _ _ q => q
    rcases hc with z | z
    · rw [z]; exact nit b u e
    · exact nit c _ z
theorem Inv.tok (I : Inv X pins σ H s) (t : Nat) : Inv X pins σ H { s with toks := t } := I.un (h' := s.heap) (t' := t) Un.refl I.hok
theorem Inv.kept {t' : Nat} (I : Inv X pins σ H s) (k : ∀ b u, s.heap.get? b = some u → h'.get? b = some u) : Inv X pins σ H { s with heap := h', toks := t' } := I.un (Un.kept k) (I.hok.kept k)
theorem Inv.laid {a : Addr} {o : HO} {t' : Nat} (I : Inv X pins σ H s) (k : ∀ b u, s.heap.get? b = some u → h'.get? b = some u) (hp : s.heap.objs.size ≤ a) (new : ObjOk X.prog X.w (upd H a o) h' a o) :
    Inv X pins σ (upd H a o) { s with heap := h', toks := t' } := I.un (Un.laid k hp (I.hok.fresh hp)) (I.hok.laid k hp new)
theorem Inv.write {x e : Addr} {o : HO} {t' : Nat} (I : Inv X pins σ H s) (mu : Mut (H x)) (he : e = x ∨ H e = some (.own x)) (k : ∀ b u, b ≠ e → s.heap.get? b = some u → h'.get? b = some u) (heo : ∃ u, h'.get? e = some u)
    (new : ObjOk X.prog X.w (upd H x o) h' x o) : Inv X pins σ (upd H x o) { s with heap := h', toks := t' } := I.un (Un.write mu he k heo) (I.hok.write mu he k heo new)
theorem Inv.pins_of {pins' : List (Addr × Obj)} (I : Inv X pins σ H s) (h : ∀ p ∈ pins', s.heap.get? p.1 = some p.2 ∧ H p.1 = none ∧ p.1 ≠ X.env.locals ∧ p.1 ∉ X.fs ∧ ∀ v, p.2.data ≠ .cell v) : Inv X pins' σ H s :=
  ⟨I.ok, I.os, I.bare, I.base, I.loc, I.cell, I.free, I.freeC, fun p hp => (List.mem_append.mp hp).elim (fun z => I.pin p (List.mem_append_left _ z)) (h p), I.hok, I.len⟩
theorem nodup_ix {N : List Str} (hN : N.Nodup) {i j : Nat} {x : Str} (a : N[i]? = some x) (b : N[j]? = some x) : i = j := by
  obtain ⟨h1, e1⟩ := List.getElem?_eq_some_iff.mp a
  obtain ⟨h2, e2⟩ := List.getElem?_eq_some_iff.mp b
  exact (List.getElem_inj hN).mp (e1.trans e2.symm)
theorem store_ok2 {M : Model} {A : Around} {E : Value → Shared → Prop} {i : Nat} {x : Str} {v : V} {u : Value} {Q : Unit → Shared → Prop} (I : Inv X pins σ H s) (hN : X.N.Nodup) (hi : X.N[i]? = some x) (hx : Loc X.env.scope x) (r : RelV v u)
    (h : ∀ s', Inv X pins (σ.set i (some v)) H s' → (∃ a, Heap.SameBut a s.heap s'.heap ∧ (a = X.env.locals ∨ X.env.cells.lookup x = some a)) → Q () s') (hf : X.fn x = true ∨ X.env.scope.names.lookup x = some .local := by first | exact .inl rfl | exact .inr rfl | assumption) : wpAny M A (storeName X.env x u) Q E s := by
  obtain ⟨m, hn, hl⟩ := id I.loc
  have hcls : (X.env.scope.kind == .class || (X.env.scope.kind == .module && X.env.locals != X.env.globals)) = false := by rw [I.ok.kind]; rfl
  have hiσ : i < σ.length := by rw [I.len]; exact (List.getElem?_eq_some_iff.mp hi).1
  have cne := I.cne
  have tracked : ∀ {a : Addr} {h' : Heap}, (∃ o, s.heap.get? a = some o ∧ H a = none) → Heap.SameBut a s.heap h' → HOk X.prog X.w H h' := fun {a h'} ha hs b ob e => by
    obtain ⟨_, _, hfree⟩ := ha
    refine (I.hok b ob e).stay (fun c w' hc q => (hs.2 c ?_).trans q) (fun _ q => q) fun _ _ q => q
    rintro rfl
    rcases hc with rfl | hc
    · rw [hfree] at e; cases e
    · rw [hfree] at hc; cases hc
  rcases hx with hk | hk
  · refine wpAny_storeName_local hk hn (fun h' hn' hs => ?_) hcls
    obtain ⟨oL, _, _, hoL, _⟩ := id hn
    refine h _ ⟨I.ok, I.os, I.bare, ⟨fun b o e n hb hx => ?_, fun b o e n hb hx => ?_, I.base.free, fun b o e hx => ?_, I.base.tups, I.base.frzs, I.base.tbls⟩, ⟨_, hn', fun j y v' e1 e2 e3 => ?_⟩, fun y c e => ?_, I.free, I.freeC, fun p hp => ?_, tracked ⟨oL, hoL, I.free⟩ hs, by simpa using I.len⟩ ⟨_, hs, .inl rfl⟩
    · exact (hs.2 b (Nat.ne_of_lt (Nat.lt_of_lt_of_le (Heap.lt_size e) I.ok.above))).trans (I.base.keep b o e n hb hx)
    · obtain ⟨sl, e1⟩ := I.base.slot b o e n hb hx
      exact ⟨sl, (hs.2 b (Nat.ne_of_lt (Nat.lt_of_lt_of_le (Heap.lt_size e) I.ok.above))).trans e1⟩
    · obtain ⟨o', e1⟩ := I.base.there b o e hx
      exact ⟨o', (hs.2 b (Nat.ne_of_lt (Nat.lt_of_lt_of_le (Heap.lt_size e) I.ok.above))).trans e1⟩
    · by_cases hj : j = i
      · subst hj
        rw [hi] at e1; cases e1
        rw [List.getElem?_set_self hiσ] at e2
        cases e2
        exact ⟨u, r, .inl ⟨hk, by simp⟩⟩
      · rw [List.getElem?_set_ne (Ne.symm hj)] at e2
        obtain ⟨u', r', q⟩ := hl j y v' e1 e2 e3
        refine ⟨u', r', ?_⟩
        rcases q with ⟨k, e⟩ | ⟨k, c, e, z⟩
        · refine .inl ⟨k, ?_⟩
          have : y ≠ x := fun e => hj (nodup_ix hN e1 (e ▸ hi))
          simp [this, e]
        · exact .inr ⟨k, c, e, z.sameBut hs (cne y c e)⟩
    · obtain ⟨w', z⟩ := I.cell y c e
      exact ⟨w', z.sameBut hs (cne y c e)⟩
    · obtain ⟨e, n, ne, nf, d⟩ := I.pin p hp
      exact ⟨(hs.2 p.1 ne).trans e, n, ne, nf, d⟩
  · have hfn : X.fn x = true := by
      rcases hf with z | z
      · exact z
      · rw [z] at hk; cases hk
    obtain ⟨c, hc⟩ := I.ok.has x (.inl hk)
    obtain ⟨w', z⟩ := I.cell x c hc
    refine wpAny_storeName_cell I.ok.kind hk hc z (fun h' hc' hs => ?_)
    obtain ⟨oc, hoc, hocd⟩ := id z
    refine h { s with heap := h' } ⟨I.ok, I.os, I.bare, ⟨fun b o e n hb hx => ?_, fun b o e n hb hx => ?_, I.base.free, fun b o e hx => ?_, I.base.tups, I.base.frzs, I.base.tbls⟩, ⟨m, hn.sameBut hs (Ne.symm (cne x c hc)), fun j y v' e1 e2 e3 => ?_⟩, fun y c' e => ?_, I.free, I.freeC, fun p hp => ?_, tracked ⟨oc, hoc, I.freeC x c hc⟩ hs, by simpa using I.len⟩ ⟨c, hs, .inr hc⟩
    · exact (hs.2 b (Nat.ne_of_lt (Nat.lt_of_lt_of_le (Heap.lt_size e) (I.ok.cab x c hfn hc)))).trans (I.base.keep b o e n hb hx)
    · obtain ⟨sl, e1⟩ := I.base.slot b o e n hb hx
      exact ⟨sl, (hs.2 b (Nat.ne_of_lt (Nat.lt_of_lt_of_le (Heap.lt_size e) (I.ok.cab x c hfn hc)))).trans e1⟩
    · obtain ⟨o', e1⟩ := I.base.there b o e hx
      exact ⟨o', (hs.2 b (Nat.ne_of_lt (Nat.lt_of_lt_of_le (Heap.lt_size e) (I.ok.cab x c hfn hc)))).trans e1⟩
    · by_cases hj : j = i
      · subst hj
        rw [hi] at e1; cases e1
        rw [List.getElem?_set_self hiσ] at e2
        cases e2
        exact ⟨u, r, .inr ⟨.inl hk, c, hc, hc'⟩⟩
      · rw [List.getElem?_set_ne (Ne.symm hj)] at e2
        obtain ⟨u', r', q⟩ := hl j y v' e1 e2 e3
        refine ⟨u', r', ?_⟩
        rcases q with q | ⟨k, c', e, z'⟩
        · exact .inl q
        · refine .inr ⟨k, c', e, z'.sameBut hs ?_⟩
          rintro rfl
          exact hj (nodup_ix hN e1 (I.ok.inj _ _ _ e hc ▸ hi))
    · by_cases hcc : c' = c
      · subst hcc; exact ⟨_, hc'⟩
      · obtain ⟨w2, z2⟩ := I.cell y c' e
        exact ⟨w2, z2.sameBut hs hcc⟩
    · obtain ⟨e, n, ne, nf, d⟩ := I.pin p hp
      refine ⟨(hs.2 p.1 ?_).trans e, n, ne, nf, d⟩
      intro q
      rw [q, hoc] at e
      have q' : oc = p.2 := Option.some.inj e
      exact d w' (by rw [← q']; exact hocd)
theorem store_ok {M : Model} {A : Around} {E : Value → Shared → Prop} {i : Nat} {x : Str} {v : V} {u : Value} {Q : Unit → Shared → Prop} (I : Inv X pins σ H s) (hN : X.N.Nodup) (hi : X.N[i]? = some x) (hx : Loc X.env.scope x) (r : RelV v u)
    (h : ∀ s', Inv X pins (σ.set i (some v)) H s' → Q () s') (hf : X.fn x = true ∨ X.env.scope.names.lookup x = some .local := by first | exact .inl rfl | exact .inr rfl | assumption) : wpAny M A (storeName X.env x u) Q E s :=
  store_ok2 I hN hi hx r (fun s' I' _ => h s' I') hf
end
abbrev XK := Value → Option Addr → Hp → Prop
abbrev St := List (Option V)
abbrev VK := V → Hp → Prop
abbrev TE := St → Hp → VK → Prop
abbrev TT := St → Hp → (Bool → Hp → Prop) → Prop
abbrev TA := St → Hp → (List V → Hp → Prop) → Prop
structure Ends where
  nx : St → Hp → Prop
  rt : VK
  bk : St → Hp → Prop := fun _ _ => False
  ct : St → Hp → Prop := fun _ _ => False
abbrev TS := Ends → St → Hp → Prop
def EP (X : Cx) (pins : List (Addr × Obj)) (σ : St) (Q : VK) (u : Value) (s' : Shared) : Prop := ∃ v H', Inv X pins σ H' s' ∧ RelV v u ∧ Q v H'
def TP (X : Cx) (pins : List (Addr × Obj)) (σ : St) (Q : Bool → Hp → Prop) (b : Bool) (s' : Shared) : Prop := ∃ H', Inv X pins σ H' s' ∧ Q b H'
def AP (X : Cx) (pins : List (Addr × Obj)) (σ : St) (Q : List V → Hp → Prop) (us : List Value) (s' : Shared) : Prop := ∃ vs H', Inv X pins σ H' s' ∧ Vals vs us ∧ Q vs H'
def SP (X : Cx) (pins : List (Addr × Obj)) (D : Ends) (f : Flow) (s' : Shared) : Prop :=
  match f with
  | .next => ∃ σ' H', Inv X pins σ' H' s' ∧ D.nx σ' H'
  | .brk => ∃ σ' H', Inv X pins σ' H' s' ∧ D.bk σ' H'
  | .cont => ∃ σ' H', Inv X pins σ' H' s' ∧ D.ct σ' H'
  | .ret u => ∃ v σ' H', Inv X pins σ' H' s' ∧ RelV v u ∧ D.rt v H'
def PE (X : Cx) (e : Expr) (t : TE) : Prop :=
  ∀ (pins : List (Addr × Obj)) (s : Shared) (σ : St) (H : Hp) (Q : VK), Inv X pins σ H s → t σ H Q → wpAny (model X.prog X.w) X.A (eval e X.env) (EP X pins σ Q) X.xe s
def PT (X : Cx) (e : Expr) (t : TT) : Prop :=
  ∀ (pins : List (Addr × Obj)) (s : Shared) (σ : St) (H : Hp) (Q : Bool → Hp → Prop), Inv X pins σ H s → t σ H Q → wpAny (model X.prog X.w) X.A (isTrue e X.env (eval e X.env)) (TP X pins σ Q) X.xe s
def PW (X : Cx) (e : Expr) (t : TT) : Prop :=
  ∀ (whole : Sem Value) (pins : List (Addr × Obj)) (s : Shared) (σ : St) (H : Hp) (Q : Bool → Hp → Prop), Inv X pins σ H s → t σ H Q → wpAny (model X.prog X.w) X.A (isTrue e X.env whole) (TP X pins σ Q) X.xe s
def PA (X : Cx) (es : List Expr) (t : TA) : Prop :=
  ∀ (pos : Pos) (pins : List (Addr × Obj)) (s : Shared) (σ : St) (H : Hp) (Q : List V → Hp → Prop), Inv X pins σ H s → t σ H Q → wpAny (model X.prog X.w) X.A (spliced (backTo pos (starEach es X.env))) (AP X pins σ Q) X.xe s
def PS (X : Cx) (st : Stmt) (t : TS) : Prop :=
  ∀ (pins : List (Addr × Obj)) (s : Shared) (σ : St) (H : Hp) (D : Ends), Inv X pins σ H s → t D σ H → wpAny (model X.prog X.w) X.A (exec st X.env) (SP X pins D) X.xe s
def PSs (X : Cx) (st : List Stmt) (t : TS) : Prop :=
  ∀ (pins : List (Addr × Obj)) (s : Shared) (σ : St) (H : Hp) (D : Ends), Inv X pins σ H s → t D σ H → wpAny (model X.prog X.w) X.A (execs st X.env) (SP X pins D) X.xe s
theorem thn {α : Type} {t : Sem α} {Q Q' : α → Shared → Prop} {M : Model} {A : Around} {E : Value → Shared → Prop} {s : Shared} (h : wpAny M A t Q E s) (hQ : ∀ a s, Q a s → Q' a s) : wpAny M A t Q' E s := wpAny_mono h hQ fun _ _ x => x
end L2
namespace L2
open PySem PySem.Spec PyProof.Rows
section
variable {X : Cx}
def tVar (i : Nat) : TE := fun σ H Q => ∃ v, σ[i]? = some (some v) ∧ Q v H
def tC (v : V) : TE := fun _ H Q => Q v H
theorem pe_var {i : Nat} {x : Str} {pos : Pos} (hN : X.N[i]? = some x) (hv : Vis X.env.scope x) (hd : (x == ("__debug__" : Str)) = false := by decide) (hcd : (x == ("__classdict__" : Str)) = false := by decide) : PE X (.Name x pos) (tVar i) := by
  intro pins s σ H Q I h
  obtain ⟨v, e, h⟩ := h
  obtain ⟨m, hn, hl⟩ := I.loc
  obtain ⟨u, r, l⟩ := hl i x v hN e hv
  have fin : EP X pins σ Q u s := ⟨v, H, I, r, h⟩
  rcases l with ⟨hk, hm⟩ | ⟨hk, c, hc, hcell⟩
  · exact wpAny_Name (wpAny_loadName_local I.ok.kind hk hn hm fin) hd
  · rcases hk with hk | hk
    · exact wpAny_Name (wpAny_loadName_cell I.ok.kind hk hc hcell fin) hd
    · exact wpAny_Name (wpAny_loadName_free I.ok.kind hk hc hcell fin hcd) hd
theorem pe_int {i j pos} : PE X (.Constant (.int i) j pos) (tC (.int i)) := fun _ _ _ H _ I h => wpAny_Constant_int ⟨.int i, H, I.tok _, ⟨_, rfl⟩, h⟩
theorem pe_bl {b j pos} : PE X (.Constant (.bool b) j pos) (tC (.bl b)) := fun _ _ _ H _ I h => Constant_bool ⟨.bl b, H, I, rfl, h⟩
theorem pe_str {x j pos} : PE X (.Constant (.str x) j pos) (tC (.str x)) := fun _ _ _ H _ I h => Calls.Constant_str ⟨.str x, H, I.tok _, ⟨_, rfl⟩, h⟩
def Gl (X : Cx) (x : Str) : Prop := X.env.kindOf x = some .globalImplicit
theorem ld_glob {E : Value → Shared → Prop} {pins : List (Addr × Obj)} {s : Shared} {σ : St} {H : Hp} {x : Str} {u : Value} {pos : Pos} {Q : Value → Shared → Prop} (I : Inv X pins σ H s) (hg : Gl X x) (hm : X.mg x = some u) (h : Q u s)
    (hd : (x == ("__debug__" : Str)) = false := by decide) : wpAny (model X.prog X.w) X.A (eval (.Name x pos) X.env) Q E s :=
  Calls.Name_function_global I.ok.kind hg (Calls.loadGlobal_global (by rw [I.ok.glob]; exact I.mod.glob.keeps I.bk) hm h) hd
theorem ld_blt {E : Value → Shared → Prop} {pins : List (Addr × Obj)} {s : Shared} {σ : St} {H : Hp} {x : Str} {u : Value} {pos : Pos} {Q : Value → Shared → Prop} (I : Inv X pins σ H s) (hg : Gl X x) (hm : X.mg x = none) (hv : bootBuiltins x = some u) (h : Q u s)
    (hn : x ≠ "__name__" := by decide) (hd : (x == ("__debug__" : Str)) = false := by decide) : wpAny (model X.prog X.w) X.A (eval (.Name x pos) X.env) Q E s := by
  obtain ⟨mb, h1, h2⟩ := I.mod.blt
  exact Calls.Name_function_global I.ok.kind hg (Calls.loadGlobal_builtin (by rw [I.ok.glob]; exact I.mod.glob.keeps I.bk) hm (by rw [I.ok.blt]; exact h1.keeps I.bk) ((h2 x hn).trans hv) h) hd
theorem pe_bltn {x : Str} {v : V} {u : Value} {pos : Pos} (hg : Gl X x) (hm : X.mg x = none) (hv : bootBuiltins x = some u) (r : RelV v u) (hn : x ≠ "__name__" := by decide) (hd : (x == ("__debug__" : Str)) = false := by decide) : PE X (.Name x pos) (tC v) :=
  fun _ _ _ H _ I h => ld_blt I hg hm hv ⟨v, H, I, r, h⟩ hn hd
variable {a b : Expr} {ta tb : TE} {pos : Pos}
variable {tA tB' : TT} {rest : List Expr}
def tAnd (t u : TT) : TT := fun σ H Q => t σ H fun c H1 => if c = true then u σ H1 Q else Q false H1
def tOr (t u : TT) : TT := fun σ H Q => t σ H fun c H1 => if c = true then Q true H1 else u σ H1 Q
def tNot (t : TT) : TT := fun σ H Q => t σ H fun c H1 => Q (!c) H1
theorem pw_and1 (ha : PT X a tA) : PW X (.BoolOp .And [a] pos) tA := by
  intro wh pins s σ H Q I h
  refine isTrue_and (thn (ha pins s σ H Q I h) fun c s1 e => ?_)
  cases c with
  | true => exact isTrue_and_nil e
  | false => exact e
theorem pw_or1 (ha : PT X a tA) : PW X (.BoolOp .Or [a] pos) tA := by
  intro wh pins s σ H Q I h
  refine isTrue_or (thn (ha pins s σ H Q I h) fun c s1 e => ?_)
  cases c with
  | false => exact isTrue_or_nil e
  | true => exact e
theorem pw_and (ha : PT X a tA) (hb : PW X (.BoolOp .And (b :: rest) pos) tB') : PW X (.BoolOp .And (a :: b :: rest) pos) (tAnd tA tB') := by
  intro wh pins s σ H Q I h
  refine isTrue_and (thn (ha pins s σ H _ I h) fun c s1 ⟨H1, I1, q1⟩ => ?_)
  cases c with
  | true => exact hb wh pins s1 σ H1 Q I1 q1
  | false => exact ⟨H1, I1, q1⟩
theorem pw_or (ha : PT X a tA) (hb : PW X (.BoolOp .Or (b :: rest) pos) tB') : PW X (.BoolOp .Or (a :: b :: rest) pos) (tOr tA tB') := by
  intro wh pins s σ H Q I h
  refine isTrue_or (thn (ha pins s σ H _ I h) fun c s1 ⟨H1, I1, q1⟩ => ?_)
  cases c with
  | true => exact ⟨H1, I1, q1⟩
  | false => exact hb wh pins s1 σ H1 Q I1 q1
theorem pt_not (ha : PT X a tA) : PT X (.UnaryOp .Not a pos) (tNot tA) := by
  intro pins s σ H Q I h
  exact isTrue_not (ha pins s σ H (fun c H1 => Q (!c) H1) I h)
theorem pe_one {op} {t : TE} (h : PE X a t) : PE X (.BoolOp op [a] pos) t := fun pins s σ H Q I hw => BoolOp_one (h pins s σ H Q I hw)
def tIf (t : TT) (ta tb : TE) : TE := fun σ H Q => t σ H fun c H1 => if c = true then ta σ H1 Q else tb σ H1 Q
theorem pe_ifExp {c : Expr} (hc : PT X c tA) (ha : PE X a ta) (hb : PE X b tb) : PE X (.IfExp c a b pos) (tIf tA ta tb) := by
  intro pins s σ H Q I h
  refine wpAny_IfExp (thn (hc pins s σ H _ I h) fun d s1 ⟨H1, I1, q1⟩ => ?_)
  cases d with
  | true => exact ha pins s1 σ H1 Q I1 q1
  | false => exact hb pins s1 σ H1 Q I1 q1
end
end L2
namespace L2
open PySem PySem.Spec PyProof.Rows
def SqL (K : PySem.W.Frag) (H : Hp) (a : Addr) (xs : List V) : Prop :=
  Rd H a (.lst xs) ∨
    ∃ (o : Obj) (its : Array Value) (n : Nat), K.lookup a = some o ∧ o.cls = .type "list" ∧ o.dict = none ∧ o.data = .seq its n ∧ its.size ≤ sizeLine ∧ Vals xs its.toList
def SqT (K : PySem.W.Frag) (H : Hp) (a : Addr) (xs : List V) : Prop :=
  Rd H a (.tup xs) ∨
    ∃ (o : Obj) (its : Array Value) (n : Nat), K.lookup a = some o ∧ o.cls = .type "tuple" ∧ (o.data, o.dict) = (Data.seq its n, none) ∧ its.size ≤ sizeLine ∧ Vals xs its.toList
def absV : Value → Option V
  | .none => some .non
  | .bool b => some (.bl b)
  | .int i _ => some (.int i)
  | .str x _ => some (.str x)
  | .bytes b _ => some (.byt b)
  | .float b _ => some (.flt b)
  | .ref a => some (.ref a)
  | .type n => some (.ty n)
  | _ => none
theorem RelV.abs {x : V} {u : Value} (r : RelV x u) : absV u = some x := by
  cases x with
  | non => cases r; rfl
  | bl _ => cases r; rfl
  | int _ => obtain ⟨t, rfl⟩ := r; rfl
  | str _ => obtain ⟨t, rfl⟩ := r; rfl
  | byt _ => obtain ⟨t, rfl⟩ := r; rfl
  | flt _ => obtain ⟨t, rfl⟩ := r; rfl
  | ref _ => cases r; rfl
  | ty _ => cases r; rfl
theorem RelV.inj {x y : V} {u : Value} (r : RelV x u) (q : RelV y u) : x = y := Option.some.inj (r.abs.symm.trans q.abs)
theorem Vals.inj : ∀ {xs ys : List V} {us : List Value}, Vals xs us → Vals ys us → xs = ys
  | _, _, _, .nil, .nil => rfl
  | _, _, _, .cons r t, .cons r' t' => by rw [r.inj r', Vals.inj t t']
section
variable {X : Cx} {pins : List (Addr × Obj)} {σ : St} {H : Hp} {s : Shared} {a : Addr} {xs ys : List V}
theorem SqL.of {K : PySem.W.Frag} (h : H a = some (.lst xs)) : SqL K H a xs := .inl (.inl h)
theorem SqT.of {K : PySem.W.Frag} (h : H a = some (.tup xs)) : SqT K H a xs := .inl (.inl h)
theorem Inv.list (I : Inv X pins σ H s) (h : SqL X.K H a xs) : ∃ its : List Value, Vals xs its ∧ PlainL s.heap a its.toArray ∧ xs.length ≤ sizeLine := by
  rcases h with h | ⟨o, its, n, hk, hc, hd, hs, hz, r⟩
  · obtain ⟨z, its, n, r, e⟩ := h.ok I.hok
    exact ⟨its, r, ⟨_, n, e, rfl, rfl, rfl⟩, z⟩
  · refine ⟨its.toList, r, ⟨o, n, I.kIn a o hk, hc, hd, by simpa using hs⟩, ?_⟩
    have e := r.length
    simp only [Array.length_toList] at e
    omega
theorem Inv.tuple (I : Inv X pins σ H s) (h : SqT X.K H a xs) : ∃ its : List Value, Vals xs its ∧ IsTup s.heap a its.toArray ∧ xs.length ≤ sizeLine := by
  rcases h with h | ⟨o, its, n, hk, hc, hs, hz, r⟩
  · obtain ⟨z, its, r, p⟩ := h.ok I.hok
    exact ⟨its, r, IsTupN.tup p, z⟩
  · refine ⟨its.toList, r, ⟨o, I.kIn a o hk, hc, n, by simpa using (Prod.mk.inj hs).1⟩, ?_⟩
    have e := r.length
    simp only [Array.length_toList] at e
    omega
theorem Inv.tupleN (I : Inv X pins σ H s) (h : SqT X.K H a xs) : ∃ its : List Value, Vals xs its ∧ IsTupN s.heap a its.toArray ∧ xs.length ≤ sizeLine := by
  rcases h with h | ⟨o, its, n, hk, hc, hs, hz, r⟩
  · obtain ⟨z, its, r, p⟩ := h.ok I.hok
    exact ⟨its, r, p, z⟩
  · refine ⟨its.toList, r, ⟨o, I.kIn a o hk, hc, n, by simpa using hs⟩, ?_⟩
    have e := r.length
    simp only [Array.length_toList] at e
    omega
theorem Inv.list_inj (I : Inv X pins σ H s) (h : SqL X.K H a xs) (h' : SqL X.K H a ys) : xs = ys := by
  obtain ⟨its, r, ⟨o, n, e, _, _, d⟩, _⟩ := I.list h
  obtain ⟨its', r', ⟨o', n', e', _, _, d'⟩, _⟩ := I.list h'
  rw [e] at e'; cases e'
  rw [d] at d'
  injection d' with d1 _
  have : its = its' := by simpa using congrArg Array.toList d1
  subst this
  exact r.inj r'
theorem Inv.tuple_inj (I : Inv X pins σ H s) (h : SqT X.K H a xs) (h' : SqT X.K H a ys) : xs = ys := by
  obtain ⟨its, r, ⟨o, e, _, n, d⟩, _⟩ := I.tuple h
  obtain ⟨its', r', ⟨o', e', _, n', d'⟩, _⟩ := I.tuple h'
  rw [e] at e'; cases e'
  rw [d] at d'
  injection d' with d1 _
  have : its = its' := by simpa using congrArg Array.toList d1
  subst this
  exact r.inj r'
end
abbrev Cx.wish (X : Cx) (E : Value → Shared → Prop) : Cx := { X with xe := E }
abbrev Cx.nox (X : Cx) : Cx := X.wish fun _ _ => False
theorem Cx.Ok.wish {X : Cx} (ok : X.Ok) (E : Value → Shared → Prop) : (X.wish E).Ok :=
  ⟨ok.mod, ok.kind, ok.glob, ok.blt, ok.above, ok.inj, ok.has, ok.cab, ok.hd, ok.frames, ok.stk, ok.exf, ok.bs, ok.bsz, ok.noex, ok.exfs, ok.funs, ok.frf⟩
theorem Cx.Ok.unwish {X : Cx} {E : Value → Shared → Prop} (ok : (X.wish E).Ok) : X.Ok :=
  ⟨ok.mod, ok.kind, ok.glob, ok.blt, ok.above, ok.inj, ok.has, ok.cab, ok.hd, ok.frames, ok.stk, ok.exf, ok.bs, ok.bsz, ok.noex, ok.exfs, ok.funs, ok.frf⟩
section
variable {X : Cx} {pins : List (Addr × Obj)} {σ : St} {H : Hp} {s : Shared} {E : Value → Shared → Prop}
theorem Inv.wish (I : Inv X pins σ H s) (E : Value → Shared → Prop) : Inv (X.wish E) pins σ H s := ⟨I.ok.wish E, I.os, I.bare, I.base, I.loc, I.cell, I.free, I.freeC, I.pin, I.hok, I.len⟩
theorem Inv.unwish (I : Inv (X.wish E) pins σ H s) : Inv X pins σ H s := ⟨I.ok.unwish, I.os, I.bare, I.base, I.loc, I.cell, I.free, I.freeC, I.pin, I.hok, I.len⟩
theorem SP.unwish {D : Ends} {f : Flow} {s' : Shared} (h : SP (X.wish E) pins D f s') : SP X pins D f s' := by
  cases f with
  | next => obtain ⟨σ', H', I, q⟩ := h; exact ⟨σ', H', I.unwish, q⟩
  | brk => obtain ⟨σ', H', I, q⟩ := h; exact ⟨σ', H', I.unwish, q⟩
  | cont => obtain ⟨σ', H', I, q⟩ := h; exact ⟨σ', H', I.unwish, q⟩
  | ret u => obtain ⟨v, σ', H', I, r, q⟩ := h; exact ⟨v, σ', H', I.unwish, r, q⟩
theorem PE.nox {e : Expr} {t : TE} (h : PE X.nox e t) : PE X e t := fun pins s σ H Q I hw =>
  wpAny_mono (h pins s σ H Q (I.wish _) hw) (fun _ _ ⟨v, H', I', r, q⟩ => ⟨v, H', I'.unwish, r, q⟩) fun _ _ z => False.elim z
theorem PT.nox {e : Expr} {t : TT} (h : PT X.nox e t) : PT X e t := fun pins s σ H Q I hw =>
  wpAny_mono (h pins s σ H Q (I.wish _) hw) (fun _ _ ⟨H', I', q⟩ => ⟨H', I'.unwish, q⟩) fun _ _ z => False.elim z
theorem PSs.nox {st : List Stmt} {t : TS} (h : PSs X.nox st t) : PSs X st t := fun pins s σ H D I hw =>
  wpAny_mono (h pins s σ H D (I.wish _) hw) (fun _ _ q => q.unwish) fun _ _ z => False.elim z
end
section
variable {X : Cx} {st : Stmt} {rest : List Stmt} {t u : TS} {e : Expr} {te : TE} {pos : Pos}
def tNext : TS := fun D σ H => D.nx σ H
def tSeq (t u : TS) : TS := fun D σ H => t { D with nx := u D } σ H
theorem pss_nil : PSs X [] tNext := fun _ _ σ H _ I h => wpAny_execs_nil ⟨σ, H, I, h⟩
theorem pss_cons (h1 : PS X st t) (h2 : PSs X rest u) : PSs X (st :: rest) (tSeq t u) := by
  intro pins s σ H D I h
  refine wpAny_execs_cons (thn (h1 pins s σ H { D with nx := u D } I h) fun f s1 q => ?_)
  cases f with
  | next =>
    obtain ⟨σ', H', I', q⟩ := q
    exact h2 pins s1 σ' H' D I' q
  | ret v => exact q
  | brk => exact q
  | cont => exact q
theorem pss_one (h1 : PS X st t) : PSs X [st] t := by
  intro pins s σ H D I h
  refine wpAny_execs_cons (thn (h1 pins s σ H D I h) fun f s1 q => ?_)
  cases f with
  | next => exact wpAny_execs_nil q
  | ret v => exact q
  | brk => exact q
  | cont => exact q
def tRet (te : TE) : TS := fun D σ H => te σ H D.rt
theorem ps_ret (he : PE X e te) : PS X (.Return (some e) pos) (tRet te) := by
  intro pins s σ H D I h
  exact wpAny_Return_some (thn (he pins s σ H _ I h) fun v s1 ⟨x, H1, I1, r1, q1⟩ => ⟨x, σ, H1, I1, r1, q1⟩)
def tIfS (c : TT) (t u : TS) : TS := fun D σ H => c σ H fun b H1 => if b = true then t D σ H1 else u D σ H1
theorem ps_if {c : Expr} {a b : List Stmt} {tc : TT} (hc : PT X c tc) (ha : PSs X a t) (hb : PSs X b u) : PS X (.If c a b pos) (tIfS tc t u) := by
  intro pins s σ H D I h
  refine wpAny_If (thn (hc pins s σ H _ I h) fun d s1 ⟨H1, I1, q1⟩ => ?_)
  cases d with
  | true => exact ha pins s1 σ H1 D I1 q1
  | false => exact hb pins s1 σ H1 D I1 q1
end
abbrev TG := V → St → Hp → (St → Hp → Prop) → Prop
abbrev TGs := List V → St → Hp → (St → Hp → Prop) → Prop
def PG (X : Cx) (target : Expr) (t : TG) : Prop :=
  ∀ (pins : List (Addr × Obj)) (s : Shared) (σ : St) (H : Hp) (v : V) (u : Value) (Q : St → Hp → Prop), Inv X pins σ H s → RelV v u → t v σ H Q →
    wpAny (model X.prog X.w) X.A (assign target X.env u) (fun _ s' => ∃ σ' H', Inv X pins σ' H' s' ∧ Q σ' H') X.xe s
def PGs (X : Cx) (ts : List Expr) (t : TGs) : Prop :=
  ∀ (pins : List (Addr × Obj)) (s : Shared) (σ : St) (H : Hp) (vs : List V) (us : List Value) (Q : St → Hp → Prop), Inv X pins σ H s → Vals vs us → t vs σ H Q →
    wpAny (model X.prog X.w) X.A (assignInOrder ((assignEach ts X.env).map (·.2)) us) (fun _ s' => ∃ σ' H', Inv X pins σ' H' s' ∧ Q σ' H') X.xe s
abbrev TSet := V → V → V → Hp → (Hp → Prop) → Prop
def PSet (X : Cx) (t : TSet) : Prop :=
  ∀ (pins : List (Addr × Obj)) (s : Shared) (σ : St) (H : Hp) (o i v : V) (ov iv u : Value) (Q : Hp → Prop), Inv X pins σ H s → RelV o ov → RelV i iv → RelV v u → t o i v H Q →
    wpAny (model X.prog X.w) X.A (setItem ov iv u) (fun _ s' => ∃ H', Inv X pins σ H' s' ∧ Q H') X.xe s
section
variable {X : Cx} {pos : Pos}
def gName (i : Nat) : TG := fun v σ H Q => Q (σ.set i (some v)) H
theorem pg_name {i : Nat} {x : Str} (hN : X.N.Nodup) (hi : X.N[i]? = some x) (hx : Loc X.env.scope x) (hf : X.fn x = true ∨ X.env.scope.names.lookup x = some .local := by first | exact .inl rfl | exact .inr rfl | assumption) : PG X (.Name x pos) (gName i) := by
  intro pins s σ H v u Q I r h
  exact wpAny_assign_Name (store_ok I hN hi hx r (fun s' I' => ⟨_, H, I', h⟩) hf)
def gNil : TGs := fun vs σ H Q => vs = [] ∧ Q σ H
def gCons (t : TG) (u : TGs) : TGs := fun vs σ H Q => ∃ v r, vs = v :: r ∧ t v σ H fun σ' H' => u r σ' H' Q
theorem pgs_nil : PGs X [] gNil := by
  intro pins s σ H vs us Q I r h
  obtain ⟨e, h⟩ := h
  subst e
  cases r
  exact assignInOrder_nil ⟨σ, H, I, h⟩
theorem pgs_cons {e : Expr} {es : List Expr} {t : TG} {u : TGs} (h1 : PG X e t) (h2 : PGs X es u)
    (hs : (assignEach (e :: es) X.env).map (·.2) = assign e X.env :: (assignEach es X.env).map (·.2) := by rfl) : PGs X (e :: es) (gCons t u) := by
  intro pins s σ H vs us Q I r h
  obtain ⟨v, vr, e1, h⟩ := h
  subst e1
  cases r with
  | cons r rr =>
    rw [hs]
    refine assignInOrder_cons (thn (h1 pins s σ H _ _ _ I r h) fun _ s1 ⟨σ1, H1, I1, q1⟩ => ?_)
    exact h2 pins s1 σ1 H1 _ _ Q I1 rr q1
def gTup (K : PySem.W.Frag) (n : Nat) (t : TGs) : TG := fun v σ H Q => ∃ a xs, v = .ref a ∧ SqT K H a xs ∧ xs.length = n ∧ t xs σ H Q
theorem pg_tup {es : List Expr} {k : Nat} {t : TGs} {n : Nat} (hc : X.calm = true) (h : PGs X es t)
    (hn : (assignEach es X.env).length = n := by rfl) (hst : (assignEach es X.env).findIdx? (·.1) = none := by rfl) : PG X (.Tuple es k pos) (gTup X.K n t) := by
  intro pins s σ H v u Q I r hw
  obtain ⟨a, xs, e1, hq, hl, hw⟩ := hw
  subst e1
  cases r
  obtain ⟨its, rv, ht, hz⟩ := I.tuple hq
  refine assign_Tuple_tuple (I.ok.hd hc) ht (by simp [hn, ← hl, rv.length]) hst fun h' hx => ?_
  have I1 : Inv X pins σ H { s with heap := h' } := I.kept (t' := s.toks) fun b o e => hx b o (Nat.ne_of_lt (Heap.lt_size e)) e
  exact h pins _ σ H xs _ Q I1 (by simpa using rv) hw
def gSub (to ti : TE) (t : TSet) : TG := fun v σ H Q => to σ H fun o H1 => ti σ H1 fun i H2 => t o i v H2 fun H3 => Q σ H3
theorem pg_sub {o i : Expr} {to ti : TE} {t : TSet} (ho : PE X o to) (hi : PE X i ti) (hs : PSet X t)
    (ha : ∀ v, assign (.Subscript o i pos) X.env v = (do
      let ov ← holding [v] (eval o X.env)
      let iv ← holding [v, ov] (eval i X.env)
      standAt pos
      holding [v, ov, iv] (setItem ov iv v)
      release [v, ov, iv] []) := by intro _; rfl) : PG X (.Subscript o i pos) (gSub to ti t) := by
  intro pins s σ H v u Q I r h
  rw [ha]
  refine wpAny_bind (wpAny_holding (thn (ho pins s σ H _ I h) fun ov s1 ⟨x, H1, I1, r1, q1⟩ => ?_))
  refine wpAny_bind (wpAny_holding (thn (hi pins s1 σ H1 _ I1 q1) fun iv s2 ⟨y, H2, I2, r2, q2⟩ => ?_))
  refine wpAny_bind (wpAny_standAt (wpAny_bind (wpAny_holding (thn (hs pins s2 σ H2 x y v ov iv u _ I2 r1 r2 r q2) fun _ s3 ⟨H3, I3, q3⟩ => ?_))))
  exact wpAny_release ⟨σ, H3, I3, q3⟩
def tAsg (te : TE) (g : TG) : TS := fun D σ H => te σ H fun x H1 => g x σ H1 D.nx
theorem ps_asg {tg e : Expr} {te : TE} {g : TG} (he : PE X e te) (hg : PG X tg g) (hs : swapsWithSole [tg] e pos.line X.env = pure false := by rfl) (hw : swappedStores [tg] e X.env = pure none := by rfl)
    (h1 : (assignEach [tg] X.env).map (·.2) = [assign tg X.env] := by rfl) : PS X (.Assign [tg] e pos) (tAsg te g) := by
  intro pins s σ H D I h
  refine wpAny_Assign_stores (thn (he pins s σ H _ I h) fun v s1 ⟨x, H1, I1, r1, q1⟩ => ?_) hs hw
  rw [h1]
  exact thn (hg pins s1 σ H1 x v _ I1 r1 q1) fun _ s2 q => q
end
section
variable {X : Cx} {pos : Pos}
end
structure It where
  go : Nat → Hp → Prop
  yld : Nat → Hp → V → Hp → Prop
  stop : Nat → Hp → Prop
def FpOk (X : Cx) (pins : List (Addr × Obj)) (H : Hp) (b : Addr) : Prop :=
  H b = none ∧ b ≠ X.env.locals ∧ b ∉ X.fs ∧ (b ∈ X.ex ∨ X.s₀.heap.objs.size ≤ b) ∧ (∀ x c, X.env.cells.lookup x = some c → c ≠ b) ∧ ∀ p ∈ X.pn ++ pins, p.1 ≠ b
theorem Inv.fpOk {X : Cx} {pins : List (Addr × Obj)} {σ : St} {H H' : Hp} {s : Shared} {b : Addr} (I : Inv X pins σ H s) (hb : s.heap.objs.size ≤ b) (hn : H' b = none) : FpOk X pins H' b := by
  refine ⟨hn, Nat.ne_of_gt (Nat.lt_of_lt_of_le I.lt hb), I.nofs hb, .inr (Nat.le_trans I.sz hb), fun x c e z => ?_, fun p hp z => ?_⟩
  · obtain ⟨v, q⟩ := I.cell x c e
    exact absurd (Nat.lt_of_lt_of_le q.lt (by rw [z]; exact hb)) (Nat.lt_irrefl _)
  · exact absurd (Nat.lt_of_lt_of_le (Heap.lt_size (I.pin p hp).1) (by rw [z]; exact hb)) (Nat.lt_irrefl _)
structure Turn (P : Program) (w : World) (K : PySem.W.Frag) (tg : Expr) (J : It) (fp : List Addr) (it : Addr) (tn : Nat → Heap → Prop) : Prop where
  mem : it ∈ fp
  obj : ∀ i h, tn i h → ∀ b ∈ fp, ∃ o, h.get? b = some o ∧ ∀ v, o.data ≠ .cell v
  keep : ∀ i h h', tn i h → (∀ b ∈ fp, ∀ o, h.get? b = some o → h'.get? b = some o) → tn i h'
  item : ∀ (X : Cx), X.prog = P → X.w = w → X.K = K → X.calm = true → ∀ (i : Nat) (pins : List (Addr × Obj)) (s : Shared) (σ : St) (H : Hp) (E : Value → Shared → Prop), Inv X pins σ H s → (∀ b ∈ fp, FpOk X pins H b) → tn i s.heap → J.go i H →
    wpAny (model P w) X.A (pyNext (.ref it)) (fun r s1 => ∃ u, r = some u ∧
      wpAny (model P w) X.A (letOwnedTupleGo tg (.ref it) u) (fun _ s2 => ∃ x H', Inv X pins σ H' s2 ∧ RelV x u ∧ J.yld i H x H' ∧ tn (i + 1) s2.heap ∧ ∀ b ∈ fp, H' b = none) E s1) E s
  done : ∀ (X : Cx), X.prog = P → X.w = w → X.K = K → X.calm = true → ∀ (i : Nat) (pins : List (Addr × Obj)) (s : Shared) (σ : St) (H : Hp) (E : Value → Shared → Prop), Inv X pins σ H s → (∀ b ∈ fp, FpOk X pins H b) → tn i s.heap → J.stop i H →
    wpAny (model P w) X.A (pyNext (.ref it)) (fun r s1 => r = none ∧ Inv X pins σ H s1) E s
  self : ∀ (A : Around) (i : Nat) (s : Shared) (Q : Value → Shared → Prop) (E : Value → Shared → Prop), tn i s.heap → Q (.ref it) s → wpAny (model P w) A (pyIter (.ref it)) Q E s
abbrev TI := St → Hp → (It → Hp → Prop) → Prop
def PIE (X : Cx) (pins : List (Addr × Obj)) (σ : St) (tg : Expr) (R : It → Hp → Prop) (itv : Value) (s2 : Shared) : Prop :=
  ∃ (it : Addr) (fp : List Addr) (tn : Nat → Heap → Prop) (J : It) (H' : Hp), itv = .ref it ∧ Inv X pins σ H' s2 ∧ Turn X.prog X.w X.K tg J fp it tn ∧ tn 0 s2.heap ∧ (∀ b ∈ fp, FpOk X pins H' b) ∧ R J H'
def PI (X : Cx) (tg iter : Expr) (wi : TI) : Prop :=
  ∀ (pins : List (Addr × Obj)) (s : Shared) (σ : St) (H : Hp) (R : It → Hp → Prop), Inv X pins σ H s → wi σ H R →
    wpAny (model X.prog X.w) X.A (eval iter X.env) (fun v s1 => wpAny (model X.prog X.w) X.A (pyIter v) (PIE X pins σ tg R) X.xe s1) X.xe s
theorem go_of {M : Model} {A : Around} {E : Value → Shared → Prop} {s : Shared} {tg : Expr} {it : Addr} {u : Value} {o : Obj} {n : String} {vs : Array Value} {Q : Unit → Shared → Prop} (ho : s.heap.get? it = some o) (hc : o.cls = .type n) (hd : o.data = .fields vs)
    (hn : ["enumerate", "zip", "dict_itemiterator", "dict_reverseitemiterator", "odict_iterator", "itertools.zip_longest", "itertools.pairwise"].contains n = false) (hQ : Q () s) : wpAny M A (letOwnedTupleGo tg (.ref it) u) Q E s := by
  unfold letOwnedTupleGo
  cases tg <;> first
    | exact wpAny_pure hQ
    | (cases u <;> first
        | exact wpAny_pure hQ
        | (refine wpAny_bind (wpAny_load ho ?_)
           rw [hc, hd]
           show wpAny M A (if (["enumerate", "zip", "dict_itemiterator", "dict_reverseitemiterator", "odict_iterator", "itertools.zip_longest", "itertools.pairwise"].contains n && vs[0]? == some (rawInt _)) = true then _ else _) Q E s
           rw [if_neg (by intro h; rw [hn, Bool.false_and] at h; cases h)]
           exact wpAny_pure hQ))
def Itl (K : PySem.W.Frag) (a : Addr) : It :=
  ⟨fun i H => ∃ xs x, SqL K H a xs ∧ xs[i]? = some x, fun i H x H' => H' = H ∧ ∀ xs, SqL K H a xs → xs[i]? = some x, fun i H => ∃ xs, SqL K H a xs ∧ xs.length ≤ i⟩
def Itt (K : PySem.W.Frag) (a : Addr) : It :=
  ⟨fun i H => ∃ xs x, SqT K H a xs ∧ xs[i]? = some x, fun i H x H' => H' = H ∧ ∀ xs, SqT K H a xs → xs[i]? = some x, fun i H => ∃ xs, SqT K H a xs ∧ xs.length ≤ i⟩
def Itr (lo : Int) (n : Nat) : It := ⟨fun i _ => i < n, fun i H x H' => H' = H ∧ x = .int (lo + i), fun i _ => n ≤ i⟩
theorem turn_list {P : Program} {w : World} {K : PySem.W.Frag} {tg : Expr} (a it : Addr) : Turn P w K tg (Itl K a) [it] it (fun i h => h.IsListIter it a i) where
  mem := by simp
  obj := fun i h st b hb => by
    have e : b = it := by simpa using hb
    subst e
    obtain ⟨o, e, c, d⟩ := st
    exact ⟨o, e, fun v z => by rw [d] at z; cases z⟩
  keep := fun i h h' st k => st.at fun o e => k it (by simp) o e
  item := by
    intro X hP hw hK hc i pins s σ H E I hf st hg
    subst hP hw hK
    obtain ⟨xs, x, hq, hx⟩ := hg
    obtain ⟨its, rv, p, hz⟩ := I.list hq
    obtain ⟨u, hu, ru⟩ := rv.get hx
    obtain ⟨f0, f1, f2, f3, f4, f5⟩ := hf it (by simp)
    refine wpAny_pyNext_list_item st p.isList (x := u) (by simpa using hu) fun h' st' sb => ?_
    have I1 : Inv X pins σ H { s with heap := h' } := I.turned (t' := s.toks) (fun b o hb e => (sb.2 b hb).trans e) f0 f1 f3 f4 f5
    obtain ⟨o, e, c, d⟩ := id st'
    exact ⟨u, rfl, go_of (s := { s with heap := h' }) e c d (by decide) ⟨x, H, I1, ru, ⟨rfl, fun ys hy => by rw [I.list_inj hy hq]; exact hx⟩, st', fun b hb => (hf b hb).1⟩⟩
  done := by
    intro X hP hw hK hc i pins s σ H E I hf st hg
    subst hP hw hK
    obtain ⟨xs, hq, hx⟩ := hg
    obtain ⟨its, rv, p, hz⟩ := I.list hq
    obtain ⟨f0, f1, f2, f3, f4, f5⟩ := hf it (by simp)
    have hl := rv.length
    exact wpAny_pyNext_list_end (I.ok.hd hc) st p.isList (by simp; omega) fun h' eb => ⟨rfl, I.turned (t' := s.toks) (fun b o hb e => eb b o hb e) f0 f1 f3 f4 f5⟩
  self := fun _ _ _ _ _ st h => wpAny_pyIter_listiter st h
theorem turn_tuple {P : Program} {w : World} {K : PySem.W.Frag} {tg : Expr} (a it : Addr) : Turn P w K tg (Itt K a) [it] it (fun i h => h.IsTupleIter it a i) where
  mem := by simp
  obj := fun i h st b hb => by
    have e : b = it := by simpa using hb
    subst e
    obtain ⟨o, e, c, d⟩ := st
    exact ⟨o, e, fun v z => by rw [d] at z; cases z⟩
  keep := fun i h h' st k => st.at fun o e => k it (by simp) o e
  item := by
    intro X hP hw hK hc i pins s σ H E I hf st hg
    subst hP hw hK
    obtain ⟨xs, x, hq, hx⟩ := hg
    obtain ⟨its, rv, p, hz⟩ := I.tuple hq
    obtain ⟨u, hu, ru⟩ := rv.get hx
    obtain ⟨f0, f1, f2, f3, f4, f5⟩ := hf it (by simp)
    refine wpAny_pyNext_tuple_item st (show s.heap.IsTuple a its.toArray from p) (x := u) (by simpa using hu) fun h' st' sb => ?_
    have I1 : Inv X pins σ H { s with heap := h' } := I.turned (t' := s.toks) (fun b o hb e => (sb.2 b hb).trans e) f0 f1 f3 f4 f5
    obtain ⟨o, e, c, d⟩ := id st'
    exact ⟨u, rfl, go_of (s := { s with heap := h' }) e c d (by decide) ⟨x, H, I1, ru, ⟨rfl, fun ys hy => by rw [I.tuple_inj hy hq]; exact hx⟩, st', fun b hb => (hf b hb).1⟩⟩
  done := by
    intro X hP hw hK hc i pins s σ H E I hf st hg
    subst hP hw hK
    obtain ⟨xs, hq, hx⟩ := hg
    obtain ⟨its, rv, p, hz⟩ := I.tuple hq
    obtain ⟨f0, f1, f2, f3, f4, f5⟩ := hf it (by simp)
    have hl := rv.length
    exact wpAny_pyNext_tuple_end (I.ok.hd hc) st (show s.heap.IsTuple a its.toArray from p) (by simp; omega) fun h' eb => ⟨rfl, I.turned (t' := s.toks) (fun b o hb e => eb b o hb e) f0 f1 f3 f4 f5⟩
  self := fun _ _ _ _ _ st h => wpAny_pyIter_tupleiter st h
theorem turn_range {P : Program} {w : World} {K : PySem.W.Frag} {tg : Expr} (it : Addr) (lo : Int) (n : Nat) : Turn P w K tg (Itr lo n) [it] it (fun i h => IsRangeIter h it (lo + (i : Nat) * 1) ((n : Int) - (i : Nat)) 1) where
  mem := by simp
  obj := fun i h st b hb => by
    have e : b = it := by simpa using hb
    subst e
    exact ⟨_, st, fun v z => by
      have z' : Data.fields _ = Data.cell v := z
      cases z'⟩
  keep := fun i h h' st k => k it (by simp) _ st
  item := by
    intro X hP hw hK hc i pins s σ H E I hf st hg
    subst hP hw hK
    obtain ⟨f0, f1, f2, f3, f4, f5⟩ := hf it (by simp)
    have W := Walks.range (prog := X.prog) (w := X.w) (I.ok.hd hc) it lo 1 n
    refine W.item i s _ _ hg st fun v h' tk hv st' kk => ?_
    obtain ⟨t, rfl⟩ := hv
    have I1 : Inv X pins σ H { s with heap := h', toks := tk } := I.turned (fun b o hb e => kk b o (by simpa using hb) e) f0 f1 f3 f4 f5
    refine ⟨_, rfl, go_of (s := { s with heap := h', toks := tk }) (n := "range_iterator") st' rfl rfl (by decide) ⟨.int (lo + i), H, I1, ⟨t, ?_⟩, ⟨rfl, rfl⟩, st', fun b hb => (hf b hb).1⟩⟩
    rw [Int.mul_one]
  done := by
    intro X hP hw hK hc i pins s σ H E I hf st hg
    subst hP hw hK
    obtain ⟨f0, f1, f2, f3, f4, f5⟩ := hf it (by simp)
    exact wpAny_pyNext_range_end (I.ok.hd hc) st (by have : n ≤ i := hg; omega) fun h' eb => ⟨rfl, I.turned (t' := s.toks) (fun b o hb e => eb b o hb e) f0 f1 f3 f4 f5⟩
  self := fun _ _ _ _ _ st h => wpAny_pyIter_rangeiter st h
end L2
namespace L2
open PySem PySem.Spec PyProof.Rows
section
variable {X : Cx} {tg : Expr}
theorem range_it {pins : List (Addr × Obj)} {σ : St} {H : Hp} {s : Shared} {R : It → Hp → Prop} {E : Value → Shared → Prop} {lo hi : Int} {t u v : Tok} {tk : Nat} (I : Inv X pins σ H s) (h1 : -(2 ^ 62) ≤ lo) (h2 : lo < 2 ^ 62) (h3 : -(2 ^ 62) ≤ hi) (h4 : hi < 2 ^ 62)
    (q : R (Itr lo (hi - lo).toNat) H) : wpAny (model X.prog X.w) X.A (pyIter (.ref s.heap.objs.size)) (PIE X pins σ tg R) E { s with heap := s.heap.push { cls := .type "range", data := .fields #[.int lo t, .int hi u, .int 1 v] }, toks := tk } := by
  refine wpAny_pyIter_range (IsRange.new ..) (small_one h1 h2 h3 h4) ?_
  have I1 : Inv X pins σ H { s with heap := s.heap.push { cls := .type "range", data := .fields #[.int lo t, .int hi u, .int 1 v] }, toks := tk } := I.kept fun b o e => Heap.get?_push_of_some _ e
  refine ⟨(s.heap.push { cls := .type "range", data := .fields #[.int lo t, .int hi u, .int 1 v] }).objs.size, [(s.heap.push { cls := .type "range", data := .fields #[.int lo t, .int hi u, .int 1 v] }).objs.size], _, _, H, rfl,
    I1.kept (t' := tk) fun b o e => Heap.get?_push_of_some _ e, turn_range _ lo (hi - lo).toNat, ?_, fun b hb => ?_, q⟩
  · have e1 : lo + ((0 : Nat) : Int) * 1 = lo := by simp
    have e2 : (((hi - lo).toNat : Nat) : Int) - ((0 : Nat) : Int) = Builtin.Range.rangeSize lo hi 1 := by rw [rangeSize_one]; split <;> omega
    show IsRangeIter _ _ (lo + ((0 : Nat) : Int) * 1) ((((hi - lo).toNat : Nat) : Int) - ((0 : Nat) : Int)) 1
    rw [e1, e2]
    exact Heap.get?_push_size _ rfl
  · have e : b = (s.heap.push { cls := .type "range", data := .fields #[.int lo t, .int hi u, .int 1 v] }).objs.size := by simpa using hb
    subst e
    exact I1.fpOk (Nat.le_refl _) (I1.hok.fresh (Nat.le_refl _))
def iRng1 (ta : TA) : TI := fun σ H R => ta σ H fun vs H1 => ∃ j : Int, vs = [.int j] ∧ -(2 ^ 62) ≤ j ∧ j < 2 ^ 62 ∧ R (Itr 0 j.toNat) H1
theorem pi_range1 {a : Expr} {ta : TA} {p pos : Pos} (hg : Gl X "range") (hm : X.mg "range" = none) (ha : PA X [a] ta) (hs : starEach [a] X.env = [(false, eval a X.env)] := by rfl) : PI X tg (.Call (.Name "range" p) [a] [] pos) (iRng1 ta) := by
  intro pins s σ H R I h
  refine Call_ (ld_blt I hg hm boot_range (PyProof.Rows.callWith_type1 (thn (ha pos pins s σ H _ I h) fun us s1 ⟨vs, H1, I1, r1, q1⟩ => ?_) hs rfl))
  obtain ⟨j, e, q1, q2, q⟩ := q1
  subst e
  cases r1 with
  | cons r rr =>
    cases rr
    obtain ⟨t, rfl⟩ := r
    exact call_range_1 (range_it I1 (by omega) (by omega) q1 q2 (by simpa using q))
def tFor (wi : TI) (g : TG) (tb : TS) : TS := fun D σ H => wi σ H fun J H1 => ∃ W : Nat → Nat → St → Hp → Prop, (∃ m, W 0 m σ H1) ∧ ∀ i m σ H, W i m σ H →
  (J.stop i H ∧ D.nx σ H) ∨ (J.go i H ∧ ∃ N : St → Hp → Prop, (∀ σ' H', N σ' H' → ∃ m', m' < m ∧ W (i + 1) m' σ' H') ∧ ∀ x H', J.yld i H x H' → g x σ H' fun σ2 H2 => tb { D with nx := N, ct := N, bk := D.nx } σ2 H2)
def pinsAt (fp : List Addr) (h : Heap) : List (Addr × Obj) := fp.filterMap fun b => (h.get? b).map fun o => (b, o)
theorem mem_pinsAt {fp : List Addr} {h : Heap} {b : Addr} {o : Obj} (hb : b ∈ fp) (e : h.get? b = some o) : (b, o) ∈ pinsAt fp h := List.mem_filterMap.mpr ⟨b, hb, by rw [e]; rfl⟩
theorem of_pinsAt {fp : List Addr} {h : Heap} {p : Addr × Obj} (hp : p ∈ pinsAt fp h) : p.1 ∈ fp ∧ h.get? p.1 = some p.2 := by
  obtain ⟨b, hb, e⟩ := List.mem_filterMap.mp hp
  cases q : h.get? b with
  | none => rw [q] at e; cases e
  | some o =>
    rw [q] at e
    have e' : (b, o) = p := Option.some.inj e
    subst e'
    exact ⟨hb, q⟩
theorem Inv.pinned {pins : List (Addr × Obj)} {σ : St} {H : Hp} {s : Shared} {fp : List Addr} (I : Inv X pins σ H s) (hf : ∀ b ∈ fp, FpOk X pins H b) (ho : ∀ b ∈ fp, ∃ o, s.heap.get? b = some o ∧ ∀ v, o.data ≠ .cell v) : Inv X (pins ++ pinsAt fp s.heap) σ H s :=
  I.pins_of fun p hp => (List.mem_append.mp hp).elim (fun z => I.pin p (List.mem_append_right _ z)) fun z => by
    obtain ⟨hb, e⟩ := of_pinsAt z
    obtain ⟨f0, f1, f2, _⟩ := hf p.1 hb
    obtain ⟨o, e', d⟩ := ho p.1 hb
    rw [e] at e'; cases e'
    exact ⟨e, f0, f1, f2, d⟩
theorem Inv.unpinned {pins pl : List (Addr × Obj)} {σ : St} {H : Hp} {s : Shared} (I : Inv X (pins ++ pl) σ H s) : Inv X pins σ H s := I.pins_of fun p hp => I.pin p (List.mem_append_right _ (List.mem_append_left _ hp))
theorem ps_for {iter : Expr} {body : List Stmt} {wi : TI} {g : TG} {tb : TS} {pos : Pos} (hp : PassesOwn (model X.prog X.w) X.A X.env X.xe) (hc : X.calm = true) (hi : PI X tg iter wi) (hg : PG X tg g) (hb : PSs X body tb)
    (hs : ∀ x, foldedSetIterable iter X.env x = pure x := by intro _; rfl) : PS X (.For tg iter body [] pos) (tFor wi g tb) := by
  intro pins s σ H D I h
  refine wpAny_For (thn (hi pins s σ H _ I h) fun v s1 h1 => thn h1 fun itv s2 h2 => ?_) hs
  obtain ⟨it, fp, tn, J, H2, e, I2, T, st2, f2, W, ⟨m0, w0⟩, turn⟩ := h2
  subst e
  -- what stays true of the iterator's objects through the loop
  have stat : ∀ {H' : Hp}, (∀ b ∈ fp, H' b = none) → ∀ b ∈ fp, FpOk X pins H' b := fun hn b hb => ⟨hn b hb, (f2 b hb).2⟩
  refine codeAny_forLoop_any (fun n s' => ∃ i σ' H', Inv X pins σ' H' s' ∧ tn i s'.heap ∧ (∀ b ∈ fp, H' b = none) ∧ W i n σ' H') ?_ m0 ⟨0, σ, H2, I2, st2, fun b hb => (f2 b hb).1, w0⟩
  rintro n s3 ⟨i, σ3, H3, I3, st3, fr3, w3⟩
  rcases turn i n σ3 H3 w3 with ⟨stop, qn⟩ | ⟨go, N, hN, step⟩
  · refine wpAny_passesOwn hp (thn (T.done X rfl rfl rfl hc i pins s3 σ3 H3 X.xe I3 (stat fr3) st3 stop) fun r s4 ⟨hr, I4⟩ => ?_)
    subst hr
    exact wpAny_execs_nil ⟨σ3, H3, I4, qn⟩
  · refine wpAny_passesOwn hp (thn (T.item X rfl rfl rfl hc i pins s3 σ3 H3 X.xe I3 (stat fr3) st3 go) fun r s4 ⟨u, hr, h4⟩ => ?_)
    subst hr
    refine wpAny_passesOwn hp (thn h4 fun _ s5 ⟨x, H5, I5, r5, y5, st5, fr5⟩ => ?_)
    have I5' := I5.pinned (stat fr5) (T.obj _ _ st5)
    refine wpAny_passesOwn hp (thn (hg _ s5 σ3 H5 x u _ I5' r5 (step x H5 y5)) fun _ s6 ⟨σ6, H6, I6, q6⟩ => ?_)
    refine wpAny_passesOwn hp (thn (hb _ s6 σ6 H6 _ I6 q6) fun f s7 q7 => ?_)
    have again : ∀ {σ7 : St} {H7 : Hp}, Inv X (pins ++ pinsAt fp s5.heap) σ7 H7 s7 → N σ7 H7 → ∃ m, m < n ∧ ∃ i σ' H', Inv X pins σ' H' s7 ∧ tn i s7.heap ∧ (∀ b ∈ fp, H' b = none) ∧ W i m σ' H' := fun {σ7 H7} I7 n7 => by
      obtain ⟨m', hm, w7⟩ := hN σ7 H7 n7
      refine ⟨m', hm, i + 1, σ7, H7, I7.unpinned, T.keep _ _ _ st5 fun b hb o e => (I7.pin (b, o) (List.mem_append_right _ (List.mem_append_right _ (mem_pinsAt hb e)))).1, fun b hb => ?_, w7⟩
      obtain ⟨o, e, d⟩ := T.obj _ _ st5 b hb
      exact (I7.pin (b, o) (List.mem_append_right _ (List.mem_append_right _ (mem_pinsAt hb e)))).2.1
    cases f with
    | next => obtain ⟨σ7, H7, I7, n7⟩ := q7; exact again I7 n7
    | cont => obtain ⟨σ7, H7, I7, n7⟩ := q7; exact again I7 n7
    | brk => obtain ⟨σ7, H7, I7, q7⟩ := q7; exact ⟨σ7, H7, I7.unpinned, q7⟩
    | ret v => obtain ⟨x7, σ7, H7, I7, r7, q7⟩ := q7; exact ⟨x7, σ7, H7, I7.unpinned, r7, q7⟩
end
end L2
namespace L2
open PySem PySem.Spec PyProof.Rows
abbrev R2 := V → V → Hp → VK → Prop
def OpR (X : Cx) (f : Value → Value → Sem Value) (r : R2) : Prop :=
  ∀ (pins : List (Addr × Obj)) (s : Shared) (σ : St) (H : Hp) (x y : V) (v u : Value) (Q : VK), Inv X pins σ H s → RelV x v → RelV y u → r x y H Q →
    wpAny (model X.prog X.w) X.A (f v u) (EP X pins σ Q) X.xe s
def UnR (X : Cx) (f : Value → Sem Value) (r : V → Hp → VK → Prop) : Prop :=
  ∀ (pins : List (Addr × Obj)) (s : Shared) (σ : St) (H : Hp) (x : V) (v : Value) (Q : VK), Inv X pins σ H s → RelV x v → r x H Q →
    wpAny (model X.prog X.w) X.A (f v) (EP X pins σ Q) X.xe s
def CallR (X : Cx) (f : Value) (r : List V → Hp → VK → Prop) : Prop :=
  ∀ (pins : List (Addr × Obj)) (s : Shared) (σ : St) (H : Hp) (xs : List V) (us : List Value) (Q : VK), Inv X pins σ H s → Vals xs us → r xs H Q →
    wpAny (model X.prog X.w) X.A (call f us) (EP X pins σ Q) X.xe s
def TruR (X : Cx) (r : V → Hp → (Bool → Hp → Prop) → Prop) : Prop :=
  ∀ (pins : List (Addr × Obj)) (s : Shared) (σ : St) (H : Hp) (x : V) (v : Value) (Q : Bool → Hp → Prop), Inv X pins σ H s → RelV x v → r x H Q →
    wpAny (model X.prog X.w) X.A (truthy v) (TP X pins σ Q) X.xe s
def tOp (r : R2) (ta tb : TE) : TE := fun σ H Q => ta σ H fun x H1 => tb σ H1 fun y H2 => r x y H2 Q
def rI (C : Int → Int → Prop) (g : Int → Int → V) : R2 := fun x y H Q => ∃ i j, x = .int i ∧ y = .int j ∧ C i j ∧ Q (g i j) H
def rI0 (g : Int → Int → V) : R2 := fun x y H Q => ∃ i j, x = .int i ∧ y = .int j ∧ Q (g i j) H
section
variable {X : Cx} {a b c : Expr} {ta tb tc : TE} {pos : Pos}
theorem binT (ha : PE X a ta) (hb : PE X b tb) {pins : List (Addr × Obj)} {s : Shared} {σ : St} {H : Hp} {R : V → V → Hp → Prop} (I : Inv X pins σ H s)
    (h : ta σ H fun x H1 => tb σ H1 fun y H2 => R x y H2) {Q : Value → Shared → Prop} {f : Value → Value → Sem Value}
    (hf : ∀ v u s2 x y H2, Inv X pins σ H2 s2 → RelV x v → RelV y u → R x y H2 → wpAny (model X.prog X.w) X.A (f v u) Q X.xe s2) :
    wpAny (model X.prog X.w) X.A (eval a X.env) (fun v s₁ => wpAny (model X.prog X.w) X.A (eval b X.env) (fun u s₂ => wpAny (model X.prog X.w) X.A (f v u) Q X.xe s₂) X.xe s₁) X.xe s := by
  refine thn (ha pins s σ H _ I h) fun v s1 ⟨x, H1, I1, r1, q1⟩ => ?_
  refine thn (hb pins s1 σ H1 _ I1 q1) fun u s2 ⟨y, H2, I2, r2, q2⟩ => ?_
  exact hf v u s2 x y H2 I2 r1 r2 q2
theorem pe_op {op : Operator} {r : R2} (ho : OpR X (binaryOp op) r) (ha : PE X a ta) (hb : PE X b tb) : PE X (.BinOp a op b pos) (tOp r ta tb) := by
  intro pins s σ H Q I h
  exact wpAny_BinOp (binT ha hb I h fun v u s2 x y H2 I2 rx ry q => ho pins s2 σ H2 x y v u Q I2 rx ry q)
theorem opI {f : Value → Value → Sem Value} {C : Int → Int → Prop} {g : Int → Int → Int}
    (rule : ∀ (i j : Int) (t u : Tok) (s : Shared) (Q : Value → Shared → Prop) (E : Value → Shared → Prop), C i j → Q (.int (g i j) s.toks) { s with toks := s.toks + 1 } → wpAny (model X.prog X.w) X.A (f (.int i t) (.int j u)) Q E s) :
    OpR X f (rI C fun i j => .int (g i j)) := by
  intro pins s σ H x y v u Q I rx ry h
  obtain ⟨i, j, rfl, rfl, hc, q⟩ := h
  obtain ⟨t, rfl⟩ := rx
  obtain ⟨t', rfl⟩ := ry
  exact rule i j t t' s _ _ hc ⟨.int (g i j), H, I.tok _, ⟨_, rfl⟩, q⟩
theorem opI0 {f : Value → Value → Sem Value} {g : Int → Int → Int}
    (rule : ∀ (i j : Int) (t u : Tok) (s : Shared) (Q : Value → Shared → Prop) (E : Value → Shared → Prop), Q (.int (g i j) s.toks) { s with toks := s.toks + 1 } → wpAny (model X.prog X.w) X.A (f (.int i t) (.int j u)) Q E s) :
    OpR X f (rI0 fun i j => .int (g i j)) := by
  intro pins s σ H x y v u Q I rx ry h
  obtain ⟨i, j, rfl, rfl, q⟩ := h
  obtain ⟨t, rfl⟩ := rx
  obtain ⟨t', rfl⟩ := ry
  exact rule i j t t' s _ _ ⟨.int (g i j), H, I.tok _, ⟨_, rfl⟩, q⟩
theorem opB0 {f : Value → Value → Sem Value} {g : Int → Int → Bool}
    (rule : ∀ (i j : Int) (t u : Tok) (s : Shared) (Q : Value → Shared → Prop) (E : Value → Shared → Prop), Q (.bool (g i j)) s → wpAny (model X.prog X.w) X.A (f (.int i t) (.int j u)) Q E s) :
    OpR X f (rI0 fun i j => .bl (g i j)) := by
  intro pins s σ H x y v u Q I rx ry h
  obtain ⟨i, j, rfl, rfl, q⟩ := h
  obtain ⟨t, rfl⟩ := rx
  obtain ⟨t', rfl⟩ := ry
  exact rule i j t t' s _ _ ⟨.bl (g i j), H, I, rfl, q⟩
def CPow (i j : Int) : Prop := 0 ≤ j ∧ j ≤ 1000000 ∧ i.natAbs < 2 ^ 64
def CMul (i j : Int) : Prop := (-(2 ^ 64) < i ∧ i < 2 ^ 64) ∨ (-(2 ^ 64) < j ∧ j < 2 ^ 64)
theorem CMul.ok {i j : Int} (h : CMul i j) : IntMulOk i j := by
  rcases h with ⟨h1, h2⟩ | ⟨h1, h2⟩
  · exact .of_left (intBits_le_64 h1 h2)
  · exact .of_right (intBits_le_64 h1 h2)
theorem op_add : OpR X (binaryOp .Add) (rI0 fun i j => .int (i + j)) := opI0 fun _ _ _ _ _ _ _ q => add_int q
theorem op_sub : OpR X (binaryOp .Sub) (rI0 fun i j => .int (i - j)) := opI0 fun _ _ _ _ _ _ _ q => sub_int q
theorem op_mul : OpR X (binaryOp .Mult) (rI CMul fun i j => .int (i * j)) := opI fun _ _ _ _ _ _ _ hc q => mul_int q hc.ok
theorem op_mod : OpR X (binaryOp .Mod) (rI (fun _ j => 0 < j) fun i j => .int (i % j)) := opI fun i j _ _ _ _ _ hc q => by
  have h1 : (0 : Int) < j := hc
  exact mod_int' (by omega) (by rw [Int.fmod_eq_emod_of_nonneg i (by omega)]; exact q)
end
section
variable {X : Cx} {a b c : Expr} {ta tb tc : TE} {pos : Pos}
theorem fin_bl {pins : List (Addr × Obj)} {σ : St} {H : Hp} {s : Shared} {Q : VK} {k k' : Bool} (I : Inv X pins σ H s) (q : Q (.bl k) H) (e : k = k') : EP X pins σ Q (.bool k') s := by
  subst e
  exact ⟨.bl k, H, I, rfl, q⟩
theorem op_le : OpR X (compareOp .LtE) (rI0 fun i j => .bl (decide (i ≤ j))) := opB0 fun _ _ _ _ _ _ _ q => le_int q
theorem op_in_str : OpR X (compareOp .In) (fun x y H Q => ∃ i j, x = .str i ∧ y = .str j ∧ Q (.bl (!(Builtin.Str.occurrences j i 0 j.length 1).isEmpty)) H) := by
  intro pins s σ H x y v u Q I rx ry h
  obtain ⟨i, j, rfl, rfl, q⟩ := h
  obtain ⟨t, rfl⟩ := rx
  obtain ⟨t', rfl⟩ := ry
  exact in_str (fin_bl I q rfl)
theorem op_notN : OpR X (compareOp .IsNot) (fun x y H Q => y = .non ∧ Q (.bl (!decide (x = .non))) H) := by
  intro pins s σ H x y v u Q I rx ry h
  obtain ⟨rfl, q⟩ := h
  cases ry
  refine isnot_none_gen (fin_bl I q ?_)
  cases x <;> first
    | (cases rx; rfl)
    | (obtain ⟨t, rfl⟩ := rx; rfl)
theorem OpR.or {f : Value → Value → Sem Value} {r r' : R2} (h : OpR X f r) (h' : OpR X f r') : OpR X f (fun x y H Q => r x y H Q ∨ r' x y H Q) := by
  intro pins s σ H x y v u Q I rx ry q
  rcases q with q | q
  · exact h pins s σ H x y v u Q I rx ry q
  · exact h' pins s σ H x y v u Q I rx ry q
theorem pe_cmpR {op : CmpOp} {r : R2} (ho : OpR X (compareOp op) r) (ha : PE X a ta) (hb : PE X b tb) (hm : behindInMarks op b = false) : PE X (.Compare a [op] [b] pos) (tOp r ta tb) := by
  intro pins s σ H Q I h
  exact wpAny_Compare1 (binT ha hb I h fun v u s2 x y H2 I2 rx ry q => ho pins s2 σ H2 x y v u Q I2 rx ry q) hm
def tTest (t : TE) : TT := fun σ H Q => t σ H fun x H' => ∃ k, x = .bl k ∧ Q k H'
theorem pt_cmpR {op : CmpOp} {r : R2} (ho : OpR X (compareOp op) r) (ha : PE X a ta) (hb : PE X b tb) (hm : behindInMarks op b = false) : PT X (.Compare a [op] [b] pos) (tTest (tOp r ta tb)) := by
  intro pins s σ H Q I h
  refine wpAny_isTrue_Compare1 (thn (ha pins s σ H _ I h) fun v s1 ⟨x, H1, I1, r1, q1⟩ => thn (hb pins s1 σ H1 _ I1 q1) fun u s2 ⟨y, H2, I2, r2, q2⟩ =>
    thn (ho pins s2 σ H2 x y v u _ I2 r1 r2 q2) fun c s3 ⟨z, H3, I3, r3, k, e, q3⟩ => ?_) hm
  subst e
  cases r3
  exact wpAny_truthy_bool ⟨H3, I3, q3⟩
def tChain (r r' : R2) (ta tb tc : TE) : TE := fun σ H Q => ta σ H fun x H1 => tb σ H1 fun y H2 => r x y H2 fun z H3 => ∃ k, z = .bl k ∧
  (if k = true then tc σ H3 fun w' H4 => r' y w' H4 Q else Q (.bl false) H3)
theorem pe_chain {op op' : CmpOp} {r r' : R2} (ho : OpR X (compareOp op) r) (ho' : OpR X (compareOp op') r') (ha : PE X a ta) (hb : PE X b tb) (hc : PE X c tc)
    (hm : lastMarks [op, op'] [b, c] = false := by with_unfolding_all rfl) : PE X (.Compare a [op, op'] [b, c] pos) (tChain r r' ta tb tc) := by
  intro pins s σ H Q I h
  refine Compare_chain (thn (ha pins s σ H _ I h) fun v s1 ⟨x, H1, I1, r1, q1⟩ => chain_link (thn (hb pins s1 σ H1 _ I1 q1) fun u s2 ⟨y, H2, I2, r2, q2⟩ =>
    thn (ho pins s2 σ H2 x y v u _ I2 r1 r2 q2) fun d s3 ⟨z, H3, I3, r3, k, e, q3⟩ => ?_)) hm
  subst e
  cases r3
  refine wpAny_truthy_bool ?_
  cases k with
  | false => exact ite_ff ⟨.bl false, H3, I3, rfl, q3⟩
  | true => exact ite_tt (chain_last (thn (hc pins s3 σ H3 _ I3 q3) fun w' s4 ⟨z', H4, I4, r4, q4⟩ => ho' pins s4 σ H4 y z' u w' Q I4 r2 r4 q4))
def TruV (K : PySem.W.Frag) (x : V) (H : Hp) (k : Bool) : Prop :=
  match x with
  | .non => k = false
  | .bl b => k = b
  | .int i => k = (i != 0)
  | .str y => y.length ≤ sizeLine ∧ k = ((y.length : Int) != 0)
  | .byt y => y.size ≤ sizeLine ∧ k = ((y.size : Int) != 0)
  | .ref p => (∃ xs, SqL K H p xs ∧ k = !xs.isEmpty) ∨ (∃ xs, SqT K H p xs ∧ k = !xs.isEmpty) ∨ ∃ kvs, H p = some (.dK kvs) ∧ k = !kvs.isEmpty
  | _ => False
theorem isEmpty_kv {κ : Type} {kvs : List (κ × V)} {vs : List (κ × Value)} (r : KV kvs vs) : (!vs.isEmpty) = !kvs.isEmpty := by
  cases r <;> rfl
theorem isEmpty_of {xs : List V} {its : List Value} (r : Vals xs its) : (!its.toArray.isEmpty) = !xs.isEmpty := by
  cases r <;> simp
theorem line63 : (sizeLine : Nat) < 2 ^ 63 := by rw [sizeLine_eq]; decide
theorem tru_ok : TruR X (fun x H Q => ∃ k, TruV X.K x H k ∧ Q k H) := by
  intro pins s σ H x v Q I rx h
  obtain ⟨k, e, q⟩ := h
  have hl := line63
  have hs : sizeLine = 16777216 := sizeLine_eq
  cases x with
  | non =>
    cases rx
    have e' : k = false := e
    subst e'
    exact truthy_none ⟨H, I, q⟩
  | bl b =>
    cases rx
    have e' : k = b := e
    subst e'
    exact wpAny_truthy_bool ⟨H, I, q⟩
  | int i =>
    obtain ⟨t, rfl⟩ := rx
    have e' : k = (i != 0) := e
    subst e'
    exact PySem.P.truthy_int ⟨H, I, q⟩
  | str y =>
    obtain ⟨t, rfl⟩ := rx
    obtain ⟨hy, e'⟩ : y.length ≤ sizeLine ∧ k = ((y.length : Int) != 0) := e
    subst e'
    exact PySem.P.truthy_str (by omega) ⟨H, I.tok _, q⟩
  | byt y =>
    obtain ⟨t, rfl⟩ := rx
    obtain ⟨hy, e'⟩ : y.size ≤ sizeLine ∧ k = ((y.size : Int) != 0) := e
    subst e'
    exact PySem.W.truthy_bytes (by omega) ⟨H, I.tok _, q⟩
  | ref p =>
    cases rx
    have e' : (∃ xs, SqL X.K H p xs ∧ k = !xs.isEmpty) ∨ (∃ xs, SqT X.K H p xs ∧ k = !xs.isEmpty) ∨ ∃ kvs, H p = some (.dK kvs) ∧ k = !kvs.isEmpty := e
    rcases e' with ⟨xs, hx, e'⟩ | ⟨xs, hx, e'⟩ | ⟨kvs, hx, e'⟩
    · subst e'
      obtain ⟨its, r, pl, hz⟩ := I.list hx
      have hlen := r.length
      exact wpAny_truthy_list pl.isList (by simp only [List.size_toArray]; omega) ⟨H, I.tok _, by rw [isEmpty_of r]; exact q⟩
    · subst e'
      obtain ⟨its, r, pl, hz⟩ := I.tuple hx
      have hlen := r.length
      exact truthy_tuple pl (by simp only [List.size_toArray]; omega) ⟨H, I.tok _, by rw [isEmpty_of r]; exact q⟩
    · subst e'
      obtain ⟨hz, hS, vs, r, m⟩ : kvs.length ≤ sizeLine ∧ (p == sysModules) = false ∧ ∃ vs, KV kvs vs ∧ s.heap.DictOf (mixKind X.prog X.w) p vs := I.hok p _ hx
      have hlen : kvs.length = vs.length := Paired.length r
      exact wpAny_truthy_dict hS m (by omega) ⟨H, I.tok _, by rw [isEmpty_kv r]; exact q⟩
  | _ => exact (show False from e).elim
theorem pt_truth (ha : PE X a ta) (he : ∀ whole, isTrue a X.env whole = (do let v ← whole; standAt a.pos; holding [v] (truthy v))) :
    PT X a (fun σ H Q => ta σ H fun x H' => ∃ k, TruV X.K x H' k ∧ Q k H') := by
  intro pins s σ H Q I h
  exact isTrue_plain (thn (ha pins s σ H _ I h) fun v s1 ⟨x, H1, I1, r1, q1⟩ => tru_ok pins s1 σ H1 x v Q I1 r1 q1) (he _)
theorem op_add_str : OpR X (binaryOp .Add) (fun x y H Q => ∃ i j, x = .str i ∧ y = .str j ∧ i.length + j.length ≤ sizeLine ∧ Q (.str (i ++ j)) H) := by
  intro pins s σ H x y v u Q I rx ry h
  obtain ⟨i, j, rfl, rfl, hz, q⟩ := h
  obtain ⟨t, rfl⟩ := rx
  obtain ⟨t', rfl⟩ := ry
  exact add_str (fun t' tk => ⟨.str (i ++ j), H, I.tok _, ⟨_, rfl⟩, q⟩) hz
theorem vals1 {x : V} {us : List Value} (r : Vals [x] us) : ∃ u, us = [u] ∧ RelV x u := by
  cases r with
  | cons r1 r2 => cases r2; exact ⟨_, rfl, r1⟩
theorem vals2 {x y : V} {us : List Value} (r : Vals [x, y] us) : ∃ u w', us = [u, w'] ∧ RelV x u ∧ RelV y w' := by
  cases r with
  | cons r1 r2 =>
    cases r2 with
    | cons r3 r4 => cases r4; exact ⟨_, _, rfl, r1, r3⟩
theorem call_int1 : CallR X (.type "int") (fun xs H Q => (∃ i, xs = [.int i] ∧ Q (.int i) H) ∨ ∃ k, xs = [.bl k] ∧ Q (.int (if k then 1 else 0)) H) := by
  intro pins s σ H xs us Q I r h
  rcases h with ⟨i, rfl, q⟩ | ⟨k, rfl, q⟩
  · obtain ⟨u, rfl, t, rfl⟩ := vals1 r
    exact call_int_int ⟨.int i, H, I, ⟨_, rfl⟩, q⟩
  · obtain ⟨u, rfl, r1⟩ := vals1 r
    cases r1
    exact call_int_bool ⟨.int (if k then 1 else 0), H, I.tok _, ⟨_, rfl⟩, q⟩
end
end L2
namespace L2
open PySem PySem.Spec PyProof.Rows
structure ObjM (h : Heap) (x dx C : Addr) (mA : Str → Option Value) : Prop where
  obj : h.get? x = some (PySem.W.instObj C dx)
  ns : h.Ns1 dx mA
  ne : dx ≠ x
section
variable {prog : Program} {w : World} {A : Around} {E : Value → Shared → Prop} {s : Shared} {K : PySem.W.Frag} {x dx C f : Addr} {mA : Str → Option Value} {name : Str} {v : Value}
end
theorem RelO.some_of {v : V} {o : Option Value} (r : RelO (some v) o) : ∃ u, o = some u ∧ RelV v u := by
  cases o with
  | none => exact (show False from r).elim
  | some u => exact ⟨u, rfl, r⟩
section
variable {P : Program} {w : World} {H H' : Hp} {h h' : Heap} {a C dx : Addr} {fs fs' : List (Str × V)}
end
structure Cls (K : PySem.W.Frag) (C : Addr) : Prop where
  pg : PySem.W.plainGet K C Str.empty = true
  hd : PySem.W.hasDictIn K C = true
  po : PySem.W.plainOver K C = true
  sa : PySem.W.findIn K (.ref C) "__setattr__" = some (some (.builtin "object.__setattr__"))
theorem Cls.get {K : PySem.W.Frag} {C : Addr} (c : Cls K C) (f : Str) : PySem.W.plainGet K C f = true := c.pg
structure Con (K : PySem.W.Frag) (C : Addr) (f : Str) (v : V) (u : Value) : Prop where
  at_ : PySem.W.findIn K (.ref C) f = some (some u)
  rel : RelV v u
  get : PySem.W.specialIn K u "__get__" = some none
  cp : PySem.W.copiedNames.contains f = false
structure Meth (K : PySem.W.Frag) (C : Addr) (m : Str) (f : Addr) : Prop where
  at_ : PySem.W.findIn K (.ref C) m = some (some (.ref f))
  fn : PySem.W.isFn K (.ref f) = true
  kp : PySem.W.keepIn K (.ref f) = true
section
variable {X : Cx} {pins : List (Addr × Obj)} {σ : St} {H : Hp} {s : Shared} {a C dx : Addr} {fs : List (Str × V)} {f : Str} {v : V} {A : Around} {E : Value → Shared → Prop}
end
section
variable {X : Cx} {o e value : Expr} {f : Str} {pos pos' tpos : Pos} {ta tv : TE}
end
section
variable {X : Cx} {pins : List (Addr × Obj)} {σ : St} {H : Hp} {s : Shared} {A : Around} {E : Value → Shared → Prop} {Q : Value → Shared → Prop} {c : Value} {b : Bool}
inductive TyOf (K : PySem.W.Frag) (H : Hp) : V → Value → Prop where
  | non : TyOf K H .non (.type "NoneType")
  | bl (x : Bool) : TyOf K H (.bl x) (.type "bool")
  | int (i : Int) : TyOf K H (.int i) (.type "int")
  | str (x : Str) : TyOf K H (.str x) (.type "str")
  | flt (x : UInt64) : TyOf K H (.flt x) (.type "float")
  | lst {a : Addr} {xs : List V} (e : H a = some (.lst xs)) : TyOf K H (.ref a) (.type "list")
  | frz {a : Addr} {o : Obj} {xs : List V} (e : H a = some (.frz o (.lst xs))) : TyOf K H (.ref a) (.type "list")
  | tup {a : Addr} {xs : List V} (e : H a = some (.tup xs)) : TyOf K H (.ref a) (.type "tuple")
  | dK {a : Addr} {kvs : List (Key × V)} (e : H a = some (.dK kvs)) : TyOf K H (.ref a) (.type "dict")
  | dT {a : Addr} {kvs : List (List Key × V)} (e : H a = some (.dT kvs)) : TyOf K H (.ref a) (.type "dict")
  | ins {a C dx : Addr} {fs : List (Str × V)} (e : H a = some (.ins C dx fs)) (cl : Cls K C) (ha : PySem.W.findIn K (.ref C) "__class__" = some (some (.builtin "object.__class__")))
      (hn : PySem.W.specialIn K (.builtin "object.__class__") "__get__" = some (some (.builtin "getset_descriptor.__get__"))) (htk : PySem.W.takesIn K (.builtin "object.__class__") = some true)
      (hm : PySem.W.mroIn K C (.type "object") = some true) : TyOf K H (.ref a) (.ref C)
end
end L2
namespace L2
open PySem PySem.Spec PyProof.Rows
structure Room (k : Nat) (A : Around) : Prop where
  hd : A.handled = none
  dp : A.depth + 3 * k + 5 < recursionLimit
  un : A.units + 16 * k + 200 < cLine
theorem Room.mono {j k : Nat} {A : Around} (r : Room k A) (h : j ≤ k) : Room j A := ⟨r.hd, by have := r.dp; omega, by have := r.un; omega⟩
theorem Room.deeper {k : Nat} {A : Around} (r : Room (k + 1) A) (env : Env) : Room k (A.deeper env) :=
  ⟨r.hd, by have := r.dp; show A.depth + 1 + 3 * k + 5 < _; omega, by have := r.un; show A.units + 3 + 16 * k + 200 < _; omega⟩
theorem Room.in1 {k : Nat} {A : Around} (r : Room (k + 1) A) : Room k A.in1 :=
  ⟨r.hd, by have := r.dp; show A.depth + 3 * k + 5 < _; omega, by have := r.un; show A.units + 1 + 16 * k + 200 < _; omega⟩
theorem Room.depth {k : Nat} {A : Around} (r : Room k A) : A.depth < recursionLimit := by have := r.dp; omega
theorem Room.units {k : Nat} {A : Around} (r : Room k A) : A.units + 64 < cLine := by have := r.un; omega
def tNil : TA := fun _ H Q => Q [] H
def tCons (ta : TE) (tr : TA) : TA := fun σ H Q => ta σ H fun x H1 => tr σ H1 fun xs H2 => Q (x :: xs) H2
section
variable {X : Cx} {e : Expr} {es : List Expr} {te : TE} {t : TA} {pos : Pos}
theorem pa_nil : PA X [] tNil := fun _ _ _ _ H Q I h => Calls.spliced_nil ⟨[], H, I, .nil, h⟩
theorem pa_cons (ha : PE X e te) (hr : PA X es t) (hs : starEach (e :: es) X.env = (false, eval e X.env) :: starEach es X.env := by rfl) : PA X (e :: es) (tCons te t) := by
  intro pos pins s σ H Q I h
  rw [hs]
  show wpAny _ _ (spliced ((false, eval e X.env) :: backTo pos (starEach es X.env))) _ _ s
  refine Calls.spliced_cons (thn (ha pins s σ H _ I h) fun u s1 ⟨x, H1, I1, r1, q1⟩ => ?_)
  exact thn (hr pos pins s1 σ H1 _ I1 q1) fun us s2 ⟨xs, H2, I2, r2, q2⟩ => ⟨x :: xs, H2, I2, .cons r1 r2, q2⟩
def tTup (t : TA) : TE := fun σ H Q => t σ H fun xs H1 => xs.length ≤ sizeLine ∧ ∀ p, H1 p = none → Q (.ref p) (upd H1 p (.tup xs))
def tLst (t : TA) : TE := fun σ H Q => t σ H fun xs H1 => xs.length ≤ sizeLine ∧ ∀ p, H1 p = none → Q (.ref p) (upd H1 p (.lst xs))
theorem pe_tup {x1} (h : PA X es t) : PE X (.Tuple es x1 pos) (tTup t) := by
  intro pins s σ H Q I hq
  refine wpAny_Tuple_spliced (thn (h pos pins s σ H _ I hq) fun us s1 ⟨xs, H1, I1, r, z, q⟩ => ⟨by rw [← r.length]; exact z, ?_⟩)
  have hf : H1 s1.heap.objs.size = none := I1.hok.fresh (Nat.le_refl _)
  refine ⟨.ref s1.heap.objs.size, upd H1 s1.heap.objs.size (.tup xs), I1.laid (t' := s1.toks) (fun b u e => Heap.get?_push_of_some _ e) (Nat.le_refl _) ?_, rfl, q _ hf⟩
  exact ⟨z, us, r, ⟨_, Heap.get?_push_size _ rfl, rfl, _, rfl⟩⟩
theorem pe_lst (h : PA X es t) : PE X (.List es pos) (tLst t) := by
  intro pins s σ H Q I hq
  refine wpAny_List_spliced (thn (h pos pins s σ H _ I hq) fun us s1 ⟨xs, H1, I1, r, z, q⟩ => ⟨by rw [← r.length]; exact z, ?_⟩)
  have hf : H1 s1.heap.objs.size = none := I1.hok.fresh (Nat.le_refl _)
  refine ⟨.ref s1.heap.objs.size, upd H1 s1.heap.objs.size (.lst xs), I1.laid (t' := s1.toks) (fun b u e => Heap.get?_push_of_some _ e) (Nat.le_refl _) ?_, rfl, q _ hf⟩
  exact ⟨z, us, 0, r, Heap.get?_push_size _ rfl⟩
end
abbrev Sp := List V → Hp → VK → XK → Prop
abbrev CXT := List Env → Hp → Shared → XK → Value → Shared → Prop
structure Env0 (P : Program) (w : World) (K : PySem.W.Frag) (mg : Str → Option Value) (base : Heap) (A : Around) (outer : List Env) (s : Shared) (H : Hp) : Prop where
  frames : A.frames = some outer
  mod : Mod K mg base
  bs : ∀ b o, base.get? b = some o → s.heap.get? b = some o ∧ H b = none
  bsz : base.objs.size ≤ s.heap.objs.size
  funs : s.heap.FunFrames base outer
  frf : ∀ b ∈ frs outer, H b = none
  hok : HOk P w H s.heap
  bare : AllBare s.gens
def CE (outer : List Env) (P : Program) (w : World) (H : Hp) (s : Shared) (Q : VK) (u : Value) (s' : Shared) : Prop :=
  ∃ v H', s'.os = s.os ∧ AllBare s'.gens ∧ Un (frs outer) [] H H' s.heap s'.heap ∧ HOk P w H' s'.heap ∧ RelV v u ∧ Q v H'
def CR (CX : CXT) (outer : List Env) (P : Program) (w : World) (H : Hp) (s : Shared) (Q : VK) (E : XK) (r : Result) (s' : Shared) : Prop :=
  match r with
  | .ok (.ret u) => CE outer P w H s Q u s'
  | .ok _ => False
  | .error e => CX outer H s E e s'
structure FnOk (P : Program) (w : World) (K : PySem.W.Frag) (mg : Str → Option Value) (base : Heap) (CX : CXT) (k : Nat) (f : Addr) (fd : FuncData) (ps : List Str) (sp : Sp) : Prop where
  len : ∀ vs H Q E, sp vs H Q E → vs.length = ps.length
  run : ∀ (A : Around) (outer : List Env) (s : Shared) (H : Hp) (args : Args) (us : List Value) (vs : List V) (Q : VK) (E : XK), Room k A → Env0 P w K mg base A outer s H → BindsTo s fd args (ps.zip us) → Vals vs us → sp vs H Q E →
    codeAny (model P w) A (.call (.ref f) args) (CR CX outer P w H s Q E) s
theorem FnOk.mono {P : Program} {w : World} {K : PySem.W.Frag} {mg : Str → Option Value} {base : Heap} {CX : CXT} {j k : Nat} {f : Addr} {fd : FuncData} {ps : List Str} {sp : Sp} (F : FnOk P w K mg base CX j f fd ps sp) (h : j ≤ k) :
    FnOk P w K mg base CX k f fd ps sp := ⟨F.len, fun A outer s H args us vs Q E hr => F.run A outer s H args us vs Q E (hr.mono h)⟩
theorem FnOk.imp {P : Program} {w : World} {K : PySem.W.Frag} {mg : Str → Option Value} {base : Heap} {CX : CXT} {k : Nat} {f : Addr} {fd : FuncData} {ps : List Str} {sp sp' : Sp} (F : FnOk P w K mg base CX k f fd ps sp)
    (h : ∀ vs H Q E, sp' vs H Q E → sp vs H Q E) : FnOk P w K mg base CX k f fd ps sp' :=
  ⟨fun vs H Q E q => F.len vs H Q E (h _ _ _ _ q), fun A outer s H args us vs Q E hr he hb hv hs => F.run A outer s H args us vs Q E hr he hb hv (h _ _ _ _ hs)⟩
theorem Env0.in1 {P : Program} {w : World} {K : PySem.W.Frag} {mg : Str → Option Value} {base : Heap} {A : Around} {outer : List Env} {s : Shared} {H : Hp} (e : Env0 P w K mg base A outer s H) :
    Env0 P w K mg base A.in1 outer s H := ⟨e.frames, e.mod, e.bs, e.bsz, e.funs, e.frf, e.hok, e.bare⟩
section
variable {X : Cx} {pins : List (Addr × Obj)} {σ : St} {H : Hp} {s s' : Shared}
theorem Inv.env0 (I : Inv X pins σ H s) : Env0 X.prog X.w X.K X.mg X.base X.A X.stack s H :=
  ⟨I.ok.frames, I.ok.mod, I.bs, Nat.le_trans I.ok.bsz I.sz, I.stack, I.stkFree, I.hok, I.bare⟩
theorem Inv.after {Q : VK} {u : Value} (I : Inv X pins σ H s) (h : CE X.stack X.prog X.w H s Q u s') : EP X pins σ Q u s' := by
  obtain ⟨v, H', os, bare, un, hok, r, q⟩ := h
  obtain ⟨hh, g, d, t, os'⟩ := s'
  obtain rfl : os' = s.os := os
  exact ⟨v, H', I.call (h' := hh) (g' := g) (d' := d) (t' := t) (ch := []) un hok bare (fun b z => absurd z (by simp)), r, q⟩
end
def tCall (sp : Sp) (dvs : List V) (E : XK) (t : TA) : TE := fun σ H Q => t σ H fun vs H1 => sp (vs ++ dvs) H1 Q E
def Binds (K : PySem.W.Frag) (fd : FuncData) (ps : List Str) (ds : List Value) : Prop :=
  ∀ (s : Shared) (us : List Value), K.In s.heap → (us ++ ds).length = ps.length → BindsTo s fd ⟨us, []⟩ (ps.zip (us ++ ds))
theorem Binds.all {K : PySem.W.Frag} {fd : FuncData} {ps : List Str} (h : ∀ us : List Value, us.length = ps.length → bindArgs fd ⟨us, []⟩ = pure (ps.zip us)) : Binds K fd ps [] := fun s us _ hl => by
  rw [List.append_nil] at hl ⊢
  exact .of_eq (h us hl)
def Passes (CX : CXT) (X : Cx) (E : XK) : Prop := ∀ (pins : List (Addr × Obj)) (σ : St) (H : Hp) (s : Shared) (e : Value) (s' : Shared), Inv X pins σ H s → CX X.stack H s E e s' → X.xe e s'
section
variable {X : Cx} {CX : CXT} {k : Nat} {f C : Addr} {fd : FuncData} {ps : List Str} {sp : Sp} {dvs : List V} {ds : List Value} {E : XK} {x m : Str} {p pos apos : Pos} {e o : Expr} {es : List Expr} {ta : TE} {t : TA}
theorem run_fn {pins : List (Addr × Obj)} {σ : St} {H : Hp} {s : Shared} {Q : VK} {us : List Value} {vs : List V} (F : FnOk X.prog X.w X.K X.mg X.base CX k f fd ps sp) (hr : Room k X.A) (hb : Binds X.K fd ps ds) (hd : Vals dvs ds) (hx : Passes CX X E)
    (I : Inv X pins σ H s) (r : Vals vs us) (h : sp (vs ++ dvs) H Q E) : wpAny (model X.prog X.w) X.A (call (.ref f) us) (EP X pins σ Q) X.xe s := by
  have r2 : Vals (vs ++ dvs) (us ++ ds) := r.append hd
  have hl : (us ++ ds).length = ps.length := by rw [← r2.length]; exact F.len _ _ _ _ h
  refine wpAny_call (codeAny_mono (F.run X.A X.stack s H ⟨us, []⟩ (us ++ ds) (vs ++ dvs) Q E hr I.env0 (hb s us I.kIn hl) r2 h) fun r s' hq => ?_)
  cases r with
  | error e => exact hx pins σ H s e s' I hq
  | ok fl =>
    cases fl with
    | ret u => exact I.after hq
    | next => exact False.elim hq
    | brk => exact False.elim hq
    | cont => exact False.elim hq
theorem pe_call (F : FnOk X.prog X.w X.K X.mg X.base CX k f fd ps sp) (hr : Room k X.A) (hg : Gl X x) (hm : X.mg x = some (.ref f)) (hk : PySem.W.keepIn X.K (.ref f) = true) (hb : Binds X.K fd ps ds) (hd : Vals dvs ds) (hx : Passes CX X E)
    (ha : PA X (e :: es) t) (hdb : (x == ("__debug__" : Str)) = false := by decide) (he : starEach (e :: es) X.env = (false, eval e X.env) :: starEach es X.env := by rfl) (hpl : (backTo pos (starEach es X.env)).any (·.1) = false := by rfl) :
    PE X (.Call (.Name x p) (e :: es) [] pos) (tCall sp dvs E t) := by
  intro pins s σ H Q I h
  refine wpAny_Call_Name_kw (ld_glob I hg hm ?_ hdb)
  refine PySem.W.callWith_K (h₀ := X.base) I.ok.mod.kin hk (thn (ha pos pins s σ H _ I h) fun us s1 ⟨vs, H1, I1, r, q⟩ => ⟨I1.kIn, ?_⟩) he hpl
  exact run_fn F hr hb hd hx I1 r q
structure Mk (K : PySem.W.Frag) (C f : Addr) : Prop where
  makes : PySem.W.makesIn K C = true
  init : PySem.W.findIn K (.ref C) "__init__" = some (some (.ref f))
  fn : PySem.W.isFn K (.ref f) = true
  kp : PySem.W.keepIn K (.ref C) = true
end
section
variable {X : Cx} {CX : CXT} {k : Nat} {f C : Addr} {fd : FuncData} {ps ks : List Str} {sp : Sp} {E : XK} {x m : Str} {p pos apos kpos : Pos} {e o : Expr} {es : List Expr} {kws : List Keyword} {te ta : TE} {t tk : TA} {nm : Option Str}
structure KBinds (K : PySem.W.Frag) (fd : FuncData) (ps ks : List Str) (g : List Value → List Value → List Value) (gV : List V → List V → List V) : Prop where
  to : ∀ (s : Shared) (us ws : List Value), K.In s.heap → (g us ws).length = ps.length → BindsTo s fd ⟨us, ks.zip ws⟩ (ps.zip (g us ws))
  rel : ∀ {vs : List V} {us : List Value} {zs : List V} {ws : List Value}, Vals vs us → Vals zs ws → Vals (gV vs zs) (g us ws)
variable {g : List Value → List Value → List Value} {gV : List V → List V → List V}
end
structure FnScope (N P : List Str) (sc : Scope) : Prop where
  kind : sc.kind = .function
  co : sc.isCoroutine = false
  gen : sc.isGenerator = false
  nd : N.Nodup
  pre : N.take P.length = P
  par : ∀ x ∈ P, sc.names.lookup x = some .local ∨ sc.names.lookup x = some .cell
  nofree : ∀ y ∈ sc.names, y.2 ≠ .free
theorem bindL_out {kindOf : Str → Option NameKind} {x : Str} : ∀ {binds : List (Str × Value)} {m : Str → Option Value}, (∀ v, (x, v) ∉ binds) → bindL kindOf binds m x = m x
  | [], _, _ => rfl
  | (n, v) :: r, m, h => by
    unfold bindL
    rw [bindL_out fun w hw => h w (List.mem_cons_of_mem _ hw)]
    split
    · have : x ≠ n := by rintro rfl; exact h v List.mem_cons_self
      simp [this]
    · rfl
theorem bindC_out {kindOf : Str → Option NameKind} {x : Str} : ∀ {binds : List (Str × Value)} {m : Str → Option Value}, (∀ v, (x, v) ∉ binds) → bindC kindOf binds m x = m x
  | [], _, _ => rfl
  | (n, v) :: r, m, h => by
    unfold bindC
    rw [bindC_out fun w hw => h w (List.mem_cons_of_mem _ hw)]
    split
    · rfl
    · have : x ≠ n := by rintro rfl; exact h v List.mem_cons_self
      simp [this]
theorem bindL_get {kindOf : Str → Option NameKind} {x : Str} {v : Value} : ∀ {P : List Str} {vs : List Value} {i : Nat} {m : Str → Option Value}, P.Nodup → P[i]? = some x → vs[i]? = some v → kindOf x = some .local →
    bindL kindOf (P.zip vs) m x = some v
  | [], _, _, _, _, h, _, _ => by simp at h
  | _ :: _, [], _, _, _, _, h, _ => by simp at h
  | p :: P, w :: vs, 0, m, nd, h1, h2, hk => by
    simp at h1 h2; subst h1; subst h2
    show bindL kindOf ((p, w) :: P.zip vs) m p = _
    unfold bindL
    rw [bindL_out fun v hv => (List.nodup_cons.mp nd).1 (List.of_mem_zip hv).1, if_pos hk]
    simp
  | p :: P, w :: vs, i + 1, m, nd, h1, h2, hk => by
    show bindL kindOf ((p, w) :: P.zip vs) m x = _
    unfold bindL
    exact bindL_get (i := i) (List.nodup_cons.mp nd).2 (by simpa using h1) (by simpa using h2) hk
theorem bindC_get {kindOf : Str → Option NameKind} {x : Str} {v : Value} : ∀ {P : List Str} {vs : List Value} {i : Nat} {m : Str → Option Value}, P.Nodup → P[i]? = some x → vs[i]? = some v → kindOf x ≠ some .local →
    bindC kindOf (P.zip vs) m x = some v
  | [], _, _, _, _, h, _, _ => by simp at h
  | _ :: _, [], _, _, _, _, h, _ => by simp at h
  | p :: P, w :: vs, 0, m, nd, h1, h2, hk => by
    simp at h1 h2; subst h1; subst h2
    show bindC kindOf ((p, w) :: P.zip vs) m p = _
    unfold bindC
    rw [bindC_out fun v hv => (List.nodup_cons.mp nd).1 (List.of_mem_zip hv).1, if_neg hk]
    simp
  | p :: P, w :: vs, i + 1, m, nd, h1, h2, hk => by
    show bindC kindOf ((p, w) :: P.zip vs) m x = _
    unfold bindC
    exact bindC_get (i := i) (List.nodup_cons.mp nd).2 (by simpa using h1) (by simpa using h2) hk
def start (N : List Str) (vs : List V) : St := vs.map some ++ List.replicate (N.length - vs.length) none
def cxOf (CX : CXT) (P : Program) (w : World) (K : PySem.W.Frag) (mg : Str → Option Value) (base : Heap) (N : List Str) (qual : Str) (scope : Scope) (f : Addr) (cd : Value) (A : Around) (outer : List Env) (s : Shared) (H : Hp) (E : XK) : Cx where
  prog := P
  w := w
  K := K
  mg := mg
  base := base
  A := A.deeper (envOfC qual scope s.heap.objs.size f cd)
  N := N
  s₀ := s
  H₀ := H
  env := envOfC qual scope s.heap.objs.size f cd
  outer := outer
  stack := envOfC qual scope s.heap.objs.size f cd :: outer
  ex := []
  calm := true
  fn := fun _ => true
  pn := []
  xe := fun e s' => wpAny (model P w) (A.deeper (envOfC qual scope s.heap.objs.size f cd)) (leaving (envOfC qual scope s.heap.objs.size f cd) e) (fun _ s'' => CX outer H s E e s'') (fun e' s'' => CX outer H s E e' s'') s'
theorem cell_has {sc : Scope} {n : Nat} {x : Str} (h : sc.names.lookup x = some .cell) : ∃ c, (cellsFrom n sc.names []).lookup x = some c := by
  have q := PySem.W.cellsFrom_some sc.names n [] (.inl h)
  exact Option.isSome_iff_exists.mp q
theorem inv_start {CX : CXT} {P : Program} {w : World} {K : PySem.W.Frag} {mg : Str → Option Value} {base : Heap} {N ps : List Str} {qual : Str} {scope : Scope} {f : Addr} {cd : Value} {A : Around} {outer : List Env} {s s1 : Shared} {H : Hp} {E : XK} {us : List Value} {vs : List V}
    (S : FnScope N ps scope) (hd : A.handled = none) (e0 : Env0 P w K mg base A outer s H) (hl : vs.length = ps.length) (r : Vals vs us)
    (x : InCallC s s.heap.objs.size (bindL (envOfC qual scope s.heap.objs.size f cd).kindOf (ps.zip us) fun _ => none) (cellsFrom (s.heap.objs.size + 1) scope.names []) (bindC (envOfC qual scope s.heap.objs.size f cd).kindOf (ps.zip us) fun _ => none) s1) :
    Inv (cxOf CX P w K mg base N qual scope f cd A outer s H E) [] (start N vs) H s1 := by
  have hpl : ps.length ≤ N.length := by have := congrArg List.length S.pre; rw [List.length_take] at this; omega
  obtain ⟨h1, tk, rfl, hk⟩ := x.done
  have noA : ∀ b : Addr, b ∉ (cxOf CX P w K mg base N qual scope f cd A outer s H E).ex := fun b z => absurd (show b ∈ ([] : List Addr) from z) (by simp)
  refine ⟨⟨e0.mod, S.kind, rfl, rfl, Nat.le_refl _, fun y z c h1 h2 => ?_, fun y hy => ?_, fun y c _ h => ?_, fun _ => hd, Around.frames_deeper e0.frames, .inr ⟨rfl, rfl⟩, fun b z => absurd z (noA b), e0.bs, e0.bsz, fun b _ _ => noA b, fun b z => absurd z (noA b), e0.funs, e0.frf⟩,
    rfl, e0.bare, Un.kept hk, ⟨_, x.toInCall.ns, fun i y v h1 h2 h3 => ?_⟩, fun y c h => ⟨_, x.cell y c h⟩, e0.hok.fresh (Nat.le_refl _), fun y c h => ?_, fun p hp => absurd (show p ∈ ([] : List (Addr × Obj)) from hp) (by simp), e0.hok.kept hk, ?_⟩
  · exact name_of_addr x.apart (PySem.mem_of_lookup h1) (PySem.mem_of_lookup h2)
  · have hy : scope.names.lookup y = some .cell ∨ scope.names.lookup y = some .free := hy
    rcases hy with hy | hy
    · exact cell_has hy
    · exact absurd rfl (S.nofree _ (PySem.mem_of_lookup hy))
  · exact Nat.le_of_lt (x.above y c (PySem.mem_of_lookup h))
  · have hi : i < vs.length := by
      unfold start at h2
      by_cases hi : i < vs.length
      · exact hi
      · rw [List.getElem?_append_right (by simpa using hi)] at h2
        rw [List.getElem?_replicate] at h2
        split at h2 <;> cases h2
    have ha : vs[i]? = some v := by
      unfold start at h2
      rw [List.getElem?_append_left (by simpa using hi), List.getElem?_map] at h2
      cases e : vs[i]? with
      | none => rw [e] at h2; cases h2
      | some a => rw [e] at h2; cases h2; rfl
    obtain ⟨u, hu, rv⟩ := r.get ha
    have hp : ps[i]? = some y := by
      rw [← S.pre, List.getElem?_take_of_lt (by omega)]; exact h1
    have ndP : ps.Nodup := by rw [← S.pre]; exact S.nd.sublist (List.take_sublist _ _)
    refine ⟨u, rv, ?_⟩
    rcases S.par y (List.mem_of_getElem? hp) with k | k
    · exact .inl ⟨k, bindL_get ndP hp hu k⟩
    · obtain ⟨c, e⟩ := cell_has (n := s.heap.objs.size + 1) k
      refine .inr ⟨.inl k, c, e, ?_⟩
      have q := x.cell y c e
      rw [bindC_get ndP hp hu (by show scope.names.lookup y ≠ _; rw [k]; decide)] at q
      exact q
  · exact e0.hok.fresh (Nat.le_of_lt (x.above y c (PySem.mem_of_lookup h)))
  · unfold start
    show _ = N.length
    rw [List.length_append, List.length_map, List.length_replicate]
    omega
theorem fn_of {CX : CXT} {P : Program} {w : World} {K : PySem.W.Frag} {mg : Str → Option Value} {base : Heap} {k : Nat} {f : Addr} {name qual : Str} {params : Arguments} {body : List Stmt} {scope : Scope} {dV kV doc pm cdv ct oc : Value} {an od : Option Addr}
    {osl : Array (Option Value)} {N ps : List Str} {sp : Sp} (lk : K.lookup f = some ⟨oc, od, .func (PySem.W.fnOf name qual params body scope dV kV doc pm an cdv ct), osl⟩) (hcd : PySem.W.codeIn K cdv qual = true) (S : FnScope N ps scope)
    (len : ∀ vs H Q E, sp vs H Q E → vs.length = ps.length)
    (hbody : ∀ (A : Around) (outer : List Env) (s : Shared) (H : Hp) (vs : List V) (Q : VK) (E : XK), Room k (A.deeper (envOfC qual scope s.heap.objs.size f cdv)) → sp vs H Q E →
      ∃ t, PSs (cxOf CX P w K mg base N qual scope f cdv A outer s H E) body t ∧ t { nx := fun _ H' => Q .non H', rt := Q } (start N vs) H) :
    FnOk P w K mg base CX (k + 1) f (PySem.W.fnOf name qual params body scope dV kV doc pm an cdv ct) ps sp := by
  refine ⟨len, fun A outer s H args us vs Q E hr e0 hb r hsp => ?_⟩
  have hl := len _ _ _ _ hsp
  have KX : K.In s.heap := e0.mod.kin.keeps fun b o e => (e0.bs b o e).1
  have lim : s.heap.NoLimit := e0.mod.nolimit.keeps fun b o e => (e0.bs b o e).1
  have hkind : ∀ y ∈ ps.zip us, scope.names.lookup y.1 = some .local ∨ (scope.names.lookup y.1 = some .cell ∧ ((cellsFrom (s.heap.objs.size + 1) scope.names []).lookup y.1).isSome = true) := fun ⟨n, v⟩ hy => by
    rcases S.par n (List.of_mem_zip hy).1 with q | q
    · exact .inl q
    · exact .inr ⟨q, PySem.W.cellsFrom_some _ _ _ (.inl q)⟩
  refine codeAny_call_function hr.depth (KX _ _ lk) rfl S.co S.gen rfl (PySem.W.codeRec_of KX hcd) (hb _ _ _ _ ?_)
  refine wpAny_newFunctionEnv_cells S.kind hkind fun env he s1 x => ?_
  subst he
  refine ⟨lim.keeps x.toInCall.keep, codeAny_func ?_⟩
  obtain ⟨t, ht, hq⟩ := hbody A outer s H vs Q E (hr.deeper _) hsp
  have I : Inv (cxOf CX P w K mg base N qual scope f cdv A outer s H E) [] (start N vs) H s1 := inv_start S hr.hd e0 hl r x
  refine wpAny_mono (ht [] s1 (start N vs) H _ I hq) (fun fl s' hs => ?_) fun e s' hs => hs
  have fin : ∀ {σ' : St} {H' : Hp} {v : V} {u : Value}, Inv (cxOf CX P w K mg base N qual scope f cdv A outer s H E) [] σ' H' s' → RelV v u → Q v H' → CE outer P w H s Q u s' :=
    fun {σ' H' v u} J rv q => ⟨v, H', J.os, J.bare, J.base, J.hok, rv, q⟩
  cases fl with
  | ret u =>
    obtain ⟨v, σ', H', J, rv, q⟩ := hs
    exact fin J rv q
  | next =>
    obtain ⟨σ', H', J, q⟩ := hs
    exact fin (v := V.non) (u := Value.none) J rfl q
  | brk =>
    obtain ⟨_, _, _, q⟩ := hs
    exact False.elim q
  | cont =>
    obtain ⟨_, _, _, q⟩ := hs
    exact False.elim q
end L2
namespace L2
open PySem PySem.Spec PyProof.Rows
section
variable {X : Cx} {x : Str} {p pos : Pos} {e : Expr} {es : List Expr} {t : TA} {id T : String} {r : List V → Hp → VK → Prop}
def tCB (r : List V → Hp → VK → Prop) (t : TA) : TE := fun σ H Q => t σ H fun vs H1 => r vs H1 Q
theorem pe_callB (hc : CallR X (.builtin id) r) (hg : Gl X x) (hm : X.mg x = none) (hv : bootBuiltins x = some (.builtin id)) (ha : PA X (e :: es) t) (hn : x ≠ "__name__" := by decide) (hdb : (x == ("__debug__" : Str)) = false := by decide)
    (he : starEach (e :: es) X.env = (false, eval e X.env) :: starEach es X.env := by rfl) (hpl : (backTo pos (starEach es X.env)).any (·.1) = false := by rfl) : PE X (.Call (.Name x p) (e :: es) [] pos) (tCB r t) := by
  intro pins s σ H Q I h
  refine wpAny_Call_Name_kw (ld_blt I hg hm hv ?_ hn hdb)
  exact PyProof.Rows.callWith_builtin1 (thn (ha pos pins s σ H _ I h) fun us s1 ⟨vs, H1, I1, r1, q1⟩ => hc pins s1 σ H1 vs us Q I1 r1 q1) he hpl
theorem pe_callTy (hc : CallR X (.type T) r) (hg : Gl X x) (hm : X.mg x = none) (hv : bootBuiltins x = some (.type T)) (ha : PA X (e :: es) t) (hn : x ≠ "__name__" := by decide) (hdb : (x == ("__debug__" : Str)) = false := by decide)
    (he : starEach (e :: es) X.env = (false, eval e X.env) :: starEach es X.env := by rfl) (hpl : (backTo pos (starEach es X.env)).any (·.1) = false := by rfl) : PE X (.Call (.Name x p) (e :: es) [] pos) (tCB r t) := by
  intro pins s σ H Q I h
  refine wpAny_Call_Name_kw (ld_blt I hg hm hv ?_ hn hdb)
  exact PyProof.Rows.callWith_type1 (thn (ha pos pins s σ H _ I h) fun us s1 ⟨vs, H1, I1, r1, q1⟩ => hc pins s1 σ H1 vs us Q I1 r1 q1) he hpl
end
end L2
namespace HT
open PySem PyProof.Rows
section
open PySem.SeqAt
open PySem.AutoSeq1 (wpAny_loadPart')
open PySem.MeetsSeq PySem.MeetsSeq2 PySem.MeetsSeq3
end
section
variable {prog : Program} {w : World} {A : Around} {E : Value → Shared → Prop} {s : Shared}
theorem cat_tup {t b : Addr} {vs ws : List Value} {Q : Value → Shared → Prop} (ht : IsTup s.heap t vs.toArray) (hb : IsTup s.heap b ws.toArray) (hv : vs ≠ [])
    (h1 : ws = [] → Q (.ref t) s) (h2 : ws ≠ [] → Q (.ref s.heap.objs.size) { s with heap := s.heap.push { cls := .type "tuple", data := .seq (vs ++ ws).toArray } })
    (hsz : vs.length + ws.length ≤ sizeLine) : wpAny (model prog w) A (binaryOp .Add (.ref t) (.ref b)) Q E s := by
  obtain ⟨⟨cls, dd, data, sl⟩, ho, hc, n, hd⟩ := id ht
  obtain ⟨⟨cls2, dd2, data2, sl2⟩, ho2, hc2, n2, hd2⟩ := id hb
  simp only at hc hd hc2 hd2
  subst hc hd hc2 hd2
  have e : vs.toArray ++ ws.toArray = (vs ++ ws).toArray := by simp
  by_cases hw : ws = []
  · exact concat_meets ⟨_, ho, rfl⟩ ⟨_, ho2, rfl⟩ noFill_tuple_add seq_tuple_add PySem.F.slot_tuple_add PySem.F.entry_tuple_add (PySem.F.args_tuple_add_2 _ _)
      (tuple_addW1 t b vs.toArray ws.toArray n n2 dd dd2 sl sl2 (by simpa using hv) (by simp [hw])) ⟨ho, ho2, h1 hw⟩
  · refine concat_meets ⟨_, ho, rfl⟩ ⟨_, ho2, rfl⟩ noFill_tuple_add seq_tuple_add PySem.F.slot_tuple_add PySem.F.entry_tuple_add (PySem.F.args_tuple_add_2 _ _)
      (tuple_addW2 t b vs.toArray ws.toArray n n2 dd dd2 sl sl2 (by simpa using hv) (by simpa using hw) (by rw [List.size_toArray, List.size_toArray]; exact hsz)) ⟨ho, ho2, ?_⟩
    rw [e]
    exact h2 hw
def sIx (n d : Nat) : Option Int → Nat
  | none => d
  | some v => if v < 0 then (v + (n : Int)).toNat else min v.toNat n
theorem sIx_none (n d : Nat) : sIx n d none = d := rfl
theorem sIx_nat (n d k : Nat) : sIx n d (some (k : Int)) = min k n := by
  show (if (k : Int) < 0 then ((k : Int) + (n : Int)).toNat else min (k : Int).toNat n) = min k n
  rw [if_neg (by omega), Int.toNat_natCast]
theorem sIx_le (n d : Nat) (hd : d ≤ n) (o : Option Int) : sIx n d o ≤ n := by
  cases o with
  | none => exact hd
  | some v =>
    show (if v < 0 then (v + (n : Int)).toNat else min v.toNat n) ≤ n
    by_cases hv : v < 0
    · rw [if_pos hv]; omega
    · rw [if_neg hv]; exact Nat.min_le_right _ _
theorem clip_eq (v : Int) (n d : Nat) : (if v < 0 then max (v + (n : Int)) 0 else min v (n : Int)) = ((sIx n d (some v) : Nat) : Int) := by
  show (if v < 0 then max (v + (n : Int)) 0 else min v (n : Int)) = (((if v < 0 then (v + (n : Int)).toNat else min v.toNat n) : Nat) : Int)
  by_cases hv : v < 0
  · simp only [if_pos hv]; omega
  · simp only [if_neg hv]; omega
theorem adjust_gen (lo hi : Option Int) (n : Nat) : Builtin.Slice.sliceAdjust lo hi 1 (n : Int) = (((sIx n 0 lo : Nat) : Int), ((sIx n n hi : Nat) : Int)) := by
  have h1 : ¬ ((1 : Int) < 0) := by omega
  unfold Builtin.Slice.sliceAdjust
  simp only [h1, if_false]
  refine Prod.ext ?_ ?_
  · cases lo with
    | none => rfl
    | some v => exact clip_eq v n 0
  · cases hi with
    | none => rfl
    | some v => exact clip_eq v n n
theorem places_gen (i j : Nat) : Builtin.Slice.slicePlaces (i : Int) (j : Int) 1 = j - i := by
  unfold Builtin.Slice.slicePlaces
  have h1 : (1 : Int) > 0 := by omega
  simp only [h1, if_true, Int.ediv_one]
  split <;> omega
theorem slicePart_ {v : Value} {o : Option Int} {Q : Option Int → Shared → Prop} (p : IsPart v o) (h : Q o s) : wpAny (model prog w) A (Builtin.Slice.slicePartIndex v) Q E s := by
  cases p with
  | none => exact slicePart_none h
  | int i t => exact slicePart_int h
theorem sliceApplied_gen {sl : Addr} {vl vu : Value} {lo hi : Option Int} {n : Nat} {Q : Int × Int × Nat → Shared → Prop} (hs : s.heap.IsSliceOf sl vl vu .none) (pl : IsPart vl lo) (pu : IsPart vu hi)
    (h : Q (((sIx n 0 lo : Nat) : Int), 1, sIx n n hi - sIx n 0 lo) s) : wpAny (model prog w) A (Builtin.Slice.sliceApplied (.ref sl) (pure (n : Int))) Q E s := by
  obtain ⟨os, hos, hcs, hds⟩ := id hs
  unfold Builtin.Slice.sliceApplied Builtin.Slice.sliceFields
  refine wpAny_bind (wpAny_bind (wpAny_field hos hds (x := vl) rfl (wpAny_bind (wpAny_field hos hds (x := vu) rfl (wpAny_bind (wpAny_field hos hds (x := .none) rfl (wpAny_pure ?_)))))))
  refine wpAny_bind (slicePart_none ?_)
  show wpAny _ _ (if ((1 : Int) == 0) = true then _ else _) _ _ s
  rw [if_neg (by decide)]
  refine wpAny_bind (slicePart_ pl (wpAny_bind (slicePart_ pu (wpAny_bind (wpAny_pure ?_)))))
  show wpAny _ _ (match Builtin.Slice.sliceAdjust lo hi 1 (n : Int) with | (lo, hi) => pure (lo, (1 : Int), Builtin.Slice.slicePlaces lo hi 1)) _ _ s
  rw [adjust_gen lo hi n]
  show wpAny _ _ (pure (((sIx n 0 lo : Nat) : Int), (1 : Int), Builtin.Slice.slicePlaces ((sIx n 0 lo : Nat) : Int) ((sIx n n hi : Nat) : Int) 1)) _ _ s
  rw [places_gen]
  exact wpAny_pure h
theorem pick_gen (xs : Array Value) (i k : Nat) : ((List.range k).filterMap fun (m : Nat) => xs[((i : Int) + (m : Int) * 1).toNat]?).toArray = ((xs.toList.drop i).take k).toArray := by
  have e : (fun (m : Nat) => xs[((i : Int) + (m : Int) * 1).toNat]?) = fun m => xs[i + m]? := by
    funext m
    have : ((i : Int) + (m : Int) * 1).toNat = i + m := by omega
    rw [this]
  rw [e]
  have := pick_run xs i k
  rw [List.filterMap_map] at this
  have e2 : ((fun x => xs[x]?) ∘ fun x => i + x) = fun m => xs[i + m]? := rfl
  rw [e2] at this
  rw [this]
theorem getItem_tuple_cut {t sl : Addr} {items : Array Value} {vl vu : Value} {lo hi : Option Int} {Q : Value → Shared → Prop} (ht : IsTup s.heap t items) (hs : s.heap.IsSliceOf sl vl vu .none) (pl : IsPart vl lo) (pu : IsPart vu hi)
    (hw : ¬ (sIx items.size 0 lo = 0 ∧ sIx items.size items.size hi = items.size))
    (h : Q (.ref s.heap.objs.size) { s with heap := s.heap.push { cls := .type "tuple", data := .seq ((items.toList.drop (sIx items.size 0 lo)).take (sIx items.size items.size hi - sIx items.size 0 lo)).toArray } })
    (hsz : items.size ≤ sizeLine) : wpAny (model prog w) A (getItem (.ref t) (.ref sl)) Q E s := by
  have htake : sizeOk (.seq ((items.toList.drop (sIx items.size 0 lo)).take (sIx items.size items.size hi - sIx items.size 0 lo)).toArray) := by
    show ((items.toList.drop (sIx items.size 0 lo)).take (sIx items.size items.size hi - sIx items.size 0 lo)).toArray.size ≤ sizeLine
    rw [List.size_toArray, List.length_take, List.length_drop, Array.length_toList]
    omega
  have hj : sIx items.size items.size hi ≤ items.size := sIx_le _ _ (Nat.le_refl _) hi
  obtain ⟨os, hos, hcs, hds⟩ := id hs
  have hTs : s.TypeIs (.ref sl) "slice" := ⟨os, hos, hcs⟩
  unfold getItem
  try with_reducible refine wpAny_holding ?_
  first | refine wpAny_bind (wpAny_pure ?_) | skip
  refine wpAny_bind (wpAny_sequenceKey ht.typeIs (by decide) ?_)
  refine wpAny_bind (wpAny_callSpecial?_slot (name := Str.ofString "__getitem__") ht.typeIs PyProof.Rows.slot_tuple_getitem
    (wpAny_call_entry PyProof.Rows.slot_tuple_getitem ht.typeIs entry_tuple_getitem ?_ (args_tuple_getitem _ _)))
  show wpAny _ _ (Builtin.Tuple.tupleItemsOf (.ref t) >>= _) _ _ s
  refine wpAny_bind (tupleItemsOf_ ht ?_)
  refine wpAny_bind (wpAny_typeOf hTs ?_)
  rw [if_pos (by decide)]
  refine wpAny_bind (sliceApplied_gen hs pl pu ?_)
  have hno : ¬ ((((sIx items.size 0 lo : Nat) : Int) == 0 && (1 : Int) == 1 && (sIx items.size items.size hi - sIx items.size 0 lo) == items.size) = true) := by
    intro q
    rw [Bool.and_eq_true, Bool.and_eq_true] at q
    have q1 : ((sIx items.size 0 lo : Nat) : Int) = 0 := eq_of_beq q.1.1
    have q2 : sIx items.size items.size hi - sIx items.size 0 lo = items.size := eq_of_beq q.2
    exact hw ⟨by omega, by omega⟩
  show wpAny _ _ (if (((sIx items.size 0 lo : Nat) : Int) == 0 && (1 : Int) == 1 && (sIx items.size items.size hi - sIx items.size 0 lo) == items.size) = true then _ else _) _ _ s
  rw [if_neg hno, pick_gen]
  first
    | exact wpAny_bind (m := Builtin.Tuple.tupleExact _) (wpAny_newObj_type (wpAny_pure ⟨_, rfl, wpAny_pure h⟩) htake)
    | exact wpAny_bind (m := Builtin.Tuple.tupleExact _) (wpAny_newObj_type (wpAny_bind (wpAny_pure (wpAny_pure ⟨_, rfl, wpAny_pure h⟩))) htake)
    | exact wpAny_bind (wpAny_bind (m := Builtin.Tuple.tupleExact _) (wpAny_newObj_type (wpAny_pure (wpAny_pure ⟨_, rfl, wpAny_pure h⟩)) htake))
    | exact wpAny_bind (wpAny_bind (m := Builtin.Tuple.tupleExact _) (wpAny_newObj_type (wpAny_pure ⟨_, rfl, wpAny_pure h⟩) htake))
end
end HT
namespace L2
open PySem PySem.Spec PyProof.Rows
abbrev TO := St → Hp → (Option Int → Hp → Prop) → Prop
def PO (X : Cx) (e : Option Expr) (t : TO) : Prop :=
  ∀ (pins : List (Addr × Obj)) (s : Shared) (σ : St) (H : Hp) (Q : Option Int → Hp → Prop), Inv X pins σ H s → t σ H Q →
    wpAny (model X.prog X.w) X.A (evalPart e X.env) (fun u s' => ∃ o H', Inv X pins σ H' s' ∧ IsPart u o ∧ Q o H') X.xe s
def tNoPart : TO := fun _ H Q => Q none H
def tPart (t : TE) : TO := fun σ H Q => t σ H fun x H1 => ∃ i, x = .int i ∧ Q (some i) H1
section
variable {X : Cx} {e : Expr} {te : TE} {lo hi : Option Expr} {tl th : TO} {pos p2 : Pos}
theorem po_none : PO X none tNoPart := by
  intro pins s σ H Q I h
  rw [evalPart_none]
  exact wpAny_pure ⟨none, H, I, .none, h⟩
theorem po_some (h : PE X e te) : PO X (some e) (tPart te) := by
  intro pins s σ H Q I hw
  rw [evalPart_some]
  refine thn (h pins s σ H _ I hw) fun u s1 ⟨x, H1, I1, r1, q1⟩ => ?_
  obtain ⟨i, rfl, q⟩ := q1
  obtain ⟨t, rfl⟩ := r1
  exact ⟨some i, H1, I1, .int i t, q⟩
def SlR (X : Cx) (r : V → Option Int → Option Int → Hp → VK → Prop) : Prop :=
  ∀ (pins : List (Addr × Obj)) (s : Shared) (σ : St) (H : Hp) (x : V) (v vl vu : Value) (lo hi : Option Int) (sl : Addr) (Q : VK), Inv X pins σ H s → RelV x v → s.heap.IsSliceOf sl vl vu .none → IsPart vl lo → IsPart vu hi → r x lo hi H Q →
    ∃ T id, typeLookup (.type T) "__getitem__" = pure (some (.builtin id)) ∧ s.TypeIs v T ∧ wpAny (model X.prog X.w) X.A (getItem v (.ref sl)) (EP X pins σ Q) X.xe s
theorem SlR.or {r r' : V → Option Int → Option Int → Hp → VK → Prop} (h : SlR X r) (h' : SlR X r') : SlR X (fun x lo hi H Q => r x lo hi H Q ∨ r' x lo hi H Q) := by
  intro pins s σ H x v vl vu lo hi sl Q I rx hs pl pu q
  rcases q with q | q
  · exact h pins s σ H x v vl vu lo hi sl Q I rx hs pl pu q
  · exact h' pins s σ H x v vl vu lo hi sl Q I rx hs pl pu q
def tSl (r : V → Option Int → Option Int → Hp → VK → Prop) (te : TE) (tl th : TO) : TE := fun σ H Q => te σ H fun x H1 => tl σ H1 fun l H2 => th σ H2 fun u H3 => r x l u H3 Q
theorem pe_slice {r : V → Option Int → Option Int → Hp → VK → Prop} (hr : SlR X r) (he : PE X e te) (hl : PO X lo tl) (hu : PO X hi th) : PE X (.Subscript e (.Slice lo hi none p2) pos) (tSl r te tl th) := by
  intro pins s σ H Q I h
  refine Subscript_ (thn (he pins s σ H _ I h) fun v s1 ⟨x, H1, I1, r1, q1⟩ => ?_)
  refine wpAny_Slice (thn (hl pins s1 σ H1 _ I1 q1) fun vl s2 ⟨l, H2, I2, pl, q2⟩ => thn (hu pins s2 σ H2 _ I2 q2) fun vu s3 ⟨u, H3, I3, pu, q3⟩ => ?_)
  rw [evalPart_none]
  refine wpAny_pure ?_
  have I4 : Inv X pins σ H3 { s3 with heap := s3.heap.push { cls := .type "slice", data := .fields #[vl, vu, .none] } } := I3.kept (t' := s3.toks) fun b ob q => Heap.get?_push_of_some _ q
  obtain ⟨T, id, hT, ht, hg⟩ := hr pins { s3 with heap := s3.heap.push { cls := .type "slice", data := .fields #[vl, vu, .none] } } σ H3 x v vl vu l u s3.heap.objs.size Q I4 r1 (Heap.IsSliceOf.new ..) pl pu q3
  show wpAny (model X.prog X.w) X.A (subscriptTail e (.Slice lo hi none p2) v (.ref s3.heap.objs.size)) (EP X pins σ Q) X.xe { s3 with heap := s3.heap.push { cls := .type "slice", data := .fields #[vl, vu, .none] } }
  exact tail_any (ops := [.ref s3.heap.objs.size, v]) ht hT hg (by with_unfolding_all rfl)
def cutV (xs : List V) (lo hi : Option Int) : List V := (xs.drop (HT.sIx xs.length 0 lo)).take (HT.sIx xs.length xs.length hi - HT.sIx xs.length 0 lo)
theorem cutV_length (xs : List V) (lo hi : Option Int) : (cutV xs lo hi).length ≤ xs.length := by
  unfold cutV
  rw [List.length_take, List.length_drop]
  omega
def rSlT (K : PySem.W.Frag) : V → Option Int → Option Int → Hp → VK → Prop := fun x lo hi H Q => ∃ a xs, x = .ref a ∧ SqT K H a xs ∧
  ¬ (HT.sIx xs.length 0 lo = 0 ∧ HT.sIx xs.length xs.length hi = xs.length) ∧ ∀ p, H p = none → Q (.ref p) (upd H p (.tup (cutV xs lo hi)))
theorem sl_tup : SlR X (rSlT X.K) := by
  intro pins s σ H x v vl vu lo hi sl Q I rx hs pl pu h
  obtain ⟨a, xs, rfl, hx, hw, q⟩ := h
  cases rx
  obtain ⟨its, r, ht, hz⟩ := I.tuple hx
  have hlen : its.toArray.size = xs.length := by rw [List.size_toArray]; exact r.length.symm
  refine ⟨"tuple", _, PyProof.Rows.slot_tuple_getitem.lookup, ht.typeIs, ?_⟩
  refine HT.getItem_tuple_cut ht hs pl pu (by rw [hlen]; exact hw) ?_ (by rw [hlen]; exact hz)
  rw [hlen]
  refine ⟨.ref s.heap.objs.size, _, I.laid (t' := s.toks) (o := .tup (cutV xs lo hi)) (fun b ob q => Heap.get?_push_of_some _ q) (Nat.le_refl _) ?_, rfl, q _ (I.hok.fresh (Nat.le_refl _))⟩
  exact ⟨Nat.le_trans (cutV_length xs lo hi) hz, _, (r.drop (HT.sIx xs.length 0 lo)).take (HT.sIx xs.length xs.length hi - HT.sIx xs.length 0 lo), IsTupN.new _ _⟩
def rCatT (K : PySem.W.Frag) : R2 := fun x y H Q => ∃ a b xs ys, x = .ref a ∧ y = .ref b ∧ SqT K H a xs ∧ SqT K H b ys ∧ xs ≠ [] ∧ xs.length + ys.length ≤ sizeLine ∧
  (ys = [] → Q (.ref a) H) ∧ (ys ≠ [] → ∀ p, H p = none → Q (.ref p) (upd H p (.tup (xs ++ ys))))
theorem Vals.nil_iff {xs : List V} {us : List Value} (r : Vals xs us) : us = [] ↔ xs = [] := by
  cases r with
  | nil => simp
  | cons _ _ => simp
theorem op_catT : OpR X (binaryOp .Add) (rCatT X.K) := by
  intro pins s σ H x y v u Q I rx ry h
  obtain ⟨a, b, xs, ys, rfl, rfl, ha, hb, hx, hz, q1, q2⟩ := h
  cases rx
  cases ry
  obtain ⟨its, r1, p1, _⟩ := I.tuple ha
  obtain ⟨its2, r2, p2, _⟩ := I.tuple hb
  refine HT.cat_tup p1 p2 (fun z => hx (r1.nil_iff.mp z)) (fun z => ⟨.ref a, H, I, rfl, q1 (r2.nil_iff.mp z)⟩) (fun z => ?_) (by rw [← r1.length, ← r2.length]; exact hz)
  refine ⟨.ref s.heap.objs.size, _, I.laid (t' := s.toks) (o := .tup (xs ++ ys)) (fun b ob q => Heap.get?_push_of_some _ q) (Nat.le_refl _) ?_, rfl, q2 (fun w => z (r2.nil_iff.mpr w)) _ (I.hok.fresh (Nat.le_refl _))⟩
  exact ⟨by rw [List.length_append]; exact hz, _, r1.append r2, IsTupN.new _ _⟩
end
end L2
namespace L2
open PySem PySem.Spec PyProof.Rows
def ixN (n : Nat) (i : Int) : Option Nat := if 0 ≤ i then (if i < n then some i.toNat else none) else if -(n : Int) ≤ i then some (i + n).toNat else none
def atI {α : Type} (xs : List α) (i : Int) : Option α := (ixN xs.length i).bind fun j => xs[j]?
theorem ixN_seq {n : Nat} {i : Int} {j : Nat} (h : ixN n i = some j) : seqIndex? i n = some j ∧ j < n ∧ -(n : Int) ≤ i ∧ i < n := by
  unfold ixN at h
  by_cases h0 : 0 ≤ i
  · rw [if_pos h0] at h
    by_cases h1 : i < n
    · rw [if_pos h1] at h
      have e : i.toNat = j := Option.some.inj h
      exact ⟨by rw [seqIndex_of h0 h1, e], by omega, by omega, h1⟩
    · rw [if_neg h1] at h; cases h
  · rw [if_neg h0] at h
    by_cases h1 : -(n : Int) ≤ i
    · rw [if_pos h1] at h
      have e : (i + n).toNat = j := Option.some.inj h
      exact ⟨by rw [seqIndex_neg (by omega) h1, e], by omega, h1, by omega⟩
    · rw [if_neg h1] at h; cases h
theorem atI_get {α : Type} {xs : List α} {i : Int} {v : α} (h : atI xs i = some v) : ∃ j, seqIndex? i xs.length = some j ∧ xs[j]? = some v ∧ j < xs.length ∧ -(xs.length : Int) ≤ i ∧ i < xs.length := by
  unfold atI at h
  cases e : ixN xs.length i with
  | none => rw [e] at h; cases h
  | some j =>
    rw [e] at h
    obtain ⟨h1, h2, h3, h4⟩ := ixN_seq e
    exact ⟨j, h1, h, h2, h3, h4⟩
theorem atI_nat {α : Type} {xs : List α} {j : Nat} {v : α} (h : xs[j]? = some v) : atI xs (j : Int) = some v := by
  have hj : j < xs.length := (List.getElem?_eq_some_iff.mp h).1
  have e : ixN xs.length (j : Int) = some j := by
    unfold ixN
    rw [if_pos (by omega), if_pos (by omega)]; simp
  unfold atI; rw [e]; exact h
def PlainIx (b : Expr) : Prop := ∀ o i, subscripted b false o i = operate [o, i] (getItem o i)
def IxR (X : Cx) (r : R2) : Prop :=
  ∀ (value slice : Expr) (pins : List (Addr × Obj)) (s : Shared) (σ : St) (H : Hp) (x y : V) (v u : Value) (Q : VK), Inv X pins σ H s → RelV x v → RelV y u → r x y H Q →
    subscripted slice false v u = operate [v, u] (getItem v u) → wpAny (model X.prog X.w) X.A (subscriptTail value slice v u) (EP X pins σ Q) X.xe s
def MtR (X : Cx) (id : String) (r : V → List V → Hp → VK → Prop) : Prop :=
  ∀ (pins : List (Addr × Obj)) (s : Shared) (σ : St) (H : Hp) (x : V) (xs : List V) (v : Value) (us : List Value) (Q : VK), Inv X pins σ H s → RelV x v → Vals xs us → r x xs H Q →
    wpAny (model X.prog X.w) X.A (call (.builtin id) (v :: us)) (EP X pins σ Q) X.xe s
section
variable {X : Cx} {a b : Expr} {ta tb : TE} {pos : Pos}
theorem IxR.or {r r' : R2} (h : IxR X r) (h' : IxR X r') : IxR X (fun x y H Q => r x y H Q ∨ r' x y H Q) := by
  intro value slice pins s σ H x y v u Q I rx ry q hs
  rcases q with q | q
  · exact h value slice pins s σ H x y v u Q I rx ry q hs
  · exact h' value slice pins s σ H x y v u Q I rx ry q hs
theorem MtR.or {id : String} {r r' : V → List V → Hp → VK → Prop} (h : MtR X id r) (h' : MtR X id r') : MtR X id (fun x xs H Q => r x xs H Q ∨ r' x xs H Q) := by
  intro pins s σ H x xs v us Q I rx rs q
  rcases q with q | q
  · exact h pins s σ H x xs v us Q I rx rs q
  · exact h' pins s σ H x xs v us Q I rx rs q
theorem pe_ix {r : R2} (hr : IxR X r) (ha : PE X a ta) (hb : PE X b tb) (hs : PlainIx b) : PE X (.Subscript a b pos) (tOp r ta tb) := by
  intro pins s σ H Q I h
  exact Subscript_ (binT ha hb I h fun v u s2 x y H2 I2 rx ry q => hr a b pins s2 σ H2 x y v u Q I2 rx ry q (hs _ _))
def rIxL (K : PySem.W.Frag) : R2 := fun x y H Q => ∃ p xs i v, x = .ref p ∧ y = .int i ∧ SqL K H p xs ∧ atI xs i = some v ∧ Q v H
def rIxT (K : PySem.W.Frag) : R2 := fun x y H Q => ∃ p xs i v, x = .ref p ∧ y = .int i ∧ SqT K H p xs ∧ atI xs i = some v ∧ Q v H
def rIxS : R2 := fun x y H Q => ∃ z i c, x = .str z ∧ y = .int i ∧ z.length ≤ sizeLine ∧ atI z.cps.toList i = some c ∧ Q (.str ⟨#[c]⟩) H
theorem ix_list : IxR X (rIxL X.K) := by
  intro value slice pins s σ H x y v u Q I rx ry h hs
  obtain ⟨p, xs, i, z, rfl, rfl, hq, he, q⟩ := h
  cases rx
  obtain ⟨t, rfl⟩ := ry
  obtain ⟨its, r, pl, hz⟩ := I.list hq
  obtain ⟨j, h1, h2, h3, h4, h5⟩ := atI_get he
  obtain ⟨w, ew, rw'⟩ := r.get h2
  have hl := r.length
  have hn := line63
  have fin : EP X pins σ Q w s := ⟨z, H, I, rw', q⟩
  by_cases h0 : 0 ≤ i
  · have hj : i.toNat = j := by
      rw [seqIndex_of h0 h5] at h1
      exact Option.some.inj h1
    exact item_listR pl.isList h0 (by omega) (by rw [hj]; simpa using ew) fin hs
  · have hj : (i + (its.toArray.size : Int)).toNat = j := by
      rw [seqIndex_neg (by omega) h4] at h1
      rw [List.size_toArray, ← hl]
      exact Option.some.inj h1
    exact subscriptTail_builtinR (x := w) pl.isList.typeIs slot_list_getitem.lookup
      (wpAny_getItem_list_neg (Q := fun r s' => r = w ∧ EP X pins σ Q r s') pl.isList (by omega) (by rw [List.size_toArray] <;> omega) (by omega) (by rw [hj]; simpa using ew) ⟨rfl, fin⟩) hs
theorem ix_tup : IxR X (rIxT X.K) := by
  intro value slice pins s σ H x y v u Q I rx ry h hs
  obtain ⟨p, xs, i, z, rfl, rfl, hq, he, q⟩ := h
  cases rx
  obtain ⟨t, rfl⟩ := ry
  obtain ⟨its, r, pl, hz⟩ := I.tuple hq
  obtain ⟨j, h1, h2, h3, h4, h5⟩ := atI_get he
  obtain ⟨w, ew, rw'⟩ := r.get h2
  have hl := r.length
  have hn := line63
  have fin : EP X pins σ Q w s := ⟨z, H, I, rw', q⟩
  exact subscriptTail_builtinR (x := w) pl.typeIs slot_tuple_getitem.lookup
    (getItem_tuple (j := j) (Q := fun r s' => r = w ∧ EP X pins σ Q r s') pl (by omega) (by omega) (by rw [List.size_toArray, ← hl]; exact h1) (by simpa using ew) ⟨rfl, fin⟩) hs
theorem ix_str : IxR X rIxS := by
  intro value slice pins s σ H x y v u Q I rx ry h hs
  obtain ⟨z, i, c, rfl, rfl, hz, he, q⟩ := h
  obtain ⟨t, rfl⟩ := rx
  obtain ⟨t', rfl⟩ := ry
  obtain ⟨j, h1, h2, h3, h4, h5⟩ := atI_get he
  have hl : z.cps.toList.length = z.length := by simp [Str.length]
  rw [hl] at h1 h4 h5
  have hn := line63
  exact tail_any (typeIs_str s z t) slot_str_getitem.lookup (getItem_str (c := c) (by
    have e1 : decide (i < -(2 ^ 63 : Int)) = false := decide_eq_false (by omega)
    have e2 : decide (i ≥ 2 ^ 63) = false := decide_eq_false (by omega)
    rw [e1, e2, Bool.or_false]) (by rw [h1]; simpa using h2) ⟨.str ⟨#[c]⟩, H, I.tok _, ⟨_, rfl⟩, q⟩) hs
theorem mapSeq_set (its : List Value) (n j : Nat) (u : Value) : Obj.mapSeq (·.setIfInBounds j u) { cls := .type "list", data := .seq its.toArray n } = { cls := .type "list", data := .seq (its.set j u).toArray n } := by
  simp [Obj.mapSeq]
theorem Inv.lst {pins : List (Addr × Obj)} {σ : St} {H : Hp} {s : Shared} {p : Addr} {xs : List V} (I : Inv X pins σ H s) (h : H p = some (.lst xs)) :
    ∃ (its : List Value) (n : Nat), Vals xs its ∧ s.heap.get? p = some { cls := .type "list", data := .seq its.toArray n } ∧ xs.length ≤ sizeLine := by
  obtain ⟨z, its, n, r, e⟩ := I.hok p _ h
  exact ⟨its, n, r, e, z⟩
theorem Inv.lstUpd {pins : List (Addr × Obj)} {σ : St} {H : Hp} {s : Shared} {p : Addr} {xs ys : List V} {its its' : List Value} {n n' : Nat} {f : Obj → Obj} (I : Inv X pins σ H s) (h : H p = some (.lst xs))
    (ho : s.heap.get? p = some { cls := .type "list", data := .seq its.toArray n }) (hf : f { cls := .type "list", data := .seq its.toArray n } = { cls := .type "list", data := .seq its'.toArray n' }) (r : Vals ys its') (hz : ys.length ≤ sizeLine) (t : Nat) :
    Inv X pins σ (upd H p (.lst ys)) { s with heap := s.heap.update p f, toks := t } := by
  have e : (s.heap.update p f).get? p = some { cls := .type "list", data := .seq its'.toArray n' } := by
    rw [Heap.get?_update_self f ho (by rw [hf] <;> rfl), hf]
  refine I.write (x := p) (e := p) (by rw [h]; trivial) (.inl rfl) (fun b u hb q => (Heap.get?_update_other _ _ (Ne.symm hb)).trans q) ⟨_, e⟩ ?_
  exact ⟨hz, its', n', r, e⟩
def rSetL : V → V → V → Hp → (Hp → Prop) → Prop := fun o i v H Q => ∃ p xs k j, o = .ref p ∧ i = .int k ∧ H p = some (.lst xs) ∧ ixN xs.length k = some j ∧ Q (upd H p (.lst (xs.set j v)))
theorem set_list : PSet X rSetL := by
  intro pins s σ H o i v ov iv u Q I ro ri rv h
  obtain ⟨p, xs, k, j, rfl, rfl, hp, hj, q⟩ := h
  cases ro
  obtain ⟨t, rfl⟩ := ri
  obtain ⟨its, n, r, ho, hz⟩ := I.lst hp
  obtain ⟨h1, h2, h3, h4⟩ := ixN_seq hj
  have hl := r.length
  have hn := line63
  have I' : Inv X pins σ (upd H p (.lst (xs.set j v))) { s with heap := s.heap.update p (Obj.mapSeq (·.setIfInBounds j u)) } :=
    I.lstUpd hp ho (mapSeq_set its n j u) (r.set rv j) (by rw [List.length_set]; exact hz) s.toks
  by_cases h0 : 0 ≤ k
  · have hk : k.toNat = j := by
      rw [seqIndex_of h0 h4] at h1
      exact Option.some.inj h1
    exact PySem.W.ki_setAt ho h0 (by omega) (by rw [List.size_toArray, ← hl]; exact h4) (by rw [hk]; exact ⟨_, I', q⟩)
  · have hk : (k + (its.toArray.size : Int)).toNat = j := by
      rw [seqIndex_neg (by omega) h3] at h1
      rw [List.size_toArray, ← hl]
      exact Option.some.inj h1
    exact PySem.W.ki_setBack ho (by omega) (by rw [List.size_toArray, ← hl]; exact h3) (by omega) (by rw [hk]; exact ⟨_, I', q⟩)
theorem slice_bounds (lo hi : Option Int) (n : Nat) : (sliceBounds lo hi none n).1 = ((HT.sIx n 0 lo : Nat) : Int) ∧ (sliceBounds lo hi none n).2.1 = ((HT.sIx n n hi : Nat) : Int) ∧ (sliceBounds lo hi none n).2.2 = 1 := by
  refine ⟨?_, ?_, rfl⟩
  · cases lo with
    | none => simp [sliceBounds, HT.sIx]
    | some i =>
      simp only [sliceBounds, HT.sIx, Option.getD_none, show (1 : Int) > 0 by decide, if_true]
      by_cases h : i < 0
      · simp only [h, if_true] <;> omega
      · simp only [h, if_false] <;> omega
  · cases hi with
    | none => simp [sliceBounds, HT.sIx]
    | some i =>
      simp only [sliceBounds, HT.sIx, Option.getD_none, show (1 : Int) > 0 by decide, if_true]
      by_cases h : i < 0
      · simp only [h, if_true] <;> omega
      · simp only [h, if_false] <;> omega
theorem slicePick_cut (its : List Value) (lo hi : Option Int) : slicePick its.toArray lo hi none = ((its.drop (HT.sIx its.length 0 lo)).take (HT.sIx its.length its.length hi - HT.sIx its.length 0 lo)).toArray := by
  obtain ⟨h1, h2, h3⟩ := slice_bounds lo hi its.toArray.size
  unfold slicePick
  rw [h1, h2, h3]
  simp only [sliceRange_one, pick_run, List.size_toArray] <;> rfl
def rSlL (K : PySem.W.Frag) : V → Option Int → Option Int → Hp → VK → Prop := fun x lo hi H Q => ∃ a xs, x = .ref a ∧ SqL K H a xs ∧ ∀ p, H p = none → Q (.ref p) (upd H p (.lst (cutV xs lo hi)))
theorem sl_list : SlR X (rSlL X.K) := by
  intro pins s σ H x v vl vu lo hi sl Q I rx hs pl pu h
  obtain ⟨a, xs, rfl, hx, q⟩ := h
  cases rx
  obtain ⟨its, r, ht, hz⟩ := I.list hx
  have hlen := r.length
  refine ⟨"list", _, slot_list_getitem.lookup, ht.isList.typeIs, ?_⟩
  refine wpAny_getItem_list_slice ht.isList hs pl pu .none (by simp) ?_ (by rw [List.size_toArray] <;> omega)
  rw [slicePick_cut, ← hlen]
  refine ⟨.ref s.heap.objs.size, _, I.laid (t' := s.toks) (o := .lst (cutV xs lo hi)) (fun b ob q => Heap.get?_push_of_some _ q) (Nat.le_refl _) ?_, rfl, q _ (I.hok.fresh (Nat.le_refl _))⟩
  exact ⟨Nat.le_trans (cutV_length xs lo hi) hz, _, 0, (r.drop (HT.sIx xs.length 0 lo)).take (HT.sIx xs.length xs.length hi - HT.sIx xs.length 0 lo), Heap.get?_push_size _ rfl⟩
def flatV : V → Bool
  | .non => true
  | .bl _ => true
  | .int _ => true
  | .str _ => true
  | _ => false
def eqV : V → V → Bool
  | .non, .non => true
  | .bl a, .bl b => a == b
  | .bl a, .int b => (if a then 1 else 0) == b
  | .int a, .bl b => a == (if b then 1 else 0)
  | .int a, .int b => a == b
  | .str a, .str b => a == b
  | _, _ => false
theorem eqAt_V {A : Around} {s : Shared} {y x : V} {u v : Value} (ry : RelV y u) (rx : RelV x v) (fy : flatV y = true) (fx : flatV x = true) : SeqAt.EqAt A s u v (eqV y x) := by
  cases y with
  | non =>
    cases ry
    cases x with
    | non => cases rx; exact SeqAt.EqAt.same _
    | bl b => cases rx; exact SeqAt.EqAt.none_bool b
    | int b => obtain ⟨t, rfl⟩ := rx; exact SeqAt.EqAt.none_int b t
    | str b => obtain ⟨t, rfl⟩ := rx; exact SeqAt.EqAt.none_str b t
    | _ => exact absurd (show false = true from fx) Bool.false_ne_true
  | bl a =>
    cases ry
    cases x with
    | non => cases rx; exact SeqAt.EqAt.bool_none a
    | bl b => cases rx; exact SeqAt.EqAt.bool_bool a b
    | int b => obtain ⟨t, rfl⟩ := rx; exact SeqAt.EqAt.bool_int a b t
    | str b => obtain ⟨t, rfl⟩ := rx; exact SeqAt.EqAt.bool_str a b t
    | _ => exact absurd (show false = true from fx) Bool.false_ne_true
  | int a =>
    obtain ⟨t', rfl⟩ := ry
    cases x with
    | non => cases rx; exact SeqAt.EqAt.int_none a t'
    | bl b => cases rx; exact SeqAt.EqAt.int_bool a t' b
    | int b => obtain ⟨t, rfl⟩ := rx; exact SeqAt.EqAt.int_int a t' b t
    | str b => obtain ⟨t, rfl⟩ := rx; exact SeqAt.EqAt.int_str a t' b t
    | _ => exact absurd (show false = true from fx) Bool.false_ne_true
  | str a =>
    obtain ⟨t', rfl⟩ := ry
    cases x with
    | non => cases rx; exact SeqAt.EqAt.str_none a t'
    | bl b => cases rx; exact SeqAt.EqAt.str_bool a t' b
    | int b => obtain ⟨t, rfl⟩ := rx; exact SeqAt.EqAt.str_int a t' b t
    | str b => obtain ⟨t, rfl⟩ := rx; exact SeqAt.EqAt.str_str a t' b t
    | _ => exact absurd (show false = true from fx) Bool.false_ne_true
  | _ => exact absurd (show false = true from fy) Bool.false_ne_true
def eqU (x : V) (u : Value) : Bool := match u with
  | .none => eqV .non x
  | .bool b => eqV (.bl b) x
  | .int i _ => eqV (.int i) x
  | .str z _ => eqV (.str z) x
  | _ => false
theorem eqU_of {x y : V} {u : Value} (r : RelV y u) (f : flatV y = true) : eqU x u = eqV y x := by
  cases y with
  | non => cases r; rfl
  | bl b => cases r; rfl
  | int i => obtain ⟨t, rfl⟩ := r; rfl
  | str z => obtain ⟨t, rfl⟩ := r; rfl
  | _ => exact absurd (show false = true from f) Bool.false_ne_true
theorem any_eqU {x : V} : ∀ {xs : List V} {us : List Value}, Vals xs us → xs.all flatV = true → us.any (eqU x) = xs.any fun y => eqV y x
  | _, _, .nil, _ => rfl
  | y :: xs, u :: us, .cons r t, f => by
    rw [List.all_cons, Bool.and_eq_true] at f
    rw [List.any_cons, List.any_cons, eqU_of r f.1, any_eqU t f.2]
theorem mem_eqAt {A : Around} {s : Shared} {x : V} {v : Value} (rx : RelV x v) (fx : flatV x = true) : ∀ {xs : List V} {us : List Value}, Vals xs us → xs.all flatV = true → ∀ u ∈ us, SeqAt.EqAt A s u v (eqU x u)
  | _, _, .nil, _ => fun u hu => by cases hu
  | y :: xs, u :: us, .cons r t, f => fun u' hu => by
    rw [List.all_cons, Bool.and_eq_true] at f
    rcases List.mem_cons.mp hu with rfl | hu
    · rw [eqU_of r f.1]; exact eqAt_V r rx f.1 fx
    · exact mem_eqAt rx fx t f.2 u' hu
def inV (x : V) (xs : List V) : Bool := xs.any fun y => eqV y x
def rIn (K : PySem.W.Frag) (neg : Bool) : R2 := fun x y H Q => ∃ p xs, y = .ref p ∧ (SqL K H p xs ∨ SqT K H p xs) ∧ flatV x = true ∧ xs.all flatV = true ∧ Q (.bl (if neg then !inV x xs else inV x xs)) H
theorem op_in_seq : OpR X (compareOp .In) (rIn X.K false) := by
  intro pins s σ H x y v u Q I rx ry h
  obtain ⟨p, xs, rfl, hq, fx, fs, q⟩ := h
  cases ry
  rcases hq with hq | hq
  · obtain ⟨its, r, pl, hz⟩ := I.list hq
    refine SeqAt.in_listAt (eqU x) pl.isList (fun w hw => mem_eqAt rx fx r fs w (by simpa using hw)) ⟨.bl _, H, I, rfl, ?_⟩
    rw [show its.toArray.any (eqU x) = its.any (eqU x) by simp, any_eqU r fs]
    exact q
  · obtain ⟨its, r, pl, hz⟩ := I.tuple hq
    refine SeqAt.in_tupleAt (eqU x) pl (fun w hw => mem_eqAt rx fx r fs w (by simpa using hw)) ⟨.bl _, H, I, rfl, ?_⟩
    rw [show its.toArray.any (eqU x) = its.any (eqU x) by simp, any_eqU r fs]
    exact q
theorem op_notIn_seq : OpR X (compareOp .NotIn) (rIn X.K true) := by
  intro pins s σ H x y v u Q I rx ry h
  obtain ⟨p, xs, rfl, hq, fx, fs, q⟩ := h
  cases ry
  rcases hq with hq | hq
  · obtain ⟨its, r, pl, hz⟩ := I.list hq
    refine SeqAt.notIn_listAt (eqU x) pl.isList (fun w hw => mem_eqAt rx fx r fs w (by simpa using hw)) ⟨.bl _, H, I, rfl, ?_⟩
    rw [show its.toArray.any (eqU x) = its.any (eqU x) by simp, any_eqU r fs]
    exact q
  · obtain ⟨its, r, pl, hz⟩ := I.tuple hq
    refine SeqAt.notIn_tupleAt (eqU x) pl (fun w hw => mem_eqAt rx fx r fs w (by simpa using hw)) ⟨.bl _, H, I, rfl, ?_⟩
    rw [show its.toArray.any (eqU x) = its.any (eqU x) by simp, any_eqU r fs]
    exact q
theorem op_notIn_str : OpR X (compareOp .NotIn) (fun x y H Q => ∃ i j, x = .str i ∧ y = .str j ∧ Q (.bl (!(!(Builtin.Str.occurrences j i 0 j.length 1).isEmpty))) H) := by
  intro pins s σ H x y v u Q I rx ry h
  obtain ⟨i, j, rfl, rfl, q⟩ := h
  obtain ⟨t, rfl⟩ := rx
  obtain ⟨t', rfl⟩ := ry
  exact notIn_str ⟨.bl _, H, I, rfl, q⟩
theorem call_len_seq : CallR X (.builtin "len") (fun xs H Q => ∃ p ys, xs = [.ref p] ∧ (SqL X.K H p ys ∨ SqT X.K H p ys) ∧ Q (.int ys.length) H) := by
  intro pins s σ H xs us Q I r h
  obtain ⟨p, ys, rfl, hq, q⟩ := h
  obtain ⟨u, rfl, rx⟩ := vals1 r
  cases rx
  have hn := line63
  rcases hq with hq | hq
  · obtain ⟨its, r', pl, hz⟩ := I.list hq
    have hlen := r'.length
    exact Calls.call_len_list pl.isList (by simp only [List.size_toArray] <;> omega) ⟨.int ys.length, H, I.tok _, ⟨s.toks + 1, by rw [List.size_toArray, hlen]⟩, q⟩
  · obtain ⟨its, r', pl, hz⟩ := I.tuple hq
    have hlen := r'.length
    exact len_tuple pl (by simp only [List.size_toArray] <;> omega) ⟨.int ys.length, H, I.tok _, ⟨s.toks + 1, by rw [List.size_toArray, hlen]⟩, q⟩
theorem call_len_str : CallR X (.builtin "len") (fun xs H Q => ∃ z, xs = [.str z] ∧ z.length ≤ sizeLine ∧ Q (.int z.length) H) := by
  intro pins s σ H xs us Q I r h
  obtain ⟨z, rfl, hz, q⟩ := h
  obtain ⟨u, rfl, t, rfl⟩ := vals1 r
  have hn := line63
  exact len_str (by omega) ⟨.int z.length, H, I.tok _, ⟨_, rfl⟩, q⟩
theorem CallR.or {f : Value} {r r' : List V → Hp → VK → Prop} (h : CallR X f r) (h' : CallR X f r') : CallR X f (fun xs H Q => r xs H Q ∨ r' xs H Q) := by
  intro pins s σ H xs us Q I rs q
  rcases q with q | q
  · exact h pins s σ H xs us Q I rs q
  · exact h' pins s σ H xs us Q I rs q
theorem call_list_of : CallR X (.type "list") (fun xs H Q => ∃ p ys, xs = [.ref p] ∧ (SqL X.K H p ys ∨ SqT X.K H p ys) ∧ ∀ l, H l = none → Q (.ref l) (upd H l (.lst ys))) := by
  intro pins s σ H xs us Q I r h
  obtain ⟨p, ys, rfl, hq, q⟩ := h
  obtain ⟨u, rfl, rx⟩ := vals1 r
  cases rx
  have fin : ∀ (its : List Value), Vals ys its → ys.length ≤ sizeLine → ∀ (h' : Heap) (c' : Nat), (∀ b o', s.heap.get? b = some o' → h'.get? b = some o') →
      h'.get? s.heap.objs.size = some { cls := .type "list", dict := none, data := .seq its.toArray c', slots := #[] } → EP X pins σ Q (.ref s.heap.objs.size) { s with heap := h' } := fun its r' hz h' c' kp e =>
    ⟨.ref s.heap.objs.size, _, I.laid (t' := s.toks) kp (Nat.le_refl _) (show ObjOk X.prog X.w _ h' _ (.lst ys) from ⟨hz, its, c', r', e⟩), rfl, q _ (I.hok.fresh (Nat.le_refl _))⟩
  rcases hq with hq | hq
  · obtain ⟨its, r', pl, hz⟩ := I.list hq
    have hlen := r'.length
    obtain ⟨o, ho, hc, n, hd⟩ := pl.isList
    exact call_list_seq p (.inl rfl) ho hc hd (fun h' c' kp e => fin its r' hz h' c' kp e) (by simp only [List.size_toArray] <;> omega)
  · obtain ⟨its, r', pl, hz⟩ := I.tuple hq
    have hlen := r'.length
    obtain ⟨o, ho, hc, n, hd⟩ := pl
    exact call_list_seq p (.inr rfl) ho hc hd (fun h' c' kp e => fin its r' hz h' c' kp e) (by simp only [List.size_toArray] <;> omega)
theorem call_tuple_of : CallR X (.type "tuple") (fun xs H Q => ∃ p ys, xs = [.ref p] ∧ ((SqL X.K H p ys ∧ ∀ l, H l = none → Q (.ref l) (upd H l (.tup ys))) ∨ (SqT X.K H p ys ∧ Q (.ref p) H))) := by
  intro pins s σ H xs us Q I r h
  obtain ⟨p, ys, rfl, h⟩ := h
  obtain ⟨u, rfl, rx⟩ := vals1 r
  cases rx
  rcases h with ⟨hq, q⟩ | ⟨hq, q⟩
  · obtain ⟨its, r', pl, hz⟩ := I.list hq
    have hlen := r'.length
    refine call_tuple_list pl.isList (fun h' kp => ?_) (by simp only [List.size_toArray] <;> omega)
    have I1 : Inv X pins σ H { s with heap := h' } := I.kept (t' := s.toks) kp
    have I2 : Inv X pins σ (upd H h'.objs.size (.tup ys)) { s with heap := h'.push { cls := .type "tuple", data := .seq its.toArray } } :=
      I1.laid (t' := s.toks) (fun b o e => Heap.get?_push_of_some _ e) (Nat.le_refl _) (show ObjOk X.prog X.w _ _ _ (.tup ys) from ⟨hz, its, r', IsTupN.new _ _⟩)
    exact ⟨.ref h'.objs.size, _, I2, rfl, q _ (I1.hok.fresh (Nat.le_refl _))⟩
  · obtain ⟨its, r', pl, hz⟩ := I.tuple hq
    exact call_tuple_same pl ⟨.ref p, H, I, rfl, q⟩
variable {o e : Expr} {es : List Expr} {to : TE} {t : TA} {name : Str} {apos cpos : Pos} {T id : String} {r : V → List V → Hp → VK → Prop}
end
end L2
namespace L2
open PySem PySem.Spec PyProof.Rows
def MtM (X : Cx) (id : String) (r : V → List V → Hp → VK → Prop) : Prop :=
  ∀ (pins : List (Addr × Obj)) (s : Shared) (σ : St) (H : Hp) (x : V) (xs : List V) (v : Value) (us : List Value) (Q : VK), Inv X pins σ H s → RelV x v → Vals xs us → r x xs H Q →
    wpAny (model X.prog X.w) X.A (call (.builtin id) (v :: us)) (EP X pins σ Q) X.xe s
theorem Vals.one : ∀ {x : V} {us : List Value}, Vals [x] us → ∃ u, us = [u] ∧ RelV x u
  | _, _, .cons r .nil => ⟨_, rfl, r⟩
theorem Vals.two : ∀ {x y : V} {us : List Value}, Vals [x, y] us → ∃ u v, us = [u, v] ∧ RelV x u ∧ RelV y v
  | _, _, _, .cons r (.cons q .nil) => ⟨_, _, rfl, r, q⟩
section
variable {X : Cx} {pins : List (Addr × Obj)} {σ : St} {H : Hp} {s : Shared} {l b : Addr} {xs ys zs : List V}
theorem Inv.lset {its its' : List Value} {n : Nat} {f : Array Value → Array Value} {t' : Nat} (I : Inv X pins σ H s) (hH : H l = some (.lst xs))
    (e : s.heap.get? l = some { cls := .type "list", data := .seq its.toArray n }) (hf : f its.toArray = its'.toArray) (hv : Vals ys its') (hz : ys.length ≤ sizeLine) :
    Inv X pins σ (upd H l (.lst ys)) { s with heap := s.heap.update l (Obj.mapSeq f), toks := t' } := by
  have q := PySem.IsL.update e f
  rw [hf] at q
  refine I.write (x := l) (e := l) (by rw [hH]; exact trivial) (.inl rfl) (fun b' u hb hu => (Heap.get?_update_other s.heap (Obj.mapSeq f) (Ne.symm hb)).trans hu) ⟨_, q⟩ ?_
  exact ⟨hz, its', _, hv, q⟩
theorem Inv.lnew {its : List Value} {t' : Nat} (I : Inv X pins σ H s) (hv : Vals ys its) (hz : ys.length ≤ sizeLine) :
    Inv X pins σ (upd H s.heap.objs.size (.lst ys)) { s with heap := s.heap.push { cls := .type "list", data := .seq its.toArray }, toks := t' } :=
  I.laid (fun _ _ q => Heap.get?_push_of_some _ q) (Nat.le_refl _) ⟨hz, its, 0, hv, Heap.get?_push_size _ rfl⟩
theorem Inv.fresh (I : Inv X pins σ H s) : H s.heap.objs.size = none := I.hok.fresh (Nat.le_refl _)
theorem Inv.lstM (I : Inv X pins σ H s) (hH : H l = some (.lst xs)) : xs.length ≤ sizeLine ∧ ∃ (its : List Value) (n : Nat), Vals xs its ∧ xs.length = its.length ∧ s.heap.get? l = some { cls := .type "list", data := .seq its.toArray n } := by
  obtain ⟨z, its, n, r, e⟩ := I.hok l _ hH
  exact ⟨z, its, n, r, r.length, e⟩
end
section
variable {X : Cx}
def rAppend : V → List V → Hp → VK → Prop := fun x vs H Q => ∃ l xs y, x = .ref l ∧ vs = [y] ∧ H l = some (.lst xs) ∧ xs.length < sizeLine ∧ Q .non (upd H l (.lst (xs ++ [y])))
theorem mt_append : MtM X "list.append" rAppend := by
  intro pins s σ H x vs v us Q I rx rv h
  obtain ⟨l, xs, y, rfl, rfl, hH, hz, q⟩ := h
  cases rx
  obtain ⟨u, rfl, ru⟩ := rv.one
  obtain ⟨z, its, n, r, hl, e⟩ := I.lstM hH
  refine call_meets F.slot_list_append ⟨_, e, rfl⟩ F.entry_list_append (F.args_list_append_2 _ _) (PySem.list_append l its.toArray n u (by rw [List.size_toArray]; omega)) ⟨e, ?_⟩
  refine ⟨.non, _, I.lset (its' := its ++ [u]) hH e (by simp) (r.append (.cons ru .nil)) ?_, rfl, q⟩
  rw [List.length_append, List.length_singleton]
  omega
def rCat : R2 := fun x y H Q => ∃ l b xs zs, x = .ref l ∧ y = .ref b ∧ H l = some (.lst xs) ∧ H b = some (.lst zs) ∧ xs.length + zs.length ≤ sizeLine ∧ ∀ p, H p = none → Q (.ref p) (upd H p (.lst (xs ++ zs)))
theorem op_cat : OpR X (binaryOp .Add) rCat := by
  intro pins s σ H x y v u Q I rx ry h
  obtain ⟨l, b, xs, zs, rfl, rfl, hH, hB, hz, q⟩ := h
  cases rx
  cases ry
  obtain ⟨z, its, n, r, hl, e⟩ := I.lstM hH
  obtain ⟨z2, its2, n2, r2, hl2, e2⟩ := I.lstM hB
  refine PySem.P.add_list e e2 ?_ (by rw [List.size_toArray, List.size_toArray]; omega)
  have ea : its.toArray ++ its2.toArray = (its ++ its2).toArray := by simp
  rw [ea]
  exact ⟨.ref _, _, I.lnew (t' := s.toks) (r.append r2) (by rw [List.length_append]; omega), rfl, q _ I.fresh⟩
end
section
variable {prog : Program} {w : World} {A : Around} {E : Value → Shared → Prop} {s : Shared}
end
section
variable {X : Cx}
end
end L2
namespace Att
open PySem PySem.W PySem.Calls PyProof.Rows
theorem ints_of_wellAll {P : Params} {h : Heap} : ∀ (ns : List Int) (vs : List Value), WellAll P h vs (ns.map WData.int) → IntsAre vs ns := by
  intro ns
  induction ns with
  | nil =>
    intro vs w
    rw [List.map_nil] at w
    cases w
    exact .nil
  | cons n ns ih =>
    intro vs w
    rw [List.map_cons] at w
    cases w with
    | cons a b =>
      cases a
      exact .cons _ _ (ih _ b)
theorem script_of {l : OpenLaw} {n : Nat} (hn : l.most = some n) {P : Params} {h : Heap} {args : List WData} {vals : List Value}
    (hpre : l.row.toRowW.claim.pre args = true) (hwl : WellAll P h vals args) :
    ∃ a vs ns, vals = [Value.ref a] ∧ args = [WData.list (ns.map WData.int)] ∧ h.get? a = some { cls := .type "list", data := .seq vs.toArray } ∧ IntsAre vs ns ∧ ns.length ≤ n := by
  have hsh : WShape.hasAll [] args [.list .int] = true := (pre_splitW hpre).1
  have hc : l.pre.holds [] { args := args } = true := (pre_splitW hpre).2
  obtain ⟨d, r, rfl, h1, h2⟩ := hasAllW_cons hsh
  obtain rfl := hasAllW_nil h2
  obtain ⟨xs, rfl, h3⟩ := hasW_list h1
  obtain ⟨ns, rfl⟩ := items_int h3
  have hlen : ns.length ≤ n := by
    unfold OpenLaw.pre at hc
    have h4 : (WTm.not (.lt (.lit (.int (n : Int))) (.len (.arg 0)))).holds [] { args := [.list (ns.map .int)] } = true := by
      have h4 := (holds_andW hc).1
      rw [hn] at h4
      exact h4
    have h5 := condW_of h4 (w_not (w_lt w_lit (w_len_list (w_arg rfl))))
    rw [List.length_map] at h5
    refine Nat.le_of_not_lt fun q => ?_
    have q' : (n : Int) < ((ns.length : Nat) : Int) := by omega
    first
      | (rw [decide_eq_true q'] at h5; exact absurd h5 (by decide))
      | (simp at h5; omega)
  cases hwl with
  | cons w1 w2 =>
    cases w2
    cases w1 with
    | list ho hall => exact ⟨_, _, ns, rfl, rfl, ho, ints_of_wellAll ns _ hall, hlen⟩
theorem post_true (l : OpenLaw) (args : List WData) : l.row.toRowW.claim.post args (.bool true) args = true :=
  postW_of (r := l.row.toRowW) (X := (true == true))
    (show WShape.has [] (.bool true) .bool = true by first | rfl | decide | simp [WShape.has, WShape.arms, WShape.armsAll])
    (show (WTm.eq .res (.lit (.bool true))).value [] { args := args, res := some (.bool true), after := args } = some (.bool (true == true)) from w_eq_bool (w_res rfl) w_lit) rfl
theorem attach_call {l : OpenLaw} {n : Nat} {q : Program} {loose : List Str} {XP : (Str → Option Value) → Heap → Prop} {YP : World → Heap → Prop} {d : DefRec}
    (hn : l.most = some n) (hdf : d.params.defaults = [])
    (call : ∀ (w : World) (s₀ s₁ : Shared) (mg mb : Str → Option Value) (fa : Addr) (o : Obj) (pm cd doc : Value) (a : Addr) (vs : List Value) (ns : List Int),
      Ground q loose [] XP w s₀ mg mb s₁.heap → YP w s₁.heap →
      s₁.heap.get? fa = some o → o.data = .func (docDef d.name d.params d.body d.scope pm cd doc) → s₁.heap.CodeRec cd d.name → mg d.name = some (.ref fa) →
      s₁.heap.get? a = some { cls := .type "list", data := .seq vs.toArray } → IntsAre vs ns → ns.length ≤ n → s₁.gens = #[] →
      codeAny (model l.prog w) callerA (.call (.ref fa) ⟨[.ref a], []⟩) (fun r s' => r = .ok (.ret (.bool true)) ∧ OldK s₁.heap s'.heap ∧ s'.os = s₁.os ∧ AllBare s'.gens) s₁) :
    WalkO q loose XP YP l.row.toRowW d [] (fun f vs => PySem.call f vs) := by
  intro w s₀ s₁ mg mb G Y fa o pm cd doc dV kV ho hd hcd hD hmg hg args vals as hpre hlay hrd hwl hlo
  obtain rfl : dV = .none := Dflts.none hD hdf
  obtain rfl : kV = .none := Dflts.noKw hD
  obtain ⟨a, vs, ns, rfl, rfl, hobj, hints, hlen⟩ := script_of hn hpre hwl
  refine enter_call (codeAny_mono (call w s₀ s₁ mg mb fa o pm cd doc a vs ns G Y ho (fd_plain hd) hcd hmg hobj hints hlen hg) fun r s' hq => ?_)
  obtain ⟨rfl, h2, h3, h4⟩ := hq
  exact ⟨.inl ⟨.bool true, .bool true, [], rfl, fun _ => rfl, .bool true, post_true l _, fun _ => ⟨List.Pairwise.nil, fun _ hm => (nomatch hm)⟩⟩, h2, h3, h4⟩
section
variable {prog : Program} {w : World} {A : Around} {E : Value → Shared → Prop} {s : Shared} {K : Frag}
end
end Att
namespace L2
open PySem PySem.Spec PyProof.Rows
theorem vals_ints : ∀ {vs : List Value} {ns : List Int}, IntsAre vs ns → Vals (ns.map V.int) vs
  | _, _, .nil => .nil
  | _, _, .cons n t h => .cons ⟨t, rfl⟩ (vals_ints h)
def Only (H : Hp) : Prop := ∀ b, H b = none ∨ ∃ o xs, H b = some (.frz o (.lst xs))
theorem law_call {P : Program} {w : World} {K : PySem.W.Frag} {mg mb : Str → Option Value} {CX : CXT} {k : Nat} {fa a : Addr} {fd : FuncData} {x : Str} {sp : Sp} {s₁ : Shared} {vs : List Value} {ns : List Int}
    (KX : K.In s₁.heap) (hns : s₁.heap.Ns mainGlobals mg) (hb : s₁.heap.Ns builtinsNs mb) (hbb : ∀ x : Str, x ≠ "__name__" → mb x = bootBuiltins x) (hlim : s₁.heap.NoLimit) (hg : s₁.gens = #[])
    (ha : s₁.heap.get? a = some { cls := .type "list", data := .seq vs.toArray }) (hi : IntsAre vs ns) (hl : ns.length ≤ sizeLine) (hr : Room k callerA)
    (F : ∀ base : Heap, K.In base → base.Ns mainGlobals mg → FnOk P w K mg base CX k fa fd [x] sp) (hbind : ∀ (s : Shared) (u : Value), BindsTo s fd ⟨[u], []⟩ [(x, u)])
    (hsp : ∀ H : Hp, Only H → SqL K H a (ns.map V.int) → sp [.ref a] H (fun v _ => v = .bl true) fun _ _ _ => False)
    (hCX : ∀ H e s', CX [] H s₁ (fun _ _ _ => False) e s' → False) :
    codeAny (model P w) callerA (.call (.ref fa) ⟨[.ref a], []⟩) (fun r s' => r = .ok (.ret (.bool true)) ∧ OldK s₁.heap s'.heap ∧ s'.os = s₁.os ∧ AllBare s'.gens) s₁ := by
  have rv := vals_ints hi
  have lenV := hi.length
  -- from an abstract heap in which nothing but the script may be tracked
  have core : ∀ H : Hp, Only H → SqL K H a (ns.map V.int) → HOk P w H s₁.heap → (∀ b, H b ≠ none → b = a) → (H a ≠ none → K.lookup a = none) →
      codeAny (model P w) callerA (.call (.ref fa) ⟨[.ref a], []⟩) (fun r s' => r = .ok (.ret (.bool true)) ∧ OldK s₁.heap s'.heap ∧ s'.os = s₁.os ∧ AllBare s'.gens) s₁ := by
    intro H hO hS hok hA hK
    have base_of : ∀ {b : Addr} {o : Obj}, s₁.heap.get? b = some o → H b = none → (hidT s₁.heap H).get? b = some o := fun e n => hidT_get e n
    have noA : ∀ {b : Addr} {o : Obj} {es : Array DictEntry} {ep : Nat}, s₁.heap.get? b = some o → o.data = .dict es ep → H b = none := fun {b o es ep} e d => by
      cases q : H b with
      | none => rfl
      | some u =>
        have e' : b = a := hA b (by rw [q]; simp)
        subst e'
        rw [ha] at e; cases e
        have d' : Data.seq vs.toArray _ = Data.dict es ep := d
        cases d'
    have nsK : ∀ {b : Addr} {m : Str → Option Value}, s₁.heap.Ns b m → (hidT s₁.heap H).Ns b m := fun {b m} ⟨o, es, ep, e, d, r⟩ => ⟨o, es, ep, base_of e (noA e d), d, r⟩
    have hKb : K.In (hidT s₁.heap H) := fun b o e => base_of (KX b o e) (by
      cases q : H b with
      | none => rfl
      | some u =>
        have e' : b = a := hA b (by rw [q]; simp)
        subst e'
        rw [hK (by rw [q]; simp)] at e; cases e)
    have hM : Mod K mg (hidT s₁.heap H) := ⟨hKb, nsK hns, ⟨mb, nsK hb, hbb⟩, let ⟨mc, h1, h2⟩ := hlim; ⟨mc, nsK h1, h2⟩⟩
    have e0 : Env0 P w K mg (hidT s₁.heap H) callerA [] s₁ H := ⟨rfl, hM, fun b o e => of_hidT e, Nat.le_of_eq (hidT_size _ _), trivial, fun b hb => absurd (show b ∈ ([] : List Addr) from hb) (by simp), hok, .of_eq hg⟩
    refine codeAny_mono ((F _ hKb (nsK hns)).run callerA [] s₁ H ⟨[.ref a], []⟩ [.ref a] [.ref a] _ _ hr e0 (hbind s₁ (.ref a)) (.cons rfl .nil) (hsp H hO hS)) fun r s' h => ?_
    cases r with
    | error e => exact (hCX H e s' h).elim
    | ok fl =>
      cases fl with
      | next => exact False.elim h
      | brk => exact False.elim h
      | cont => exact False.elim h
      | ret u =>
        obtain ⟨v, H', os, bare, un, hok', r', q⟩ := h
        have q' : v = .bl true := q
        subst q'
        obtain rfl : u = Value.bool true := r'
        refine ⟨rfl, OldK.of_keep fun b o e => ?_, os, bare⟩
        cases q : H b with
        | none => exact un.keep b o e q (by intro z; exact absurd (show b ∈ ([] : List Addr) from z) (by simp)) (by simp)
        | some u =>
          rcases hO b with z | ⟨ob, xs, z⟩
          · rw [q] at z; cases z
          · have z2 := un.frzs b ob _ z
            obtain ⟨e1, _⟩ := hok b _ z
            obtain ⟨e2, _⟩ := hok' b _ z2
            rw [e] at e1; cases e1
            exact e2
  cases hk : K.lookup a with
  | some o =>
    -- the script is one of the module's own objects
    have e := KX a o hk
    rw [ha] at e
    cases e
    refine core (fun _ => none) (fun _ => .inl rfl) (.inr ⟨_, vs.toArray, _, hk, rfl, rfl, rfl, by rw [List.size_toArray, lenV]; exact hl, by simpa using rv⟩) (fun b u z => by have z' : (none : Option HO) = some u := z; cases z') (fun b z => absurd rfl z) fun z => absurd rfl z
  | none =>
    refine core (fun b => if b = a then some (.frz { cls := .type "list", data := .seq vs.toArray } (.lst (ns.map V.int))) else none) (fun b => ?_) (.inl (.inr ⟨{ cls := .type "list", data := .seq vs.toArray }, if_pos rfl⟩)) (fun b u z => ?_) (fun b z => ?_) fun _ => hk
    · by_cases hb : b = a
      · exact .inr ⟨_, _, if_pos hb⟩
      · exact .inl (if_neg hb)
    · by_cases hb : b = a
      · have z' := (if_pos hb).symm.trans z
        cases z'
        subst hb
        exact ⟨ha, by rw [List.length_map]; exact hl, vs, _, rv, ha⟩
      · have z' := (if_neg hb).symm.trans z
        cases z'
    · by_cases hb : b = a
      · exact hb
      · exact absurd (if_neg hb) z
end L2
namespace L2
open PySem PySem.Spec PyProof.Rows
theorem walk_of {l : PySem.W.OpenLaw} {n k : Nat} {q : Program} {loose : List Str} {XP : (Str → Option Value) → Heap → Prop} {YP : World → Heap → Prop} {d : DefRec} {K : Params → PySem.W.Frag} {CX : World → CXT} {sp : World → Sp} {x : Str}
    (hn : l.most = some n) (hn2 : n ≤ sizeLine) (hdf : d.params.defaults = []) (hr : Room k callerA)
    (hY : ∀ (w : World) (h : Heap), YP w h → (K w.params).In h)
    (F : ∀ (w : World) (mg : Str → Option Value) (fa : Addr) (h : Heap), (K w.params).In h → h.Ns mainGlobals mg → mg d.name = some (.ref fa) →
      ∃ fd : FuncData, (∀ (s : Shared) (u : Value), BindsTo s fd ⟨[u], []⟩ [(x, u)]) ∧
        ∀ base : Heap, (K w.params).In base → base.Ns mainGlobals mg → FnOk l.prog w (K w.params) mg base (CX w) k fa fd [x] (sp w))
    (hsp : ∀ (w : World) (H : Hp) (a : Addr) (ns : List Int), ns.length ≤ n → Only H → SqL (K w.params) H a (ns.map V.int) → sp w [.ref a] H (fun v _ => v = .bl true) fun _ _ _ => False)
    (hCX : ∀ (w : World) (H : Hp) (s : Shared) (e : Value) (s' : Shared), CX w [] H s (fun _ _ _ => False) e s' → False) :
    PySem.W.WalkO q loose XP YP l.row.toRowW d [] (fun f vs => PySem.call f vs) := by
  refine Att.attach_call hn hdf fun w s₀ s₁ mg mb fa o pm cd doc a vs ns G Y ho hd hcd hmg hobj hints hlen hg => ?_
  have KX := hY w _ Y
  obtain ⟨fd, hb, hF⟩ := F w mg fa _ KX G.T.g hmg
  exact law_call KX G.T.g G.T.b G.T.builtins G.T.nolimit hg hobj hints (Nat.le_trans hlen hn2) hr hF hb (fun H hO hS => hsp w H a ns hlen hO hS) fun H e s' => hCX w H s₁ e s'
end L2
namespace L2
open PySem PySem.Spec PyProof.Rows
def defArgs (s : Stmt) : Arguments := match s with
  | .FunctionDef _ a _ _ _ _ _ _ _ _ => a
  | _ => { posonlyargs := [], args := [], vararg := none, kwonlyargs := [], kw_defaults := [], kwarg := none, defaults := [] }
def defBody (s : Stmt) : List Stmt := match s with
  | .FunctionDef _ _ b _ _ _ _ _ _ _ => b
  | _ => []
def defScope (s : Stmt) : Scope := match s with
  | .FunctionDef _ _ _ _ _ _ sc _ _ _ => sc
  | _ => { kind := .function, names := [], isGenerator := false, isCoroutine := false }
abbrev CX0 : CXT := fun _ _ _ _ _ _ => False
abbrev E0 : XK := fun _ _ _ => False
theorem pass0 {X : Cx} : Passes CX0 X E0 := fun _ _ _ _ _ _ _ h => h.elim
structure Fun (K : PySem.W.Frag) (x qual : Str) (st : Stmt) (f : Addr) (fd : FuncData) : Prop where
  ex : ∃ (oc : Value) (od : Option Addr) (kV doc pm : Value) (an : Option Addr) (cdv ct : Value) (osl : Array (Option Value)),
    fd = PySem.W.fnOf x qual (defArgs st) (defBody st) (defScope st) .none kV doc pm an cdv ct ∧ K.lookup f = some ⟨oc, od, .func fd, osl⟩ ∧ PySem.W.codeIn K cdv qual = true
  kp : PySem.W.keepIn K (.ref f) = true
section
variable {P : Program} {w : World} {K : PySem.W.Frag} {mg : Str → Option Value} {base : Heap}
theorem Fun.ok {x qual : Str} {st : Stmt} {f : Addr} {fd : FuncData} {N ps : List Str} {k : Nat} {sp : Sp} (F : Fun K x qual st f fd) (S : FnScope N ps (defScope st)) (len : ∀ vs H Q E, sp vs H Q E → vs.length = ps.length)
    (hbody : ∀ (cdv : Value) (A : Around) (outer : List Env) (s : Shared) (H : Hp) (vs : List V) (Q : VK) (E : XK), Room k (A.deeper (envOfC qual (defScope st) s.heap.objs.size f cdv)) → sp vs H Q E →
      ∃ t, PSs (cxOf CX0 P w K mg base N qual (defScope st) f cdv A outer s H E).nox (defBody st) t ∧ t { nx := fun _ H' => Q .non H', rt := Q } (start N vs) H) : FnOk P w K mg base CX0 (k + 1) f fd ps sp := by
  obtain ⟨oc, od, kV, doc, pm, an, cdv, ct, osl, rfl, lk, hcd⟩ := F.ex
  refine fn_of lk hcd S len fun A outer s H vs Q E hr hsp => ?_
  obtain ⟨t, h, q⟩ := hbody cdv A outer s H vs Q E hr hsp
  exact ⟨t, h.nox, q⟩
theorem Fun.binds {x qual : Str} {st : Stmt} {f : Addr} {fd : FuncData} {ps : List Str} (F : Fun K x qual st f fd)
    (h : ∀ (kV doc pm : Value) (an : Option Addr) (cdv ct : Value) (us : List Value), us.length = ps.length → bindArgs (PySem.W.fnOf x qual (defArgs st) (defBody st) (defScope st) .none kV doc pm an cdv ct) ⟨us, []⟩ = pure (ps.zip us)) : Binds K fd ps [] := by
  obtain ⟨oc, od, kV, doc, pm, an, cdv, ct, osl, rfl, lk, hcd⟩ := F.ex
  exact .all (h kV doc pm an cdv ct)
theorem fun_mk {x qual : Str} {st : Stmt} {f : Addr} {oc : Value} {od an : Option Addr} {osl : Array (Option Value)} {kV doc pm cdv ct : Value} (l : K.lookup f = some ⟨oc, od, .func (PySem.W.fnOf x qual (defArgs st) (defBody st) (defScope st) .none kV doc pm an cdv ct), osl⟩)
    (c : PySem.W.codeIn K cdv qual = true) (k : PySem.W.keepIn K (.ref f) = true) : Fun K x qual st f (PySem.W.fnOf x qual (defArgs st) (defBody st) (defScope st) .none kV doc pm an cdv ct) := ⟨⟨oc, od, kV, doc, pm, an, cdv, ct, osl, rfl, l, c⟩, k⟩
end
section
variable {X : Cx}
end
def Same (H H' : Hp) : Prop := ∀ b o, H b = some o → H' b = some o
theorem Same.refl (H : Hp) : Same H H := fun _ _ h => h
theorem Same.trans {H H1 H2 : Hp} (a : Same H H1) (b : Same H1 H2) : Same H H2 := fun c o h => b c o (a c o h)
theorem Same.free {H H' : Hp} (e : Same H H') {l : Addr} (h : H' l = Option.none) : H l = Option.none := by
  cases q : H l with
  | none => rfl
  | some o =>
    rw [e l o q] at h
    cases h
theorem Same.seq {K : PySem.W.Frag} {H H' : Hp} {a : Addr} {xs : List V} (e : Same H H') (h : SqL K H a xs) : SqL K H' a xs := by
  rcases h with (h | ⟨o, h⟩) | h
  · exact .inl (.inl (e _ _ h))
  · exact .inl (.inr ⟨o, e _ _ h⟩)
  · exact .inr h
end L2
set_option Elab.async false
set_option linter.all false
set_option maxRecDepth 100000
namespace L2
open PySem PySem.Spec PyProof.Rows
section
variable {κ : Type} [DecidableEq κ]
def valV (kvs : List (κ × V)) (k : κ) : Option V := (kvs.find? fun kv => decide (kv.1 = k)).map (·.2)
def putK (kvs : List (κ × V)) (k : κ) (v : V) : List (κ × V) :=
  if (kvs.any fun kv => decide (kv.1 = k)) = true then kvs.map (fun kv => if kv.1 = k then (kv.1, v) else kv) else kvs ++ [(k, v)]
def dropK (kvs : List (κ × V)) (k : κ) : List (κ × V) := kvs.filter fun kv => decide (kv.1 ≠ k)
theorem valV_pos {p : κ × V} {r : List (κ × V)} {k : κ} (e : p.1 = k) : valV (p :: r) k = some p.2 := by simp [valV, List.find?_cons, e]
theorem valV_neg {p : κ × V} {r : List (κ × V)} {k : κ} (e : ¬ p.1 = k) : valV (p :: r) k = valV r k := by simp [valV, List.find?_cons, e]
theorem valV_any (k : κ) : ∀ kvs : List (κ × V), (kvs.any fun kv => decide (kv.1 = k)) = (valV kvs k).isSome
  | [] => rfl
  | p :: r => by
    rw [List.any_cons]
    by_cases e : p.1 = k
    · simp only [valV_pos e, decide_eq_true e, Bool.true_or, Option.isSome_some]
    · rw [valV_neg e, decide_eq_false e, Bool.false_or]; exact valV_any k r
theorem length_putK (kvs : List (κ × V)) (k : κ) (v : V) : (putK kvs k v).length ≤ kvs.length + 1 := by
  unfold putK
  split
  · rw [List.length_map]; omega
  · rw [List.length_append, List.length_cons, List.length_nil]; omega
theorem RelO.isSome_eq {o : Option V} {u : Option Value} (r : RelO o u) : o.isSome = u.isSome := by
  cases o with
  | none => cases u with
    | none => rfl
    | some _ => exact (show False from r).elim
  | some _ => cases u with
    | none => exact (show False from r).elim
    | some _ => rfl
theorem RelO.getD {o : Option V} {u : Option Value} {d : V} {d' : Value} (r : RelO o u) (rd : RelV d d') : RelV (o.getD d) (u.getD d') := by
  cases o with
  | none => cases u with
    | none => exact rd
    | some _ => exact (show False from r).elim
  | some _ => cases u with
    | none => exact (show False from r).elim
    | some _ => exact r
theorem KV.val {kvs : List (κ × V)} {vs : List (κ × Value)} (r : KV kvs vs) (k : κ) : RelO (valV kvs k) (valueAt vs k) := by
  unfold KV at r
  induction r with
  | nil => exact True.intro
  | @cons p q ps qs h t ih =>
    obtain ⟨h1, h2⟩ := h
    by_cases e : p.1 = k
    · have e' : q.1 = k := h1.symm.trans e
      have b : valueAt (q :: qs) k = some q.2 := by simp [valueAt, List.find?_cons, e']
      rw [valV_pos e, b]; exact h2
    · have e' : ¬ q.1 = k := fun z => e (h1.trans z)
      have b : valueAt (q :: qs) k = valueAt qs k := by simp [valueAt, List.find?_cons, e']
      rw [valV_neg e, b]; exact ih
theorem KV.any {kvs : List (κ × V)} {vs : List (κ × Value)} (r : KV kvs vs) (k : κ) : (kvs.any fun kv => decide (kv.1 = k)) = vs.any fun kv => decide (kv.1 = k) := by
  unfold KV at r
  induction r with
  | nil => rfl
  | cons h t ih => rw [List.any_cons, List.any_cons, ih, h.1]
theorem KV.repl {kvs : List (κ × V)} {vs : List (κ × Value)} (r : KV kvs vs) (k : κ) {y : V} {u : Value} (ry : RelV y u) :
    KV (kvs.map fun kv => if kv.1 = k then (kv.1, y) else kv) (vs.map fun kv => if kv.1 = k then (kv.1, u) else kv) := by
  unfold KV at r ⊢
  induction r with
  | nil => exact .nil
  | @cons p q ps qs h t ih =>
    rw [List.map_cons, List.map_cons]
    refine .cons ?_ ih
    obtain ⟨h1, h2⟩ := h
    by_cases e : p.1 = k
    · rw [if_pos e, if_pos (h1.symm.trans e)]; exact ⟨h1, ry⟩
    · rw [if_neg e, if_neg (fun z => e (h1.trans z))]; exact ⟨h1, h2⟩
theorem KV.put {kvs : List (κ × V)} {vs : List (κ × Value)} (r : KV kvs vs) (k : κ) {y : V} {u : Value} (ry : RelV y u) : KV (putK kvs k y) (stored vs k u) := by
  unfold putK stored
  rw [r.any k]
  by_cases e : (vs.any fun kv => decide (kv.1 = k)) = true
  · rw [if_pos e, if_pos e]; exact r.repl k ry
  · rw [if_neg e, if_neg e]; exact Paired.snoc r ⟨rfl, ry⟩
theorem KV.drop {kvs : List (κ × V)} {vs : List (κ × Value)} (r : KV kvs vs) (k : κ) : KV (dropK kvs k) (without vs k) := by
  unfold KV at r ⊢
  unfold dropK without
  induction r with
  | nil => exact .nil
  | @cons p q ps qs h t ih =>
    obtain ⟨h1, h2⟩ := h
    rw [List.filter_cons, List.filter_cons]
    by_cases e : p.1 = k
    · have a : ¬ decide (p.1 ≠ k) = true := by simp [e]
      have b : ¬ decide (q.1 ≠ k) = true := by simp [h1.symm.trans e]
      rw [if_neg a, if_neg b]; exact ih
    · have e' : ¬ q.1 = k := fun z => e (h1.trans z)
      have a : decide (p.1 ≠ k) = true := by simp [e]
      have b : decide (q.1 ≠ k) = true := by simp [e']
      rw [if_pos a, if_pos b]; exact .cons ⟨h1, h2⟩ ih
theorem KV.length {kvs : List (κ × V)} {vs : List (κ × Value)} (r : KV kvs vs) : kvs.length = vs.length := Paired.length r
end
theorem kV_is {P : Program} {w : World} {k : Key} {u : Value} (r : RelV (kV k) u) : (mixKind P w).is k u = true := by
  cases k with
  | inl i => obtain ⟨t, e⟩ := (show ∃ t, u = Value.int i t from r); subst e; exact mixKind_int P w i t
  | inr x => obtain ⟨t, e⟩ := (show ∃ t, u = Value.str x t from r); subst e; exact mixKind_str P w x t
theorem items_are {P : Program} {w : World} : ∀ {ks : List Key} {us : List Value}, Vals (ks.map kV) us → ItemsAre (mixKind P w) ks us
  | [], _, r => by rw [List.map_nil] at r; cases r; exact .nil
  | k :: ks, _, r => by
    rw [List.map_cons] at r
    cases r with
    | cons h t => exact .cons (kV_is h) (items_are t)
abbrev KT (H : Hp) : List (List Key × V) → List (List Key × Addr × Value) → Prop := Paired fun p q => p.1 = q.1 ∧ H q.2.1 = some (.tup (p.1.map kV)) ∧ RelV p.2 q.2.2
theorem KT.val {H : Hp} {kvs : List (List Key × V)} {xs : List (List Key × Addr × Value)} (r : KT H kvs xs) (k : List Key) : RelO (valV kvs k) ((atKey xs k).map (·.2)) := by
  induction r with
  | nil => exact True.intro
  | @cons p q ps qs h t ih =>
    obtain ⟨h1, _, h2⟩ := h
    by_cases e : p.1 = k
    · have e' : q.1 = k := h1.symm.trans e
      have b : atKey (q :: qs) k = some q.2 := by simp [atKey, List.find?_cons, e']
      rw [valV_pos e, b]; exact h2
    · have e' : ¬ q.1 = k := fun z => e (h1.trans z)
      have b : atKey (q :: qs) k = atKey qs k := by simp [atKey, List.find?_cons, e']
      rw [valV_neg e, b]; exact ih
theorem KT.repl {H : Hp} {kvs : List (List Key × V)} {xs : List (List Key × Addr × Value)} (r : KT H kvs xs) (k : List Key) {y : V} {u : Value} (ry : RelV y u) :
    KT H (kvs.map fun kv => if kv.1 = k then (kv.1, y) else kv) (xs.map (putAt k u)) := by
  induction r with
  | nil => exact .nil
  | @cons p q ps qs h t ih =>
    rw [List.map_cons, List.map_cons]
    refine .cons ?_ ih
    obtain ⟨h1, h2, h3⟩ := h
    unfold putAt
    by_cases e : p.1 = k
    · rw [if_pos e, if_pos (h1.symm.trans e)]; exact ⟨h1, h2, ry⟩
    · rw [if_neg e, if_neg (fun z => e (h1.trans z))]; exact ⟨h1, h2, h3⟩
theorem KT.put {H : Hp} {kvs : List (List Key × V)} {xs : List (List Key × Addr × Value)} (r : KT H kvs xs) (k : List Key) {b : Addr} {y : V} {u : Value} (hb : H b = some (.tup (k.map kV))) (ry : RelV y u) :
    KT H (putK kvs k y) (storedH xs k b u) := by
  have e : (kvs.any fun kv => decide (kv.1 = k)) = (atKey xs k).isSome := by
    rw [valV_any, (r.val k).isSome_eq, Option.isSome_map]
  unfold putK storedH
  rw [e]
  by_cases q : (atKey xs k).isSome = true
  · rw [if_pos q, if_pos q]; exact r.repl k ry
  · rw [if_neg q, if_neg q]; exact Paired.snoc r ⟨rfl, hb, ry⟩
theorem KT.keeps {H H' : Hp} {kvs : List (List Key × V)} {xs : List (List Key × Addr × Value)} (r : KT H kvs xs) (ht : ∀ b ys, H b = some (.tup ys) → H' b = some (.tup ys)) : KT H' kvs xs :=
  Paired.mapP r fun _ _ z => ⟨z.1, ht _ _ z.2.1, z.2.2⟩
section
variable {P : Program} {w : World} {H : Hp} {h : Heap} {a : Addr}
theorem rd_of {u : HO} (ok : HOk P w H h) (e : Rd H a u) : ObjOk P w H h a u := e.ok ok
theorem dk_rd {kvs : List (Key × V)} (ok : HOk P w H h) (e : Rd H a (.dK kvs)) : kvs.length ≤ sizeLine ∧ (a == sysModules) = false ∧ ∃ vs, KV kvs vs ∧ h.DictOf (mixKind P w) a vs :=
  show ObjOk P w H h a (.dK kvs) from rd_of ok e
theorem dk_of {kvs : List (Key × V)} (ok : HOk P w H h) (e : H a = some (.dK kvs)) : kvs.length ≤ sizeLine ∧ (a == sysModules) = false ∧ ∃ vs, KV kvs vs ∧ h.DictOf (mixKind P w) a vs := dk_rd ok (.inl e)
theorem key_of {ks : List Key} (ok : HOk P w H h) (e : H a = some (.tup (ks.map kV))) : (tupleKind (mixKind P w)).is h ks a := by
  obtain ⟨_, its, r, o, h1, h2, n, h3⟩ := (show ObjOk P w H h a (.tup (ks.map kV)) from ok a _ e)
  exact ⟨o, its.toArray, n, h1, h2, (Prod.mk.inj h3).1, by simpa using items_are r⟩
theorem dt_rd {kvs : List (List Key × V)} (ok : HOk P w H h) (e : Rd H a (.dT kvs)) : kvs.length ≤ sizeLine ∧ (a == sysModules) = false ∧
    ∃ xs, KT H kvs xs ∧ h.DictOfH (tupleKind (mixKind P w)) a xs := by
  obtain ⟨z, y, xs, r, o, es, ep, h1, h2, h3, h4, h5⟩ := (show ObjOk P w H h a (.dT kvs) from rd_of ok e)
  refine ⟨z, y, xs, r, o, es, ep, h1, h2, h3, h4, fun x hx => ?_, h5⟩
  have all : ∀ {l : List (List Key × V)} {m : List (List Key × Addr × Value)}, KT H l m → ∀ x ∈ m, (tupleKind (mixKind P w)).is h x.1 x.2.1 := by
    intro l m q
    induction q with
    | nil => intro x hx; exact nomatch hx
    | @cons p q ps qs hq t ih =>
      intro x hx
      rcases List.mem_cons.mp hx with e | hx
      · subst e
        exact key_of ok (by rw [← hq.1]; exact hq.2.1)
      · exact ih x hx
  exact all r x hx
theorem dt_of {kvs : List (List Key × V)} (ok : HOk P w H h) (e : H a = some (.dT kvs)) : kvs.length ≤ sizeLine ∧ (a == sysModules) = false ∧
    ∃ xs, KT H kvs xs ∧ h.DictOfH (tupleKind (mixKind P w)) a xs := dt_rd ok (.inl e)
end
def DGet (H : Hp) (a : Addr) (y : V) (r : Option V) : Prop :=
  (∃ kvs k, Rd H a (.dK kvs) ∧ y = kV k ∧ r = valV kvs k) ∨ ∃ kvs k b, Rd H a (.dT kvs) ∧ y = .ref b ∧ H b = some (.tup (k.map kV)) ∧ r = valV kvs k
def DPut (H : Hp) (a : Addr) (y v : V) (H' : Hp) : Prop :=
  (∃ kvs k, H a = some (.dK kvs) ∧ y = kV k ∧ kvs.length < sizeLine ∧ H' = upd H a (.dK (putK kvs k v))) ∨
  ∃ kvs k b, H a = some (.dT kvs) ∧ y = .ref b ∧ H b = some (.tup (k.map kV)) ∧ kvs.length < sizeLine ∧ H' = upd H a (.dT (putK kvs k v))
theorem DGet.k {H : Hp} {a : Addr} {kvs : List (Key × V)} {k : Key} (e : H a = some (.dK kvs)) : DGet H a (kV k) (valV kvs k) := .inl ⟨kvs, k, .inl e, rfl, rfl⟩
theorem DPut.k {H : Hp} {a : Addr} {kvs : List (Key × V)} {k : Key} {v : V} (e : H a = some (.dK kvs)) (hl : kvs.length < sizeLine) : DPut H a (kV k) v (upd H a (.dK (putK kvs k v))) := .inl ⟨kvs, k, e, rfl, hl, rfl⟩
section
variable {X : Cx} {pins : List (Addr × Obj)} {σ : St} {H : Hp} {s : Shared} {a : Addr} {y v : V} {u r : Value} {o : Option V} {A : Around} {E : Value → Shared → Prop}
theorem Inv.big (I : Inv X pins σ H s) : sysModules < s.heap.objs.size := by
  have h : mainGlobals < s.heap.objs.size := (I.mod.glob.keeps I.bk).lt
  exact Nat.lt_trans (by decide) h
theorem d_in {Q : Value → Shared → Prop} (hu : A.units + 1 < cLine) (I : Inv X pins σ H s) (g : DGet H a y o) (ry : RelV y u) (h : ∀ s', Inv X pins σ H s' → Q (.bool o.isSome) s') :
    wpAny (model X.prog X.w) A (compareOp .In u (.ref a)) Q E s := by
  rcases g with ⟨kvs, k, e, ey, l⟩ | ⟨kvs, k, b, e, ey, eb, l⟩
  · subst ey
    obtain ⟨z, hd, vs, rel, dd⟩ := dk_rd I.hok e
    refine wpAny_in_of (kV_is ry) hd dd.mapOf ?_
    rw [← (rel.val k).isSome_eq, ← l]
    exact h _ (I.tok _)
  · subst ey
    cases (show u = Value.ref b from ry)
    obtain ⟨z, hd, xs, rel, dd⟩ := dt_rd I.hok e
    refine wpAny_in_heap (tupleKind_room_in1 hu) (key_of I.hok eb) hd dd ?_
    have q := (rel.val k).isSome_eq
    rw [Option.isSome_map] at q
    rw [← q, ← l]
    exact h _ (I.tok _)
theorem d_notIn {Q : Value → Shared → Prop} (hu : A.units + 1 < cLine) (I : Inv X pins σ H s) (g : DGet H a y o) (ry : RelV y u) (h : ∀ s', Inv X pins σ H s' → Q (.bool (!o.isSome)) s') :
    wpAny (model X.prog X.w) A (compareOp .NotIn u (.ref a)) Q E s := by
  rcases g with ⟨kvs, k, e, ey, l⟩ | ⟨kvs, k, b, e, ey, eb, l⟩
  · subst ey
    obtain ⟨z, hd, vs, rel, dd⟩ := dk_rd I.hok e
    refine wpAny_notIn_of (kV_is ry) hd dd.mapOf ?_
    rw [← (rel.val k).isSome_eq, ← l]
    exact h _ (I.tok _)
  · subst ey
    cases (show u = Value.ref b from ry)
    obtain ⟨z, hd, xs, rel, dd⟩ := dt_rd I.hok e
    refine wpAny_notIn_heap (tupleKind_room_in1 hu) (key_of I.hok eb) hd dd ?_
    have q := (rel.val k).isSome_eq
    rw [Option.isSome_map] at q
    rw [← q, ← l]
    exact h _ (I.tok _)
theorem d_write {h' : Heap} {t' : Nat} {ob : HO} (I : Inv X pins σ H s) (mu : Mut (H a)) (hs : Heap.SameBut a s.heap h') (he : ∃ q, h'.get? a = some q) (new : ObjOk X.prog X.w (upd H a ob) h' a ob) :
    Inv X pins σ (upd H a ob) { s with heap := h', toks := t' } :=
  I.write (x := a) (e := a) mu (.inl rfl) (fun b q hb z => (hs.2 b hb).trans z) he new
theorem dk_new {P : Program} {w : World} {H' : Hp} {h' : Heap} {kvs : List (Key × V)} {vs : List (Key × Value)} (z : kvs.length ≤ sizeLine) (hd : (a == sysModules) = false) (rel : KV kvs vs) (dd : h'.DictOf (mixKind P w) a vs) :
    ObjOk P w H' h' a (.dK kvs) := ⟨z, hd, vs, rel, dd⟩
theorem d_setItem {H' : Hp} {Q : Unit → Shared → Prop} (hu : A.units + 1 < cLine) (I : Inv X pins σ H s) (g : DPut H a y v H') (ry : RelV y u) (rv : RelV v r) (h : ∀ s', Inv X pins σ H' s' → Q () s') :
    wpAny (model X.prog X.w) A (setItem (.ref a) u r) Q E s := by
  rcases g with ⟨kvs, k, e, ey, l, eH⟩ | ⟨kvs, k, b, e, ey, eb, l, eH⟩
  · subst ey eH
    obtain ⟨z, hd, vs, rel, dd⟩ := dk_of I.hok e
    have hz : vs.length ≤ sizeLine := by rw [← rel.length]; exact z
    have hl : (putK kvs k v).length ≤ sizeLine := by have := length_putK kvs k v; omega
    refine wpAny_setItem_pairs (hsz := hz) (kV_is ry) dd fun h' dd' hs => h _ ?_
    have he : ∃ q, h'.get? a = some q := let ⟨q, _, _, hq, _⟩ := dd'; ⟨q, hq⟩
    exact d_write I (by rw [e]; exact True.intro) hs he (dk_new hl hd (rel.put k rv) dd')
  · subst ey eH
    cases (show u = Value.ref b from ry)
    obtain ⟨z, hd, xs, rel, dd⟩ := dt_of I.hok e
    have hz : xs.length ≤ sizeLine := by rw [← Paired.length rel]; exact z
    have hl : (putK kvs k v).length ≤ sizeLine := by have := length_putK kvs k v; omega
    refine wpAny_setItem_heap (hsz := hz) (tupleKind_room_in1 hu) (key_of I.hok eb) dd fun h' dd' hs => h _ ?_
    obtain ⟨q, es, ep, hq, h2, h3, h4, _, h5⟩ := dd'
    refine d_write I (by rw [e]; exact True.intro) hs ⟨q, hq⟩ ⟨hl, hd, _, (rel.put k eb rv).keeps fun c ys ec => ?_, q, es, ep, hq, h2, h3, h4, h5⟩
    rw [upd_ne (ne_of ec e (fun z => nomatch z))]
    exact ec
end
section
variable {X : Cx} {pins : List (Addr × Obj)} {σ : St} {H : Hp} {s : Shared} {a : Addr} {kvs : List (Key × V)} {k : Key} {u : Value} {A : Around} {E : Value → Shared → Prop}
theorem d_len {Q : Value → Shared → Prop} (I : Inv X pins σ H s) (e : Rd H a (.dK kvs)) (h : ∀ t s', Inv X pins σ H s' → Q (.int kvs.length t) s') : wpAny (model X.prog X.w) A (call (.builtin "len") [.ref a]) Q E s := by
  obtain ⟨z, hd, vs, rel, dd⟩ := dk_rd I.hok e
  refine call_len_dict hd dd (by rw [← rel.length]; rw [sizeLine_eq] at z; omega) ?_
  rw [← rel.length]
  exact h _ _ (I.tok _)
end
section
variable {X : Cx} {o i e value : Expr} {pos pos' tpos : Pos} {td ty tv : TE}
end
theorem dk_empty {P : Program} {w : World} {H : Hp} (h : Heap) (hb : sysModules < h.objs.size) : ObjOk P w H (h.push { cls := .type "dict", data := .dict #[] }) h.objs.size (.dK []) :=
  ⟨Nat.zero_le _, beq_eq_false_iff_ne.mpr (Ne.symm (Nat.ne_of_lt hb)), [], .nil, Heap.DictOf.new h⟩
def tDNewK : TE := fun _ H Q => ∀ p, H p = none → Q (.ref p) (upd H p (.dK []))
section
variable {X : Cx} {pos : Pos}
theorem pe_dnewK : PE X (.Dict [] [] pos) tDNewK := fun pins s σ H Q I h =>
  wpAny_Dict_empty ⟨.ref s.heap.objs.size, _, I.laid (a := s.heap.objs.size) (o := .dK []) (t' := s.toks) (fun _ _ q => Heap.get?_push_of_some _ q) (Nat.le_refl _) (dk_empty s.heap I.big), rfl, h _ (I.hok.fresh (Nat.le_refl _))⟩
end
structure M1 (X : Cx) (o : Expr) (m : Str) (apos : Pos) (e : Expr) (cpos : Pos) : Prop where
  base : attributeBase o m X.env (eval o X.env) = eval o X.env
  few : ((backTo cpos (starEach [e] X.env)).all (fun x => !x.1) && (backToKw cpos (keywordEach [] X.env)).all (fun x => x.1.isSome)
    && decide (([e] : List Expr).length + ([] : List Keyword).length + (if ([] : List Keyword).isEmpty then 0 else 1) < 30)) = true
  line : (apos.endLine == cpos.line) = true
  trees : backTo cpos (starEach [e] X.env) = [(false, eval e X.env)]
structure M2 (X : Cx) (o : Expr) (m : Str) (apos : Pos) (e f : Expr) (cpos : Pos) : Prop where
  base : attributeBase o m X.env (eval o X.env) = eval o X.env
  few : ((backTo cpos (starEach [e, f] X.env)).all (fun x => !x.1) && (backToKw cpos (keywordEach [] X.env)).all (fun x => x.1.isSome)
    && decide (([e, f] : List Expr).length + ([] : List Keyword).length + (if ([] : List Keyword).isEmpty then 0 else 1) < 30)) = true
  line : (apos.endLine == cpos.line) = true
  trees : backTo cpos (starEach [e, f] X.env) = [(false, eval e X.env), (false, eval f X.env)]
section
variable {X : Cx} {pins : List (Addr × Obj)} {σ : St} {H : Hp} {s : Shared} {a : Addr} {y d : V} {u r : Value} {o : Option V} {A : Around} {E : Value → Shared → Prop}
end
section
variable {X : Cx} {o e f : Expr} {apos cpos : Pos} {td ty tx : TE}
end
section
variable {X : Cx} {pins : List (Addr × Obj)} {σ : St} {H : Hp} {s : Shared} {a : Addr} {kvs : List (Key × V)} {A : Around} {E : Value → Shared → Prop}
end
section
variable {X : Cx} {pins : List (Addr × Obj)} {σ : St} {H : Hp} {s : Shared} {a : Addr} {y : V} {u : Value} {A : Around} {E : Value → Shared → Prop}
end
end L2
namespace L2
open PySem PySem.Spec PyProof.Rows
section
variable {X : Cx}
theorem call_lenD : CallR X (.builtin "len") (fun xs H Q => ∃ a kvs, xs = [V.ref a] ∧ H a = some (.dK kvs) ∧ Q (.int kvs.length) H) := by
  intro pins s σ H xs us Q I r h
  obtain ⟨a, kvs, rfl, ha, q⟩ := h
  obtain ⟨u, rfl, ru⟩ := vals1 r
  cases ru
  exact d_len I (.inl ha) fun t s' I' => ⟨.int kvs.length, H, I', ⟨t, rfl⟩, q⟩
end
section
variable {κ : Type} [DecidableEq κ]
end
end L2
set_option Elab.async false
set_option linter.all false
set_option maxRecDepth 100000
namespace DL
open PySem PySem.Spec L2
open PyProof.Rows hiding St
inductive D where
  | non | bl (b : Bool) | int (i : Int) | str (x : Str) | tup (l : List D) | ref (i : Nat) | fn (x : Str) | ty (n : String)
inductive DO where
  | lst (l : List D) | rol (l : List D) | dct (l : List (Key × D)) | rod (l : List (Key × D))
abbrev DH := List DO
abbrev DSt := List (Option D)
structure Wc where
  K : PySem.W.Frag
  mg : Str → Option Value
abbrev wc (X : Cx) : Wc := ⟨X.K, X.mg⟩
mutual
def RepV (c : Wc) (μ : List Addr) (H : Hp) : D → V → Prop
  | .non, v => v = .non
  | .bl b, v => v = .bl b
  | .int i, v => v = .int i
  | .str x, v => v = .str x
  | .ty n, v => v = .ty n
  | .fn x, v => ∃ a, c.mg x = some (.ref a) ∧ v = .ref a
  | .ref i, v => ∃ a, μ[i]? = some a ∧ v = .ref a
  | .tup l, v => ∃ a vs, v = .ref a ∧ SqT c.K H a vs ∧ RepL c μ H l vs
def RepL (c : Wc) (μ : List Addr) (H : Hp) : List D → List V → Prop
  | [], vs => vs = []
  | d :: ds, vs => ∃ v r, vs = v :: r ∧ RepV c μ H d v ∧ RepL c μ H ds r
end
def RepK (c : Wc) (μ : List Addr) (H : Hp) : List (Key × D) → List (Key × V) → Prop
  | [], kvs => kvs = []
  | (k, d) :: r, kvs => ∃ v t, kvs = (k, v) :: t ∧ RepV c μ H d v ∧ RepK c μ H r t
structure Ext (μ : List Addr) (H : Hp) (μ' : List Addr) (H' : Hp) : Prop where
  pre : μ <+: μ'
  new : ∀ a ∈ μ', a ∉ μ → H a = none
  oth : ∀ b o, H b = some o → b ∉ μ → H' b = some o
  tup : ∀ b xs, H b = some (.tup xs) → H' b = some (.tup xs)
  frz : ∀ b o u, H b = some (.frz o u) → H' b = some (.frz o u)
theorem Ext.refl (μ : List Addr) (H : Hp) : Ext μ H μ H := ⟨List.prefix_refl _, fun a h n => absurd h n, fun _ _ h _ => h, fun _ _ h => h, fun _ _ _ h => h⟩
theorem Ext.trans {μ μ1 μ2 : List Addr} {H H1 H2 : Hp} (a : Ext μ H μ1 H1) (b : Ext μ1 H1 μ2 H2) : Ext μ H μ2 H2 where
  pre := a.pre.trans b.pre
  new := fun x h n => by
    by_cases h1 : x ∈ μ1
    · exact a.new x h1 n
    · have e1 := b.new x h h1
      cases e : H x with
      | none => rfl
      | some o => rw [a.oth x o e n] at e1; cases e1
  oth := fun x o e n => by
    refine b.oth x o (a.oth x o e n) fun h1 => ?_
    have := a.new x h1 n
    rw [e] at this; cases this
  tup := fun x xs e => b.tup x xs (a.tup x xs e)
  frz := fun x o u e => b.frz x o u (a.frz x o u e)
theorem Ext.lay {μ : List Addr} {H : Hp} {p : Addr} (h : H p = none) (o : HO) : Ext μ H μ (upd H p o) :=
  ⟨List.prefix_refl _, fun a h n => absurd h n, fun b o' q _ => by rw [upd_ne (ne_of_none q h)]; exact q, fun b xs q => by rw [upd_ne (ne_of_none q h)]; exact q, fun b o' u q => by rw [upd_ne (ne_of_none q h)]; exact q⟩
theorem Ext.add {μ : List Addr} {H : Hp} {p : Addr} (h : H p = none) (o : HO) : Ext μ H (μ ++ [p]) (upd H p o) :=
  ⟨List.prefix_append _ _, fun a ha n => by
    rcases List.mem_append.mp ha with z | z
    · exact absurd z n
    · rw [List.mem_singleton.mp z]; exact h, fun b o' q _ => by rw [upd_ne (ne_of_none q h)]; exact q, fun b xs q => by rw [upd_ne (ne_of_none q h)]; exact q, fun b o' u q => by rw [upd_ne (ne_of_none q h)]; exact q⟩
theorem Ext.mut {μ : List Addr} {H : Hp} {p : Addr} {o' : HO} (hp : p ∈ μ) (h : H p = some o') (n1 : ∀ xs, o' ≠ .tup xs) (n2 : ∀ o u, o' ≠ .frz o u) (o : HO) : Ext μ H μ (upd H p o) :=
  ⟨List.prefix_refl _, fun a h n => absurd h n, fun b o2 q n => by rw [upd_ne (fun e => n (by rw [e]; exact hp))]; exact q, fun b xs q => by
    rw [upd_ne (fun e => by subst e; rw [h] at q; cases q; exact n1 _ rfl)]; exact q,
   fun b oo u q => by
    rw [upd_ne (fun e => by subst e; rw [h] at q; cases q; exact n2 _ _ rfl)]; exact q⟩
theorem Ext.sqT {μ μ' : List Addr} {K : PySem.W.Frag} {H H' : Hp} (k : Ext μ H μ' H') {a : Addr} {xs : List V} (h : SqT K H a xs) : SqT K H' a xs := by
  rcases h with (h | ⟨o, h⟩) | h
  · exact .inl (.inl (k.tup _ _ h))
  · exact .inl (.inr ⟨o, k.frz _ _ _ h⟩)
  · exact .inr h
def RoL (K : PySem.W.Frag) (H : Hp) (a : Addr) (xs : List V) : Prop := (∃ o, H a = some (.frz o (.lst xs))) ∨ (SqL K (fun _ => none) a xs)
theorem sqL_none {K : PySem.W.Frag} {H : Hp} {a : Addr} {xs : List V} (h : SqL K (fun _ => none) a xs) : SqL K H a xs := by
  rcases h with (h | ⟨o, h⟩) | h
  · cases h
  · cases h
  · exact .inr h
theorem RoL.sq {K : PySem.W.Frag} {H : Hp} {a : Addr} {xs : List V} (h : RoL K H a xs) : SqL K H a xs := by
  rcases h with ⟨o, h⟩ | h
  · exact .inl (.inr ⟨o, h⟩)
  · exact sqL_none h
theorem Ext.roL {μ μ' : List Addr} {K : PySem.W.Frag} {H H' : Hp} (k : Ext μ H μ' H') {a : Addr} {xs : List V} (h : RoL K H a xs) : RoL K H' a xs := by
  rcases h with ⟨o, h⟩ | h
  · exact .inl ⟨o, k.frz _ _ _ h⟩
  · exact .inr h
section
variable {c : Wc} {μ μ' : List Addr} {H H' : Hp}
theorem pre_get {μ μ' : List Addr} (h : μ <+: μ') {i : Nat} {a : Addr} (e : μ[i]? = some a) : μ'[i]? = some a := by
  obtain ⟨t, rfl⟩ := h
  have : i < μ.length := by
    rcases Nat.lt_or_ge i μ.length with q | q
    · exact q
    · rw [List.getElem?_eq_none q] at e; cases e
  rw [List.getElem?_append_left this]; exact e
mutual
theorem RepV.mono (x : Ext μ H μ' H') : ∀ {d : D} {v : V}, RepV c μ H d v → RepV c μ' H' d v
  | .non, _, h => h
  | .bl _, _, h => h
  | .int _, _, h => h
  | .str _, _, h => h
  | .ty _, _, h => h
  | .fn _, _, h => h
  | .ref i, v, h => by
    unfold RepV at h ⊢
    obtain ⟨a, e, r⟩ := h
    exact ⟨a, pre_get x.pre e, r⟩
  | .tup l, v, h => by
    unfold RepV at h ⊢
    obtain ⟨a, vs, e, q, r⟩ := h
    exact ⟨a, vs, e, x.sqT q, RepL.mono x r⟩
theorem RepL.mono (x : Ext μ H μ' H') : ∀ {l : List D} {vs : List V}, RepL c μ H l vs → RepL c μ' H' l vs
  | [], _, h => h
  | d :: ds, vs, h => by
    unfold RepL at h ⊢
    obtain ⟨v, r, e, q, t⟩ := h
    exact ⟨v, r, e, RepV.mono x q, RepL.mono x t⟩
end
theorem RepK.mono (x : Ext μ H μ' H') : ∀ {l : List (Key × D)} {vs : List (Key × V)}, RepK c μ H l vs → RepK c μ' H' l vs
  | [], _, h => h
  | (_, d) :: ds, vs, h => by
    obtain ⟨v, r, e, q, t⟩ := h
    exact ⟨v, r, e, RepV.mono x q, RepK.mono x t⟩
theorem RepL.nil : RepL c μ H [] [] := rfl
theorem RepL.cons {d : D} {v : V} {ds : List D} {vs : List V} (h : RepV c μ H d v) (t : RepL c μ H ds vs) : RepL c μ H (d :: ds) (v :: vs) := ⟨v, vs, rfl, h, t⟩
theorem RepL.length : ∀ {l : List D} {vs : List V}, RepL c μ H l vs → l.length = vs.length
  | [], _, h => by cases h; rfl
  | _ :: _, _, h => by obtain ⟨v, r, rfl, _, t⟩ := h; simp [RepL.length t]
theorem RepL.get : ∀ {l : List D} {vs : List V} {i : Nat} {d : D}, RepL c μ H l vs → l[i]? = some d → ∃ v, vs[i]? = some v ∧ RepV c μ H d v
  | [], _, _, _, _, e => by simp at e
  | _ :: _, _, 0, _, h, e => by
    obtain ⟨v, r, rfl, q, t⟩ := h
    simp at e; subst e
    exact ⟨v, rfl, q⟩
  | _ :: _, _, i + 1, _, h, e => by
    obtain ⟨v, r, rfl, q, t⟩ := h
    simp at e
    obtain ⟨w, h1, h2⟩ := RepL.get t e
    exact ⟨w, by simpa using h1, h2⟩
theorem RepL.append : ∀ {l l' : List D} {vs vs' : List V}, RepL c μ H l vs → RepL c μ H l' vs' → RepL c μ H (l ++ l') (vs ++ vs')
  | [], _, _, _, h, t => by cases h; exact t
  | _ :: _, _, _, _, h, t => by
    obtain ⟨v, r, rfl, q, u⟩ := h
    exact ⟨v, r ++ _, rfl, q, RepL.append u t⟩
theorem RepL.take : ∀ (n : Nat) {l : List D} {vs : List V}, RepL c μ H l vs → RepL c μ H (l.take n) (vs.take n)
  | 0, _, _, _ => rfl
  | _ + 1, [], _, h => by cases h; rfl
  | n + 1, _ :: _, _, h => by
    obtain ⟨v, r, rfl, q, u⟩ := h
    exact ⟨v, r.take n, rfl, q, RepL.take n u⟩
theorem RepL.drop : ∀ (n : Nat) {l : List D} {vs : List V}, RepL c μ H l vs → RepL c μ H (l.drop n) (vs.drop n)
  | 0, _, _, h => h
  | _ + 1, [], _, h => by cases h; rfl
  | n + 1, _ :: _, _, h => by
    obtain ⟨v, r, rfl, q, u⟩ := h
    exact RepL.drop n u
theorem RepL.set {d : D} {v : V} (hv : RepV c μ H d v) : ∀ (n : Nat) {l : List D} {vs : List V}, RepL c μ H l vs → RepL c μ H (l.set n d) (vs.set n v)
  | _, [], _, h => by cases h; rfl
  | 0, _ :: _, _, h => by
    obtain ⟨w, r, rfl, q, u⟩ := h
    exact ⟨v, r, rfl, hv, u⟩
  | n + 1, _ :: _, _, h => by
    obtain ⟨w, r, rfl, q, u⟩ := h
    exact ⟨w, r.set n v, rfl, q, RepL.set hv n u⟩
def isRol : Option DO → Prop
  | some (.rol _) => True
  | some (.rod _) => True
  | _ => False
def ObjRep (c : Wc) (μ : List Addr) (H : Hp) (a : Addr) : DO → Prop
  | .lst l => ∃ vs, H a = some (.lst vs) ∧ RepL c μ H l vs
  | .rol l => ∃ vs, RoL c.K H a vs ∧ RepL c μ H l vs
  | .dct l => ∃ kvs, H a = some (.dK kvs) ∧ RepK c μ H l kvs
  | .rod l => ∃ kvs o, H a = some (.frz o (.dK kvs)) ∧ RepK c μ H l kvs
structure HRep (c : Wc) (μ : List Addr) (G : DH) (H : Hp) : Prop where
  len : μ.length = G.length
  inj : ∀ (i j : Nat) (a : Addr), μ[i]? = some a → μ[j]? = some a → i = j ∨ isRol G[i]? ∨ isRol G[j]?
  obj : ∀ (i : Nat) (o : DO) (a : Addr), G[i]? = some o → μ[i]? = some a → ObjRep c μ H a o
variable {G : DH}
theorem lt_of_get {α : Type} {l : List α} {i : Nat} {x : α} (e : l[i]? = some x) : i < l.length := by
  rcases Nat.lt_or_ge i l.length with q | q
  · exact q
  · rw [List.getElem?_eq_none q] at e; cases e
theorem HRep.at (h : HRep c μ G H) {i : Nat} {o : DO} (e : G[i]? = some o) : ∃ a, μ[i]? = some a ∧ ObjRep c μ H a o := by
  have q : i < μ.length := by rw [h.len]; exact lt_of_get e
  exact ⟨μ[i], List.getElem?_eq_getElem q, h.obj i o _ e (List.getElem?_eq_getElem q)⟩
theorem ObjRep.mono (x : Ext μ H μ' H') {a : Addr} {o : DO} (h : ObjRep c μ H a o) (e : H' a = H a ∨ isRol (some o)) : ObjRep c μ' H' a o := by
  cases o with
  | lst l =>
    obtain ⟨vs, q, r⟩ := h
    rcases e with e | e
    · exact ⟨vs, e.trans q, r.mono x⟩
    · exact e.elim
  | rol l => obtain ⟨vs, q, r⟩ := h; exact ⟨vs, x.roL q, r.mono x⟩
  | rod l => obtain ⟨vs, o, q, r⟩ := h; exact ⟨vs, o, x.frz _ _ _ q, r.mono x⟩
  | dct l =>
    obtain ⟨vs, q, r⟩ := h
    rcases e with e | e
    · exact ⟨vs, e.trans q, r.mono x⟩
    · exact e.elim
theorem ObjRep.some_of {a : Addr} {o : DO} (h : ObjRep c μ H a o) (n : ¬ isRol (some o)) : ∃ u, H a = some u ∧ (∀ xs, u ≠ .tup xs) ∧ ∀ o' u', u ≠ .frz o' u' := by
  cases o with
  | lst l => obtain ⟨vs, q, _⟩ := h; exact ⟨_, q, (fun _ z => nomatch z), (fun _ _ z => nomatch z)⟩
  | rol l => exact (n trivial).elim
  | rod l => exact (n trivial).elim
  | dct l => obtain ⟨vs, q, _⟩ := h; exact ⟨_, q, (fun _ z => nomatch z), (fun _ _ z => nomatch z)⟩
theorem HRep.same (h : HRep c μ G H) (k : Ext μ H μ H') (e : ∀ a o, H a = some o → (∀ xs, o ≠ .tup xs) → H' a = some o) : HRep c μ G H' :=
  ⟨h.len, h.inj, fun i o a g m => by
    have q := h.obj i o a g m
    by_cases hr : isRol (some o)
    · exact q.mono k (.inr hr)
    · obtain ⟨u, e1, n1, n2⟩ := q.some_of hr
      exact q.mono k (.inl ((e a u e1 n1).trans e1.symm))⟩
theorem HRep.new {p : Addr} {o : DO} {u : HO} (h : HRep c μ G H) (hp : H p = none) (ho : ObjRep c (μ ++ [p]) (upd H p u) p o) : HRep c (μ ++ [p]) (G ++ [o]) (upd H p u) := by
  have k : Ext μ H (μ ++ [p]) (upd H p u) := Ext.add hp u
  have old : ∀ (i : Nat) (a : Addr), i < μ.length → (μ ++ [p])[i]? = some a → μ[i]? = some a := fun i a hi e => by
    rw [List.getElem?_append_left hi] at e; exact e
  refine ⟨by simp [h.len], fun i j a ei ej => ?_, fun i o' a g m => ?_⟩
  · have li := lt_of_get ei
    have lj := lt_of_get ej
    simp only [List.length_append, List.length_singleton] at li lj
    by_cases hi : i < μ.length
    · have mi := old i a hi ei
      have gi : (G ++ [o])[i]? = G[i]? := List.getElem?_append_left (by rw [← h.len]; exact hi)
      by_cases hj : j < μ.length
      · have mj := old j a hj ej
        have gj : (G ++ [o])[j]? = G[j]? := List.getElem?_append_left (by rw [← h.len]; exact hj)
        rw [gi, gj]
        exact h.inj i j a mi mj
      · -- j is the new one: a = p
        have ej' : j = μ.length := by omega
        subst ej'
        have ea : a = p := by simpa using ej.symm
        subst ea
        right; left
        rw [gi]
        have hg : i < G.length := by rw [← h.len]; exact hi
        have q := h.obj i G[i] a (List.getElem?_eq_getElem hg) mi
        rw [List.getElem?_eq_getElem hg]
        refine Classical.byContradiction fun n => ?_
        obtain ⟨u', e1, _⟩ := q.some_of n
        rw [hp] at e1; cases e1
    · have ei' : i = μ.length := by omega
      by_cases hj : j < μ.length
      · have mj := old j a hj ej
        have gj : (G ++ [o])[j]? = G[j]? := List.getElem?_append_left (by rw [← h.len]; exact hj)
        subst ei'
        have ea : a = p := by simpa using ei.symm
        subst ea
        right; right
        rw [gj]
        have hg : j < G.length := by rw [← h.len]; exact hj
        have q := h.obj j G[j] a (List.getElem?_eq_getElem hg) mj
        rw [List.getElem?_eq_getElem hg]
        refine Classical.byContradiction fun n => ?_
        obtain ⟨u', e1, _⟩ := q.some_of n
        rw [hp] at e1; cases e1
      · left; omega
  · have li := lt_of_get m
    simp only [List.length_append, List.length_singleton] at li
    by_cases hi : i < μ.length
    · have mi := old i a hi m
      rw [List.getElem?_append_left (by rw [← h.len]; exact hi)] at g
      have q := h.obj i o' a g mi
      by_cases hr : isRol (some o')
      · exact q.mono k (.inr hr)
      · obtain ⟨u', e1, _⟩ := q.some_of hr
        exact q.mono k (.inl (upd_ne (ne_of_none e1 hp)))
    · have ei' : i = μ.length := by omega
      subst ei'
      have ea : a = p := by simpa using m.symm
      subst ea
      rw [h.len] at g
      have eo : o' = o := by simpa using g.symm
      subst eo
      exact ho
theorem HRep.set {i : Nat} {a : Addr} {o o' : DO} {u : HO} (h : HRep c μ G H) (g : G[i]? = some o) (n : ¬ isRol (some o)) (m : μ[i]? = some a) (k : Ext μ H μ (upd H a u)) (n' : ¬ isRol (some o')) (ho : ObjRep c μ (upd H a u) a o') : HRep c μ (G.set i o') (upd H a u) := by
  have hi : i < G.length := lt_of_get g
  have get : ∀ j, (G.set i o')[j]? = if i = j then some o' else G[j]? := fun j => by
    rw [List.getElem?_set]
    by_cases e : i = j
    · subst e; simp [hi]
    · simp [e]
  refine ⟨by simp [h.len], fun j l b ej el => ?_, fun j o2 b gj mj => ?_⟩
  · rcases h.inj j l b ej el with e | e | e
    · exact .inl e
    · by_cases ij : i = j
      · subst ij; rw [g] at e; exact (n e).elim
      · right; left; rw [get, if_neg ij]; exact e
    · by_cases ij : i = l
      · subst ij; rw [g] at e; exact (n e).elim
      · right; right; rw [get, if_neg ij]; exact e
  · rw [get] at gj
    by_cases ij : i = j
    · subst ij
      rw [if_pos rfl] at gj
      cases gj
      rw [m] at mj
      cases mj
      exact ho
    · rw [if_neg ij] at gj
      have q := h.obj j o2 b gj mj
      by_cases hr : isRol (some o2)
      · exact q.mono k (.inr hr)
      · have nb : b ≠ a := fun e => by
          subst e
          rcases h.inj i j b m mj with e | e | e
          · exact ij e
          · rw [g] at e; exact n e
          · rw [gj] at e; exact hr e
        exact q.mono k (.inl (upd_ne nb))
def StRep (c : Wc) (μ : List Addr) (H : Hp) (dσ : DSt) (σ : St) : Prop := dσ.length = σ.length ∧ ∀ (i : Nat) (d : D), dσ[i]? = some (some d) → ∃ v, σ[i]? = some (some v) ∧ RepV c μ H d v
theorem StRep.mono (x : Ext μ H μ' H') {dσ : DSt} {σ : St} (h : StRep c μ H dσ σ) : StRep c μ' H' dσ σ :=
  ⟨h.1, fun i d e => let ⟨v, a, b⟩ := h.2 i d e; ⟨v, a, b.mono x⟩⟩
theorem StRep.put {dσ : DSt} {σ : St} (h : StRep c μ H dσ σ) {d : D} {v : V} (r : RepV c μ H d v) (i : Nat) : StRep c μ H (dσ.set i (some d)) (σ.set i (some v)) := by
  refine ⟨by simp [h.1], fun j d' e => ?_⟩
  rw [List.getElem?_set] at e ⊢
  by_cases ij : i = j
  · subst ij
    rw [if_pos rfl] at e ⊢
    rw [← h.1]
    split at e
    · rename_i hl
      rw [if_pos hl]
      cases e
      exact ⟨v, rfl, r⟩
    · cases e
  · rw [if_neg ij] at e ⊢
    exact h.2 j d' e
end
def M (α : Type) := DH → Option (Except Str α × DH)
namespace M
def pure {α : Type} (a : α) : M α := fun G => some (.ok a, G)
def bind {α β : Type} (m : M α) (f : α → M β) : M β := fun G => match m G with
  | none => none
  | some (.ok a, G1) => f a G1
  | some (.error x, G1) => some (.error x, G1)
def stuck {α : Type} : M α := fun _ => none
end M
instance : Monad M := { pure := M.pure, bind := M.bind }
theorem M.bind_eq {α β : Type} (m : M α) (f : α → M β) (G : DH) : (m >>= f) G = match m G with
  | none => none
  | some (.ok a, G1) => f a G1
  | some (.error x, G1) => some (.error x, G1) := rfl
theorem M.bind_ok {α β : Type} {m : M α} {f : α → M β} {G G1 : DH} {a : α} (h : m G = some (.ok a, G1)) : (m >>= f) G = f a G1 := by rw [M.bind_eq, h]
theorem M.bind_assoc {α β γ : Type} (m : M α) (f : α → M β) (g : β → M γ) : ((m >>= f) >>= g) = (m >>= fun a => f a >>= g) := by
  funext G
  simp only [M.bind_eq]
  cases m G with
  | none => rfl
  | some p => obtain ⟨r, G1⟩ := p; cases r <;> rfl
abbrev XC := Str → List Addr → DH → Hp → Prop
def ZF : XC := fun _ _ _ _ => False
def Post {α : Type} (c : Wc) (Z : XC) (μ : List Addr) (H : Hp) (r : Option (Except Str α × DH)) (K : α → List Addr → DH → Hp → Prop) : Prop :=
  match r with
  | none => False
  | some (.ok a, G') => ∀ μ' H', Ext μ H μ' H' → HRep c μ' G' H' → K a μ' G' H'
  | some (.error x, G') => ∀ μ' H', Ext μ H μ' H' → HRep c μ' G' H' → Z x μ' G' H'
section
variable {α β : Type} {c : Wc} {Z : XC} {μ μ' : List Addr} {H H' : Hp}
theorem Post.mono {r : Option (Except Str α × DH)} {K K' : α → List Addr → DH → Hp → Prop} (h : Post c Z μ H r K)
    (k : ∀ a μ' G' H', Ext μ H μ' H' → HRep c μ' G' H' → K a μ' G' H' → K' a μ' G' H') : Post c Z μ H r K' := by
  match r, h with
  | some (.ok a, G'), h => exact fun μ' H' p e => k a μ' G' H' p e (h μ' H' p e)
  | some (.error x, G'), h => exact h
theorem Post.from {r : Option (Except Str α × DH)} {K : α → List Addr → DH → Hp → Prop} (h : Post c Z μ H r K) (p : Ext μ H μ' H') : Post c Z μ' H' r K := by
  match r, h with
  | some (.ok a, G'), h => exact fun μ2 H2 p2 e => h μ2 H2 (p.trans p2) e
  | some (.error x, G'), h => exact fun μ2 H2 p2 e => h μ2 H2 (p.trans p2) e
theorem Post.bind {m : M α} {f : α → M β} {G : DH} {K : β → List Addr → DH → Hp → Prop} (h : Post c Z μ H ((m >>= f) G) K) :
    Post c Z μ H (m G) (fun a μ' G' H' => Post c Z μ' H' (f a G') K) := by
  rw [M.bind_eq] at h
  match m G, h with
  | some (.ok a, G'), h => exact fun μ' H' p e => Post.from h p
  | some (.error x, G'), h => exact h
theorem Post.ok {a : α} {G : DH} {K : α → List Addr → DH → Hp → Prop} (h : Post c Z μ H (some (.ok a, G)) K) (e : HRep c μ G H) : K a μ G H := h μ H (Ext.refl _ _) e
end
inductive Fl where
  | nx (σ : DSt) | rt (d : D) | bk (σ : DSt) | ct (σ : DSt)
section
variable (c : Wc) (Z : XC)
def liftE (f : DSt → M D) : TE := fun σ H Q => ∃ dσ μ G, StRep c μ H dσ σ ∧ HRep c μ G H ∧ Post c Z μ H (f dσ G) fun d μ' _ H' => ∀ v, RepV c μ' H' d v → Q v H'
def liftT (f : DSt → M Bool) : TT := fun σ H Q => ∃ dσ μ G, StRep c μ H dσ σ ∧ HRep c μ G H ∧ Post c Z μ H (f dσ G) fun b μ' _ H' => Q b H'
def liftA (f : DSt → M (List D)) : TA := fun σ H Q => ∃ dσ μ G, StRep c μ H dσ σ ∧ HRep c μ G H ∧ Post c Z μ H (f dσ G) fun ds μ' _ H' => ∀ vs, RepL c μ' H' ds vs → Q vs H'
def EndOk (E : Ends) (fl : Fl) (μ : List Addr) (H : Hp) : Prop := match fl with
  | .nx dσ => ∀ σ, StRep c μ H dσ σ → E.nx σ H
  | .rt d => ∀ v, RepV c μ H d v → E.rt v H
  | .bk dσ => ∀ σ, StRep c μ H dσ σ → E.bk σ H
  | .ct dσ => ∀ σ, StRep c μ H dσ σ → E.ct σ H
def liftS (f : DSt → M Fl) : TS := fun E σ H => ∃ dσ μ G, StRep c μ H dσ σ ∧ HRep c μ G H ∧ Post c Z μ H (f dσ G) fun fl μ' _ H' => EndOk c E fl μ' H'
end
structure DE (X : Cx) (Z : XC) (e : Expr) (f : DSt → M D) : Prop where
  h : PE X e (liftE (wc X) Z f)
structure DT (X : Cx) (Z : XC) (e : Expr) (f : DSt → M Bool) : Prop where
  h : PT X e (liftT (wc X) Z f)
structure DA (X : Cx) (Z : XC) (e : List Expr) (f : DSt → M (List D)) : Prop where
  h : PA X e (liftA (wc X) Z f)
structure DS (X : Cx) (Z : XC) (e : Stmt) (f : DSt → M Fl) : Prop where
  h : PS X e (liftS (wc X) Z f)
structure DB (X : Cx) (Z : XC) (e : List Stmt) (f : DSt → M Fl) : Prop where
  h : PSs X e (liftS (wc X) Z f)
theorem PE.mono {X : Cx} {e : Expr} {t t' : TE} (h : PE X e t) (k : ∀ σ H Q, t' σ H Q → t σ H Q) : PE X e t' := fun pins s σ H Q I q => h pins s σ H Q I (k σ H Q q)
theorem PT.mono {X : Cx} {e : Expr} {t t' : TT} (h : PT X e t) (k : ∀ σ H Q, t' σ H Q → t σ H Q) : PT X e t' := fun pins s σ H Q I q => h pins s σ H Q I (k σ H Q q)
theorem PW.mono {X : Cx} {e : Expr} {t t' : TT} (h : PW X e t) (k : ∀ σ H Q, t' σ H Q → t σ H Q) : PW X e t' := fun wh pins s σ H Q I q => h wh pins s σ H Q I (k σ H Q q)
theorem PA.mono {X : Cx} {e : List Expr} {t t' : TA} (h : PA X e t) (k : ∀ σ H Q, t' σ H Q → t σ H Q) : PA X e t' := fun pos pins s σ H Q I q => h pos pins s σ H Q I (k σ H Q q)
theorem PS.mono {X : Cx} {e : Stmt} {t t' : TS} (h : PS X e t) (k : ∀ E σ H, t' E σ H → t E σ H) : PS X e t' := fun pins s σ H E I q => h pins s σ H E I (k E σ H q)
theorem PSs.mono {X : Cx} {e : List Stmt} {t t' : TS} (h : PSs X e t) (k : ∀ E σ H, t' E σ H → t E σ H) : PSs X e t' := fun pins s σ H E I q => h pins s σ H E I (k E σ H q)
theorem DE.of {X : Cx} {Z : XC} {e : Expr} {f : DSt → M D} {t : TE} (h : PE X e t) (k : ∀ σ H Q, liftE (wc X) Z f σ H Q → t σ H Q) : DE X Z e f := ⟨PE.mono h k⟩
theorem DT.of {X : Cx} {Z : XC} {e : Expr} {f : DSt → M Bool} {t : TT} (h : PT X e t) (k : ∀ σ H Q, liftT (wc X) Z f σ H Q → t σ H Q) : DT X Z e f := ⟨PT.mono h k⟩
theorem DA.of {X : Cx} {Z : XC} {e : List Expr} {f : DSt → M (List D)} {t : TA} (h : PA X e t) (k : ∀ σ H Q, liftA (wc X) Z f σ H Q → t σ H Q) : DA X Z e f := ⟨PA.mono h k⟩
theorem DS.of {X : Cx} {Z : XC} {e : Stmt} {f : DSt → M Fl} {t : TS} (h : PS X e t) (k : ∀ E σ H, liftS (wc X) Z f E σ H → t E σ H) : DS X Z e f := ⟨PS.mono h k⟩
theorem DB.of {X : Cx} {Z : XC} {e : List Stmt} {f : DSt → M Fl} {t : TS} (h : PSs X e t) (k : ∀ E σ H, liftS (wc X) Z f E σ H → t E σ H) : DB X Z e f := ⟨PSs.mono h k⟩
end DL
set_option Elab.async false
set_option linter.all false
set_option maxRecDepth 100000
namespace DL
open PySem PySem.Spec L2
open PyProof.Rows hiding St
def notStar : Expr → Bool
  | .Starred .. => false
  | _ => true
theorem q14 {e : Expr} {es : List Expr} {env : Env} (h : notStar e = true) : starEach (e :: es) env = (false, eval e env) :: starEach es env := by
  cases e <;> first
    | rfl
    | cases h
theorem star_one {e : Expr} {env : Env} (h : notStar e = true) : starEach [e] env = [(false, eval e env)] := q14 h
theorem star_two {a b : Expr} {env : Env} (h : notStar a = true) (h' : notStar b = true) : starEach [a, b] env = [(false, eval a env), (false, eval b env)] := by rw [q14 h, star_one h']
abbrev Fe := DSt → M D
def varE (i : Nat) : Fe := fun σ G => match σ[i]? with
  | some (some d) => some (.ok d, G)
  | _ => none
def cE (d : D) : Fe := fun _ => pure d
def binE (o : D → D → M D) (a b : Fe) : Fe := fun σ => do o (← a σ) (← b σ)
def unE (o : D → M D) (a : Fe) : Fe := fun σ => do o (← a σ)
def q11 : DSt → M (List D) := fun _ => pure []
def q10 (a : Fe) (r : DSt → M (List D)) : DSt → M (List D) := fun σ => do
  let x ← a σ
  let xs ← r σ
  pure (x :: xs)
def q12 (F : List D → M D) (a : DSt → M (List D)) : Fe := fun σ => do F (← a σ)
def isBl : D → M Bool
  | .bl b => pure b
  | _ => M.stuck
def ifE (t : DSt → M Bool) (a b : Fe) : Fe := fun σ => do if ← t σ then a σ else b σ
section
variable (c : Wc) (Z : XC)
def liftR2 (o : D → D → M D) : R2 := fun x y H Q => ∃ dx dy μ G, RepV c μ H dx x ∧ RepV c μ H dy y ∧ HRep c μ G H ∧ Post c Z μ H (o dx dy G) fun d μ' _ H' => ∀ v, RepV c μ' H' d v → Q v H'
def liftR1 (o : D → M D) : V → Hp → VK → Prop := fun x H Q => ∃ dx μ G, RepV c μ H dx x ∧ HRep c μ G H ∧ Post c Z μ H (o dx G) fun d μ' _ H' => ∀ v, RepV c μ' H' d v → Q v H'
def liftRL (F : List D → M D) : List V → Hp → VK → Prop := fun xs H Q => ∃ ds μ G, RepL c μ H ds xs ∧ HRep c μ G H ∧ Post c Z μ H (F ds G) fun d μ' _ H' => ∀ v, RepV c μ' H' d v → Q v H'
end
structure OpD (X : Cx) (Z : XC) (f : Value → Value → Sem Value) (o : D → D → M D) : Prop where
  h : OpR X f (liftR2 (wc X) Z o)
structure UnD (X : Cx) (Z : XC) (f : Value → Sem Value) (o : D → M D) : Prop where
  h : UnR X f (liftR1 (wc X) Z o)
structure CallD (X : Cx) (Z : XC) (f : Value) (F : List D → M D) : Prop where
  h : CallR X f (liftRL (wc X) Z F)
theorem OpR.mono {X : Cx} {f : Value → Value → Sem Value} {r r' : R2} (h : OpR X f r) (k : ∀ x y H Q, r' x y H Q → r x y H Q) : OpR X f r' := fun pins s σ H x y v u Q I rx ry q => h pins s σ H x y v u Q I rx ry (k x y H Q q)
theorem CallR.mono {X : Cx} {f : Value} {r r' : List V → Hp → VK → Prop} (h : CallR X f r) (k : ∀ xs H Q, r' xs H Q → r xs H Q) : CallR X f r' := fun pins s σ H xs us Q I rx q => h pins s σ H xs us Q I rx (k xs H Q q)
theorem OpD.of {X : Cx} {Z : XC} {f : Value → Value → Sem Value} {o : D → D → M D} {r : R2} (h : OpR X f r) (k : ∀ x y H Q, liftR2 (wc X) Z o x y H Q → r x y H Q) : OpD X Z f o := ⟨OpR.mono h k⟩
theorem CallD.of {X : Cx} {Z : XC} {f : Value} {F : List D → M D} {r : List V → Hp → VK → Prop} (h : CallR X f r) (k : ∀ xs H Q, liftRL (wc X) Z F xs H Q → r xs H Q) : CallD X Z f F := ⟨CallR.mono h k⟩
section
variable {X : Cx} {Z : XC} {a b c e : Expr} {es : List Expr} {fa fb fc : Fe} {pos : Pos}
theorem bin_lift {cc : Wc} {o : D → D → M D} (σ : St) (H : Hp) (Q : VK) (h : liftE cc Z (binE o fa fb) σ H Q) : tOp (liftR2 cc Z o) (liftE cc Z fa) (liftE cc Z fb) σ H Q := by
  obtain ⟨dσ, μ, G, s, h, p⟩ := h
  exact ⟨dσ, μ, G, s, h, (Post.bind p).mono fun x μ1 G1 H1 x' h1 p1 v rv => ⟨dσ, μ1, G1, s.mono x', h1, (Post.bind p1).mono fun y μ2 G2 H2 x2 h2 p2 u ru => ⟨x, y, μ2, G2, rv.mono x2, ru, h2, p2⟩⟩⟩
theorem de_var {i : Nat} (h : PE X e (tVar i)) : DE X Z e (varE i) := DE.of h fun σ H Q ⟨dσ, μ, G, s, h, p⟩ => by
  unfold varE at p
  split at p
  · rename_i d he
    obtain ⟨v, e1, r⟩ := s.2 i d he
    exact ⟨v, e1, Post.ok p h v r⟩
  · exact p.elim
theorem de_c {d : D} {v : V} (h : PE X e (tC v)) (r : ∀ μ H, RepV (wc X) μ H d v) : DE X Z e (cE d) := DE.of h fun σ H Q ⟨dσ, μ, G, s, h, p⟩ => Post.ok p h v (r _ _)
theorem q17 {i j pos} : DE X Z (.Constant (.int i) j pos) (cE (.int i)) := de_c pe_int fun _ _ => by unfold RepV; rfl
theorem de_bl {i j pos} : DE X Z (.Constant (.bool i) j pos) (cE (.bl i)) := de_c pe_bl fun _ _ => by unfold RepV; rfl
theorem de_str {i j pos} : DE X Z (.Constant (.str i) j pos) (cE (.str i)) := de_c pe_str fun _ _ => by unfold RepV; rfl
theorem de_v (i : Nat) {x : Str} {pos : Pos} (hN : X.N[i]? = some x := by rfl) (hv : Vis X.env.scope x := by first | exact Or.inl rfl | exact Or.inr (Or.inl rfl) | exact Or.inr (Or.inr rfl)) (hd : (x == ("__debug__" : Str)) = false := by decide)
    (hcd : (x == ("__classdict__" : Str)) = false := by decide) : DE X Z (.Name x pos) (varE i) := de_var (pe_var hN hv hd hcd)
theorem de_op {op : Operator} {o : D → D → M D} (ho : OpD X Z (binaryOp op) o) (ha : DE X Z a fa) (hb : DE X Z b fb) : DE X Z (.BinOp a op b pos) (binE o fa fb) :=
  DE.of (pe_op ho.h ha.h hb.h) bin_lift
theorem de_cmp {op : CmpOp} {o : D → D → M D} (ho : OpD X Z (compareOp op) o) (ha : DE X Z a fa) (hb : DE X Z b fb) (hm : behindInMarks op b = false) : DE X Z (.Compare a [op] [b] pos) (binE o fa fb) :=
  DE.of (pe_cmpR ho.h ha.h hb.h hm) bin_lift
theorem isBl_post {α : Type} {cc : Wc} {μ : List Addr} {H : Hp} {d : D} {f : Bool → M α} {G : DH} {K : α → List Addr → DH → Hp → Prop} (p : Post cc Z μ H ((isBl d >>= f) G) K) : ∃ k, d = .bl k ∧ Post cc Z μ H (f k G) K := by
  cases d with
  | bl k => exact ⟨k, rfl, p⟩
  | _ => exact p.elim
theorem de_one {op} {f : Fe} (h : DE X Z a f) : DE X Z (.BoolOp op [a] pos) f := ⟨pe_one h.h⟩
def testE (f : Fe) : DSt → M Bool := fun σ => do isBl (← f σ)
def andT (a b : DSt → M Bool) : DSt → M Bool := fun σ => do if ← a σ then b σ else pure false
def orT (a b : DSt → M Bool) : DSt → M Bool := fun σ => do if ← a σ then pure true else b σ
def notT (a : DSt → M Bool) : DSt → M Bool := fun σ => do pure (!(← a σ))
structure DW (X : Cx) (Z : XC) (e : Expr) (f : DSt → M Bool) : Prop where
  h : PW X e (liftT (wc X) Z f)
theorem DW.of {X : Cx} {Z : XC} {e : Expr} {f : DSt → M Bool} {t : TT} (h : PW X e t) (k : ∀ σ H Q, liftT (wc X) Z f σ H Q → t σ H Q) : DW X Z e f := ⟨PW.mono h k⟩
variable {ta tb : DSt → M Bool} {rest : List Expr}
theorem DW.dt (h : DW X Z a ta) : DT X Z a ta := ⟨fun pins s σ H Q I q => h.h _ pins s σ H Q I q⟩
theorem dt_cmp {op : CmpOp} {o : D → D → M D} (ho : OpD X Z (compareOp op) o) (ha : DE X Z a fa) (hb : DE X Z b fb) (hm : behindInMarks op b = false) : DT X Z (.Compare a [op] [b] pos) (testE (binE o fa fb)) :=
  DT.of (pt_cmpR ho.h ha.h hb.h hm) fun σ H Q ⟨dσ, μ, G, s, h, p⟩ => bin_lift σ H _ ⟨dσ, μ, G, s, h, (Post.bind p).mono fun x μ1 G1 H1 x' h1 p1 v rv => by
    cases x with
    | bl k' => unfold RepV at rv; exact ⟨k', rv, Post.ok p1 h1⟩
    | _ => exact p1.elim⟩
theorem dw_and1 (ha : DT X Z a ta) : DW X Z (.BoolOp .And [a] pos) ta := ⟨pw_and1 ha.h⟩
theorem dw_or1 (ha : DT X Z a ta) : DW X Z (.BoolOp .Or [a] pos) ta := ⟨pw_or1 ha.h⟩
theorem dw_and (ha : DT X Z a ta) (hb : DW X Z (.BoolOp .And (b :: rest) pos) tb) : DW X Z (.BoolOp .And (a :: b :: rest) pos) (andT ta tb) :=
  DW.of (pw_and ha.h hb.h) fun σ H Q ⟨dσ, μ, G, s, h, p⟩ => ⟨dσ, μ, G, s, h, (Post.bind p).mono fun x μ1 G1 H1 x' h1 p1 => by
    cases x with
    | true => exact ⟨dσ, μ1, G1, s.mono x', h1, p1⟩
    | false => exact Post.ok p1 h1⟩
theorem dw_or (ha : DT X Z a ta) (hb : DW X Z (.BoolOp .Or (b :: rest) pos) tb) : DW X Z (.BoolOp .Or (a :: b :: rest) pos) (orT ta tb) :=
  DW.of (pw_or ha.h hb.h) fun σ H Q ⟨dσ, μ, G, s, h, p⟩ => ⟨dσ, μ, G, s, h, (Post.bind p).mono fun x μ1 G1 H1 x' h1 p1 => by
    cases x with
    | false => exact ⟨dσ, μ1, G1, s.mono x', h1, p1⟩
    | true => exact Post.ok p1 h1⟩
theorem dt_not (ha : DT X Z a ta) : DT X Z (.UnaryOp .Not a pos) (notT ta) :=
  DT.of (pt_not ha.h) fun σ H Q ⟨dσ, μ, G, s, h, p⟩ => ⟨dσ, μ, G, s, h, (Post.bind p).mono fun x μ1 G1 H1 x' h1 p1 => Post.ok p1 h1⟩
theorem de_if (hc : DT X Z c ta) (ha : DE X Z a fa) (hb : DE X Z b fb) : DE X Z (.IfExp c a b pos) (ifE ta fa fb) :=
  DE.of (pe_ifExp hc.h ha.h hb.h) fun σ H Q ⟨dσ, μ, G, s, h, p⟩ => ⟨dσ, μ, G, s, h, (Post.bind p).mono fun x μ1 G1 H1 x' h1 p1 => by
    cases x with
    | true => exact ⟨dσ, μ1, G1, s.mono x', h1, p1⟩
    | false => exact ⟨dσ, μ1, G1, s.mono x', h1, p1⟩⟩
variable {fs : DSt → M (List D)}
theorem q16 : DA X Z [] q11 := DA.of pa_nil fun σ H Q ⟨dσ, μ, G, s, h, p⟩ => Post.ok p h [] rfl
theorem q15 (ha : DE X Z e fa) (hr : DA X Z es fs) (hs : starEach (e :: es) X.env = (false, eval e X.env) :: starEach es X.env) : DA X Z (e :: es) (q10 fa fs) :=
  DA.of (pa_cons ha.h hr.h hs) fun σ H Q ⟨dσ, μ, G, s, h, p⟩ => ⟨dσ, μ, G, s, h, (Post.bind p).mono fun x μ1 G1 H1 x' h1 p1 v rv =>
    ⟨dσ, μ1, G1, s.mono x', h1, (Post.bind p1).mono fun xs μ2 G2 H2 x2 h2 p2 vs rvs => Post.ok p2 h2 (v :: vs) ⟨v, vs, rfl, rv.mono x2, rvs⟩⟩⟩
def tupE (fs : DSt → M (List D)) : Fe := fun σ => do
  let xs ← fs σ
  if xs.length ≤ sizeLine then pure (.tup xs) else M.stuck
def allocM (o : DO) : M D := fun G => some (.ok (.ref G.length), G ++ [o])
def lstE (fs : DSt → M (List D)) : Fe := fun σ => do
  let xs ← fs σ
  if xs.length ≤ sizeLine then allocM (.lst xs) else M.stuck
theorem post_tup {cc : Wc} {μ : List Addr} {H : Hp} {G : DH} {xs : List D} {vs : List V} {Q : VK} (h : HRep cc μ G H) (r : RepL cc μ H xs vs)
    (p : Post cc Z μ H (some (Except.ok (.tup xs), G)) fun d μ' _ H' => ∀ v, RepV cc μ' H' d v → Q v H') (q : Addr) (hq : H q = none) : Q (.ref q) (upd H q (.tup vs)) := by
  have k : Ext μ H μ (upd H q (.tup vs)) := Ext.lay hq _
  refine p μ _ k (h.same k fun a o e n => ?_) _ ?_
  · rw [upd_ne (ne_of_none e hq)]; exact e
  · unfold RepV
    exact ⟨q, vs, rfl, SqT.of upd_same, r.mono k⟩
theorem post_lst {cc : Wc} {μ : List Addr} {H : Hp} {G : DH} {xs : List D} {vs : List V} {Q : VK} (h : HRep cc μ G H) (r : RepL cc μ H xs vs)
    (p : Post cc Z μ H (allocM (.lst xs) G) fun d μ' _ H' => ∀ v, RepV cc μ' H' d v → Q v H') (q : Addr) (hq : H q = none) : Q (.ref q) (upd H q (.lst vs)) := by
  have k : Ext μ H (μ ++ [q]) (upd H q (.lst vs)) := Ext.add hq _
  refine p (μ ++ [q]) _ k (h.new hq ⟨vs, upd_same, r.mono k⟩) _ ?_
  unfold RepV
  exact ⟨q, by rw [← h.len]; simp, rfl⟩
theorem de_tup {x1} (h : DA X Z es fs) : DE X Z (.Tuple es x1 pos) (tupE fs) :=
  DE.of (pe_tup h.h) fun σ H Q ⟨dσ, μ, G, s, h, p⟩ => ⟨dσ, μ, G, s, h, (Post.bind p).mono fun xs μ1 G1 H1 x' h1 p1 vs rv => by
    split at p1
    · rename_i hz
      exact ⟨by rw [← rv.length]; exact hz, fun q hq => post_tup h1 rv p1 q hq⟩
    · exact p1.elim⟩
theorem de_lst (h : DA X Z es fs) : DE X Z (.List es pos) (lstE fs) :=
  DE.of (pe_lst h.h) fun σ H Q ⟨dσ, μ, G, s, h, p⟩ => ⟨dσ, μ, G, s, h, (Post.bind p).mono fun xs μ1 G1 H1 x' h1 p1 vs rv => by
    split at p1
    · rename_i hz
      exact ⟨by rw [← rv.length]; exact hz, fun q hq => post_lst h1 rv p1 q hq⟩
    · exact p1.elim⟩
theorem call_lift {cc : Wc} {F : List D → M D} (σ : St) (H : Hp) (Q : VK) (h : liftE cc Z (q12 F fs) σ H Q) : tCB (liftRL cc Z F) (liftA cc Z fs) σ H Q := by
  obtain ⟨dσ, μ, G, s, h, p⟩ := h
  exact ⟨dσ, μ, G, s, h, (Post.bind p).mono fun x μ1 G1 H1 x' h1 p1 vs rv => ⟨x, μ1, G1, rv, h1, p1⟩⟩
theorem de_callB {F : List D → M D} {id : String} {x : Str} {p : Pos} (hc : CallD X Z (.builtin id) F) (hg : Gl X x) (hm : X.mg x = none) (hv : bootBuiltins x = some (.builtin id)) (ha : DA X Z (e :: es) fs) (hn : x ≠ "__name__") (hdb : (x == ("__debug__" : Str)) = false)
    (he : starEach (e :: es) X.env = (false, eval e X.env) :: starEach es X.env) (hpl : (backTo pos (starEach es X.env)).any (·.1) = false) : DE X Z (.Call (.Name x p) (e :: es) [] pos) (q12 F fs) :=
  DE.of (pe_callB hc.h hg hm hv ha.h hn hdb he hpl) call_lift
theorem de_callTy {F : List D → M D} {T : String} {x : Str} {p : Pos} (hc : CallD X Z (.type T) F) (hg : Gl X x) (hm : X.mg x = none) (hv : bootBuiltins x = some (.type T)) (ha : DA X Z (e :: es) fs) (hn : x ≠ "__name__") (hdb : (x == ("__debug__" : Str)) = false)
    (he : starEach (e :: es) X.env = (false, eval e X.env) :: starEach es X.env) (hpl : (backTo pos (starEach es X.env)).any (·.1) = false) : DE X Z (.Call (.Name x p) (e :: es) [] pos) (q12 F fs) :=
  DE.of (pe_callTy hc.h hg hm hv ha.h hn hdb he hpl) call_lift
def spD (c : Wc) (n : Nat) (F : List D → M D) : Sp := fun vs H Q _ => vs.length = n ∧ ∃ ds μ G, RepL c μ H ds vs ∧ HRep c μ G H ∧ Post c ZF μ H (F ds G) fun d μ' _ H' => ∀ v, RepV c μ' H' d v → Q v H'
def noX {α : Type} (m : M α) : M α := fun G => match m G with
  | some (.ok a, G1) => some (.ok a, G1)
  | _ => none
theorem noX_post {α : Type} {cc : Wc} {μ : List Addr} {H : Hp} {m : M α} {G : DH} {K : α → List Addr → DH → Hp → Prop} (p : Post cc Z μ H (noX m G) K) : Post cc ZF μ H (m G) K := by
  unfold noX at p
  match m G, p with
  | some (.ok a, G1), p => exact p
  | some (.error x, G1), p => exact p.elim
  | none, p => exact p.elim
def fnX (n : Nat) (F : List D → M D) : List D → M D := fun ds => if ds.length = n then noX (F ds) else M.stuck
theorem fnX_post {cc : Wc} {μ : List Addr} {H : Hp} {n : Nat} {F : List D → M D} {ds : List D} {G : DH} {K : D → List Addr → DH → Hp → Prop} (p : Post cc Z μ H (fnX n F ds G) K) : ds.length = n ∧ Post cc ZF μ H (F ds G) K := by
  unfold fnX at p
  split at p
  · rename_i h; exact ⟨h, noX_post p⟩
  · exact p.elim
theorem de_call {F : List D → M D} {k n : Nat} {f : Addr} {fd : FuncData} {ps : List Str} {x : Str} {p : Pos} (hF : FnOk X.prog X.w X.K X.mg X.base CX0 k f fd ps (spD (wc X) n F)) (hr : Room k X.A) (hg : Gl X x) (hm : X.mg x = some (.ref f)) (hk : PySem.W.keepIn X.K (.ref f) = true) (hb : Binds X.K fd ps [])
    (ha : DA X Z (e :: es) fs)
    (hdb : (x == ("__debug__" : Str)) = false) (he : starEach (e :: es) X.env = (false, eval e X.env) :: starEach es X.env) (hpl : (backTo pos (starEach es X.env)).any (·.1) = false) :
    DE X Z (.Call (.Name x p) (e :: es) [] pos) (q12 (fnX n F) fs) :=
  DE.of (pe_call hF hr hg hm hk hb .nil pass0 ha.h hdb he hpl) fun σ H Q ⟨dσ, μ, G, s, h, p⟩ => by
    refine ⟨dσ, μ, G, s, h, (Post.bind p).mono fun ds' μ1 G1 H1 x' h1 p1 vs rv => ?_⟩
    obtain ⟨hl, p2⟩ := fnX_post p1
    show spD (wc X) n F (vs ++ []) H1 Q E0
    rw [List.append_nil]
    exact ⟨by rw [← rv.length]; exact hl, ds', μ1, G1, rv, h1, p2⟩
end
abbrev Fs := DSt → M Fl
def nextS : Fs := fun σ => pure (.nx σ)
def seqS (a b : Fs) : Fs := fun σ => do
  match ← a σ with
  | .nx σ' => b σ'
  | r => pure r
def retS (f : Fe) : Fs := fun σ => do pure (.rt (← f σ))
def ifS (t : DSt → M Bool) (a b : Fs) : Fs := fun σ => do if ← t σ then a σ else b σ
abbrev Fg := D → DSt → M DSt
abbrev Fgs := List D → DSt → M DSt
def q13 (i : Nat) : Fg := fun d σ => pure (σ.set i (some d))
def nilG : Fgs := fun ds σ => match ds with
  | [] => pure σ
  | _ => M.stuck
def consG (g : Fg) (r : Fgs) : Fgs := fun ds σ => match ds with
  | d :: t => do r t (← g d σ)
  | [] => M.stuck
def tupG (n : Nat) (g : Fgs) : Fg := fun d σ => match d with
  | .tup l => if l.length = n then g l σ else M.stuck
  | _ => M.stuck
def asgS (f : Fe) (g : Fg) : Fs := fun σ => do
  let d ← f σ
  let σ' ← g d σ
  pure (.nx σ')
section
variable (c : Wc) (Z : XC)
def liftG (g : Fg) : TG := fun v σ H Q => ∃ d dσ μ G, RepV c μ H d v ∧ StRep c μ H dσ σ ∧ HRep c μ G H ∧ Post c Z μ H (g d dσ G) fun dσ' μ' _ H' => ∀ σ', StRep c μ' H' dσ' σ' → Q σ' H'
def liftGs (g : Fgs) : TGs := fun vs σ H Q => ∃ ds dσ μ G, RepL c μ H ds vs ∧ StRep c μ H dσ σ ∧ HRep c μ G H ∧ Post c Z μ H (g ds dσ G) fun dσ' μ' _ H' => ∀ σ', StRep c μ' H' dσ' σ' → Q σ' H'
end
structure DG (X : Cx) (Z : XC) (tg : Expr) (g : Fg) : Prop where
  h : PG X tg (liftG (wc X) Z g)
structure DGs (X : Cx) (Z : XC) (tgs : List Expr) (g : Fgs) : Prop where
  h : PGs X tgs (liftGs (wc X) Z g)
theorem PG.mono {X : Cx} {e : Expr} {t t' : TG} (h : PG X e t) (k : ∀ v σ H Q, t' v σ H Q → t v σ H Q) : PG X e t' := fun pins s σ H v u Q I r q => h pins s σ H v u Q I r (k v σ H Q q)
theorem PGs.mono {X : Cx} {e : List Expr} {t t' : TGs} (h : PGs X e t) (k : ∀ v σ H Q, t' v σ H Q → t v σ H Q) : PGs X e t' := fun pins s σ H v u Q I r q => h pins s σ H v u Q I r (k v σ H Q q)
theorem DG.of {X : Cx} {Z : XC} {e : Expr} {g : Fg} {t : TG} (h : PG X e t) (k : ∀ v σ H Q, liftG (wc X) Z g v σ H Q → t v σ H Q) : DG X Z e g := ⟨PG.mono h k⟩
theorem DGs.of {X : Cx} {Z : XC} {e : List Expr} {g : Fgs} {t : TGs} (h : PGs X e t) (k : ∀ v σ H Q, liftGs (wc X) Z g v σ H Q → t v σ H Q) : DGs X Z e g := ⟨PGs.mono h k⟩
section
variable {X : Cx} {Z : XC} {a b c e tg : Expr} {es : List Expr} {fa fb : Fe} {pos : Pos} {st : Stmt} {rest sa sb : List Stmt} {f g : Fs}
theorem db_nil : DB X Z [] nextS := DB.of pss_nil fun E σ H ⟨dσ, μ, G, s, h, p⟩ => Post.ok p h σ s
theorem end_seq {cc : Wc} {E : Ends} {μ : List Addr} {G : DH} {H : Hp} {fl : Fl} (h : HRep cc μ G H)
    (p : Post cc Z μ H ((match fl with | .nx σ' => g σ' | r => pure r : M Fl) G) fun fl μ' _ H' => EndOk cc E fl μ' H') : EndOk cc { E with nx := liftS cc Z g E } fl μ H := by
  cases fl with
  | nx dσ => exact fun σ s => ⟨dσ, μ, G, s, h, p⟩
  | rt d => exact Post.ok p h
  | bk dσ => exact Post.ok p h
  | ct dσ => exact Post.ok p h
theorem db_cons (h1 : DS X Z st f) (h2 : DB X Z rest g) : DB X Z (st :: rest) (seqS f g) :=
  DB.of (pss_cons h1.h h2.h) fun E σ H ⟨dσ, μ, G, s, h, p⟩ => ⟨dσ, μ, G, s, h, (Post.bind p).mono fun fl μ1 G1 H1 x' h1 p1 => end_seq h1 p1⟩
theorem db_one (h1 : DS X Z st f) : DB X Z [st] f := ⟨pss_one h1.h⟩
theorem ds_ret (he : DE X Z e fa) : DS X Z (.Return (some e) pos) (retS fa) :=
  DS.of (ps_ret he.h) fun E σ H ⟨dσ, μ, G, s, h, p⟩ => ⟨dσ, μ, G, s, h, (Post.bind p).mono fun d μ1 G1 H1 x' h1 p1 v rv => Post.ok p1 h1 v rv⟩
theorem ds_if {t : DSt → M Bool} (hc : DT X Z c t) (ha : DB X Z sa f) (hb : DB X Z sb g) : DS X Z (.If c sa sb pos) (ifS t f g) :=
  DS.of (ps_if hc.h ha.h hb.h) fun E σ H ⟨dσ, μ, G, s, h, p⟩ => ⟨dσ, μ, G, s, h, (Post.bind p).mono fun x μ1 G1 H1 x' h1 p1 => by
    cases x with
    | true => exact ⟨dσ, μ1, G1, s.mono x', h1, p1⟩
    | false => exact ⟨dσ, μ1, G1, s.mono x', h1, p1⟩⟩
theorem dg_name {i : Nat} {x : Str} (hN : X.N.Nodup) (hi : X.N[i]? = some x := by rfl) (hx : Loc X.env.scope x := by first | exact Or.inl rfl | exact Or.inr rfl) (hf : X.fn x = true ∨ X.env.scope.names.lookup x = some .local := by first | exact .inl rfl | exact .inr rfl | assumption) : DG X Z (.Name x pos) (q13 i) :=
  DG.of (pg_name hN hi hx hf) fun v σ H Q ⟨d, dσ, μ, G, r, s, h, p⟩ => Post.ok p h _ (s.put r i)
theorem dgs_nil : DGs X Z [] nilG := DGs.of pgs_nil fun vs σ H Q ⟨ds, dσ, μ, G, r, s, h, p⟩ => by
  cases ds with
  | nil => cases r; exact ⟨rfl, Post.ok p h _ s⟩
  | cons _ _ => exact p.elim
theorem dgs_cons {gg : Fg} {gr : Fgs} (h1 : DG X Z e gg) (h2 : DGs X Z es gr) (hs : (assignEach (e :: es) X.env).map (·.2) = assign e X.env :: (assignEach es X.env).map (·.2)) : DGs X Z (e :: es) (consG gg gr) :=
  DGs.of (pgs_cons h1.h h2.h hs) fun vs σ H Q ⟨ds, dσ, μ, G, r, s, h, p⟩ => by
    cases ds with
    | nil => exact p.elim
    | cons d t =>
      obtain ⟨v, vr, rfl, rv, rt⟩ := r
      exact ⟨v, vr, rfl, d, dσ, μ, G, rv, s, h, (Post.bind p).mono fun dσ1 μ1 G1 H1 x' h1 p1 σ1 s1 => ⟨t, dσ1, μ1, G1, rt.mono x', s1, h1, p1⟩⟩
theorem dg_tup {gs : Fgs} {k n : Nat} (hc : X.calm = true) (h : DGs X Z es gs) (hn : (assignEach es X.env).length = n) (hst : (assignEach es X.env).findIdx? (·.1) = none) : DG X Z (.Tuple es k pos) (tupG n gs) :=
  DG.of (pg_tup hc h.h hn hst) fun v σ H Q ⟨d, dσ, μ, G, r, s, h, p⟩ => by
    cases d with
    | tup l =>
      unfold RepV at r
      obtain ⟨a, vs, rfl, q, rl⟩ := r
      have p' : Post (wc X) Z μ H ((if l.length = n then gs l dσ else M.stuck : M DSt) G) fun dσ' μ' _ H' => ∀ σ', StRep (wc X) μ' H' dσ' σ' → Q σ' H' := p
      split at p'
      · rename_i hl
        exact ⟨a, vs, rfl, q, by rw [← rl.length]; exact hl, l, dσ, μ, G, rl, s, h, p'⟩
      · exact p'.elim
    | _ => exact p.elim
theorem ds_asg {gg : Fg} (he : DE X Z e fa) (hg : DG X Z tg gg) (hs : swapsWithSole [tg] e pos.line X.env = pure false) (hw : swappedStores [tg] e X.env = pure none)
    (h1 : (assignEach [tg] X.env).map (·.2) = [assign tg X.env]) : DS X Z (.Assign [tg] e pos) (asgS fa gg) :=
  DS.of (ps_asg he.h hg.h hs hw h1) fun E σ H ⟨dσ, μ, G, s, h, p⟩ => ⟨dσ, μ, G, s, h, (Post.bind p).mono fun d μ1 G1 H1 x' h1 p1 v rv =>
    ⟨d, dσ, μ1, G1, rv, s.mono x', h1, (Post.bind p1).mono fun dσ2 μ2 G2 H2 x2 h2 p2 σ2 s2 => Post.ok p2 h2 σ2 s2⟩⟩
end
section
variable {X : Cx} {Z : XC} {c : Expr} {pos : Pos} {body : List Stmt} {t : DSt → M Bool} {f : Fs}
end
def forL (g : Fg) (b : Fs) (ck : DH → Bool) : List D → Fs
  | [] => fun σ G => if ck G then some (.ok (.nx σ), G) else none
  | d :: r => fun σ G => if ck G then (do
      match ← b (← g d σ) with
      | .nx σ' => forL g b ck r σ'
      | .ct σ' => forL g b ck r σ'
      | .bk σ' => pure (.nx σ')
      | .rt d => pure (.rt d) : M Fl) G else none
structure Src where
  items : List D
  ck : DH → Bool
def forS (it : DSt → M Src) (g : Fg) (b : Fs) : Fs := fun σ => do
  let s ← it σ
  forL g b s.ck s.items σ
def ItD (c : Wc) (μ : List Addr) (H : Hp) (J : It) (s : Src) : Prop := ∀ μ' G' H', Ext μ H μ' H' → HRep c μ' G' H' → s.ck G' = true → ∀ i : Nat,
  (∀ d, s.items[i]? = some d → J.go i H' ∧ ∀ x H2, J.yld i H' x H2 → Ext μ' H' μ' H2 ∧ HRep c μ' G' H2 ∧ RepV c μ' H2 d x) ∧ (s.items.length ≤ i → J.stop i H')
def liftI (c : Wc) (Z : XC) (it : DSt → M Src) : TI := fun σ H R => ∃ dσ μ G, StRep c μ H dσ σ ∧ HRep c μ G H ∧ Post c Z μ H (it dσ G) fun s μ' _ H' => ∀ J, ItD c μ' H' J s → R J H'
structure DI (X : Cx) (Z : XC) (tg e : Expr) (it : DSt → M Src) : Prop where
  h : PI X tg e (liftI (wc X) Z it)
theorem PI.mono {X : Cx} {tg e : Expr} {t t' : TI} (h : PI X tg e t) (k : ∀ σ H R, t' σ H R → t σ H R) : PI X tg e t' := fun pins s σ H R I q => h pins s σ H R I (k σ H R q)
theorem DI.of {X : Cx} {Z : XC} {tg e : Expr} {it : DSt → M Src} {t : TI} (h : PI X tg e t) (k : ∀ σ H R, liftI (wc X) Z it σ H R → t σ H R) : DI X Z tg e it := ⟨PI.mono h k⟩
section
variable {X : Cx} {Z : XC} {iter tg : Expr} {pos : Pos} {body : List Stmt} {f : Fs} {gg : Fg} {it : DSt → M Src}
theorem ds_for (hp : PassesOwn (model X.prog X.w) X.A X.env X.xe) (hc : X.calm = true) (hi : DI X Z tg iter it) (hg : DG X Z tg gg) (hb : DB X Z body f) (hs : ∀ x, foldedSetIterable iter X.env x = pure x) :
    DS X Z (.For tg iter body [] pos) (forS it gg f) :=
  DS.of (ps_for hp hc hi.h hg.h hb.h hs) fun E σ H ⟨dσ, μ, G, s, h, p⟩ => ⟨dσ, μ, G, s, h, (Post.bind p).mono fun sr μ1 G1 H1 x' h1 p1 J hJ => by
    refine ⟨fun i m σ' H' => m = sr.items.length - i ∧ i ≤ sr.items.length ∧ ∃ dσ' μ' G', Ext μ1 H1 μ' H' ∧ StRep (wc X) μ' H' dσ' σ' ∧ HRep (wc X) μ' G' H' ∧
        Post (wc X) Z μ' H' (forL gg f sr.ck (sr.items.drop i) dσ' G') fun fl μ2 _ H2 => EndOk (wc X) E fl μ2 H2,
      ⟨sr.items.length, by simp, Nat.zero_le _, dσ, μ1, G1, Ext.refl _ _, s.mono x', h1, p1⟩, ?_⟩
    rintro i m σ' H' ⟨rfl, hi', dσ', μ', G', k', s', h', p'⟩
    by_cases hlt : i < sr.items.length
    · rw [List.drop_eq_getElem_cons hlt] at p'
      unfold forL at p'
      split at p'
      · rename_i ck
        obtain ⟨q1, _⟩ := hJ μ' G' H' k' h' ck i
        obtain ⟨go, yl⟩ := q1 _ (List.getElem?_eq_getElem hlt)
        refine .inr ⟨go, fun σ2 H2 => ∃ dσ2 μ2 G2, Ext μ1 H1 μ2 H2 ∧ StRep (wc X) μ2 H2 dσ2 σ2 ∧ HRep (wc X) μ2 G2 H2 ∧
          Post (wc X) Z μ2 H2 (forL gg f sr.ck (sr.items.drop (i + 1)) dσ2 G2) fun fl μ3 _ H3 => EndOk (wc X) E fl μ3 H3, fun σ2 H2 w => ⟨sr.items.length - (i + 1), by omega, rfl, hlt, w⟩, fun x H2 y => ?_⟩
        obtain ⟨k2, h2, rx⟩ := yl x H2 y
        have p2 := Post.bind (p'.from k2)
        refine ⟨_, dσ', μ', G', rx, s'.mono k2, h2, p2.mono fun dσ3 μ3 G3 H3 x3 h3 p3 σ3 s3 => ?_⟩
        refine ⟨dσ3, μ3, G3, s3, h3, (Post.bind p3).mono fun fl μ4 G4 H4 x4 h4 p4 => ?_⟩
        cases fl with
        | nx dσ4 => exact fun σ4 s4 => ⟨dσ4, μ4, G4, k'.trans (k2.trans (x3.trans x4)), s4, h4, p4⟩
        | ct dσ4 => exact fun σ4 s4 => ⟨dσ4, μ4, G4, k'.trans (k2.trans (x3.trans x4)), s4, h4, p4⟩
        | bk dσ4 => exact fun σ4 s4 => Post.ok p4 h4 σ4 s4
        | rt d => exact fun v r => Post.ok p4 h4 v r
      · exact p'.elim
    · have e : i = sr.items.length := by omega
      subst e
      rw [List.drop_length] at p'
      unfold forL at p'
      split at p'
      · rename_i ck
        obtain ⟨_, q2⟩ := hJ μ' G' H' k' h' ck sr.items.length
        exact .inl ⟨q2 (Nat.le_refl _), Post.ok p' h' σ' s'⟩
      · exact p'.elim⟩
end
end DL
set_option Elab.async false
set_option linter.all false
set_option maxRecDepth 100000
namespace DL
open PySem PySem.Spec L2
open PyProof.Rows hiding St
def closL (env : Env) : List (Str × NameKind) → List (Str × Addr) → List (Str × Addr)
  | [], cs => cs
  | (n, k) :: r, cs => closL env r (if k == .free then (match env.cells.lookup n with | some c => (n, c) :: cs | none => cs) else cs)
theorem closL_go {env : Env} : ∀ (l : List (Str × NameKind)) (cs : List (Str × Addr)), (∀ p ∈ l, p.2 = .free → ∃ c, env.cells.lookup p.1 = some c) →
    (forIn l cs (fun (x : Str × NameKind) (cs : List (Str × Addr)) => (match x with | (name, kind) => if (kind == NameKind.free) = true then do let c ← cellOf env name; pure (ForInStep.yield ((name, c) :: cs)) else pure (ForInStep.yield cs) : Sem (ForInStep (List (Str × Addr))))) : Sem (List (Str × Addr))) = pure (closL env l cs)
  | [], cs, _ => rfl
  | (n, k) :: r, cs, h => by
    have ih := fun cs' => closL_go r cs' fun p hp => h p (List.mem_cons_of_mem _ hp)
    rw [List.forIn_cons]
    unfold closL
    cases hk : (k == NameKind.free) with
    | false =>
      have e : (match ((n, k) : Str × NameKind) with | (name, kind) => if (kind == NameKind.free) = true then do let c ← cellOf env name; pure (ForInStep.yield ((name, c) :: cs)) else pure (ForInStep.yield cs) : Sem (ForInStep (List (Str × Addr)))) = pure (ForInStep.yield cs) := by
        show (if (k == NameKind.free) = true then _ else _) = _
        rw [hk]; rfl
      rw [e]
      exact ih cs
    | true =>
      obtain ⟨c, hc⟩ := h (n, k) List.mem_cons_self (by simpa using hk)
      have hcell : cellOf env n = pure c := by unfold cellOf; rw [hc]
      have e : (match ((n, k) : Str × NameKind) with | (name, kind) => if (kind == NameKind.free) = true then do let c ← cellOf env name; pure (ForInStep.yield ((name, c) :: cs)) else pure (ForInStep.yield cs) : Sem (ForInStep (List (Str × Addr)))) = pure (ForInStep.yield ((n, c) :: cs)) := by
        show (if (k == NameKind.free) = true then (do let c ← cellOf env n; pure (ForInStep.yield ((n, c) :: cs))) else _) = _
        rw [hk, hcell]; rfl
      rw [e, hc]
      exact ih ((n, c) :: cs)
theorem closureFor_closL {env : Env} {scope : Scope} (h : ∀ p ∈ scope.names, p.2 = .free → ∃ c, env.cells.lookup p.1 = some c) : closureFor scope env = pure (closL env scope.names []) := by
  have q := closL_go scope.names [] h
  unfold closureFor
  dsimp only
  rw [q]
  rfl
theorem closL_sub {env : Env} {x : Str} {c : Addr} : ∀ (l : List (Str × NameKind)) (cs : List (Str × Addr)), (cs.lookup x = some c → env.cells.lookup x = some c) → (closL env l cs).lookup x = some c → env.cells.lookup x = some c
  | [], cs, h, e => h e
  | (n, k) :: r, cs, h, e => by
    unfold closL at e
    refine closL_sub r _ (fun e1 => ?_) e
    split at e1
    · split at e1
      · rename_i c' hc
        rw [List.lookup_cons] at e1
        split at e1
        · rename_i hx
          have hx' : x = n := by simpa using hx
          subst hx'
          cases e1
          exact hc
        · exact h e1
      · exact h e1
    · exact h e1
theorem closL_sub0 {env : Env} {x : Str} {c : Addr} {l : List (Str × NameKind)} (h : (closL env l []).lookup x = some c) : env.cells.lookup x = some c := closL_sub l [] (fun z => by cases z) h
theorem closL_keep {env : Env} {x : Str} : ∀ (l : List (Str × NameKind)) (cs : List (Str × Addr)), (∃ c, cs.lookup x = some c) → ∃ c, (closL env l cs).lookup x = some c
  | [], cs, h => h
  | (n, k) :: r, cs, h => by
    unfold closL
    refine closL_keep r _ ?_
    split
    · split
      · rename_i c' hc
        rw [List.lookup_cons]
        split
        · exact ⟨_, rfl⟩
        · exact h
      · exact h
    · exact h
theorem closL_has {env : Env} {x : Str} {c : Addr} (hc : env.cells.lookup x = some c) : ∀ (l : List (Str × NameKind)) (cs : List (Str × Addr)), (x, NameKind.free) ∈ l → ∃ c, (closL env l cs).lookup x = some c
  | [], cs, h => by simp at h
  | (n, k) :: r, cs, h => by
    unfold closL
    rcases List.mem_cons.mp h with e | h
    · cases e
      refine closL_keep r _ ?_
      rw [hc]
      simp
    · exact closL_has hc r _ h
section
variable {prog : Program} {w : World} {A : Around} {E : Value → Shared → Prop} {R : Result → Shared → Prop} {s : Shared}
theorem compLoop_own {elt target iter : Expr} {ifs : List Expr} {scope : Scope} {pos : Pos} {it acc : Value} {env : Env} (I : Nat → Shared → Prop)
    (turn : ∀ n s, I n s → wpAny (model prog w) A (pyNext it) (fun r s₁ => match r with
      | none => R (.ok .next) s₁
      | some v => wpAny (model prog w) A (letOwnedTupleGo target it v) (fun _ s₁' => wpAny (model prog w) A (assign target env v) (fun _ s₂ =>
          wpAny (model prog w) A (forIn ifs true fun c r => if r = true then do let ok ← isTrue c env (eval c env); pure (ForInStep.yield ok) else pure (ForInStep.yield r)) (fun ok s₃ =>
            if ok = true then wpAny (model prog w) A (eval elt env) (fun x s₄ =>
              wpAny (model prog w) A (call (.builtin "list.append") [acc, x]) (fun _ s₅ => ∃ m, m < n ∧ I m s₅) (fun _ _ => False) s₄) (fun _ _ => False) s₃
            else ∃ m, m < n ∧ I m s₃) (fun _ _ => False) s₂) (fun _ _ => False) s₁') (fun _ _ => False) s₁) (fun _ _ => False) s)
    (n : Nat) (h : I n s) :
    codeAny (model prog w) A (.compLoop (.ListComp elt [⟨target, iter, ifs, 0⟩] scope pos) 0 it acc env) R s := by
  refine codeAny_loop rfl I (fun n s hI => ?_) n h
  show wpAny _ A ((compTurn (.ListComp elt [⟨target, iter, ifs, 0⟩] scope pos) 0 it acc env).onRaise (fun x => do noteFrame x env; theTreesLotGoes x)) _ _ s
  refine wpAny_noted ?_
  rw [compTurn_list]
  refine wpAny_bind (wpAny_standAt (wpAny_bind (wpAny_mono (turn n s hI) (fun r s₁ h₁ => ?_) fun _ _ h' => h'.elim)))
  cases r with
  | none => exact wpAny_pure h₁
  | some v =>
    refine wpAny_bind (wpAny_mono h₁ (fun _ s₁' h₁' => ?_) fun _ _ h' => h'.elim)
    refine wpAny_bind (wpAny_mono h₁' (fun _ s₂ h₂ => wpAny_bind (wpAny_mono h₂ (fun ok s₃ h₃ => ?_) fun _ _ h' => h'.elim)) fun _ _ h' => h'.elim)
    cases ok with
    | true =>
      exact wpAny_bind (wpAny_bind (wpAny_mono h₃ (fun x s₄ h₄ => wpAny_bind (wpAny_mono h₄ (fun _ s₅ h₅ => wpAny_pure (wpAny_pure ⟨rfl, h₅⟩)) fun _ _ h' => h'.elim)) fun _ _ h' => h'.elim))
    | false =>
      exact wpAny_pure ⟨rfl, h₃⟩
end
def compCx (X : Cx) (scope : Scope) (N : List Str) (C : Addr) (s : Shared) (H : Hp) (ex : List Addr) : Cx where
  prog := X.prog
  w := X.w
  K := X.K
  mg := X.mg
  base := X.base
  A := X.A
  N := N
  s₀ := s
  H₀ := H
  env := compEnvC scope (closL X.env scope.names []) C X.env
  outer := X.stack
  stack := X.stack
  ex := ex
  fn := fun _ => false
  calm := X.calm
  pn := []
  xe := fun _ _ => False
structure CompOk (X : Cx) (scope : Scope) (N : List Str) (caps : List (Option Nat)) : Prop where
  kind : scope.kind = .function
  cell : ∀ y ∈ scope.names, y.2 ≠ .cell
  names : ∀ y ∈ scope.names, y.2 = .local → scope.names.lookup y.1 = some .local
  free : ∀ y ∈ scope.names, y.2 = .free → X.env.kindOf y.1 = some .cell ∨ X.env.kindOf y.1 = some .free
  frees : ∀ y ∈ scope.names, y.2 = .free → scope.names.lookup y.1 = some .free
  len : caps.length = N.length
  caps : ∀ (i j : Nat), caps[i]? = some (some j) → ∃ x, N[i]? = some x ∧ X.N[j]? = some x ∧ (x, NameKind.free) ∈ scope.names
def capSt {α : Type} (caps : List (Option Nat)) (σ : List (Option α)) : List (Option α) := caps.map fun o => o.bind fun j => (σ[j]?).join
theorem lookup_rel {env : Env} {x : Str} : ∀ names : List (Str × NameKind), (names.map fun (n, k) => if (k == NameKind.free && env.scope.kind == .function && env.kindOf n == some .cell) then (n, NameKind.cell) else (n, k)).lookup x =
    (names.lookup x).map fun k => if (k == NameKind.free && env.scope.kind == .function && env.kindOf x == some .cell) then NameKind.cell else k
  | [] => rfl
  | (n, k) :: r => by
    have ih := lookup_rel (env := env) (x := x) r
    rw [List.map_cons]
    by_cases hx : x = n
    · subst hx
      dsimp only
      split
      · rename_i h; simp [List.lookup_cons]; simp at h; simp [h]
      · rename_i h; simp [List.lookup_cons]; simp at h; intro a b c; exact absurd c (h a b)
    · have hb : (x == n) = false := by simpa using hx
      dsimp only
      split
      · rw [List.lookup_cons, List.lookup_cons, hb]; exact ih
      · rw [List.lookup_cons, List.lookup_cons, hb]; exact ih
section
variable {X : Cx} {scope : Scope} {N : List Str} {caps : List (Option Nat)} {C : Addr} {pins : List (Addr × Obj)} {σ : St} {H : Hp} {s : Shared} {ex : List Addr}
theorem CompOk.isFree (k : CompOk X scope N caps) {x : Str} (h : (relabel scope X.env).names.lookup x = some .cell ∨ (relabel scope X.env).names.lookup x = some .free) : (x, NameKind.free) ∈ scope.names := by
  have e : (relabel scope X.env).names.lookup x = (scope.names.lookup x).map fun k => if (k == NameKind.free && X.env.scope.kind == .function && X.env.kindOf x == some .cell) then NameKind.cell else k := lookup_rel scope.names
  rw [e] at h
  cases hl : scope.names.lookup x with
  | none => rw [hl] at h; rcases h with h | h <;> cases h
  | some kd =>
    rw [hl] at h
    have hm := PySem.mem_of_lookup hl
    have hn := k.cell _ hm
    simp only [Option.map_some] at h
    cases kd with
    | free => exact hm
    | cell => exact absurd rfl hn
    | _ => rcases h with h | h <;> simp at h
theorem CompOk.cells (k : CompOk X scope N caps) (ok : X.Ok) : ∀ p ∈ scope.names, p.2 = .free → ∃ c, X.env.cells.lookup p.1 = some c := fun p hp e => ok.has p.1 (k.free p hp e)
theorem compCx_ok (I : Inv X pins σ H s) (k : CompOk X scope N caps) (hC : s.heap.objs.size ≤ C) (hex : ∀ b ∈ ex, FpOk X pins H b) (hlt : ∀ b ∈ ex, b < s.heap.objs.size) : (compCx X scope N C s H ex).Ok where
  mod := I.ok.mod
  kind := k.kind
  glob := I.ok.glob
  blt := I.ok.blt
  above := hC
  inj := fun x y c h1 h2 => I.ok.inj x y c (closL_sub0 h1) (closL_sub0 h2)
  has := fun x hx => by
    have hm := k.isFree hx
    obtain ⟨c, hc⟩ := k.cells I.ok _ hm rfl
    exact closL_has hc _ _ hm
  cab := fun x c h => by cases h
  hd := I.ok.hd
  frames := I.ok.frames
  stk := .inl rfl
  exf := fun b hb => ⟨Nat.ne_of_lt (Nat.lt_of_lt_of_le (hlt b hb) hC), fun x c e => (hex b hb).2.2.2.2.1 x c (closL_sub0 e)⟩
  bs := I.bs
  bsz := Nat.le_trans I.ok.bsz I.sz
  noex := fun b o e hb => by
    rcases (hex b hb).2.2.2.1 with z | z
    · exact I.ok.noex b o e z
    · exact absurd (Nat.lt_of_lt_of_le (Heap.lt_size (I.ok.bs b o e).1) z) (Nat.lt_irrefl _)
  exfs := fun b hb z => by
    rcases List.mem_cons.mp (I.stkSub b z) with e | e
    · exact (hex b hb).2.1 e
    · exact (hex b hb).2.2.1 e
  funs := I.stack
  frf := I.stkFree
theorem capSt_get {α : Type} {caps : List (Option Nat)} {σ : List (Option α)} {i : Nat} {v : α} (h : (capSt caps σ)[i]? = some (some v)) : ∃ j, caps[i]? = some (some j) ∧ σ[j]? = some (some v) := by
  unfold capSt at h
  rw [List.getElem?_map] at h
  cases e : caps[i]? with
  | none => rw [e] at h; cases h
  | some o =>
    rw [e] at h
    cases o with
    | none => cases h
    | some j =>
      refine ⟨j, rfl, ?_⟩
      simp only [Option.map_some, Option.bind_some, Option.some.injEq] at h
      cases e2 : σ[j]? with
      | none => rw [e2] at h; cases h
      | some w => rw [e2] at h; simp at h; rw [h]
theorem comp_start {h₁ : Heap} {tk : Nat} (I : Inv X pins σ H s) (k : CompOk X scope N caps) (hC : s.heap.objs.size < C) (hex : ∀ b ∈ ex, FpOk X pins H b) (hlt : ∀ b ∈ ex, b < s.heap.objs.size)
    (old : ∀ b o, s.heap.get? b = some o → h₁.get? b = some o) (hns : h₁.Ns C fun _ => none) (hacc : h₁.get? s.heap.objs.size = some { cls := .type "list", data := .seq ([] : List Value).toArray 0 }) :
    Inv (compCx X scope N C s H ex) [] (capSt caps σ) (upd H s.heap.objs.size (.lst [])) { s with heap := h₁, toks := tk } := by
  have hD : H s.heap.objs.size = none := I.hok.fresh (Nat.le_refl _)
  refine ⟨compCx_ok I k (Nat.le_of_lt hC) hex hlt, rfl, I.bare, Un.laid old (Nat.le_refl _) hD, ⟨_, hns, fun i x v h1 h2 h3 => ?_⟩, fun x c e => ?_, ?_, fun x c e => ?_, fun p hp => absurd (show p ∈ ([] : List (Addr × Obj)) from hp) (by simp), ?_, ?_⟩
  · obtain ⟨j, e1, e2⟩ := capSt_get h2
    obtain ⟨y, e3, e4, e5⟩ := k.caps i j e1
    have exy : y = x := by
      have : some y = some x := e3.symm.trans h1
      exact Option.some.inj this
    subst exy
    have hk := k.free _ e5 rfl
    obtain ⟨m, hn, hl⟩ := I.loc
    obtain ⟨u, r, l⟩ := hl j y v e4 e2 (by rcases hk with z | z; exact .inr (.inl z); exact .inr (.inr z))
    refine ⟨u, r, .inr ?_⟩
    rcases l with ⟨z, _⟩ | ⟨_, c, ec, hc⟩
    · rcases hk with z' | z' <;> (rw [z] at z'; cases z')
    · refine ⟨?_, c, ?_, ?_⟩
      · rcases h3 with h3 | h3 | h3
        · exfalso
          have e : (relabel scope X.env).names.lookup y = (scope.names.lookup y).map fun k => if (k == NameKind.free && X.env.scope.kind == .function && X.env.kindOf y == some .cell) then NameKind.cell else k := lookup_rel scope.names
          have h3' : (relabel scope X.env).names.lookup y = some .local := h3
          rw [e] at h3'
          rw [k.frees _ e5 rfl] at h3'
          simp only [Option.map_some] at h3'
          split at h3' <;> cases h3'
        · exact .inl h3
        · exact .inr h3
      · obtain ⟨c', ec'⟩ := closL_has ec scope.names [] e5
        have := closL_sub0 ec'
        rw [ec] at this
        cases this
        exact ec'
      · obtain ⟨o, ho, hd⟩ := hc
        exact ⟨o, old _ _ ho, hd⟩
  · obtain ⟨v, o, ho, hd⟩ := I.cell x c (closL_sub0 e)
    exact ⟨v, o, old _ _ ho, hd⟩
  · show upd H s.heap.objs.size (.lst []) C = none
    rw [upd_ne (Nat.ne_of_gt hC)]
    exact I.hok.fresh (Nat.le_of_lt hC)
  · obtain ⟨v, o, ho, hd⟩ := I.cell x c (closL_sub0 e)
    rw [upd_ne (Nat.ne_of_lt (Heap.lt_size ho))]
    exact I.freeC x c (closL_sub0 e)
  · exact I.hok.laid old (Nat.le_refl _) ⟨Nat.zero_le _, [], 0, .nil, hacc⟩
  · show (capSt caps σ).length = N.length
    unfold capSt
    rw [List.length_map]; exact k.len
theorem comp_end {pins' : List (Addr × Obj)} {σ' : St} {H' : Hp} {s' : Shared} {h' : Heap} (I : Inv X pins σ H s) (hex : ∀ b ∈ ex, FpOk X pins H b) (hC : s.heap.objs.size < C)
    (I' : Inv (compCx X scope N C s H ex) pins' σ' H' s') (sb : Heap.SameBut C s'.heap h') : Inv X pins σ H' { s' with heap := h' } := by
  have hos : s'.os = s.os := I'.os
  have hfree : H' C = none := I'.free
  have neC : ∀ b o, s.heap.get? b = some o → b ≠ C := fun b o e z => by
    have := Heap.lt_size e
    rw [z] at this
    exact absurd (Nat.lt_trans hC this) (Nat.lt_irrefl _)
  have hun : Un (frs X.stack) ex H H' s.heap s'.heap := I'.base
  have hun2 : Un (frs X.stack) ex H H' s.heap h' := by
    refine ⟨fun b o e n hb hx => (sb.2 b (neC b o e)).trans (hun.keep b o e n hb hx), fun b o e n hb hx => ?_, hun.free, fun b o e hx => ?_, hun.tups, hun.frzs, hun.tbls⟩
    · obtain ⟨sl, q⟩ := hun.slot b o e n hb hx
      exact ⟨sl, (sb.2 b (neC b o e)).trans q⟩
    · obtain ⟨o', q⟩ := hun.there b o e hx
      exact ⟨o', (sb.2 b (neC b o e)).trans q⟩
  have hok2 : HOk X.prog X.w H' h' := fun a o e => by
    have nc : ∀ c u, H' c = some u → c ≠ C := fun c u q z => by rw [z, hfree] at q; cases q
    refine (I'.hok a o e).stay (fun b u hb q => ?_) (fun _ q => q) fun _ _ q => q
    rcases hb with rfl | hb
    · exact (sb.2 b (nc b o e)).trans q
    · exact (sb.2 b (nc b _ hb)).trans q
  obtain ⟨hh, g, d, t, os'⟩ := s'
  obtain rfl : os' = s.os := hos
  have fin := I.call (h' := h') (g' := g) (d' := d) (t' := t) (ch := ex) hun2 hok2 I'.bare fun b hb => ⟨(hex b hb).2.2.2.1, (hex b hb).2.1, (hex b hb).2.2.2.2.1, (hex b hb).2.2.2.2.2⟩
  exact fin
end
end DL
set_option Elab.async false
set_option linter.all false
set_option maxRecDepth 100000
namespace DL
open PySem PySem.Spec L2
open PyProof.Rows hiding St
def hide (q : Addr) (H : Hp) : Hp := fun b => if b = q then none else H b
theorem hide_self {q : Addr} {H : Hp} : hide q H q = none := by unfold hide; rw [if_pos rfl]
theorem hide_ne {q b : Addr} {H : Hp} (h : b ≠ q) : hide q H b = H b := by unfold hide; rw [if_neg h]
theorem hide_some {q b : Addr} {H : Hp} {o : HO} (h : hide q H b = some o) : b ≠ q ∧ H b = some o := by
  by_cases e : b = q
  · rw [e, hide_self] at h; cases h
  · rw [hide_ne e] at h; exact ⟨e, h⟩
theorem upd_hide {q : Addr} {H : Hp} {o : HO} (h : H q = some o) : upd (hide q H) q o = H := by
  funext b
  by_cases e : b = q
  · rw [e, upd_same, h]
  · rw [upd_ne e, hide_ne e]
theorem hide_upd {q : Addr} {H : Hp} {o : HO} : hide q (upd H q o) = hide q H := by
  funext b
  by_cases e : b = q
  · rw [e, hide_self, hide_self]
  · rw [hide_ne e, hide_ne e, upd_ne e]
theorem hide_none {q : Addr} {H : Hp} (h : H q = none) : hide q H = H := by
  funext b
  by_cases e : b = q
  · rw [e, hide_self, h]
  · rw [hide_ne e]
section
variable {c : Wc} {μ μ' : List Addr} {H H' : Hp} {G : DH} {q : Addr} {vs : List V}
mutual
theorem RepV.sq (k : ∀ a xs, SqT c.K H a xs → SqT c.K H' a xs) : ∀ {d : D} {v : V}, RepV c μ H d v → RepV c μ H' d v
  | .non, _, h => h
  | .bl _, _, h => h
  | .int _, _, h => h
  | .str _, _, h => h
  | .ty _, _, h => h
  | .fn _, _, h => h
  | .ref i, v, h => by unfold RepV at h ⊢; exact h
  | .tup l, v, h => by
    unfold RepV at h ⊢
    obtain ⟨a, vs, e, q, r⟩ := h
    exact ⟨a, vs, e, k _ _ q, RepL.sq k r⟩
theorem RepL.sq (k : ∀ a xs, SqT c.K H a xs → SqT c.K H' a xs) : ∀ {l : List D} {vs : List V}, RepL c μ H l vs → RepL c μ H' l vs
  | [], _, h => h
  | d :: ds, vs, h => by
    unfold RepL at h ⊢
    obtain ⟨v, r, e, q, t⟩ := h
    exact ⟨v, r, e, RepV.sq k q, RepL.sq k t⟩
end
theorem RepK.sq (k : ∀ a xs, SqT c.K H a xs → SqT c.K H' a xs) : ∀ {l : List (Key × D)} {vs : List (Key × V)}, RepK c μ H l vs → RepK c μ H' l vs
  | [], _, h => h
  | (_, d) :: ds, vs, h => by
    obtain ⟨v, r, e, q, t⟩ := h
    exact ⟨v, r, e, RepV.sq k q, RepK.sq k t⟩
theorem sqT_hide (hq : H q = some (.lst vs)) {K : PySem.W.Frag} (a : Addr) (xs : List V) (h : SqT K H a xs) : SqT K (hide q H) a xs := by
  rcases h with (h | ⟨o, h⟩) | h
  · exact .inl (.inl (by rw [hide_ne (fun e => by rw [e, hq] at h; cases h)]; exact h))
  · exact .inl (.inr ⟨o, by rw [hide_ne (fun e => by rw [e, hq] at h; cases h)]; exact h⟩)
  · exact .inr h
theorem sqT_unhide {K : PySem.W.Frag} (a : Addr) (xs : List V) (h : SqT K (hide q H) a xs) : SqT K H a xs := by
  rcases h with (h | ⟨o, h⟩) | h
  · exact .inl (.inl (hide_some h).2)
  · exact .inl (.inr ⟨o, (hide_some h).2⟩)
  · exact .inr h
theorem StRep.sq (k : ∀ a xs, SqT c.K H a xs → SqT c.K H' a xs) {dσ : DSt} {σ : St} (h : StRep c μ H dσ σ) : StRep c μ H' dσ σ := ⟨h.1, fun i d e => let ⟨v, a, b⟩ := h.2 i d e; ⟨v, a, b.sq k⟩⟩
theorem Ext.hide (x : Ext μ H μ' H') (n : q ∉ μ) (hq : H q = some (.lst vs)) : H' q = some (.lst vs) ∧ q ∉ μ' ∧ Ext μ (DL.hide q H) μ' (DL.hide q H') := by
  refine ⟨x.oth q _ hq n, fun h => ?_, x.pre, fun a h1 h2 => ?_, fun b o e nb => ?_, fun b xs e => ?_, fun b o u e => ?_⟩
  · have := x.new q h n; rw [hq] at this; cases this
  · by_cases e : a = q
    · rw [e, hide_self]
    · rw [hide_ne e]; exact x.new a h1 h2
  · obtain ⟨e1, e2⟩ := hide_some e; rw [hide_ne e1]; exact x.oth b o e2 nb
  · obtain ⟨e1, e2⟩ := hide_some e; rw [hide_ne e1]; exact x.tup b xs e2
  · obtain ⟨e1, e2⟩ := hide_some e; rw [hide_ne e1]; exact x.frz b o u e2
theorem Ext.unhide (x : Ext μ H μ' (DL.hide q H')) : Ext μ H μ' H' :=
  ⟨x.pre, x.new, fun b o e n => (hide_some (x.oth b o e n)).2, fun b xs e => (hide_some (x.tup b xs e)).2, fun b o u e => (hide_some (x.frz b o u e)).2⟩
theorem HRep.hide (h : HRep c μ G H) (n : q ∉ μ) (hq : H q = some (.lst vs)) : HRep c μ G (DL.hide q H) :=
  ⟨h.len, h.inj, fun i o a g m => by
    have na : a ≠ q := fun e => n (by rw [← e]; exact List.mem_of_getElem? m)
    have r := h.obj i o a g m
    cases o with
    | lst l => obtain ⟨ws, e, r⟩ := r; exact ⟨ws, by rw [hide_ne na]; exact e, r.sq (sqT_hide hq)⟩
    | dct l => obtain ⟨ws, e, r⟩ := r; exact ⟨ws, by rw [hide_ne na]; exact e, r.sq (sqT_hide hq)⟩
    | rod l => obtain ⟨ws, o, e, r⟩ := r; exact ⟨ws, o, by rw [hide_ne na]; exact e, r.sq (sqT_hide hq)⟩
    | rol l =>
      obtain ⟨ws, e, r⟩ := r
      refine ⟨ws, ?_, r.sq (sqT_hide hq)⟩
      rcases e with ⟨o, e⟩ | e
      · exact .inl ⟨o, by rw [hide_ne na]; exact e⟩
      · exact .inr e⟩
theorem HRep.unhide (h : HRep c μ G (DL.hide q H)) : HRep c μ G H :=
  ⟨h.len, h.inj, fun i o a g m => by
    have r := h.obj i o a g m
    cases o with
    | lst l => obtain ⟨ws, e, r⟩ := r; exact ⟨ws, (hide_some e).2, r.sq sqT_unhide⟩
    | dct l => obtain ⟨ws, e, r⟩ := r; exact ⟨ws, (hide_some e).2, r.sq sqT_unhide⟩
    | rod l => obtain ⟨ws, o, e, r⟩ := r; exact ⟨ws, o, (hide_some e).2, r.sq sqT_unhide⟩
    | rol l =>
      obtain ⟨ws, e, r⟩ := r
      refine ⟨ws, ?_, r.sq sqT_unhide⟩
      rcases e with ⟨o, e⟩ | e
      · exact .inl ⟨o, (hide_some e).2⟩
      · exact .inr e⟩
theorem Post.unhide {α : Type} {Z : XC} {r : Option (Except Str α × DH)} {K : α → List Addr → DH → Hp → Prop} (n : q ∉ μ) (hq : H q = some (.lst vs)) (p : Post c ZF μ (DL.hide q H) r K) :
    Post c Z μ H r fun a μ' G' H' => H' q = some (.lst vs) ∧ q ∉ μ' ∧ HRep c μ' G' (DL.hide q H') ∧ Ext μ (DL.hide q H) μ' (DL.hide q H') ∧ K a μ' G' (DL.hide q H') := by
  match r, p with
  | some (.ok a, G'), p =>
    intro μ' H' x h
    obtain ⟨e1, e2, e3⟩ := x.hide n hq
    have h2 := h.hide e2 e1
    exact ⟨e1, e2, h2, e3, p μ' _ e3 h2⟩
  | some (.error z, G'), p =>
    intro μ' H' x h
    obtain ⟨e1, e2, e3⟩ := x.hide n hq
    exact (p μ' _ e3 (h.hide e2 e1)).elim
theorem HRep.mem_lt {X : Cx} {pins : List (Addr × Obj)} {σ : St} {s : Shared} (I : Inv X pins σ H s) (h : HRep (wc X) μ G H) {a : Addr} (ha : a ∈ μ) : a < s.heap.objs.size := by
  obtain ⟨i, hi⟩ := List.getElem?_of_mem ha
  have hl : i < G.length := by rw [← h.len]; exact lt_of_get hi
  have r := h.obj i G[i] a (List.getElem?_eq_getElem hl) hi
  cases e : G[i] with
  | lst l => rw [e] at r; obtain ⟨_, e, _⟩ := r; exact I.hok.lt e
  | dct l => rw [e] at r; obtain ⟨_, e, _⟩ := r; exact I.hok.lt e
  | rod l => rw [e] at r; obtain ⟨_, _, e, _⟩ := r; exact I.hok.lt e
  | rol l =>
    rw [e] at r
    obtain ⟨ws, e, _⟩ := r
    rcases e with ⟨o, e⟩ | e
    · exact I.hok.lt e
    · rcases e with (e | ⟨o, e⟩) | ⟨o, its, n, e, _⟩
      · cases e
      · cases e
      · exact Heap.lt_size (I.kIn a o e)
end
def PTs (X : Cx) (ifs : List Expr) (t : TT) : Prop :=
  ∀ (pins : List (Addr × Obj)) (s : Shared) (σ : St) (H : Hp) (Q : Bool → Hp → Prop), Inv X pins σ H s → t σ H Q →
    wpAny (model X.prog X.w) X.A (forIn ifs true fun c r => if r = true then do let ok ← isTrue c X.env (eval c X.env); pure (ForInStep.yield ok) else pure (ForInStep.yield r)) (TP X pins σ Q) X.xe s
structure DTs (X : Cx) (Z : XC) (ifs : List Expr) (f : DSt → M Bool) : Prop where
  h : PTs X ifs (liftT (wc X) Z f)
def trueT : DSt → M Bool := fun _ => pure true
theorem dts_nil {X : Cx} {Z : XC} : DTs X Z [] trueT := ⟨fun pins s σ H Q I ⟨dσ, μ, G, sr, h, p⟩ => wpAny_tests_nil ⟨H, I, Post.ok p h⟩⟩
theorem dts_one {X : Cx} {Z : XC} {c : Expr} {t : DSt → M Bool} (h : DT X Z c t) : DTs X Z [c] t := ⟨fun pins s σ H Q I q => wpAny_tests_one (h.h pins s σ H Q I q)⟩
def compL (g : Fg) (t : DSt → M Bool) (e : Fe) (ck : DH → Bool) : List D → DSt → M (List D)
  | [] => fun _ G => if ck G then some (.ok [], G) else none
  | d :: r => fun σ G => if ck G then (do
      let σ1 ← g d σ
      if ← t σ1 then do
        let y ← e σ1
        let ys ← compL g t e ck r σ1
        pure (y :: ys)
      else compL g t e ck r σ1 : M (List D)) G else none
def compE (it : DSt → M Src) (caps : List (Option Nat)) (g : Fg) (t : DSt → M Bool) (e : Fe) : Fe := fun σ => do
  let s ← it σ
  if s.items.length ≤ sizeLine then do
    let ys ← noX (compL g t e s.ck s.items (capSt caps σ))
    allocM (.lst ys)
  else M.stuck
theorem capSt_rep {c : Wc} {μ : List Addr} {H : Hp} {caps : List (Option Nat)} {dσ : DSt} {σ : St} (h : StRep c μ H dσ σ) : StRep c μ H (capSt caps dσ) (capSt caps σ) := by
  refine ⟨by simp [capSt], fun i d e => ?_⟩
  obtain ⟨j, e1, e2⟩ := capSt_get e
  obtain ⟨v, e3, r⟩ := h.2 j d e2
  refine ⟨v, ?_, r⟩
  unfold capSt
  rw [List.getElem?_map, e1]
  simp [e3]
section
variable {X : Cx} {Z : XC} {elt tg iter : Expr} {ifs : List Expr} {scope : Scope} {pos : Pos} {N : List Str} {caps : List (Option Nat)} {it : DSt → M Src} {gg : Fg} {tt : DSt → M Bool} {fe : Fe}
set_option maxHeartbeats 1000000 in
theorem de_comp (hc : X.calm = true) (hi : DI X Z tg iter it) (k : CompOk X scope N caps)
    (hg : ∀ C s H ex, DG (compCx X scope N C s H ex) ZF tg gg) (ht : ∀ C s H ex, DTs (compCx X scope N C s H ex) ZF ifs tt) (he : ∀ C s H ex, DE (compCx X scope N C s H ex) ZF elt fe)
    (hs : ∀ x, foldedSetIterable iter X.env x = pure x) : DE X Z (.ListComp elt [⟨tg, iter, ifs, 0⟩] scope pos) (compE it caps gg tt fe) := by
  refine ⟨?_⟩
  intro pins s σ H Q I ⟨dσ, μ, G, sr, hr, p⟩
  have p1 := Post.bind p
  rw [eval_ListComp]
  refine wpAny_comprehension_free (use := none) rfl hs (closureFor_closL (k.cells I.ok)) k.kind k.names ?_
  refine thn (hi.h pins s σ H (fun J H1 => ∃ src μ1 G1, Ext μ H μ1 H1 ∧ HRep (wc X) μ1 G1 H1 ∧ ItD (wc X) μ1 H1 J src ∧
      Post (wc X) Z μ1 H1 ((if src.items.length ≤ sizeLine then (do let ys ← noX (compL gg tt fe src.ck src.items (capSt caps dσ)); allocM (.lst ys)) else M.stuck : M D) G1) fun d μ' _ H' => ∀ v, RepV (wc X) μ' H' d v → Q v H')
    I ⟨dσ, μ, G, sr, hr, p1.mono fun src μ1 G1 H1 x1 h1 p1 J hJ => ⟨src, μ1, G1, x1, h1, hJ, p1⟩⟩) fun v s1 q1 => thn q1 fun itv s2 q2 => ?_
  obtain ⟨itA, fp, tn, J, H2, rfl, I2, T, st2, f2, src, μ2, G2, x2, h2, hJ, p2⟩ := q2
  split at p2
  case isFalse => exact p2.elim
  rename_i hlen
  have hfp : ∀ b ∈ fp, b < s2.heap.objs.size := fun b hb => by obtain ⟨o, e, _⟩ := T.obj _ _ st2 b hb; exact Heap.lt_size e
  refine wpAny_newObj_type (wpAny_newFunctionEnv k.cell (by intro y hy; simp at hy) (fun h₁ hns₁ hsb₁ => ?_) k.kind)
  dsimp only at hns₁ hsb₁ ⊢
  generalize hHP : s2.heap.push { cls := .type "list", dict := none, data := .seq ([] : List Value).toArray } = HP at hns₁ hsb₁ ⊢
  have hC : HP.objs.size = s2.heap.objs.size + 1 := by rw [← hHP, Heap.size_push]
  have hCl : s2.heap.objs.size < HP.objs.size := by rw [hC]; exact Nat.lt_succ_self _
  have hDC : s2.heap.objs.size ≠ HP.objs.size := Nat.ne_of_lt hCl
  have old : ∀ b o, s2.heap.get? b = some o → h₁.get? b = some o := fun b o e => hsb₁.extBut b o (by have := Heap.lt_size e; exact Nat.ne_of_lt (Nat.lt_trans this hCl)) (Heap.get?_push_of_some _ (hHP ▸ Heap.get?_push_of_some _ e))
  have hacc : h₁.get? s2.heap.objs.size = some { cls := .type "list", data := .seq ([] : List Value).toArray 0 } := hsb₁.extBut _ _ hDC (Heap.get?_push_of_some _ (hHP ▸ Heap.get?_push_size _ rfl))
  have hD : H2 s2.heap.objs.size = none := I2.hok.fresh (Nat.le_refl _)
  have nD : s2.heap.objs.size ∉ μ2 := fun z => Nat.lt_irrefl _ (h2.mem_lt I2 z)
  have st1 : tn 0 h₁ := T.keep _ _ _ st2 fun b _ o e => old b o e
  have fpX : ∀ (H' : Hp) (b : Addr), b ∈ fp → H' b = none → FpOk (compCx X scope N HP.objs.size s2 H2 fp) [] H' b := fun H' b hb hn =>
    ⟨hn, Nat.ne_of_lt (Nat.lt_trans (hfp b hb) hCl), fun z => by
      rcases List.mem_cons.mp (I2.stkSub b z) with e | e
      · exact (f2 b hb).2.1 e
      · exact (f2 b hb).2.2.1 e, .inl hb, fun x c e => (f2 b hb).2.2.2.2.1 x c (closL_sub0 e), fun p hp => absurd (show p ∈ ([] : List (Addr × Obj)) from hp) (by simp)⟩
  have hcX : (compCx X scope N HP.objs.size s2 H2 fp).calm = true := hc
  have p3 := noX_post (Post.bind p2)
  generalize hDD : s2.heap.objs.size = DD at *
  have loop : ∀ s₃ : Shared, s₃ = { s2 with heap := h₁, toks := s2.toks + ([] : List (Str × Value)).length } →
      codeAny (model X.prog X.w) X.A (.compLoop (.ListComp elt [⟨tg, iter, ifs, 0⟩] scope pos) 0 (.ref itA) (.ref DD) (compEnvC scope (closL X.env scope.names []) HP.objs.size X.env))
        (compPost (model X.prog X.w) X.A X.xe none (EP X pins σ Q) (.ref DD) HP.objs.size) s₃ := by
    rintro s₃ rfl
    refine compLoop_own (fun n s' => ∃ (i : Nat) (ys : List D) (vs : List V) (σ' : St) (H' : Hp) (dσ' : DSt) (μ' : List Addr) (G' : DH), n = src.items.length - i ∧ i ≤ src.items.length ∧ vs.length ≤ i ∧
      Inv (compCx X scope N HP.objs.size s2 H2 fp) [] σ' H' s' ∧ tn i s'.heap ∧ (∀ b ∈ fp, H' b = none) ∧ H' DD = some (.lst vs) ∧ DD ∉ μ' ∧
      Ext μ2 H2 μ' (hide DD H') ∧ HRep (wc X) μ' G' (hide DD H') ∧ StRep (wc X) μ' (hide DD H') dσ' σ' ∧ RepL (wc X) μ' (hide DD H') ys vs ∧
      Post (wc X) ZF μ' (hide DD H') (compL gg tt fe src.ck (src.items.drop i) dσ' G') fun rest μ'' G'' H'' => Post (wc X) Z μ'' H'' (allocM (.lst (ys ++ rest)) G'') fun d μ' _ H' => ∀ v, RepV (wc X) μ' H' d v → Q v H') ?_ src.items.length
      ⟨0, [], [], capSt caps σ, upd H2 DD (.lst []), capSt caps dσ, μ2, G2, rfl, Nat.zero_le _, Nat.le_refl _, ?_, st1, fun b hb => ?_, upd_same, nD, ?_, ?_, ?_, rfl, ?_⟩
    · rintro n s' ⟨i, ys, vs, σ', H', dσ', μ', G', rfl, hi', hvl, I', st', fr', hvs, nD', x', h', sr', rl, p'⟩
      by_cases hlt : i < src.items.length
      · rw [List.drop_eq_getElem_cons hlt] at p'
        unfold compL at p'
        split at p'
        case isFalse => exact p'.elim
        rename_i ck
        obtain ⟨q1, _⟩ := hJ μ' G' H' x'.unhide h'.unhide ck i
        obtain ⟨go, yl⟩ := q1 _ (List.getElem?_eq_getElem hlt)
        refine thn (T.item (compCx X scope N HP.objs.size s2 H2 fp) rfl rfl rfl hcX i [] s' σ' H' (fun _ _ => False) I' (fun b hb => fpX H' b hb (fr' b hb)) st' go) fun r s4 ⟨u, hr, h4⟩ => ?_
        subst hr
        refine thn h4 fun _ s5 ⟨x, H5, I5, r5, y5, st5, fr5⟩ => ?_
        obtain ⟨k5, h5, rx5⟩ := yl x H5 y5
        obtain ⟨e5, n5, k5'⟩ := k5.hide nD' hvs
        have I5' := I5.pinned (fun b hb => fpX H5 b hb (fr5 b hb)) (T.obj _ _ st5)
        have keepIt : ∀ {σ7 : St} {H7 : Hp} {s7 : Shared}, Inv (compCx X scope N HP.objs.size s2 H2 fp) ([] ++ pinsAt fp s5.heap) σ7 H7 s7 → Inv (compCx X scope N HP.objs.size s2 H2 fp) [] σ7 H7 s7 ∧ tn (i + 1) s7.heap ∧ ∀ b ∈ fp, H7 b = none := fun {σ7 H7 s7} I7 => by
          refine ⟨I7.unpinned, T.keep _ _ _ st5 fun b hb o e => (I7.pin (b, o) (List.mem_append_right _ (List.mem_append_right _ (mem_pinsAt hb e)))).1, fun b hb => ?_⟩
          obtain ⟨o, e, d⟩ := T.obj _ _ st5 b hb
          exact (I7.pin (b, o) (List.mem_append_right _ (List.mem_append_right _ (mem_pinsAt hb e)))).2.1
        have p5 := Post.unhide (Z := ZF) n5 e5 (Post.bind (p'.from k5'))
        refine thn ((hg _ _ _ _).h _ s5 σ' H5 x u _ I5' r5 ⟨_, dσ', μ', G', rx5, (sr'.mono k5').sq sqT_unhide, h5, p5.mono fun dσ6 μ6 G6 H6 x6 h6 q6 σ6 sr6 => (⟨dσ6, μ6, G6, sr6, h6, q6⟩ :
          (fun σ6 H6 => ∃ dσ6 μ6 G6, StRep (wc X) μ6 H6 dσ6 σ6 ∧ HRep (wc X) μ6 G6 H6 ∧ H6 DD = some (.lst vs) ∧ DD ∉ μ6 ∧ HRep (wc X) μ6 G6 (hide DD H6) ∧ Ext μ' (hide DD H5) μ6 (hide DD H6) ∧
            Post (wc X) ZF μ6 (hide DD H6) ((do if ← tt dσ6 then do { let y ← fe dσ6; let ys ← compL gg tt fe src.ck (src.items.drop (i + 1)) dσ6; pure (y :: ys) } else compL gg tt fe src.ck (src.items.drop (i + 1)) dσ6 : M (List D)) G6)
              fun rest μ'' G'' H'' => Post (wc X) Z μ'' H'' (allocM (.lst (ys ++ rest)) G'') fun d μ' _ H' => ∀ v, RepV (wc X) μ' H' d v → Q v H') σ6 H6)⟩) fun _ s6 ⟨σ6, H6, I6, dσ6, μ6, G6, sr6, h6, e6, n6, hh6, x6, p6⟩ => ?_
        have p6' := Post.unhide (Z := ZF) n6 e6 (Post.bind p6)
        refine thn ((ht _ _ _ _).h _ s6 σ6 H6 (fun b H7 => ∃ μ7 G7, StRep (wc X) μ7 H7 dσ6 σ6 ∧ HRep (wc X) μ7 G7 H7 ∧ H7 DD = some (.lst vs) ∧ DD ∉ μ7 ∧ HRep (wc X) μ7 G7 (hide DD H7) ∧ Ext μ6 (hide DD H6) μ7 (hide DD H7) ∧
            Post (wc X) ZF μ7 (hide DD H7) ((if b = true then (do let y ← fe dσ6; let ys ← compL gg tt fe src.ck (src.items.drop (i + 1)) dσ6; pure (y :: ys)) else compL gg tt fe src.ck (src.items.drop (i + 1)) dσ6 : M (List D)) G7)
              fun rest μ'' G'' H'' => Post (wc X) Z μ'' H'' (allocM (.lst (ys ++ rest)) G'') fun d μ' _ H' => ∀ v, RepV (wc X) μ' H' d v → Q v H') I6 ⟨dσ6, μ6, G6, sr6, h6, p6'.mono fun b μ7 G7 H7 x7 h7 q7 => ⟨μ7, G7, sr6.mono x7, h7, q7⟩⟩) fun b s7 ⟨H7, I7, μ7, G7, sr7, h7, e7, n7, hh7, x7, p7⟩ => ?_
        have x27 : Ext μ2 H2 μ7 (hide DD H7) := x'.trans (k5'.trans (x6.trans x7))
        have rl7 : RepL (wc X) μ7 (hide DD H7) ys vs := rl.mono (k5'.trans (x6.trans x7))
        cases b with
        | false =>
          rw [if_neg Bool.false_ne_true] at p7 ⊢
          obtain ⟨I8, st8, fr8⟩ := keepIt I7
          exact ⟨src.items.length - (i + 1), by omega, i + 1, ys, vs, σ6, H7, dσ6, μ7, G7, rfl, hlt, by omega, I8, st8, fr8, e7, n7, x27, hh7, sr7.sq (sqT_hide e7), rl7, p7⟩
        | true =>
          rw [if_pos rfl] at p7 ⊢
          have p7' := Post.unhide (Z := ZF) n7 e7 (Post.bind p7)
          refine thn ((he _ _ _ _).h _ s7 σ6 H7 (fun v H8 => ∃ y μ8 G8, RepV (wc X) μ8 H8 y v ∧ StRep (wc X) μ8 H8 dσ6 σ6 ∧ HRep (wc X) μ8 G8 H8 ∧ H8 DD = some (.lst vs) ∧ DD ∉ μ8 ∧ HRep (wc X) μ8 G8 (hide DD H8) ∧ Ext μ7 (hide DD H7) μ8 (hide DD H8) ∧
            Post (wc X) ZF μ8 (hide DD H8) ((do let ys ← compL gg tt fe src.ck (src.items.drop (i + 1)) dσ6; pure (y :: ys) : M (List D)) G8)
              fun rest μ'' G'' H'' => Post (wc X) Z μ'' H'' (allocM (.lst (ys ++ rest)) G'') fun d μ' _ H' => ∀ v, RepV (wc X) μ' H' d v → Q v H') I7 ⟨dσ6, μ7, G7, sr7, h7, p7'.mono fun y μ8 G8 H8 x8 h8 q8 v rv => ⟨y, μ8, G8, rv, sr7.mono x8, h8, q8⟩⟩) fun yu s8 ⟨yv, H8, I8, ry, y, μ8, G8, ryd, sr8, h8, e8, n8, hh8, x8, p8⟩ => ?_
          refine thn (mt_append _ s8 σ6 H8 (.ref DD) [yv] (.ref DD) [yu] (fun _ H9 => H9 = upd H8 DD (.lst (vs ++ [yv]))) I8 rfl (.cons ry .nil) ⟨DD, vs, yv, rfl, rfl, e8, by omega, rfl⟩) fun _ s9 ⟨_, H9, I9, _, e9⟩ => ?_
          subst e9
          obtain ⟨I10, st10, fr10⟩ := keepIt I9
          have hd9 : hide DD (upd H8 DD (.lst (vs ++ [yv]))) = hide DD H8 := hide_upd
          refine ⟨src.items.length - (i + 1), by omega, i + 1, ys ++ [y], vs ++ [yv], σ6, _, dσ6, μ8, G8, rfl, hlt, by simp; omega, I10, st10, fr10, upd_same, n8, ?_, ?_, ?_, ?_, ?_⟩
          · rw [hd9]; exact x27.trans x8
          · rw [hd9]; exact hh8
          · rw [hd9]; exact sr8.sq (sqT_hide e8)
          · rw [hd9]; exact (rl7.mono x8).append ⟨yv, [], rfl, ryd.sq (sqT_hide e8), rfl⟩
          · rw [hd9]
            refine (Post.bind p8).mono fun rest μ'' G'' H'' x'' h'' q'' => ?_
            have q3 := Post.ok q'' h''
            rw [List.append_assoc]
            exact q3
      · have e : i = src.items.length := by omega
        subst e
        rw [List.drop_length] at p'
        unfold compL at p'
        split at p'
        case isFalse => exact p'.elim
        rename_i ck
        obtain ⟨_, q2⟩ := hJ μ' G' H' x'.unhide h'.unhide ck src.items.length
        refine thn (T.done (compCx X scope N HP.objs.size s2 H2 fp) rfl rfl rfl hcX src.items.length [] s' σ' H' (fun _ _ => False) I' (fun b hb => fpX H' b hb (fr' b hb)) st' (q2 (Nat.le_refl _))) fun r s4 ⟨hr, I4⟩ => ?_
        subst hr
        obtain ⟨m, hn, _⟩ := I4.loc
        refine ⟨m, hn, fun h'' sb => ?_⟩
        have fin := comp_end I2 (fun b hb => f2 b hb) (by rw [hDD]; exact hCl) I4 sb
        have p9 := Post.ok p' h'
        rw [List.append_nil] at p9
        have q9 := post_lst (q := DD) h' rl p9 hide_self
        rw [upd_hide hvs] at q9
        exact ⟨.ref DD, H', fin, rfl, q9⟩
    · have := comp_start (h₁ := h₁) (tk := s2.toks + ([] : List (Str × Value)).length) I2 k (C := HP.objs.size) (by rw [hDD]; exact hCl) f2 (fun b hb => by rw [hDD]; exact hfp b hb) old hns₁ (by rw [hDD]; exact hacc)
      rw [hDD] at this
      exact this
    · rw [upd_ne (Nat.ne_of_lt (hfp b hb))]; exact (f2 b hb).1
    · rw [hide_upd, hide_none hD]; exact Ext.refl _ _
    · rw [hide_upd, hide_none hD]; exact h2
    · rw [hide_upd, hide_none hD]; exact capSt_rep (sr.mono x2)
    · rw [hide_upd, hide_none hD, List.drop_zero]
      exact p3
  exact codeAny_compStart_list (loop _ rfl) (T.self _ 0 _ _ _ st1 (loop _ rfl))
end
end DL
set_option Elab.async false
set_option linter.all false
set_option maxRecDepth 100000
namespace DL
open PySem PySem.Spec L2
open PyProof.Rows hiding St
def objM (r : Nat) : M DO := fun G => match G[r]? with
  | some o => some (.ok o, G)
  | none => none
def listOf : DO → M (List D)
  | .lst l => pure l
  | .rol l => pure l
  | .dct _ => M.stuck
  | .rod _ => M.stuck
def seqM : D → M (List D)
  | .tup l => pure l
  | .ref r => objM r >>= listOf
  | _ => M.stuck
def optM {α : Type} : Option α → M α
  | some a => pure a
  | none => M.stuck
section
variable {X : Cx} {Z : XC}
theorem IxR.mono {r r' : R2} (h : IxR X r) (k : ∀ x y H Q, r' x y H Q → r x y H Q) : IxR X r' := fun va sl pins s σ H x y v u Q I rx ry q hs => h va sl pins s σ H x y v u Q I rx ry (k x y H Q q) hs
variable {c : Wc} {μ : List Addr} {H : Hp} {G : DH}
theorem objM_post {α : Type} {r : Nat} {f : DO → M α} {K : α → List Addr → DH → Hp → Prop} (p : Post c Z μ H ((objM r >>= f) G) K) : ∃ o, G[r]? = some o ∧ Post c Z μ H (f o G) K := by
  rw [M.bind_eq] at p
  unfold objM at p
  cases e : G[r]? with
  | none => rw [e] at p; exact p.elim
  | some o => rw [e] at p; exact ⟨o, rfl, p⟩
theorem optM_post {α β : Type} {r : Option β} {f : β → M α} {K : α → List Addr → DH → Hp → Prop} (p : Post c Z μ H ((optM r >>= f) G) K) : ∃ o, r = some o ∧ Post c Z μ H (f o G) K := by
  cases r with
  | none => exact p.elim
  | some o => exact ⟨o, rfl, p⟩
theorem seqM_post {α : Type} {d : D} {v : V} {f : List D → M α} {K : α → List Addr → DH → Hp → Prop} (h : HRep c μ G H) (r : RepV c μ H d v) (p : Post c Z μ H ((seqM d >>= f) G) K) :
    ∃ l a vs, v = .ref a ∧ RepL c μ H l vs ∧ Post c Z μ H (f l G) K ∧ ((d = .tup l ∧ SqT c.K H a vs) ∨ (∃ i, d = .ref i ∧ μ[i]? = some a ∧ ((G[i]? = some (.lst l) ∧ H a = some (.lst vs)) ∨ (G[i]? = some (.rol l) ∧ RoL c.K H a vs)))) := by
  cases d with
  | tup l =>
    unfold RepV at r
    obtain ⟨a, vs, e, q, rl⟩ := r
    exact ⟨l, a, vs, e, rl, p, .inl ⟨rfl, q⟩⟩
  | ref i =>
    unfold RepV at r
    obtain ⟨a, m, e⟩ := r
    have p' : Post c Z μ H ((objM i >>= fun o => listOf o >>= f) G) K := by rw [← M.bind_assoc]; exact p
    obtain ⟨o, g, p2⟩ := objM_post p'
    have ro := h.obj i o a g m
    cases o with
    | lst l => obtain ⟨vs, q, rl⟩ := ro; exact ⟨l, a, vs, e, rl, p2, .inr ⟨i, rfl, m, .inl ⟨g, q⟩⟩⟩
    | rol l => obtain ⟨vs, q, rl⟩ := ro; exact ⟨l, a, vs, e, rl, p2, .inr ⟨i, rfl, m, .inr ⟨g, q⟩⟩⟩
    | dct l => exact p2.elim
    | rod l => exact p2.elim
  | _ => exact p.elim
theorem repI {i : Int} {v : V} (r : RepV c μ H (.int i) v) : v = .int i := by unfold RepV at r; exact r
theorem repS {i : Str} {v : V} (r : RepV c μ H (.str i) v) : v = .str i := by unfold RepV at r; exact r
theorem repB {i : Bool} {v : V} (r : RepV c μ H (.bl i) v) : v = .bl i := by unfold RepV at r; exact r
theorem repN {v : V} (r : RepV c μ H .non v) : v = .non := by unfold RepV at r; exact r
theorem ofI {i : Int} : RepV c μ H (.int i) (.int i) := by unfold RepV; rfl
theorem ofS {i : Str} : RepV c μ H (.str i) (.str i) := by unfold RepV; rfl
theorem ofB {i : Bool} : RepV c μ H (.bl i) (.bl i) := by unfold RepV; rfl
theorem ofN : RepV c μ H .non .non := by unfold RepV; rfl
def int2 (g : Int → Int → M D) : D → D → M D := fun x y => match x, y with
  | .int i, .int j => g i j
  | _, _ => M.stuck
theorem opd_int {f : Value → Value → Sem Value} {C : Int → Int → Prop} [∀ i j, Decidable (C i j)] {g : Int → Int → Int} (h : OpR X f (rI C fun i j => .int (g i j))) : OpD X Z f (int2 fun i j => if C i j then pure (.int (g i j)) else M.stuck) :=
  OpD.of h fun x y H Q ⟨dx, dy, μ, G, rx, ry, hr, p⟩ => by
    cases dx <;> cases dy <;> first
      | exact p.elim
      | skip
    rename_i i j
    unfold int2 at p
    dsimp only at p
    split at p
    · rename_i hc
      exact ⟨i, j, repI rx, repI ry, hc, Post.ok p hr _ ofI⟩
    · exact p.elim
theorem opd_int0 {f : Value → Value → Sem Value} {g : Int → Int → Int} (h : OpR X f (rI0 fun i j => .int (g i j))) : OpD X Z f (int2 fun i j => pure (.int (g i j))) :=
  OpD.of h fun x y H Q ⟨dx, dy, μ, G, rx, ry, hr, p⟩ => by
    cases dx <;> cases dy <;> first
      | exact p.elim
      | exact ⟨_, _, repI rx, repI ry, Post.ok p hr _ ofI⟩
def subD : D → D → M D := int2 fun i j => pure (.int (i - j))
theorem od_sub : OpD X Z (binaryOp .Sub) subD := opd_int0 op_sub
instance (i j : Int) : Decidable (CMul i j) := by unfold CMul; infer_instance
def CDivB (_ j : Int) : Prop := 0 < j ∧ j < 2 ^ 100
instance (i j : Int) : Decidable (CDivB i j) := by unfold CDivB; infer_instance
theorem op_fdivB : OpR X (binaryOp .FloorDiv) (rI CDivB fun i j => .int (i / j)) := opI fun i j _ _ _ _ _ hc q => by
  have h1 : (0 : Int) < j := hc.1
  have h2 : j < 2 ^ 100 := hc.2
  refine floordiv_int (by omega) (by rw [Int.fdiv_eq_ediv_of_nonneg i (by omega)]; exact q) (.inl (PyProof.noPylong_of_log2 ?_))
  have h3 : j.natAbs < 2 ^ 100 := by omega
  have h4 : j.natAbs ≠ 0 := by omega
  have := (Nat.log2_lt h4).mpr h3
  omega
def fdivD : D → D → M D := int2 fun i j => if CDivB i j then pure (.int (i / j)) else M.stuck
theorem od_fdiv : OpD X Z (binaryOp .FloorDiv) fdivD := opd_int op_fdivB
def modD : D → D → M D := int2 fun i j => if 0 < j then pure (.int (i % j)) else M.stuck
theorem od_mod : OpD X Z (binaryOp .Mod) modD := opd_int (C := fun _ j => 0 < j) op_mod
instance (i j : Int) : Decidable (CPow i j) := by unfold CPow; infer_instance
theorem cat_tup0 {prog : Program} {w : World} {A : Around} {E : Value → Shared → Prop} {s : Shared} {t b : Addr} {ws : List Value} {Q : Value → Shared → Prop} (ht : IsTup s.heap t #[]) (hb : IsTup s.heap b ws.toArray)
    (h1 : Q (.ref b) s) : wpAny (model prog w) A (binaryOp .Add (.ref t) (.ref b)) Q E s := by
  obtain ⟨⟨cls, dd, data, sl⟩, ho, hc, n, hd⟩ := id ht
  obtain ⟨⟨cls2, dd2, data2, sl2⟩, ho2, hc2, n2, hd2⟩ := id hb
  simp only at hc hd hc2 hd2
  subst hc hd hc2 hd2
  exact concat_meets ⟨_, ho, rfl⟩ ⟨_, ho2, rfl⟩ noFill_tuple_add seq_tuple_add PySem.F.slot_tuple_add PySem.F.entry_tuple_add (PySem.F.args_tuple_add_2 _ _)
      (tuple_addW0 t b #[] ws.toArray n n2 dd dd2 sl sl2 (by simp)) ⟨ho, ho2, h1⟩
def rCatT0 (K : PySem.W.Frag) : R2 := fun x y H Q => ∃ a b ys, x = .ref a ∧ y = .ref b ∧ SqT K H a [] ∧ SqT K H b ys ∧ Q (.ref b) H
theorem op_catT0 : OpR X (binaryOp .Add) (rCatT0 X.K) := by
  intro pins s σ H x y v u Q I rx ry h
  obtain ⟨a, b, ys, rfl, rfl, ha, hb, q⟩ := h
  cases rx
  cases ry
  obtain ⟨its, r, p, _⟩ := I.tuple ha
  obtain ⟨its2, r2, p2, _⟩ := I.tuple hb
  cases r
  exact cat_tup0 p p2 ⟨.ref b, H, I, rfl, q⟩
def addD : D → D → M D := fun x y => match x, y with
  | .int i, .int j => pure (.int (i + j))
  | .str a, .str b => if a.length + b.length ≤ sizeLine then pure (.str (a ++ b)) else M.stuck
  | .tup a, .tup b => if a.length + b.length ≤ sizeLine then pure (.tup (a ++ b)) else M.stuck
  | .ref i, .ref j => do
    match ← objM i, ← objM j with
    | .lst a, .lst b => if a.length + b.length ≤ sizeLine then allocM (.lst (a ++ b)) else M.stuck
    | _, _ => M.stuck
  | _, _ => M.stuck
theorem post_tup2 {xs : List D} {vs : List V} {Q : VK} (h : HRep c μ G H) {a : Addr} (q : SqT c.K H a vs) (r : RepL c μ H xs vs)
    (p : Post c Z μ H (some (Except.ok (.tup xs), G)) fun d μ' _ H' => ∀ v, RepV c μ' H' d v → Q v H') : Q (.ref a) H := Post.ok p h _ (by unfold RepV; exact ⟨a, vs, rfl, q, r⟩)
theorem od_add : OpD X Z (binaryOp .Add) addD :=
  OpD.of (OpR.or op_add (OpR.or op_add_str (OpR.or op_catT (OpR.or op_catT0 op_cat)))) fun x y H Q ⟨dx, dy, μ, G, rx, ry, hr, p⟩ => by
    cases dx <;> cases dy <;> first
      | exact p.elim
      | skip
    · exact .inl ⟨_, _, repI rx, repI ry, Post.ok p hr _ ofI⟩
    · rename_i a b
      refine .inr (.inl ?_)
      unfold addD at p
      dsimp only at p
      split at p
      · rename_i hz
        exact ⟨a, b, repS rx, repS ry, hz, Post.ok p hr _ ofS⟩
      · exact p.elim
    · rename_i a b
      unfold RepV at rx ry
      obtain ⟨ax, vx, rfl, qx, lx⟩ := rx
      obtain ⟨ay, vy, rfl, qy, ly⟩ := ry
      unfold addD at p
      dsimp only at p
      split at p
      · rename_i hz
        by_cases hv : vx = []
        · subst hv
          cases a with
          | nil => exact .inr (.inr (.inr (.inl ⟨ax, ay, vy, rfl, rfl, qx, qy, post_tup2 hr qy ly p⟩)))
          | cons _ _ => obtain ⟨_, _, z, _⟩ := lx; cases z
        · refine .inr (.inr (.inl ⟨ax, ay, vx, vy, rfl, rfl, qx, qy, hv, by rw [← lx.length, ← ly.length]; exact hz, ?_⟩))
          refine ⟨fun hy => ?_, fun hy q hq => post_tup hr (lx.append ly) p q hq⟩
          subst hy
          refine post_tup2 hr qx ?_ p
          cases b with
          | nil => rw [List.append_nil]; exact lx
          | cons _ _ => obtain ⟨_, _, z, _⟩ := ly; cases z
      · exact p.elim
    · rename_i i j
      unfold RepV at rx ry
      obtain ⟨ax, mx, rfl⟩ := rx
      obtain ⟨ay, my, rfl⟩ := ry
      obtain ⟨ox, gx, p⟩ := objM_post p
      obtain ⟨oy, gy, p⟩ := objM_post p
      have hx := hr.obj i ox ax gx mx
      have hy := hr.obj j oy ay gy my
      cases ox <;> cases oy <;> first
        | exact p.elim
        | skip
      obtain ⟨vx, ex, lx⟩ := hx
      obtain ⟨vy, ey, ly⟩ := hy
      dsimp only at p
      split at p
      · rename_i hz
        exact .inr (.inr (.inr (.inr ⟨ax, ay, vx, vy, rfl, rfl, ex, ey, by rw [← lx.length, ← ly.length]; exact hz, fun q hq => post_lst hr (lx.append ly) p q hq⟩)))
      · exact p.elim
end
end DL
set_option Elab.async false
set_option linter.all false
set_option maxRecDepth 100000
namespace DL
open PySem PySem.Spec L2
open PyProof.Rows hiding St
def seqK (G : DH) : D → Option (Bool × List D)
  | .tup l => some (true, l)
  | .ref i => match G[i]? with
    | some (.lst l) => some (false, l)
    | some (.rol l) => some (false, l)
    | _ => none
  | _ => none
def scalD : D → Bool
  | .non => true
  | .bl _ => true
  | .int _ => true
  | .str _ => true
  | _ => false
def eqS : D → D → Option Bool
  | .non, .non => some true
  | .bl a, .bl b => some (a == b)
  | .int a, .int b => some (a == b)
  | .str a, .str b => some (a == b)
  | .bl a, .int b => some ((if a then (1 : Int) else 0) == b)
  | .int a, .bl b => some (a == (if b then (1 : Int) else 0))
  | x, y => if scalD x && scalD y then some false else none
def eqL (f : D → D → Option Bool) : List D → List D → Option Bool
  | [], [] => some true
  | [], _ :: _ => some false
  | _ :: _, [] => some false
  | x :: xs, y :: ys => match f x y, eqL f xs ys with
    | some e, some r => some (e && r)
    | _, _ => none
def eqN : Nat → DH → D → D → Option Bool
  | 0, _, _, _ => none
  | n + 1, G, x, y => match seqK G x, seqK G y with
    | some (k1, a), some (k2, b) => if k1 = k2 then (if k1 = false ∧ a.length ≠ b.length then some false else eqL (eqN n G) a b) else some false
    | some _, none => if scalD y then some false else none
    | none, some _ => if scalD x then some false else none
    | none, none => eqS x y
theorem eqL_range {f : D → D → Option Bool} {e : Nat → Bool} : ∀ (a b : List D) (r : Bool), eqL f a b = some r → (∀ (j : Nat) x y, a[j]? = some x → b[j]? = some y → f x y = some (e j)) → r = ((List.range (min a.length b.length)).all e && a.length == b.length)
  | [], [], r, h, _ => by cases h; rfl
  | [], _ :: _, r, h, _ => by cases h; simp
  | _ :: _, [], r, h, _ => by cases h; simp
  | x :: xs, y :: ys, r, h, he => by
    unfold eqL at h
    have h0 := he 0 x y rfl rfl
    rw [h0] at h
    cases hr : eqL f xs ys with
    | none => rw [hr] at h; cases h
    | some r' =>
      rw [hr] at h
      have ih := eqL_range (e := fun j => e (j + 1)) xs ys r' hr fun j x' y' h1 h2 => he (j + 1) x' y' (by simpa using h1) (by simpa using h2)
      cases h
      rw [ih]
      have : min (x :: xs).length (y :: ys).length = min xs.length ys.length + 1 := by simp only [List.length_cons]; omega
      rw [this, List.range_succ_eq_map, List.all_cons, List.all_map]
      simp [Bool.and_assoc, Function.comp_def]
theorem eqL_some {f : D → D → Option Bool} : ∀ (a b : List D) (r : Bool), eqL f a b = some r → ∀ (j : Nat) x y, a[j]? = some x → b[j]? = some y → ∃ e, f x y = some e
  | [], _, _, _, _, _, _, h, _ => by simp at h
  | _ :: _, [], _, _, _, _, _, _, h => by simp at h
  | x :: xs, y :: ys, r, h, j, x', y', h1, h2 => by
    unfold eqL at h
    cases hf : f x y with
    | none => rw [hf] at h; cases h
    | some e =>
      cases hr : eqL f xs ys with
      | none => rw [hf, hr] at h; cases h
      | some r' =>
        cases j with
        | zero => simp at h1 h2; subst h1 h2; exact ⟨e, hf⟩
        | succ j => exact eqL_some xs ys r' hr j x' y' (by simpa using h1) (by simpa using h2)
section
variable {X : Cx} {pins : List (Addr × Obj)} {σ : St} {H : Hp} {s : Shared} {μ : List Addr} {G : DH}
def SeqIs (s : Shared) (k : Bool) (a : Addr) (its : List Value) : Prop := if k then s.heap.IsTuple a its.toArray else s.heap.IsList a its.toArray
theorem seqK_at (I : Inv X pins σ H s) (h : HRep (wc X) μ G H) {d : D} {x : V} {v : Value} {k : Bool} {l : List D} (e : seqK G d = some (k, l)) (r : RepV (wc X) μ H d x) (rv : RelV x v) :
    ∃ a vs its, x = .ref a ∧ v = .ref a ∧ RepL (wc X) μ H l vs ∧ Vals vs its ∧ SeqIs s k a its ∧ (if k then SqT X.K H a vs else SqL X.K H a vs) := by
  cases d with
  | tup l' =>
    unfold seqK at e
    cases e
    unfold RepV at r
    obtain ⟨a, vs, rfl, q, rl⟩ := r
    obtain ⟨its, rr, p, _⟩ := I.tuple q
    exact ⟨a, vs, its, rfl, rv, rl, rr, p, q⟩
  | ref i =>
    have e' : (match G[i]? with | some (.lst l) => some (false, l) | some (.rol l) => some (false, l) | _ => none) = some (k, l) := e
    unfold RepV at r
    obtain ⟨a, m, rfl⟩ := r
    have key : ∀ vs, SqL X.K H a vs → RepL (wc X) μ H l vs → k = false → ∃ a' vs its, V.ref a = .ref a' ∧ v = .ref a' ∧ RepL (wc X) μ H l vs ∧ Vals vs its ∧ SeqIs s k a' its ∧ (if k then SqT X.K H a' vs else SqL X.K H a' vs) := fun vs q rl hk => by
      subst hk
      obtain ⟨its, rr, p, _⟩ := I.list q
      exact ⟨a, vs, its, rfl, rv, rl, rr, p.isList, q⟩
    split at e'
    · rename_i l' g
      cases e'
      obtain ⟨vs, q, rl⟩ := h.obj i _ a g m
      exact key vs (SqL.of q) rl rfl
    · rename_i l' g
      cases e'
      obtain ⟨vs, q, rl⟩ := h.obj i _ a g m
      exact key vs q.sq rl rfl
    · cases e'
  | _ => cases e
theorem scal_noref {d : D} {a : Addr} {c : Wc} (hs : scalD d = true) (r : RepV c μ H d (.ref a)) : False := by
  cases d <;> first
    | exact absurd (show false = true from hs) Bool.false_ne_true
    | (unfold RepV at r; cases r)
theorem eqS_scal {x y : D} {b : Bool} (h : eqS x y = some b) : scalD x = true ∧ scalD y = true := by
  cases x <;> cases y <;> first
    | exact ⟨rfl, rfl⟩
    | (exfalso; simp [eqS, scalD] at h)
theorem eqS_same {x y : D} {b : Bool} {v : V} {c : Wc} (h : eqS x y = some b) (rx : RepV c μ H x v) (ry : RepV c μ H y v) : b = true := by
  obtain ⟨s1, s2⟩ := eqS_scal h
  cases x <;> cases y <;> first
    | (cases s1; done)
    | (cases s2; done)
    | (unfold RepV at rx ry; rw [rx] at ry; cases ry; done)
    | (unfold RepV at rx ry; rw [rx] at ry; cases ry; cases h; first | rfl | simp)
theorem seqIs_kind (I : Inv X pins σ H s) {k k' : Bool} {a : Addr} {its its' : List Value} (h1 : SeqIs s k a its) (h2 : SeqIs s k' a its') : k = k' := by
  cases k <;> cases k' <;> first
    | rfl
    | exact absurd rfl (SeqAt.ne_of_list_tuple h1 h2)
    | exact absurd rfl (SeqAt.ne_of_list_tuple h2 h1)
theorem eqL_same {c : Wc} {f : D → D → Option Bool} : ∀ (l l' : List D) (vs : List V) (b : Bool), RepL c μ H l vs → RepL c μ H l' vs → (∀ d d' v b, v ∈ vs → RepV c μ H d v → RepV c μ H d' v → f d d' = some b → b = true) → eqL f l l' = some b → b = true
  | [], [], _, b, _, _, _, e => by cases e; rfl
  | [], _ :: _, vs, b, r1, r2, _, _ => by cases r1; obtain ⟨_, _, z, _⟩ := r2; cases z
  | _ :: _, [], vs, b, r1, r2, _, _ => by cases r2; obtain ⟨_, _, z, _⟩ := r1; cases z
  | d :: ds, d' :: ds', vs, b, r1, r2, k, e => by
    obtain ⟨v0, vr, rfl, q0, t0⟩ := r1
    obtain ⟨v1, vr', e1, q1, t1⟩ := r2
    cases e1
    unfold eqL at e
    cases hf : f d d' with
    | none => rw [hf] at e; cases e
    | some e0 =>
      cases hr : eqL f ds ds' with
      | none => rw [hf, hr] at e; cases e
      | some r' =>
        rw [hf, hr] at e
        cases e
        have z1 := k d d' v0 e0 List.mem_cons_self q0 q1 hf
        have z2 := eqL_same ds ds' vr r' t0 t1 (fun a a' v b hm => k a a' v b (List.mem_cons_of_mem _ hm)) hr
        rw [z1, z2]; rfl
theorem rep_same (I : Inv X pins σ H s) (h : HRep (wc X) μ G H) : ∀ (n : Nat) {dx dy : D} {x : V} {v : Value} {b : Bool}, RepV (wc X) μ H dx x → RepV (wc X) μ H dy x → RelV x v → eqN n G dx dy = some b → b = true
  | 0, _, _, _, _, _, _, _, _, e => by cases e
  | n + 1, dx, dy, x, v, b, rx, ry, rv, e => by
    unfold eqN at e
    cases hx : seqK G dx with
    | none =>
      rw [hx] at e
      cases hy : seqK G dy with
      | none => rw [hy] at e; exact eqS_same e rx ry
      | some p =>
        obtain ⟨k, l⟩ := p
        rw [hy] at e
        dsimp only at e
        split at e
        · rename_i hs
          obtain ⟨a, _, _, rfl, _⟩ := seqK_at I h hy ry rv
          exact (scal_noref hs rx).elim
        · cases e
    | some p =>
      obtain ⟨k, l⟩ := p
      rw [hx] at e
      cases hy : seqK G dy with
      | none =>
        rw [hy] at e
        dsimp only at e
        split at e
        · rename_i hs
          obtain ⟨a, _, _, rfl, _⟩ := seqK_at I h hx rx rv
          exact (scal_noref hs ry).elim
        · cases e
      | some p' =>
        obtain ⟨k', l'⟩ := p'
        rw [hy] at e
        dsimp only at e
        obtain ⟨a, vs, its, rfl, rfl, rl, rr, sq, q⟩ := seqK_at I h hx rx rv
        obtain ⟨a', vs', its', ea, _, rl', rr', sq', q'⟩ := seqK_at I h hy ry rv
        cases ea
        have hk : k = k' := seqIs_kind I sq sq'
        subst hk
        have hvs : vs = vs' := by
          cases k with
          | true => exact I.tuple_inj q q'
          | false => exact I.list_inj q q'
        subst hvs
        rw [if_pos rfl, if_neg (by rw [rl.length, rl'.length]; simp)] at e
        have hv : ∀ v ∈ vs, ∃ u, RelV v u := fun v hv => by
          obtain ⟨i, hi⟩ := List.getElem?_of_mem hv
          obtain ⟨u, _, ru⟩ := rr.get hi
          exact ⟨u, ru⟩
        exact eqL_same l l' vs b rl rl' (fun d d' v b hm r1 r2 ef => by
          obtain ⟨u, ru⟩ := hv v hm
          exact rep_same I h n r1 r2 ru ef) e
theorem eqS_at {A : Around} {dx dy : D} {x y : V} {v u : Value} {b : Bool} {c : Wc} (rx : RepV c μ H dx x) (ry : RepV c μ H dy y) (rv : RelV x v) (ru : RelV y u) (e : eqS dx dy = some b) :
    SeqAt.RcAt A s v u b ∧ SeqAt.RcNeAt A s v u (!b) ∧ SeqAt.EqAt A s v u b := by
  obtain ⟨s1, s2⟩ := eqS_scal e
  cases dx with
  | non =>
    unfold RepV at rx; subst rx; cases rv
    cases dy with
    | non => unfold RepV at ry; subst ry; cases ru; cases e; exact ⟨SeqAt.RcAt.none_none, SeqAt.RcNeAt.none_none, SeqAt.EqAt.same _⟩
    | bl j => unfold RepV at ry; subst ry; cases ru; cases e; exact ⟨SeqAt.RcAt.none_bool _, SeqAt.RcNeAt.none_bool _, SeqAt.EqAt.none_bool _⟩
    | int j => unfold RepV at ry; subst ry; obtain ⟨t, rfl⟩ := ru; cases e; exact ⟨SeqAt.RcAt.none_int _ _, SeqAt.RcNeAt.none_int _ _, SeqAt.EqAt.none_int _ _⟩
    | str j => unfold RepV at ry; subst ry; obtain ⟨t, rfl⟩ := ru; cases e; exact ⟨SeqAt.RcAt.none_str _ _, SeqAt.RcNeAt.none_str _ _, SeqAt.EqAt.none_str _ _⟩
    | _ => cases s2
  | bl i =>
    unfold RepV at rx; subst rx; cases rv
    cases dy with
    | non => unfold RepV at ry; subst ry; cases ru; cases e; exact ⟨SeqAt.RcAt.bool_none _, SeqAt.RcNeAt.bool_none _, SeqAt.EqAt.bool_none _⟩
    | bl j => unfold RepV at ry; subst ry; cases ru; cases e; exact ⟨SeqAt.RcAt.bool_bool _ _, SeqAt.RcNeAt.bool_bool _ _, SeqAt.EqAt.bool_bool _ _⟩
    | int j => unfold RepV at ry; subst ry; obtain ⟨t, rfl⟩ := ru; cases e; exact ⟨SeqAt.RcAt.bool_int _ _ _, SeqAt.RcNeAt.bool_int _ _ _, SeqAt.EqAt.bool_int _ _ _⟩
    | str j => unfold RepV at ry; subst ry; obtain ⟨t, rfl⟩ := ru; cases e; exact ⟨SeqAt.RcAt.bool_str _ _ _, SeqAt.RcNeAt.bool_str _ _ _, SeqAt.EqAt.bool_str _ _ _⟩
    | _ => cases s2
  | int i =>
    unfold RepV at rx; subst rx; obtain ⟨t, rfl⟩ := rv
    cases dy with
    | non => unfold RepV at ry; subst ry; cases ru; cases e; exact ⟨SeqAt.RcAt.int_none _ _, SeqAt.RcNeAt.int_none _ _, SeqAt.EqAt.int_none _ _⟩
    | bl j => unfold RepV at ry; subst ry; cases ru; cases e; exact ⟨SeqAt.RcAt.int_bool _ _ _, SeqAt.RcNeAt.int_bool _ _ _, SeqAt.EqAt.int_bool _ _ _⟩
    | int j => unfold RepV at ry; subst ry; obtain ⟨t, rfl⟩ := ru; cases e; exact ⟨SeqAt.RcAt.int_int _ _ _ _, SeqAt.RcNeAt.int_int _ _ _ _, SeqAt.EqAt.int_int _ _ _ _⟩
    | str j => unfold RepV at ry; subst ry; obtain ⟨t, rfl⟩ := ru; cases e; exact ⟨SeqAt.RcAt.int_str _ _ _ _, SeqAt.RcNeAt.int_str _ _ _ _, SeqAt.EqAt.int_str _ _ _ _⟩
    | _ => cases s2
  | str i =>
    unfold RepV at rx; subst rx; obtain ⟨t, rfl⟩ := rv
    cases dy with
    | non => unfold RepV at ry; subst ry; cases ru; cases e; exact ⟨SeqAt.RcAt.str_none _ _, SeqAt.RcNeAt.str_none _ _, SeqAt.EqAt.str_none _ _⟩
    | bl j => unfold RepV at ry; subst ry; cases ru; cases e; exact ⟨SeqAt.RcAt.str_bool _ _ _, SeqAt.RcNeAt.str_bool _ _ _, SeqAt.EqAt.str_bool _ _ _⟩
    | int j => unfold RepV at ry; subst ry; obtain ⟨t, rfl⟩ := ru; cases e; exact ⟨SeqAt.RcAt.str_int _ _ _ _, SeqAt.RcNeAt.str_int _ _ _ _, SeqAt.EqAt.str_int _ _ _ _⟩
    | str j => unfold RepV at ry; subst ry; obtain ⟨t, rfl⟩ := ru; cases e; exact ⟨SeqAt.RcAt.str_str _ _ _ _, SeqAt.RcNeAt.str_str _ _ _ _, SeqAt.EqAt.str_str _ _ _ _⟩
    | _ => cases s2
  | _ => cases s1
theorem eq_seq_scal {A : Around} (hu : A.units < cLine) {k : Bool} {a : Addr} {its : List Value} (sq : SeqIs s k a its) {dy : D} {y : V} {u : Value} {c : Wc} (ry : RepV c μ H dy y) (ru : RelV y u) (hs : scalD dy = true) :
    (SeqAt.RcAt A s (.ref a) u false ∧ SeqAt.RcNeAt A s (.ref a) u true ∧ SeqAt.EqAt A s (.ref a) u false) ∧ (SeqAt.RcAt A s u (.ref a) false ∧ SeqAt.RcNeAt A s u (.ref a) true ∧ SeqAt.EqAt A s u (.ref a) false) := by
  cases k with
  | true =>
    cases dy with
    | non => unfold RepV at ry; subst ry; cases ru; exact ⟨⟨.tuple_none sq hu, .tuple_none sq hu, .tuple_none sq hu⟩, .none_tuple sq hu, .none_tuple sq hu, .none_tuple sq hu⟩
    | bl j => unfold RepV at ry; subst ry; cases ru; exact ⟨⟨.tuple_bool _ sq hu, .tuple_bool _ sq hu, .tuple_bool _ sq hu⟩, .bool_tuple _ sq hu, .bool_tuple _ sq hu, .bool_tuple _ sq hu⟩
    | int j => unfold RepV at ry; subst ry; obtain ⟨t, rfl⟩ := ru; exact ⟨⟨.tuple_int _ _ sq hu, .tuple_int _ _ sq hu, .tuple_int _ _ sq hu⟩, .int_tuple _ _ sq hu, .int_tuple _ _ sq hu, .int_tuple _ _ sq hu⟩
    | str j => unfold RepV at ry; subst ry; obtain ⟨t, rfl⟩ := ru; exact ⟨⟨.tuple_str _ _ sq hu, .tuple_str _ _ sq hu, .tuple_str _ _ sq hu⟩, .str_tuple _ _ sq hu, .str_tuple _ _ sq hu, .str_tuple _ _ sq hu⟩
    | _ => cases hs
  | false =>
    cases dy with
    | non => unfold RepV at ry; subst ry; cases ru; exact ⟨⟨.list_none sq hu, .list_none sq hu, .list_none sq hu⟩, .none_list sq hu, .none_list sq hu, .none_list sq hu⟩
    | bl j => unfold RepV at ry; subst ry; cases ru; exact ⟨⟨.list_bool _ sq hu, .list_bool _ sq hu, .list_bool _ sq hu⟩, .bool_list _ sq hu, .bool_list _ sq hu, .bool_list _ sq hu⟩
    | int j => unfold RepV at ry; subst ry; obtain ⟨t, rfl⟩ := ru; exact ⟨⟨.list_int _ _ sq hu, .list_int _ _ sq hu, .list_int _ _ sq hu⟩, .int_list _ _ sq hu, .int_list _ _ sq hu, .int_list _ _ sq hu⟩
    | str j => unfold RepV at ry; subst ry; obtain ⟨t, rfl⟩ := ru; exact ⟨⟨.list_str _ _ sq hu, .list_str _ _ sq hu, .list_str _ _ sq hu⟩, .str_list _ _ sq hu, .str_list _ _ sq hu, .str_list _ _ sq hu⟩
    | _ => cases hs
theorem eq_at (I : Inv X pins σ H s) (h : HRep (wc X) μ G H) : ∀ (n : Nat) (A : Around), A.units + n < cLine → ∀ {dx dy : D} {x y : V} {v u : Value} {b : Bool}, RepV (wc X) μ H dx x → RepV (wc X) μ H dy y → RelV x v → RelV y u → eqN n G dx dy = some b →
    SeqAt.RcAt A s v u b ∧ SeqAt.RcNeAt A s v u (!b) ∧ SeqAt.EqAt A s v u b
  | 0, _, _, _, _, _, _, _, _, _, _, _, _, _, e => by cases e
  | n + 1, A, hu, dx, dy, x, y, v, u, b, rx, ry, rv, ru, e => by
    have hu0 : A.units < cLine := by omega
    have hu1 : A.in1.units + n < cLine := by show A.units + 1 + n < cLine; omega
    have e0 := e
    unfold eqN at e
    cases hx : seqK G dx with
    | none =>
      rw [hx] at e
      cases hy : seqK G dy with
      | none => rw [hy] at e; exact eqS_at rx ry rv ru e
      | some p =>
        obtain ⟨k, l⟩ := p
        rw [hy] at e
        dsimp only at e
        split at e
        · rename_i hs
          cases e
          obtain ⟨a, vs, its, rfl, rfl, _, _, sq, _⟩ := seqK_at I h hy ry ru
          exact (eq_seq_scal hu0 sq rx rv hs).2
        · cases e
    | some p =>
      obtain ⟨k, l⟩ := p
      rw [hx] at e
      obtain ⟨a, vs, its, rfl, rfl, rl, rr, sq, q⟩ := seqK_at I h hx rx rv
      cases hy : seqK G dy with
      | none =>
        rw [hy] at e
        dsimp only at e
        split at e
        · rename_i hs
          cases e
          exact (eq_seq_scal hu0 sq ry ru hs).1
        · cases e
      | some p' =>
        obtain ⟨k', l'⟩ := p'
        rw [hy] at e
        dsimp only at e
        obtain ⟨a', vs', its', rfl, rfl, rl', rr', sq', q'⟩ := seqK_at I h hy ry ru
        -- the two at one place
        have main : SeqAt.RcAt A s (.ref a) (.ref a') b ∧ SeqAt.RcNeAt A s (.ref a) (.ref a') (!b) := by
          have len1 : its.toArray.size = l.length := by rw [List.size_toArray, ← rr.length, rl.length]
          have len2 : its'.toArray.size = l'.length := by rw [List.size_toArray, ← rr'.length, rl'.length]
          by_cases hk : k = k'
          · subst hk
            rw [if_pos rfl] at e
            by_cases hlen : k = false ∧ l.length ≠ l'.length
            · rw [if_pos hlen] at e
              cases e
              obtain ⟨rfl, hne⟩ := hlen
              have hz : (its.toArray.size != its'.toArray.size) = true := by rw [len1, len2]; simpa using hne
              exact ⟨SeqAt.RcAt.lists_lengths sq sq' hz hu0, SeqAt.RcNeAt.lists_lengths sq sq' hz hu0⟩
            · rw [if_neg hlen] at e
              have items : ∀ j (h1 : j < its.toArray.size) (h2 : j < its'.toArray.size), ∃ e, eqN n G (l.getD j .non) (l'.getD j .non) = some e ∧ SeqAt.EqAt A.in1 s its.toArray[j] its'.toArray[j] e := fun j h1 h2 => by
                have j1 : j < l.length := by rw [← len1]; exact h1
                have j2 : j < l'.length := by rw [← len2]; exact h2
                have g1 : l[j]? = some l[j] := List.getElem?_eq_getElem j1
                have g2 : l'[j]? = some l'[j] := List.getElem?_eq_getElem j2
                obtain ⟨e1, he1⟩ := eqL_some l l' b e j _ _ g1 g2
                obtain ⟨v1, hv1, r1⟩ := rl.get g1
                obtain ⟨v2, hv2, r2⟩ := rl'.get g2
                obtain ⟨u1, hu1', ru1⟩ := rr.get hv1
                obtain ⟨u2, hu2', ru2⟩ := rr'.get hv2
                have w1 : its.toArray[j] = u1 := by
                  have : its.toArray[j]? = some u1 := by simpa using hu1'
                  rw [Array.getElem?_eq_getElem h1] at this
                  exact Option.some.inj this
                have w2 : its'.toArray[j] = u2 := by
                  have : its'.toArray[j]? = some u2 := by simpa using hu2'
                  rw [Array.getElem?_eq_getElem h2] at this
                  exact Option.some.inj this
                rw [w1, w2]
                refine ⟨e1, ?_, (eq_at I h n A.in1 hu1 r1 r2 ru1 ru2 he1).2.2⟩
                rw [List.getD_eq_getElem?_getD, List.getD_eq_getElem?_getD, g1, g2]
                exact he1
              have hr := eqL_range (e := fun j => (eqN n G (l.getD j .non) (l'.getD j .non)).getD false) l l' b e fun j x y g1 g2 => by
                obtain ⟨e1, he1⟩ := eqL_some l l' b e j x y g1 g2
                rw [List.getD_eq_getElem?_getD, List.getD_eq_getElem?_getD, g1, g2]
                simp only [Option.getD_some]
                rw [he1]; rfl
              have he : ∀ j (h1 : j < its.toArray.size) (h2 : j < its'.toArray.size), SeqAt.EqAt A.in1 s its.toArray[j] its'.toArray[j] ((eqN n G (l.getD j .non) (l'.getD j .non)).getD false) := fun j h1 h2 => by
                obtain ⟨e1, he1, hh⟩ := items j h1 h2
                rw [he1]; exact hh
              cases k with
              | true =>
                have z1 := SeqAt.RcAt.tuples (A := A) sq sq' hu0 he
                have z2 := SeqAt.RcNeAt.tuples (A := A) sq sq' hu0 he
                rw [len1, len2, ← hr] at z1 z2
                exact ⟨z1, z2⟩
              | false =>
                have hl : l.length = l'.length := Classical.byContradiction fun z => hlen ⟨rfl, z⟩
                have hsz : its.toArray.size = its'.toArray.size := by rw [len1, len2, hl]
                have z1 := SeqAt.RcAt.lists (A := A) sq sq' hsz hu0 he
                have z2 := SeqAt.RcNeAt.lists (A := A) sq sq' hsz hu0 he
                have hr2 : b = (List.range its.toArray.size).all fun j => (eqN n G (l.getD j .non) (l'.getD j .non)).getD false := by
                  rw [hr, len1, hl]; simp
                rw [← hr2] at z1 z2
                exact ⟨z1, z2⟩
          · rw [if_neg hk] at e
            cases e
            cases k <;> cases k' <;> first
              | exact absurd rfl hk
              | exact ⟨SeqAt.RcAt.list_tuple sq sq' hu0, SeqAt.RcNeAt.list_tuple sq sq' hu0⟩
              | exact ⟨SeqAt.RcAt.tuple_list sq sq' hu0, SeqAt.RcNeAt.tuple_list sq sq' hu0⟩
        refine ⟨main.1, main.2, ?_⟩
        by_cases ha : a = a'
        · subst ha
          have : b = true := rep_same I h (n + 1) rx ry rv e0
          rw [this]
          exact SeqAt.EqAt.same _
        · exact SeqAt.EqAt.of_refs ha main.1
end
end DL
set_option Elab.async false
set_option linter.all false
set_option maxRecDepth 100000
namespace DL
open PySem PySem.Spec L2
open PyProof.Rows hiding St
section
variable {X : Cx} {Z : XC}
def eqD : D → D → M D := fun x y G => match eqN 40 G x y with
  | some b => some (.ok (.bl b), G)
  | none => none
def neD : D → D → M D := fun x y G => match eqN 40 G x y with
  | some b => some (.ok (.bl (!b)), G)
  | none => none
theorem od_eq (hu : X.A.units + 64 < cLine) : OpD X Z (compareOp .Eq) eqD := ⟨by
  intro pins s σ H x y v u Q I rx ry ⟨dx, dy, μ, G, rdx, rdy, hr, p⟩
  unfold eqD at p
  cases e : eqN 40 G dx dy with
  | none => rw [e] at p; exact p.elim
  | some b =>
    rw [e] at p
    exact (eq_at I hr 40 X.A (by omega) rdx rdy rx ry e).1 X.prog X.w X.xe _ ⟨.bl b, H, I, rfl, Post.ok p hr _ ofB⟩⟩
theorem od_ne (hu : X.A.units + 64 < cLine) : OpD X Z (compareOp .NotEq) neD := ⟨by
  intro pins s σ H x y v u Q I rx ry ⟨dx, dy, μ, G, rdx, rdy, hr, p⟩
  unfold neD at p
  cases e : eqN 40 G dx dy with
  | none => rw [e] at p; exact p.elim
  | some b =>
    rw [e] at p
    exact (eq_at I hr 40 X.A (by omega) rdx rdy rx ry e).2.1 X.prog X.w X.xe _ ⟨.bl (!b), H, I, rfl, Post.ok p hr _ ofB⟩⟩
def leD : D → D → M D := fun x y => match x, y with
  | .int i, .int j => pure (.bl (decide (i ≤ j)))
  | .str i, .str j => pure (.bl (!decide (j.cps.toList < i.cps.toList)))
  | _, _ => M.stuck
theorem opd_cmp {op : CmpOp} {fi : Int → Int → Bool} {fs : Str → Str → Bool} {o : D → D → M D} (hi : OpR X (compareOp op) (rI0 fun i j => .bl (fi i j)))
    (hs : ∀ (i j : Str) (t u : Tok) (s : Shared) (Q : Value → Shared → Prop) (E : Value → Shared → Prop), Q (.bool (fs i j)) s → wpAny (model X.prog X.w) X.A (compareOp op (.str i t) (.str j u)) Q E s)
    (h1 : ∀ i j, o (.int i) (.int j) = pure (.bl (fi i j))) (h2 : ∀ i j, o (.str i) (.str j) = pure (.bl (fs i j)))
    (h3 : ∀ x y, (∀ i j, ¬ (x = .int i ∧ y = .int j)) → (∀ i j, ¬ (x = .str i ∧ y = .str j)) → o x y = M.stuck) : OpD X Z (compareOp op) o := ⟨by
  intro pins s σ H x y v u Q I rx ry ⟨dx, dy, μ, G, rdx, rdy, hr, p⟩
  by_cases c1 : ∃ i j, dx = .int i ∧ dy = .int j
  · obtain ⟨i, j, rfl, rfl⟩ := c1
    rw [h1] at p
    exact hi pins s σ H x y v u Q I rx ry ⟨i, j, repI rdx, repI rdy, Post.ok p hr _ ofB⟩
  · by_cases c2 : ∃ i j, dx = .str i ∧ dy = .str j
    · obtain ⟨i, j, rfl, rfl⟩ := c2
      rw [h2] at p
      have e1 := repS rdx
      have e2 := repS rdy
      subst e1 e2
      obtain ⟨t, rfl⟩ := rx
      obtain ⟨t', rfl⟩ := ry
      exact hs i j t t' s _ _ ⟨.bl (fs i j), H, I, rfl, Post.ok p hr _ ofB⟩
    · rw [h3 dx dy (fun i j z => c1 ⟨i, j, z⟩) (fun i j z => c2 ⟨i, j, z⟩)] at p
      exact p.elim⟩
theorem od_le : OpD X Z (compareOp .LtE) leD := opd_cmp op_le (fun _ _ _ _ _ _ _ q => PySem.P.le_str q) (fun _ _ => rfl) (fun _ _ => rfl) fun x y n1 n2 => by
  cases x <;> cases y <;> first
    | rfl
    | exact absurd ⟨rfl, rfl⟩ (n1 _ _)
    | exact absurd ⟨rfl, rfl⟩ (n2 _ _)
def isNonD : D → Bool
  | .non => true
  | _ => false
theorem rep_non {c : Wc} {μ : List Addr} {H : Hp} {d : D} {v : V} (r : RepV c μ H d v) : decide (v = .non) = isNonD d := by
  cases d with
  | non => rw [repN r]; rfl
  | tup l => unfold RepV at r; obtain ⟨a, _, rfl, _⟩ := r; rfl
  | ref l => unfold RepV at r; obtain ⟨a, _, rfl⟩ := r; rfl
  | fn l => unfold RepV at r; obtain ⟨a, _, rfl⟩ := r; rfl
  | _ => unfold RepV at r; subst r; rfl
instance (x : Str) (n : Int) : Decidable (PySem.MulOk x n) := by unfold PySem.MulOk; infer_instance
def mulD : D → D → M D := fun x y => match x, y with
  | .int i, .int j => if CMul i j then pure (.int (i * j)) else M.stuck
  | .str x, .int n => if PySem.MulOk x n then pure (.str (Txt.mul x n)) else M.stuck
  | _, _ => M.stuck
theorem op_mul_str : OpR X (binaryOp .Mult) (fun x y H Q => ∃ z n, x = .str z ∧ y = .int n ∧ PySem.MulOk z n ∧ Q (.str (Txt.mul z n)) H) := by
  intro pins s σ H x y v u Q I rx ry h
  obtain ⟨z, n, rfl, rfl, hk, q⟩ := h
  obtain ⟨t, rfl⟩ := rx
  obtain ⟨t', rfl⟩ := ry
  exact PySem.SB.mul hk fun t' k => ⟨.str _, H, I.tok _, ⟨_, rfl⟩, q⟩
theorem od_mul : OpD X Z (binaryOp .Mult) mulD :=
  OpD.of (OpR.or op_mul op_mul_str) fun x y H Q ⟨dx, dy, μ, G, rdx, rdy, hr, p⟩ => by
    cases dx <;> cases dy <;> first
      | exact p.elim
      | skip
    · unfold mulD at p
      dsimp only at p
      split at p
      · rename_i hc; exact .inl ⟨_, _, repI rdx, repI rdy, hc, Post.ok p hr _ ofI⟩
      · exact p.elim
    · unfold mulD at p
      dsimp only at p
      split at p
      · rename_i hc; exact .inr ⟨_, _, repS rdx, repI rdy, hc, Post.ok p hr _ ofS⟩
      · exact p.elim
end
end DL
set_option Elab.async false
set_option linter.all false
set_option maxRecDepth 100000
namespace DL
open PySem PySem.Spec L2
open PyProof.Rows hiding St
def RcLtAt (A : Around) (s : Shared) (y x : Value) (b : Bool) : Prop :=
  ∀ (prog : Program) (w : World) (E : Value → Shared → Prop) (Q : Value → Shared → Prop), Q (.bool b) s → wpAny (model prog w) A (richCompare .Lt y x) Q E s
inductive LtR (A : Around) (s : Shared) : List Value → List Value → Bool → Prop
  | nil : LtR A s [] [] false
  | nilc {y ys} : LtR A s [] (y :: ys) true
  | cnil {x xs} : LtR A s (x :: xs) [] false
  | eq {x y xs ys b} : SeqAt.EqAt A s x y true → LtR A s xs ys b → LtR A s (x :: xs) (y :: ys) b
  | ne {x y xs ys b} : SeqAt.EqAt A s x y false → RcLtAt A s x y b → LtR A s (x :: xs) (y :: ys) b
section
open PySem.SeqAt
open PySem.AutoSeq1 (wpAny_loadPart')
open PySem.MeetsSeq PySem.MeetsSeq2 PySem.MeetsSeq3
theorem tuple_ltAt (l b : Addr) (items items2 : Array Value) (n n2 : Nat) (dd dd2 : Option Addr) (sl sl2 : Array (Option Value)) (k : Bool) :
    Meets (Builtin.«tuple.__lt__» ⟨[.ref l, .ref b], []⟩)
      (fun A R s => s.heap.get? l = some { cls := .type "tuple", dict := dd, data := .seq items n, slots := sl } ∧ s.heap.get? b = some { cls := .type "tuple", dict := dd2, data := .seq items2 n2, slots := sl2 } ∧
        LtR A.in1 s items.toList items2.toList k ∧ R (.ok (.ret (.bool k))) s) :=
  .of_wp fun prog w A R s h => by
    obtain ⟨hp, g, d, tk, os⟩ := s; obtain ⟨hl, hb, hk, h⟩ := h
    have f2 := AutoSeq1.sub_tuple_tuple
    wp_walk using wpAny_loadPart' hl, wpAny_loadPart' hb, wpAny_forIn_list _ (fun rest b s' => b.1 = none ∧ s' = ⟨hp, g, d, tk, os⟩ ∧ ∃ (vs ws : List Value), rest = vs.zip ws ∧
      vs.length + items2.size = ws.length + items.size ∧ LtR A.in1 ⟨hp, g, d, tk, os⟩ vs ws k) _
    case turn =>
      rintro ⟨y, x⟩ rest b s' ⟨hb', rfl, vs, ws, hz, hlen, hR⟩
      cases hR with
      | nil => cases hz
      | nilc => cases hz
      | cnil => cases hz
      | eq he hR' =>
        rw [List.zip_cons_cons] at hz
        injection hz with hyx hrest
        injection hyx with hy hx
        subst hy hx
        refine wpAny_bind (he prog w _ _ ?_)
        wp_walk
        simp only [List.length_cons] at hlen
        exact ⟨rfl, rfl, _, _, hrest, by omega, hR'⟩
      | ne he hc =>
        rw [List.zip_cons_cons] at hz
        injection hz with hyx hrest
        injection hyx with hy hx
        subst hy hx
        refine wpAny_bind (he prog w _ _ ?_)
        have hri := hc prog w
        wp_walk using hri
        exact ⟨_, rfl, h⟩
    case fin =>
      rintro ⟨b1, b2⟩ s' ⟨hb', rfl, vs, ws, hz, hlen, hR⟩
      simp only at hb'
      subst hb'
      have hv : k = decide (items.size < items2.size) := by
        cases hR with
        | nil => simp only [List.length_nil] at hlen; exact (decide_eq_false (by omega)).symm
        | nilc => simp only [List.length_nil, List.length_cons] at hlen; exact (decide_eq_true (by omega)).symm
        | cnil => simp only [List.length_nil, List.length_cons] at hlen; exact (decide_eq_false (by omega)).symm
        | eq _ _ => rw [List.zip_cons_cons] at hz; cases hz
        | ne _ _ => rw [List.zip_cons_cons] at hz; cases hz
      rw [hv] at h
      wp_walk
      exact ⟨_, rfl, by simpa [Builtin.Tuple.tupleCompareSizes] using h⟩
    case h =>
      exact ⟨rfl, rfl, items.toList, items2.toList, rfl, by simp; omega, hk⟩
theorem lt_loopAt (l b : Addr) (items items2 : Array Value) (n n2 : Nat) (dd dd2 : Option Addr) (sl sl2 : Array (Option Value)) (k : Bool) : ∀ (vs ws : List Value) (i : Nat), items.toList.drop i = vs → items2.toList.drop i = ws → i ≤ items.size → i ≤ items2.size →
    Meets (Builtin.«list.__eq__.loop» ⟨[.ref l, .ref b, rawInt i, rawInt 0], []⟩)
      (fun A R s => s.heap.get? l = some { cls := .type "list", dict := dd, data := .seq items n, slots := sl } ∧ s.heap.get? b = some { cls := .type "list", dict := dd2, data := .seq items2 n2, slots := sl2 } ∧
        LtR A.in1 s vs ws k ∧ R (.ok (.ret (.bool k))) s) := by
  have dropn : ∀ (a : Array Value) (i : Nat), a.toList.drop i = [] → i ≤ a.size → i = a.size := fun a i e hi => by
    have := List.drop_eq_nil_iff.mp e
    simp at this; omega
  have dropc : ∀ (a : Array Value) (i : Nat) (v : Value) (r : List Value), a.toList.drop i = v :: r → i < a.size ∧ a[((i : Nat) : Int).toNat]? = some v ∧ a.toList.drop (i + 1) = r := fun a i v r e => by
    have hlt : i < a.toList.length := by
      rcases Nat.lt_or_ge i a.toList.length with q | q
      · exact q
      · rw [List.drop_eq_nil_of_le q] at e; cases e
    rw [List.drop_eq_getElem_cons hlt] at e
    injection e with e1 e2
    refine ⟨by simpa using hlt, ?_, e2⟩
    simp at hlt
    simp [hlt]
    simpa using e1
  intro vs
  induction vs with
  | nil =>
    intro ws i hv hw hi hi2 prog w A R s h
    obtain ⟨hp, g, d, tk, os⟩ := s; obtain ⟨hl, hb, he, h⟩ := h
    have e1 := dropn items i hv hi
    wp_walk using wpAny_loadPart' hl, wpAny_loadPart' hb
    have hi1 : items[((i : Nat) : Int).toNat]? = none := by simp; omega
    rw [hi1]
    cases ws with
    | nil =>
      have e2 := dropn items2 i hw hi2
      cases he
      wp_walk using wpAny_loadPart' hl, wpAny_loadPart' hb
      show R (.ok (.ret (.bool (decide (items.size < items2.size))))) _
      rw [decide_eq_false (by omega)]
      exact h
    | cons y ys =>
      obtain ⟨hlt, _, _⟩ := dropc items2 i y ys hw
      cases he
      wp_walk using wpAny_loadPart' hl, wpAny_loadPart' hb
      show R (.ok (.ret (.bool (decide (items.size < items2.size))))) _
      rw [decide_eq_true (by omega)]
      exact h
  | cons x xs ih =>
    intro ws i hv hw hi hi2 prog w A R s h
    obtain ⟨hp, g, d, tk, os⟩ := s; obtain ⟨hl, hb, he, h⟩ := h
    obtain ⟨hlt, g1, d1⟩ := dropc items i x xs hv
    wp_walk using wpAny_loadPart' hl, wpAny_loadPart' hb
    cases ws with
    | nil =>
      have e2 := dropn items2 i hw hi2
      have hi2' : items2[((i : Nat) : Int).toNat]? = none := by simp; omega
      rw [g1, hi2']
      cases he
      wp_walk using wpAny_loadPart' hl, wpAny_loadPart' hb
      show R (.ok (.ret (.bool (decide (items.size < items2.size))))) _
      rw [decide_eq_false (by omega)]
      exact h
    | cons y ys =>
      obtain ⟨hlt2, g2, d2⟩ := dropc items2 i y ys hw
      have hc : ((i : Int) + 1) = ((i + 1 : Nat) : Int) := by push_cast; rfl
      rw [g1, g2]
      cases he with
      | eq he he' =>
        refine wpAny_bind (he prog w _ _ ?_)
        wp_walk
        rw [hc]
        exact ⟨plainId_quiet plain_eq_loop _, codeAny_builtin entry_eq_loop (by
          rw [Around.under_plainId plain_eq_loop _]
          exact ih ys (i + 1) d1 d2 (by omega) (by omega) prog w A R _ ⟨hl, hb, he', h⟩)⟩
      | ne he hcmp =>
        refine wpAny_bind (he prog w _ _ ?_)
        have hri := hcmp prog w
        wp_walk using wpAny_loadPart' hl, wpAny_loadPart' hb
        rw [g1, g2]
        wp_walk using hri
        exact h
theorem list_ltAt (l b : Addr) (items items2 : Array Value) (n n2 : Nat) (dd dd2 : Option Addr) (sl sl2 : Array (Option Value)) (k : Bool) :
    Meets (Builtin.«list.__lt__» ⟨[.ref l, .ref b], []⟩)
      (fun A R s => s.heap.get? l = some { cls := .type "list", dict := dd, data := .seq items n, slots := sl } ∧ s.heap.get? b = some { cls := .type "list", dict := dd2, data := .seq items2 n2, slots := sl2 } ∧
        LtR A.in1 s items.toList items2.toList k ∧ R (.ok (.ret (.bool k))) s) := by
  intro prog w A R s h
  obtain ⟨hp, g, d, tk, os⟩ := s; obtain ⟨hl, hb, he, h⟩ := h
  have f3 := AutoSeq1.sub_list_list
  wp_walk using wpAny_loadPart' hl, wpAny_loadPart' hb
  exact ⟨plainId_quiet plain_eq_loop _, codeAny_builtin entry_eq_loop (by
    rw [Around.under_plainId plain_eq_loop _]
    exact lt_loopAt l b items items2 n n2 dd dd2 sl sl2 k items.toList items2.toList 0 rfl rfl (Nat.zero_le _) (Nat.zero_le _) prog w A R _ ⟨hl, hb, he, h⟩)⟩
end
def ltS : D → D → Option Bool
  | .int a, .int b => some (decide (a < b))
  | .str a, .str b => some (decide (a.cps.toList < b.cps.toList))
  | .bl a, .bl b => some (decide (b2i a < b2i b))
  | _, _ => none
def ltL (eq lt : D → D → Option Bool) : List D → List D → Option Bool
  | [], [] => some false
  | [], _ :: _ => some true
  | _ :: _, [] => some false
  | x :: xs, y :: ys => match eq x y with
    | some true => ltL eq lt xs ys
    | some false => lt x y
    | none => none
def ltN : Nat → DH → D → D → Option Bool
  | 0, _, _, _ => none
  | n + 1, G, x, y => match seqK G x, seqK G y with
    | some (k1, a), some (k2, b) => if k1 = k2 then ltL (eqN n G) (ltN n G) a b else none
    | none, none => ltS x y
    | _, _ => none
section
variable {X : Cx} {Z : XC} {pins : List (Addr × Obj)} {σ : St} {H : Hp} {s : Shared} {μ : List Addr} {G : DH}
theorem ltS_at {A : Around} {dx dy : D} {x y : V} {v u : Value} {b : Bool} {c : Wc} (rx : RepV c μ H dx x) (ry : RepV c μ H dy y) (rv : RelV x v) (ru : RelV y u) (e : ltS dx dy = some b) : RcLtAt A s v u b := by
  intro prog w E Q hq
  cases dx <;> cases dy <;> first
    | (cases e; done)
    | skip
  · cases e
    unfold RepV at rx ry; subst rx ry; cases rv; cases ru
    exact (lt_bool hq : wpAny (model prog w) A (compareOp .Lt _ _) Q E s)
  · cases e
    unfold RepV at rx ry; subst rx ry; obtain ⟨t, rfl⟩ := rv; obtain ⟨t', rfl⟩ := ru
    exact (lt_int hq : wpAny (model prog w) A (compareOp .Lt _ _) Q E s)
  · cases e
    unfold RepV at rx ry; subst rx ry; obtain ⟨t, rfl⟩ := rv; obtain ⟨t', rfl⟩ := ru
    exact (lt_str hq : wpAny (model prog w) A (compareOp .Lt _ _) Q E s)
theorem lt_at (I : Inv X pins σ H s) (h : HRep (wc X) μ G H) : ∀ (n : Nat) (A : Around), A.units + n < cLine → ∀ {dx dy : D} {x y : V} {v u : Value} {b : Bool}, RepV (wc X) μ H dx x → RepV (wc X) μ H dy y → RelV x v → RelV y u → ltN n G dx dy = some b → RcLtAt A s v u b
  | 0, _, _, _, _, _, _, _, _, _, _, _, _, _, e => by cases e
  | n + 1, A, hu, dx, dy, x, y, v, u, b, rx, ry, rv, ru, e => by
    have hu0 : A.units < cLine := by omega
    have hu1 : A.in1.units + n < cLine := by show A.units + 1 + n < cLine; omega
    unfold ltN at e
    cases hx : seqK G dx with
    | none =>
      rw [hx] at e
      cases hy : seqK G dy with
      | none => rw [hy] at e; exact ltS_at rx ry rv ru e
      | some p => rw [hy] at e; cases e
    | some p =>
      obtain ⟨k, l⟩ := p
      rw [hx] at e
      cases hy : seqK G dy with
      | none => rw [hy] at e; cases e
      | some p' =>
        obtain ⟨k', l'⟩ := p'
        rw [hy] at e
        dsimp only at e
        split at e
        case isFalse => cases e
        rename_i hk
        subst hk
        obtain ⟨a, vs, its, rfl, rfl, rl, rr, sq, q⟩ := seqK_at I h hx rx rv
        obtain ⟨a', vs', its', rfl, rfl, rl', rr', sq', q'⟩ := seqK_at I h hy ry ru
        have main : ∀ (l l' : List D) (vs vs' : List V) (its its' : List Value), RepL (wc X) μ H l vs → RepL (wc X) μ H l' vs' → Vals vs its → Vals vs' its' → ltL (eqN n G) (ltN n G) l l' = some b → LtR A.in1 s its its' b := by
          intro l
          induction l with
          | nil =>
            intro l' vs vs' its its' r r' q q' e
            cases r; cases q
            cases l' with
            | nil => cases r'; cases q'; cases e; exact .nil
            | cons _ _ =>
              obtain ⟨_, _, rfl, _, _⟩ := r'
              cases q'
              cases e
              exact .nilc
          | cons d ds ih =>
            intro l' vs vs' its its' r r' q q' e
            obtain ⟨v0, vr, rfl, r0, rt⟩ := r
            cases q with
            | cons q0 qt =>
              cases l' with
              | nil => cases r'; cases q'; cases e; exact .cnil
              | cons d' ds' =>
                obtain ⟨v1, vr', rfl, r1, rt'⟩ := r'
                cases q' with
                | cons q1 qt' =>
                  unfold ltL at e
                  cases he : eqN n G d d' with
                  | none => rw [he] at e; cases e
                  | some b0 =>
                    rw [he] at e
                    have hE := (eq_at I h n A.in1 hu1 r0 r1 q0 q1 he).2.2
                    cases b0 with
                    | true => exact .eq hE (ih ds' vr vr' _ _ rt rt' qt qt' e)
                    | false => exact .ne hE (lt_at I h n A.in1 hu1 r0 r1 q0 q1 e)
        have hR := main l l' vs vs' its its' rl rl' rr rr' e
        intro prog w E Q hq
        cases k with
        | true =>
          obtain ⟨⟨cls, dd, data, sl⟩, ho, hc, m, hd⟩ := id sq
          obtain ⟨⟨cls2, dd2, data2, sl2⟩, ho2, hc2, m2, hd2⟩ := id sq'
          simp only at hc hd hc2 hd2
          subst hc hd hc2 hd2
          exact richCompare_meets_room (op := .Lt) ⟨_, ho, rfl⟩ ⟨_, ho2, rfl⟩ PySem.F.slot_tuple_lt PySem.F.entry_tuple_lt (PySem.F.args_tuple_lt_2 _ _) (tuple_ltAt a a' its.toArray its'.toArray m m2 dd dd2 sl sl2 b)
            ⟨ho, ho2, hR, show Value.bool b ≠ Value.notImplemented ∧ Q (.bool b) s from ⟨(fun x => nomatch x), hq⟩⟩ hu0
        | false =>
          obtain ⟨⟨cls, dd, data, sl⟩, ho, hc, m, hd⟩ := id sq
          obtain ⟨⟨cls2, dd2, data2, sl2⟩, ho2, hc2, m2, hd2⟩ := id sq'
          simp only at hc hd hc2 hd2
          subst hc hd hc2 hd2
          exact richCompare_meets_room (op := .Lt) ⟨_, ho, rfl⟩ ⟨_, ho2, rfl⟩ PySem.F.slot_list_lt PySem.F.entry_list_lt (PySem.F.args_list_lt_2 _ _) (list_ltAt a a' its.toArray its'.toArray m m2 dd dd2 sl sl2 b)
            ⟨ho, ho2, hR, show Value.bool b ≠ Value.notImplemented ∧ Q (.bool b) s from ⟨(fun x => nomatch x), hq⟩⟩ hu0
def ltD : D → D → M D := fun x y G => match ltN 40 G x y with
  | some b => some (.ok (.bl b), G)
  | none => none
theorem od_lt (hu : X.A.units + 64 < cLine) : OpD X Z (compareOp .Lt) ltD := ⟨by
  intro pins s σ H x y v u Q I rx ry ⟨dx, dy, μ, G, rdx, rdy, hr, p⟩
  unfold ltD at p
  cases e : ltN 40 G dx dy with
  | none => rw [e] at p; exact p.elim
  | some b =>
    rw [e] at p
    exact lt_at I hr 40 X.A (by omega) rdx rdy rx ry e X.prog X.w X.xe _ ⟨.bl b, H, I, rfl, Post.ok p hr _ ofB⟩⟩
end
end DL
set_option Elab.async false
set_option linter.all false
set_option maxRecDepth 100000
namespace DL
open PySem PySem.Spec L2
open PyProof.Rows hiding St
def flatD : D → Bool
  | .non => true
  | .bl _ => true
  | .int _ => true
  | .str _ => true
  | _ => false
def toV : D → V
  | .bl b => .bl b
  | .int i => .int i
  | .str x => .str x
  | _ => .non
def keyD : D → Option Key
  | .int i => some (.inl i)
  | .str x => some (.inr x)
  | _ => none
def lookK (l : List (Key × D)) (k : Key) : Option D := (l.find? fun kv => decide (kv.1 = k)).map (·.2)
def inB (x y : D) (G : DH) : Option Bool := match y with
  | .str j => match x with
    | .str i => some (!(Builtin.Str.occurrences j i 0 j.length 1).isEmpty)
    | _ => none
  | .ref r => match G[r]? with
    | some (.dct l) => (keyD x).map fun k => (lookK l k).isSome
    | some (.rod _) => none
    | some (.lst l) => if flatD x && l.all flatD then some (inV (toV x) (l.map toV)) else none
    | some (.rol l) => if flatD x && l.all flatD then some (inV (toV x) (l.map toV)) else none
    | none => none
  | .tup l => if flatD x && l.all flatD then some (inV (toV x) (l.map toV)) else none
  | _ => none
def inD : D → D → M D := fun x y G => match inB x y G with
  | some b => some (.ok (.bl b), G)
  | none => none
def notInD : D → D → M D := fun x y G => match inB x y G with
  | some b => some (.ok (.bl (!b)), G)
  | none => none
section
variable {X : Cx} {Z : XC} {c : Wc} {μ : List Addr} {H : Hp} {G : DH}
theorem flat_rep {d : D} {v : V} (f : flatD d = true) (r : RepV c μ H d v) : v = toV d ∧ flatV v = true := by
  cases d <;> first
    | exact absurd (show false = true from f) Bool.false_ne_true
    | (unfold RepV at r; subst r; exact ⟨rfl, rfl⟩)
theorem flat_reps : ∀ {l : List D} {vs : List V}, l.all flatD = true → RepL c μ H l vs → vs = l.map toV ∧ vs.all flatV = true
  | [], _, _, r => by cases r; exact ⟨rfl, rfl⟩
  | d :: ds, _, f, r => by
    obtain ⟨v, t, rfl, q, rt⟩ := r
    rw [List.all_cons, Bool.and_eq_true] at f
    obtain ⟨e1, e2⟩ := flat_rep f.1 q
    obtain ⟨e3, e4⟩ := flat_reps f.2 rt
    refine ⟨by rw [List.map_cons, ← e1, ← e3], ?_⟩
    rw [List.all_cons, e2, e4]; rfl
theorem key_rep {d : D} {k : Key} {v : V} (e : keyD d = some k) (r : RepV c μ H d v) : v = kV k := by
  cases d <;> first
    | (cases e; unfold RepV at r; exact r)
    | cases e
theorem lookK_rep {k : Key} : ∀ {l : List (Key × D)} {kvs : List (Key × V)}, RepK c μ H l kvs → match lookK l k with | some d => ∃ v, valV kvs k = some v ∧ RepV c μ H d v | none => valV kvs k = none
  | [], _, r => by cases r; exact rfl
  | (k', d) :: t, _, r => by
    obtain ⟨v, kt, rfl, q, rt⟩ := r
    by_cases e : k' = k
    · have h1 : lookK ((k', d) :: t) k = some d := by unfold lookK; simp [e]
      rw [h1]
      exact ⟨v, valV_pos e, q⟩
    · have h1 : lookK ((k', d) :: t) k = lookK t k := by unfold lookK; simp [e]
      rw [h1]
      have ih := lookK_rep (k := k) rt
      rw [valV_neg e]
      exact ih
theorem lookK_some {k : Key} {l : List (Key × D)} {kvs : List (Key × V)} (r : RepK c μ H l kvs) : (lookK l k).isSome = (valV kvs k).isSome := by
  have q := lookK_rep (k := k) r
  cases e : lookK l k with
  | none => rw [e] at q; rw [q]; rfl
  | some d => rw [e] at q; obtain ⟨v, q, _⟩ := q; rw [q]; rfl
theorem in_at (hu : X.A.units + 64 < cLine) {pins : List (Addr × Obj)} {σ : St} {s : Shared} {x y : V} {v u : Value} {dx dy : D} {b : Bool} {Q : VK} (I : Inv X pins σ H s) (hr : HRep (wc X) μ G H) (rdx : RepV (wc X) μ H dx x) (rdy : RepV (wc X) μ H dy y) (rx : RelV x v) (ry : RelV y u)
    (e : inB dx dy G = some b) :
    (Q (.bl b) H → wpAny (model X.prog X.w) X.A (compareOp .In v u) (EP X pins σ Q) X.xe s) ∧ (Q (.bl (!b)) H → wpAny (model X.prog X.w) X.A (compareOp .NotIn v u) (EP X pins σ Q) X.xe s) := by
  have seq : ∀ (p : Addr) (l : List D) (vs : List V), y = .ref p → (SqL X.K H p vs ∨ SqT X.K H p vs) → RepL (wc X) μ H l vs → (if (flatD dx && l.all flatD) = true then some (inV (toV dx) (l.map toV)) else none) = some b →
      (Q (.bl b) H → wpAny (model X.prog X.w) X.A (compareOp .In v u) (EP X pins σ Q) X.xe s) ∧ (Q (.bl (!b)) H → wpAny (model X.prog X.w) X.A (compareOp .NotIn v u) (EP X pins σ Q) X.xe s) := by
    intro p l vs hy hq rl e
    split at e
    · rename_i hf
      rw [Bool.and_eq_true] at hf
      cases e
      obtain ⟨e1, e2⟩ := flat_rep hf.1 rdx
      obtain ⟨e3, e4⟩ := flat_reps hf.2 rl
      rw [← e1, ← e3]
      exact ⟨fun q => op_in_seq pins s σ H x y v u Q I rx ry ⟨p, vs, hy, hq, e2, e4, q⟩, fun q => op_notIn_seq pins s σ H x y v u Q I rx ry ⟨p, vs, hy, hq, e2, e4, q⟩⟩
    · cases e
  cases dy with
  | str j =>
    cases dx with
    | str i =>
      cases e
      have e1 := repS rdx
      have e2 := repS rdy
      exact ⟨fun q => op_in_str pins s σ H x y v u Q I rx ry ⟨i, j, e1, e2, q⟩, fun q => op_notIn_str pins s σ H x y v u Q I rx ry ⟨i, j, e1, e2, q⟩⟩
    | _ => cases e
  | tup l =>
    unfold RepV at rdy
    obtain ⟨a, vs, hy, q, rl⟩ := rdy
    exact seq a l vs hy (.inr q) rl e
  | ref i =>
    unfold RepV at rdy
    obtain ⟨a, m, hy⟩ := rdy
    cases g : G[i]? with
    | none => unfold inB at e; simp only [g] at e; cases e
    | some o =>
      have ro := hr.obj i o a g m
      cases o with
      | lst l =>
        obtain ⟨vs, q, rl⟩ := ro
        unfold inB at e; simp only [g] at e
        exact seq a l vs hy (.inl (SqL.of q)) rl e
      | rol l =>
        obtain ⟨vs, q, rl⟩ := ro
        unfold inB at e; simp only [g] at e
        exact seq a l vs hy (.inl q.sq) rl e
      | dct l =>
        obtain ⟨kvs, q, rk⟩ := ro
        unfold inB at e; simp only [g] at e
        cases hk : keyD dx with
        | none => rw [hk] at e; cases e
        | some k =>
          rw [hk] at e
          cases e
          have ek := key_rep hk rdx
          have dg : DGet H a x (valV kvs k) := by rw [ek]; exact DGet.k q
          subst hy
          cases ry
          dsimp only
          rw [lookK_some rk]
          exact ⟨fun q => d_in (by omega) I dg rx fun s' I' => ⟨.bl _, H, I', rfl, q⟩, fun q => d_notIn (by omega) I dg rx fun s' I' => ⟨.bl _, H, I', rfl, q⟩⟩
      | rod l => unfold inB at e; simp only [g] at e; cases e
  | _ => cases e
theorem od_in (hu : X.A.units + 64 < cLine) : OpD X Z (compareOp .In) inD := ⟨by
  intro pins s σ H x y v u Q I rx ry ⟨dx, dy, μ, G, rdx, rdy, hr, p⟩
  unfold inD at p
  cases e : inB dx dy G with
  | none => rw [e] at p; exact p.elim
  | some b => rw [e] at p; exact (in_at hu I hr rdx rdy rx ry e).1 (Post.ok p hr _ ofB)⟩
theorem od_notin (hu : X.A.units + 64 < cLine) : OpD X Z (compareOp .NotIn) notInD := ⟨by
  intro pins s σ H x y v u Q I rx ry ⟨dx, dy, μ, G, rdx, rdy, hr, p⟩
  unfold notInD at p
  cases e : inB dx dy G with
  | none => rw [e] at p; exact p.elim
  | some b => rw [e] at p; exact (in_at hu I hr rdx rdy rx ry e).2 (Post.ok p hr _ ofB)⟩
inductive Ty where
  | int | bool | str | tuple | list | dict
  deriving DecidableEq
def Ty.name : Ty → String
  | .int => "int" | .bool => "bool" | .str => "str" | .tuple => "tuple" | .list => "list" | .dict => "dict"
def Ty.of (n : String) : Option Ty := if n = "int" then some .int else if n = "bool" then some .bool else if n = "str" then some .str else if n = "tuple" then some .tuple else if n = "list" then some .list else if n = "dict" then some .dict else none
theorem Ty.of_name {n : String} {T : Ty} (h : Ty.of n = some T) : n = T.name := by
  unfold Ty.of at h
  split at h
  · rename_i e; cases h; exact e
  split at h
  · rename_i e; cases h; exact e
  split at h
  · rename_i e; cases h; exact e
  split at h
  · rename_i e; cases h; exact e
  split at h
  · rename_i e; cases h; exact e
  split at h
  · rename_i e; cases h; exact e
  · cases h
inductive Kd where
  | non | bool | int | str | tuple | list | dict
def Kd.is : Kd → Ty → Bool
  | .bool, .int => true
  | .bool, .bool => true
  | .int, .int => true
  | .str, .str => true
  | .tuple, .tuple => true
  | .list, .list => true
  | .dict, .dict => true
  | _, _ => false
def Kd.name : Kd → String
  | .non => "NoneType" | .bool => "bool" | .int => "int" | .str => "str" | .tuple => "tuple" | .list => "list" | .dict => "dict"
def kdOf (G : DH) : D → Option Kd
  | .non => some .non
  | .bl _ => some .bool
  | .int _ => some .int
  | .str _ => some .str
  | .tup _ => some .tuple
  | .ref i => match G[i]? with
    | some (.lst _) => some .list
    | some (.rol _) => some .list
    | some (.dct _) => some .dict
    | some (.rod _) => some .dict
    | none => none
  | _ => none
def tysOf : List D → Option (List Ty)
  | [] => some []
  | .ty n :: r => match Ty.of n, tysOf r with
    | some T, some Ts => some (T :: Ts)
    | _, _ => none
  | _ => none
def isinstF : List D → M D := fun ds G => match ds with
  | [d, .ty n] => match kdOf G d, Ty.of n with
    | some k, some T => some (.ok (.bl (k.is T)), G)
    | _, _ => none
  | [d, .tup l] => match kdOf G d, tysOf l with
    | some k, some Ts => some (.ok (.bl (Ts.any k.is)), G)
    | _, _ => none
  | _ => none
theorem kit_one (K : PySem.W.Frag) (k : Kd) (T : Ty) : PySem.W.kitOne K (.type k.name) (.type T.name) = some (k.is T) := by
  cases k <;> cases T <;> rfl
theorem kd_run {A : Around} {E : Value → Shared → Prop} {pins : List (Addr × Obj)} {σ : St} {s : Shared} {d : D} {x : V} {v : Value} {k : Kd} (I : Inv X pins σ H s) (hr : HRep (wc X) μ G H) (r : RepV (wc X) μ H d x) (rv : RelV x v) (e : kdOf G d = some k) :
    ∃ HH : Heap → Prop, PySem.W.KitX X.K v (.type k.name) HH ∧ HH s.heap ∧ v ≠ .builtin "__main__.__loader__#opaque" := by
  cases d with
  | non => cases e; unfold RepV at r; subst r; cases rv; exact ⟨_, PySem.W.kitx_none, True.intro, fun z => nomatch z⟩
  | bl b => cases e; unfold RepV at r; subst r; cases rv; exact ⟨_, PySem.W.kitx_bool, True.intro, fun z => nomatch z⟩
  | int b => cases e; unfold RepV at r; subst r; obtain ⟨t, rfl⟩ := rv; exact ⟨_, PySem.W.kitx_int, True.intro, fun z => nomatch z⟩
  | str b => cases e; unfold RepV at r; subst r; obtain ⟨t, rfl⟩ := rv; exact ⟨_, PySem.W.kitx_str, True.intro, fun z => nomatch z⟩
  | tup l =>
    cases e
    unfold RepV at r
    obtain ⟨a, vs, rfl, q, _⟩ := r
    cases rv
    obtain ⟨its, _, ⟨o, h1, h2, _⟩, _⟩ := I.tuple q
    exact ⟨_, PySem.W.kitx_tuple, ⟨o, h1, h2⟩, fun z => nomatch z⟩
  | ref i =>
    unfold RepV at r
    obtain ⟨a, m, rfl⟩ := r
    cases rv
    unfold kdOf at e
    cases g : G[i]? with
    | none => simp only [g] at e; cases e
    | some o =>
      have ro := hr.obj i o a g m
      simp only [g] at e
      cases o with
      | lst l =>
        cases e
        obtain ⟨vs, q, _⟩ := ro
        obtain ⟨its, _, ⟨o, n, h1, h2, _⟩, _⟩ := I.list (SqL.of q)
        exact ⟨_, PySem.W.kitx_list, ⟨o, h1, h2⟩, fun z => nomatch z⟩
      | rol l =>
        cases e
        obtain ⟨vs, q, _⟩ := ro
        obtain ⟨its, _, ⟨o, n, h1, h2, _⟩, _⟩ := I.list q.sq
        exact ⟨_, PySem.W.kitx_list, ⟨o, h1, h2⟩, fun z => nomatch z⟩
      | dct l =>
        cases e
        obtain ⟨kvs, q, _⟩ := ro
        obtain ⟨_, _, vs, _, o, es, ep, h1, h2, _⟩ := (show ObjOk X.prog X.w H s.heap a (.dK kvs) from I.hok a _ q)
        exact ⟨_, PySem.W.kitx_dict, ⟨o, h1, h2.1⟩, fun z => nomatch z⟩
      | rod l =>
        cases e
        obtain ⟨kvs, ob, q, _⟩ := ro
        obtain ⟨_, _, _, vs, _, o, es, ep, h1, h2, _⟩ := (show ObjOk X.prog X.w H s.heap a (.frz ob (.dK kvs)) from I.hok a _ q)
        exact ⟨_, PySem.W.kitx_dict, ⟨o, h1, h2.1⟩, fun z => nomatch z⟩
  | _ => cases e
theorem tys_rep : ∀ {l : List D} {vs : List V} {us : List Value} {Ts : List Ty}, tysOf l = some Ts → RepL c μ H l vs → Vals vs us → us = Ts.map fun T => .type T.name
  | [], _, _, _, e, r, q => by cases e; cases r; cases q; rfl
  | d :: ds, _, _, Ts, e, r, q => by
    obtain ⟨v, t, rfl, r0, rt⟩ := r
    cases q with
    | cons q0 qt =>
      cases d with
      | ty n =>
        unfold tysOf at e
        cases h1 : Ty.of n with
        | none => simp only [h1] at e; cases e
        | some T =>
          cases h2 : tysOf ds with
          | none => simp only [h1, h2] at e; cases e
          | some Ts' =>
            simp only [h1, h2] at e
            cases e
            unfold RepV at r0
            subst r0
            rw [tys_rep h2 rt qt, List.map_cons, show _ = Value.type n from q0, Ty.of_name h1]
      | _ => cases e
theorem kit_any (K : PySem.W.Frag) (k : Kd) : ∀ Ts : List Ty, PySem.W.kitAny K (.type k.name) (Ts.map fun T => .type T.name) = some (Ts.any k.is)
  | [] => rfl
  | T :: Ts => by
    have ih := kit_any K k Ts
    cases k <;> cases T <;> first
      | rfl
      | exact ih
theorem cd_isinst : CallD X Z (.builtin "isinstance") isinstF := ⟨by
  intro pins s σ H xs us Q I r ⟨ds, μ, G, rl, hr, p⟩
  unfold isinstF at p
  split at p
  · rename_i d n
    obtain ⟨v, t, rfl, r0, v1, t1, rfl, r1, e⟩ := rl
    cases e
    obtain ⟨u, u', rfl, ru, ru'⟩ := vals2 r
    unfold RepV at r1
    subst r1
    cases ru'
    cases hk : kdOf G d with
    | none => simp only [hk] at p; exact p.elim
    | some k =>
      cases hT : Ty.of n with
      | none => simp only [hk, hT] at p; exact p.elim
      | some T =>
        simp only [hk, hT] at p
        rw [Ty.of_name hT]
        obtain ⟨HH, kx, hh, hne⟩ := kd_run (A := X.A) (E := X.xe) I hr r0 ru hk
        exact PySem.W.kia_one kx I.kIn hh (kit_one X.K k T) hne fun tk => ⟨.bl _, H, I.tok tk, rfl, Post.ok p hr _ ofB⟩
  · rename_i d l
    obtain ⟨v, t, rfl, r0, v1, t1, rfl, r1, e⟩ := rl
    cases e
    obtain ⟨u, u', rfl, ru, ru'⟩ := vals2 r
    unfold RepV at r1
    obtain ⟨a, vs, rfl, q, rll⟩ := r1
    cases ru'
    cases hk : kdOf G d with
    | none => simp only [hk] at p; exact p.elim
    | some k =>
      cases hT : tysOf l with
      | none => simp only [hk, hT] at p; exact p.elim
      | some Ts =>
        simp only [hk, hT] at p
        obtain ⟨HH, kx, hh, hne⟩ := kd_run (A := X.A) (E := X.xe) I hr r0 ru hk
        obtain ⟨its, rr, ⟨⟨cls, dd, data, sl⟩, h1, h2, n, h3⟩, _⟩ := I.tuple q
        simp only at h2 h3
        subst h2 h3
        exact PySem.W.kia_tup kx I.kIn hh h1 (by rw [tys_rep hT rll rr]; exact kit_any X.K k Ts) hne fun tk => ⟨.bl _, H, I.tok tk, rfl, Post.ok p hr _ ofB⟩
  · exact p.elim⟩
end
end DL
set_option Elab.async false
set_option linter.all false
set_option maxRecDepth 100000
namespace DL
open PySem PySem.Spec L2
open PyProof.Rows hiding St
theorem atI_rep {c : Wc} {μ : List Addr} {H : Hp} {l : List D} {vs : List V} {i : Int} {d : D} (r : RepL c μ H l vs) (e : atI l i = some d) : ∃ v, atI vs i = some v ∧ RepV c μ H d v := by
  unfold atI at e ⊢
  rw [← r.length]
  cases h : ixN l.length i with
  | none => rw [h] at e; cases e
  | some j =>
    rw [h] at e
    obtain ⟨v, h1, h2⟩ := r.get e
    exact ⟨v, h1, h2⟩
def ixD : D → D → M D := fun x y => match x, y with
  | .tup l, .int i => optM (atI l i)
  | .str z, .int i => if z.length ≤ sizeLine then do
      let c ← optM (atI z.cps.toList i)
      pure (.str ⟨#[c]⟩)
    else M.stuck
  | .ref r, .int i => do
    let l ← objM r >>= listOf
    optM (atI l i)
  | _, _ => M.stuck
section
variable {X : Cx} {Z : XC} {a b e : Expr} {fa fb : Fe} {pos : Pos}
def IxD (X : Cx) (Z : XC) (o : D → D → M D) : Prop := IxR X (liftR2 (wc X) Z o)
theorem de_ix0 {o : D → D → M D} (ho : IxD X Z o) (ha : DE X Z a fa) (hb : DE X Z b fb) (hs : PlainIx b) : DE X Z (.Subscript a b pos) (binE o fa fb) := DE.of (pe_ix ho ha.h hb.h hs) bin_lift
theorem optM_end {c : Wc} {μ : List Addr} {H : Hp} {G : DH} {r : Option D} {K : D → List Addr → DH → Hp → Prop} (h : HRep c μ G H) (p : Post c Z μ H (optM r G) K) : ∃ d, r = some d ∧ K d μ G H := by
  cases r with
  | none => exact p.elim
  | some d => exact ⟨d, rfl, Post.ok p h⟩
theorem id_ix : IxD X Z ixD := IxR.mono (ix_list.or (ix_tup.or ix_str)) fun x y H Q ⟨dx, dy, μ, G, rx, ry, hr, p⟩ => by
  cases dx <;> cases dy <;> first
    | exact p.elim
    | skip
  · rename_i z i
    refine .inr (.inr ?_)
    unfold ixD at p
    dsimp only at p
    split at p
    · rename_i hz
      obtain ⟨c, ec, p2⟩ := optM_post p
      exact ⟨z, i, c, repS rx, repI ry, hz, ec, Post.ok p2 hr _ ofS⟩
    · exact p.elim
  · rename_i l i
    refine .inr (.inl ?_)
    unfold RepV at rx
    obtain ⟨a, vs, rfl, q, rl⟩ := rx
    obtain ⟨d, ed, k⟩ := optM_end hr p
    obtain ⟨v, ev, rv⟩ := atI_rep rl ed
    exact ⟨a, vs, i, v, rfl, repI ry, q, ev, k v rv⟩
  · rename_i r i
    refine .inl ?_
    obtain ⟨l, a, vs, rfl, rl, p2, hq⟩ := seqM_post (d := .ref r) (f := fun l => optM (atI l i)) hr rx p
    obtain ⟨d, ed, k⟩ := optM_end hr p2
    obtain ⟨v, ev, rv⟩ := atI_rep rl ed
    rcases hq with ⟨z, _⟩ | ⟨_, _, _, ⟨_, q⟩ | ⟨_, q⟩⟩
    · cases z
    · exact ⟨a, vs, i, v, rfl, repI ry, SqL.of q, ev, k v rv⟩
    · exact ⟨a, vs, i, v, rfl, repI ry, q.sq, ev, k v rv⟩
theorem de_ix (ha : DE X Z a fa) (hb : DE X Z b fb) (hs : PlainIx b) : DE X Z (.Subscript a b pos) (binE ixD fa fb) := de_ix0 id_ix ha hb hs
def cutD (xs : List D) (lo hi : Option Int) : List D := (xs.drop (HT.sIx xs.length 0 lo)).take (HT.sIx xs.length xs.length hi - HT.sIx xs.length 0 lo)
abbrev Fo := DSt → M (Option Int)
def noPart : Fo := fun _ => pure none
def partO (f : Fe) : Fo := fun σ => do
  match ← f σ with
  | .int i => pure (some i)
  | _ => M.stuck
def liftO (c : Wc) (Z : XC) (f : Fo) : TO := fun σ H Q => ∃ dσ μ G, StRep c μ H dσ σ ∧ HRep c μ G H ∧ Post c Z μ H (f dσ G) fun o _ _ H' => Q o H'
structure DOp (X : Cx) (Z : XC) (e : Option Expr) (f : Fo) : Prop where
  h : PO X e (liftO (wc X) Z f)
theorem PO.mono {e : Option Expr} {t t' : TO} (h : PO X e t) (k : ∀ σ H Q, t' σ H Q → t σ H Q) : PO X e t' := fun pins s σ H Q I q => h pins s σ H Q I (k σ H Q q)
theorem DOp.of {e : Option Expr} {f : Fo} {t : TO} (h : PO X e t) (k : ∀ σ H Q, liftO (wc X) Z f σ H Q → t σ H Q) : DOp X Z e f := ⟨PO.mono h k⟩
theorem do_none : DOp X Z none noPart := DOp.of po_none fun σ H Q ⟨dσ, μ, G, s, h, p⟩ => Post.ok p h
theorem do_some (h : DE X Z e fa) : DOp X Z (some e) (partO fa) := DOp.of (po_some h.h) fun σ H Q ⟨dσ, μ, G, s, h, p⟩ => ⟨dσ, μ, G, s, h, (Post.bind p).mono fun d μ1 G1 H1 x1 h1 p1 v rv => by
  cases d with
  | int i => exact ⟨i, repI rv, Post.ok p1 h1⟩
  | _ => exact p1.elim⟩
def slD : D → Option Int → Option Int → M D := fun x lo hi => match x with
  | .tup l => pure (.tup (cutD l lo hi))
  | .ref r => do
    let l ← objM r >>= listOf
    allocM (.lst (cutD l lo hi))
  | _ => M.stuck
def SlD (X : Cx) (Z : XC) (o : D → Option Int → Option Int → M D) : Prop :=
  SlR X fun x lo hi H Q => ∃ dx μ G, RepV (wc X) μ H dx x ∧ HRep (wc X) μ G H ∧ Post (wc X) Z μ H (o dx lo hi G) fun d μ' _ H' => ∀ v, RepV (wc X) μ' H' d v → Q v H'
theorem SlR.mono {r r' : V → Option Int → Option Int → Hp → VK → Prop} (h : SlR X r) (k : ∀ x lo hi H Q, r' x lo hi H Q → r x lo hi H Q) : SlR X r' := fun pins s σ H x v vl vu lo hi sl Q I rx hs pl pu q => h pins s σ H x v vl vu lo hi sl Q I rx hs pl pu (k x lo hi H Q q)
theorem getItem_tuple_whole {prog : Program} {w : World} {A : Around} {E : Value → Shared → Prop} {s : Shared} {t sl : Addr} {items : Array Value} {vl vu : Value} {lo hi : Option Int} {Q : Value → Shared → Prop} (ht : IsTup s.heap t items) (hs : s.heap.IsSliceOf sl vl vu .none) (pl : IsPart vl lo) (pu : IsPart vu hi)
    (hw : HT.sIx items.size 0 lo = 0 ∧ HT.sIx items.size items.size hi = items.size) (h : Q (.ref t) s) : wpAny (model prog w) A (getItem (.ref t) (.ref sl)) Q E s := by
  obtain ⟨os, hos, hcs, hds⟩ := id hs
  have hTs : s.TypeIs (.ref sl) "slice" := ⟨os, hos, hcs⟩
  unfold getItem
  try with_reducible refine wpAny_holding ?_
  first | refine wpAny_bind (wpAny_pure ?_) | skip
  refine wpAny_bind (wpAny_sequenceKey ht.typeIs (by decide) ?_)
  refine wpAny_bind (wpAny_callSpecial?_slot (name := Str.ofString "__getitem__") ht.typeIs PyProof.Rows.slot_tuple_getitem
    (wpAny_call_entry PyProof.Rows.slot_tuple_getitem ht.typeIs entry_tuple_getitem ?_ (args_tuple_getitem _ _)))
  show wpAny _ _ (Builtin.Tuple.tupleItemsOf (.ref t) >>= _) _ _ s
  refine wpAny_bind (tupleItemsOf_ ht ?_)
  refine wpAny_bind (wpAny_typeOf hTs ?_)
  rw [if_pos (by decide)]
  refine wpAny_bind (HT.sliceApplied_gen hs pl pu ?_)
  have hyes : (((HT.sIx items.size 0 lo : Nat) : Int) == 0 && (1 : Int) == 1 && (HT.sIx items.size items.size hi - HT.sIx items.size 0 lo) == items.size) = true := by
    rw [hw.1, hw.2]; simp
  show wpAny _ _ (if (((HT.sIx items.size 0 lo : Nat) : Int) == 0 && (1 : Int) == 1 && (HT.sIx items.size items.size hi - HT.sIx items.size 0 lo) == items.size) = true then _ else _) _ _ s
  rw [if_pos hyes]
  unfold Builtin.Tuple.tupleIsExact
  refine wpAny_bind (wpAny_bind (wpAny_typeOf ht.typeIs (wpAny_pure ?_)))
  rw [if_pos (by decide)]
  exact wpAny_bind (wpAny_rule (wpAny_pure ⟨_, rfl, wpAny_pure h⟩))
def rSlW (K : PySem.W.Frag) : V → Option Int → Option Int → Hp → VK → Prop := fun x lo hi H Q => ∃ a xs, x = .ref a ∧ SqT K H a xs ∧ (HT.sIx xs.length 0 lo = 0 ∧ HT.sIx xs.length xs.length hi = xs.length) ∧ Q (.ref a) H
theorem sl_tupW : SlR X (rSlW X.K) := by
  intro pins s σ H x v vl vu lo hi sl Q I rx hs pl pu h
  obtain ⟨a, xs, rfl, hx, hw, q⟩ := h
  cases rx
  obtain ⟨its, r, ht, hz⟩ := I.tuple hx
  have hlen : its.toArray.size = xs.length := by rw [List.size_toArray]; exact r.length.symm
  exact ⟨"tuple", _, PyProof.Rows.slot_tuple_getitem.lookup, ht.typeIs, getItem_tuple_whole ht hs pl pu (by rw [hlen]; exact hw) ⟨.ref a, H, I, rfl, q⟩⟩
theorem cut_rep {c : Wc} {μ : List Addr} {H : Hp} {l : List D} {vs : List V} (r : RepL c μ H l vs) (lo hi : Option Int) : RepL c μ H (cutD l lo hi) (cutV vs lo hi) := by
  unfold cutD cutV
  rw [r.length]
  exact (r.drop _).take _
theorem sd_sl : SlD X Z slD := SlR.mono (sl_tup.or (sl_tupW.or sl_list)) fun x lo hi H Q ⟨dx, μ, G, rx, hr, p⟩ => by
  cases dx with
  | tup l =>
    unfold RepV at rx
    obtain ⟨a, vs, rfl, q, rl⟩ := rx
    by_cases hw : HT.sIx vs.length 0 lo = 0 ∧ HT.sIx vs.length vs.length hi = vs.length
    · refine .inr (.inl ⟨a, vs, rfl, q, hw, post_tup2 hr q ?_ p⟩)
      have e : cutV vs lo hi = vs := by unfold cutV; rw [hw.1, hw.2]; simp
      have := cut_rep rl lo hi
      rw [e] at this
      exact this
    · exact .inl ⟨a, vs, rfl, q, hw, fun p' hp => post_tup hr (cut_rep rl lo hi) p p' hp⟩
  | ref r =>
    obtain ⟨l, a, vs, rfl, rl, p2, hq⟩ := seqM_post (d := .ref r) (f := fun l => allocM (.lst (cutD l lo hi))) hr rx p
    have hs : SqL (wc X).K H a vs := by
      rcases hq with ⟨z, _⟩ | ⟨_, _, _, ⟨_, q⟩ | ⟨_, q⟩⟩
      · cases z
      · exact SqL.of q
      · exact q.sq
    exact .inr (.inr ⟨a, vs, rfl, hs, fun p' hp => post_lst hr (cut_rep rl lo hi) p2 p' hp⟩)
  | _ => exact p.elim
variable {lo hi : Option Expr} {fl fh : Fo} {p2 : Pos}
end
end DL
set_option Elab.async false
set_option linter.all false
set_option maxRecDepth 100000
namespace DL
open PySem PySem.Spec L2
open PyProof.Rows hiding St
def putM (r : Nat) (o : DO) : M Unit := fun G => some (.ok (), G.set r o)
def putKD (l : List (Key × D)) (k : Key) (d : D) : List (Key × D) := if l.any (fun kv => decide (kv.1 = k)) then l.map (fun kv => if kv.1 = k then (kv.1, d) else kv) else l ++ [(k, d)]
def setD : D → D → D → M Unit := fun o i d => match o with
  | .ref r => do
    match ← objM r with
    | .lst l => match i with
      | .int k => match ixN l.length k with
        | some j => putM r (.lst (l.set j d))
        | none => M.stuck
      | _ => M.stuck
    | .dct l => match keyD i with
      | some k => if l.length < sizeLine then putM r (.dct (putKD l k d)) else M.stuck
      | none => M.stuck
    | .rol _ => M.stuck
    | .rod _ => M.stuck
  | _ => M.stuck
def subG (fo fi : Fe) : Fg := fun d σ => do
  let o ← fo σ
  let i ← fi σ
  let _ ← setD o i d
  pure σ
section
variable {X : Cx} {Z : XC} {c : Wc} {μ : List Addr} {H : Hp} {G : DH}
theorem repK_put {k : Key} {d : D} {v : V} (rv : RepV c μ H d v) : ∀ {l : List (Key × D)} {kvs : List (Key × V)}, RepK c μ H l kvs → RepK c μ H (putKD l k d) (putK kvs k v) := by
  have any_eq : ∀ {l : List (Key × D)} {kvs : List (Key × V)}, RepK c μ H l kvs → (l.any fun kv => decide (kv.1 = k)) = (kvs.any fun kv => decide (kv.1 = k)) := by
    intro l
    induction l with
    | nil => intro kvs r; cases r; rfl
    | cons p t ih =>
      intro kvs r
      obtain ⟨v', kt, rfl, _, rt⟩ := r
      rw [List.any_cons, List.any_cons, ih rt]
  have map_eq : ∀ {l : List (Key × D)} {kvs : List (Key × V)}, RepK c μ H l kvs → RepK c μ H (l.map fun kv => if kv.1 = k then (kv.1, d) else kv) (kvs.map fun kv => if kv.1 = k then (kv.1, v) else kv) := by
    intro l
    induction l with
    | nil => intro kvs r; cases r; rfl
    | cons p t ih =>
      intro kvs r
      obtain ⟨k', d'⟩ := p
      obtain ⟨v', kt, rfl, q, rt⟩ := r
      rw [List.map_cons, List.map_cons]
      by_cases e : k' = k
      · simp only [e, if_true]
        exact ⟨v, _, rfl, rv, ih rt⟩
      · simp only [e, if_false]
        exact ⟨v', _, rfl, q, ih rt⟩
  have app_eq : ∀ {l : List (Key × D)} {kvs : List (Key × V)}, RepK c μ H l kvs → RepK c μ H (l ++ [(k, d)]) (kvs ++ [(k, v)]) := by
    intro l
    induction l with
    | nil => intro kvs r; cases r; exact ⟨v, [], rfl, rv, rfl⟩
    | cons p t ih =>
      intro kvs r
      obtain ⟨v', kt, rfl, q, rt⟩ := r
      exact ⟨v', _, rfl, q, ih rt⟩
  intro l kvs r
  unfold putKD putK
  rw [any_eq r]
  split
  · exact map_eq r
  · exact app_eq r
theorem RepK.length : ∀ {l : List (Key × D)} {kvs : List (Key × V)}, RepK c μ H l kvs → l.length = kvs.length
  | [], _, r => by cases r; rfl
  | _ :: _, _, r => by obtain ⟨_, _, rfl, _, t⟩ := r; simp [RepK.length t]
theorem post_put {r : Nat} {a : Addr} {o o' : DO} {u : HO} {Q : List Addr → DH → Hp → Prop} (h : HRep c μ G H) (g : G[r]? = some o) (n : ¬ isRol (some o)) (m : μ[r]? = some a) (n' : ¬ isRol (some o')) (ho : ∀ x : Ext μ H μ (upd H a u), ObjRep c μ (upd H a u) a o')
    (p : Post c Z μ H (putM r o' G) fun _ μ' G' H' => Q μ' G' H') : Q μ (G.set r o') (upd H a u) := by
  obtain ⟨u', e, n1, n2⟩ := (h.obj r o a g m).some_of n
  have x : Ext μ H μ (upd H a u) := Ext.mut (List.mem_of_getElem? m) e n1 n2 u
  exact p μ _ x (h.set g n m x n' (ho x))
def liftSet (c : Wc) (Z : XC) (f : D → D → D → M Unit) : TSet := fun o i v H Q => ∃ d1 d2 d3 μ G, RepV c μ H d1 o ∧ RepV c μ H d2 i ∧ RepV c μ H d3 v ∧ HRep c μ G H ∧ Post c Z μ H (f d1 d2 d3 G) fun _ _ _ H' => Q H'
theorem pset_d (hu : X.A.units + 64 < cLine) : PSet X (liftSet (wc X) Z setD) := by
  intro pins s σ H o i v ov iv u Q I ro ri rv ⟨d1, d2, d3, μ, G, r1, r2, r3, hr, p⟩
  cases d1 with
  | ref r =>
    unfold RepV at r1
    obtain ⟨a, m, rfl⟩ := r1
    obtain ⟨ob, g, p1⟩ := objM_post p
    have rob := hr.obj r ob a g m
    cases ob with
    | lst l =>
      obtain ⟨vs, ea, rl⟩ := rob
      cases d2 with
      | int k =>
        dsimp only at p1
        cases hk : ixN l.length k with
        | none => simp only [hk] at p1; exact p1.elim
        | some j =>
          simp only [hk] at p1
          exact set_list pins s σ H (.ref a) i v ov iv u Q I ro ri rv ⟨a, vs, k, j, rfl, repI r2, ea, by rw [← rl.length]; exact hk, post_put (o' := .lst (l.set j d3)) (Q := fun _ _ H' => Q H') hr g (fun z => z) m (fun z => z) (fun x => ⟨_, upd_same, (rl.mono x).set (r3.mono x) j⟩) p1⟩
      | _ => exact p1.elim
    | dct l =>
      obtain ⟨kvs, ea, rk⟩ := rob
      dsimp only at p1
      cases hk : keyD d2 with
      | none => simp only [hk] at p1; exact p1.elim
      | some k =>
        simp only [hk] at p1
        split at p1
        · rename_i hz
          have ei := key_rep hk r2
          subst ei
          cases ro
          refine d_setItem (by omega) I (DPut.k ea (by rw [← rk.length]; exact hz)) ri rv fun s' I' => ⟨_, I', ?_⟩
          exact post_put (o' := .dct (putKD l k d3)) (Q := fun _ _ H' => Q H') hr g (fun z => z) m (fun z => z) (fun x => ⟨_, upd_same, repK_put (r3.mono x) (rk.mono x)⟩) p1
        · exact p1.elim
    | rol l => exact p1.elim
    | rod l => exact p1.elim
  | _ => exact p.elim
variable {a b e o i : Expr} {fa fb fo fi : Fe} {pos : Pos}
theorem dg_sub (hu : X.A.units + 64 < cLine) (ho : DE X Z o fo) (hi : DE X Z i fi)
    (ha : ∀ v, assign (.Subscript o i pos) X.env v = (do
      let ov ← holding [v] (eval o X.env)
      let iv ← holding [v, ov] (eval i X.env)
      standAt pos
      holding [v, ov, iv] (setItem ov iv v)
      release [v, ov, iv] [])) : DG X Z (.Subscript o i pos) (subG fo fi) :=
  DG.of (pg_sub ho.h hi.h (pset_d hu) ha) fun v σ H Q ⟨d, dσ, μ, G, r, s, h, p⟩ => ⟨dσ, μ, G, s, h, (Post.bind p).mono fun d1 μ1 G1 H1 x1 h1 p1 v1 r1 =>
    ⟨dσ, μ1, G1, s.mono x1, h1, (Post.bind p1).mono fun d2 μ2 G2 H2 x2 h2 p2 v2 r2 => ⟨d1, d2, d, μ2, G2, r1.mono x2, r2, r.mono (x1.trans x2), h2, (Post.bind p2).mono fun _ μ3 G3 H3 x3 h3 p3 => Post.ok p3 h3 σ (s.mono (x1.trans (x2.trans x3)))⟩⟩⟩
def newDictE : Fe := fun _ => allocM (.dct [])
theorem de_dict0 : DE X Z (.Dict [] [] pos) newDictE := DE.of pe_dnewK fun σ H Q ⟨dσ, μ, G, s, h, p⟩ q hq => by
  have k : Ext μ H (μ ++ [q]) (upd H q (.dK [])) := Ext.add hq _
  refine p (μ ++ [q]) _ k (h.new hq ⟨[], upd_same, rfl⟩) _ ?_
  unfold RepV
  exact ⟨q, by rw [← h.len]; simp, rfl⟩
variable {es : List Expr} {fs : DSt → M (List D)} {name : Str} {apos cpos : Pos} {id : String} {mm : D → List D → M D}
end
end DL
set_option Elab.async false
set_option linter.all false
set_option maxRecDepth 100000
namespace DL
open PySem PySem.Spec L2
open PyProof.Rows hiding St
def SI (k : Bool) (h : Heap) (it a : Addr) (i : Nat) : Prop := if k then h.IsTupleIter it a i else h.IsListIter it a i
def SC (k : Bool) (h : Heap) (a : Addr) (items : Array Value) : Prop := if k then h.IsTuple a items else h.IsList a items
section
variable {prog : Program} {w : World} {A : Around} {E : Value → Shared → Prop} {s : Shared} {k : Bool}
theorem SI.keep {h h' : Heap} {it a : Addr} {i : Nat} (x : SI k h it a i) (q : ∀ o, h.get? it = some o → h'.get? it = some o) : SI k h' it a i := by
  cases k with
  | true => exact Heap.IsTupleIter.at (show h.IsTupleIter it a i from x) q
  | false => exact Heap.IsListIter.at (show h.IsListIter it a i from x) q
theorem SC.keep {h h' : Heap} {a : Addr} {its : Array Value} (x : SC k h a its) (q : ∀ o, h.get? a = some o → h'.get? a = some o) : SC k h' a its := by
  cases k with
  | true => obtain ⟨o, e, r⟩ := (show h.IsTuple a its from x); exact ⟨o, q o e, r⟩
  | false => obtain ⟨o, e, r⟩ := (show h.IsList a its from x); exact ⟨o, q o e, r⟩
theorem SI.there {h : Heap} {it a : Addr} {i : Nat} (x : SI k h it a i) : ∃ o, h.get? it = some o ∧ ∀ v, o.data ≠ .cell v := by
  cases k with
  | true => obtain ⟨o, e, c, d⟩ := (show h.IsTupleIter it a i from x); exact ⟨o, e, fun v z => by rw [d] at z; cases z⟩
  | false => obtain ⟨o, e, c, d⟩ := (show h.IsListIter it a i from x); exact ⟨o, e, fun v z => by rw [d] at z; cases z⟩
theorem nextOf_tuple_item {it t : Addr} {i : Nat} {items : Array Value} {x : Value} {Q : Value → Shared → Prop} (hit : s.heap.IsTupleIter it t i) (ht : s.heap.IsTuple t items) (hx : items[i]? = some x)
    (hQ : ∀ h', h'.IsTupleIter it t (i + 1) → Heap.SameBut it s.heap h' → Q x { s with heap := h' }) : wpAny (model prog w) A (Builtin.SmallTypes.nextOf (.ref it)) Q E s := by
  obtain ⟨ob, hob, hcls, hdat⟩ := id hit
  obtain ⟨ot, hot, _, nt, hdt⟩ := ht
  unfold Builtin.SmallTypes.nextOf
  refine wpAny_bind (wpAny_callSpecial?_slot (name := Str.ofString "__next__") hit.typeIs F.slot_tuple_iterator_next (wpAny_call_entry F.slot_tuple_iterator_next hit.typeIs F.entry_tuple_iterator_next ?_ (F.args_tuple_iterator_next_1 _)))
  show wpAny _ _ (field (.ref it) 0 >>= _) _ _ s
  refine wpAny_bind (wpAny_field hob hdat (x := .ref t) rfl ?_)
  show wpAny _ _ (if (Value.ref t == Value.none) = true then _ else _) _ _ s
  rw [if_neg (show ¬ ((Value.ref t == Value.none) = true) from Bool.false_ne_true)]
  show wpAny _ _ (field (.ref it) 1 >>= _) _ _ s
  refine wpAny_bind (wpAny_field hob hdat (x := .int i 0) rfl ?_)
  show wpAny _ _ (seqItems? (.ref t) >>= _) _ _ s
  refine wpAny_bind (wpAny_seqItems hot hdt ?_)
  simp only [Int.toNat_natCast, hx]
  refine wpAny_bind (wpAny_setField hob hdat (by simp) (wpAny_pure ⟨x, rfl, wpAny_pure (hQ _ ?_ (Heap.SameBut.update ..))⟩))
  exact ⟨_, Heap.get?_update_self _ hob (Obj.isFreed_of_fields (Obj.data_mapFields hdat _)), (Obj.cls_mapFields ..).trans hcls, by rw [Obj.data_mapFields hdat]; simp [rawInt]⟩
theorem nextOf_tuple_end {it t : Addr} {i : Nat} {items : Array Value} {Q : Value → Shared → Prop} (hh : A.handled = none) (hit : s.heap.IsTupleIter it t i) (ht : s.heap.IsTuple t items) (hx : items[i]? = none)
    (hE : ∀ h' e, Heap.ExtBut it s.heap h' → (∃ o, h'.get? e = some o ∧ o.cls = .type "StopIteration") → E (.ref e) { s with heap := h' }) : wpAny (model prog w) A (Builtin.SmallTypes.nextOf (.ref it)) Q E s := by
  obtain ⟨ob, hob, hcls, hdat⟩ := id hit
  obtain ⟨ot, hot, _, nt, hdt⟩ := ht
  unfold Builtin.SmallTypes.nextOf
  refine wpAny_bind (wpAny_callSpecial?_slot (name := Str.ofString "__next__") hit.typeIs F.slot_tuple_iterator_next (wpAny_call_entry F.slot_tuple_iterator_next hit.typeIs F.entry_tuple_iterator_next ?_ (F.args_tuple_iterator_next_1 _)))
  show wpAny _ _ (field (.ref it) 0 >>= _) _ _ s
  refine wpAny_bind (wpAny_field hob hdat (x := .ref t) rfl ?_)
  show wpAny _ _ (if (Value.ref t == Value.none) = true then _ else _) _ _ s
  rw [if_neg (show ¬ ((Value.ref t == Value.none) = true) from Bool.false_ne_true)]
  show wpAny _ _ (field (.ref it) 1 >>= _) _ _ s
  refine wpAny_bind (wpAny_field hob hdat (x := .int i 0) rfl ?_)
  show wpAny _ _ (seqItems? (.ref t) >>= _) _ _ s
  refine wpAny_bind (wpAny_seqItems hot hdt ?_)
  simp only [Int.toNat_natCast, hx]
  refine wpAny_bind (wpAny_rule (wpAny_bind (wpAny_setField hob hdat (by simp) ?_)))
  show wpAny _ _ (newExc (.type "StopIteration") [] >>= _) _ _ _
  refine wpAny_bind ?_
  simp only [newExc, newTuple]
  refine wpAny_bind (wpAny_newObj_type ?_ (by size_fits))
  refine wpAny_bind (m := firstArgMember _ _) (wpAny_of_eq (a := Value.none) (by first | rfl | (simp only [firstArgMember]; rfl)) ?_)
  refine wpAny_newObj_type ?_ (by size_fits)
  simp only [raiseNew]
  refine wpAny_bind (wpAny_handled ?_)
  first | rw [show A.in1.handled = none from hh] | rw [hh]
  refine wpAny_bind (wpAny_pure (wpAny_throw ?_))
  exact hE _ _ (((Heap.SameBut.update ..).extBut.push _).push _) ⟨_, Heap.get?_push_size _ rfl, rfl⟩
theorem nextOf_item {it a : Addr} {i : Nat} {items : Array Value} {x : Value} {Q : Value → Shared → Prop} (hit : SI k s.heap it a i) (hl : SC k s.heap a items) (hx : items[i]? = some x)
    (hQ : ∀ h', SI k h' it a (i + 1) → Heap.SameBut it s.heap h' → Q x { s with heap := h' }) : wpAny (model prog w) A (Builtin.SmallTypes.nextOf (.ref it)) Q E s := by
  cases k with
  | true => exact nextOf_tuple_item hit hl hx hQ
  | false => exact wpAny_nextOf_list_item hit hl hx hQ
theorem nextOf_end {it a : Addr} {i : Nat} {items : Array Value} {Q : Value → Shared → Prop} (hh : A.handled = none) (hit : SI k s.heap it a i) (hl : SC k s.heap a items) (hx : items[i]? = none)
    (hE : ∀ h' e, Heap.ExtBut it s.heap h' → (∃ o, h'.get? e = some o ∧ o.cls = .type "StopIteration") → E (.ref e) { s with heap := h' }) : wpAny (model prog w) A (Builtin.SmallTypes.nextOf (.ref it)) Q E s := by
  cases k with
  | true => exact nextOf_tuple_end hh hit hl hx hE
  | false => exact wpAny_nextOf_list_end hh hit hl hx hE
structure ZA (z TI TO i1 i2 : Addr) : Prop where
  TIz : TI ≠ z
  TOz : TO ≠ z
  i1z : i1 ≠ z
  i2z : i2 ≠ z
  TITO : TI ≠ TO
  TIi1 : TI ≠ i1
  TIi2 : TI ≠ i2
  TOi1 : TO ≠ i1
  TOi2 : TO ≠ i2
  i12 : i1 ≠ i2
variable {z TI TO i1 i2 l1 l2 : Addr} {xs ys : Array Value} {k1 k2 : Bool} {i : Nat}
theorem zip_item {x y a b : Value} {Q : Value → Shared → Prop} (Ap : ZA z TI TO i1 i2) (n1 : l1 ∉ [z, TO, i1, i2]) (n2 : l2 ∉ [z, TO, i1, i2])
    (hz : IsZip s.heap z TI TO .none) (hTI : IsPair s.heap TI (.ref i1) (.ref i2)) (hTO : IsPair s.heap TO a b)
    (h1 : SI k1 s.heap i1 l1 i) (h2 : SI k2 s.heap i2 l2 i) (hl1 : SC k1 s.heap l1 xs) (hl2 : SC k2 s.heap l2 ys) (hx : xs[i]? = some x) (hy : ys[i]? = some y)
    (hQ : ∀ h', IsZip h' z TI TO (rawInt s.heap.objs.size) → IsPair h' TO x y → SI k1 h' i1 l1 (i + 1) → SI k2 h' i2 l2 (i + 1) → IsPair h' s.heap.objs.size x y → h'.objs.size = s.heap.objs.size + 1 →
      (∀ c o, c ≠ z → c ≠ TO → c ≠ i1 → c ≠ i2 → s.heap.get? c = some o → h'.get? c = some o) → Q (.ref s.heap.objs.size) { s with heap := h' }) :
    wpAny (model prog w) A (Builtin.«zip.__next__» ⟨[.ref z], []⟩) (fun fin s' => ∃ v, fin = .done (.ret v) ∧ Q v s') E s := by
  simp only [List.mem_cons, List.not_mem_nil, or_false, not_or] at n1 n2
  show wpAny _ _ (field (.ref z) 2 >>= _) _ _ _
  refine wpAny_bind (wpAny_field hz rfl (x := .bool false) rfl ?_)
  show wpAny _ _ (field (.ref z) 3 >>= _) _ _ _
  refine wpAny_bind (wpAny_field hz rfl (x := .ref TI) rfl ?_)
  refine wpAny_bind (wpAny_seqItems hTI rfl ?_)
  show wpAny _ _ (Builtin.SmallTypes.ownedTupleIsFree (.ref z) >>= _) _ _ _
  refine wpAny_bind ?_
  unfold Builtin.SmallTypes.ownedTupleIsFree
  refine wpAny_bind (wpAny_field hz rfl (x := .none) rfl (wpAny_pure ?_))
  simp only [if_true]
  refine wpAny_bind (wpAny_rule ?_)
  refine wpAny_bind (wpAny_field hz rfl (x := .ref TO) rfl ?_)
  refine wpAny_bind (wpAny_setField_rec hz (by simp) fun g₁ hz₁ hs₁ => ?_)
  replace hz₁ : IsZip g₁ z TI TO .ellipsis := hz₁
  refine wpAny_bind ?_
  simp only [List.zipIdx_cons, List.zipIdx_nil, List.forIn_cons, List.forIn_nil]
  refine wpAny_bind (wpAny_bind (wpAny_onRaise ?_))
  show wpAny _ _ (Builtin.SmallTypes.nextOf (.ref i1) >>= _) _ _ _
  refine wpAny_bind (nextOf_item (h1.keep fun o e => hs₁.extBut _ _ Ap.i1z e) (hl1.keep fun o e => hs₁.extBut _ _ n1.1 e) hx fun g₂ h1₂ hs₂ => wpAny_pure ?_)
  have hTO₂ : IsPair g₂ TO a b := hs₂.extBut _ _ Ap.TOi1 (hs₁.extBut _ _ Ap.TOz hTO)
  refine wpAny_bind (wpAny_seqItems hTO₂ rfl ?_)
  refine wpAny_bind (wpAny_updateSeq_pair hTO₂ fun g₃ hTO₃ hs₃ => ?_)
  replace hTO₃ : IsPair g₃ TO x b := hTO₃
  refine wpAny_bind (wpAny_letGo (wpAny_pure ?_))
  refine wpAny_bind (wpAny_bind (wpAny_onRaise ?_))
  show wpAny _ _ (Builtin.SmallTypes.nextOf (.ref i2) >>= _) _ _ _
  have up3 : ∀ c o, c ≠ z → c ≠ TO → c ≠ i1 → s.heap.get? c = some o → g₃.get? c = some o := fun c o c1 c2 c3 e => hs₃.extBut _ _ c2 (hs₂.extBut _ _ c3 (hs₁.extBut _ _ c1 e))
  refine wpAny_bind (nextOf_item (h2.keep fun o e => up3 _ _ Ap.i2z Ap.TOi2.symm Ap.i12.symm e) (hl2.keep fun o e => up3 _ _ n2.1 n2.2.1 n2.2.2.1 e) hy fun g₄ h2₄ hs₄ => wpAny_pure ?_)
  have hTO₄ : IsPair g₄ TO x b := hs₄.extBut _ _ Ap.TOi2 hTO₃
  refine wpAny_bind (wpAny_seqItems hTO₄ rfl ?_)
  refine wpAny_bind (wpAny_updateSeq_pair hTO₄ fun g₅ hTO₅ hs₅ => ?_)
  replace hTO₅ : IsPair g₅ TO x y := hTO₅
  refine wpAny_bind (wpAny_letGo (wpAny_pure (wpAny_pure ?_)))
  refine wpAny_bind (wpAny_seqItems hTO₅ rfl ?_)
  refine wpAny_bind (wpAny_newTuple ?_)
  have hsz : g₅.objs.size = s.heap.objs.size := by rw [hs₅.1, hs₄.1, hs₃.1, hs₂.1, hs₁.1]
  have hz₅ : IsZip g₅ z TI TO .ellipsis := hs₅.extBut _ _ Ap.TOz.symm (hs₄.extBut _ _ Ap.i2z.symm (hs₃.extBut _ _ Ap.TOz.symm (hs₂.extBut _ _ Ap.i1z.symm hz₁)))
  have hk₅ : ∀ c o, c ≠ z → c ≠ TO → c ≠ i1 → c ≠ i2 → s.heap.get? c = some o → g₅.get? c = some o := fun c o c1 c2 c3 c4 e => hs₅.extBut _ _ c2 (hs₄.extBut _ _ c4 (up3 c o c1 c2 c3 e))
  have h1₅ : SI k1 g₅ i1 l1 (i + 1) := h1₂.keep fun o e => hs₅.extBut _ _ Ap.TOi1.symm (hs₄.extBut _ _ Ap.i12 (hs₃.extBut _ _ Ap.TOi1.symm e))
  have h2₅ : SI k2 g₅ i2 l2 (i + 1) := h2₄.keep fun o e => hs₅.extBut _ _ Ap.TOi2.symm e
  have hzlt : z < g₅.objs.size := Heap.lt_size hz₅
  show wpAny _ _ (Builtin.SmallTypes.ownedTupleHandOut (.ref z) (.ref g₅.objs.size) >>= _) _ _ _
  refine wpAny_bind ?_
  unfold Builtin.SmallTypes.ownedTupleHandOut
  have hz₆ : IsZip (g₅.push { cls := .type "tuple", data := .seq #[x, y] }) z TI TO .ellipsis := Heap.get?_push_of_some _ hz₅
  refine wpAny_bind (wpAny_setField_rec hz₆ (by simp) fun g₇ hz₇ hs₇ => ?_)
  replace hz₇ : IsZip g₇ z TI TO (rawInt g₅.objs.size) := hz₇
  refine wpAny_setField_rec hz₇ (by simp) fun g₈ hz₈ hs₈ => ?_
  replace hz₈ : IsZip g₈ z TI TO (rawInt g₅.objs.size) := hz₈
  have up : ∀ c o, c ≠ z → g₅.get? c = some o → g₈.get? c = some o := fun c o c1 e => hs₈.extBut _ _ c1 (hs₇.extBut _ _ c1 (Heap.get?_push_of_some _ e))
  have hT₈ : IsPair g₈ g₅.objs.size x y := hs₈.extBut _ _ (Nat.ne_of_gt hzlt) (hs₇.extBut _ _ (Nat.ne_of_gt hzlt) (Heap.get?_push_size _ rfl))
  have hz8 : g₈.objs.size = g₅.objs.size + 1 := by rw [hs₈.1, hs₇.1, Heap.size_push]
  rw [hsz] at hz₈ hT₈ hz8
  refine wpAny_pure ⟨_, rfl, ?_⟩
  show Q (.ref g₅.objs.size) _
  rw [hsz]
  exact hQ g₈ hz₈ (up _ _ Ap.TOz hTO₅) (h1₅.keep fun o e => up _ o Ap.i1z e) (h2₅.keep fun o e => up _ o Ap.i2z e) hT₈ hz8 fun c o c1 c2 c3 c4 e => up c o c1 (hk₅ c o c1 c2 c3 c4 e)
theorem zip_end {a b : Value} {Q : Fin → Shared → Prop} (hh : A.handled = none) (Ap : ZA z TI TO i1 i2) (n1 : l1 ∉ [z, TO, i1, i2]) (n2 : l2 ∉ [z, TO, i1, i2])
    (hz : IsZip s.heap z TI TO .none) (hTI : IsPair s.heap TI (.ref i1) (.ref i2)) (hTO : IsPair s.heap TO a b)
    (h1 : SI k1 s.heap i1 l1 i) (h2 : SI k2 s.heap i2 l2 i) (hl1 : SC k1 s.heap l1 xs) (hl2 : SC k2 s.heap l2 ys) (hend : xs[i]? = none ∨ ys[i]? = none)
    (hE : ∀ h' e, (∀ c o, c ≠ z → c ≠ TO → c ≠ i1 → c ≠ i2 → s.heap.get? c = some o → h'.get? c = some o) → (∃ o, h'.get? e = some o ∧ o.cls = .type "StopIteration") → E (.ref e) { s with heap := h' }) :
    wpAny (model prog w) A (Builtin.«zip.__next__» ⟨[.ref z], []⟩) Q E s := by
  simp only [List.mem_cons, List.not_mem_nil, or_false, not_or] at n1 n2
  show wpAny _ _ (field (.ref z) 2 >>= _) _ _ _
  refine wpAny_bind (wpAny_field hz rfl (x := .bool false) rfl ?_)
  show wpAny _ _ (field (.ref z) 3 >>= _) _ _ _
  refine wpAny_bind (wpAny_field hz rfl (x := .ref TI) rfl ?_)
  refine wpAny_bind (wpAny_seqItems hTI rfl ?_)
  show wpAny _ _ (Builtin.SmallTypes.ownedTupleIsFree (.ref z) >>= _) _ _ _
  refine wpAny_bind ?_
  unfold Builtin.SmallTypes.ownedTupleIsFree
  refine wpAny_bind (wpAny_field hz rfl (x := .none) rfl (wpAny_pure ?_))
  simp only [if_true]
  refine wpAny_bind (wpAny_rule ?_)
  refine wpAny_bind (wpAny_field hz rfl (x := .ref TO) rfl ?_)
  refine wpAny_bind (wpAny_setField_rec hz (by simp) fun g₁ hz₁ hs₁ => ?_)
  replace hz₁ : IsZip g₁ z TI TO .ellipsis := hz₁
  refine wpAny_bind ?_
  simp only [List.zipIdx_cons, List.zipIdx_nil, List.forIn_cons, List.forIn_nil]
  refine wpAny_bind (wpAny_bind (wpAny_onRaise ?_))
  show wpAny _ _ (Builtin.SmallTypes.nextOf (.ref i1) >>= _) _ _ _
  cases hx : xs[i]? with
  | none =>
    refine wpAny_bind (nextOf_end hh (h1.keep fun o e => hs₁.extBut _ _ Ap.i1z e) (hl1.keep fun o e => hs₁.extBut _ _ n1.1 e) hx fun g₂ e hs₂ he => ?_)
    obtain ⟨oe, hoe, hce⟩ := he
    have hz₂ : IsZip g₂ z TI TO .ellipsis := hs₂ _ _ Ap.i1z.symm hz₁
    have hez : e ≠ z := fun q => by subst q; rw [hz₂] at hoe; cases hoe; simp at hce
    exact wpAny_setField_rec hz₂ (by simp) fun g₃ _ hs₃ => hE g₃ e (fun c o c1 _ c3 _ q => hs₃.extBut _ _ c1 (hs₂ _ _ c3 (hs₁.extBut _ _ c1 q))) ⟨oe, hs₃.extBut _ _ hez hoe, hce⟩
  | some x =>
    have hy : ys[i]? = none := by
      rcases hend with h | h
      · rw [hx] at h; cases h
      · exact h
    refine wpAny_bind (nextOf_item (h1.keep fun o e => hs₁.extBut _ _ Ap.i1z e) (hl1.keep fun o e => hs₁.extBut _ _ n1.1 e) hx fun g₂ h1₂ hs₂ => wpAny_pure ?_)
    have hTO₂ : IsPair g₂ TO a b := hs₂.extBut _ _ Ap.TOi1 (hs₁.extBut _ _ Ap.TOz hTO)
    refine wpAny_bind (wpAny_seqItems hTO₂ rfl ?_)
    refine wpAny_bind (wpAny_updateSeq_pair hTO₂ fun g₃ hTO₃ hs₃ => ?_)
    refine wpAny_bind (wpAny_letGo (wpAny_pure ?_))
    refine wpAny_bind (wpAny_bind (wpAny_onRaise ?_))
    show wpAny _ _ (Builtin.SmallTypes.nextOf (.ref i2) >>= _) _ _ _
    have up3 : ∀ c o, c ≠ z → c ≠ TO → c ≠ i1 → s.heap.get? c = some o → g₃.get? c = some o := fun c o c1 c2 c3 e => hs₃.extBut _ _ c2 (hs₂.extBut _ _ c3 (hs₁.extBut _ _ c1 e))
    refine wpAny_bind (nextOf_end hh (h2.keep fun o e => up3 _ _ Ap.i2z Ap.TOi2.symm Ap.i12.symm e) (hl2.keep fun o e => up3 _ _ n2.1 n2.2.1 n2.2.2.1 e) hy fun g₄ e hs₄ he => ?_)
    obtain ⟨oe, hoe, hce⟩ := he
    have hz₄ : IsZip g₄ z TI TO .ellipsis := hs₄ _ _ Ap.i2z.symm (hs₃.extBut _ _ Ap.TOz.symm (hs₂.extBut _ _ Ap.i1z.symm hz₁))
    have hez : e ≠ z := fun q => by subst q; rw [hz₄] at hoe; cases hoe; simp at hce
    exact wpAny_setField_rec hz₄ (by simp) fun g₅ _ hs₅ => hE g₅ e (fun c o c1 c2 c3 c4 q => hs₅.extBut _ _ c1 (hs₄ _ _ c4 (up3 c o c1 c2 c3 q))) ⟨oe, hs₅.extBut _ _ hez hoe, hce⟩
theorem pyNext_zip_item {x y a b : Value} {Q : Option Value → Shared → Prop} (Ap : ZA z TI TO i1 i2) (n1 : l1 ∉ [z, TO, i1, i2]) (n2 : l2 ∉ [z, TO, i1, i2])
    (hz : IsZip s.heap z TI TO .none) (hTI : IsPair s.heap TI (.ref i1) (.ref i2)) (hTO : IsPair s.heap TO a b)
    (h1 : SI k1 s.heap i1 l1 i) (h2 : SI k2 s.heap i2 l2 i) (hl1 : SC k1 s.heap l1 xs) (hl2 : SC k2 s.heap l2 ys) (hx : xs[i]? = some x) (hy : ys[i]? = some y)
    (hQ : ∀ h', IsZip h' z TI TO (rawInt s.heap.objs.size) → IsPair h' TO x y → SI k1 h' i1 l1 (i + 1) → SI k2 h' i2 l2 (i + 1) → IsPair h' s.heap.objs.size x y → h'.objs.size = s.heap.objs.size + 1 →
      (∀ c o, c ≠ z → c ≠ TO → c ≠ i1 → c ≠ i2 → s.heap.get? c = some o → h'.get? c = some o) → Q (some (.ref s.heap.objs.size)) { s with heap := h' }) :
    wpAny (model prog w) A (pyNext (.ref z)) Q E s := by
  have hT : s.TypeIs (.ref z) "zip" := ⟨_, hz, rfl⟩
  unfold pyNext
  exact wpAny_bind (wpAny_attempt (wpAny_callSpecial?_slot (name := Str.ofString "__next__") hT F.slot_zip_next (wpAny_call_entry F.slot_zip_next hT F.entry_zip_next
      (zip_item Ap n1 n2 hz hTI hTO h1 h2 hl1 hl2 hx hy fun h' a1 a2 a3 a4 a5 a6 a7 => wpAny_pure (hQ h' a1 a2 a3 a4 a5 a6 a7)) (F.args_zip_next_1 _))))
theorem pyNext_zip_end {a b : Value} {Q : Option Value → Shared → Prop} (hh : A.handled = none) (Ap : ZA z TI TO i1 i2) (n1 : l1 ∉ [z, TO, i1, i2]) (n2 : l2 ∉ [z, TO, i1, i2])
    (hz : IsZip s.heap z TI TO .none) (hTI : IsPair s.heap TI (.ref i1) (.ref i2)) (hTO : IsPair s.heap TO a b)
    (h1 : SI k1 s.heap i1 l1 i) (h2 : SI k2 s.heap i2 l2 i) (hl1 : SC k1 s.heap l1 xs) (hl2 : SC k2 s.heap l2 ys) (hend : xs[i]? = none ∨ ys[i]? = none)
    (hQ : ∀ h', (∀ c o, c ≠ z → c ≠ TO → c ≠ i1 → c ≠ i2 → s.heap.get? c = some o → h'.get? c = some o) → Q none { s with heap := h' }) : wpAny (model prog w) A (pyNext (.ref z)) Q E s := by
  have hT : s.TypeIs (.ref z) "zip" := ⟨_, hz, rfl⟩
  unfold pyNext
  refine wpAny_bind (wpAny_attempt (wpAny_callSpecial?_slot (name := Str.ofString "__next__") hT F.slot_zip_next (wpAny_call_entry F.slot_zip_next hT F.entry_zip_next
    (zip_end hh Ap n1 n2 hz hTI hTO h1 h2 hl1 hl2 hend fun h' e hk he => ?_) (F.args_zip_next_1 _))))
  obtain ⟨o, ho, hc⟩ := he
  exact wpAny_bind (wpAny_isInstance (T := "StopIteration") (b := true) ⟨o, ho, hc⟩ isSubtype_stop (wpAny_pure (hQ _ hk)))
end
def itObj (k : Bool) (a : Addr) : Obj := { cls := .type (if k then "tuple_iterator" else "list_iterator"), data := .fields #[.ref a, .int 0 0] }
abbrev zh1 (k1 : Bool) (h : Heap) (l1 : Addr) : Heap := h.push (itObj k1 l1)
abbrev zh2 (k1 k2 : Bool) (h : Heap) (l1 l2 : Addr) : Heap := (zh1 k1 h l1).push (itObj k2 l2)
abbrev zh3 (k1 k2 : Bool) (h : Heap) (l1 l2 : Addr) : Heap := (zh2 k1 k2 h l1 l2).push { cls := .type "tuple", data := .seq #[.ref h.objs.size, .ref (zh1 k1 h l1).objs.size] }
abbrev zh4 (k1 k2 : Bool) (h : Heap) (l1 l2 : Addr) : Heap := (zh3 k1 k2 h l1 l2).push { cls := .type "tuple", data := .seq #[.none, .none] }
abbrev zh5 (k1 k2 : Bool) (h : Heap) (l1 l2 : Addr) : Heap := (zh4 k1 k2 h l1 l2).push { cls := .type "zip", data := .fields #[.none, .bool false, .bool false, .ref (zh2 k1 k2 h l1 l2).objs.size, .ref (zh3 k1 k2 h l1 l2).objs.size] }
theorem pyIter_seq {prog : Program} {w : World} {A : Around} {E : Value → Shared → Prop} {s : Shared} {k : Bool} {a : Addr} {items : Array Value} {Q : Value → Shared → Prop} (hl : SC k s.heap a items) (h : Q (.ref s.heap.objs.size) { s with heap := s.heap.push (itObj k a) }) : wpAny (model prog w) A (pyIter (.ref a)) Q E s := by
  cases k with
  | true => exact wpAny_pyIter_tuple hl h
  | false => exact wpAny_pyIter_list hl h
theorem zip_new (k1 k2 : Bool) (l1 l2 : Addr) (xs ys : Array Value) :
    Meets (Builtin.«zip.__new__» ⟨[.type "zip", .ref l1, .ref l2], []⟩) (fun _ R s => SC k1 s.heap l1 xs ∧ SC k2 s.heap l2 ys ∧ R (.ok (.ret (.ref (zh4 k1 k2 s.heap l1 l2).objs.size))) { s with heap := zh5 k1 k2 s.heap l1 l2 }) :=
  .of_wp fun prog w A R s h => by
    obtain ⟨hp, g, d, tk, os⟩ := s
    obtain ⟨hl1, hl2, h⟩ := h
    have hsub := sub_zip
    have hL1 : SC k1 (Shared.heap ⟨hp, g, d, tk, os⟩) l1 xs := hl1
    have hL2 : SC k2 (Shared.heap ⟨hp.push (itObj k1 l1), g, d, tk, os⟩) l2 ys := hl2.keep fun o e => Heap.get?_push_of_some _ e
    wp_walk using pyIter_seq hL1, pyIter_seq hL2
    exact ⟨_, rfl, h⟩
end DL
set_option Elab.async false
set_option linter.all false
set_option maxRecDepth 100000
namespace DL
open PySem PySem.Spec L2
open PyProof.Rows hiding St
section
variable {X : Cx} {pins : List (Addr × Obj)} {σ : St} {H : Hp} {s : Shared}
theorem inv_drawn {h' : Heap} {t' : Nat} {ch : List Addr} {vs : List V} {us : List Value} (I : Inv X pins σ H s) (hf : ∀ b ∈ ch, FpOk X pins H b) (k : ∀ b o, b ∉ ch → s.heap.get? b = some o → h'.get? b = some o)
    (hz : vs.length ≤ sizeLine) (rv : Vals vs us) (ht : IsTupN h' s.heap.objs.size us.toArray) : Inv X pins σ (upd H s.heap.objs.size (.tup vs)) { s with heap := h', toks := t' } := by
  have hq : H s.heap.objs.size = none := I.hok.fresh (Nat.le_refl _)
  have neq : ∀ b o, s.heap.get? b = some o → b ≠ s.heap.objs.size := fun b o e => Nat.ne_of_lt (Heap.lt_size e)
  have nch : ∀ b u, H b = some u → b ∉ ch := fun b u e z => by rw [(hf b z).1] at e; cases e
  refine I.step (g' := s.gens) (d' := s.drawn) (ch := ch) (fun b hb => ⟨(hf b hb).2.2.2.1, (hf b hb).2.1, (hf b hb).2.2.2.2.1, (hf b hb).2.2.2.2.2⟩) (fun b o _ _ hc e _ => k b o hc e) (fun b o _ _ hc e _ => ⟨o.slots, k b o hc e⟩)
    (fun b o _ e n => by rw [upd_ne (neq b o e)]; exact n) (fun b o hc e => ⟨o, k b o hc e⟩) (fun b xs e => by rw [upd_ne (ne_of_none e hq)]; exact e) (fun b o u e => by rw [upd_ne (ne_of_none e hq)]; exact e)
    (fun b ps e => ⟨#[], by rw [upd_ne (ne_of_none e hq), e]; simp⟩) (fun m hm => ?_) (fun b u e => ?_) I.bare
  · obtain ⟨o, es, ep, ho, r⟩ := hm
    exact ⟨o, es, ep, k _ o (fun z => (hf _ z).2.1 rfl) ho, r⟩
  · by_cases hb : b = s.heap.objs.size
    · subst hb
      rw [upd_same] at e
      cases e
      exact ⟨hz, us, rv, ht⟩
    · rw [upd_ne hb] at e
      refine (I.hok b u e).stay (fun c v hc q => k c v ?_ q) (fun c q => by rw [upd_ne (ne_of_none q hq)]; exact q) fun c xs q => by rw [upd_ne (ne_of_none q hq)]; exact q
      rcases hc with z | z
      · rw [z]; exact nch b u e
      · exact nch c _ z
theorem inv_turned {h' : Heap} {t' : Nat} {ch : List Addr} (I : Inv X pins σ H s) (hf : ∀ b ∈ ch, FpOk X pins H b) (k : ∀ b o, b ∉ ch → s.heap.get? b = some o → h'.get? b = some o) : Inv X pins σ H { s with heap := h', toks := t' } := by
  have nch : ∀ b u, H b = some u → b ∉ ch := fun b u e z => by rw [(hf b z).1] at e; cases e
  refine I.step (g' := s.gens) (d' := s.drawn) (ch := ch) (fun b hb => ⟨(hf b hb).2.2.2.1, (hf b hb).2.1, (hf b hb).2.2.2.2.1, (hf b hb).2.2.2.2.2⟩) (fun b o _ _ hc e _ => k b o hc e) (fun b o _ _ hc e _ => ⟨o.slots, k b o hc e⟩)
    (fun _ _ _ _ n => n) (fun b o hc e => ⟨o, k b o hc e⟩) (fun _ _ e => e) (fun _ _ _ e => e) (fun b ps e => ⟨#[], by rw [e]; simp⟩) (fun m hm => ?_) (fun b u e => ?_) I.bare
  · obtain ⟨o, es, ep, ho, r⟩ := hm
    exact ⟨o, es, ep, k _ o (fun z => (hf _ z).2.1 rfl) ho, r⟩
  · refine (I.hok b u e).stay (fun c v hc q => k c v ?_ q) (fun _ q => q) fun _ _ q => q
    rcases hc with z | z
    · rw [z]; exact nch b u e
    · exact nch c _ z
end
def Sq (K : PySem.W.Frag) (k : Bool) (H : Hp) (a : Addr) (vs : List V) : Prop := if k then SqT K H a vs else SqL K H a vs
theorem sq_at {X : Cx} {pins : List (Addr × Obj)} {σ : St} {H : Hp} {s : Shared} {k : Bool} {a : Addr} {vs : List V} (I : Inv X pins σ H s) (h : Sq X.K k H a vs) : ∃ its : List Value, Vals vs its ∧ SC k s.heap a its.toArray ∧ vs.length ≤ sizeLine := by
  cases k with
  | true => obtain ⟨its, r, p, z⟩ := I.tuple h; exact ⟨its, r, p, z⟩
  | false => obtain ⟨its, r, p, z⟩ := I.list h; exact ⟨its, r, p.isList, z⟩
theorem sq_inj {X : Cx} {pins : List (Addr × Obj)} {σ : St} {H : Hp} {s : Shared} {k : Bool} {a : Addr} {vs ws : List V} (I : Inv X pins σ H s) (h : Sq X.K k H a vs) (h' : Sq X.K k H a ws) : vs = ws := by
  cases k with
  | true => exact I.tuple_inj h h'
  | false => exact I.list_inj h h'
def Itz (K : PySem.W.Frag) (k1 k2 : Bool) (a b : Addr) : It :=
  ⟨fun i H => ∃ xs ys x y, Sq K k1 H a xs ∧ Sq K k2 H b ys ∧ xs[i]? = some x ∧ ys[i]? = some y,
   fun i H v H' => ∃ q x y, H q = none ∧ v = .ref q ∧ H' = upd H q (.tup [x, y]) ∧ (∀ xs, Sq K k1 H a xs → xs[i]? = some x) ∧ ∀ ys, Sq K k2 H b ys → ys[i]? = some y,
   fun i H => ∃ xs ys, Sq K k1 H a xs ∧ Sq K k2 H b ys ∧ (xs.length ≤ i ∨ ys.length ≤ i)⟩
theorem get_arr {vs : List V} {its : List Value} (r : Vals vs its) {i : Nat} {x : V} (h : vs[i]? = some x) : ∃ u, its.toArray[i]? = some u ∧ RelV x u := by
  obtain ⟨u, e, ru⟩ := r.get h
  exact ⟨u, by simpa using e, ru⟩
theorem turn_zip {P : Program} {w : World} {K : PySem.W.Frag} {es : List Expr} {x1 : Nat} {tp : Pos} {k1 k2 : Bool} {l1 l2 z TI TO i1 i2 : Addr} (Ap : ZA z TI TO i1 i2) (n1 : l1 ∉ [z, TO, i1, i2]) (n2 : l2 ∉ [z, TO, i1, i2]) :
    Turn P w K (.Tuple es x1 tp) (Itz K k1 k2 l1 l2) [z, TI, TO, i1, i2] z (fun i h => IsZip h z TI TO .none ∧ IsPair h TI (.ref i1) (.ref i2) ∧ (∃ a b, IsPair h TO a b) ∧ SI k1 h i1 l1 i ∧ SI k2 h i2 l2 i) where
  mem := by simp
  obj := fun i h st b hb => by
    obtain ⟨s1, s2, ⟨a, c, s3⟩, s4, s5⟩ := st
    simp only [List.mem_cons, List.not_mem_nil, or_false] at hb
    rcases hb with rfl | rfl | rfl | rfl | rfl
    · exact ⟨_, s1, fun v z => nomatch z⟩
    · exact ⟨_, s2, fun v z => nomatch z⟩
    · exact ⟨_, s3, fun v z => nomatch z⟩
    · exact s4.there
    · exact s5.there
  keep := fun i h h' st k => by
    obtain ⟨s1, s2, ⟨a, c, s3⟩, s4, s5⟩ := st
    exact ⟨k _ (by simp) _ s1, k _ (by simp) _ s2, ⟨a, c, k _ (by simp) _ s3⟩, s4.keep (k _ (by simp)), s5.keep (k _ (by simp))⟩
  item := by
    intro X hP hw hK hc i pins s σ H E I hf st hg
    subst hP hw hK
    obtain ⟨xs, ys, x, y, q1, q2, hx, hy⟩ := hg
    obtain ⟨its1, r1, c1, z1⟩ := sq_at I q1
    obtain ⟨its2, r2, c2, z2⟩ := sq_at I q2
    obtain ⟨u1, e1, ru1⟩ := get_arr r1 hx
    obtain ⟨u2, e2, ru2⟩ := get_arr r2 hy
    obtain ⟨s1, s2, ⟨a, c, s3⟩, s4, s5⟩ := st
    refine pyNext_zip_item Ap n1 n2 s1 s2 s3 s4 s5 c1 c2 e1 e2 fun g b1 b2 b3 b4 b5 b6 b7 => ⟨_, rfl, ?_⟩
    refine wpAny_letOwnedTupleGo_zip b1 fun g2 c1' sb => ?_
    have keep : ∀ b o, b ∉ [z, TI, TO, i1, i2] → s.heap.get? b = some o → g2.get? b = some o := fun b o hb e => by
      simp only [List.mem_cons, List.not_mem_nil, or_false, not_or] at hb
      exact (sb.2 b hb.1).trans (b7 b o hb.1 hb.2.2.1 hb.2.2.2.1 hb.2.2.2.2 e)
    have zlt : z < s.heap.objs.size := Heap.lt_size s1
    have hnew : IsTupN g2 s.heap.objs.size [u1, u2].toArray := ⟨_, (sb.2 _ (Nat.ne_of_gt zlt)).trans b5, rfl, _, rfl⟩
    have hq : H s.heap.objs.size = none := I.hok.fresh (Nat.le_refl _)
    refine ⟨.ref s.heap.objs.size, upd H s.heap.objs.size (.tup [x, y]), inv_drawn I hf keep (by show 2 ≤ sizeLine; decide) (.cons ru1 (.cons ru2 .nil)) hnew, rfl, ⟨_, x, y, hq, rfl, rfl, fun xs' h => by rw [sq_inj I h q1]; exact hx, fun ys' h => by rw [sq_inj I h q2]; exact hy⟩, ?_, fun b hb => ?_⟩
    · refine ⟨c1', ?_, ⟨_, _, (sb.2 _ Ap.TOz).trans b2⟩, b3.keep fun o e => (sb.2 _ Ap.i1z).trans e, b4.keep fun o e => (sb.2 _ Ap.i2z).trans e⟩
      exact (sb.2 _ Ap.TIz).trans (b7 TI _ Ap.TIz Ap.TITO Ap.TIi1 Ap.TIi2 s2)
    · have hb' : b < s.heap.objs.size := by
        simp only [List.mem_cons, List.not_mem_nil, or_false] at hb
        rcases hb with rfl | rfl | rfl | rfl | rfl
        · exact zlt
        · exact Heap.lt_size s2
        · exact Heap.lt_size s3
        · obtain ⟨_, e, _⟩ := s4.there; exact Heap.lt_size e
        · obtain ⟨_, e, _⟩ := s5.there; exact Heap.lt_size e
      rw [upd_ne (Nat.ne_of_lt hb')]
      exact (hf b hb).1
  done := by
    intro X hP hw hK hc i pins s σ H E I hf st hg
    subst hP hw hK
    obtain ⟨xs, ys, q1, q2, hend⟩ := hg
    obtain ⟨its1, r1, c1, z1⟩ := sq_at I q1
    obtain ⟨its2, r2, c2, z2⟩ := sq_at I q2
    obtain ⟨s1, s2, ⟨a, c, s3⟩, s4, s5⟩ := st
    have hl1 := r1.length
    have hl2 := r2.length
    refine pyNext_zip_end (I.ok.hd hc) Ap n1 n2 s1 s2 s3 s4 s5 c1 c2 (by rcases hend with h | h; left; simp; omega; right; simp; omega) fun g b7 => ⟨rfl, inv_turned (t' := s.toks) I hf fun b o hb e => ?_⟩
    simp only [List.mem_cons, List.not_mem_nil, or_false, not_or] at hb
    exact b7 b o hb.1 hb.2.2.1 hb.2.2.2.1 hb.2.2.2.2 e
  self := fun _ _ _ _ _ st h => wpAny_pyIter_zip st.1 h
def iZip (K : PySem.W.Frag) (ta : TA) : TI := fun σ H R => ta σ H fun vs H1 => ∃ k1 k2 a b xs ys, vs = [.ref a, .ref b] ∧ Sq K k1 H1 a xs ∧ Sq K k2 H1 b ys ∧ R (Itz K k1 k2 a b) H1
section
variable {X : Cx} {Z : XC}
theorem call_zip_seq {prog : Program} {w : World} {A : Around} {E : Value → Shared → Prop} {s : Shared} {k1 k2 : Bool} {l1 l2 : Addr} {xs ys : Array Value} {Q : Value → Shared → Prop} (hl1 : SC k1 s.heap l1 xs) (hl2 : SC k2 s.heap l2 ys)
    (h : Q (.ref (zh4 k1 k2 s.heap l1 l2).objs.size) { s with heap := zh5 k1 k2 s.heap l1 l2 }) : wpAny (model prog w) A (call (.type "zip") [.ref l1, .ref l2]) Q E s := by
  refine callType_new F.called_zip (by decide) (F.typeCall_zip_2 _ _) (F.newCall_zip_2 _ _) (fun obj => F.args_object_init_3 obj _ _) F.entry_zip_new (zip_new k1 k2 l1 l2 xs ys) ⟨hl1, hl2, ?_⟩
  exact ⟨⟨_, Heap.get?_push_size _ rfl, rfl⟩, h⟩
theorem pi_zip {es : List Expr} {x1 : Nat} {tp : Pos} {a b : Expr} {ta : TA} {p pos : Pos} (hg : Gl X "zip") (hm : X.mg "zip" = none) (ha : PA X [a, b] ta) (hs : starEach [a, b] X.env = [(false, eval a X.env), (false, eval b X.env)] := by exact star_two rfl rfl) (hs2 : starEach [b] X.env = [(false, eval b X.env)] := by exact star_one rfl) (hbt : bootBuiltins "zip" = some (.type "zip") := by first | rfl | decide +kernel) :
    PI X (.Tuple es x1 tp) (.Call (.Name "zip" p) [a, b] [] pos) (iZip X.K ta) := by
  intro pins s σ H R I h
  refine Call_ (ld_blt I hg hm hbt (PyProof.Rows.callWith_type1 (thn (ha pos pins s σ H _ I h) fun us s1 ⟨vs, H1, I1, r1, q1⟩ => ?_) (by rw [hs, hs2]) (by rw [hs2]; rfl)))
  obtain ⟨k1, k2, l1, l2, xs, ys, rfl, q1, q2, q⟩ := q1
  obtain ⟨u1, u2, rfl, ru1, ru2⟩ := vals2 r1
  cases ru1
  cases ru2
  obtain ⟨its1, rr1, c1, z1⟩ := sq_at I1 q1
  obtain ⟨its2, rr2, c2, z2⟩ := sq_at I1 q2
  refine call_zip_seq c1 c2 ?_
  have lt1 : @LT.lt Nat instLTNat l1 s1.heap.objs.size := by
    cases k1 with
    | true => obtain ⟨o, e, _⟩ := (show s1.heap.IsTuple l1 _ from c1); exact Heap.lt_size e
    | false => obtain ⟨o, e, _⟩ := (show s1.heap.IsList l1 _ from c1); exact Heap.lt_size e
  have lt2 : @LT.lt Nat instLTNat l2 s1.heap.objs.size := by
    cases k2 with
    | true => obtain ⟨o, e, _⟩ := (show s1.heap.IsTuple l2 _ from c2); exact Heap.lt_size e
    | false => obtain ⟨o, e, _⟩ := (show s1.heap.IsList l2 _ from c2); exact Heap.lt_size e
  have z1 : (zh1 k1 s1.heap l1).objs.size = s1.heap.objs.size + 1 := Heap.size_push ..
  have z2 : (zh2 k1 k2 s1.heap l1 l2).objs.size = s1.heap.objs.size + 2 := by rw [Heap.size_push, z1]
  have z3 : (zh3 k1 k2 s1.heap l1 l2).objs.size = s1.heap.objs.size + 3 := by rw [Heap.size_push, z2]
  have z4 : (zh4 k1 k2 s1.heap l1 l2).objs.size = s1.heap.objs.size + 4 := by rw [Heap.size_push, z3]
  have keep : ∀ b o, s1.heap.get? b = some o → (zh5 k1 k2 s1.heap l1 l2).get? b = some o := fun b o e => Heap.get?_push_of_some _ (Heap.get?_push_of_some _ (Heap.get?_push_of_some _ (Heap.get?_push_of_some _ (Heap.get?_push_of_some _ e))))
  have g5 : IsZip (zh5 k1 k2 s1.heap l1 l2) (zh4 k1 k2 s1.heap l1 l2).objs.size (zh2 k1 k2 s1.heap l1 l2).objs.size (zh3 k1 k2 s1.heap l1 l2).objs.size .none := Heap.get?_push_size _ rfl
  have g4 : IsPair (zh5 k1 k2 s1.heap l1 l2) (zh3 k1 k2 s1.heap l1 l2).objs.size .none .none := Heap.get?_push_of_some _ (Heap.get?_push_size _ rfl)
  have g3 : IsPair (zh5 k1 k2 s1.heap l1 l2) (zh2 k1 k2 s1.heap l1 l2).objs.size (.ref s1.heap.objs.size) (.ref (zh1 k1 s1.heap l1).objs.size) := Heap.get?_push_of_some _ (Heap.get?_push_of_some _ (Heap.get?_push_size _ rfl))
  have g2 : (zh5 k1 k2 s1.heap l1 l2).get? (zh1 k1 s1.heap l1).objs.size = some (itObj k2 l2) := Heap.get?_push_of_some _ (Heap.get?_push_of_some _ (Heap.get?_push_of_some _ (Heap.get?_push_size _ (by cases k2 <;> rfl))))
  have g1 : (zh5 k1 k2 s1.heap l1 l2).get? s1.heap.objs.size = some (itObj k1 l1) := Heap.get?_push_of_some _ (Heap.get?_push_of_some _ (Heap.get?_push_of_some _ (Heap.get?_push_of_some _ (Heap.get?_push_size _ (by cases k1 <;> rfl)))))
  rw [z4, z2, z3] at g5
  rw [z3] at g4
  rw [z2, z1] at g3
  rw [z1] at g2
  rw [z4]
  refine wpAny_pyIter_zip g5 ?_
  have Ap : ZA (s1.heap.objs.size + 4) (s1.heap.objs.size + 2) (s1.heap.objs.size + 3) s1.heap.objs.size (s1.heap.objs.size + 1) := ⟨(by show @Ne Nat _ _; omega), (by show @Ne Nat _ _; omega), (by show @Ne Nat _ _; omega), (by show @Ne Nat _ _; omega), (by show @Ne Nat _ _; omega), (by show @Ne Nat _ _; omega), (by show @Ne Nat _ _; omega), (by show @Ne Nat _ _; omega), (by show @Ne Nat _ _; omega), (by show @Ne Nat _ _; omega)⟩
  have n1 : l1 ∉ [s1.heap.objs.size + 4, s1.heap.objs.size + 3, s1.heap.objs.size, s1.heap.objs.size + 1] := by
    simp only [List.mem_cons, List.not_mem_nil, or_false, not_or]; exact ⟨(by show ¬ @Eq Nat _ _; omega), (by show ¬ @Eq Nat _ _; omega), (by show ¬ @Eq Nat _ _; omega), (by show ¬ @Eq Nat _ _; omega)⟩
  have n2 : l2 ∉ [s1.heap.objs.size + 4, s1.heap.objs.size + 3, s1.heap.objs.size, s1.heap.objs.size + 1] := by
    simp only [List.mem_cons, List.not_mem_nil, or_false, not_or]; exact ⟨(by show ¬ @Eq Nat _ _; omega), (by show ¬ @Eq Nat _ _; omega), (by show ¬ @Eq Nat _ _; omega), (by show ¬ @Eq Nat _ _; omega)⟩
  refine ⟨s1.heap.objs.size + 4, _, _, Itz X.K k1 k2 l1 l2, H1, rfl, I1.kept (t' := s1.toks) keep, turn_zip Ap n1 n2, ⟨g5, g3, ⟨_, _, g4⟩, ?_, ?_⟩, fun b hb => ?_, q⟩
  · cases k1 with
    | true => exact ⟨_, g1, rfl, rfl⟩
    | false => exact ⟨_, g1, rfl, rfl⟩
  · cases k2 with
    | true => exact ⟨_, g2, rfl, rfl⟩
    | false => exact ⟨_, g2, rfl, rfl⟩
  · have hb' : s1.heap.objs.size ≤ b := by
      simp only [List.mem_cons, List.not_mem_nil, or_false] at hb
      rcases hb with rfl | rfl | rfl | rfl | rfl <;> (show @LE.le Nat instLENat _ _; omega)
    exact I1.fpOk hb' (I1.hok.fresh hb')
end
end DL
set_option Elab.async false
set_option linter.all false
set_option maxRecDepth 100000
namespace DL
open PySem PySem.Spec L2
open PyProof.Rows hiding St
def Ite (K : PySem.W.Frag) (a : Addr) : It :=
  ⟨fun i H => ∃ xs x, SqL K H a xs ∧ xs[i]? = some x,
   fun i H v H' => ∃ q x, H q = none ∧ v = .ref q ∧ H' = upd H q (.tup [.int i, x]) ∧ ∀ xs, SqL K H a xs → xs[i]? = some x,
   fun i H => ∃ xs, SqL K H a xs ∧ xs.length ≤ i⟩
theorem turn_enum {P : Program} {w : World} {K : PySem.W.Frag} {es : List Expr} {x1 : Nat} {tp : Pos} {l e it : Addr} (hne : e ≠ it) :
    Turn P w K (.Tuple es x1 tp) (Ite K l) [e, it] e (fun i h => (∃ old, IsEnum h e it i old) ∧ h.IsListIter it l i) where
  mem := by simp
  obj := fun i h st b hb => by
    obtain ⟨⟨old, s1⟩, s2⟩ := st
    simp only [List.mem_cons, List.not_mem_nil, or_false] at hb
    rcases hb with rfl | rfl
    · exact ⟨_, s1, fun v z => nomatch z⟩
    · obtain ⟨o, q, c, d⟩ := s2
      exact ⟨o, q, fun v z => by rw [d] at z; cases z⟩
  keep := fun i h h' st k => by
    obtain ⟨⟨old, s1⟩, s2⟩ := st
    exact ⟨⟨old, k _ (by simp) _ s1⟩, s2.at fun o q => k _ (by simp) o q⟩
  item := by
    intro X hP hw hK hc i pins s σ H E I hf st hg
    subst hP hw hK
    obtain ⟨xs, x, q1, hx⟩ := hg
    obtain ⟨its, r1, c1, z1⟩ := I.list q1
    obtain ⟨u, e1, ru⟩ := get_arr r1 hx
    obtain ⟨⟨old, s1⟩, s2⟩ := st
    refine wpAny_pyNext_enum_item s1 s2 c1.isList e1 hne fun g b1 b2 b3 b4 b5 => ⟨_, rfl, ?_⟩
    refine wpAny_letOwnedTupleGo_enum b1 fun g2 c1' sb => ?_
    have elt : e < s.heap.objs.size := Heap.lt_size s1
    have ilt : it < s.heap.objs.size := by obtain ⟨_, q, _⟩ := s2; exact Heap.lt_size q
    have keep : ∀ b o, b ∉ [e, it] → s.heap.get? b = some o → g2.get? b = some o := fun b o hb q => by
      simp only [List.mem_cons, List.not_mem_nil, or_false, not_or] at hb
      exact (sb.2 b hb.1).trans (b5 b o hb.1 hb.2 q)
    have hnew : IsTupN g2 s.heap.objs.size [.int (i : Int) s.toks, u].toArray := ⟨_, (sb.2 _ (Nat.ne_of_gt elt)).trans b3, rfl, _, rfl⟩
    have hq : H s.heap.objs.size = none := I.hok.fresh (Nat.le_refl _)
    refine ⟨.ref s.heap.objs.size, upd H s.heap.objs.size (.tup [.int i, x]), inv_drawn I hf keep (by show 2 ≤ sizeLine; decide) (.cons ⟨_, rfl⟩ (.cons ru .nil)) hnew, rfl, ⟨_, x, hq, rfl, rfl, fun xs' h => by rw [I.list_inj h q1]; exact hx⟩, ?_, fun b hb => ?_⟩
    · exact ⟨⟨_, c1'⟩, b2.at fun o q => (sb.2 _ (Ne.symm hne)).trans q⟩
    · have hb' : b < s.heap.objs.size := by
        simp only [List.mem_cons, List.not_mem_nil, or_false] at hb
        rcases hb with rfl | rfl
        · exact elt
        · exact ilt
      rw [upd_ne (Nat.ne_of_lt hb')]
      exact (hf b hb).1
  done := by
    intro X hP hw hK hc i pins s σ H E I hf st hg
    subst hP hw hK
    obtain ⟨xs, q1, hend⟩ := hg
    obtain ⟨its, r1, c1, z1⟩ := I.list q1
    obtain ⟨⟨old, s1⟩, s2⟩ := st
    have hl := r1.length
    refine wpAny_pyNext_enum_end (I.ok.hd hc) s1 s2 c1.isList (by simp; omega) fun g b7 => ⟨rfl, inv_turned (t' := s.toks) I hf fun b o hb q => ?_⟩
    simp only [List.mem_cons, List.not_mem_nil, or_false, not_or] at hb
    exact b7 b o hb.2 q
  self := fun _ _ _ _ _ st h => by obtain ⟨⟨old, s1⟩, _⟩ := st; exact wpAny_pyIter_enum s1 h
def iEnum (K : PySem.W.Frag) (ta : TA) : TI := fun σ H R => ta σ H fun vs H1 => ∃ a xs, vs = [.ref a] ∧ SqL K H1 a xs ∧ R (Ite K a) H1
section
variable {X : Cx} {Z : XC}
theorem pi_enum {es : List Expr} {x1 : Nat} {tp : Pos} {a : Expr} {ta : TA} {p pos : Pos} (hg : Gl X "enumerate") (hm : X.mg "enumerate" = none) (ha : PA X [a] ta) (hs : starEach [a] X.env = [(false, eval a X.env)] := by exact star_one rfl) (hbt : bootBuiltins "enumerate" = some (.type "enumerate") := by first | rfl | decide +kernel) :
    PI X (.Tuple es x1 tp) (.Call (.Name "enumerate" p) [a] [] pos) (iEnum X.K ta) := by
  intro pins s σ H R I h
  refine Call_ (ld_blt I hg hm hbt (PyProof.Rows.callWith_type1 (thn (ha pos pins s σ H _ I h) fun us s1 ⟨vs, H1, I1, r1, q1⟩ => ?_) hs rfl))
  obtain ⟨l, xs, rfl, q1, q⟩ := q1
  obtain ⟨u1, rfl, ru1⟩ := vals1 r1
  cases ru1
  obtain ⟨its, rr, c1, z1⟩ := I1.list q1
  refine call_enumerate_list c1.isList fun g b1 b2 b3 b4 => wpAny_pyIter_enum b1 ?_
  have hne : @Ne Nat (s1.heap.objs.size + 1) s1.heap.objs.size := by omega
  refine ⟨s1.heap.objs.size + 1, [s1.heap.objs.size + 1, s1.heap.objs.size], _, Ite X.K l, H1, rfl, I1.kept (t' := s1.toks) b4, turn_enum hne, ⟨⟨_, b1⟩, b2⟩, fun b hb => ?_, q⟩
  have hb' : s1.heap.objs.size ≤ b := by
    simp only [List.mem_cons, List.not_mem_nil, or_false] at hb
    rcases hb with rfl | rfl
    · exact Nat.le_succ _
    · exact Nat.le_refl _
  exact I1.fpOk hb' (I1.hok.fresh hb')
variable {tg e : Expr}
open Classical in
noncomputable def ckO (r : Nat) (o : DO) : DH → Bool := fun G => decide (G[r]? = some o)
noncomputable def srcM : D → M Src := fun x => match x with
  | .tup l => pure ⟨l, fun _ => true⟩
  | .ref r => do
    let o ← objM r
    let l ← listOf o
    pure ⟨l, ckO r o⟩
  | _ => M.stuck
def SrcIs (c : Wc) (μ : List Addr) (H : Hp) (k : Bool) (a : Addr) (s : Src) : Prop := ∀ μ' G' H', Ext μ H μ' H' → HRep c μ' G' H' → s.ck G' = true → ∃ vs, Sq c.K k H' a vs ∧ RepL c μ' H' s.items vs
theorem srcM_post {α : Type} {c : Wc} {μ : List Addr} {H : Hp} {G : DH} {d : D} {v : V} {f : Src → M α} {K : α → List Addr → DH → Hp → Prop} (h : HRep c μ G H) (r : RepV c μ H d v) (p : Post c Z μ H ((srcM d >>= f) G) K) :
    ∃ s k a vs, v = .ref a ∧ Sq c.K k H a vs ∧ RepL c μ H s.items vs ∧ SrcIs c μ H k a s ∧ s.ck G = true ∧ (∀ i, d = .ref i → k = false) ∧ Post c Z μ H (f s G) K := by
  cases d with
  | tup l =>
    unfold RepV at r
    obtain ⟨a, vs, rfl, q, rl⟩ := r
    exact ⟨⟨l, fun _ => true⟩, true, a, vs, rfl, q, rl, fun μ' G' H' x h' _ => ⟨vs, x.sqT q, rl.mono x⟩, rfl, (fun i z => nomatch z), p⟩
  | ref i =>
    unfold RepV at r
    obtain ⟨a, m, rfl⟩ := r
    have p' : Post c Z μ H ((objM i >>= fun o => (listOf o >>= fun l => (pure ⟨l, ckO i o⟩ : M Src)) >>= f) G) K := by rw [← M.bind_assoc]; exact p
    obtain ⟨o, g, p2⟩ := objM_post p'
    have ro := h.obj i o a g m
    have ck : ckO i o G = true := by unfold ckO; simp [g]
    cases o with
    | lst l =>
      obtain ⟨vs, q, rl⟩ := ro
      refine ⟨⟨l, ckO i (.lst l)⟩, false, a, vs, rfl, SqL.of q, rl, fun μ' G' H' x h' hck => ?_, ck, (fun _ _ => rfl), p2⟩
      have g' : G'[i]? = some (.lst l) := by unfold ckO at hck; simpa using hck
      obtain ⟨vs', q', rl'⟩ := h'.obj i _ a g' (pre_get x.pre m)
      exact ⟨vs', SqL.of q', rl'⟩
    | rol l =>
      obtain ⟨vs, q, rl⟩ := ro
      refine ⟨⟨l, ckO i (.rol l)⟩, false, a, vs, rfl, q.sq, rl, fun μ' G' H' x h' hck => ?_, ck, (fun _ _ => rfl), p2⟩
      have g' : G'[i]? = some (.rol l) := by unfold ckO at hck; simpa using hck
      obtain ⟨vs', q', rl'⟩ := h'.obj i _ a g' (pre_get x.pre m)
      exact ⟨vs', q'.sq, rl'⟩
    | dct l => exact p2.elim
    | rod l => exact p2.elim
  | _ => exact p.elim
theorem rep_get {c : Wc} {μ : List Addr} {H : Hp} {l : List D} {vs : List V} {i : Nat} {d : D} {x : V} (r : RepL c μ H l vs) (h : l[i]? = some d) (hx : vs[i]? = some x) : RepV c μ H d x := by
  obtain ⟨v, e, q⟩ := r.get h
  rw [hx] at e
  cases e
  exact q
def rangeL (lo : Int) (n : Nat) : List D := (List.range n).map fun (i : Nat) => D.int (lo + (i : Int))
def itRng1 (fs : DSt → M (List D)) : DSt → M Src := fun σ => do
  match ← fs σ with
  | [.int j] => if -(2 ^ 62) ≤ j ∧ j < 2 ^ 62 then pure ⟨rangeL 0 j.toNat, fun _ => true⟩ else M.stuck
  | _ => M.stuck
theorem itd_range {c : Wc} {μ : List Addr} {H : Hp} (lo : Int) (n : Nat) : ItD c μ H (Itr lo n) ⟨rangeL lo n, fun _ => true⟩ := fun μ' G' H' x' h' _ i => by
  refine ⟨fun d hd => ?_, fun hi => ?_⟩
  · have hi : i < n := by have := lt_of_get hd; simpa [rangeL] using this
    have e : d = .int (lo + i) := by
      unfold rangeL at hd
      rw [List.getElem?_map, List.getElem?_range hi] at hd
      simp at hd
      exact hd.symm
    subst e
    exact ⟨hi, fun x H2 ⟨e1, e2⟩ => by subst e1 e2; exact ⟨Ext.refl _ _, h', ofI⟩⟩
  · show n ≤ i
    simpa [rangeL] using hi
theorem di_rng1 {a : Expr} {fs : DSt → M (List D)} {p pos : Pos} (hg : Gl X "range") (hm : X.mg "range" = none) (ha : DA X Z [a] fs) (hs : starEach [a] X.env = [(false, eval a X.env)]) : DI X Z tg (.Call (.Name "range" p) [a] [] pos) (itRng1 fs) :=
  DI.of (pi_range1 hg hm ha.h hs) fun σ H R ⟨dσ, μ, G, s, h, p⟩ => ⟨dσ, μ, G, s, h, (Post.bind p).mono fun ds μ1 G1 H1 x1 h1 p1 vs rv => by
    split at p1
    · rename_i j
      split at p1
      · rename_i hj
        obtain ⟨v, t, rfl, r0, e⟩ := rv
        cases e
        exact ⟨j, by rw [repI r0], hj.1, hj.2, Post.ok p1 h1 _ (itd_range 0 _)⟩
      · exact p1.elim
    · exact p1.elim⟩
noncomputable def itZip (fs : DSt → M (List D)) : DSt → M Src := fun σ => do
  match ← fs σ with
  | [a, b] => do
    let s1 ← srcM a
    let s2 ← srcM b
    pure ⟨(s1.items.zip s2.items).map fun p => .tup [p.1, p.2], fun G => s1.ck G && s2.ck G⟩
  | _ => M.stuck
noncomputable def itEnum (fs : DSt → M (List D)) : DSt → M Src := fun σ => do
  match ← fs σ with
  | [.ref r] => do
    let s ← srcM (.ref r)
    pure ⟨s.items.zipIdx.map fun p => .tup [.int ((p.2 : Nat) : Int), p.1], s.ck⟩
  | _ => M.stuck
theorem new_tup {c : Wc} {μ : List Addr} {H : Hp} {G : DH} {q : Addr} {ds : List D} {vs : List V} (h : HRep c μ G H) (hq : H q = none) (r : RepL c μ H ds vs) : Ext μ H μ (upd H q (.tup vs)) ∧ HRep c μ G (upd H q (.tup vs)) ∧ RepV c μ (upd H q (.tup vs)) (.tup ds) (.ref q) := by
  have k : Ext μ H μ (upd H q (.tup vs)) := Ext.lay hq _
  refine ⟨k, h.same k fun a o e n => by rw [upd_ne (ne_of_none e hq)]; exact e, ?_⟩
  unfold RepV
  exact ⟨q, vs, rfl, SqT.of upd_same, r.mono k⟩
theorem di_zip {es : List Expr} {x1 : Nat} {tp : Pos} {a b : Expr} {fs : DSt → M (List D)} {p pos : Pos} (hg : Gl X "zip") (hm : X.mg "zip" = none) (ha : DA X Z [a, b] fs) (hs : starEach [a, b] X.env = [(false, eval a X.env), (false, eval b X.env)]) (hs2 : starEach [b] X.env = [(false, eval b X.env)]) (hbt : bootBuiltins "zip" = some (.type "zip")) :
    DI X Z (.Tuple es x1 tp) (.Call (.Name "zip" p) [a, b] [] pos) (itZip fs) :=
  DI.of (pi_zip hg hm ha.h hs hs2 hbt) fun σ H R ⟨dσ, μ, G, s, h, p⟩ => ⟨dσ, μ, G, s, h, (Post.bind p).mono fun ds μ1 G1 H1 x1 h1 p1 vs rv => by
    split at p1
    · rename_i d1 d2
      obtain ⟨v1, t1, rfl, r1, v2, t2, rfl, r2, e⟩ := rv
      cases e
      obtain ⟨s1, k1, a1, w1, rfl, q1, l1, is1, ck1, _, p2⟩ := srcM_post h1 r1 p1
      obtain ⟨s2, k2, a2, w2, rfl, q2, l2, is2, ck2, _, p3⟩ := srcM_post h1 r2 p2
      refine ⟨k1, k2, a1, a2, w1, w2, rfl, q1, q2, Post.ok p3 h1 _ fun μ' G' H' x' h' ck' i => ?_⟩
      have ck'' : s1.ck G' = true ∧ s2.ck G' = true := by simpa using ck'
      obtain ⟨u1, q1', l1'⟩ := is1 μ' G' H' x' h' ck''.1
      obtain ⟨u2, q2', l2'⟩ := is2 μ' G' H' x' h' ck''.2
      refine ⟨fun d hd => ?_, fun hi => ?_⟩
      · rw [List.getElem?_map] at hd
        cases hz : (s1.items.zip s2.items)[i]? with
        | none => rw [hz] at hd; cases hd
        | some pr =>
          rw [hz] at hd
          obtain ⟨e1, e2⟩ := pr
          have hd' : d = .tup [e1, e2] := by simpa using hd.symm
          subst hd'
          rw [List.getElem?_zip_eq_some] at hz
          obtain ⟨y1, hy1, ry1⟩ := l1'.get hz.1
          obtain ⟨y2, hy2, ry2⟩ := l2'.get hz.2
          refine ⟨⟨u1, u2, y1, y2, q1', q2', hy1, hy2⟩, fun x H2 ⟨q, z1, z2, hq, ex, eH, f1, f2⟩ => ?_⟩
          subst ex eH
          have g1 := f1 u1 q1'
          have g2 := f2 u2 q2'
          rw [hy1] at g1
          rw [hy2] at g2
          cases g1
          cases g2
          exact new_tup h' hq ⟨y1, _, rfl, ry1, y2, _, rfl, ry2, rfl⟩
      · refine ⟨u1, u2, q1', q2', ?_⟩
        rw [← l1'.length, ← l2'.length]
        simp at hi
        omega
    · exact p1.elim⟩
theorem di_enum {es : List Expr} {x1 : Nat} {tp : Pos} {a : Expr} {fs : DSt → M (List D)} {p pos : Pos} (hg : Gl X "enumerate") (hm : X.mg "enumerate" = none) (ha : DA X Z [a] fs) (hs : starEach [a] X.env = [(false, eval a X.env)]) (hbt : bootBuiltins "enumerate" = some (.type "enumerate")) :
    DI X Z (.Tuple es x1 tp) (.Call (.Name "enumerate" p) [a] [] pos) (itEnum fs) :=
  DI.of (pi_enum hg hm ha.h hs hbt) fun σ H R ⟨dσ, μ, G, s, h, p⟩ => ⟨dσ, μ, G, s, h, (Post.bind p).mono fun ds μ1 G1 H1 x1 h1 p1 vs rv => by
    split at p1
    · rename_i r
      obtain ⟨v1, t1, rfl, r1, e⟩ := rv
      cases e
      obtain ⟨s1, k1, a1, w1, rfl, q1, l1, is1, ck1, hk, p2⟩ := srcM_post h1 r1 p1
      have hk := hk r rfl
      subst hk
      refine ⟨a1, w1, rfl, q1, Post.ok p2 h1 _ fun μ' G' H' x' h' ck' i => ?_⟩
      obtain ⟨u1, q1', l1'⟩ := is1 μ' G' H' x' h' ck'
      refine ⟨fun d hd => ?_, fun hi => ?_⟩
      · rw [List.getElem?_map, List.getElem?_zipIdx] at hd
        cases hz : s1.items[i]? with
        | none => rw [hz] at hd; cases hd
        | some e1 =>
          rw [hz] at hd
          have hd' : d = .tup [.int ((i : Nat) : Int), e1] := by simpa using hd.symm
          subst hd'
          obtain ⟨y1, hy1, ry1⟩ := l1'.get hz
          refine ⟨⟨u1, y1, q1', hy1⟩, fun x H2 ⟨q, z1, hq, ex, eH, f1⟩ => ?_⟩
          subst ex eH
          have g1 := f1 u1 q1'
          rw [hy1] at g1
          cases g1
          exact new_tup h' hq ⟨_, _, rfl, ofI, y1, _, rfl, ry1, rfl⟩
      · refine ⟨u1, q1', ?_⟩
        rw [← l1'.length]
        simpa using hi
    · exact p1.elim⟩
end
end DL
set_option Elab.async false
set_option linter.all false
set_option maxRecDepth 100000
namespace DL
open PySem PySem.Spec L2
open PyProof.Rows hiding St
def lenF : List D → M D := fun ds => match ds with
  | [.str z] => if z.length ≤ sizeLine then pure (.int z.length) else M.stuck
  | [.tup l] => pure (.int l.length)
  | [.ref r] => do
    match ← objM r with
    | .lst l => pure (.int l.length)
    | .rol l => pure (.int l.length)
    | .dct l => pure (.int l.length)
    | .rod _ => M.stuck
  | _ => M.stuck
def tupleF : List D → M D := fun ds => match ds with
  | [.tup l] => pure (.tup l)
  | [.ref r] => do
    let l ← objM r >>= listOf
    pure (.tup l)
  | _ => M.stuck
def listF : List D → M D := fun ds => match ds with
  | [.tup l] => allocM (.lst l)
  | [.ref r] => do
    let l ← objM r >>= listOf
    allocM (.lst l)
  | _ => M.stuck
def intF : List D → M D := fun ds => match ds with
  | [.int i] => pure (.int i)
  | [.bl k] => pure (.int (if k then 1 else 0))
  | _ => M.stuck
def intsOf : List D → Option (List Int)
  | [] => some []
  | .int i :: r => (intsOf r).map (i :: ·)
  | _ => none
def blsOf : List D → Option (List Bool)
  | [] => some []
  | .bl b :: r => (blsOf r).map (b :: ·)
  | _ => none
def sumF : List D → M D := fun ds => match ds with
  | [.ref r] => do
    let l ← objM r >>= listOf
    let ns ← optM (intsOf l)
    pure (.int ns.sum)
  | _ => M.stuck
def allF : List D → M D := fun ds => match ds with
  | [.ref r] => do
    let l ← objM r >>= listOf
    let bs ← optM (blsOf l)
    pure (.bl (bs.all id))
  | _ => M.stuck
section
variable {X : Cx} {Z : XC} {c : Wc} {μ : List Addr} {H : Hp} {G : DH}
theorem rep1 {d : D} {vs : List V} (r : RepL c μ H [d] vs) : ∃ v, vs = [v] ∧ RepV c μ H d v := by
  obtain ⟨v, t, rfl, q, e⟩ := r
  cases e
  exact ⟨v, rfl, q⟩
theorem rep2 {d e : D} {vs : List V} (r : RepL c μ H [d, e] vs) : ∃ v w, vs = [v, w] ∧ RepV c μ H d v ∧ RepV c μ H e w := by
  obtain ⟨v, t, rfl, q, v', t', rfl, q', z⟩ := r
  cases z
  exact ⟨v, v', rfl, q, q'⟩
theorem cd_len : CallD X Z (.builtin "len") lenF := CallD.of (CallR.or call_len_seq (CallR.or call_len_str call_lenD)) fun xs H Q ⟨ds, μ, G, rl, hr, p⟩ => by
  unfold lenF at p
  split at p
  · rename_i z
    obtain ⟨v, rfl, r⟩ := rep1 rl
    split at p
    · rename_i hz
      exact .inr (.inl ⟨z, by rw [repS r], hz, Post.ok p hr _ ofI⟩)
    · exact p.elim
  · rename_i l
    obtain ⟨v, rfl, r⟩ := rep1 rl
    unfold RepV at r
    obtain ⟨a, vs, rfl, q, rl'⟩ := r
    exact .inl ⟨a, vs, rfl, .inr q, by rw [← rl'.length]; exact Post.ok p hr _ ofI⟩
  · rename_i i
    obtain ⟨v, rfl, r⟩ := rep1 rl
    unfold RepV at r
    obtain ⟨a, m, rfl⟩ := r
    obtain ⟨o, g, p1⟩ := objM_post p
    have ro := hr.obj i o a g m
    cases o with
    | lst l => obtain ⟨vs, q, rl'⟩ := ro; exact .inl ⟨a, vs, rfl, .inl (SqL.of q), by rw [← rl'.length]; exact Post.ok p1 hr _ ofI⟩
    | rol l => obtain ⟨vs, q, rl'⟩ := ro; exact .inl ⟨a, vs, rfl, .inl q.sq, by rw [← rl'.length]; exact Post.ok p1 hr _ ofI⟩
    | dct l => obtain ⟨kvs, q, rk⟩ := ro; exact .inr (.inr ⟨a, kvs, rfl, q, by rw [← rk.length]; exact Post.ok p1 hr _ ofI⟩)
    | rod l => exact p1.elim
  · exact p.elim
theorem seq_of_ref {α : Type} {r : Nat} {v : V} {f : List D → M α} {K : α → List Addr → DH → Hp → Prop} (h : HRep c μ G H) (rv : RepV c μ H (.ref r) v) (p : Post c Z μ H (((objM r >>= listOf) >>= f) G) K) :
    ∃ l a vs, v = .ref a ∧ RepL c μ H l vs ∧ SqL c.K H a vs ∧ Post c Z μ H (f l G) K := by
  obtain ⟨l, a, vs, rfl, rl, p2, hq⟩ := seqM_post (d := .ref r) (f := f) h rv p
  refine ⟨l, a, vs, rfl, rl, ?_, p2⟩
  rcases hq with ⟨z, _⟩ | ⟨_, _, _, ⟨_, q⟩ | ⟨_, q⟩⟩
  · cases z
  · exact SqL.of q
  · exact q.sq
theorem cd_tuple : CallD X Z (.type "tuple") tupleF := CallD.of call_tuple_of fun xs H Q ⟨ds, μ, G, rl, hr, p⟩ => by
  unfold tupleF at p
  split at p
  · rename_i l
    obtain ⟨v, rfl, r⟩ := rep1 rl
    have r' := r
    unfold RepV at r'
    obtain ⟨a, vs, rfl, q, rl'⟩ := r'
    exact ⟨a, vs, rfl, .inr ⟨q, Post.ok p hr _ r⟩⟩
  · rename_i i
    obtain ⟨v, rfl, r⟩ := rep1 rl
    obtain ⟨l, a, vs, rfl, rl', q, p2⟩ := seq_of_ref hr r p
    exact ⟨a, vs, rfl, .inl ⟨q, fun l' hl => post_tup hr rl' p2 l' hl⟩⟩
  · exact p.elim
theorem cd_list : CallD X Z (.type "list") listF := CallD.of call_list_of fun xs H Q ⟨ds, μ, G, rl, hr, p⟩ => by
  unfold listF at p
  split at p
  · rename_i l
    obtain ⟨v, rfl, r⟩ := rep1 rl
    unfold RepV at r
    obtain ⟨a, vs, rfl, q, rl'⟩ := r
    exact ⟨a, vs, rfl, .inr q, fun l' hl => post_lst hr rl' p l' hl⟩
  · rename_i i
    obtain ⟨v, rfl, r⟩ := rep1 rl
    obtain ⟨l, a, vs, rfl, rl', q, p2⟩ := seq_of_ref hr r p
    exact ⟨a, vs, rfl, .inl q, fun l' hl => post_lst hr rl' p2 l' hl⟩
  · exact p.elim
theorem cd_int : CallD X Z (.type "int") intF := CallD.of call_int1 fun xs H Q ⟨ds, μ, G, rl, hr, p⟩ => by
  unfold intF at p
  split at p
  · obtain ⟨v, rfl, r⟩ := rep1 rl
    exact .inl ⟨_, by rw [repI r], Post.ok p hr _ ofI⟩
  · obtain ⟨v, rfl, r⟩ := rep1 rl
    exact .inr ⟨_, by rw [repB r], Post.ok p hr _ ofI⟩
  · exact p.elim
theorem ints_vals : ∀ {l : List D} {ns : List Int} {vs : List V} {us : List Value}, intsOf l = some ns → RepL c μ H l vs → Vals vs us → us.length = ns.length ∧ ∀ (i : Nat) (u : Value), us[i]? = some u → ∃ t, u = Value.int (ns.getD i 0) t
  | [], _, _, _, e, r, q => by cases e; cases r; cases q; exact ⟨rfl, fun i u h => by simp at h⟩
  | d :: ds, ns, _, _, e, r, q => by
    obtain ⟨v, t, rfl, r0, rt⟩ := r
    cases q with
    | cons q0 qt =>
      cases d with
      | int n =>
        unfold intsOf at e
        cases h : intsOf ds with
        | none => rw [h] at e; cases e
        | some ms =>
          rw [h] at e
          cases e
          obtain ⟨h1, h2⟩ := ints_vals h rt qt
          refine ⟨by simp [h1], fun i u hu => ?_⟩
          cases i with
          | zero =>
            simp at hu; subst hu
            rw [repI r0] at q0
            exact q0
          | succ i => simpa using h2 i u (by simpa using hu)
      | _ => cases e
theorem bls_vals : ∀ {l : List D} {bs : List Bool} {vs : List V} {us : List Value}, blsOf l = some bs → RepL c μ H l vs → Vals vs us → us.length = bs.length ∧ ∀ (i : Nat) (u : Value), us[i]? = some u → u = Value.bool (bs.getD i false)
  | [], _, _, _, e, r, q => by cases e; cases r; cases q; exact ⟨rfl, fun i u h => by simp at h⟩
  | d :: ds, ns, _, _, e, r, q => by
    obtain ⟨v, t, rfl, r0, rt⟩ := r
    cases q with
    | cons q0 qt =>
      cases d with
      | bl n =>
        unfold blsOf at e
        cases h : blsOf ds with
        | none => rw [h] at e; cases e
        | some ms =>
          rw [h] at e
          cases e
          obtain ⟨h1, h2⟩ := bls_vals h rt qt
          refine ⟨by simp [h1], fun i u hu => ?_⟩
          cases i with
          | zero =>
            simp at hu; subst hu
            rw [repB r0] at q0
            exact q0
          | succ i => simpa using h2 i u (by simpa using hu)
      | _ => cases e
theorem range_all (bs : List Bool) : ((List.range bs.length).all fun i => bs.getD i false) = bs.all id := by
  induction bs with
  | nil => rfl
  | cons b t ih => rw [List.length_cons, List.range_succ_eq_map, List.all_cons, List.all_map, List.all_cons]; simp [Function.comp_def]; rw [← ih]; simp
theorem walk_list {pins : List (Addr × Obj)} {σ : St} {s : Shared} {a : Addr} {its : List Value} (hc : X.calm = true) (I : Inv X pins σ H s) (hl : s.heap.IsList a its.toArray) {Q : Value → Shared → Prop} {E : Value → Shared → Prop}
    (h : Walks X.prog X.w X.A.in1 s.heap.objs.size [s.heap.objs.size, a] [s.heap.objs.size] its.toArray.size (fun i v => its.toArray[i]? = some v) (fun i h => h.IsListIter s.heap.objs.size a i ∧ h.IsList a its.toArray) →
      ∀ h2 : Heap, (h2.IsListIter s.heap.objs.size a 0 ∧ h2.IsList a its.toArray) → (∀ b ∈ [s.heap.objs.size, a], b < h2.objs.size) → (∀ h' tk, (∀ b o, b ∉ [s.heap.objs.size] → h2.get? b = some o → h'.get? b = some o) → Inv X pins σ H { s with heap := h', toks := tk }) → Q (.ref s.heap.objs.size) { s with heap := h2 }) :
    wpAny (model X.prog X.w) X.A.in1 (pyIter (.ref a)) Q E s := by
  have hlt : a < s.heap.objs.size := by obtain ⟨_, e, _⟩ := hl; exact Heap.lt_size e
  refine wpAny_pyIter_list hl ?_
  have hh : X.A.in1.handled = none := I.ok.hd hc
  refine h (Walks.list hh s.heap.objs.size a (Nat.ne_of_lt hlt) its.toArray) _ ⟨⟨_, Heap.get?_push_size _ rfl, rfl, rfl⟩, hl.push _⟩ (fun b hb => ?_) fun h' tk k => ?_
  · rw [Heap.size_push]
    simp only [List.mem_cons, List.not_mem_nil, or_false] at hb
    rcases hb with rfl | rfl
    · exact Nat.lt_succ_self _
    · exact Nat.lt_succ_of_lt hlt
  · exact I.kept fun b o e => k b o (by simp only [List.mem_singleton]; exact Nat.ne_of_lt (Heap.lt_size e)) (Heap.get?_push_of_some _ e)
theorem cd_sum (hc : X.calm = true) : CallD X Z (.builtin "sum") sumF := ⟨by
  intro pins s σ H xs us Q I r ⟨ds, μ, G, rl, hr, p⟩
  unfold sumF at p
  split at p
  · rename_i i
    obtain ⟨v, rfl, rv⟩ := rep1 rl
    obtain ⟨u, rfl, ru⟩ := vals1 r
    obtain ⟨l, a, vs, rfl, rl', q, p2⟩ := seq_of_ref hr rv p
    cases ru
    obtain ⟨ns, en, p3⟩ := optM_post p2
    obtain ⟨its, rr, pl, hz⟩ := I.list q
    obtain ⟨h1, h2⟩ := ints_vals en rl' rr
    refine call_sum_walkG (walk_list hc I pl.isList fun W g hg hb hk => ⟨_, _, _, _, _, _, fun i => ns.getD i 0, rfl, W, hg, hb, fun i v hv => h2 i v (by simpa using hv), fun h' tk t' k => ?_⟩)
    refine ⟨.int ns.sum, H, hk h' tk k, ⟨t', ?_⟩, Post.ok p3 hr _ ofI⟩
    have e := preSum_getD ns its.toArray.size
    rw [e, List.take_of_length_le (by rw [List.size_toArray]; omega)]
  · exact p.elim⟩
theorem cd_all (hc : X.calm = true) : CallD X Z (.builtin "all") allF := ⟨by
  intro pins s σ H xs us Q I r ⟨ds, μ, G, rl, hr, p⟩
  unfold allF at p
  split at p
  · rename_i i
    obtain ⟨v, rfl, rv⟩ := rep1 rl
    obtain ⟨u, rfl, ru⟩ := vals1 r
    obtain ⟨l, a, vs, rfl, rl', q, p2⟩ := seq_of_ref hr rv p
    cases ru
    obtain ⟨bs, en, p3⟩ := optM_post p2
    obtain ⟨its, rr, pl, hz⟩ := I.list q
    obtain ⟨h1, h2⟩ := bls_vals en rl' rr
    refine call_all_walk (walk_list hc I pl.isList fun W g hg hb hk => ⟨_, _, _, _, _, _, fun i => bs.getD i false, rfl, W, hg, fun i v s' Q' E' hv hq => ?_, fun h' tk k => ?_⟩)
    · rw [h2 i v (by simpa using hv)]
      exact wpAny_truthy_bool hq
    · refine ⟨.bl (bs.all id), H, hk h' tk k, ?_, Post.ok p3 hr _ ofB⟩
      have e : its.toArray.size = bs.length := by rw [List.size_toArray]; exact h1
      rw [e, range_all]; rfl
  · exact p.elim⟩
theorem de_ty {x : Str} {n : String} {pos : Pos} (hg : Gl X x) (hm : X.mg x = none) (hv : bootBuiltins x = some (.type n)) (hn : x ≠ "__name__" := by decide) (hd : (x == ("__debug__" : Str)) = false := by decide) : DE X Z (.Name x pos) (cE (.ty n)) :=
  de_c (v := .ty n) (pe_bltn hg hm hv rfl hn hd) fun _ _ => by unfold RepV; rfl
end
end DL
set_option Elab.async false
set_option linter.all false
set_option maxRecDepth 100000
namespace DL
open PySem PySem.Spec L2
open PyProof.Rows hiding St
def truthD : D → M Bool := fun x => match x with
  | .non => pure false
  | .bl b => pure b
  | .int i => pure (i != 0)
  | .str y => if y.length ≤ sizeLine then pure ((y.length : Int) != 0) else M.stuck
  | .tup l => pure (!l.isEmpty)
  | .ref r => do
    match ← objM r with
    | .lst l => pure (!l.isEmpty)
    | .rol l => pure (!l.isEmpty)
    | .dct l => pure (!l.isEmpty)
    | .rod _ => M.stuck
  | _ => M.stuck
def truthE (f : Fe) : DSt → M Bool := fun σ => do truthD (← f σ)
section
variable {X : Cx} {Z : XC} {a b c e : Expr} {fa fb fc : Fe} {pos : Pos}
theorem repL_empty {cc : Wc} {μ : List Addr} {H : Hp} {l : List D} {vs : List V} (r : RepL cc μ H l vs) : vs.isEmpty = l.isEmpty := by
  cases l with
  | nil => cases r; rfl
  | cons _ _ => obtain ⟨_, _, rfl, _⟩ := r; rfl
theorem repK_empty {cc : Wc} {μ : List Addr} {H : Hp} {l : List (Key × D)} {vs : List (Key × V)} (r : RepK cc μ H l vs) : vs.isEmpty = l.isEmpty := by
  cases l with
  | nil => cases r; rfl
  | cons _ _ => obtain ⟨_, _, rfl, _⟩ := r; rfl
theorem dt_truth (ha : DE X Z a fa) (he : ∀ whole, isTrue a X.env whole = (do let v ← whole; standAt a.pos; holding [v] (truthy v))) : DT X Z a (truthE fa) :=
  DT.of (pt_truth ha.h he) fun σ H Q ⟨dσ, μ, G, s, h, p⟩ => ⟨dσ, μ, G, s, h, (Post.bind p).mono fun d μ1 G1 H1 x1 h1 p1 v rv => by
    cases d with
    | non => rw [repN rv]; exact ⟨false, rfl, Post.ok p1 h1⟩
    | bl b => rw [repB rv]; exact ⟨b, rfl, Post.ok p1 h1⟩
    | int b => rw [repI rv]; exact ⟨_, rfl, Post.ok p1 h1⟩
    | str y =>
      rw [repS rv]
      unfold truthD at p1
      dsimp only at p1
      split at p1
      · rename_i hz; exact ⟨_, ⟨hz, rfl⟩, Post.ok p1 h1⟩
      · exact p1.elim
    | tup l =>
      unfold RepV at rv
      obtain ⟨a, vs, rfl, q, rl⟩ := rv
      exact ⟨!vs.isEmpty, .inr (.inl ⟨vs, q, rfl⟩), by rw [repL_empty rl]; exact Post.ok p1 h1⟩
    | ref r =>
      unfold RepV at rv
      obtain ⟨a, m, rfl⟩ := rv
      obtain ⟨o, g, p2⟩ := objM_post p1
      have ro := h1.obj r o a g m
      cases o with
      | lst l => obtain ⟨vs, q, rl⟩ := ro; exact ⟨!vs.isEmpty, .inl ⟨vs, SqL.of q, rfl⟩, by rw [repL_empty rl]; exact Post.ok p2 h1⟩
      | rol l => obtain ⟨vs, q, rl⟩ := ro; exact ⟨!vs.isEmpty, .inl ⟨vs, q.sq, rfl⟩, by rw [repL_empty rl]; exact Post.ok p2 h1⟩
      | dct l => obtain ⟨vs, q, rl⟩ := ro; exact ⟨!vs.isEmpty, .inr (.inr ⟨vs, q, rfl⟩), by rw [repK_empty rl]; exact Post.ok p2 h1⟩
      | rod l => exact p2.elim
    | _ => exact p1.elim⟩
def chainE (o o' : D → D → M D) (fa fb fc : Fe) : Fe := fun σ => do
  let x ← fa σ
  let y ← fb σ
  if ← isBl (← o x y) then o' y (← fc σ) else pure (.bl false)
theorem de_chain {op op' : CmpOp} {o o' : D → D → M D} (ho : OpD X Z (compareOp op) o) (ho' : OpD X Z (compareOp op') o') (ha : DE X Z a fa) (hb : DE X Z b fb) (hc : DE X Z c fc)
    (hm : lastMarks [op, op'] [b, c] = false) : DE X Z (.Compare a [op, op'] [b, c] pos) (chainE o o' fa fb fc) :=
  DE.of (pe_chain ho.h ho'.h ha.h hb.h hc.h hm) fun σ H Q ⟨dσ, μ, G, s, h, p⟩ => ⟨dσ, μ, G, s, h, (Post.bind p).mono fun x μ1 G1 H1 x1 h1 p1 v rv =>
    ⟨dσ, μ1, G1, s.mono x1, h1, (Post.bind p1).mono fun y μ2 G2 H2 x2 h2 p2 u ru => ⟨x, y, μ2, G2, rv.mono x2, ru, h2, (Post.bind p2).mono fun z μ3 G3 H3 x3 h3 p3 w rw' => by
      obtain ⟨k, rfl, p4⟩ := isBl_post p3
      refine ⟨k, repB rw', ?_⟩
      cases k with
      | true => exact ⟨dσ, μ3, G3, s.mono (x1.trans (x2.trans x3)), h3, (Post.bind p4).mono fun t μ4 G4 H4 x4 h4 p5 q rq => ⟨y, t, μ4, G4, ru.mono (x3.trans x4), rq, h4, p5⟩⟩
      | false => exact Post.ok p4 h3 _ ofB⟩⟩⟩
end
def compOkB (osc scope : Scope) (N XN : List Str) (caps : List (Option Nat)) : Bool :=
  decide (scope.kind = .function) && scope.names.all (fun y => decide (y.2 ≠ .cell)) && scope.names.all (fun y => decide (y.2 = .local → scope.names.lookup y.1 = some .local)) &&
  scope.names.all (fun y => decide (y.2 = .free → (osc.names.lookup y.1 = some .cell ∨ osc.names.lookup y.1 = some .free))) && scope.names.all (fun y => decide (y.2 = .free → scope.names.lookup y.1 = some .free)) &&
  decide (caps.length = N.length) && (List.range caps.length).all fun i => match caps[i]? with
    | some (some j) => match N[i]?, XN[j]? with
      | some x, some y => decide (x = y) && decide ((x, NameKind.free) ∈ scope.names)
      | _, _ => false
    | _ => true
theorem CompOk.of {X : Cx} {osc scope : Scope} {N XN : List Str} {caps : List (Option Nat)} (h : compOkB osc scope N XN caps = true) (hs : X.env.scope = osc) (hN : X.N = XN) : CompOk X scope N caps := by
  unfold compOkB at h
  simp only [Bool.and_eq_true, decide_eq_true_eq, List.all_eq_true] at h
  obtain ⟨⟨⟨⟨⟨⟨h1, h2⟩, h3⟩, h4⟩, h5⟩, h6⟩, h7⟩ := h
  refine ⟨h1, h2, h3, fun y hy e => ?_, h5, h6, fun i j e => ?_⟩
  · have := h4 y hy e
    show X.env.scope.names.lookup y.1 = _ ∨ X.env.scope.names.lookup y.1 = _
    rw [hs]; exact this
  · have hi : i ∈ List.range caps.length := by rw [List.mem_range]; exact lt_of_get e
    have q := h7 i hi
    simp only [e] at q
    rw [hN]
    split at q
    · rename_i x y e1 e2
      simp only [Bool.and_eq_true, decide_eq_true_eq] at q
      exact ⟨x, e1, by rw [e2, q.1], q.2⟩
    · cases q
def bodyF (m : Nat) (fb : Fs) : List D → M D := fun ds => do
  match ← fb (ds.map some ++ List.replicate (m - ds.length) none) with
  | .nx _ => pure .non
  | .rt d => pure d
  | _ => M.stuck
structure FF (K : PySem.W.Frag) (mg : Str → Option Value) (x : Str) (st : Stmt) (ps : List Str) (f : Addr) (fd : FuncData) : Prop where
  F : Fun K x x st f fd
  b : Binds K fd ps []
  m : mg x = some (.ref f)
theorem start_rep {c : Wc} {μ : List Addr} {H : Hp} {N : List Str} {ds : List D} {vs : List V} (r : RepL c μ H ds vs) : StRep c μ H (ds.map some ++ List.replicate (N.length - ds.length) none) (L2.start N vs) := by
  unfold L2.start
  rw [r.length]
  refine ⟨by simp [r.length], fun i d e => ?_⟩
  by_cases hi : i < ds.length
  · rw [List.getElem?_append_left (by simpa using hi), List.getElem?_map] at e
    have hd : ds[i]? = some d := by
      cases h : ds[i]? with
      | none => rw [h] at e; cases e
      | some d' => rw [h] at e; simpa using e
    obtain ⟨v, hv, rv⟩ := r.get hd
    refine ⟨v, ?_, rv⟩
    rw [List.getElem?_append_left (by simp; rw [← r.length]; exact hi), List.getElem?_map, hv]
    rfl
  · rw [List.getElem?_append_right (by simpa using hi), List.getElem?_replicate] at e
    split at e <;> cases e
theorem fn_d {P : Program} {w : World} {K : PySem.W.Frag} {mg : Str → Option Value} {base : Heap} {x : Str} {st : Stmt} {f : Addr} {fd : FuncData} {N ps : List Str} {k n m : Nat} {fb : Fs} (F : FF K mg x st ps f fd) (S : FnScope N ps (defScope st)) (hn : ps.length = n) (hm : N.length = m)
    (hbody : ∀ (cdv : Value) (A : Around) (outer : List Env) (s : Shared) (H : Hp) (E : XK), Room k (A.deeper (envOfC x (defScope st) s.heap.objs.size f cdv)) → DB (cxOf CX0 P w K mg base N x (defScope st) f cdv A outer s H E).nox ZF (defBody st) fb) :
    FnOk P w K mg base CX0 (k + 1) f fd ps (spD ⟨K, mg⟩ n (bodyF m fb)) := by
  refine F.F.ok S (fun vs H Q E h => by rw [hn]; exact h.1) fun cdv A outer s H vs Q E hr h => ⟨_, (hbody cdv A outer s H E hr).h, ?_⟩
  obtain ⟨hl, ds, μ, G, rl, hG, p⟩ := h
  subst hm
  refine ⟨_, μ, G, start_rep rl, hG, (Post.bind p).mono fun fl μ1 G1 H1 x1 h1 p1 => ?_⟩
  cases fl with
  | nx dσ => exact fun σ _ => Post.ok p1 h1 _ ofN
  | rt d => exact fun v rv => Post.ok p1 h1 v rv
  | bk _ => exact p1.elim
  | ct _ => exact p1.elim
def spLaw (K : PySem.W.Frag) : Sp := fun vs H Q _ => ∃ (a : Addr) (ns : List Int), vs = [.ref a] ∧ SqL K H a (ns.map V.int) ∧ Only H ∧ ns.length ≤ 63 ∧ ∀ H', Q (.bl true) H'
theorem rep_ints {c : Wc} {μ : List Addr} {H : Hp} : ∀ ns : List Int, RepL c μ H (ns.map D.int) (ns.map V.int)
  | [] => rfl
  | n :: t => ⟨.int n, _, rfl, ofI, rep_ints t⟩
theorem law_of {P : Program} {w : World} {K : PySem.W.Frag} {mg : Str → Option Value} {base : Heap} {f : Addr} {fd : FuncData} {k : Nat} {F : List D → M D} (hF : FnOk P w K mg base CX0 k f fd ["script"] (spD ⟨K, mg⟩ 1 F))
    (pure : ∀ ns : List Int, ns.length ≤ 63 → ∃ G', F [.ref 0] [.rol (ns.map D.int)] = some (.ok (.bl true), G')) : FnOk P w K mg base CX0 k f fd ["script"] (spLaw K) :=
  hF.imp fun vs H Q E h => by
    obtain ⟨a, ns, rfl, hS, hO, hl, q⟩ := h
    obtain ⟨G', e⟩ := pure ns hl
    refine ⟨rfl, [.ref 0], [a], [.rol (ns.map D.int)], ⟨.ref a, [], rfl, by unfold RepV; exact ⟨a, rfl, rfl⟩, rfl⟩, ⟨rfl, fun i j b e1 e2 => ?_, fun i o b e1 e2 => ?_⟩, ?_⟩
    · have h1 := lt_of_get e1
      have h2 := lt_of_get e2
      simp at h1 h2
      left; omega
    · have h1 := lt_of_get e2
      simp at h1
      subst h1
      have e1' : o = .rol (ns.map D.int) := by simpa using e1.symm
      have e2' : b = a := by simpa using e2.symm
      subst e1' e2'
      refine ⟨ns.map V.int, ?_, rep_ints ns⟩
      rcases hS with (hS | ⟨o, hS⟩) | hS
      · rcases hO b with z | ⟨o, xs, z⟩
        · rw [z] at hS; cases hS
        · rw [z] at hS; cases hS
      · exact .inl ⟨o, hS⟩
      · exact .inr (.inr hS)
    · rw [e]
      exact fun μ' H' _ _ v rv => by rw [repB rv]; exact q H'
end DL
set_option Elab.async false
namespace DL
open PySem PySem.Spec L2
open PyProof.Rows hiding St
theorem bt_len : bootBuiltins "len" = some (.builtin "len") := by decide +kernel
theorem bt_isinstance : bootBuiltins "isinstance" = some (.builtin "isinstance") := by decide +kernel
theorem bt_all : bootBuiltins "all" = some (.builtin "all") := by decide +kernel
theorem bt_sum : bootBuiltins "sum" = some (.builtin "sum") := by decide +kernel
theorem bt_sorted : bootBuiltins "sorted" = some (.builtin "sorted") := by decide +kernel
theorem bt_tuple : bootBuiltins "tuple" = some (.type "tuple") := by decide +kernel
theorem bt_list : bootBuiltins "list" = some (.type "list") := by decide +kernel
theorem bt_int : bootBuiltins "int" = some (.type "int") := by decide +kernel
theorem bt_dict : bootBuiltins "dict" = some (.type "dict") := by decide +kernel
theorem bt_zip : bootBuiltins "zip" = some (.type "zip") := by decide +kernel
theorem bt_enumerate : bootBuiltins "enumerate" = some (.type "enumerate") := by decide +kernel
end DL
set_option Elab.async false
set_option linter.all false
set_option maxRecDepth 100000
namespace DL
open PySem L2
def Wp {α : Type} (m : M α) (G : DH) (Q : α → DH → Prop) : Prop := ∃ a G', m G = some (.ok a, G') ∧ Q a G'
section
variable {α β : Type} {G : DH} {Q Q' : α → DH → Prop}
theorem Wp.mono {m : M α} (h : Wp m G Q) (k : ∀ a G', Q a G' → Q' a G') : Wp m G Q' := let ⟨a, G', e, q⟩ := h; ⟨a, G', e, k a G' q⟩
theorem wp_pure {a : α} : Wp (pure a) G Q ↔ Q a G := by
  constructor
  · rintro ⟨b, G', e, q⟩
    cases e
    exact q
  · exact fun q => ⟨a, G, rfl, q⟩
theorem wp_stuck : Wp (M.stuck : M α) G Q ↔ False := by
  constructor
  · rintro ⟨b, G', e, q⟩
    cases e
  · exact False.elim
theorem wp_bind {m : M β} {f : β → M α} : Wp (m >>= f) G Q ↔ Wp m G fun a G1 => Wp (f a) G1 Q := by
  constructor
  · rintro ⟨a, G', e, q⟩
    rw [M.bind_eq] at e
    match h : m G, e with
    | some (.ok b, G1), e => exact ⟨b, G1, h, a, G', e, q⟩
  · rintro ⟨b, G1, e, a, G', e', q⟩
    exact ⟨a, G', by rw [M.bind_ok e]; exact e', q⟩
theorem wp_some {m : M α} {a : α} {G' : DH} (h : m G = some (.ok a, G')) : Wp m G Q ↔ Q a G' := ⟨fun ⟨b, G2, e, q⟩ => by rw [h] at e; cases e; exact q, fun q => ⟨a, G', h, q⟩⟩
theorem wp_opt {o : Option α} : Wp (optM o) G Q ↔ ∃ a, o = some a ∧ Q a G := by
  cases o with
  | none =>
    constructor
    · rintro ⟨_, _, e, _⟩
      cases e
    · rintro ⟨_, e, _⟩
      cases e
  | some a =>
    constructor
    · rintro ⟨_, _, e, q⟩
      cases e
      exact ⟨_, rfl, q⟩
    · rintro ⟨_, e, q⟩
      cases e
      exact ⟨_, _, rfl, q⟩
theorem wp_obj {r : Nat} {Q : DO → DH → Prop} : Wp (objM r) G Q ↔ ∃ o, G[r]? = some o ∧ Q o G := by
  constructor
  · rintro ⟨a, G', e, q⟩
    unfold objM at e
    split at e
    · rename_i o h
      cases e
      exact ⟨_, h, q⟩
    · cases e
  · rintro ⟨o, e, q⟩
    refine ⟨o, G, ?_, q⟩
    unfold objM
    simp only [e]
theorem wp_alloc {o : DO} {Q : D → DH → Prop} : Wp (allocM o) G Q ↔ Q (.ref G.length) (G ++ [o]) := wp_some rfl
theorem wp_put {r : Nat} {o : DO} {Q : Unit → DH → Prop} : Wp (putM r o) G Q ↔ Q () (G.set r o) := wp_some rfl
end
section
variable {G : DH} {σ : DSt} {Q : D → DH → Prop} {a b c : Fe} {t u : DSt → M Bool} {P : Fl → DH → Prop} {B : Bool → DH → Prop}
theorem wp_var {i : Nat} : Wp (varE i σ) G Q ↔ ∃ d, σ[i]? = some (some d) ∧ Q d G := by
  unfold varE
  constructor
  · rintro ⟨d, G', e, q⟩
    split at e
    · rename_i d' h; cases e; exact ⟨_, h, q⟩
    · cases e
  · rintro ⟨d, h, q⟩
    exact ⟨d, G, by simp only [h], q⟩
theorem wp_c {d : D} : Wp (cE d σ) G Q ↔ Q d G := wp_pure
theorem wp_bin {o : D → D → M D} : Wp (binE o a b σ) G Q ↔ Wp (a σ) G fun x G1 => Wp (b σ) G1 fun y G2 => Wp (o x y) G2 Q := by unfold binE; simp only [wp_bind]
theorem wp_un {o : D → M D} : Wp (unE o a σ) G Q ↔ Wp (a σ) G fun x G1 => Wp (o x) G1 Q := by unfold unE; simp only [wp_bind]
theorem wp_ite {α : Type} {k : Bool} {m n : M α} {R : α → DH → Prop} : Wp (if k = true then m else n) G R ↔ if k = true then Wp m G R else Wp n G R := by cases k <;> exact Iff.rfl
theorem wp_isBl {d : D} : Wp (isBl d) G B ↔ ∃ k, d = .bl k ∧ B k G := by
  constructor
  · rintro ⟨k, G', e, q⟩
    cases d with
    | bl b => cases e; exact ⟨_, rfl, q⟩
    | _ => cases e
  · rintro ⟨k, e, q⟩
    subst e
    exact ⟨k, G, rfl, q⟩
theorem wp_ifE : Wp (ifE t a b σ) G Q ↔ Wp (t σ) G fun k G1 => if k = true then Wp (a σ) G1 Q else Wp (b σ) G1 Q := by unfold ifE; simp only [wp_bind, wp_ite]
theorem wp_test : Wp (testE a σ) G B ↔ Wp (a σ) G fun x G1 => ∃ k, x = .bl k ∧ B k G1 := by unfold testE; simp only [wp_bind, wp_isBl]
theorem wp_truth : Wp (truthE a σ) G B ↔ Wp (a σ) G fun x G1 => Wp (truthD x) G1 B := by unfold truthE; simp only [wp_bind]
theorem wp_andT : Wp (andT t u σ) G B ↔ Wp (t σ) G fun k G1 => if k = true then Wp (u σ) G1 B else B false G1 := by unfold andT; simp only [wp_bind, wp_ite, wp_pure]
theorem wp_orT : Wp (orT t u σ) G B ↔ Wp (t σ) G fun k G1 => if k = true then B true G1 else Wp (u σ) G1 B := by unfold orT; simp only [wp_bind, wp_ite, wp_pure]
theorem wp_notT : Wp (notT t σ) G B ↔ Wp (t σ) G fun k G1 => B (!k) G1 := by unfold notT; simp only [wp_bind, wp_pure]
variable {R : List D → DH → Prop} {fs : DSt → M (List D)}
theorem wp_nil : Wp (q11 σ) G R ↔ R [] G := wp_pure
theorem wp_cons : Wp (q10 a fs σ) G R ↔ Wp (a σ) G fun x G1 => Wp (fs σ) G1 fun xs G2 => R (x :: xs) G2 := by unfold q10; simp only [wp_bind, wp_pure]
theorem wp_call {F : List D → M D} : Wp (q12 F fs σ) G Q ↔ Wp (fs σ) G fun ds G1 => Wp (F ds) G1 Q := by unfold q12; simp only [wp_bind]
theorem wp_noX {α : Type} {m : M α} {R : α → DH → Prop} : Wp (noX m) G R ↔ Wp m G R := by
  unfold noX
  constructor
  · rintro ⟨x, G', e, q⟩
    dsimp only at e
    split at e
    · rename_i y G1 h; cases e; exact ⟨_, _, h, q⟩
    · cases e
  · rintro ⟨x, G', e, q⟩
    exact ⟨x, G', by simp only [e], q⟩
theorem wp_fnX {n : Nat} {F : List D → M D} {ds : List D} : Wp (fnX n F ds) G Q ↔ ds.length = n ∧ Wp (F ds) G Q := by
  unfold fnX
  by_cases h : ds.length = n
  · rw [if_pos h, wp_noX]; exact ⟨fun q => ⟨h, q⟩, fun q => q.2⟩
  · rw [if_neg h]; exact ⟨fun q => (wp_stuck.mp q).elim, fun q => (h q.1).elim⟩
theorem wp_tup : Wp (tupE fs σ) G Q ↔ Wp (fs σ) G fun xs G1 => xs.length ≤ sizeLine ∧ Q (.tup xs) G1 := by
  unfold tupE
  simp only [wp_bind]
  constructor
  · rintro ⟨xs, G1, e, q⟩
    refine ⟨xs, G1, e, ?_⟩
    by_cases h : xs.length ≤ sizeLine
    · rw [if_pos h] at q; exact ⟨h, wp_pure.mp q⟩
    · rw [if_neg h] at q; exact (wp_stuck.mp q).elim
  · rintro ⟨xs, G1, e, h, q⟩
    exact ⟨xs, G1, e, by dsimp only; rw [if_pos h]; exact wp_pure.mpr q⟩
theorem wp_lst : Wp (lstE fs σ) G Q ↔ Wp (fs σ) G fun xs G1 => xs.length ≤ sizeLine ∧ Q (.ref G1.length) (G1 ++ [.lst xs]) := by
  unfold lstE
  simp only [wp_bind]
  constructor
  · rintro ⟨xs, G1, e, q⟩
    refine ⟨xs, G1, e, ?_⟩
    by_cases h : xs.length ≤ sizeLine
    · rw [if_pos h] at q; exact ⟨h, wp_alloc.mp q⟩
    · rw [if_neg h] at q; exact (wp_stuck.mp q).elim
  · rintro ⟨xs, G1, e, h, q⟩
    exact ⟨xs, G1, e, by dsimp only; rw [if_pos h]; exact wp_alloc.mpr q⟩
variable {f g : Fs} {gg : Fg}
theorem wp_next : Wp (nextS σ) G P ↔ P (.nx σ) G := wp_pure
theorem wp_seq : Wp (seqS f g σ) G P ↔ Wp (f σ) G fun fl G1 => match fl with
    | .nx σ' => Wp (g σ') G1 P
    | r => P r G1 := by
  unfold seqS
  simp only [wp_bind]
  constructor
  · rintro ⟨fl, G1, e, q⟩
    refine ⟨fl, G1, e, ?_⟩
    cases fl <;> first
      | exact q
      | exact wp_pure.mp q
  · rintro ⟨fl, G1, e, q⟩
    refine ⟨fl, G1, e, ?_⟩
    cases fl <;> first
      | exact q
      | exact wp_pure.mpr q
theorem wp_ret : Wp (retS a σ) G P ↔ Wp (a σ) G fun d G1 => P (.rt d) G1 := by unfold retS; simp only [wp_bind, wp_pure]
theorem wp_if : Wp (ifS t f g σ) G P ↔ Wp (t σ) G fun k G1 => if k = true then Wp (f σ) G1 P else Wp (g σ) G1 P := by unfold ifS; simp only [wp_bind, wp_ite]
theorem wp_asg : Wp (asgS a gg σ) G P ↔ Wp (a σ) G fun d G1 => Wp (gg d σ) G1 fun σ' G2 => P (.nx σ') G2 := by unfold asgS; simp only [wp_bind, wp_pure]
theorem wp_name {i : Nat} {d : D} {S : DSt → DH → Prop} : Wp (q13 i d σ) G S ↔ S (σ.set i (some d)) G := wp_pure
theorem wp_body {m : Nat} {ds : List D} : Wp (bodyF m f ds) G Q ↔ Wp (f (ds.map some ++ List.replicate (m - ds.length) none)) G fun fl G1 => match fl with
    | .nx _ => Q .non G1
    | .rt d => Q d G1
    | _ => False := by
  unfold bodyF
  simp only [wp_bind]
  constructor
  · rintro ⟨fl, G1, e, q⟩
    refine ⟨fl, G1, e, ?_⟩
    cases fl <;> first
      | exact wp_pure.mp q
      | exact wp_stuck.mp q
  · rintro ⟨fl, G1, e, q⟩
    refine ⟨fl, G1, e, ?_⟩
    cases fl <;> first
      | exact wp_pure.mpr q
      | exact wp_stuck.mpr q
def optB (o : Option Bool) (g : Bool → Bool) (G : DH) : Option (Except Str D × DH) := match o with
  | some b => some (.ok (.bl (g b)), G)
  | none => none
theorem optB_wp {m : M D} {o : Option Bool} {g : Bool → Bool} (h : m G = optB o g G) : Wp m G Q ↔ ∃ k, o = some k ∧ Q (.bl (g k)) G := by
  unfold Wp
  rw [h]
  cases o with
  | none =>
    constructor
    · rintro ⟨_, _, e, _⟩
      cases e
    · rintro ⟨_, e, _⟩
      cases e
  | some k =>
    constructor
    · rintro ⟨_, _, e, q⟩
      cases e
      exact ⟨_, rfl, q⟩
    · rintro ⟨_, e, q⟩
      cases e
      exact ⟨_, _, rfl, q⟩
theorem wp_eq {x y : D} : Wp (eqD x y) G Q ↔ ∃ k, eqN 40 G x y = some k ∧ Q (.bl k) G := optB_wp (g := id) rfl
theorem wp_ne {x y : D} : Wp (neD x y) G Q ↔ ∃ k, eqN 40 G x y = some k ∧ Q (.bl (!k)) G := optB_wp (g := not) rfl
theorem wp_lt {x y : D} : Wp (ltD x y) G Q ↔ ∃ k, ltN 40 G x y = some k ∧ Q (.bl k) G := optB_wp (g := id) rfl
theorem wp_isinst {d : D} {n : String} {T : Ty} (hT : Ty.of n = some T) : Wp (isinstF [d, .ty n]) G Q ↔ ∃ k, kdOf G d = some k ∧ Q (.bl (k.is T)) G := by
  have e : isinstF [d, .ty n] G = match kdOf G d with | some k => some (.ok (.bl (k.is T)), G) | none => none := by
    unfold isinstF
    simp only [hT]
    cases kdOf G d <;> rfl
  unfold Wp
  rw [e]
  cases kdOf G d with
  | none =>
    constructor
    · rintro ⟨_, _, e, _⟩
      cases e
    · rintro ⟨_, e, _⟩
      cases e
  | some k =>
    constructor
    · rintro ⟨_, _, e, q⟩
      cases e
      exact ⟨_, rfl, q⟩
    · rintro ⟨_, e, q⟩
      cases e
      exact ⟨_, _, rfl, q⟩
end
end DL
set_option Elab.async false
set_option linter.all false
set_option maxRecDepth 100000
namespace DL
open PySem PySem.Spec L2
open PyProof.Rows hiding St
section
variable {X : Cx} {Z : XC} {elt tg iter : Expr} {ifs : List Expr} {scope : Scope} {pos : Pos} {N : List Str} {caps : List (Option Nat)} {it : DSt → M Src} {gg : Fg} {tt : DSt → M Bool} {fe : Fe}
end
end DL
set_option Elab.async false
set_option linter.all false
set_option maxRecDepth 100000
namespace DL
open PySem PySem.Spec L2
open PyProof.Rows hiding St
def strsOf : List D → Option (List Str)
  | [] => some []
  | .str x :: r => (strsOf r).map (x :: ·)
  | _ => none
def keyStrs : List (Key × D) → Option (List Str)
  | [] => some []
  | (.inr x, _) :: r => (keyStrs r).map (x :: ·)
  | _ => none
def leS (a b : Str) : Bool := !decide (b.cps.toList < a.cps.toList)
def sortS (l : List Str) : List Str := l.mergeSort leS
theorem leS_iff {a b : Str} : leS a b = true ↔ a.cps.toList ≤ b.cps.toList := by unfold leS; simp
theorem leS_trans (a b c : Str) (h1 : leS a b = true) (h2 : leS b c = true) : leS a c = true := by
  rw [leS_iff] at *; exact List.le_trans h1 h2
theorem leS_total (a b : Str) : (leS a b || leS b a) = true := by
  rw [Bool.or_eq_true, leS_iff, leS_iff]; exact List.le_total _ _
theorem leS_antisymm {a b : Str} (h1 : leS a b = true) (h2 : leS b a = true) : a = b := by
  rw [leS_iff] at *
  have e : a.cps.toList = b.cps.toList := List.le_antisymm h1 h2
  cases a; cases b
  congr 1
  exact Array.toList_inj.mp e
theorem rising_pw : ∀ (l : List Str) (p : Str), risingS p l = true → (p :: l).Pairwise fun a b => leS a b = true
  | [], p, _ => by simp
  | x :: r, p, h => by
    unfold risingS at h
    rw [Bool.and_eq_true] at h
    have ih := rising_pw r x h.2
    have hpx : leS p x = true := by unfold leS; rw [← ltCps_eq]; exact h.1
    refine List.pairwise_cons.mpr ⟨fun y hy => ?_, ih⟩
    rcases List.mem_cons.mp hy with rfl | hy
    · exact hpx
    · exact leS_trans _ _ _ hpx ((List.pairwise_cons.mp ih).1 y hy)
theorem sortS_eq {l l' : List Str} (hp : l'.Perm l) (hs : sortedS l' = true) : l' = sortS l := by
  have h1 : l'.Pairwise fun a b => leS a b = true := by
    cases l' with
    | nil => simp
    | cons x r => exact rising_pw r x hs
  have h2 : (sortS l).Pairwise fun a b => leS a b = true := List.pairwise_mergeSort leS_trans leS_total l
  exact List.Perm.eq_of_pairwise (fun a b _ _ h1 h2 => leS_antisymm h1 h2) h1 h2 (hp.trans (List.mergeSort_perm l leS).symm)
section
variable {prog : Program} {w : World} {A : Around} {E : Value → Shared → Prop} {s : Shared} {T : String} {r d : Addr} {n : Nat} {P : Nat → Value → Prop} {OK : Heap → Prop} {Q : Value → Shared → Prop}
theorem sorted_src (K : PySem.W.KdlSrc prog w T r d n P OK) (hh : A.handled = none) (hok : OK s.heap) (hn : n < 64) {ss : List Str} (hP : ∀ vs : List Value, vs.length = n → (∀ (j : Nat) (v : Value), vs[j]? = some v → P j v) → StrsAre vs ss)
    (h : ∀ (h1 h' : Heap) (tk e : Nat) (out : List Value) (ss' : List Str), (∀ b o, s.heap.get? b = some o → h1.get? b = some o) → (∀ b o, h1.get? b = some o → h'.get? b = some o) → h'.get? h1.objs.size = some (seqObj "list" out.toArray e) → StrsAre out ss' → ss'.Perm ss → sortedS ss' = true → Q (.ref h1.objs.size) { s with heap := h', toks := tk }) :
    wpAny (model prog w) A (call (.builtin "sorted") [.ref r]) Q E s := by
  have hz : n ≤ sizeLine := Nat.le_trans (Nat.le_of_lt hn) (by decide)
  refine Calls.call_function_entry kind_sorted plain_sorted entry_sorted (args_sorted1 _) ?_
  unfold Builtin.«sorted»
  refine wpAny_bind (m := checkCount "sorted" 1 1 _) (wpAny_pure ?_)
  refine wpAny_bind (PySem.W.kdu_collect (A := A.in1) K hh hok hz fun h1 tk acc hk hacc => ?_)
  have hl : acc.toList.length = n := by rw [Array.length_toList]; exact hacc.1
  refine wpAny_bind (wpAny_newList ?_ (by rw [hl]; exact hz))
  have hS : StrsAre acc.toList ss := hP acc.toList hl fun j v e => hacc.2 j v (by rw [← Array.getElem?_toList]; exact e)
  have hoL : (h1.push (seqObj "list" acc.toList.toArray 0)).get? h1.objs.size = some (seqObj "list" acc.toList.toArray 0) := Heap.get?_push_size _ rfl
  refine wpAny_bind (wpAny_holding (wpAny_call_entry slot_list_sort ⟨_, hoL, rfl⟩ entry_list_sort (list_sort_treeK strKind_oneLt hoL hS.keysOf (fun v₁ v₂ rest e => keyKind_strs (by rw [← e]; exact hS)) (by rw [hl]; exact hn) fun st' a1 a2 => ⟨_, rfl, ?_⟩) (args_list_sort _)))
  obtain ⟨ss', b1, b2, b3⟩ := sorted_out_str hS a1 a2
  obtain ⟨e, he⟩ := sortedHeap_at (vs := acc.toList) (out := (arrOf st').map (·.2)) hoL
  refine wpAny_pure ⟨_, rfl, h h1 _ tk e ((arrOf st').map (·.2)).toList ss' hk (fun b o hb => ?_) (by rw [Array.toArray_toList]; exact he) b1 b2 b3⟩
  have hlt : b < h1.objs.size := Heap.lt_size hb
  rw [sortedHeap_old (Nat.ne_of_lt hlt) (by rw [size_push']; exact Nat.lt_succ_of_lt hlt), Heap.get?_push_ne _ _ _ (Nat.ne_of_lt hlt)]
  exact hb
end
def sortedF : List D → M D := fun ds => match ds with
  | [.ref r] => do
    match ← objM r with
    | .dct l => do
      let ss ← optM (keyStrs l)
      if ss.length < 64 then allocM (.lst ((sortS ss).map .str)) else M.stuck
    | _ => M.stuck
  | _ => M.stuck
section
variable {X : Cx} {Z : XC} {c : Wc} {μ : List Addr} {H : Hp} {G : DH}
theorem keyStrs_len : ∀ {l : List (Key × D)} {ss : List Str}, keyStrs l = some ss → ss.length = l.length
  | [], _, e => by cases e; rfl
  | (.inr x, _) :: r, ss, e => by
    unfold keyStrs at e
    cases h : keyStrs r with
    | none => rw [h] at e; cases e
    | some t => rw [h] at e; cases e; simp [keyStrs_len h]
  | (.inl _, _) :: _, _, e => by cases e
theorem keyStrs_vals {P : Program} {w : World} : ∀ {l : List (Key × D)} {ss : List Str} {kvs : List (Key × V)} {xs : List (Key × Value)} {vs : List Value}, keyStrs l = some ss → RepK c μ H l kvs → KV kvs xs → vs.length = xs.length →
    (∀ (j : Nat) (v : Value), vs[j]? = some v → ∃ k x, xs[j]? = some (k, x) ∧ (mixKind P w).is k v = true) → StrsAre vs ss
  | [], _, _, xs, vs, e, r, kv, hl, hv => by
    cases e; cases r; cases kv
    cases vs with
    | nil => exact .nil
    | cons _ _ => simp at hl
  | (.inr x, d) :: t, ss, kvs, xs, vs, e, r, kv, hl, hv => by
    unfold keyStrs at e
    cases h : keyStrs t with
    | none => rw [h] at e; cases e
    | some q =>
      rw [h] at e
      cases e
      obtain ⟨v0, tl, rfl, r0, rt⟩ := r
      cases kv with
      | cons hk ht =>
        cases vs with
        | nil => simp at hl
        | cons u us =>
          obtain ⟨k, y, e1, e2⟩ := hv 0 u rfl
          simp only [List.getElem?_cons_zero, Option.some.injEq] at e1
          have hk1 : (Sum.inr x : Key) = _ := hk.1
          rw [e1] at hk1
          have e3 : keyIs (.inr x) u = true := by rw [hk1]; exact e2
          rcases keyIs_shape e3 with ⟨_, _, z, _⟩ | ⟨x', t', z, eu⟩
          · cases z
          · cases z
            subst eu
            exact .cons _ _ (keyStrs_vals (P := P) (w := w) h rt ht (by simpa using hl) fun j v hj => by simpa using hv (j + 1) v (by simpa using hj))
  | (.inl _, _) :: _, _, _, _, _, e, _, _, _, _ => by cases e
theorem strs_rep : ∀ {out : List Value} {ss : List Str}, StrsAre out ss → ∃ vs, vs = ss.map V.str ∧ Vals vs out ∧ RepL c μ H (ss.map D.str) vs
  | _, _, .nil => ⟨[], rfl, .nil, rfl⟩
  | _, _, .cons x t q => by
    obtain ⟨vs, e, h1, h2⟩ := strs_rep q
    subst e
    exact ⟨_, rfl, .cons ⟨t, rfl⟩ h1, _, _, rfl, by unfold RepV; rfl, h2⟩
theorem cd_sorted (hc : X.calm = true) : CallD X Z (.builtin "sorted") sortedF := ⟨by
  intro pins s σ H xs us Q I r ⟨ds, μ, G, rl, hr, p⟩
  unfold sortedF at p
  split at p
  · rename_i i
    obtain ⟨v, rfl, rv⟩ := rep1 rl
    obtain ⟨u, rfl, ru⟩ := vals1 r
    unfold RepV at rv
    obtain ⟨a, m, rfl⟩ := rv
    cases ru
    obtain ⟨o, g, p1⟩ := objM_post p
    have ro := hr.obj i o a g m
    cases o with
    | dct l =>
      obtain ⟨kvs, q, rk⟩ := ro
      obtain ⟨ss, es, p2⟩ := optM_post p1
      split at p2
      case isFalse => exact p2.elim
      rename_i h64
      obtain ⟨z, hd, vs, rel, dd⟩ := dk_of I.hok q
      obtain ⟨ep, hat⟩ := dd.dictAt
      have hn : vs.length = ss.length := by rw [keyStrs_len es, ← rel.length, ← rk.length]
      refine sorted_src (PySem.W.kdl_dict (knd := mixKind X.prog X.w) (kvs := vs) (ep := ep) hd) (I.ok.hd hc) hat (by omega) (ss := ss) (fun us hl hu => keyStrs_vals es rk rel (by omega) hu) fun h1 h' tk e out ss' k1 k2 he hS hp hs => ?_
      have e2 := sortS_eq hp hs
      subst e2
      obtain ⟨ws, ew, rv, rl2⟩ := strs_rep (c := wc X) (μ := μ) (H := H) hS
      have I1 : Inv X pins σ H { s with heap := h1, toks := tk } := I.kept k1
      have hf := I1.hok.fresh (Nat.le_refl _)
      have hlen : ws.length ≤ sizeLine := by
        rw [ew, List.length_map]
        have := (List.mergeSort_perm ss leS).length_eq
        have e3 : (sortS ss).length = ss.length := this
        have : (64 : Nat) ≤ sizeLine := by decide
        omega
      refine ⟨.ref h1.objs.size, upd H h1.objs.size (.lst ws), I1.laid (t' := tk) k2 (Nat.le_refl _) ⟨hlen, out, e, rv, he⟩, rfl, post_lst hr rl2 p2 _ hf⟩
    | lst l => exact p1.elim
    | rod l => exact p1.elim
    | rol l => exact p1.elim
  · exact p.elim⟩
end
end DL
set_option Elab.async false
set_option linter.all false
set_option maxRecDepth 100000
namespace DL
open PySem PySem.Spec L2
open PyProof.Rows hiding St
def Its (z : Str) : It := ⟨fun i _ => ∃ c, z.cps[i]? = some c, fun i H x H' => H' = H ∧ ∃ c, z.cps[i]? = some c ∧ x = .str ⟨#[c]⟩, fun i _ => z.cps[i]? = none⟩
theorem turn_ascii {P : Program} {w : World} {K : PySem.W.Frag} {tg : Expr} (z : Str) (t : Tok) (it : Addr) : Turn P w K tg (Its z) [it] it (fun i h => h.IsStrIter it "str_ascii_iterator" z t i) where
  mem := by simp
  obj := fun i h st b hb => by
    have e : b = it := by simpa using hb
    subst e
    obtain ⟨o, e, c, d⟩ := st
    exact ⟨o, e, fun v z => by rw [d] at z; cases z⟩
  keep := fun i h h' st k => let ⟨o, ho, r⟩ := st; ⟨o, k it (by simp) o ho, r⟩
  item := by
    intro X hP hw hK hc i pins s σ H E I hf st hg
    subst hP hw hK
    obtain ⟨c, hx⟩ := hg
    obtain ⟨f0, f1, f2, f3, f4, f5⟩ := hf it (by simp)
    refine wpAny_pyNext_ascii_item st hx fun h' st' sb => ?_
    have I1 : Inv X pins σ H { s with heap := h', toks := s.toks + 1 } := I.turned (t' := s.toks + 1) (fun b o hb e => (sb.2 b hb).trans e) f0 f1 f3 f4 f5
    obtain ⟨o, e, cc, d⟩ := id st'
    exact ⟨_, rfl, go_of (s := { s with heap := h', toks := s.toks + 1 }) e cc d (by decide) ⟨.str ⟨#[c]⟩, H, I1, ⟨_, rfl⟩, ⟨rfl, c, hx, rfl⟩, st', fun b hb => (hf b hb).1⟩⟩
  done := by
    intro X hP hw hK hc i pins s σ H E I hf st hg
    subst hP hw hK
    obtain ⟨f0, f1, f2, f3, f4, f5⟩ := hf it (by simp)
    exact wpAny_pyNext_ascii_end (I.ok.hd hc) st hg fun h' eb => ⟨rfl, I.turned (t' := s.toks) (fun b o hb e => eb b o hb e) f0 f1 f3 f4 f5⟩
  self := fun _ _ _ _ _ st h => wpAny_pyIter_striter_ascii st h
theorem turn_wide {P : Program} {w : World} {K : PySem.W.Frag} {tg : Expr} (z : Str) (t : Tok) (it : Addr) : Turn P w K tg (Its z) [it] it (fun i h => h.IsStrIter it "str_iterator" z t i) where
  mem := by simp
  obj := fun i h st b hb => by
    have e : b = it := by simpa using hb
    subst e
    obtain ⟨o, e, c, d⟩ := st
    exact ⟨o, e, fun v z => by rw [d] at z; cases z⟩
  keep := fun i h h' st k => let ⟨o, ho, r⟩ := st; ⟨o, k it (by simp) o ho, r⟩
  item := by
    intro X hP hw hK hc i pins s σ H E I hf st hg
    subst hP hw hK
    obtain ⟨c, hx⟩ := hg
    obtain ⟨f0, f1, f2, f3, f4, f5⟩ := hf it (by simp)
    refine wpAny_pyNext_wide_item st hx fun h' st' sb => ?_
    have I1 : Inv X pins σ H { s with heap := h', toks := s.toks + 1 } := I.turned (t' := s.toks + 1) (fun b o hb e => (sb.2 b hb).trans e) f0 f1 f3 f4 f5
    obtain ⟨o, e, cc, d⟩ := id st'
    exact ⟨_, rfl, go_of (s := { s with heap := h', toks := s.toks + 1 }) e cc d (by decide) ⟨.str ⟨#[c]⟩, H, I1, ⟨_, rfl⟩, ⟨rfl, c, hx, rfl⟩, st', fun b hb => (hf b hb).1⟩⟩
  done := by
    intro X hP hw hK hc i pins s σ H E I hf st hg
    subst hP hw hK
    obtain ⟨f0, f1, f2, f3, f4, f5⟩ := hf it (by simp)
    exact wpAny_pyNext_wide_end (I.ok.hd hc) st hg fun h' eb => ⟨rfl, I.turned (t' := s.toks) (fun b o hb e => eb b o hb e) f0 f1 f3 f4 f5⟩
  self := fun _ _ _ _ _ st h => wpAny_pyIter_striter_wide st h
section
variable {X : Cx} {Z : XC} {tg e : Expr}
def charsD (z : Str) : List D := z.cps.toList.map fun c => .str ⟨#[c]⟩
noncomputable def srcA : D → M Src := fun x => match x with
  | .str z => pure ⟨charsD z, fun _ => true⟩
  | .tup l => srcM (.tup l)
  | .ref r => srcM (.ref r)
  | _ => M.stuck
end
end DL
set_option Elab.async false
set_option linter.all false
set_option maxRecDepth 100000
namespace DL
open PySem PySem.Spec L2
open PyProof.Rows hiding St
section
variable {X : Cx} {Z : XC} {pos p q : Pos}
end
end DL
set_option Elab.async false
set_option linter.all false
set_option maxRecDepth 100000
namespace W
open PySem PySem.Spec L2 DL
open PyProof.Rows hiding St
theorem ty_tuple : Ty.of "tuple" = some .tuple := by rfl
def There (G : DH) (d : D) : Prop := ∃ k, kdOf G d = some k
theorem st1 {d : D} {n : Nat} : ([d].map some ++ List.replicate n none : DSt)[0]? = some (some d) := by rfl
theorem isBlI {b : Bool} {P : Bool → Prop} : (∃ k, D.bl b = .bl k ∧ P k) ↔ P b := ⟨fun ⟨k, e, p⟩ => by cases e; exact p, fun p => ⟨b, rfl, p⟩⟩
theorem someI {α : Type} {b : α} {P : α → Prop} : (∃ k, some b = some k ∧ P k) ↔ P b := ⟨fun ⟨k, e, p⟩ => by cases e; exact p, fun p => ⟨b, rfl, p⟩⟩
def endD : Option Int → D
  | none => .non
  | some i => .int i
theorem ix_tup {l : List D} {i : Int} {G : DH} {Q : D → DH → Prop} : Wp (ixD (.tup l) (.int i)) G Q ↔ ∃ d, atI l i = some d ∧ Q d G := wp_opt
def ThereN : Nat → DH → D → Prop
  | 0, G, d => There G d
  | n+1, G, d => There G d ∧ ∀ l, d = .tup l → ∀ x ∈ l, ThereN n G x
theorem ThereN.there {n : Nat} {G : DH} {d : D} (h : ThereN n G d) : There G d := by cases n; exact h; exact h.1
def isTupD : D → Bool
  | .tup _ => true
  | _ => false
theorem tuple_wp {d : D} {G : DH} {Q : D → DH → Prop} (h : There G d) : Wp (isinstF [d, .ty "tuple"]) G Q ↔ Q (.bl (isTupD d)) G := by
  obtain ⟨k, h⟩ := h
  rw [wp_isinst ty_tuple]
  simp only [h, someI]
  cases d <;> simp only [kdOf] at h <;> first
    | (cases h; done)
    | (cases h; simp [Kd.is, isTupD]; done)
    | (split at h <;> first | (cases h; done) | (cases h; simp [Kd.is, isTupD]))
theorem truth_bl {b : Bool} {G : DH} {B : Bool → DH → Prop} : Wp (truthD (.bl b)) G B ↔ B b G := wp_pure
theorem len_tup {l : List D} {G : DH} {Q : D → DH → Prop} : Wp (lenF [.tup l]) G Q ↔ Q (.int l.length) G := wp_pure
theorem eq_int {i j : Int} {G : DH} {Q : D → DH → Prop} : Wp (eqD (.int i) (.int j)) G Q ↔ Q (.bl (decide (i = j))) G := by
  have e : eqN 40 G (.int i) (.int j) = some (decide (i = j)) := by rfl
  rw [wp_eq, e]; exact someI
theorem wp_is {α : Type} {m : M α} {G : DH} {x : α} (h : Wp m G fun a G' => a = x ∧ G' = G) : m G = some (.ok x, G) := by
  obtain ⟨a, G', e, e1, e2⟩ := h
  subst e1 e2
  exact e
theorem compL_map {g : Fg} {t : DSt → M Bool} {e : Fe} {ck : DH → Bool} {f : D → D} {G : DH} {I : DSt → Prop} (hck : ck G = true) : ∀ (items : List D) (σ : DSt), I σ →
    (∀ d ∈ items, ∀ σ, I σ → ∃ σ1, g d σ G = some (.ok σ1, G) ∧ I σ1 ∧ t σ1 G = some (.ok true, G) ∧ e σ1 G = some (.ok (f d), G)) → compL g t e ck items σ G = some (.ok (items.map f), G)
  | [], σ, _, _ => by unfold compL; simp only [hck, if_true, List.map]
  | d :: r, σ, i, h => by
    obtain ⟨σ1, h1, i1, h2, h3⟩ := h d (by simp) σ i
    have h4 := compL_map hck r σ1 i1 fun d hd => h d (by simp [hd])
    unfold compL
    simp only [hck, if_true]
    rw [M.bind_ok h1, M.bind_ok h2, if_pos rfl, M.bind_ok h3, M.bind_ok h4]
    rfl
theorem comp_wp {it : DSt → M Src} {caps : List (Option Nat)} {g : Fg} {t : DSt → M Bool} {e : Fe} {f : D → D} {G : DH} {σ : DSt} {s : Src} {Q : D → DH → Prop} (I : DSt → Prop) (hs : it σ G = some (.ok s, G)) (hn : s.items.length ≤ sizeLine) (hck : s.ck G = true) (hi : I (capSt caps σ))
    (h : ∀ d ∈ s.items, ∀ σ, I σ → ∃ σ1, g d σ G = some (.ok σ1, G) ∧ I σ1 ∧ t σ1 G = some (.ok true, G) ∧ e σ1 G = some (.ok (f d), G)) :
    Wp (compE it caps g t e σ) G Q ↔ Q (.ref G.length) (G ++ [.lst (s.items.map f)]) := by
  unfold compE
  simp only [wp_bind]
  rw [wp_some hs, if_pos hn]
  simp only [wp_bind, wp_noX]
  rw [wp_some (compL_map hck s.items _ hi h), wp_alloc]
theorem bls_map {α : Type} {f : α → Bool} : ∀ l : List α, blsOf (l.map fun x => D.bl (f x)) = some (l.map f)
  | [] => rfl
  | a :: r => by simp only [List.map, blsOf, bls_map r, Option.map]
theorem all_wp {G : DH} {r : Nat} {l : List D} {f : D → Bool} {Q : D → DH → Prop} (h : G[r]? = some (.lst (l.map fun x => .bl (f x)))) : Wp (allF [.ref r]) G Q ↔ Q (.bl (l.all f)) G := by
  unfold allF
  simp only [wp_bind, wp_obj, h, someI, DL.listOf, wp_pure, wp_opt, bls_map]
  simp [List.all_map, Function.comp_def]
theorem lt_int {i j : Int} {G : DH} {Q : D → DH → Prop} : Wp (ltD (.int i) (.int j)) G Q ↔ Q (.bl (decide (i < j))) G := by
  have e : ltN 40 G (.int i) (.int j) = some (decide (i < j)) := by rfl
  rw [wp_lt, e]; exact someI
theorem add_int {i j : Int} {G : DH} {Q : D → DH → Prop} : Wp (addD (.int i) (.int j)) G Q ↔ Q (.int (i + j)) G := wp_pure
theorem at0 {a b : D} : atI [a, b] 0 = some a := by rfl
theorem at1 {a b : D} : atI [a, b] 1 = some b := by rfl
theorem cut_1 (l : List D) : DL.cutD l (some 1) none = l.drop 1 := by
  unfold DL.cutD
  rw [HT.sIx_none, show (some (1 : Int)) = some ((1 : Nat) : Int) from rfl, HT.sIx_nat]
  cases l with
  | nil => rfl
  | cons a r => simp [List.length_cons]
section
variable {G : DH} {σ : DSt} {P : Fl → DH → Prop} {g : Fg} {b : Fs} {ck : DH → Bool}
theorem wp_forN : Wp (forL g b ck [] σ) G P ↔ ck G = true ∧ P (.nx σ) G := by
  unfold forL
  constructor
  · rintro ⟨a, G', e, q⟩
    by_cases h : ck G = true
    · simp only [h, if_true] at e; cases e; exact ⟨h, q⟩
    · simp only [h] at e; cases e
  · rintro ⟨h, q⟩
    exact ⟨_, G, by simp only [h, if_true], q⟩
theorem wp_forC {d : D} {r : List D} : Wp (forL g b ck (d :: r) σ) G P ↔ ck G = true ∧ Wp (g d σ) G fun σ1 G1 => Wp (b σ1) G1 fun fl G2 => match fl with
    | .nx σ' => Wp (forL g b ck r σ') G2 P
    | .ct σ' => Wp (forL g b ck r σ') G2 P
    | .bk σ' => P (.nx σ') G2
    | .rt d => P (.rt d) G2 := by
  have e : Wp (forL g b ck (d :: r) σ) G P ↔ ck G = true ∧ Wp (do
      match ← b (← g d σ) with
      | .nx σ' => forL g b ck r σ'
      | .ct σ' => forL g b ck r σ'
      | .bk σ' => pure (.nx σ')
      | .rt d => pure (.rt d) : M Fl) G P := by
    rw [forL]
    constructor
    · rintro ⟨a, G', e, q⟩
      by_cases h : ck G = true
      · simp only [h, if_true] at e; exact ⟨h, a, G', e, q⟩
      · simp only [h] at e; cases e
    · rintro ⟨h, a, G', e, q⟩
      exact ⟨a, G', by simp only [h, if_true]; exact e, q⟩
  rw [e]
  simp only [wp_bind]
  refine and_congr_right fun _ => ?_
  constructor
  · rintro ⟨σ1, G1, e1, fl, G2, e2, q⟩
    refine ⟨σ1, G1, e1, fl, G2, e2, ?_⟩
    cases fl <;> first
      | exact q
      | exact wp_pure.mp q
  · rintro ⟨σ1, G1, e1, fl, G2, e2, q⟩
    refine ⟨σ1, G1, e1, fl, G2, e2, ?_⟩
    cases fl <;> first
      | exact q
      | exact wp_pure.mpr q
theorem wp_for {it : DSt → M Src} : Wp (forS it g b σ) G P ↔ Wp (it σ) G fun s G1 => Wp (forL g b s.ck s.items σ) G1 P := by unfold forS; simp only [wp_bind]
end
theorem sub_int {i j : Int} {G : DH} {Q : D → DH → Prop} : Wp (subD (.int i) (.int j)) G Q ↔ Q (.int (i - j)) G := wp_pure
theorem atI_nat {l : List D} {k : Nat} {s : D} (h : l[k]? = some s) : atI l (k : Int) = some s := by
  have hk : k < l.length := by
    by_cases hk : k < l.length
    · exact hk
    · rw [List.getElem?_eq_none (by omega)] at h; cases h
  unfold atI ixN
  rw [if_pos (by omega), if_pos (by omega)]
  simpa using h
section
variable {G : DH} {σ : DSt} {Q : D → DH → Prop}
theorem mod_int {i j : Int} (h : 0 < j) : Wp (modD (.int i) (.int j)) G Q ↔ Q (.int (i % j)) G := by
  have e : modD (.int i) (.int j) = if 0 < j then pure (.int (i % j)) else M.stuck := rfl
  rw [e, if_pos h]; exact wp_pure
theorem fdiv_int {i j : Int} (h : 0 < j ∧ j < 2 ^ 100) : Wp (fdivD (.int i) (.int j)) G Q ↔ Q (.int (i / j)) G := by
  have e : fdivD (.int i) (.int j) = if CDivB i j then pure (.int (i / j)) else M.stuck := rfl
  rw [e, if_pos (show CDivB i j from h)]; exact wp_pure
theorem mul_int {i j : Int} (h : CMul i j) : Wp (mulD (.int i) (.int j)) G Q ↔ Q (.int (i * j)) G := by
  have e : mulD (.int i) (.int j) = if CMul i j then pure (.int (i * j)) else M.stuck := rfl
  rw [e, if_pos h]; exact wp_pure
theorem ix_lst {r : Nat} {l : List D} {i : Int} (h : G[r]? = some (.lst l)) : Wp (ixD (.ref r) (.int i)) G Q ↔ ∃ d, atI l i = some d ∧ Q d G := by
  have e : ixD (.ref r) (.int i) = (do
    let l ← objM r >>= DL.listOf
    optM (atI l i)) := rfl
  rw [e]
  simp only [wp_bind, wp_obj, h, someI, DL.listOf, wp_pure, wp_opt]
theorem set_lst {r : Nat} {l : List D} {k : Int} {j : Nat} {d : D} {R : Unit → DH → Prop} (h : G[r]? = some (.lst l)) (hj : ixN l.length k = some j) : Wp (setD (.ref r) (.int k) d) G R ↔ R () (G.set r (.lst (l.set j d))) := by
  unfold setD
  simp only [wp_bind, wp_obj, h, someI, hj, wp_put]
theorem wp_sub {fo fi : Fe} {d : D} {S : DSt → DH → Prop} : Wp (subG fo fi d σ) G S ↔ Wp (fo σ) G fun o G1 => Wp (fi σ) G1 fun i G2 => Wp (setD o i d) G2 fun _ G3 => S σ G3 := by
  unfold subG; simp only [wp_bind, wp_pure]
end
def Hand (G : DH) (r : Nat) : Prop := ∃ a b c e : Int, G[r]? = some (.lst [.int a, .int b, .int c, .int e]) ∧ 0 ≤ b ∧ b < 2 ^ 40
theorem at4 {a b c e : D} : atI [a, b, c, e] 0 = some a ∧ atI [a, b, c, e] 1 = some b ∧ atI [a, b, c, e] 2 = some c := ⟨rfl, rfl, rfl⟩
def Fr (r : Nat) (G G' : DH) : Prop := G.length ≤ G'.length ∧ (∀ i, i ≠ r → i < G.length → G'[i]? = G[i]?) ∧ Hand G' r
theorem Hand.lt {G : DH} {r : Nat} (h : Hand G r) : r < G.length := by
  obtain ⟨a, b, c, e, hr, _⟩ := h
  by_cases hi : r < G.length
  · exact hi
  · rw [List.getElem?_eq_none (by omega)] at hr; cases hr
theorem Hand.app {G t : DH} {r : Nat} (h : Hand G r) : Hand (G ++ t) r := by
  have hl := h.lt
  obtain ⟨a, b, c, e, hr, hb⟩ := h
  exact ⟨a, b, c, e, by rw [List.getElem?_append_left hl]; exact hr, hb⟩
theorem Fr.refl {r : Nat} {G : DH} (h : Hand G r) : Fr r G G := ⟨Nat.le_refl _, fun _ _ _ => rfl, h⟩
theorem Fr.trans {r : Nat} {G G1 G2 : DH} (h : Fr r G G1) (k : Fr r G1 G2) : Fr r G G2 :=
  ⟨Nat.le_trans h.1 k.1, fun i hi hl => by rw [k.2.1 i hi (by have := h.1; omega), h.2.1 i hi hl], k.2.2⟩
theorem Fr.app {r : Nat} {G t : DH} (h : Hand G r) : Fr r G (G ++ t) := ⟨by simp, fun i _ hl => List.getElem?_append_left hl, h.app⟩
theorem Fr.set {r : Nat} {G : DH} {o : DO} (h : Hand (G.set r o) r) : Fr r G (G.set r o) := ⟨by simp, fun i hi hl => by rw [List.getElem?_set_ne (Ne.symm hi)], h⟩
theorem atI_some {l : List D} {k : Int} (h0 : 0 ≤ k) (h1 : k < l.length) : ∃ d, d ∈ l ∧ atI l k = some d := by
  obtain ⟨n, rfl⟩ := Int.eq_ofNat_of_zero_le h0
  have hn : n < l.length := by omega
  exact ⟨l[n], List.getElem_mem hn, atI_nat (List.getElem?_eq_getElem hn)⟩
theorem sz {l : List D} (h : Nat.ble l.length 100 = true := by rfl) : l.length ≤ sizeLine := Nat.le_trans (Nat.le_of_ble_eq_true h) (by decide)
theorem Fr.lt {r : Nat} {G G' : DH} (h : Fr r G G') : r < G'.length := h.2.2.lt
theorem Fr.at {r p : Nat} {G G' : DH} {o : DO} (h : Fr r G G') (hp : p ≠ r) (e : G[p]? = some o) : G'[p]? = some o := by
  have hl : p < G.length := by
    by_cases hi : p < G.length
    · exact hi
    · rw [List.getElem?_eq_none (by omega)] at e; cases e
  rw [h.2.1 p hp hl]; exact e
theorem app_at {G t : DH} {k : Nat} : (G ++ t)[G.length + k]? = t[k]? := by
  rw [List.getElem?_append_right (by omega)]; congr 1; omega
theorem app_at0 {G t : DH} : (G ++ t)[G.length]? = t[0]? := app_at (k := 0)
section
variable {G : DH} {σ : DSt} {Q : D → DH → Prop}
theorem tuple_lst {r : Nat} {l : List D} (h : G[r]? = some (.lst l)) : Wp (tupleF [.ref r]) G Q ↔ Q (.tup l) G := by
  have e : tupleF [.ref r] = (do
    let l ← objM r >>= DL.listOf
    pure (.tup l)) := rfl
  rw [e]
  simp only [wp_bind, wp_obj, h, someI, DL.listOf, wp_pure]
theorem list_tup {l : List D} : Wp (listF [.tup l]) G Q ↔ Q (.ref G.length) (G ++ [.lst l]) := wp_alloc
theorem rng1 {fs : DSt → M (List D)} {R : Src → DH → Prop} : Wp (itRng1 fs σ) G R ↔ Wp (fs σ) G fun xs G1 => Wp (match xs with
    | [.int j] => if -(2 ^ 62) ≤ j ∧ j < 2 ^ 62 then pure ⟨rangeL 0 j.toNat, fun _ => true⟩ else M.stuck
    | _ => M.stuck : M Src) G1 R := by
  unfold itRng1; simp only [wp_bind] <;> rfl
theorem rng1_int {j : Int} {R : Src → DH → Prop} (h : -(2 ^ 62) ≤ j ∧ j < 2 ^ 62) : Wp (match [D.int j] with
    | [.int j] => if -(2 ^ 62) ≤ j ∧ j < 2 ^ 62 then pure ⟨rangeL 0 j.toNat, fun _ => true⟩ else M.stuck
    | _ => M.stuck : M Src) G R ↔ R ⟨rangeL 0 j.toNat, fun _ => true⟩ G := by
  show Wp (if -(2 ^ 62) ≤ j ∧ j < 2 ^ 62 then pure ⟨rangeL 0 j.toNat, fun _ => true⟩ else M.stuck : M Src) G R ↔ _
  rw [if_pos h]; exact wp_pure
theorem wp_tupG {n : Nat} {g : Fgs} {l : List D} {S : DSt → DH → Prop} (h : l.length = n) : Wp (tupG n g (.tup l) σ) G S ↔ Wp (g l σ) G S := by
  have e : tupG n g (.tup l) σ = if l.length = n then g l σ else M.stuck := rfl
  rw [e, if_pos h]
theorem wp_tup2 {g : Fgs} {a b : D} {S : DSt → DH → Prop} : Wp (tupG 2 g (.tup [a, b]) σ) G S ↔ Wp (g [a, b] σ) G S := wp_tupG rfl
theorem wp_consG {g : Fg} {t : Fgs} {d : D} {l : List D} {S : DSt → DH → Prop} : Wp (consG g t (d :: l) σ) G S ↔ Wp (g d σ) G fun σ1 G1 => Wp (t l σ1) G1 S := by
  have e : consG g t (d :: l) σ = (do t l (← g d σ)) := rfl
  rw [e]; simp only [wp_bind]
theorem wp_nilG {S : DSt → DH → Prop} : Wp (nilG [] σ) G S ↔ S σ G := wp_pure
theorem add_lst {i j : Nat} {a b : List D} (ha : G[i]? = some (.lst a)) (hb : G[j]? = some (.lst b)) (hl : a.length + b.length ≤ sizeLine) : Wp (addD (.ref i) (.ref j)) G Q ↔ Q (.ref G.length) (G ++ [.lst (a ++ b)]) := by
  have e : addD (.ref i) (.ref j) = (do
    match ← objM i, ← objM j with
    | .lst a, .lst b => if a.length + b.length ≤ sizeLine then allocM (.lst (a ++ b)) else M.stuck
    | _, _ => M.stuck) := rfl
  rw [e]
  simp only [wp_bind, wp_obj, ha, hb, someI, if_pos hl, wp_alloc]
theorem add_tup {a b : List D} (hl : a.length + b.length ≤ sizeLine) : Wp (addD (.tup a) (.tup b)) G Q ↔ Q (.tup (a ++ b)) G := by
  have e : addD (.tup a) (.tup b) = if a.length + b.length ≤ sizeLine then pure (.tup (a ++ b)) else M.stuck := rfl
  rw [e, if_pos hl]; exact wp_pure
theorem wp_noPart {R : Option Int → DH → Prop} : Wp (noPart σ) G R ↔ R none G := wp_pure
theorem wp_part {f : Fe} {R : Option Int → DH → Prop} : Wp (partO f σ) G R ↔ Wp (f σ) G fun x G1 => ∃ i, x = .int i ∧ R (some i) G1 := by
  unfold partO
  simp only [wp_bind]
  constructor
  · rintro ⟨x, G1, e, q⟩
    refine ⟨x, G1, e, ?_⟩
    cases x with
    | int i => exact ⟨i, rfl, wp_pure.mp q⟩
    | _ => exact (wp_stuck.mp q).elim
  · rintro ⟨x, G1, e, i, rfl, q⟩
    exact ⟨_, G1, e, wp_pure.mpr q⟩
theorem sl_tup {l : List D} {lo hi : Option Int} : Wp (slD (.tup l) lo hi) G Q ↔ Q (.tup (DL.cutD l lo hi)) G := wp_pure
theorem wp_newDict : Wp (newDictE σ) G Q ↔ Q (.ref G.length) (G ++ [.dct []]) := wp_alloc
theorem intI {i : Int} {P : Int → Prop} : (∃ k, D.int i = .int k ∧ P k) ↔ P i := ⟨fun ⟨k, e, p⟩ => by cases e; exact p, fun p => ⟨i, rfl, p⟩⟩
end
def PairD (d : D) : Prop := ∃ x y : Option Int, d = .tup [endD x, endD y]
def Fr2 (r p : Nat) (G G' : DH) : Prop := G.length ≤ G'.length ∧ (∀ i, i ≠ r → i ≠ p → i < G.length → G'[i]? = G[i]?) ∧ Hand G' r
theorem Fr2.trans {r p : Nat} {G G1 G2 : DH} (h : Fr2 r p G G1) (k : Fr2 r p G1 G2) : Fr2 r p G G2 :=
  ⟨Nat.le_trans h.1 k.1, fun i hi hp hl => by rw [k.2.1 i hi hp (by have := h.1; omega), h.2.1 i hi hp hl], k.2.2⟩
theorem Fr.two {r p : Nat} {G G1 : DH} (h : Fr r G G1) : Fr2 r p G G1 := ⟨h.1, fun i hi _ hl => h.2.1 i hi hl, h.2.2⟩
theorem Fr2.set {r p : Nat} {G : DH} {o : DO} (hp : p ≠ r) (h : Hand G r) : Fr2 r p G (G.set p o) := by
  refine ⟨by simp, fun i _ hi hl => by rw [List.getElem?_set_ne (Ne.symm hi)], ?_⟩
  obtain ⟨a, b, c, e, hr, hb⟩ := h
  exact ⟨a, b, c, e, by rw [List.getElem?_set_ne hp]; exact hr, hb⟩
theorem ne_nil {G : DH} {p q : Nat} {xs : List D} {Q : D → DH → Prop} (e : G[p]? = some (.lst xs)) (eq : G[q]? = some (.lst [])) : Wp (neD (.ref p) (.ref q)) G Q ↔ Q (.bl (!xs.isEmpty)) G := by
  have h : eqN 40 G (.ref p) (.ref q) = some xs.isEmpty := by
    have h1 : seqK G (.ref p) = some (false, xs) := by simp only [seqK, e]
    have h2 : seqK G (.ref q) = some (false, []) := by simp only [seqK, eq]
    rw [eqN, h1, h2]
    cases xs <;> rfl
  rw [wp_ne, h]; exact someI
theorem PairD.set {xs : List D} {j : Nat} {d : D} (h : ∀ d ∈ xs, PairD d) (hd : PairD d) : ∀ x ∈ xs.set j d, PairD x := fun x hx => by
  rcases List.mem_or_eq_of_mem_set hx with hx | rfl
  · exact h x hx
  · exact hd
theorem app_one {G : DH} {o : DO} : (G ++ [o])[G.length]? = some o := app_at0
theorem at_app {G t : DH} {p : Nat} {o : DO} (e : G[p]? = some o) : (G ++ t)[p]? = some o := by
  have hlt : p < G.length := by
    by_cases hi : p < G.length
    · exact hi
    · rw [List.getElem?_eq_none (by omega)] at e; cases e
  rw [List.getElem?_append_left hlt]; exact e
def okD : D → Bool
  | .non => true
  | .bl _ => true
  | .int _ => true
  | .str _ => true
  | .tup _ => true
  | _ => false
theorem okD_end (x : Option Int) : okD (endD x) = true := by cases x <;> rfl
theorem There_ok {G : DH} {d : D} (h : okD d = true) : There G d := by
  cases d <;> first | exact ⟨_, rfl⟩ | cases h
theorem okT1 {G : DH} {l : List D} (h : ∀ x ∈ l, okD x = true) : ThereN 1 G (.tup l) := ⟨⟨_, rfl⟩, fun l' e x hx => by cases e; exact There_ok (h x hx)⟩
theorem PairD.there {G : DH} {d : D} (h : PairD d) : ThereN 1 G d := by
  obtain ⟨x, y, rfl⟩ := h
  exact okT1 fun z hz => by
    simp only [List.mem_cons, List.not_mem_nil, or_false] at hz
    rcases hz with rfl | rfl <;> exact okD_end _
def Gr (G G' : DH) : Prop := G.length ≤ G'.length ∧ ∀ i, i < G.length → G'[i]? = G[i]?
theorem Gr.refl {G : DH} : Gr G G := ⟨Nat.le_refl _, fun _ _ => rfl⟩
theorem Gr.trans {G G1 G2 : DH} (h : Gr G G1) (k : Gr G1 G2) : Gr G G2 := ⟨Nat.le_trans h.1 k.1, fun i hi => by rw [k.2 i (by have := h.1; omega), h.2 i hi]⟩
theorem Gr.app {G t : DH} : Gr G (G ++ t) := ⟨by simp, fun i hi => List.getElem?_append_left hi⟩
theorem Gr.of {r : Nat} {G G1 G2 : DH} (h : Gr G G1) (f : Fr r G1 G2) (hr : G.length ≤ r) : Gr G G2 := ⟨Nat.le_trans h.1 f.1, fun i hi => by rw [f.2.1 i (by omega) (by have := h.1; omega), h.2 i hi]⟩
theorem Gr.at {p : Nat} {G G' : DH} {o : DO} (h : Gr G G') (e : G[p]? = some o) : G'[p]? = some o := by
  have hl : p < G.length := by
    by_cases hi : p < G.length
    · exact hi
    · rw [List.getElem?_eq_none (by omega)] at e; cases e
  rw [h.2 p hl]; exact e
theorem ints_map : ∀ ns : List Int, intsOf (ns.map D.int) = some ns
  | [] => rfl
  | a :: r => by simp only [List.map, intsOf, ints_map r, Option.map]
theorem sum_rol {G : DH} {p : Nat} {ns : List Int} {Q : D → DH → Prop} (e : G[p]? = some (.rol (ns.map D.int))) : Wp (sumF [.ref p]) G Q ↔ Q (.int ns.sum) G := by
  have h : sumF [.ref p] = (do
    let l ← objM p >>= DL.listOf
    let ns ← optM (intsOf l)
    pure (.int ns.sum)) := rfl
  rw [h]
  simp only [wp_bind, wp_obj, e, someI, DL.listOf, wp_pure, wp_opt, ints_map]
theorem ne_nilR {G : DH} {p q : Nat} {xs : List D} {Q : D → DH → Prop} (e : G[p]? = some (.rol xs)) (eq : G[q]? = some (.lst [])) : Wp (neD (.ref p) (.ref q)) G Q ↔ Q (.bl (!xs.isEmpty)) G := by
  have h : eqN 40 G (.ref p) (.ref q) = some xs.isEmpty := by
    have h1 : seqK G (.ref p) = some (false, xs) := by simp only [seqK, e]
    have h2 : seqK G (.ref q) = some (false, []) := by simp only [seqK, eq]
    rw [eqN, h1, h2]
    cases xs <;> rfl
  rw [wp_ne, h]; exact someI
theorem seq_ref {G : DH} {σ : DSt} {p : Nat} {l : List D} {R : Src → DH → Prop} (e : G[p]? = some (.lst l)) : Wp (srcM (.ref p)) G R ↔ R ⟨l, ckO p (.lst l)⟩ G := by
  have h : srcM (.ref p) = (do
    let o ← objM p
    let l ← DL.listOf o
    pure ⟨l, ckO p o⟩) := rfl
  rw [h]
  simp only [wp_bind, wp_obj, e, someI, DL.listOf, wp_pure]
theorem cut_map (ns : List Int) (lo hi : Option Int) : ∃ cs : List Int, DL.cutD (ns.map D.int) lo hi = cs.map D.int ∧ cs.length ≤ ns.length := by
  refine ⟨(ns.drop (HT.sIx ns.length 0 lo)).take (HT.sIx ns.length ns.length hi - HT.sIx ns.length 0 lo), ?_, ?_⟩
  · unfold DL.cutD
    rw [List.length_map, List.map_take, List.map_drop]
  · rw [List.length_take, List.length_drop]; omega
theorem sl_rol {G : DH} {p : Nat} {l : List D} {lo hi : Option Int} {Q : D → DH → Prop} (e : G[p]? = some (.rol l)) : Wp (slD (.ref p) lo hi) G Q ↔ Q (.ref G.length) (G ++ [.lst (DL.cutD l lo hi)]) := by
  have h : slD (.ref p) lo hi = (do
    let l ← objM p >>= DL.listOf
    allocM (.lst (DL.cutD l lo hi))) := rfl
  rw [h]
  simp only [wp_bind, wp_obj, e, someI, DL.listOf, wp_pure, wp_alloc]
theorem enum_ref {G : DH} {σ : DSt} {fs : DSt → M (List D)} {R : Src → DH → Prop} : Wp (itEnum fs σ) G R ↔ Wp (fs σ) G fun xs G1 => Wp (match xs with
    | [.ref r] => do
      let s ← srcM (.ref r)
      pure ⟨s.items.zipIdx.map fun p => .tup [.int ((p.2 : Nat) : Int), p.1], s.ck⟩
    | _ => M.stuck : M Src) G1 R := by
  unfold itEnum; simp only [wp_bind] <;> rfl
theorem enum_one {G : DH} {p : Nat} {l : List D} {R : Src → DH → Prop} (e : G[p]? = some (.lst l)) : Wp (match [D.ref p] with
    | [.ref r] => do
      let s ← srcM (.ref r)
      pure ⟨s.items.zipIdx.map fun p => .tup [.int ((p.2 : Nat) : Int), p.1], s.ck⟩
    | _ => M.stuck : M Src) G R ↔ R ⟨l.zipIdx.map fun p => .tup [.int ((p.2 : Nat) : Int), p.1], ckO p (.lst l)⟩ G := by
  show Wp (do
      let s ← srcM (.ref p)
      pure ⟨s.items.zipIdx.map fun p => .tup [.int ((p.2 : Nat) : Int), p.1], s.ck⟩ : M Src) G R ↔ _
  simp only [wp_bind]
  rw [seq_ref (σ := []) e]
  exact wp_pure
end W
set_option Elab.async false
set_option linter.all false
set_option maxRecDepth 100000
namespace W
open PySem PySem.Spec L2 DL
open PyProof.Rows hiding St
section
variable {G : DH} {σ : DSt} {Q : D → DH → Prop}
theorem wp_chain {o o' : D → D → M D} {a b c : Fe} : Wp (chainE o o' a b c σ) G Q ↔ Wp (a σ) G fun x G1 => Wp (b σ) G1 fun y G2 => Wp (o x y) G2 fun z G3 => ∃ k, z = .bl k ∧ if k = true then Wp (c σ) G3 fun w G4 => Wp (o' y w) G4 Q else Q (.bl false) G3 := by
  unfold chainE; simp only [wp_bind, wp_isBl, wp_ite, wp_pure]
theorem wp_trueT {B : Bool → DH → Prop} : Wp (trueT σ) G B ↔ B true G := wp_pure
variable {g : Fg} {t : DSt → M Bool} {e : Fe} {ck : DH → Bool} {R : List D → DH → Prop}
theorem wp_compN : Wp (compL g t e ck [] σ) G R ↔ ck G = true ∧ R [] G := by
  unfold compL
  constructor
  · rintro ⟨a, G', e, q⟩
    by_cases h : ck G = true
    · simp only [h, if_true] at e; cases e; exact ⟨h, q⟩
    · simp only [h] at e; cases e
  · rintro ⟨h, q⟩
    exact ⟨_, G, by simp only [h, if_true], q⟩
theorem wp_compC {d : D} {r : List D} : Wp (compL g t e ck (d :: r) σ) G R ↔ ck G = true ∧ Wp (g d σ) G fun σ1 G1 => Wp (t σ1) G1 fun b G2 => if b = true then Wp (e σ1) G2 fun y G3 => Wp (compL g t e ck r σ1) G3 fun ys G4 => R (y :: ys) G4 else Wp (compL g t e ck r σ1) G2 R := by
  have h0 : Wp (compL g t e ck (d :: r) σ) G R ↔ ck G = true ∧ Wp (do
      let σ1 ← g d σ
      if ← t σ1 then do
        let y ← e σ1
        let ys ← compL g t e ck r σ1
        pure (y :: ys)
      else compL g t e ck r σ1 : M (List D)) G R := by
    rw [compL]
    constructor
    · rintro ⟨a, G', e, q⟩
      by_cases h : ck G = true
      · simp only [h, if_true] at e; exact ⟨h, a, G', e, q⟩
      · simp only [h] at e; cases e
    · rintro ⟨h, a, G', e, q⟩
      exact ⟨a, G', by simp only [h, if_true]; exact e, q⟩
  rw [h0]
  simp only [wp_bind, wp_ite, wp_pure]
theorem wp_comp {it : DSt → M Src} {caps : List (Option Nat)} : Wp (compE it caps g t e σ) G Q ↔ Wp (it σ) G fun s G1 => s.items.length ≤ sizeLine ∧ Wp (compL g t e s.ck s.items (capSt caps σ)) G1 fun ys G2 => Q (.ref G2.length) (G2 ++ [.lst ys]) := by
  unfold compE
  simp only [wp_bind]
  constructor
  · rintro ⟨s, G1, e1, q⟩
    refine ⟨s, G1, e1, ?_⟩
    by_cases h : s.items.length ≤ sizeLine
    · rw [if_pos h] at q
      simp only [wp_bind, wp_noX, wp_alloc] at q
      exact ⟨h, q⟩
    · rw [if_neg h] at q; exact (wp_stuck.mp q).elim
  · rintro ⟨s, G1, e1, h, q⟩
    refine ⟨s, G1, e1, ?_⟩
    dsimp only
    rw [if_pos h]
    simp only [wp_bind, wp_noX, wp_alloc]
    exact q
theorem comp_filter {p : D → Bool} {G : DH} (hck : ck G = true) (S : DSt → Prop) : ∀ (items : List D) (σ : DSt), S σ →
    (∀ d ∈ items, ∀ σ, S σ → ∃ σ1, g d σ G = some (.ok σ1, G) ∧ S σ1 ∧ t σ1 G = some (.ok (p d), G) ∧ e σ1 G = some (.ok d, G)) → compL g t e ck items σ G = some (.ok (items.filter p), G)
  | [], σ, _, _ => by unfold compL; simp only [hck, if_true, List.filter_nil]
  | d :: r, σ, i, h => by
    obtain ⟨σ1, h1, i1, h2, h3⟩ := h d (by simp) σ i
    have h4 := comp_filter hck S r σ1 i1 fun d hd => h d (by simp [hd])
    unfold compL
    simp only [hck, if_true]
    rw [M.bind_ok h1, M.bind_ok h2]
    by_cases hp : p d = true
    · rw [if_pos hp, M.bind_ok h3, M.bind_ok h4, List.filter_cons_of_pos hp]
      rfl
    · rw [if_neg hp, h4, List.filter_cons_of_neg hp]
end
section
variable {G : DH} {σ : DSt} {Q : D → DH → Prop}
theorem ty_str : Ty.of "str" = some .str := by rfl
def isStrD : D → Bool
  | .str _ => true
  | _ => false
theorem str_wp {d : D} (h : There G d) : Wp (isinstF [d, .ty "str"]) G Q ↔ Q (.bl (isStrD d)) G := by
  obtain ⟨k, h⟩ := h
  rw [wp_isinst ty_str]
  simp only [h, someI]
  cases d <;> simp only [kdOf] at h <;> first
    | (cases h; done)
    | (cases h; simp [Kd.is, isStrD]; done)
    | (split at h <;> first | (cases h; done) | (cases h; simp [Kd.is, isStrD]))
theorem eq_str {a b : Str} : Wp (eqD (.str a) (.str b)) G Q ↔ Q (.bl (a == b)) G := by
  have e : eqN 40 G (.str a) (.str b) = some (a == b) := by rfl
  rw [wp_eq, e]; exact someI
theorem ne_str {a b : Str} : Wp (neD (.str a) (.str b)) G Q ↔ Q (.bl (!(a == b))) G := by
  have e : eqN 40 G (.str a) (.str b) = some (a == b) := by rfl
  rw [wp_ne, e]; exact someI
theorem le_str' {a b : Str} : Wp (leD (.str a) (.str b)) G Q ↔ Q (.bl (!decide (b.cps.toList < a.cps.toList))) G := wp_pure
theorem add_str' {a b : Str} (h : a.length + b.length ≤ sizeLine) : Wp (addD (.str a) (.str b)) G Q ↔ Q (.str (a ++ b)) G := by
  have e : addD (.str a) (.str b) = if a.length + b.length ≤ sizeLine then pure (.str (a ++ b)) else M.stuck := rfl
  rw [e, if_pos h]; exact wp_pure
theorem len_str' {z : Str} (h : z.length ≤ sizeLine) : Wp (lenF [.str z]) G Q ↔ Q (.int z.length) G := by
  have e : lenF [.str z] = if z.length ≤ sizeLine then pure (.int z.length) else M.stuck := rfl
  rw [e, if_pos h]; exact wp_pure
theorem wp_notIn {x y : D} : Wp (notInD x y) G Q ↔ ∃ k, inB x y G = some k ∧ Q (.bl (!k)) G := optB_wp (g := not) (by unfold notInD optB; cases inB x y G <;> rfl)
theorem wp_in {x y : D} : Wp (inD x y) G Q ↔ ∃ k, inB x y G = some k ∧ Q (.bl k) G := optB_wp (g := id) (by unfold inD optB; cases inB x y G <;> rfl)
theorem srcA_ref {p : Nat} {l : List D} {R : Src → DH → Prop} (e : G[p]? = some (.lst l)) : Wp (srcA (.ref p)) G R ↔ R ⟨l, ckO p (.lst l)⟩ G := seq_ref (σ := []) e
end
def letP (c : Nat) : Bool := decide (97 ≤ c) && decide (c ≤ 122)
def textP (z : Str) : Bool := z.cps.toList.all letP
abbrev alpha : Str := "abcdefghijklmnopqrstuvwxyz"
theorem le_a (c : Nat) : (!decide ((⟨#[c]⟩ : Str).cps.toList < ("a" : Str).cps.toList)) = decide (97 ≤ c) := by
  have e : ("a" : Str).cps.toList = [97] := by rfl
  rw [e]
  show (!decide ([c] < [97])) = _
  by_cases h : 97 ≤ c
  · have : ¬ c < 97 := by omega
    simp [h, List.cons_lt_cons_iff, this]
  · have : c < 97 := by omega
    simp [h, List.cons_lt_cons_iff, this]
theorem le_z (c : Nat) : (!decide (("z" : Str).cps.toList < (⟨#[c]⟩ : Str).cps.toList)) = decide (c ≤ 122) := by
  have e : ("z" : Str).cps.toList = [122] := by rfl
  rw [e]
  show (!decide ([122] < [c])) = _
  by_cases h : c ≤ 122
  · have : ¬ 122 < c := by omega
    simp [h, List.cons_lt_cons_iff, this]
  · have : 122 < c := by omega
    simp [h, List.cons_lt_cons_iff, this]
end W
set_option Elab.async false
set_option linter.all false
set_option maxRecDepth 100000
namespace DL
open PySem PySem.Spec L2
open PyProof.Rows hiding St
section
variable {prog : Program} {w : World} {A : Around} {E : Value → Shared → Prop} {s : Shared} {I l : Addr} {items : Array Value}
end
section
variable {X : Cx} {Z : XC} {e : Expr} {fa : Fe} {p1 p2 pos1 pos2 : Pos}
end
end DL
set_option Elab.async false
set_option linter.all false
set_option maxRecDepth 100000
namespace DL
open PySem PySem.Spec L2 Builtin Builtin.Str
open PyProof.Rows hiding St
section
variable {X : Cx} {Z : XC} {e : Expr} {fa : Fe} {p2 pos : Pos} {lo hi : Option Expr} {fl fh : Fo}
theorem part_of {v : Value} {o : Option Int} (p : IsPart v o) : ∃ l : Option (Int × Tok), v = partValue l ∧ l.map (·.1) = o := by
  cases p with
  | none => exact ⟨none, rfl, rfl⟩
  | int i t => exact ⟨some (i, t), rfl, rfl⟩
theorem sl_str : SlR X (fun x lo hi H Q => ∃ z, x = .str z ∧ z.length ≤ sizeLine ∧ Q (.str (Txt.slice z lo hi)) H) := by
  intro pins s σ H x v vl vu lo hi sl Q I rx hs pl pu h
  obtain ⟨z, rfl, hz, q⟩ := h
  obtain ⟨t, rfl⟩ := rx
  obtain ⟨l, el, eml⟩ := part_of pl
  obtain ⟨u, eu, emu⟩ := part_of pu
  subst el eu eml emu
  refine ⟨"str", _, PySem.F.slot_str_getitem.lookup, typeIs_str _ z t, ?_⟩
  refine wpAny_getItem_str_slice (l := l) (u := u) (st := none) (let ⟨o, h1, h2, h3⟩ := hs; ⟨o, h1, h2, h3⟩) rfl ?_
  unfold sliceMade
  unfold Txt.slice at q
  unfold slicePicked
  have e1 : ((Option.map (fun x : Int × Tok => x.1) none).getD 1) = (1 : Int) := rfl
  simp only [e1]
  by_cases hc : ((1 : Int) == 1 && (strSliceIndices (l.map (·.1)) (u.map (·.1)) 1 z.length).length == z.length) = true
  · rw [if_pos hc] at q
    rw [if_pos hc]
    exact ⟨.str z, H, I, ⟨t, rfl⟩, q⟩
  · rw [if_neg hc] at q
    rw [if_neg hc]
    refine ⟨?_, .str _, H, I.tok _, ⟨_, rfl⟩, q⟩
    have hle := Txt.slice_le z (l.map (·.1)) (u.map (·.1))
    unfold Txt.slice at hle
    rw [if_neg hc] at hle
    exact Nat.le_trans hle hz
def slT : D → Option Int → Option Int → M D := fun x lo hi => match x with
  | .str z => if z.length ≤ sizeLine then pure (.str (Txt.slice z lo hi)) else M.stuck
  | .tup l => slD (.tup l) lo hi
  | .ref r => slD (.ref r) lo hi
  | _ => M.stuck
def sliceT (f : Fe) (lo hi : Fo) : Fe := fun σ => do
  let x ← f σ
  let l ← lo σ
  let h ← hi σ
  slT x l h
theorem sd_slT : SlD X Z slT := SlR.mono (sl_str.or (sd_sl (Z := Z))) fun x lo hi H Q ⟨dx, μ, G, rx, hr, p⟩ => by
  cases dx with
  | str z =>
    unfold slT at p
    dsimp only at p
    split at p
    · rename_i hz
      exact .inl ⟨z, repS rx, hz, Post.ok p hr _ (by unfold RepV; rfl)⟩
    · exact p.elim
  | tup l => exact .inr ⟨.tup l, μ, G, rx, hr, p⟩
  | ref r => exact .inr ⟨.ref r, μ, G, rx, hr, p⟩
  | _ => exact p.elim
theorem de_sliceT (he : DE X Z e fa) (hl : DOp X Z lo fl) (hu : DOp X Z hi fh) : DE X Z (.Subscript e (.Slice lo hi none p2) pos) (sliceT fa fl fh) :=
  DE.of (pe_slice sd_slT he.h hl.h hu.h) fun σ H Q ⟨dσ, μ, G, s, h, p⟩ => ⟨dσ, μ, G, s, h, (Post.bind p).mono fun d μ1 G1 H1 x1 h1 p1 v rv =>
    ⟨dσ, μ1, G1, s.mono x1, h1, (Post.bind p1).mono fun l μ2 G2 H2 x2 h2 p2 => ⟨dσ, μ2, G2, s.mono (x1.trans x2), h2, (Post.bind p2).mono fun u μ3 G3 H3 x3 h3 p3 => ⟨d, μ3, G3, rv.mono (x2.trans x3), h3, p3⟩⟩⟩⟩
end
end DL
set_option Elab.async false
set_option linter.all false
set_option maxRecDepth 100000
namespace DL
open PySem PySem.Spec L2 Builtin Builtin.Str
open PyProof.Rows hiding St
section
variable {X : Cx} {Z : XC} {e : Expr} {fa : Fe} {p2 pos : Pos}
end
end DL
set_option Elab.async false
set_option linter.all false
set_option maxRecDepth 100000
namespace W
open PySem PySem.Spec L2 DL Builtin Builtin.Str
open PyProof.Rows hiding St
section
variable {G : DH} {σ : DSt} {Q : D → DH → Prop}
theorem wp_sliceT {f : Fe} {lo hi : Fo} : Wp (sliceT f lo hi σ) G Q ↔ Wp (f σ) G fun x G1 => Wp (lo σ) G1 fun l G2 => Wp (hi σ) G2 fun h G3 => Wp (slT x l h) G3 Q := by
  unfold sliceT; simp only [wp_bind]
end
end W
set_option Elab.async false
set_option linter.all false
set_option maxRecDepth 100000
namespace DL
open PySem PySem.Spec L2
open PyProof.Rows hiding St
def notCD : D → D → M D := fun x y => match y with
  | .non => pure (.bl (!isNonD x))
  | .bl c => match x with
    | .bl d => pure (.bl (d != c))
    | _ => M.stuck
  | _ => M.stuck
def orVE (a b : Fe) : Fe := fun σ => do
  let x ← a σ
  if ← truthD x then pure x else b σ
def andVE (a b : Fe) : Fe := fun σ => do
  let x ← a σ
  if ← truthD x then b σ else pure x
section
variable {X : Cx} {Z : XC} {a b : Expr} {fa fb : Fe} {pos : Pos}
theorem op_isnotB : OpR X (compareOp .IsNot) (fun x y H Q => (y = .non ∧ Q (.bl (!decide (x = .non))) H) ∨ ∃ c d, x = .bl c ∧ y = .bl d ∧ Q (.bl (c != d)) H) := by
  intro pins s σ H x y v u Q I rx ry h
  rcases h with h | ⟨c, d, rfl, rfl, q⟩
  · exact op_notN pins s σ H x y v u Q I rx ry h
  · cases rx
    cases ry
    exact isnot_bool ⟨.bl (c != d), H, I, rfl, q⟩
theorem od_isnotC : OpD X Z (compareOp .IsNot) notCD := OpD.of op_isnotB fun x y H Q ⟨dx, dy, μ, G, rdx, rdy, hr, p⟩ => by
  cases dy with
  | non => exact .inl ⟨repN rdy, by rw [rep_non rdx]; exact Post.ok p hr _ ofB⟩
  | bl d =>
    cases dx with
    | bl c => exact .inr ⟨c, d, repB rdx, repB rdy, Post.ok p hr _ ofB⟩
    | _ => exact p.elim
  | _ => exact p.elim
theorem truthD_post {α : Type} {μ : List Addr} {H : Hp} {G : DH} {d : D} {v : V} {f : Bool → M α} {K : α → List Addr → DH → Hp → Prop} (h : HRep (wc X) μ G H) (rv : RepV (wc X) μ H d v) (p : Post (wc X) Z μ H ((truthD d >>= f) G) K) :
    ∃ k, TruV X.K v H k ∧ Post (wc X) Z μ H (f k G) K := by
  have p1 := Post.bind p
  cases d with
  | non => rw [repN rv]; exact ⟨false, rfl, Post.ok p1 h⟩
  | bl b => rw [repB rv]; exact ⟨b, rfl, Post.ok p1 h⟩
  | int b => rw [repI rv]; exact ⟨_, rfl, Post.ok p1 h⟩
  | str y =>
    rw [repS rv]
    unfold truthD at p1
    dsimp only at p1
    split at p1
    · rename_i hz; exact ⟨_, ⟨hz, rfl⟩, Post.ok p1 h⟩
    · exact p1.elim
  | tup l =>
    unfold RepV at rv
    obtain ⟨a, vs, rfl, q, rl⟩ := rv
    exact ⟨!vs.isEmpty, .inr (.inl ⟨vs, q, rfl⟩), by rw [repL_empty rl]; exact Post.ok p1 h⟩
  | ref r =>
    unfold RepV at rv
    obtain ⟨a, m, rfl⟩ := rv
    obtain ⟨o, g, p2⟩ := objM_post p1
    have ro := h.obj r o a g m
    cases o with
    | lst l => obtain ⟨vs, q, rl⟩ := ro; exact ⟨!vs.isEmpty, .inl ⟨vs, SqL.of q, rfl⟩, by rw [repL_empty rl]; exact Post.ok p2 h⟩
    | rol l => obtain ⟨vs, q, rl⟩ := ro; exact ⟨!vs.isEmpty, .inl ⟨vs, q.sq, rfl⟩, by rw [repL_empty rl]; exact Post.ok p2 h⟩
    | dct l => obtain ⟨vs, q, rl⟩ := ro; exact ⟨!vs.isEmpty, .inr (.inr ⟨vs, q, rfl⟩), by rw [repK_empty rl]; exact Post.ok p2 h⟩
    | rod l => exact p2.elim
  | _ => exact p1.elim
theorem de_orV {rest : List Expr} (ha : DE X Z a fa) (hb : DE X Z (.BoolOp .Or (b :: rest) pos) fb) : DE X Z (.BoolOp .Or (a :: b :: rest) pos) (orVE fa fb) := by
  refine ⟨?_⟩
  intro pins s σ H Q I ⟨dσ, μ, G, sr, h, p⟩
  refine BoolOp_or (thn (ha.h pins s σ H _ I ⟨dσ, μ, G, sr, h, (Post.bind p).mono fun d μ1 G1 H1 x1 h1 p1 v rv => (⟨d, μ1, G1, x1, rv, h1, p1⟩ : ∃ d μ1 G1, Ext μ H μ1 H1 ∧ RepV (wc X) μ1 H1 d v ∧ HRep (wc X) μ1 G1 H1 ∧ Post (wc X) Z μ1 H1 ((truthD d >>= fun k => if k = true then pure d else fb dσ) G1) fun d μ' _ H' => ∀ v, RepV (wc X) μ' H' d v → Q v H')⟩) fun v s1 ⟨x, H1, I1, r1, d, μ1, G1, x1, rd, h1, p1⟩ => ?_)
  obtain ⟨k, tk, p2⟩ := truthD_post h1 rd p1
  refine thn (tru_ok pins s1 σ H1 x v (fun c H' => c = k ∧ H' = H1) I1 r1 ⟨k, tk, rfl, rfl⟩) fun c s2 ⟨H2, I2, e1, e2⟩ => ?_
  subst e1 e2
  cases c with
  | true => exact ⟨x, H2, I2, r1, Post.ok p2 h1 _ rd⟩
  | false => exact hb.h pins s2 σ H2 Q I2 ⟨dσ, μ1, G1, sr.mono x1, h1, p2⟩
theorem de_andV {rest : List Expr} (ha : DE X Z a fa) (hb : DE X Z (.BoolOp .And (b :: rest) pos) fb) : DE X Z (.BoolOp .And (a :: b :: rest) pos) (andVE fa fb) := by
  refine ⟨?_⟩
  intro pins s σ H Q I ⟨dσ, μ, G, sr, h, p⟩
  refine BoolOp_and (thn (ha.h pins s σ H _ I ⟨dσ, μ, G, sr, h, (Post.bind p).mono fun d μ1 G1 H1 x1 h1 p1 v rv => (⟨d, μ1, G1, x1, rv, h1, p1⟩ : ∃ d μ1 G1, Ext μ H μ1 H1 ∧ RepV (wc X) μ1 H1 d v ∧ HRep (wc X) μ1 G1 H1 ∧ Post (wc X) Z μ1 H1 ((truthD d >>= fun k => if k = true then fb dσ else pure d) G1) fun d μ' _ H' => ∀ v, RepV (wc X) μ' H' d v → Q v H')⟩) fun v s1 ⟨x, H1, I1, r1, d, μ1, G1, x1, rd, h1, p1⟩ => ?_)
  obtain ⟨k, tk, p2⟩ := truthD_post h1 rd p1
  refine thn (tru_ok pins s1 σ H1 x v (fun c H' => c = k ∧ H' = H1) I1 r1 ⟨k, tk, rfl, rfl⟩) fun c s2 ⟨H2, I2, e1, e2⟩ => ?_
  subst e1 e2
  cases c with
  | false => exact ⟨x, H2, I2, r1, Post.ok p2 h1 _ rd⟩
  | true => exact hb.h pins s2 σ H2 Q I2 ⟨dσ, μ1, G1, sr.mono x1, h1, p2⟩
end
end DL
namespace W
open PySem PySem.Spec L2 DL
open PyProof.Rows hiding St
section
variable {G : DH} {σ : DSt} {Q : D → DH → Prop} {a b : Fe}
theorem wp_orV : Wp (orVE a b σ) G Q ↔ Wp (a σ) G fun x G1 => Wp (truthD x) G1 fun k G2 => if k = true then Q x G2 else Wp (b σ) G2 Q := by unfold orVE; simp only [wp_bind, wp_ite, wp_pure]
theorem wp_andV : Wp (andVE a b σ) G Q ↔ Wp (a σ) G fun x G1 => Wp (truthD x) G1 fun k G2 => if k = true then Wp (b σ) G2 Q else Q x G2 := by unfold andVE; simp only [wp_bind, wp_ite, wp_pure]
theorem notC_bl {c d : Bool} : Wp (notCD (.bl c) (.bl d)) G Q ↔ Q (.bl (c != d)) G := wp_pure
end
end W
set_option Elab.async false
set_option linter.all false
set_option maxRecDepth 100000
namespace DL
open PySem PySem.Spec L2
open PyProof.Rows hiding St
structure CalleeOk (F : List D → M D) (n : Nat) (x : Str) (P : Program) (w : World) (K : PySem.W.Frag) (mg : Str → Option Value) (base : Heap) (k : Nat) : Prop where
  ex : ∃ f fd ps, FnOk P w K mg base CX0 k f fd ps (spD ⟨K, mg⟩ n F) ∧ mg x = some (.ref f) ∧ PySem.W.keepIn K (.ref f) = true ∧ Binds K fd ps []
theorem CalleeOk.of {P : Program} {w : World} {K : PySem.W.Frag} {mg : Str → Option Value} {base : Heap} {k n : Nat} {x : Str} {st : Stmt} {ps : List Str} {f : Addr} {fd : FuncData} {F : List D → M D} (c : FF K mg x st ps f fd) (h : FnOk P w K mg base CX0 k f fd ps (spD ⟨K, mg⟩ n F)) : CalleeOk F n x P w K mg base k :=
  ⟨f, fd, ps, h, c.m, c.F.kp, c.b⟩
def bltL : List Str := ["len", "isinstance", "all", "any", "sum", "min", "max", "abs", "sorted", "tuple", "list", "int", "str", "bool", "dict", "zip", "enumerate", "range", "reversed"]
structure BLs (mg : Str → Option Value) : Prop where
  h : ∀ b ∈ bltL, mg b = none
theorem any_backTo {p : Pos} {l : List (Bool × Sem Value)} : (backTo p l).any (·.1) = l.any (·.1) := by
  unfold backTo
  rw [List.any_map]
  rfl
theorem star_all {env : Env} : ∀ {es : List Expr}, es.all notStar = true → (starEach es env).any (·.1) = false
  | [], _ => rfl
  | e :: es, h => by
    rw [List.all_cons, Bool.and_eq_true] at h
    rw [q14 h.1, List.any_cons, star_all h.2]
    rfl
section
variable {X : Cx} {Z : XC} {a b c e : Expr} {es : List Expr} {fa fb fc : Fe} {fs : DSt → M (List D)} {pos p : Pos} {x : Str}
theorem dg_nm {i : Nat} (hN : ∃ N ps sc, FnScope N ps sc ∧ X.N = N) (hi : X.N[i]? = some x) (hx : Loc X.env.scope x) (hf : X.fn x = true ∨ X.env.scope.names.lookup x = some .local) : DG X Z (.Name x pos) (q13 i) := by
  obtain ⟨N, ps, sc, S, e⟩ := hN
  exact dg_name (by rw [e]; exact S.nd) hi hx hf
theorem da_c (ha : DE X Z e fa) (hr : DA X Z es fs) (hs : notStar e = true) : DA X Z (e :: es) (q10 fa fs) := q15 ha hr (q14 hs)
theorem de_callC {F : List D → M D} {n : Nat} (hF : ∃ k kk, CalleeOk F n x X.prog X.w X.K X.mg X.base k ∧ Room kk X.A ∧ k ≤ kk) (hg : Gl X x) (ha : DA X Z (e :: es) fs) (hdb : (x == ("__debug__" : Str)) = false) (hs : (e :: es).all notStar = true) :
    DE X Z (.Call (.Name x p) (e :: es) [] pos) (q12 (fnX n F) fs) := by
  obtain ⟨k, kk, hF, hr, hk⟩ := hF
  obtain ⟨f, fd, ps, h1, h2, h3, h4⟩ := hF.ex
  rw [List.all_cons, Bool.and_eq_true] at hs
  exact de_call h1 (hr.mono hk) hg h2 h3 h4 ha hdb (q14 hs.1) (by rw [any_backTo]; exact star_all hs.2)
structure BD (F : List D → M D) (x : Str) (X : Cx) (Z : XC) : Prop where
  ex : (∃ id, CallD X Z (.builtin id) F ∧ bootBuiltins x = some (.builtin id)) ∨ (∃ T, CallD X Z (.type T) F ∧ bootBuiltins x = some (.type T))
theorem de_blt {F : List D → M D} (hc : X.calm = true) (hF : X.calm = true → BD F x X Z) (hb : BLs X.mg) (hx : bltL.elem x = true) (hg : Gl X x) (ha : DA X Z (e :: es) fs) (hn : x ≠ "__name__") (hdb : (x == ("__debug__" : Str)) = false) (hs : (e :: es).all notStar = true) :
    DE X Z (.Call (.Name x p) (e :: es) [] pos) (q12 F fs) := by
  have hm := hb.h x (List.elem_iff.mp hx)
  rw [List.all_cons, Bool.and_eq_true] at hs
  rcases (hF hc).ex with ⟨id, h1, h2⟩ | ⟨T, h1, h2⟩
  · exact de_callB h1 hg hm h2 ha hn hdb (q14 hs.1) (by rw [any_backTo]; exact star_all hs.2)
  · exact de_callTy h1 hg hm h2 ha hn hdb (q14 hs.1) (by rw [any_backTo]; exact star_all hs.2)
theorem bd_len (_ : X.calm = true) : BD lenF "len" X Z := ⟨.inl ⟨_, cd_len, bt_len⟩⟩
theorem bd_isinstance (_ : X.calm = true) : BD isinstF "isinstance" X Z := ⟨.inl ⟨_, cd_isinst, bt_isinstance⟩⟩
theorem bd_all (h : X.calm = true) : BD allF "all" X Z := ⟨.inl ⟨_, cd_all h, bt_all⟩⟩
theorem bd_sum (h : X.calm = true) : BD sumF "sum" X Z := ⟨.inl ⟨_, cd_sum h, bt_sum⟩⟩
theorem bd_tuple (_ : X.calm = true) : BD tupleF "tuple" X Z := ⟨.inr ⟨_, cd_tuple, bt_tuple⟩⟩
theorem bd_list (_ : X.calm = true) : BD listF "list" X Z := ⟨.inr ⟨_, cd_list, bt_list⟩⟩
theorem bd_int (_ : X.calm = true) : BD intF "int" X Z := ⟨.inr ⟨_, cd_int, bt_int⟩⟩
theorem bt_type : ∀ n ∈ ["int", "bool", "str", "tuple", "list", "dict"], bootBuiltins (Str.ofString n) = some (.type n) := by decide +kernel
theorem de_tyN {n : String} (hb : BLs X.mg) (hn : n ∈ ["int", "bool", "str", "tuple", "list", "dict"]) (hx : bltL.elem (Str.ofString n) = true) (hg : Gl X (Str.ofString n)) (hnn : Str.ofString n ≠ "__name__") (hd : (Str.ofString n == ("__debug__" : Str)) = false) : DE X Z (.Name (Str.ofString n) pos) (cE (.ty n)) :=
  de_ty hg (hb.h _ (List.elem_iff.mp hx)) (bt_type n hn) hnn hd
variable {tg : Expr} {tp : Pos} {x1 : Nat} {es1 : List Expr}
theorem di_r1 (hb : BLs X.mg) (hg : Gl X "range") (ha : DA X Z [a] fs) (hs : notStar a = true) : DI X Z tg (.Call (.Name "range" p) [a] [] pos) (itRng1 fs) := di_rng1 hg (hb.h _ (by decide +kernel)) ha (star_one hs)
theorem di_z (hb : BLs X.mg) (hg : Gl X "zip") (ha : DA X Z [a, b] fs) (hs : notStar a = true) (hs2 : notStar b = true) : DI X Z (.Tuple es1 x1 tp) (.Call (.Name "zip" p) [a, b] [] pos) (itZip fs) := di_zip hg (hb.h _ (by decide +kernel)) ha (star_two hs hs2) (star_one hs2) bt_zip
theorem di_e (hb : BLs X.mg) (hg : Gl X "enumerate") (ha : DA X Z [a] fs) (hs : notStar a = true) : DI X Z (.Tuple es1 x1 tp) (.Call (.Name "enumerate" p) [a] [] pos) (itEnum fs) := di_enum hg (hb.h _ (by decide +kernel)) ha (star_one hs) bt_enumerate
def compNm (sc : Scope) : List Str := (sc.names.filterMap fun y => if y.2 == .local && y.1 != (".0" : Str) then some y.1 else none) ++ (sc.names.filterMap fun y => if y.2 == .free then some y.1 else none)
variable {elt iter : Expr} {ifs : List Expr} {scope : Scope} {caps : List (Option Nat)} {it : DSt → M Src} {gg : Fg} {tt : DSt → M Bool} {fe : Fe}
theorem de_cmpr (hc : X.calm = true) (hi : DI X Z tg iter it) (k : ∃ XN ps osc, FnScope XN ps osc ∧ X.env.scope = osc ∧ X.N = XN ∧ compOkB osc scope (compNm scope) XN caps = true) (nd : (compNm scope).Nodup)
    (hg : (compNm scope).Nodup → ∀ C s H ex, DG (compCx X scope (compNm scope) C s H ex) ZF tg gg) (ht : ∀ C s H ex, DTs (compCx X scope (compNm scope) C s H ex) ZF ifs tt) (he : ∀ C s H ex, DE (compCx X scope (compNm scope) C s H ex) ZF elt fe)
    (hf : ∀ x, foldedSetIterable iter X.env x = pure x) : DE X Z (.ListComp elt [⟨tg, iter, ifs, 0⟩] scope pos) (compE it caps gg tt fe) := let ⟨_, _, _, _, hs, hN, k⟩ := k; de_comp hc hi (CompOk.of k hs hN) (hg nd) ht he hf
end
end DL
set_option Elab.async false
set_option linter.all false
set_option maxRecDepth 100000
namespace DL
open PySem PySem.Spec L2
open PyProof.Rows hiding St
section
variable {X : Cx} {Z : XC}
end
end DL
namespace W
open PySem PySem.Spec L2 DL
open PyProof.Rows hiding St
section
variable {G : DH} {Q : D → DH → Prop}
end
end W
set_option Elab.async false
set_option linter.all false
set_option maxRecDepth 100000
namespace DL
open PySem PySem.Spec L2
open PyProof.Rows hiding St
def Itd (a : Addr) (o : Obj) (kvs : List (Key × V)) : It :=
  ⟨fun i H => H a = some (.frz o (.dK kvs)) ∧ ∃ kv, kvs[i]? = some kv, fun i H x H' => H' = H ∧ ∃ kv, kvs[i]? = some kv ∧ x = kV kv.1, fun i H => H a = some (.frz o (.dK kvs)) ∧ kvs.length ≤ i⟩
theorem kv_get {κ : Type} : ∀ {kvs : List (κ × V)} {vs : List (κ × Value)} {i : Nat} {kv : κ × V}, KV kvs vs → kvs[i]? = some kv → ∃ v, vs[i]? = some (kv.1, v)
  | _, _, _, _, .nil, e => by simp at e
  | _, _, 0, _, .cons h t, e => by
    simp only [List.getElem?_cons_zero, Option.some.injEq] at e
    subst e
    exact ⟨_, by rw [List.getElem?_cons_zero, h.1]⟩
  | _, _, i + 1, _, .cons h t, e => by
    simp only [List.getElem?_cons_succ] at e ⊢
    exact kv_get t e
theorem kv_rel {P : Program} {w : World} {k : Key} {u : Value} (h : (mixKind P w).is k u = true) : RelV (kV k) u := by
  rcases keyIs_shape (k := k) (v := u) h with ⟨i, t, rfl, rfl⟩ | ⟨x, t, rfl, rfl⟩
  · exact ⟨t, rfl⟩
  · exact ⟨t, rfl⟩
theorem frz_at {X : Cx} {pins : List (Addr × Obj)} {s : Shared} {σ : St} {H : Hp} {a : Addr} {o : Obj} {es : Array DictEntry} {ep : Nat} {kvs : List (Key × V)} (I : Inv X pins σ H s) (ho : o.data = .dict es ep) (e : H a = some (.frz o (.dK kvs))) :
    (a == sysModules) = false ∧ ∃ vs, KV kvs vs ∧ s.heap.DictAt (mixKind X.prog X.w) a vs ep := by
  obtain ⟨hget, hz, hS, vs, r, m⟩ := (show ObjOk X.prog X.w H s.heap a (.frz o (.dK kvs)) from I.hok a _ e)
  obtain ⟨ep', dat⟩ := m.dictAt
  have hep : ep' = ep := by
    obtain ⟨o', es', h1, _, h3, _⟩ := id dat
    rw [hget] at h1
    cases h1
    rw [ho] at h3
    cases h3
    rfl
  subst hep
  exact ⟨hS, vs, r, dat⟩
theorem turn_dict {P : Program} {w : World} {K : PySem.W.Frag} {tg : Expr} {a : Addr} {o : Obj} {es : Array DictEntry} {ep : Nat} {kvs : List (Key × V)} (ho : o.data = .dict es ep) (it : Addr) : Turn P w K tg (Itd a o kvs) [it] it (fun i h => h.IsKeyIter it a i kvs.length ep) where
  mem := by simp
  obj := fun i h st b hb => by
    have e : b = it := by simpa using hb
    subst e
    obtain ⟨o, e, c, d⟩ := st
    exact ⟨o, e, fun v z => by rw [d] at z; cases z⟩
  keep := fun i h h' st k => let ⟨o, ho, r⟩ := st; ⟨o, k it (by simp) o ho, r⟩
  item := by
    intro X hP hw hK hc i pins s σ H E I hf st hg
    subst hP hw hK
    obtain ⟨hfr, kv, hx⟩ := hg
    obtain ⟨f0, f1, f2, f3, f4, f5⟩ := hf it (by simp)
    obtain ⟨hS, vs, rel, dat⟩ := frz_at I ho hfr
    obtain ⟨v, hv⟩ := kv_get rel hx
    have hlen : kvs.length = vs.length := Paired.length rel
    rw [hlen] at st
    refine wpAny_pyNext_dict_item st dat hv fun key h' hk st' sb => ?_
    have I1 : Inv X pins σ H { s with heap := h' } := I.turned (t' := s.toks) (fun b o hb e => (sb.2 b hb).trans e) f0 f1 f3 f4 f5
    obtain ⟨o', e, cc, d⟩ := id st'
    refine ⟨_, rfl, go_of (s := { s with heap := h' }) e cc d (by decide) ⟨kV kv.1, H, I1, kv_rel hk, ⟨rfl, kv, hx, rfl⟩, by rw [hlen]; exact st', fun b hb => (hf b hb).1⟩⟩
  done := by
    intro X hP hw hK hc i pins s σ H E I hf st hg
    subst hP hw hK
    obtain ⟨hfr, hi⟩ := hg
    obtain ⟨f0, f1, f2, f3, f4, f5⟩ := hf it (by simp)
    obtain ⟨hS, vs, rel, dat⟩ := frz_at I ho hfr
    have hlen : kvs.length = vs.length := Paired.length rel
    rw [hlen] at st hi
    exact wpAny_pyNext_dict_end (I.ok.hd hc) st dat (List.getElem?_eq_none hi) fun h' eb => ⟨rfl, I.turned (t' := s.toks) (fun b o hb e => eb b o hb e) f0 f1 f3 f4 f5⟩
  self := fun _ _ _ _ _ st h => wpAny_pyIter_keyiter st h
theorem HRep.setR {c : Wc} {μ : List Addr} {G : DH} {H : Hp} {i : Nat} {a : Addr} {o o' : DO} {u : HO} (h : HRep c μ G H) (g : G[i]? = some o) (n : ¬ isRol (some o)) (m : μ[i]? = some a) (k : Ext μ H μ (upd H a u)) (ho : ObjRep c μ (upd H a u) a o') : HRep c μ (G.set i o') (upd H a u) := by
  have hi : i < G.length := lt_of_get g
  have get : ∀ j, (G.set i o')[j]? = if i = j then some o' else G[j]? := fun j => by
    rw [List.getElem?_set]
    by_cases e : i = j
    · subst e; simp [hi]
    · simp [e]
  refine ⟨by simp [h.len], fun j l b ej el => ?_, fun j o2 b gj mj => ?_⟩
  · rcases h.inj j l b ej el with e | e | e
    · exact .inl e
    · by_cases ij : i = j
      · subst ij; rw [g] at e; exact (n e).elim
      · right; left; rw [get, if_neg ij]; exact e
    · by_cases ij : i = l
      · subst ij; rw [g] at e; exact (n e).elim
      · right; right; rw [get, if_neg ij]; exact e
  · rw [get] at gj
    by_cases ij : i = j
    · subst ij
      rw [if_pos rfl] at gj
      cases gj
      rw [m] at mj
      cases mj
      exact ho
    · rw [if_neg ij] at gj
      have q := h.obj j o2 b gj mj
      by_cases hr : isRol (some o2)
      · exact q.mono k (.inr hr)
      · have nb : b ≠ a := fun e => by
          subst e
          rcases h.inj i j b m mj with e | e | e
          · exact ij e
          · rw [g] at e; exact n e
          · rw [gj] at e; exact hr e
        exact q.mono k (.inl (upd_ne nb))
section
variable {X : Cx} {Z : XC} {tg e : Expr}
theorem Inv.freeze {pins : List (Addr × Obj)} {s : Shared} {σ : St} {H : Hp} {a : Addr} {o : Obj} {kvs : List (Key × V)} (I : Inv X pins σ H s) (e : H a = some (.dK kvs)) (ho : s.heap.get? a = some o) : Inv X pins σ (upd H a (.frz o (.dK kvs))) s := by
  have q : ObjOk X.prog X.w H s.heap a (.dK kvs) := I.hok a _ e
  exact I.write (x := a) (e := a) (t' := s.toks) (h' := s.heap) (by rw [e]; exact trivial) (.inl rfl) (fun b u _ z => z) ⟨o, ho⟩ ⟨ho, q⟩
def iW (K : PySem.W.Frag) (tl : TE) : TI := fun σ H R => tl σ H fun x H1 => ((∃ z, x = .str z ∧ R (Its z) H1) ∨ (∃ k a xs, x = .ref a ∧ Sq K k H1 a xs ∧ R (if k = true then Itt K a else Itl K a) H1)) ∨
  (∃ a kvs, x = .ref a ∧ H1 a = some (.dK kvs) ∧ ∀ o, R (Itd a o kvs) (upd H1 a (.frz o (.dK kvs)))) ∨ (∃ a o kvs, x = .ref a ∧ H1 a = some (.frz o (.dK kvs)) ∧ R (Itd a o kvs) H1)
theorem pi_W {tl : TE} (hl : PE X e tl) : PI X tg e (iW X.K tl) := by
  intro pins s σ H R I h
  refine thn (hl pins s σ H _ I h) fun v s1 ⟨x, H1, I1, r1, q1⟩ => ?_
  have fpo : ∀ b ∈ [s1.heap.objs.size], FpOk X pins H1 b := fun b hb => by
    have z : b = s1.heap.objs.size := by simpa using hb
    subst z
    exact I1.fpOk (Nat.le_refl _) (I1.hok.fresh (Nat.le_refl _))
  rcases q1 with (⟨z, rfl, q⟩ | ⟨k, a, xs, rfl, hq, q⟩) | ⟨a, kvs, rfl, hq, q⟩ | ⟨a, o, kvs, rfl, hq, q⟩
  · obtain ⟨t, rfl⟩ := (show ∃ t, v = Value.str z t from r1)
    refine wpAny_pyIter_strU ?_
    have I2 : Inv X pins σ H1 { s1 with heap := s1.heap.push { cls := .type (strIterType z), data := .fields #[.str z t, .int 0 0] } } := I1.kept (t' := s1.toks) fun b o z => Heap.get?_push_of_some _ z
    have hg : (s1.heap.push { cls := .type (strIterType z), data := .fields #[.str z t, .int 0 0] }).get? s1.heap.objs.size = some { cls := .type (strIterType z), data := .fields #[.str z t, .int 0 0] } := Heap.get?_push_size _ rfl
    by_cases ha : z.cps.all (· < 128) = true
    · have e : strIterType z = "str_ascii_iterator" := by unfold strIterType; rw [if_pos ha]
      refine ⟨s1.heap.objs.size, [s1.heap.objs.size], _, _, H1, rfl, I2, turn_ascii z t _, ?_, fpo, q⟩
      rw [e] at hg ⊢
      exact ⟨_, hg, rfl, rfl⟩
    · have e : strIterType z = "str_iterator" := by unfold strIterType; rw [if_neg ha]
      refine ⟨s1.heap.objs.size, [s1.heap.objs.size], _, _, H1, rfl, I2, turn_wide z t _, ?_, fpo, q⟩
      rw [e] at hg ⊢
      exact ⟨_, hg, rfl, rfl⟩
  · cases r1
    cases k with
    | true =>
      obtain ⟨its, rv, p, hz⟩ := I1.tuple hq
      exact wpAny_pyIter_tuple (show s1.heap.IsTuple a its.toArray from p) ⟨s1.heap.objs.size, [s1.heap.objs.size], _, _, H1, rfl, I1.kept (t' := s1.toks) fun b o z => Heap.get?_push_of_some _ z, turn_tuple a _, ⟨_, Heap.get?_push_size _ rfl, rfl, rfl⟩, fpo, q⟩
    | false =>
      obtain ⟨its, rv, p, hz⟩ := I1.list hq
      exact wpAny_pyIter_list p.isList ⟨s1.heap.objs.size, [s1.heap.objs.size], _, _, H1, rfl, I1.kept (t' := s1.toks) fun b o z => Heap.get?_push_of_some _ z, turn_list a _, ⟨_, Heap.get?_push_size _ rfl, rfl, rfl⟩, fpo, q⟩
  · cases r1
    obtain ⟨hz, hS, vs, rel, dd⟩ := dk_of I1.hok hq
    obtain ⟨ep, dat⟩ := dd.dictAt
    obtain ⟨o, es, h1, h2, h3, h4⟩ := id dat
    have hlen : kvs.length = vs.length := Paired.length rel
    have I2 := DL.Inv.freeze I1 hq h1
    have fpo2 : ∀ b ∈ [s1.heap.objs.size], FpOk X pins (upd H1 a (.frz o (.dK kvs))) b := fun b hb => by
      have z : b = s1.heap.objs.size := by simpa using hb
      subst z
      exact I2.fpOk (Nat.le_refl _) (I2.hok.fresh (Nat.le_refl _))
    refine wpAny_pyIter_dict hS dat ⟨s1.heap.objs.size, [s1.heap.objs.size], _, _, upd H1 a (.frz o (.dK kvs)), rfl, I2.kept (t' := s1.toks) fun b o z => Heap.get?_push_of_some _ z, turn_dict (kvs := kvs) h3 _, ?_, fpo2, q o⟩
    rw [hlen]
    exact ⟨_, Heap.get?_push_size _ rfl, rfl, rfl⟩
  · cases r1
    obtain ⟨hget, hz, hS, vs, rel, dd⟩ := (show ObjOk X.prog X.w H1 s1.heap a (.frz o (.dK kvs)) from I1.hok a _ hq)
    obtain ⟨ep, dat⟩ := dd.dictAt
    obtain ⟨o', es, h1, h2, h3, h4⟩ := id dat
    rw [hget] at h1
    cases h1
    have hlen : kvs.length = vs.length := Paired.length rel
    refine wpAny_pyIter_dict hS dat ⟨s1.heap.objs.size, [s1.heap.objs.size], _, _, H1, rfl, I1.kept (t' := s1.toks) fun b o z => Heap.get?_push_of_some _ z, turn_dict (kvs := kvs) h3 _, ?_, fpo, q⟩
    rw [hlen]
    exact ⟨_, Heap.get?_push_size _ rfl, rfl, rfl⟩
def keyOf : Key → D
  | .inl i => .int i
  | .inr x => .str x
def keysD (l : List (Key × D)) : List D := l.map fun kv => keyOf kv.1
noncomputable def srcW : D → M Src := fun x => match x with
  | .ref r => do
    match ← objM r with
    | .dct l => do
      let _ ← putM r (.rod l)
      pure ⟨keysD l, fun _ => true⟩
    | .rod l => pure ⟨keysD l, fun _ => true⟩
    | _ => srcA (.ref r)
  | d => srcA d
noncomputable def itW (f : Fe) : DSt → M Src := fun σ => do srcW (← f σ)
theorem any_val {μ1 : List Addr} {G1 : DH} {H1 : Hp} {d : D} {v : V} {R : It → Hp → Prop} (h1 : HRep (wc X) μ1 G1 H1) (rv : RepV (wc X) μ1 H1 d v) (p1 : Post (wc X) Z μ1 H1 (srcA d G1) fun s μ' _ H' => ∀ J, ItD (wc X) μ' H' J s → R J H') :
    (∃ z, v = .str z ∧ R (Its z) H1) ∨ (∃ k a xs, v = .ref a ∧ Sq X.K k H1 a xs ∧ R (if k = true then Itt X.K a else Itl X.K a) H1) := by
  have main : ∀ dd : D, (∀ z, dd ≠ .str z) → RepV (wc X) μ1 H1 dd v → Post (wc X) Z μ1 H1 (srcM dd G1) (fun s μ' _ H' => ∀ J, ItD (wc X) μ' H' J s → R J H') → (∃ z, v = .str z ∧ R (Its z) H1) ∨ (∃ k a xs, v = .ref a ∧ Sq X.K k H1 a xs ∧ R (if k = true then Itt X.K a else Itl X.K a) H1) := by
    intro dd _ rv p1
    have p1' : Post (wc X) Z μ1 H1 ((srcM dd >>= fun s => (pure s : M Src)) G1) fun s μ' _ H' => ∀ J, ItD (wc X) μ' H' J s → R J H' := by
      have e : (srcM dd >>= fun s => (pure s : M Src)) = srcM dd := by
        funext G
        rw [M.bind_eq]
        cases srcM dd G with
        | none => rfl
        | some q => obtain ⟨r, G'⟩ := q; cases r <;> rfl
      rw [e]; exact p1
    obtain ⟨sr, k, a, vs, rfl, q, rl, is, ck, _, p2⟩ := srcM_post h1 rv p1'
    refine .inr ⟨k, a, vs, rfl, q, Post.ok p2 h1 _ fun μ' G' H' x' h' ck' i => ?_⟩
    obtain ⟨vs', q', rl'⟩ := is μ' G' H' x' h' ck'
    refine ⟨fun d hd => ?_, fun hi => ?_⟩
    · obtain ⟨y, hy, ry⟩ := rl'.get hd
      cases k with
      | true =>
        rw [if_pos rfl]
        exact ⟨⟨vs', y, q', hy⟩, fun x H2 ⟨e1, e2⟩ => by subst e1; exact ⟨Ext.refl _ _, h', rep_get rl' hd (e2 vs' q')⟩⟩
      | false =>
        rw [if_neg Bool.false_ne_true]
        exact ⟨⟨vs', y, q', hy⟩, fun x H2 ⟨e1, e2⟩ => by subst e1; exact ⟨Ext.refl _ _, h', rep_get rl' hd (e2 vs' q')⟩⟩
    · cases k with
      | true => rw [if_pos rfl]; exact ⟨vs', q', by rw [← rl'.length]; exact hi⟩
      | false => rw [if_neg Bool.false_ne_true]; exact ⟨vs', q', by rw [← rl'.length]; exact hi⟩
  cases d with
  | str z =>
    refine .inl ⟨z, repS rv, Post.ok p1 h1 _ fun μ' G' H' x' h' ck' i => ⟨fun d hd => ?_, fun hi => ?_⟩⟩
    · simp only [charsD, List.getElem?_map] at hd
      cases hc : z.cps.toList[i]? with
      | none => rw [hc] at hd; cases hd
      | some c =>
        rw [hc] at hd
        cases hd
        have hc' : z.cps[i]? = some c := by rw [← Array.getElem?_toList]; exact hc
        exact ⟨⟨c, hc'⟩, fun x H2 ⟨e1, c2, e2, e3⟩ => by
          subst e1
          rw [hc'] at e2
          cases e2
          exact ⟨Ext.refl _ _, h', by rw [e3]; unfold RepV; rfl⟩⟩
    · simp only [charsD, List.length_map] at hi
      show z.cps[i]? = none
      rw [← Array.getElem?_toList]
      exact List.getElem?_eq_none hi
  | tup l => exact main (.tup l) (fun z q => nomatch q) rv p1
  | ref r => exact main (.ref r) (fun z q => nomatch q) rv p1
  | _ => exact p1.elim
theorem repK_get {c : Wc} {μ : List Addr} {H : Hp} : ∀ {l : List (Key × D)} {kvs : List (Key × V)} {i : Nat} {kd : Key × D}, RepK c μ H l kvs → l[i]? = some kd → ∃ v, kvs[i]? = some (kd.1, v)
  | [], _, _, _, _, e => by simp at e
  | (k, d) :: r, _, 0, _, h, e => by
    obtain ⟨v, t, rfl, _, _⟩ := h
    simp only [List.getElem?_cons_zero, Option.some.injEq] at e
    subst e
    exact ⟨v, rfl⟩
  | (k, d) :: r, _, i + 1, _, h, e => by
    obtain ⟨v, t, rfl, _, ht⟩ := h
    simp only [List.getElem?_cons_succ] at e ⊢
    exact repK_get ht e
theorem key_val {c : Wc} {μ : List Addr} {H : Hp} (k : Key) : RepV c μ H (keyOf k) (kV k) := by
  cases k <;> (unfold keyOf RepV; rfl)
theorem itd_ok {c : Wc} {μ : List Addr} {H : Hp} {a : Addr} {o : Obj} {l : List (Key × D)} {kvs : List (Key × V)} (e : H a = some (.frz o (.dK kvs))) (rk : RepK c μ H l kvs) : ItD c μ H (Itd a o kvs) ⟨keysD l, fun _ => true⟩ := by
  intro μ' G' H' x h' _ i
  have e' := x.frz _ _ _ e
  refine ⟨fun d hd => ?_, fun hi => ⟨e', by rw [← rk.length]; simpa [keysD] using hi⟩⟩
  simp only [keysD, List.getElem?_map] at hd
  cases hl : l[i]? with
  | none => rw [hl] at hd; cases hd
  | some kd =>
    rw [hl] at hd
    cases hd
    obtain ⟨v, hv⟩ := repK_get rk hl
    exact ⟨⟨e', _, hv⟩, fun y H2 ⟨e1, kv, e2, e3⟩ => by
      subst e1
      rw [hv] at e2
      cases e2
      exact ⟨Ext.refl _ _, h', by rw [e3]; exact key_val _⟩⟩
theorem di_W {f : Fe} (he : DE X Z e f) : DI X Z tg e (itW f) :=
  DI.of (pi_W he.h) fun σ H R ⟨dσ, μ, G, s, h, p⟩ => ⟨dσ, μ, G, s, h, (Post.bind p).mono fun d μ1 G1 H1 x1 h1 p1 v rv => by
    cases d with
    | ref r =>
      have rv' := rv
      unfold RepV at rv'
      obtain ⟨a, m, rfl⟩ := rv'
      obtain ⟨o, g, p2⟩ := objM_post p1
      have ro := h1.obj r o a g m
      cases o with
      | dct l =>
        obtain ⟨kvs, q, rk⟩ := ro
        refine .inr (.inl ⟨a, kvs, rfl, q, fun o => ?_⟩)
        have x : Ext μ1 H1 μ1 (upd H1 a (.frz o (.dK kvs))) := Ext.mut (List.mem_of_getElem? m) q (fun _ z => nomatch z) (fun _ _ z => nomatch z) _
        have hk' := rk.mono x
        have h2 : HRep (wc X) μ1 (G1.set r (.rod l)) (upd H1 a (.frz o (.dK kvs))) := h1.setR g (fun z => z) m x ⟨kvs, o, upd_same, hk'⟩
        have p3 := Post.from p2 x
        exact Post.ok p3 h2 _ (itd_ok upd_same hk')
      | rod l =>
        obtain ⟨kvs, o, q, rk⟩ := ro
        exact .inr (.inr ⟨a, o, kvs, rfl, q, Post.ok p2 h1 _ (itd_ok q rk)⟩)
      | lst l => exact .inl (any_val h1 rv p2)
      | rol l => exact .inl (any_val h1 rv p2)
    | _ => exact .inl (any_val h1 rv p1)⟩
end
end DL
namespace W
open PySem PySem.Spec L2 DL
open PyProof.Rows hiding St
section
variable {G : DH} {σ : DSt} {R : Src → DH → Prop}
theorem wp_itW {f : Fe} : Wp (itW f σ) G R ↔ Wp (f σ) G fun x G1 => Wp (srcW x) G1 R := by
  unfold itW; simp only [wp_bind]
theorem srcW_tup {l : List D} : Wp (srcW (.tup l)) G R ↔ R ⟨l, fun _ => true⟩ G := wp_pure
theorem srcW_lst {p : Nat} {l : List D} (e : G[p]? = some (.lst l)) : Wp (srcW (.ref p)) G R ↔ R ⟨l, ckO p (.lst l)⟩ G := by
  unfold srcW
  simp only [wp_bind, wp_obj, e, someI]
  exact srcA_ref e
theorem srcW_dct {p : Nat} {l : List (Key × D)} (e : G[p]? = some (.dct l)) : Wp (srcW (.ref p)) G R ↔ R ⟨keysD l, fun _ => true⟩ (G.set p (.rod l)) := by
  unfold srcW
  simp only [wp_bind, wp_obj, e, someI, wp_put, wp_pure]
theorem srcW_rod {p : Nat} {l : List (Key × D)} (e : G[p]? = some (.rod l)) : Wp (srcW (.ref p)) G R ↔ R ⟨keysD l, fun _ => true⟩ G := by
  unfold srcW
  simp only [wp_bind, wp_obj, e, someI, wp_pure]
end
end W
set_option Elab.async false
set_option linter.all false
set_option maxRecDepth 100000
namespace DL
open PySem PySem.Spec L2
open PyProof.Rows hiding St
section
variable {prog : Program} {w : World} {A : Around} {E : Value → Shared → Prop} {s : Shared} {Q : Value → Shared → Prop}
theorem sorted_seq {a : Addr} {T : String} {o : Obj} {vs : List Value} {n : Nat} (hT : T = "list" ∨ T = "tuple") (ho : s.heap.get? a = some o) (hc : o.cls = .type T) (hd : o.data = .seq vs.toArray n) (h64 : vs.length < 64) {ss : List Str} (hS : StrsAre vs ss)
    (h : ∀ (h1 h' : Heap) (tk e : Nat) (out : List Value) (ss' : List Str), (∀ b o, s.heap.get? b = some o → h1.get? b = some o) → (∀ b o, h1.get? b = some o → h'.get? b = some o) → h'.get? h1.objs.size = some (seqObj "list" out.toArray e) → StrsAre out ss' → ss'.Perm ss → sortedS ss' = true → Q (.ref h1.objs.size) { s with heap := h', toks := tk }) :
    wpAny (model prog w) A (call (.builtin "sorted") [.ref a]) Q E s := by
  have hz : vs.length ≤ sizeLine := Nat.le_trans (Nat.le_of_lt h64) (by decide)
  refine Calls.call_function_entry kind_sorted plain_sorted entry_sorted (args_sorted1 _) ?_
  unfold Builtin.«sorted»
  refine wpAny_bind (m := checkCount "sorted" 1 1 _) (wpAny_pure ?_)
  refine wpAny_bind (wpAny_collect_seq (A := A.in1) a hT ho hc hd (fun h1 hk => ?_) (by rw [List.size_toArray]; exact hz))
  refine wpAny_bind (wpAny_newList ?_ hz)
  have hoL : (h1.push (seqObj "list" vs.toArray 0)).get? h1.objs.size = some (seqObj "list" vs.toArray 0) := Heap.get?_push_size _ rfl
  refine wpAny_bind (wpAny_holding (wpAny_call_entry slot_list_sort ⟨_, hoL, rfl⟩ entry_list_sort (list_sort_treeK strKind_oneLt hoL hS.keysOf (fun v₁ v₂ rest e => keyKind_strs (by rw [← e]; exact hS)) h64 fun st' a1 a2 => ⟨_, rfl, ?_⟩) (args_list_sort _)))
  obtain ⟨ss', b1, b2, b3⟩ := sorted_out_str hS a1 a2
  obtain ⟨e, he⟩ := sortedHeap_at (vs := vs) (out := (arrOf st').map (·.2)) hoL
  refine wpAny_pure ⟨_, rfl, h h1 _ s.toks e ((arrOf st').map (·.2)).toList ss' hk (fun b o hb => ?_) (by rw [Array.toArray_toList]; exact he) b1 b2 b3⟩
  have hlt : b < h1.objs.size := Heap.lt_size hb
  rw [sortedHeap_old (Nat.ne_of_lt hlt) (by rw [size_push']; exact Nat.lt_succ_of_lt hlt), Heap.get?_push_ne _ _ _ (Nat.ne_of_lt hlt)]
  exact hb
end
def sortT (l : List D) : M D := do
  let ss ← optM (strsOf l)
  if ss.length < 64 then allocM (.lst ((sortS ss).map .str)) else M.stuck
def sortedG : List D → M D := fun ds => match ds with
  | [.tup l] => sortT l
  | [.ref r] => do
    match ← objM r with
    | .lst l => sortT l
    | .dct l => do
      let ss ← optM (keyStrs l)
      if ss.length < 64 then allocM (.lst ((sortS ss).map .str)) else M.stuck
    | _ => M.stuck
  | _ => M.stuck
section
variable {X : Cx} {Z : XC}
theorem strs_are {c : Wc} {μ : List Addr} {H : Hp} : ∀ {l : List D} {ss : List Str} {vs : List V} {us : List Value}, strsOf l = some ss → RepL c μ H l vs → Vals vs us → StrsAre us ss
  | [], _, _, _, e, r, v => by cases e; cases r; cases v; exact .nil
  | .str x :: t, ss, _, _, e, r, v => by
    unfold strsOf at e
    cases h : strsOf t with
    | none => rw [h] at e; cases e
    | some q =>
      rw [h] at e
      cases e
      obtain ⟨v0, tl, rfl, r0, rt⟩ := r
      cases v with
      | cons ru rt2 =>
        rw [repS r0] at ru
        obtain ⟨tk, rfl⟩ := ru
        exact .cons _ _ (strs_are h rt rt2)
  | .non :: _, _, _, _, e, _, _ => by cases e
  | .bl _ :: _, _, _, _, e, _, _ => by cases e
  | .int _ :: _, _, _, _, e, _, _ => by cases e
  | .tup _ :: _, _, _, _, e, _, _ => by cases e
  | .ref _ :: _, _, _, _, e, _, _ => by cases e
  | .fn _ :: _, _, _, _, e, _, _ => by cases e
  | .ty _ :: _, _, _, _, e, _, _ => by cases e
theorem strs_len : ∀ {l : List D} {ss : List Str}, strsOf l = some ss → ss.length = l.length
  | [], _, e => by cases e; rfl
  | .str x :: t, ss, e => by
    unfold strsOf at e
    cases h : strsOf t with
    | none => rw [h] at e; cases e
    | some q => rw [h] at e; cases e; simp [strs_len h]
  | .non :: _, _, e => by cases e
  | .bl _ :: _, _, e => by cases e
  | .int _ :: _, _, e => by cases e
  | .tup _ :: _, _, e => by cases e
  | .ref _ :: _, _, e => by cases e
  | .fn _ :: _, _, e => by cases e
  | .ty _ :: _, _, e => by cases e
theorem sort_end {μ : List Addr} {G : DH} {pins : List (Addr × Obj)} {s : Shared} {σ : St} {H : Hp} {Q : VK} {a : Addr} {T : String} {o : Obj} {vs : List V} {us : List Value} {n : Nat} {l : List D} (I : Inv X pins σ H s) (hr : HRep (wc X) μ G H) (rl : RepL (wc X) μ H l vs) (rv : Vals vs us) (hT : T = "list" ∨ T = "tuple") (ho : s.heap.get? a = some o) (hc : o.cls = .type T) (hd : o.data = .seq us.toArray n)
    (p : Post (wc X) Z μ H (sortT l G) fun d μ' _ H' => ∀ v, RepV (wc X) μ' H' d v → Q v H') : wpAny (model X.prog X.w) X.A (call (.builtin "sorted") [.ref a]) (EP X pins σ Q) X.xe s := by
  obtain ⟨ss, es, p2⟩ := optM_post p
  split at p2
  case isFalse => exact p2.elim
  rename_i h64
  have hS := strs_are es rl rv
  have hlen0 : us.length = ss.length := by rw [strs_len es, rl.length, rv.length]
  refine sorted_seq hT ho hc hd (by omega) hS fun h1 h' tk e out ss' k1 k2 he hS' hp hs => ?_
  have e2 := sortS_eq hp hs
  subst e2
  obtain ⟨ws, ew, rv', rl2⟩ := strs_rep (c := wc X) (μ := μ) (H := H) hS'
  have I1 : Inv X pins σ H { s with heap := h1, toks := tk } := I.kept k1
  have hf := I1.hok.fresh (Nat.le_refl _)
  have hlen : ws.length ≤ sizeLine := by
    rw [ew, List.length_map]
    have e3 : (sortS ss).length = ss.length := (List.mergeSort_perm ss leS).length_eq
    have : (64 : Nat) ≤ sizeLine := by decide
    omega
  exact ⟨.ref h1.objs.size, upd H h1.objs.size (.lst ws), I1.laid (t' := tk) k2 (Nat.le_refl _) ⟨hlen, out, e, rv', he⟩, rfl, post_lst hr rl2 p2 _ hf⟩
theorem cd_sortedG (hc : X.calm = true) : CallD X Z (.builtin "sorted") sortedG := ⟨by
  intro pins s σ H xs us Q I r ⟨ds, μ, G, rl, hr, p⟩
  unfold sortedG at p
  split at p
  · rename_i l
    obtain ⟨v, rfl, rv⟩ := rep1 rl
    obtain ⟨u, rfl, ru⟩ := vals1 r
    unfold RepV at rv
    obtain ⟨a, vs, rfl, q, rl'⟩ := rv
    cases ru
    obtain ⟨its, rv, ⟨o, h1, h2, n, h3⟩, hz⟩ := I.tuple q
    exact sort_end I hr rl' rv (.inr rfl) h1 h2 h3 p
  · rename_i i
    obtain ⟨v, rfl, rv⟩ := rep1 rl
    obtain ⟨u, rfl, ru⟩ := vals1 r
    have rv' := rv
    unfold RepV at rv'
    obtain ⟨a, m, rfl⟩ := rv'
    cases ru
    obtain ⟨o, g, p1⟩ := objM_post p
    have ro := hr.obj i o a g m
    cases o with
    | lst l =>
      obtain ⟨vs, q, rl'⟩ := ro
      obtain ⟨its, rv, pl, hz⟩ := I.list (SqL.of q)
      obtain ⟨o, h1, h2, n, h3⟩ := pl.isList
      exact sort_end I hr rl' rv (.inl rfl) h1 h2 h3 p1
    | dct l =>
      refine (cd_sorted (Z := Z) hc).h pins s σ H [.ref a] [.ref a] Q I r ⟨[.ref i], μ, G, rl, hr, ?_⟩
      have eo : objM i G = some (.ok (.dct l), G) := by unfold objM; simp only [g]
      have e : sortedF [.ref i] G = ((do
        let ss ← optM (keyStrs l)
        if ss.length < 64 then allocM (.lst ((sortS ss).map .str)) else M.stuck : M D)) G := by
        show ((objM i >>= fun o => match o with
          | .dct l => (do
            let ss ← optM (keyStrs l)
            if ss.length < 64 then allocM (.lst ((sortS ss).map .str)) else M.stuck : M D)
          | _ => M.stuck) : M D) G = _
        rw [M.bind_ok eo]
      rw [e]
      exact p1
    | rol l => exact p1.elim
    | rod l => exact p1.elim
  · exact p.elim⟩
theorem bd_sortedG (h : X.calm = true) : BD sortedG "sorted" X Z := ⟨.inl ⟨_, cd_sortedG h, bt_sorted⟩⟩
end
end DL
namespace W
open PySem PySem.Spec L2 DL
open PyProof.Rows hiding St
section
variable {G : DH} {Q : D → DH → Prop}
theorem sortT_wp {l : List D} {ss : List Str} (hs : strsOf l = some ss) (h64 : ss.length < 64) : Wp (sortT l) G Q ↔ Q (.ref G.length) (G ++ [.lst ((sortS ss).map .str)]) := by
  unfold sortT
  simp only [wp_bind, wp_opt, hs, someI, if_pos h64, wp_alloc]
theorem sortG_lst {r : Nat} {l : List D} {ss : List Str} (e : G[r]? = some (.lst l)) (hs : strsOf l = some ss) (h64 : ss.length < 64) : Wp (sortedG [.ref r]) G Q ↔ Q (.ref G.length) (G ++ [.lst ((sortS ss).map .str)]) := by
  unfold sortedG
  simp only [wp_bind, wp_obj, e, someI]
  exact sortT_wp hs h64
end
end W
set_option Elab.async false
set_option linter.all false
set_option maxRecDepth 100000
namespace DL
open PySem
theorem keys_no_tuple : typeLookup (.type "tuple") "keys" = pure none := by rw [typeLookup_type, builtinLookup_eq_fast]; kernel_rfl
theorem keys_no_list : typeLookup (.type "list") "keys" = pure none := by rw [typeLookup_type, builtinLookup_eq_fast]; kernel_rfl
section
variable {prog : Program} {w : World} {A : Around} {E : Value → Shared → Prop}
theorem keys_miss_list {h : Heap} {g : Array GenState} {d : Drawn} {t : Nat} {os : OsState} {a : Addr} {o : Obj} {xs : Array Value} {k : Nat} {Q : Option Value → Shared → Prop}
    (hx : h.get? a = some o) (hc : o.cls = .type "list") (hdat : o.data = .seq xs k) (hd : o.dict = none) (hA : A.handled = none)
    (hq : ∀ h' tk, (∀ b ob, h.get? b = some ob → h'.get? b = some ob) → Q none ⟨h', g, d, tk, os⟩) :
    wpAny (model prog w) A (getAttr? (.ref a) "keys") Q E ⟨h, g, d, t, os⟩ := by
  obtain ⟨c, dct, dat, sl⟩ := o
  simp only at hc hdat hd
  subst hc hdat hd
  have hT : ∀ tk', (⟨h, g, d, tk', os⟩ : Shared).TypeIs (.ref a) "list" := fun _ => ⟨_, hx, rfl⟩
  have f1 := sub_AttributeError
  have f3 := F.slot_list_getattribute.lookup
  have f4 := F.slot_list_getattribute.bind (.ref a)
  have f5 := am_list_getattr_none
  unfold getAttr? getAttrBy? getAttrBy
  repeat (any_goals (first | assumption | exact hT _ | ((with_reducible show wpAny _ _ (call (Value.builtin "list.__getattribute__") _ _) _ _ _); refine call_meets F.slot_list_getattribute (hT _) am_entry_list_getattribute (F.args_list_getattribute_2 _ _) (meets_getattribute_miss_list a xs k sl "keys" _ keys_no_list (by decide +kernel) (by decide +kernel)) ⟨hx, hA, fun h' tk' e hx' => ?_⟩) | wp_step))
  obtain ⟨t', u', he⟩ := hx'.there
  have hTe : ∀ tk'', (⟨h', g, d, tk'', os⟩ : Shared).TypeIs (.ref e) "AttributeError" := fun _ => ⟨_, he, rfl⟩
  show wpAny _ _ (getattributeRaised _ _ _ _ _ _ _) _ _ _
  unfold getattributeRaised
  repeat (any_goals (first | assumption | exact hTe _ | wp_step))
  exact hq _ _ hx'.keeps
theorem keys_miss_tuple {h : Heap} {g : Array GenState} {d : Drawn} {t : Nat} {os : OsState} {a : Addr} {o : Obj} {xs : Array Value} {k : Nat} {Q : Option Value → Shared → Prop}
    (hx : h.get? a = some o) (hc : o.cls = .type "tuple") (hdat : o.data = .seq xs k) (hd : o.dict = none) (hA : A.handled = none)
    (hq : ∀ h' tk, (∀ b ob, h.get? b = some ob → h'.get? b = some ob) → Q none ⟨h', g, d, tk, os⟩) :
    wpAny (model prog w) A (getAttr? (.ref a) "keys") Q E ⟨h, g, d, t, os⟩ := by
  obtain ⟨c, dct, dat, sl⟩ := o
  simp only at hc hdat hd
  subst hc hdat hd
  have hT : ∀ tk', (⟨h, g, d, tk', os⟩ : Shared).TypeIs (.ref a) "tuple" := fun _ => ⟨_, hx, rfl⟩
  have f1 := sub_AttributeError
  have f3 := F.slot_tuple_getattribute.lookup
  have f4 := F.slot_tuple_getattribute.bind (.ref a)
  have f5 := am_tuple_getattr_none
  unfold getAttr? getAttrBy? getAttrBy
  repeat (any_goals (first | assumption | exact hT _ | ((with_reducible show wpAny _ _ (call (Value.builtin "tuple.__getattribute__") _ _) _ _ _); refine call_meets F.slot_tuple_getattribute (hT _) am_entry_tuple_getattribute (F.args_tuple_getattribute_2 _ _) (meets_getattribute_miss_tuple a xs k sl "keys" _ keys_no_tuple (by decide +kernel) (by decide +kernel)) ⟨hx, hA, fun h' tk' e hx' => ?_⟩) | wp_step))
  obtain ⟨t', u', he⟩ := hx'.there
  have hTe : ∀ tk'', (⟨h', g, d, tk'', os⟩ : Shared).TypeIs (.ref e) "AttributeError" := fun _ => ⟨_, he, rfl⟩
  show wpAny _ _ (getattributeRaised _ _ _ _ _ _ _) _ _ _
  unfold getattributeRaised
  repeat (any_goals (first | assumption | exact hTe _ | wp_step))
  exact hq _ _ hx'.keeps
end
end DL
namespace DL
open PySem
open PyProof.Rows (IsTup)
theorem entry_dict_loop : entryFor table "dict.update.loop" = some Builtin.«dict.update.loop» := entryFor_of_tree (by kernel_rfl)
theorem plain_dict_loop : plainId "dict.update.loop" = true := by decide +kernel
section
variable {prog : Program} {w : World} {A : Around} {R : Result → Shared → Prop} {I : Addr} {fp wr : List Addr} {n : Nat} {P : Nat → Value → Prop} {St : Nat → Heap → Prop} {K : Type} [DecidableEq K] {knd : KeyKind prog w K}
theorem pair_items {s : Shared} {ta : Addr} {x y : Value} {Q : List Value → Shared → Prop} {E : Value → Shared → Prop} (h : IsTup s.heap ta #[x, y]) (q : Q [x, y] s) : wpAny (model prog w) A (Builtin.Dict.pairItems (.ref ta)) Q E s := by
  obtain ⟨o, ho, hc, m, hd⟩ := h
  have hT : s.TypeIs (.ref ta) "tuple" := ⟨_, ho, hc⟩
  unfold Builtin.Dict.pairItems
  refine wpAny_bind (wpAny_typeOf hT ?_)
  rw [if_pos (by decide)]
  exact wpAny_bind (wpAny_seqItems ho hd (wpAny_pure q))
theorem codeAny_dict_loop (W : Walks prog w A.in1 I fp wr n P St) (S : Addr) (hSf : S ∉ fp) (h0 : Heap) (ps : List (K × Value)) (hn : ps.length = n)
    (hval : ∀ i v, P i v → ∃ ta key kv, v = .ref ta ∧ ps[i]? = some kv ∧ IsTup h0 ta #[key, kv.2] ∧ knd.is kv.1 key = true ∧ ta ≠ S ∧ ta ∉ wr) (hsz : n ≤ sizeLine) :
    ∀ (k i : Nat) (s : Shared) (m : Int) (tk : Tok), n - i = k → i ≤ n → St i s.heap → s.heap.DictOf knd S (merged [] (ps.take i)) → (∀ b o, b ≠ S → b ∉ wr → h0.get? b = some o → s.heap.get? b = some o) →
      (∀ h' tk', h'.DictOf knd S (merged [] ps) → (∀ b o, b ≠ S → b ∉ wr → h0.get? b = some o → h'.get? b = some o) → R (.ok (.ret .none)) { s with heap := h', toks := tk' }) →
      codeAny (model prog w) A (.builtin "dict.update.loop" ⟨[.ref S, .ref I, .int m tk, .none], []⟩) R s := by
  have hSw : S ∉ wr := fun h => hSf (W.sub _ h)
  intro k
  induction k with
  | zero =>
    intro i s m tk hk hi hst hS hh hR
    have hin : i = n := by omega
    subst hin
    refine codeAny_builtin entry_dict_loop ?_
    rw [Around.under_plainId plain_dict_loop _]
    show wpAny _ A.in1 (pyNext (.ref I) >>= _) _ _ s
    refine wpAny_bind (W.done s _ _ hst fun h' tk' hm => ?_)
    show wpAny _ A.in1 (Builtin.Dict.addKeywords S [] >>= _) _ _ _
    refine wpAny_bind (wpAny_pure ?_)
    refine wpAny_pure (hR h' tk' ?_ fun b o hb hb' e => hm b o hb' (hh b o hb hb' e))
    rw [List.take_of_length_le (by omega)] at hS
    obtain ⟨o, es, ep, ho, rest⟩ := hS
    exact ⟨o, es, ep, hm S _ hSw ho, rest⟩
  | succ k ih =>
    intro i s m tk hk hi hst hS hh hR
    have hlt : i < n := by omega
    refine codeAny_builtin entry_dict_loop ?_
    rw [Around.under_plainId plain_dict_loop _]
    show wpAny _ A.in1 (pyNext (.ref I) >>= _) _ _ s
    refine wpAny_bind (W.item i s _ _ hlt hst fun v h' tk' hP hst' hm => ?_)
    obtain ⟨ta, key, kv, rfl, hkv, ⟨ot, hot, hct, mt, hdt⟩, hkey, hne, hnw⟩ := hval i v hP
    have hS' : h'.DictOf knd S (merged [] (ps.take i)) := by
      obtain ⟨o, es, ep, ho, rest⟩ := hS
      exact ⟨o, es, ep, hm S _ hSw ho, rest⟩
    have ht' : IsTup h' ta #[key, kv.2] := ⟨ot, hm ta _ hnw (hh ta _ hne hnw hot), hct, mt, hdt⟩
    refine wpAny_bind (wpAny_holding ?_)
    refine wpAny_bind (wpAny_tryCatch (pair_items ht' ?_))
    refine wpAny_holding ?_
    have hlen : (merged [] (ps.take i)).length ≤ sizeLine := by
      have := merged_length_le (K := K) [] (ps.take i)
      rw [List.length_take, List.length_nil] at this
      omega
    refine wpAny_dictSet_pairs (hsz := hlen) hkey hS' fun h'' hd'' hsb => ?_
    refine wpAny_pure ⟨plainId_quiet plain_dict_loop _, ih (i + 1) _ _ _ (by omega) hlt (W.frame _ _ _ hst' fun b hb o e => ?_) ?_ (fun b o hb hb' e => ?_) fun h3 tk3 hd3 hk3 => hR h3 tk3 hd3 hk3⟩
    · rw [hsb.2 b (fun h : b = S => hSf (by rw [← h]; exact hb))]; exact e
    · rw [merged_take_succ [] ps i kv hkv]; exact hd''
    · rw [hsb.2 b hb]; exact hm b o hb' (hh b o hb hb' e)
end
end DL
namespace DL
open PySem
open PyProof.Rows (IsTup)
section
variable {prog : Program} {w : World} {A : Around} {E : Value → Shared → Prop} {s : Shared} {K : Type} [DecidableEq K] {knd : KeyKind prog w K}
theorem call_dict_list {src : Addr} {o : Obj} {items : Array Value} {m : Nat} {ps : List (K × Value)} {Q : Value → Shared → Prop} (hx : s.heap.get? src = some o) (hc : o.cls = .type "list") (hd : o.data = .seq items m) (hdict : o.dict = none) (hA : A.handled = none)
    (hn : ps.length = items.size) (hsz : items.size ≤ sizeLine) (hval : ∀ (i : Nat) (v : Value), items[i]? = some v → ∃ (ta : Addr) (key : Value) (kv : K × Value), v = .ref ta ∧ ps[i]? = some kv ∧ IsTup s.heap ta #[key, kv.2] ∧ knd.is kv.1 key = true)
    (h : ∀ h' tk, h'.DictOf knd s.heap.objs.size (merged [] ps) → (∀ b o, s.heap.get? b = some o → h'.get? b = some o) → Q (.ref s.heap.objs.size) { s with heap := h', toks := tk }) :
    wpAny (model prog w) A (call (.type "dict") [.ref src]) Q E s := by
  refine callType_codes (Q₁ := fun obj s₁ => obj = .ref s.heap.objs.size ∧ s₁ = { s with heap := s.heap.push { cls := .type "dict", data := .dict #[] } }) F.kt_called_dict (F.kt_typeCall_dict_1 _) F.entry_dict_init (kt_code_dict_new _ ⟨rfl, rfl⟩) ?_
  rintro obj s₁ ⟨rfl, rfl⟩
  have hnew : (s.heap.push { cls := .type "dict", data := .dict #[] }).DictOf knd s.heap.objs.size [] := Heap.DictOf.new s.heap
  have hlt : src < s.heap.objs.size := Heap.lt_size hx
  have hx1 : (s.heap.push { cls := .type "dict", data := .dict #[] }).get? src = some o := Heap.get?_push_of_some _ hx
  have hT1 : Shared.TypeIs { s with heap := s.heap.push { cls := .type "dict", data := .dict #[] } } (.ref src) "list" := ⟨_, hx1, hc⟩
  refine ⟨hnew.typeIs, F.args_dict_init_2 _ _, ?_⟩
  unfold Builtin.«dict.__init__»
  refine wpAny_bind ?_
  unfold Builtin.Dict.selfAndRest
  refine wpAny_bind (wpAny_notOrdered_dict hnew.typeIs ?_)
  show wpAny _ _ (pure (s.heap.objs.size, [Value.ref src])) _ _ _
  refine wpAny_pure ?_
  show wpAny _ _ (Builtin.Dict.updateFrom "dict.__init__" s.heap.objs.size (.ref src) [] .none) _ _ _
  unfold Builtin.Dict.updateFrom
  refine wpAny_bind (wpAny_typeOf hT1 ?_)
  rw [if_pos (by decide)]
  have hA2 : A.in1.in1.handled = none := by simp [hA]
  refine wpAny_bind (keys_miss_list hx1 hc hd hdict hA2 fun h2 tk2 k2 => ?_)
  simp only [Option.isNone_none, if_true]
  refine wpAny_bind (wpAny_rule ?_)
  have hx2 : h2.get? src = some o := k2 _ _ hx1
  have hl2 : h2.IsList src items := ⟨o, hx2, hc, m, hd⟩
  have hS2 : h2.DictOf knd s.heap.objs.size [] := by
    obtain ⟨o, es, ep, ho, rest⟩ := hnew
    exact ⟨o, es, ep, k2 _ _ ho, rest⟩
  have hlt2 : s.heap.objs.size < h2.objs.size := by
    obtain ⟨o, es, ep, ho, rest⟩ := hS2
    exact Heap.lt_size ho
  refine wpAny_bind (wpAny_pyIter_list hl2 ?_)
  have hA1 : A.in1.in1.handled = none := hA2
  refine wpAny_pure ⟨plainId_quiet plain_dict_loop _, ?_⟩
  have hkeep : ∀ b ob, s.heap.get? b = some ob → h2.get? b = some ob := fun b ob e => k2 _ _ (Heap.get?_push_of_some _ e)
  refine codeAny_dict_loop (knd := knd) (Walks.list (A := A.in1.in1) hA1 h2.objs.size src (Nat.ne_of_lt (Nat.lt_trans hlt hlt2)) items) s.heap.objs.size ?_ s.heap ps hn ?_ hsz items.size 0 _ _ _ (by omega) (Nat.zero_le _) ?_ ?_ ?_ ?_
  · simp only [List.mem_cons, List.not_mem_nil, or_false, not_or]
    exact ⟨Nat.ne_of_lt hlt2, Nat.ne_of_gt hlt⟩
  · intro i v hv
    obtain ⟨ta, key, kv, e1, e2, e3, e4⟩ := hval i v hv
    have hta : ta < s.heap.objs.size := by obtain ⟨_, e, _⟩ := e3; exact Heap.lt_size e
    exact ⟨ta, key, kv, e1, e2, e3, e4, Nat.ne_of_lt hta, by simp only [List.mem_cons, List.not_mem_nil, or_false]; exact Nat.ne_of_lt (Nat.lt_trans hta hlt2)⟩
  · exact ⟨⟨_, Heap.get?_push_size _ rfl, rfl, rfl⟩, hl2.push _⟩
  · show Heap.DictOf knd (h2.push _) _ _
    exact hS2.push _
  · intro b ob hb hb' e
    exact Heap.get?_push_of_some _ (hkeep b ob e)
  · intro h' tk' hd' hk'
    refine ⟨rfl, h h' tk' hd' fun b ob e => hk' b ob ?_ ?_ e⟩
    · exact Nat.ne_of_lt (Heap.lt_size e)
    · simp only [List.mem_cons, List.not_mem_nil, or_false]
      exact Nat.ne_of_lt (Nat.lt_trans (Heap.lt_size e) hlt2)
theorem call_dict_tuple {src : Addr} {o : Obj} {items : Array Value} {m : Nat} {ps : List (K × Value)} {Q : Value → Shared → Prop} (hx : s.heap.get? src = some o) (hc : o.cls = .type "tuple") (hd : o.data = .seq items m) (hdict : o.dict = none) (hA : A.handled = none)
    (hn : ps.length = items.size) (hsz : items.size ≤ sizeLine) (hval : ∀ (i : Nat) (v : Value), items[i]? = some v → ∃ (ta : Addr) (key : Value) (kv : K × Value), v = .ref ta ∧ ps[i]? = some kv ∧ IsTup s.heap ta #[key, kv.2] ∧ knd.is kv.1 key = true)
    (h : ∀ h' tk, h'.DictOf knd s.heap.objs.size (merged [] ps) → (∀ b o, s.heap.get? b = some o → h'.get? b = some o) → Q (.ref s.heap.objs.size) { s with heap := h', toks := tk }) :
    wpAny (model prog w) A (call (.type "dict") [.ref src]) Q E s := by
  refine callType_codes (Q₁ := fun obj s₁ => obj = .ref s.heap.objs.size ∧ s₁ = { s with heap := s.heap.push { cls := .type "dict", data := .dict #[] } }) F.kt_called_dict (F.kt_typeCall_dict_1 _) F.entry_dict_init (kt_code_dict_new _ ⟨rfl, rfl⟩) ?_
  rintro obj s₁ ⟨rfl, rfl⟩
  have hnew : (s.heap.push { cls := .type "dict", data := .dict #[] }).DictOf knd s.heap.objs.size [] := Heap.DictOf.new s.heap
  have hlt : src < s.heap.objs.size := Heap.lt_size hx
  have hx1 : (s.heap.push { cls := .type "dict", data := .dict #[] }).get? src = some o := Heap.get?_push_of_some _ hx
  have hT1 : Shared.TypeIs { s with heap := s.heap.push { cls := .type "dict", data := .dict #[] } } (.ref src) "tuple" := ⟨_, hx1, hc⟩
  refine ⟨hnew.typeIs, F.args_dict_init_2 _ _, ?_⟩
  unfold Builtin.«dict.__init__»
  refine wpAny_bind ?_
  unfold Builtin.Dict.selfAndRest
  refine wpAny_bind (wpAny_notOrdered_dict hnew.typeIs ?_)
  show wpAny _ _ (pure (s.heap.objs.size, [Value.ref src])) _ _ _
  refine wpAny_pure ?_
  show wpAny _ _ (Builtin.Dict.updateFrom "dict.__init__" s.heap.objs.size (.ref src) [] .none) _ _ _
  unfold Builtin.Dict.updateFrom
  refine wpAny_bind (wpAny_typeOf hT1 ?_)
  rw [if_pos (by decide)]
  have hA2 : A.in1.in1.handled = none := by simp [hA]
  refine wpAny_bind (keys_miss_tuple hx1 hc hd hdict hA2 fun h2 tk2 k2 => ?_)
  simp only [Option.isNone_none, if_true]
  refine wpAny_bind (wpAny_rule ?_)
  have hx2 : h2.get? src = some o := k2 _ _ hx1
  have hl2 : h2.IsTuple src items := ⟨o, hx2, hc, m, hd⟩
  have hS2 : h2.DictOf knd s.heap.objs.size [] := by
    obtain ⟨o, es, ep, ho, rest⟩ := hnew
    exact ⟨o, es, ep, k2 _ _ ho, rest⟩
  have hlt2 : s.heap.objs.size < h2.objs.size := by
    obtain ⟨o, es, ep, ho, rest⟩ := hS2
    exact Heap.lt_size ho
  refine wpAny_bind (wpAny_pyIter_tuple hl2 ?_)
  have hA1 : A.in1.in1.handled = none := hA2
  refine wpAny_pure ⟨plainId_quiet plain_dict_loop _, ?_⟩
  have hkeep : ∀ b ob, s.heap.get? b = some ob → h2.get? b = some ob := fun b ob e => k2 _ _ (Heap.get?_push_of_some _ e)
  refine codeAny_dict_loop (knd := knd) (Walks.tuple (A := A.in1.in1) hA1 h2.objs.size src (Nat.ne_of_lt (Nat.lt_trans hlt hlt2)) items) s.heap.objs.size ?_ s.heap ps hn ?_ hsz items.size 0 _ _ _ (by omega) (Nat.zero_le _) ?_ ?_ ?_ ?_
  · simp only [List.mem_cons, List.not_mem_nil, or_false, not_or]
    exact ⟨Nat.ne_of_lt hlt2, Nat.ne_of_gt hlt⟩
  · intro i v hv
    obtain ⟨ta, key, kv, e1, e2, e3, e4⟩ := hval i v hv
    have hta : ta < s.heap.objs.size := by obtain ⟨_, e, _⟩ := e3; exact Heap.lt_size e
    exact ⟨ta, key, kv, e1, e2, e3, e4, Nat.ne_of_lt hta, by simp only [List.mem_cons, List.not_mem_nil, or_false]; exact Nat.ne_of_lt (Nat.lt_trans hta hlt2)⟩
  · exact ⟨⟨_, Heap.get?_push_size _ rfl, rfl, rfl⟩, hl2.push _⟩
  · show Heap.DictOf knd (h2.push _) _ _
    exact hS2.push _
  · intro b ob hb hb' e
    exact Heap.get?_push_of_some _ (hkeep b ob e)
  · intro h' tk' hd' hk'
    refine ⟨rfl, h h' tk' hd' fun b ob e => hk' b ob ?_ ?_ e⟩
    · exact Nat.ne_of_lt (Heap.lt_size e)
    · simp only [List.mem_cons, List.not_mem_nil, or_false]
      exact Nat.ne_of_lt (Nat.lt_trans (Heap.lt_size e) hlt2)
end
end DL
namespace DL
open PySem PySem.Spec L2
open PyProof.Rows hiding St
def pairK : D → Option (Key × D)
  | .tup [k, v] => match keyD k with
    | some q => some (q, v)
    | none => none
  | _ => none
def pairsK : List D → Option (List (Key × D))
  | [] => some []
  | d :: r => match pairK d, pairsK r with
    | some p, some ps => some (p :: ps)
    | _, _ => none
def putAll (acc : List (Key × D)) (l : List (Key × D)) : List (Key × D) := l.foldl (fun acc kv => putKD acc kv.1 kv.2) acc
def dictF : List D → M D := fun ds => match ds with
  | [.tup l] => do
    let ps ← optM (pairsK l)
    allocM (.dct (putAll [] ps))
  | [.ref r] => do
    let l ← objM r >>= listOf
    let ps ← optM (pairsK l)
    allocM (.dct (putAll [] ps))
  | _ => M.stuck
section
variable {X : Cx} {Z : XC} {c : Wc} {μ : List Addr} {H : Hp} {G : DH}
theorem pairK_is {d : D} {p : Key × D} (h : pairK d = some p) : ∃ k, d = .tup [k, p.2] ∧ keyD k = some p.1 := by
  unfold pairK at h
  split at h
  · rename_i k v
    cases e : keyD k with
    | none => rw [e] at h; cases h
    | some q => rw [e] at h; cases h; exact ⟨k, rfl, e⟩
  · cases h
theorem pairs_are {pins : List (Addr × Obj)} {s : Shared} {σ : St} (I : Inv X pins σ H s) : ∀ {l : List D} {ps : List (Key × D)} {vs : List V} {its : List Value}, pairsK l = some ps → RepL (wc X) μ H l vs → Vals vs its →
    ∃ (kvs : List (Key × V)) (ws : List (Key × Value)), RepK (wc X) μ H ps kvs ∧ KV kvs ws ∧ ws.length = its.length ∧ ∀ (i : Nat) (v : Value), its[i]? = some v → ∃ (ta : Addr) (key : Value) (kv : Key × Value), v = .ref ta ∧ ws[i]? = some kv ∧ IsTup s.heap ta #[key, kv.2] ∧ (mixKind X.prog X.w).is kv.1 key = true
  | [], ps, vs, its, e, rl, rv => by
    cases e; cases rl; cases rv
    exact ⟨[], [], rfl, .nil, rfl, fun i v h => by simp at h⟩
  | d :: r, ps, vs, its, e, rl, rv => by
    unfold pairsK at e
    split at e
    · rename_i p qs e1 e2
      cases e
      obtain ⟨v, t, rfl, r0, rt⟩ := rl
      cases rv with
      | cons q0 qt =>
        obtain ⟨kvs, ws, h1, h2, h3, h4⟩ := pairs_are I e2 rt qt
        obtain ⟨k, rfl, hk⟩ := pairK_is e1
        unfold RepV at r0
        obtain ⟨a, us, rfl, hq, ru⟩ := r0
        obtain ⟨x, y, rfl, rx, ry⟩ := rep2 ru
        obtain ⟨its2, rr, ht, _⟩ := I.tuple hq
        obtain ⟨p1, p2⟩ := p
        cases rr with
        | cons rr0 rr1 =>
          cases rr1 with
          | cons rr2 rr3 =>
            cases rr3
            rename_i w0 w1
            have ex := key_rep hk rx
            subst ex
            cases (show _ = Value.ref a from q0)
            refine ⟨(p1, y) :: kvs, (p1, w1) :: ws, ⟨y, kvs, rfl, ry, h1⟩, .cons ⟨rfl, rr2⟩ h2, by simp [h3], fun i v hv => ?_⟩
            cases i with
            | zero =>
              simp only [List.getElem?_cons_zero, Option.some.injEq] at hv
              subst hv
              exact ⟨a, w0, (p1, w1), rfl, rfl, ht, kV_is rr0⟩
            | succ i => exact h4 i v (by simpa using hv)
    · cases e
theorem repK_all : ∀ {ps : List (Key × D)} {kvs : List (Key × V)} {acc : List (Key × D)} {acc' : List (Key × V)}, RepK c μ H ps kvs → RepK c μ H acc acc' → RepK c μ H (putAll acc ps) (kvs.foldl (fun acc kv => putK acc kv.1 kv.2) acc')
  | [], _, _, _, r, q => by cases r; exact q
  | (k, d) :: t, _, _, _, r, q => by
    obtain ⟨v, kt, rfl, rv, rt⟩ := r
    have z := repK_all rt (repK_put (k := k) rv q)
    exact z
theorem kv_all : ∀ {kvs : List (Key × V)} {ws : List (Key × Value)} {acc : List (Key × V)} {acc' : List (Key × Value)}, KV kvs ws → KV acc acc' → KV (kvs.foldl (fun acc kv => putK acc kv.1 kv.2) acc) (merged acc' ws)
  | _, _, _, _, .nil, q => q
  | _, _, _, _, .cons (a := p) (b := r) ⟨e, rv⟩ t, q => by
    obtain ⟨k, v⟩ := p
    obtain ⟨k', u⟩ := r
    cases (show k = k' from e)
    have z := kv_all t (q.put k rv)
    exact z
theorem dict_end {pins : List (Addr × Obj)} {s : Shared} {σ : St} {Q : VK} {ps : List (Key × D)} {kvs : List (Key × V)} {ws : List (Key × Value)} {h' : Heap} {tk : Nat} (I : Inv X pins σ H s) (hr : HRep (wc X) μ G H) (h1 : RepK (wc X) μ H ps kvs) (h2 : KV kvs ws) (hz : ws.length ≤ sizeLine)
    (p : Post (wc X) Z μ H (allocM (.dct (putAll [] ps)) G) fun d μ' _ H' => ∀ v, RepV (wc X) μ' H' d v → Q v H')
    (hd : h'.DictOf (mixKind X.prog X.w) s.heap.objs.size (merged [] ws)) (hk : ∀ b o, s.heap.get? b = some o → h'.get? b = some o) : EP X pins σ Q (.ref s.heap.objs.size) { s with heap := h', toks := tk } := by
  have k3 := kv_all h2 (.nil : KV [] [])
  have hl : (kvs.foldl (fun acc kv => putK acc kv.1 kv.2) []).length ≤ sizeLine := by
    rw [k3.length]
    have := merged_length_le (K := Key) [] ws
    rw [List.length_nil] at this
    omega
  have hq : H s.heap.objs.size = none := I.hok.fresh (Nat.le_refl _)
  refine ⟨.ref s.heap.objs.size, _, I.laid (t' := tk) (o := .dK (kvs.foldl (fun acc kv => putK acc kv.1 kv.2) [])) hk (Nat.le_refl _) (dk_new hl (beq_eq_false_iff_ne.mpr (Ne.symm (Nat.ne_of_lt I.big))) k3 hd), rfl, ?_⟩
  have k : Ext μ H (μ ++ [s.heap.objs.size]) (upd H s.heap.objs.size (.dK (kvs.foldl (fun acc kv => putK acc kv.1 kv.2) []))) := Ext.add hq _
  have e0 : RepK (wc X) μ H (putAll [] ps) (kvs.foldl (fun acc kv => putK acc kv.1 kv.2) []) := repK_all h1 rfl
  refine p (μ ++ [s.heap.objs.size]) _ k (hr.new hq ⟨_, upd_same, e0.mono k⟩) _ ?_
  unfold RepV
  exact ⟨s.heap.objs.size, by rw [← hr.len]; simp, rfl⟩
theorem cd_dict (hc : X.calm = true) : CallD X Z (.type "dict") dictF := ⟨by
  intro pins s σ H xs us Q I r ⟨ds, μ, G, rl, hr, p⟩
  have hh : X.A.handled = none := I.ok.hd hc
  unfold dictF at p
  split at p
  · rename_i l
    obtain ⟨v, rfl, rv⟩ := rep1 rl
    obtain ⟨u, rfl, ru⟩ := vals1 r
    unfold RepV at rv
    obtain ⟨a, vs, rfl, q, rl'⟩ := rv
    cases ru
    obtain ⟨ps, eps, p2⟩ := optM_post p
    obtain ⟨its, rr, ⟨o, g1, g2, n, g3⟩, hz⟩ := I.tupleN q
    obtain ⟨kvs, ws, h1, h2, h3, h4⟩ := pairs_are I eps rl' rr
    have hlen := rr.length
    exact call_dict_tuple (knd := mixKind X.prog X.w) (ps := ws) g1 g2 (Prod.mk.inj g3).1 (Prod.mk.inj g3).2 hh (by simpa using h3) (by simp only [List.size_toArray]; omega) (fun i v hv => h4 i v (by simpa using hv)) fun h' tk hd hk => dict_end I hr h1 h2 (by omega) p2 hd hk
  · rename_i i
    obtain ⟨v, rfl, rv⟩ := rep1 rl
    obtain ⟨u, rfl, ru⟩ := vals1 r
    obtain ⟨l, a, vs, rfl, rl', q, p1⟩ := seq_of_ref hr rv p
    cases ru
    obtain ⟨ps, eps, p2⟩ := optM_post p1
    obtain ⟨its, rr, ⟨o, n, g1, g2, g3, g4⟩, hz⟩ := I.list q
    obtain ⟨kvs, ws, h1, h2, h3, h4⟩ := pairs_are I eps rl' rr
    have hlen := rr.length
    exact call_dict_list (knd := mixKind X.prog X.w) (ps := ws) g1 g2 g4 g3 hh (by simpa using h3) (by simp only [List.size_toArray]; omega) (fun i v hv => h4 i v (by simpa using hv)) fun h' tk hd hk => dict_end I hr h1 h2 (by omega) p2 hd hk
  · exact p.elim⟩
theorem bd_dict (h : X.calm = true) : BD dictF "dict" X Z := ⟨.inr ⟨_, cd_dict h, bt_dict⟩⟩
end
end DL
namespace W
open PySem PySem.Spec L2 DL
open PyProof.Rows hiding St
end W
set_option Elab.async false
set_option linter.all false
set_option maxRecDepth 100000
namespace DL
open PySem PySem.Spec L2
open PyProof.Rows hiding St
section
variable {X : Cx} {Z : XC} {c : Wc} {μ : List Addr} {H : Hp}
end
end DL
namespace W
open PySem PySem.Spec L2 DL
open PyProof.Rows hiding St
end W
set_option Elab.async false
set_option linter.all false
set_option maxRecDepth 100000
namespace DL
open PySem PySem.Spec L2
open PyProof.Rows hiding St
section
variable {X : Cx} {Z : XC} {a b e : Expr} {fa fb : Fe} {pos : Pos}
end
end DL
namespace W
open PySem PySem.Spec L2 DL
open PyProof.Rows hiding St
end W
set_option Elab.async false
set_option linter.all false
set_option maxRecDepth 100000
namespace DL
open PySem PySem.W
open PyProof.Rows hiding St
def tOk {α : Type} (lt : Nat → Nat → Bool) (n : Nat) : KasT α → (α → Prop) → Prop
  | .ret a, Q => Q a
  | .ask i j k, Q => i < n ∧ j < n ∧ tOk lt n (k (lt i j)) Q
section
variable {α β : Type} {lt : Nat → Nat → Bool} {n : Nat}
theorem tOk.bind {f : α → KasT β} {Q : β → Prop} : ∀ (t : KasT α), tOk lt n t (fun a => tOk lt n (f a) Q) → tOk lt n (t.bind f) Q
  | .ret _, h => h
  | .ask i j k, h => ⟨h.1, h.2.1, tOk.bind (k (lt i j)) h.2.2⟩
theorem tOk.mono {Q Q' : α → Prop} (hq : ∀ a, Q a → Q' a) : ∀ (t : KasT α), tOk lt n t Q → tOk lt n t Q'
  | .ret a, h => hq a h
  | .ask i j k, h => ⟨h.1, h.2.1, tOk.mono hq (k (lt i j)) h.2.2⟩
theorem tOk.wp {cmp : Nat → Nat → (Bool → Shared → Prop) → Shared → Prop} {s : Shared} {Q : α → Prop} (hc : ∀ i j (C : Bool → Shared → Prop), i < n → j < n → C (lt i j) s → cmp i j C s) : ∀ (t : KasT α), tOk lt n t Q → t.kasWp cmp (fun a s' => s' = s ∧ Q a) s
  | .ret a, h => ⟨rfl, h⟩
  | .ask i j k, h => hc i j _ h.1 h.2.1 (tOk.wp hc (k (lt i j)) h.2.2)
end
structure OrdN (lt : Nat → Nat → Bool) (n : Nat) : Prop where
  tr : ∀ i j k, lt i j = true → lt j k = true → lt i k = true
  tot : ∀ i j, i < n → j < n → i ≠ j → lt i j = false → lt j i = true
structure PermN (p : Array Nat) (n : Nat) : Prop where
  pm : p.toList.Perm (List.range n)
section
variable {lt : Nat → Nat → Bool} {n : Nat} {p : Array Nat}
theorem PermN.size (h : PermN p n) : p.size = n := by have := h.pm.length_eq; simpa using this
theorem PermN.bd (h : PermN p n) {k : Nat} (hk : k < n) : p.getD k 0 < n := by
  have hs := h.size
  have e : p.getD k 0 = p[k]'(by omega) := by simp [Array.getD, hs, hk]
  rw [e]
  have : p[k]'(by omega) ∈ p.toList := by simp
  have := h.pm.mem_iff.mp this
  simpa using this
theorem PermN.ne (h : PermN p n) {i j : Nat} (hi : i < n) (hj : j < n) (hij : i ≠ j) : p.getD i 0 ≠ p.getD j 0 := by
  have hs := h.size
  have nd : p.toList.Nodup := h.pm.nodup_iff.mpr List.nodup_range
  have e1 : p.getD i 0 = p.toList[i]'(by simp; omega) := by simp [Array.getD, hs, hi]
  have e2 : p.getD j 0 = p.toList[j]'(by simp; omega) := by simp [Array.getD, hs, hj]
  rw [e1, e2]
  intro e
  exact hij ((List.getElem_inj nd).mp e)
def upTo (lt : Nat → Nat → Bool) (p : Array Nat) (m : Nat) : Prop := ∀ i j, i < j → j < m → lt (p.getD i 0) (p.getD j 0) = true
def dnTo (lt : Nat → Nat → Bool) (p : Array Nat) (m : Nat) : Prop := ∀ i j, i < j → j < m → lt (p.getD j 0) (p.getD i 0) = true
theorem up_snoc (O : OrdN lt n) {k : Nat} (hk : 1 ≤ k) (h : upTo lt p k) (hl : lt (p.getD (k - 1) 0) (p.getD k 0) = true) : upTo lt p (k + 1) := by
  intro i j hij hj
  by_cases hj' : j < k
  · exact h i j hij hj'
  · have ej : j = k := by omega
    subst ej
    by_cases hi : i = j - 1
    · rw [hi]; exact hl
    · exact O.tr _ _ _ (h i (j - 1) (by omega) (by omega)) hl
theorem dn_snoc (O : OrdN lt n) {k : Nat} (hk : 1 ≤ k) (h : dnTo lt p k) (hl : lt (p.getD k 0) (p.getD (k - 1) 0) = true) : dnTo lt p (k + 1) := by
  intro i j hij hj
  by_cases hj' : j < k
  · exact h i j hij hj'
  · have ej : j = k := by omega
    subst ej
    by_cases hi : i = j - 1
    · rw [hi]; exact hl
    · exact O.tr _ _ _ hl (h i (j - 1) (by omega) (by omega))
theorem asc_ok (O : OrdN lt n) (P : PermN p n) : ∀ (f k : Nat), 1 ≤ k → k + f ≤ n → upTo lt p k → tOk lt n (kas_asc p f k) (fun m => k ≤ m ∧ m ≤ k + f ∧ upTo lt p m ∧ (m < k + f → lt (p.getD m 0) (p.getD (m - 1) 0) = true))
  | 0, k, h1, h2, u => ⟨Nat.le_refl _, Nat.le_refl _, u, fun z => by omega⟩
  | f + 1, k, h1, h2, u => by
    unfold kas_asc
    refine ⟨P.bd (by omega), P.bd (by omega), ?_⟩
    cases e : lt (p.getD k 0) (p.getD (k - 1) 0) with
    | true => exact ⟨Nat.le_refl _, by omega, u, fun _ => e⟩
    | false =>
      have hl := O.tot _ _ (P.bd (show k < n by omega)) (P.bd (show k - 1 < n by omega)) (P.ne (by omega) (by omega) (by omega)) e
      simp only [Bool.false_eq_true, if_false]
      exact (asc_ok O P f (k + 1) (by omega) (by omega) (up_snoc O h1 u hl)).mono fun m ⟨a, b, c, d⟩ => ⟨by omega, by omega, c, fun z => d (by omega)⟩
theorem desc_ok (O : OrdN lt n) (P : PermN p n) : ∀ (f k : Nat), 1 ≤ k → k + f ≤ n → dnTo lt p k → tOk lt n (kas_desc f p k 0) (fun r => r.1 = p ∧ r.2.2 = 0 ∧ k ≤ r.2.1 ∧ r.2.1 ≤ k + f ∧ dnTo lt p r.2.1)
  | 0, k, h1, h2, u => ⟨rfl, rfl, Nat.le_refl _, Nat.le_refl _, u⟩
  | f + 1, k, h1, h2, u => by
    unfold kas_desc
    refine ⟨P.bd (by omega), P.bd (by omega), ?_⟩
    cases e : lt (p.getD k 0) (p.getD (k - 1) 0) with
    | true =>
      simp only [if_true, Nat.lt_irrefl, if_false, gt_iff_lt]
      exact (desc_ok O P f (k + 1) (by omega) (by omega) (dn_snoc O h1 u e)).mono fun r ⟨a, b, c, d, g⟩ => ⟨a, b, by omega, by omega, g⟩
    | false =>
      have hl := O.tot _ _ (P.bd (show k < n by omega)) (P.bd (show k - 1 < n by omega)) (P.ne (by omega) (by omega) (by omega)) e
      simp only [Bool.false_eq_true, if_false]
      refine ⟨P.bd (by omega), P.bd (by omega), ?_⟩
      rw [hl]
      exact ⟨rfl, rfl, Nat.le_refl _, Nat.le_add_right _ _, u⟩
theorem getD_opt (p : Array Nat) (k : Nat) : p.getD k 0 = (p[k]?).getD 0 := by
  by_cases h : k < p.size <;> simp [Array.getD, h]
theorem rev_perm {i j : Nat} (P : PermN p n) : PermN (kas_rev p i j) n := ⟨(Array.perm_iff_toList_perm.mp (mirror_perm p i j _)).trans P.pm⟩
theorem rev_up (P : PermN p n) {m : Nat} (hm : m ≤ n) (d : dnTo lt p m) : upTo lt (kas_rev p 0 m) m := by
  intro i j hij hj
  have hs := P.size
  have e : ∀ k, k < m → (kas_rev p 0 m).getD k 0 = p.getD (m - 1 - k) 0 := fun k hk => by
    rw [getD_opt, getD_opt]
    unfold kas_rev
    rw [getElem?_mirror_all (by omega), if_pos ⟨Nat.zero_le _, hk⟩, Nat.zero_add]
  rw [e i (by omega), e j hj]
  exact d (m - 1 - j) (m - 1 - i) (by omega) (by omega)
theorem descPart_ok (O : OrdN lt n) (P : PermN p n) (h2 : 2 ≤ n) (d : dnTo lt p 2) : tOk lt n (kas_descPart 1 n p) (fun r => PermN r.2 n ∧ 1 ≤ r.1 ∧ r.1 ≤ n ∧ upTo lt r.2 r.1) := by
  unfold kas_descPart
  refine tOk.bind _ ((desc_ok O P (n - (1 + 1)) (1 + 1) (by omega) (by omega) d).mono fun r ⟨a, b, c, e, g⟩ => ?_)
  obtain ⟨r1, r2, r3⟩ := r
  dsimp only at a b c e g ⊢
  subst a b
  rw [if_neg (Nat.lt_irrefl 0)]
  unfold kas_tail3
  refine tOk.bind _ ((asc_ok O (rev_perm P) (n - r2) r2 (by omega) (by omega) (rev_up P (by omega) g)).mono fun m ⟨a1, a2, a3, _⟩ => ?_)
  exact ⟨rev_perm P, by omega, by omega, a3⟩
theorem count_ok (O : OrdN lt n) (P : PermN p n) (h2 : 2 ≤ n) : tOk lt n (kas_count n p) (fun r => PermN r.2 n ∧ 1 ≤ r.1 ∧ r.1 ≤ n ∧ upTo lt r.2 r.1) := by
  unfold kas_count
  refine tOk.bind _ ((asc_ok O P (n - 1) 1 (Nat.le_refl _) (by omega) (fun i j _ _ => by omega)).mono fun m ⟨a1, a2, a3, a4⟩ => ?_)
  by_cases hm : m = n
  · rw [if_pos (by simpa using hm)]
    exact ⟨P, a1, by omega, a3⟩
  · rw [if_neg (by simpa using hm)]
    by_cases h1 : m > 1
    · rw [if_pos h1]
      refine ⟨P.bd (by omega), P.bd (by omega), ?_⟩
      rw [a3 0 (m - 1) (by omega) (by omega)]
      exact ⟨P, a1, by omega, a3⟩
    · rw [if_neg h1]
      have em : m = 1 := by omega
      subst em
      refine descPart_ok O P h2 fun i j hij hj => ?_
      have e1 : i = 0 := by omega
      have e2 : j = 1 := by omega
      subst e1 e2
      exact a4 (by omega)
theorem place_ok (O : OrdN lt n) (P : PermN p n) {k : Nat} (hk : k < n) (u : upTo lt p k) : ∀ (f l r : Nat), l ≤ r → r ≤ k → r - l ≤ f → (∀ i, i < l → lt (p.getD i 0) (p.getD k 0) = true) → (∀ i, r ≤ i → i < k → lt (p.getD k 0) (p.getD i 0) = true) →
    tOk lt n (kas_place p k f l r) (fun L => L ≤ k ∧ (∀ i, i < L → lt (p.getD i 0) (p.getD k 0) = true) ∧ ∀ i, L ≤ i → i < k → lt (p.getD k 0) (p.getD i 0) = true)
  | 0, l, r, h1, h2, h3, a, b => ⟨by omega, a, fun i hi => b i (by omega)⟩
  | f + 1, l, r, h1, h2, h3, a, b => by
    unfold kas_place
    by_cases h : l ≥ r
    · rw [if_pos h]
      exact ⟨by omega, a, fun i hi => b i (by omega)⟩
    · rw [if_neg h]
      have hm1 : l ≤ (l + r) / 2 := by omega
      have hm2 : (l + r) / 2 < r := by omega
      refine ⟨P.bd hk, P.bd (by omega), ?_⟩
      cases e : lt (p.getD k 0) (p.getD ((l + r) / 2) 0) with
      | true =>
        simp only [if_true]
        refine place_ok O P hk u f l _ hm1 (by omega) (by omega) a fun i hi hik => ?_
        by_cases ei : i = (l + r) / 2
        · rw [ei]; exact e
        · exact O.tr _ _ _ e (u _ i (by omega) hik)
      | false =>
        simp only [Bool.false_eq_true, if_false]
        have hl := O.tot _ _ (P.bd hk) (P.bd (show (l + r) / 2 < n by omega)) (P.ne hk (by omega) (by omega)) e
        refine place_ok O P hk u f _ r (by omega) h2 (by omega) (fun i hi => ?_) b
        by_cases ei : i = (l + r) / 2
        · rw [ei]; exact hl
        · exact O.tr _ _ _ (u i ((l + r) / 2) (by omega) (by omega)) hl
theorem bin_ok (O : OrdN lt n) : ∀ (f k : Nat) (p : Array Nat), PermN p n → k + f = n → upTo lt p k → tOk lt n (kas_bin f p k) (fun q => PermN q n ∧ upTo lt q n)
  | 0, k, p, P, h, u => ⟨P, by rw [← h]; exact u⟩
  | f + 1, k, p, P, h, u => by
    unfold kas_bin
    refine tOk.bind _ ((place_ok O P (show k < n by omega) u k 0 k (Nat.zero_le _) (Nat.le_refl _) (by omega) (fun i hi => by omega) (fun i h1 h2 => by omega)).mono fun L ⟨hL, a, b⟩ => ?_)
    have hs := P.size
    refine bin_ok O f (k + 1) _ ⟨(Array.perm_iff_toList_perm.mp (bubble_perm p k (k - L))).trans P.pm⟩ (by omega) ?_
    have e : ∀ i, (bubble p k (k - L)).getD i 0 = if i = L then p.getD k 0 else if L < i ∧ i ≤ k then p.getD (i - 1) 0 else p.getD i 0 := fun i => by
      rw [getD_opt, getElem?_bubble (by omega) _ (by omega), show k - (k - L) = L by omega]
      split
      · rw [← getD_opt]
      · split <;> rw [← getD_opt]
    intro i j hij hj
    rw [e i, e j]
    by_cases h1 : i = L
    · rw [if_pos h1, if_neg (by omega), if_pos (by omega)]
      exact b (j - 1) (by omega) (by omega)
    · rw [if_neg h1]
      by_cases h2 : j = L
      · rw [if_pos h2, if_neg (by omega)]
        exact a i (by omega)
      · rw [if_neg h2]
        by_cases h3 : L < i
        · rw [if_pos (by omega), if_pos (by omega)]
          exact u _ _ (by omega) (by omega)
        · rw [if_neg (by omega)]
          by_cases h4 : L < j
          · rw [if_pos (by omega)]
            by_cases h5 : i < j - 1
            · exact u _ _ h5 (by omega)
            · omega
          · rw [if_neg (by omega)]
            exact u _ _ hij (by omega)
theorem sort_ok (O : OrdN lt n) (h2 : 2 ≤ n) : tOk lt n (kas_sort n) (fun q => PermN q n ∧ upTo lt q n) := by
  unfold kas_sort
  refine tOk.bind _ ((count_ok O ⟨by simp⟩ h2).mono fun r ⟨a, b, c, d⟩ => ?_)
  by_cases h : r.1 < n
  · rw [if_pos h, show max r.1 1 = r.1 by omega]
    exact bin_ok O _ _ _ a (by omega) d
  · rw [if_neg h]
    exact ⟨a, by rw [show n = r.1 by omega]; exact d⟩
end
end DL
set_option Elab.async false
set_option linter.all false
set_option maxRecDepth 100000
namespace DL
open PySem PySem.Spec L2
open PyProof.Rows hiding St
def keysM (F : List D → M D) : List D → M (List D)
  | [] => pure []
  | d :: r => do
    let k ← noX (F [d])
    let ks ← keysM F r
    pure (k :: ks)
def keyIS : D → Option (Int × Str)
  | .tup [.int a, .str x] => some (a, x)
  | _ => none
def keysIS : List D → Option (List (Int × Str))
  | [] => some []
  | d :: r => match keyIS d, keysIS r with
    | some a, some b => some (a :: b)
    | _, _ => none
def ltIS (p q : Int × Str) : Bool := if p.1 = q.1 then decide (p.2.cps.toList < q.2.cps.toList) else decide (p.1 < q.1)
def leIS (p q : (Int × Str) × D) : Bool := !ltIS q.1 p.1
def sortIS (qs : List (Int × Str)) (l : List D) : List D := ((qs.zip l).mergeSort leIS).map (·.2)
def sortKs (F : List D → M D) (l : List D) : M D := do
  let ks ← keysM F l
  let qs ← optM (keysIS ks)
  if qs.Nodup then allocM (.lst (sortIS qs l)) else M.stuck
def sortKD (F : List D → M D) : D → M D
  | .tup l => if l.length < 64 then sortKs F l else M.stuck
  | .ref r => do
    match ← objM r with
    | .lst l => if l.length < 64 then sortKs F l else M.stuck
    | .dct l => do
      let ss ← optM (keyStrs l)
      if ss.length < 64 then sortKs F (ss.map .str) else M.stuck
    | _ => M.stuck
  | _ => M.stuck
def sortKE (F : List D → M D) (f : Fe) : Fe := fun σ => do
  let x ← f σ
  sortKD F x
theorem ltIS_irr (p : Int × Str) : ltIS p p = false := by
  unfold ltIS
  rw [if_pos rfl, decide_eq_false]
  exact List.lt_irrefl _
theorem ltIS_tr {p q r : Int × Str} (h1 : ltIS p q = true) (h2 : ltIS q r = true) : ltIS p r = true := by
  unfold ltIS at *
  by_cases e1 : p.1 = q.1
  · rw [if_pos e1] at h1
    by_cases e2 : q.1 = r.1
    · rw [if_pos e2] at h2
      rw [if_pos (e1.trans e2)]
      simp only [decide_eq_true_eq] at *
      exact List.lt_trans h1 h2
    · rw [if_neg e2] at h2
      rw [if_neg (by rw [e1]; exact e2), e1]
      exact h2
  · rw [if_neg e1] at h1
    simp only [decide_eq_true_eq] at h1
    by_cases e2 : q.1 = r.1
    · rw [if_pos e2] at h2
      rw [if_neg (by rw [← e2]; exact e1), ← e2]
      exact decide_eq_true h1
    · rw [if_neg e2] at h2
      simp only [decide_eq_true_eq] at h2
      rw [if_neg (by omega)]
      exact decide_eq_true (by omega)
theorem ltIS_tot {p q : Int × Str} (h : p ≠ q) (h1 : ltIS p q = false) : ltIS q p = true := by
  unfold ltIS at *
  by_cases e1 : p.1 = q.1
  · rw [if_pos e1] at h1
    rw [if_pos e1.symm]
    simp only [decide_eq_false_iff_not, decide_eq_true_eq] at *
    have hle : q.2.cps.toList ≤ p.2.cps.toList := h1
    refine Classical.byContradiction fun n => h ?_
    have hle2 : p.2.cps.toList ≤ q.2.cps.toList := n
    have e := List.le_antisymm hle2 hle
    cases p with | mk a x => cases q with | mk b y =>
    dsimp only at e1 e
    subst e1
    congr 1
    cases x; cases y
    congr 1
    exact Array.toList_inj.mp e
  · rw [if_neg e1] at h1
    rw [if_neg (fun e => e1 e.symm)]
    simp only [decide_eq_false_iff_not, decide_eq_true_eq] at *
    omega
theorem zip_key_inj {qs : List (Int × Str)} {l : List D} (nd : qs.Nodup) : ∀ a ∈ qs.zip l, ∀ b ∈ qs.zip l, a.1 = b.1 → a = b := by
  intro a ha b hb e
  obtain ⟨i, hi, rfl⟩ := List.mem_iff_getElem.mp ha
  obtain ⟨j, hj, rfl⟩ := List.mem_iff_getElem.mp hb
  simp only [List.getElem_zip] at e ⊢
  have := (List.getElem_inj nd).mp e
  subst this
  rfl
theorem sortIS_eq {qs : List (Int × Str)} {l : List D} (nd : qs.Nodup) {z : List ((Int × Str) × D)} (hp : z.Perm (qs.zip l)) (hs : z.Pairwise fun a b => leIS a b = true) : z.map (·.2) = sortIS qs l := by
  unfold sortIS
  congr 1
  have h2 : ((qs.zip l).mergeSort leIS).Pairwise fun a b => leIS a b = true := List.pairwise_mergeSort (fun a b c h1 h2 => by
    unfold leIS at *
    simp only [Bool.not_eq_true'] at *
    refine Bool.eq_false_iff.mpr fun h => ?_
    by_cases e : a.1 = b.1
    · rw [e] at h; rw [h] at h2; cases h2
    · have := ltIS_tr h (ltIS_tot (fun z => e z.symm) h1)
      rw [this] at h2; cases h2) (fun a b => by
    unfold leIS
    by_cases e : a.1 = b.1
    · rw [e, ltIS_irr]; rfl
    · cases q : ltIS b.1 a.1 with
      | false => rfl
      | true =>
        have : ltIS a.1 b.1 = false := by
          refine Bool.eq_false_iff.mpr fun h => ?_
          have := ltIS_tr q h
          rw [ltIS_irr] at this; cases this
        rw [this]; rfl) _
  refine List.Perm.eq_of_pairwise (fun a b ha hb h1 h2 => ?_) hs h2 (hp.trans (List.mergeSort_perm _ _).symm)
  refine zip_key_inj nd a (hp.mem_iff.mp ha) b ((List.mergeSort_perm _ _).mem_iff.mp hb) (Classical.byContradiction fun n => ?_)
  unfold leIS at *
  simp only [Bool.not_eq_true'] at *
  have := ltIS_tot (fun z => n z.symm) h1
  rw [this] at h2; cases h2
def Cx.rm (X : Cx) (A : Around) : Cx := { X with A := A, xe := fun _ _ => False }
section
variable {X : Cx} {pins : List (Addr × Obj)} {σ : St} {H : Hp} {s : Shared} {A : Around}
theorem inv_rm (I : Inv X pins σ H s) (h1 : A.handled = X.A.handled) (h2 : A.frames = X.A.frames) : Inv (Cx.rm X A) pins σ H s :=
  ⟨⟨I.ok.mod, I.ok.kind, I.ok.glob, I.ok.blt, I.ok.above, I.ok.inj, I.ok.has, I.ok.cab, fun c => h1.trans (I.ok.hd c), h2.trans I.ok.frames, I.ok.stk, I.ok.exf, I.ok.bs, I.ok.bsz, I.ok.noex, I.ok.exfs, I.ok.funs, I.ok.frf⟩, I.os, I.bare, I.base, I.loc, I.cell, I.free, I.freeC, I.pin, I.hok, I.len⟩
theorem inv_unrm (I : Inv (Cx.rm X A) pins σ H s) (h1 : A.handled = X.A.handled) (h2 : A.frames = X.A.frames) : Inv X pins σ H s :=
  ⟨⟨I.ok.mod, I.ok.kind, I.ok.glob, I.ok.blt, I.ok.above, I.ok.inj, I.ok.has, I.ok.cab, fun c => h1.symm.trans (I.ok.hd c), h2.symm.trans I.ok.frames, I.ok.stk, I.ok.exf, I.ok.bs, I.ok.bsz, I.ok.noex, I.ok.exfs, I.ok.funs, I.ok.frf⟩, I.os, I.bare, I.base, I.loc, I.cell, I.free, I.freeC, I.pin, I.hok, I.len⟩
end
section
variable {X : Cx} {pins : List (Addr × Obj)} {σ : St} {A : Around} {F : List D → M D} {k : Nat} {f : Addr} {fd : FuncData} {ps : List Str}
theorem sk_fold (hF : FnOk X.prog X.w X.K X.mg X.base CX0 k f fd ps (spD (wc X) 1 F)) (hb : Binds X.K fd ps []) (hA : Room k A) (h1 : A.handled = X.A.handled) (h2 : A.frames = X.A.frames) {a kS : Addr} {e1 : Nat}
    (fa : ∀ H' : Hp, H' a = none → FpOk X pins H' a) (fk : ∀ H' : Hp, H' kS = none → FpOk X pins H' kS) (ne : a ≠ kS) {E : Value → Shared → Prop} {R : Shared → Prop} {body : Value → PUnit → Sem (ForInStep PUnit)}
    (hbd : ∀ x s (R : Shared → Prop), wpAny (model X.prog X.w) A (call (.ref f) [x]) (fun k s' => ∃ ks e, List.length ks < 64 ∧ s'.heap.get? kS = some (seqObj "list" (List.toArray ks) e) ∧ R { s' with heap := s'.heap.update kS (Obj.mapSeq (·.push k)) }) (fun _ _ => False) s →
      wpAny (model X.prog X.w) A (body x ⟨⟩) (fun r s' => r = .yield ⟨⟩ ∧ R s') E s) : ∀ (r : List D) (rv : List V) (ru : List Value) (dn : List D) (dv : List V) (du : List Value) (e : Nat) (μ : List Addr) (G : DH) (H : Hp) (s : Shared),
      RepL (wc X) μ H r rv → Vals rv ru → RepL (wc X) μ H dn dv → Vals dv du → HRep (wc X) μ G H → Inv X pins σ H s → s.heap.get? kS = some (seqObj "list" (List.toArray du) e) → s.heap.get? a = some (seqObj "list" #[] e1) → H a = none → H kS = none → du.length + ru.length < 64 →
      Post (wc X) ZF μ H (keysM F r G) (fun ks μ' G' H' => ∀ (s' : Shared) (kv : List V) (ku : List Value) (e' : Nat), Ext μ H μ' H' → HRep (wc X) μ' G' H' → RepL (wc X) μ' H' (dn ++ ks) kv → Vals kv ku → Inv X pins σ H' s' → s'.heap.get? kS = some (seqObj "list" (List.toArray ku) e') → s'.heap.get? a = some (seqObj "list" #[] e1) → H' a = none → H' kS = none → R s') →
      wpAny (model X.prog X.w) A (forIn ru PUnit.unit body) (fun _ s' => R s') E s
  | [], _, _, dn, dv, du, e, μ, G, H, s, r1, r2, q1, q2, hr, I, g1, g2, n1, n2, hl, p => by
    cases r1; cases r2
    rw [List.forIn_nil]
    exact wpAny_pure (Post.ok p hr s dv du e (Ext.refl _ _) hr (by rw [List.append_nil]; exact q1) q2 I g1 g2 n1 n2)
  | d :: r, _, _, dn, dv, du, e, μ, G, H, s, r1, r2, q1, q2, hr, I, g1, g2, n1, n2, hl, p => by
    obtain ⟨v, rv, rfl, rd, rr⟩ := r1
    cases r2 with
    | cons ru rur =>
    rename_i u ur
    rw [List.forIn_cons]
    have hfp : ∀ b ∈ [a, kS], FpOk X pins H b := fun b hb => by
      rcases List.mem_cons.mp hb with rfl | hb
      · exact fa H n1
      · rw [List.mem_singleton] at hb; subst hb; exact fk H n2
    have IX := inv_rm (A := A) (I.pinned (fp := [a, kS]) hfp (fun b hb => by
      rcases List.mem_cons.mp hb with rfl | hb
      · exact ⟨_, g2, fun v z => by cases z⟩
      · rw [List.mem_singleton] at hb; subst hb; exact ⟨_, g1, fun v z => by cases z⟩)) h1 h2
    have pb := noX_post (Post.bind p)
    have call := run_fn (X := Cx.rm X A) (dvs := []) (ds := []) (Q := fun v' H' => ∃ k μ1 G1, Ext μ H μ1 H' ∧ HRep (wc X) μ1 G1 H' ∧ RepV (wc X) μ1 H' k v' ∧ Post (wc X) ZF μ1 H' ((keysM F r >>= fun ks => pure (k :: ks)) G1) _) hF hA hb .nil pass0 IX (show Vals [v] [u] from .cons ru .nil)
      (⟨rfl, [d], μ, G, ⟨v, [], rfl, rd, rfl⟩, hr, pb.mono fun k μ1 G1 H1 x1 hr1 p1 v' rv' => ⟨k, μ1, G1, x1, hr1, rv', p1⟩⟩)
    refine wpAny_bind (wpAny_mono (hbd u s (fun s' => wpAny (model X.prog X.w) A (forIn ur PUnit.unit body) (fun _ s' => R s') E s') (wpAny_mono call (fun kv s' hk => ?_) fun _ _ z => z)) (fun q s' hq => ?_) fun _ _ z => z)
    · obtain ⟨v', H', I', rv', k0, μ1, G1, x1, hr1, rk, p1⟩ := hk
      have I2 := inv_unrm I' h1 h2
      obtain ⟨g1', n2', _⟩ := I2.pin (kS, seqObj "list" (List.toArray du) e) (List.mem_append_right _ (List.mem_append_right _ (mem_pinsAt (by simp) g1)))
      obtain ⟨g2', n1', _⟩ := I2.pin (a, seqObj "list" #[] e1) (List.mem_append_right _ (List.mem_append_right _ (mem_pinsAt (by simp) g2)))
      rw [List.length_cons] at hl
      refine ⟨du, e, by omega, g1', ?_⟩
      have ea : (List.toArray du).push kv = List.toArray (du ++ [kv]) := by simp
      obtain ⟨c2, hc2⟩ : ∃ c2, (s'.heap.update kS (Obj.mapSeq (·.push kv))).get? kS = some (seqObj "list" (List.toArray (du ++ [kv])) c2) := ⟨_, by rw [← ea]; exact get?_update_seq g1' (·.push kv)⟩
      have I3 := inv_turned (h' := s'.heap.update kS (Obj.mapSeq (·.push kv))) (t' := s'.toks) (ch := [kS]) I2.unpinned (fun b hb => by rw [List.mem_singleton] at hb; subst hb; exact fk H' n2') (fun b o hb e => by
        rw [List.mem_singleton] at hb
        rw [Heap.get?_update_ne _ _ _ _ hb]; exact e)
      refine sk_fold hF hb hA h1 h2 fa fk ne hbd r rv ur (dn ++ [k0]) (dv ++ [v']) (du ++ [kv]) c2 μ1 G1 H' _ (rr.mono x1) rur (RepL.append (q1.mono x1) ⟨v', [], rfl, rk, rfl⟩) (q2.append (show Vals [v'] [kv] from .cons rv' .nil)) hr1 I3 hc2 (by rw [Heap.get?_update_ne _ _ _ _ ne]; exact g2') n1' n2' (by rw [List.length_append, List.length_singleton]; omega) ?_
      refine (Post.bind p1).mono fun ks μ2 G2 H2 x2 hr2 p2 s3 kv2 ku2 e2 x2' hr2' a1 a2 a3 a4 a5 a6 a7 => ?_
      exact Post.ok p2 hr2 s3 kv2 ku2 e2 (x1.trans x2) hr2 (by rw [List.append_assoc] at a1; exact a1) a2 a3 a4 a5 a6 a7
    · obtain ⟨rfl, hq⟩ := hq
      exact hq
end
end DL
set_option Elab.async false
set_option linter.all false
set_option maxRecDepth 100000
namespace DL
open PySem PySem.Spec L2
open PyProof.Rows hiding St
section
variable {X : Cx} {pins : List (Addr × Obj)} {σ : St} {H : Hp} {s : Shared}
theorem inv_adopt {h' : Heap} {t' : Nat} {ch : List Addr} {a : Addr} {ws : List V} (I : Inv X pins σ H s) (hf : ∀ b ∈ ch, FpOk X pins H b) (ha : a ∈ ch) (k : ∀ b o, b ∉ ch → s.heap.get? b = some o → h'.get? b = some o)
    (new : ObjOk X.prog X.w (upd H a (.lst ws)) h' a (.lst ws)) : Inv X pins σ (upd H a (.lst ws)) { s with heap := h', toks := t' } := by
  have hq : H a = none := (hf a ha).1
  have nch : ∀ b u, H b = some u → b ∉ ch := fun b u e z => by rw [(hf b z).1] at e; cases e
  refine I.step (g' := s.gens) (d' := s.drawn) (ch := ch) (fun b hb => ⟨(hf b hb).2.2.2.1, (hf b hb).2.1, (hf b hb).2.2.2.2.1, (hf b hb).2.2.2.2.2⟩) (fun b o _ _ hc e _ => k b o hc e) (fun b o _ _ hc e _ => ⟨o.slots, k b o hc e⟩)
    (fun b o hc e n => by rw [upd_ne (fun z => hc (by rw [z]; exact ha))]; exact n) (fun b o hc e => ⟨o, k b o hc e⟩) (fun b xs e => by rw [upd_ne (ne_of_none e hq)]; exact e) (fun b o u e => by rw [upd_ne (ne_of_none e hq)]; exact e)
    (fun b ps e => ⟨#[], by rw [upd_ne (ne_of_none e hq), e]; simp⟩) (fun m hm => ?_) (fun b u e => ?_) I.bare
  · obtain ⟨o, es, ep, ho, r⟩ := hm
    exact ⟨o, es, ep, k _ o (fun z => (hf _ z).2.1 rfl) ho, r⟩
  · by_cases hb : b = a
    · subst hb
      rw [upd_same] at e
      cases e
      exact new
    · rw [upd_ne hb] at e
      refine (I.hok b u e).stay (fun c v hc q => k c v ?_ q) (fun c q => by rw [upd_ne (ne_of_none q hq)]; exact q) fun c xs q => by rw [upd_ne (ne_of_none q hq)]; exact q
      rcases hc with z | z
      · rw [z]; exact nch b u e
      · exact nch c _ z
def KeyAt (h : Heap) (u : Value) (q : Int × Str) : Prop := ∃ a t t', u = .ref a ∧ IsTup h a #[.int q.1 t, .str q.2 t']
theorem keys_at {μ : List Addr} (I : Inv X pins σ H s) : ∀ {ks : List D} {qs : List (Int × Str)} {kv : List V} {ku : List Value}, keysIS ks = some qs → RepL (wc X) μ H ks kv → Vals kv ku → qs.length = ku.length ∧ ∀ (i : Nat) (q : Int × Str), qs[i]? = some q → ∃ u, ku[i]? = some u ∧ KeyAt s.heap u q
  | [], qs, kv, ku, e, r, rv => by
    cases e; cases r; cases rv
    exact ⟨rfl, fun i q z => by simp at z⟩
  | d :: r, qs, kv, ku, e, rr, rv => by
    obtain ⟨v, tl, rfl, rd, rt⟩ := rr
    cases rv with
    | cons ru rur =>
    rename_i u ur
    unfold keysIS at e
    cases h1 : keyIS d with
    | none => rw [h1] at e; cases e
    | some a =>
      cases h2 : keysIS r with
      | none => rw [h1, h2] at e; cases e
      | some b =>
        rw [h1, h2] at e
        cases e
        obtain ⟨hl, hk⟩ := keys_at I h2 rt rur
        refine ⟨by simp [hl], fun i q z => ?_⟩
        cases i with
        | succ i => simpa using hk i q (by simpa using z)
        | zero =>
          simp at z
          subst z
          refine ⟨u, rfl, ?_⟩
          unfold keyIS at h1
          split at h1
          · rename_i n x
            cases h1
            unfold RepV at rd
            obtain ⟨ad, vs, rfl, q, rl⟩ := rd
            obtain ⟨v1, t1, rfl, e1, v2, t2, rfl, e2, e3⟩ := rl
            cases e3
            rw [repI e1, repS e2] at q
            cases ru
            obtain ⟨its, rvs, tp, _⟩ := I.tuple q
            cases rvs with
            | cons r1 rr1 =>
              cases rr1 with
              | cons r2 rr2 =>
                cases rr2
                obtain ⟨t, rfl⟩ := r1
                obtain ⟨t', rfl⟩ := r2
                exact ⟨ad, t, t', rfl, tp⟩
          · cases h1
end
section
variable {prog : Program} {w : World} {A : Around} {E : Value → Shared → Prop} {s : Shared} {C : Bool → Shared → Prop}
theorem key_lt {u u' : Value} {q q' : Int × Str} (hx : KeyAt s.heap u q) (hy : KeyAt s.heap u' q') (h : C (ltIS q q') s) : wpAny (model prog w) A (keyLt' (tuples' true) u u') C E s := by
  obtain ⟨a, t, t', rfl, o, ho, hc, n, hd⟩ := hx
  obtain ⟨b, v, v', rfl, o2, ho2, hc2, n2, hd2⟩ := hy
  refine PySem.W.kat_lt ho hd ho2 hd2 ?_
  show PySem.W.KatLex prog w A true _ C [(.int q.1 t, .int q'.1 v), (.str q.2 t', .str q'.2 v')] 0 s
  refine PySem.W.kat_cons (PySem.wpAny_eqBool_int (PySem.W.kat_go (fun e => ?_) fun e => ?_))
  · have e1 : q.1 = q'.1 := by simpa using e
    refine PySem.W.kat_yes (PySem.W.kat_cons (eqBool_str (PySem.W.kat_go (fun e => ?_) fun e => ?_)))
    · have e2 : q.2 = q'.2 := by simpa using e
      have eq : q = q' := Prod.ext e1 e2
      refine PySem.W.kat_yes (PySem.W.kat_nil ?_)
      rw [eq, ltIS_irr] at h
      exact h
    · refine PySem.W.kat_no (PySem.W.kat_one _ _ (PySem.P.lt_str ?_))
      unfold ltIS at h
      rw [if_pos e1] at h
      exact h
  · have e1 : ¬ q.1 = q'.1 := by simpa using e
    refine PySem.W.kat_no ?_
    show wpAny (model prog w) A (oneLt' true _ _) C _ s
    rw [← keyLt'_oneType]
    refine PySem.W.kat_lt_int ?_
    unfold ltIS at h
    rw [if_neg e1] at h
    exact h
theorem sk_tail {st : SortSt} {a kS : Addr} {e e1 : Nat} {ku out : List Value} {P : PySem.Fin → Shared → Prop} (hout : (arrOf st).map (·.2) = List.toArray out) (hz : out.length < 64) (hkz : ku.length < 64) (hf : failedOf st = none) (ho1 : s.heap.get? kS = some (seqObj "list" (List.toArray ku) e)) (ho2 : s.heap.get? a = some (seqObj "list" #[] e1)) (ne : a ≠ kS)
    (h : ∀ (h' : Heap) (e' : Nat), (∀ b o, b ∉ [a, kS] → s.heap.get? b = some o → h'.get? b = some o) → h'.get? a = some (seqObj "list" (List.toArray out) e') → P (.done (.ret .none)) { s with heap := h' }) : wpAny (model prog w) A (ksk_tail a false e1 (.ref kS) st) P E s := by
  have na : (s.heap.update kS (Obj.mapSeq fun _ => (#[] : Array Value))).get? a = some (seqObj "list" #[] e1) := by rw [Heap.get?_update_ne _ _ _ _ ne]; exact ho2
  obtain ⟨c2, hc2⟩ : ∃ c2, ((s.heap.update kS (Obj.mapSeq fun _ => (#[] : Array Value))).update a (Obj.mapSeq fun _ => List.toArray out)).get? a = some (seqObj "list" (List.toArray out) c2) := ⟨_, get?_update_seq na fun _ => List.toArray out⟩
  unfold ksk_tail
  try dsimp only
  rw [hout]
  refine wpAny_bind (listUpdate_at ho1 rfl ?_ (by rw [List.size_toArray, sizeLine_eq]; omega) (Nat.zero_le _))
  refine wpAny_bind (wpAny_letGo ?_)
  refine wpAny_bind (seqEpoch_at na rfl ?_)
  refine wpAny_bind (listUpdate_at na rfl ?_ (Nat.zero_le _) (Nat.le_trans (Nat.le_of_eq (List.size_toArray ..)) (by rw [sizeLine_eq]; omega)))
  rw [hf]
  simp only [bne_self_eq_false, Bool.false_eq_true, if_false]
  refine wpAny_pure (h _ c2 (fun b o hb eo => ?_) hc2)
  have hb' : b ≠ a ∧ b ≠ kS := by simpa using hb
  rw [Heap.get?_update_ne _ _ _ _ hb'.1, Heap.get?_update_ne _ _ _ _ hb'.2]
  exact eo
theorem sk_end {a kS : Addr} {e e1 : Nat} {ku vs : List Value} {qs : List (Int × Str)} {P : PySem.Fin → Shared → Prop} (hl : ku.length = vs.length) (h64 : vs.length < 64) (hq : qs.length = ku.length) (hk : ∀ (i : Nat) (q : Int × Str), qs[i]? = some q → ∃ u, ku[i]? = some u ∧ KeyAt s.heap u q) (nd : qs.Nodup)
    (ho1 : s.heap.get? kS = some (seqObj "list" (List.toArray ku) e)) (ho2 : s.heap.get? a = some (seqObj "list" #[] e1)) (ne : a ≠ kS)
    (h : ∀ (h' : Heap) (e' : Nat) (p : List Nat), p.Perm (List.range vs.length) → p.Pairwise (fun i j => ltIS (qs.getD i (0, "")) (qs.getD j (0, "")) = true) → (∀ b o, b ∉ [a, kS] → s.heap.get? b = some o → h'.get? b = some o) → h'.get? a = some (seqObj "list" (List.toArray (p.map fun i => vs.getD i Value.none)) e') → P (.done (.ret .none)) { s with heap := h' }) :
    wpAny (model prog w) A (ksk_end a false vs.toArray e1 (.ref kS) (List.toArray ku)) P E s := by
  unfold ksk_end
  try dsimp only
  simp only [Bool.false_eq_true, if_false]
  by_cases h2 : vs.toArray.size < 2
  · rw [if_pos h2, if_pos h2]
    refine wpAny_bind (wpAny_pure ?_)
    rw [StateT.run_pure]
    refine wpAny_bind (wpAny_pure ?_)
    dsimp only
    have hv : (arrOf (SortSt.mk' general' ((List.toArray ku).zip vs.toArray) #[] 7 none)).map (·.2) = List.toArray ((List.range vs.length).map fun i => vs.getD i Value.none) := by
      show ((List.toArray ku).zip vs.toArray).map (·.2) = _
      apply Array.toList_inj.mp
      rw [Array.toList_map]
      apply List.ext_getElem
      · simp [hl]
      · intro i hi hj
        simp at hi hj ⊢
        simp [hj]
    refine sk_tail hv (by simp; omega) (by omega) rfl ho1 ho2 ne fun h' e' k1 k2 => h h' e' _ (List.Perm.refl _) ?_ k1 k2
    have : vs.length < 2 := by simpa using h2
    match hn : vs.length, this with
    | 0, _ => simp
    | 1, _ => simp [List.range_succ]
  · rw [if_neg h2, if_neg h2]
    have hn2 : 2 ≤ vs.length := by simpa using h2
    let lt : Nat → Nat → Bool := fun i j => ltIS (qs.getD i (0, "")) (qs.getD j (0, ""))
    have gq : ∀ i, i < vs.length → qs[i]? = some (qs.getD i (0, "")) := fun i hi => by
      rw [List.getD_eq_getElem?_getD, List.getElem?_eq_getElem (by omega)]; rfl
    have O : OrdN lt vs.length := ⟨fun i j k h1 h2 => ltIS_tr h1 h2, fun i j hi hj hij h => ltIS_tot (fun ee => hij ?_) h⟩
    case refine_1 =>
      have e1 := gq i hi
      have e2 := gq j hj
      rw [ee] at e1
      have li : i < qs.length := by omega
      exact (List.getElem?_inj li nd).mp (e1.trans e2.symm)
    obtain ⟨fs, T, hfs, hT⟩ : ∃ fs : List Value, PySem.W.KatTups s.heap ku fs ∧ 0 < fs.length ∧ ∀ v ∈ fs, ∃ n t, v = .int n t := by
      have gen : ∀ (ku : List Value) (qs : List (Int × Str)), qs.length = ku.length → (∀ (i : Nat) (q : Int × Str), qs[i]? = some q → ∃ u, ku[i]? = some u ∧ KeyAt s.heap u q) → ∃ fs : List Value, PySem.W.KatTups s.heap ku fs ∧ fs.length = ku.length ∧ ∀ v ∈ fs, ∃ n t, v = .int n t := by
        intro ku
        induction ku with
        | nil => exact fun qs _ _ => ⟨[], trivial, rfl, fun v hv => by cases hv⟩
        | cons u r ih =>
          intro qs hl hk
          cases qs with
          | nil => simp at hl
          | cons q qr =>
            obtain ⟨u', e1, ad, t, t', rfl, o, ho, hc, n, hd⟩ := hk 0 q rfl
            simp at e1
            subst e1
            obtain ⟨fs, f1, f2, f3⟩ := ih qr (by simpa using hl) fun i q hq => by simpa using hk (i + 1) q (by simpa using hq)
            refine ⟨.int q.1 t :: fs, PySem.W.KatTups.cons ho hc hd rfl f1, by simp [f2], fun v hv => ?_⟩
            rcases List.mem_cons.mp hv with rfl | hv
            · exact ⟨_, _, rfl⟩
            · exact f3 v hv
      obtain ⟨fs, f1, f2, f3⟩ := gen ku qs hq hk
      exact ⟨fs, f1, by omega, f3⟩
    refine wpAny_bind (PySem.W.kat_kind (T := .type "int") T hfs (fun v hv => ?_) (by decide) ?_)
    · obtain ⟨n, t, rfl⟩ := hT v hv
      exact PySem.W.Looks.of_pure rfl
    · have run := tOk.wp (s := s) (cmp := PySem.W.kas_ask prog w A (tuples' (Value.type "int" != Value.type "tuple")) ku) (fun i j C hi hj hC => by
        obtain ⟨u, u1, u2⟩ := hk i _ (gq i hi)
        obtain ⟨v, v1, v2⟩ := hk j _ (gq j hj)
        unfold PySem.W.kas_ask
        rw [List.getD_eq_getElem?_getD, List.getD_eq_getElem?_getD, u1, v1]
        exact key_lt u2 v2 hC) _ (sort_ok O hn2)
      refine wpAny_bind (wpAny_mono (PySem.W.kat_run (Q := fun st' s' => ∃ p : Array Nat, p.size = vs.length ∧ arrOf st' = p.map (PySem.W.kas_item ((List.toArray ku).zip vs.toArray)) ∧ failedOf st' = none ∧ s' = s ∧ PermN p vs.length ∧ upTo lt p vs.length) hl hn2 h64 (fun p st' s' a1 a2 a3 a4 => ⟨p, a1, a2, a3, a4⟩) run) ?_ fun _ _ x => x)
      rintro ⟨⟨⟩, st'⟩ s' ⟨p, hp, har, hf, rfl, P1, U⟩
      try dsimp only
      refine sk_tail (PySem.W.kat_snds hl har) (by rw [List.length_map, Array.length_toList, hp]; exact h64) (by omega) hf ho1 ho2 ne fun h' e' k1 k2 => h h' e' p.toList P1.pm ?_ k1 k2
      rw [List.pairwise_iff_getElem]
      intro i j hi hj hij
      have hi' : i < p.size := by simpa using hi
      have hj' : j < p.size := by simpa using hj
      have := U i j hij (by omega)
      simpa [Array.getD, hi', hj', lt] using this
end
end DL
set_option Elab.async false
set_option linter.all false
set_option maxRecDepth 100000
namespace DL
open PySem PySem.Spec L2
open PyProof.Rows hiding St
section
variable {X : Cx} {Z : XC} {pins : List (Addr × Obj)} {σ : St} {H : Hp} {s : Shared} {F : List D → M D} {k : Nat} {f : Addr} {fd : FuncData} {ps : List Str} {μ : List Addr} {G : DH}
theorem perm_range {α : Type} {p : List Nat} {n : Nat} {l : List α} {d : α} (h : p.Perm (List.range n)) (hn : l.length = n) : (p.map fun i => l.getD i d).Perm l := by
  have e : (List.range n).map (fun i => l.getD i d) = l := by
    apply List.ext_getElem
    · simp [hn]
    · intro i hi hj
      simp [hj]
  have := h.map fun i => l.getD i d
  rw [e] at this
  exact this
theorem zip_at {qs : List (Int × Str)} {l : List D} {i : Nat} (h1 : i < qs.length) (h2 : i < l.length) : (qs.zip l).getD i ((0, ""), .non) = (qs[i], l[i]) := by
  rw [List.getD_eq_getElem?_getD, List.getElem?_eq_getElem (by simp; omega), List.getElem_zip]; rfl
theorem sorted_rep {qs : List (Int × Str)} {l : List D} {ws : List V} {vs : List Value} {p : List Nat} (hl : qs.length = l.length) (rl : RepL (wc X) μ H l ws) (rv : Vals ws vs) (nd : qs.Nodup) (hp : p.Perm (List.range vs.length)) (hs : p.Pairwise (fun i j => ltIS (qs.getD i (0, "")) (qs.getD j (0, "")) = true)) :
    ∃ ws', Vals ws' (p.map fun i => vs.getD i Value.none) ∧ RepL (wc X) μ H (sortIS qs l) ws' ∧ ws'.length = vs.length := by
  have hlv : l.length = vs.length := by rw [rl.length, rv.length]
  have hz : (qs.zip l).length = vs.length := by simp [hl, hlv]
  have e := sortIS_eq (l := l) nd (z := p.map fun i => (qs.zip l).getD i ((0, ""), .non)) (perm_range hp hz) (by
    rw [List.pairwise_map]
    refine hs.imp_of_mem fun {i j} hi hj h => ?_
    have li : i < vs.length := by simpa using hp.mem_iff.mp hi
    have lj : j < vs.length := by simpa using hp.mem_iff.mp hj
    have ei : ((qs.zip l).getD i ((0, ""), .non)).1 = qs.getD i (0, "") := by rw [zip_at (by omega) (by omega), List.getD_eq_getElem?_getD, List.getElem?_eq_getElem (by omega)]; rfl
    have ej : ((qs.zip l).getD j ((0, ""), .non)).1 = qs.getD j (0, "") := by rw [zip_at (by omega) (by omega), List.getD_eq_getElem?_getD, List.getElem?_eq_getElem (by omega)]; rfl
    unfold leIS
    rw [ei, ej]
    simp only [Bool.not_eq_true']
    refine Bool.eq_false_iff.mpr fun h2 => ?_
    have := ltIS_tr h h2
    rw [ltIS_irr] at this; cases this)
  rw [List.map_map] at e
  have main : ∀ p : List Nat, (∀ i ∈ p, i < vs.length) → ∃ ws', Vals ws' (p.map fun i => vs.getD i Value.none) ∧ RepL (wc X) μ H (p.map fun i => ((qs.zip l).getD i ((0, ""), .non)).2) ws' ∧ ws'.length = p.length := by
    intro p
    induction p with
    | nil => exact fun _ => ⟨[], .nil, rfl, rfl⟩
    | cons i r ih =>
      intro hi
      obtain ⟨ws', a1, a2, a3⟩ := ih fun j hj => hi j (List.mem_cons_of_mem _ hj)
      have li := hi i (by simp)
      obtain ⟨v, e1, r1⟩ := rl.get (i := i) (d := l[i]'(by omega)) (List.getElem?_eq_getElem (by omega))
      obtain ⟨u, e2, r2⟩ := rv.get e1
      refine ⟨v :: ws', ?_, ⟨v, ws', rfl, ?_, a2⟩, by simp [a3]⟩
      · have : vs.getD i Value.none = u := by rw [List.getD_eq_getElem?_getD, e2]; rfl
        rw [List.map_cons, this]
        exact .cons r2 a1
      · have : ((qs.zip l).getD i ((0, ""), .non)).2 = l[i]'(by omega) := by rw [zip_at (by omega) (by omega)]
        show RepV (wc X) μ H (((qs.zip l).getD i ((0, ""), .non)).2) v
        rw [this]
        exact r1
  obtain ⟨ws', a1, a2, a3⟩ := main p fun i hi => by simpa using hp.mem_iff.mp hi
  exact ⟨ws', a1, by rw [← e]; exact a2, by rw [a3, hp.length_eq]; simp⟩
theorem sk_call {u : Value} {l : List D} {Q : VK} (hF : FnOk X.prog X.w X.K X.mg X.base CX0 k f fd ps (spD (wc X) 1 F)) (hb : Binds X.K fd ps []) (hrm : Room (k + 2) X.A) (I : Inv X pins σ H s) (hr : HRep (wc X) μ G H) (h64 : l.length < 64)
    (hcol : ∀ (Q' : List Value → Shared → Prop), (∀ (h1 : Heap) (tk : Nat) (vs : List Value) (ws : List V), (∀ b o, s.heap.get? b = some o → h1.get? b = some o) → Vals ws vs → RepL (wc X) μ H l ws → Q' vs { s with heap := h1, toks := tk }) → wpAny (model X.prog X.w) X.A.in1 (collect u) Q' X.xe s)
    (p : Post (wc X) Z μ H (sortKs F l G) (fun d μ' _ H' => ∀ v, RepV (wc X) μ' H' d v → Q v H')) : wpAny (model X.prog X.w) X.A (call (.builtin "sorted") [u] [(Str.ofString "key", .ref f)]) (EP X pins σ Q) X.xe s := by
  refine call_function_entry_kw kind_sorted plain_sorted entry_sorted (ksk_s1 _ _) ?_
  unfold Builtin.«sorted»
  refine wpAny_bind (m := checkCount "sorted" 1 1 _) (wpAny_pure ?_)
  refine wpAny_bind (hcol _ fun h1 tk vs ws k1 rv rl => ?_)
  have hlv : l.length = vs.length := by rw [rl.length, rv.length]
  refine wpAny_bind (wpAny_newList ?_ (by rw [sizeLine_eq]; omega))
  have I1 : Inv X pins σ H { s with heap := h1, toks := tk } := I.kept k1
  have hoL : (h1.push (seqObj "list" vs.toArray 0)).get? h1.objs.size = some (seqObj "list" vs.toArray 0) := Heap.get?_push_size _ rfl
  refine wpAny_bind (wpAny_holding (wpAny_call_entry_kw slot_list_sort ⟨_, hoL, rfl⟩ entry_list_sort ?_ (ksk_l1 _ _)))
  show wpAny (model X.prog X.w) X.A.in1.in1 (Builtin.«list.sort» ⟨[.ref h1.objs.size], [(Str.ofString "key", .ref f)]⟩) _ _ _
  rw [ksk_t1]
  unfold ksk_tree
  refine wpAny_bind (listItems_at hoL rfl ?_)
  refine wpAny_bind (listUpdate_at hoL rfl ?_ (by rw [List.size_toArray, sizeLine_eq]; omega) (Nat.zero_le _))
  obtain ⟨e1, ho1⟩ : ∃ e1, ((h1.push (seqObj "list" vs.toArray 0)).update h1.objs.size (Obj.mapSeq fun _ => (#[] : Array Value))).get? h1.objs.size = some (seqObj "list" #[] e1) := ⟨_, get?_update_seq hoL fun _ => #[]⟩
  refine wpAny_bind (seqEpoch_at ho1 rfl ?_)
  refine wpAny_bind (wpAny_newTuple ?_ (by show vs.length ≤ _; rw [sizeLine_eq]; omega))
  refine wpAny_bind (wpAny_newList ?_ (Nat.zero_le _))
  refine wpAny_holding ?_
  have hsz : ((h1.push (seqObj "list" vs.toArray 0)).update h1.objs.size (Obj.mapSeq fun _ => (#[] : Array Value))).objs.size = h1.objs.size + 1 := by rw [Heap.size_update, size_push']
  have hkS : (((h1.push (seqObj "list" vs.toArray 0)).update h1.objs.size (Obj.mapSeq fun _ => (#[] : Array Value))).push (seqObj "tuple" vs.toArray 0)).objs.size = h1.objs.size + 2 := by rw [size_push', hsz]
  have keep : ∀ b o, h1.get? b = some o → ((((h1.push (seqObj "list" vs.toArray 0)).update h1.objs.size (Obj.mapSeq fun _ => (#[] : Array Value))).push (seqObj "tuple" vs.toArray 0)).push (seqObj "list" #[] 0)).get? b = some o := fun b o q => by
    have hlt : b < h1.objs.size := Heap.lt_size q
    rw [Heap.get?_push_ne _ _ _ (by rw [hkS]; exact Nat.ne_of_lt (Nat.lt_succ_of_lt (Nat.lt_succ_of_lt hlt))), Heap.get?_push_ne _ _ _ (by rw [hsz]; exact Nat.ne_of_lt (Nat.lt_succ_of_lt hlt)), Heap.get?_update_ne _ _ _ _ (Nat.ne_of_lt hlt), Heap.get?_push_ne _ _ _ (Nat.ne_of_lt hlt)]
    exact q
  have I2 : Inv X pins σ H { s with heap := (((h1.push (seqObj "list" vs.toArray 0)).update h1.objs.size (Obj.mapSeq fun _ => (#[] : Array Value))).push (seqObj "tuple" vs.toArray 0)).push (seqObj "list" #[] 0), toks := tk } := I1.kept keep
  have na : H h1.objs.size = none := I1.hok.fresh (Nat.le_refl _)
  have nk : H (h1.objs.size + 2) = none := I1.hok.fresh (Nat.le_add_right _ _)
  have ga : ((((h1.push (seqObj "list" vs.toArray 0)).update h1.objs.size (Obj.mapSeq fun _ => (#[] : Array Value))).push (seqObj "tuple" vs.toArray 0)).push (seqObj "list" #[] 0)).get? h1.objs.size = some (seqObj "list" #[] e1) := Heap.get?_push_of_some _ (Heap.get?_push_of_some _ ho1)
  have gk : ((((h1.push (seqObj "list" vs.toArray 0)).update h1.objs.size (Obj.mapSeq fun _ => (#[] : Array Value))).push (seqObj "tuple" vs.toArray 0)).push (seqObj "list" #[] 0)).get? (h1.objs.size + 2) = some (seqObj "list" (List.toArray []) 0) := by
    rw [← hkS]; exact Heap.get?_push_size _ rfl
  have fa : ∀ H' : Hp, H' h1.objs.size = none → FpOk X pins H' h1.objs.size := fun H' hn => I1.fpOk (Nat.le_refl _) hn
  have fk : ∀ H' : Hp, H' (h1.objs.size + 2) = none → FpOk X pins H' (h1.objs.size + 2) := fun H' hn => I1.fpOk (Nat.le_add_right _ _) hn
  have ne : h1.objs.size ≠ h1.objs.size + 2 := by omega
  unfold sortKs at p
  have pk : Post (wc X) ZF μ H (keysM F l G) (fun ks μ' G' H' => ks.length = l.length ∧ Post (wc X) Z μ' H' ((optM (keysIS ks) >>= fun qs => if qs.Nodup then allocM (.lst (sortIS qs l)) else M.stuck) G') (fun d μ' _ H' => ∀ v, RepV (wc X) μ' H' d v → Q v H')) := by
    have q := Post.bind p
    have hkl : ∀ (l : List D) (G : DH) (ks : List D) (G' : DH), keysM F l G = some (.ok ks, G') → ks.length = l.length := by
      intro l
      induction l with
      | nil => intro G ks G' z; cases z; rfl
      | cons d r ih =>
        intro G ks G' z
        unfold keysM at z
        rw [M.bind_eq] at z
        match h : noX (F [d]) G, z with
        | some (.ok kk, G1), z =>
          dsimp only at z
          rw [M.bind_eq] at z
          match h2 : keysM F r G1, z with
          | some (.ok ks, G2), z =>
            cases z
            simp [ih _ _ _ h2]
    have kne : ∀ (l : List D) (G : DH) (x : Str) (G' : DH), keysM F l G ≠ some (.error x, G') := by
      intro l
      induction l with
      | nil => intro G x G' z; cases z
      | cons d r ih =>
        intro G x G' z
        unfold keysM at z
        rw [M.bind_eq] at z
        have nx : ∀ x G', noX (F [d]) G ≠ some (.error x, G') := fun x G' z => by
          unfold noX at z
          try dsimp only at z
          split at z <;> cases z
        match h : noX (F [d]) G, z with
        | some (.error y, G1), z => exact nx _ _ h
        | some (.ok kk, G1), z =>
          dsimp only at z
          rw [M.bind_eq] at z
          match h2 : keysM F r G1, z with
          | some (.error y, G2), z => exact ih _ _ _ h2
          | some (.ok ks, G2), z => cases z
    match hh : keysM F l G, q with
    | some (.ok ks, G1), q => exact fun μ' H' x h => ⟨hkl _ _ _ _ hh, q μ' H' x h⟩
    | some (.error x, G1), q => exact (kne _ _ _ _ hh).elim
  rw [hkS]
  show wpAny (model X.prog X.w) X.A.in1.in1 (ksk_rest h1.objs.size (.ref f) false vs.toArray e1 (.ref (h1.objs.size + 2))) _ _ _
  unfold ksk_rest
  refine wpAny_bind (wpAny_rule ?_)
  first
    | rw [List.forIn_toArray]
    | (rw [← Array.forIn_toList]; simp only [List.toList_toArray])
    | rw [← Array.forIn_toList]
  refine wpAny_bind (sk_fold (X := X) (pins := pins) (σ := σ) (A := X.A.in1.in1) hF hb hrm.in1.in1 rfl rfl fa fk ne (fun x s0 R hx => ?_) l ws vs [] [] [] 0 μ G H _ rl rv rfl .nil hr I2 gk ga na nk (by simp; omega) ?_)
  · refine wpAny_bind (wpAny_attempt (wpAny_mono hx (fun kv s'' hk => ?_) fun _ _ hF => hF.elim))
    obtain ⟨ks, e, hks, g, hR⟩ := hk
    try dsimp only
    refine wpAny_bind (listUpdate_at g rfl ?_ (by rw [List.size_toArray, sizeLine_eq]; omega) (Nat.le_trans (Nat.le_of_eq (Array.size_push ..)) (by rw [List.size_toArray, sizeLine_eq]; omega)))
    exact wpAny_pure ⟨rfl, hR⟩
  · refine pk.mono fun ks μ' G' H' x1 hr1 ⟨hks, p1⟩ s' kv ku e' _ _ q1 q2 I' g1 g2 n1 n2 => ?_
    rw [List.nil_append] at q1
    obtain ⟨qs, eq, p2⟩ := optM_post p1
    split at p2
    case isFalse => exact p2.elim
    rename_i nd
    obtain ⟨hl1, hk1⟩ := keys_at I' eq q1 q2
    try dsimp only
    refine wpAny_bind (listItems_at g1 rfl ?_)
    have hkv : ku.length = vs.length := by
      rw [← q2.length, ← q1.length, hks, hlv]
    refine sk_end hkv (by omega) hl1 hk1 nd g1 g2 ne fun h' e2 pp hp hs keep2 gg => ?_
    have rl' : RepL (wc X) μ' H' l ws := rl.mono x1
    obtain ⟨ws', a1, a2, a3⟩ := sorted_rep (by rw [hl1, hkv, hlv]) rl' rv nd hp hs
    refine ⟨_, rfl, wpAny_pure ⟨_, rfl, .ref h1.objs.size, upd H' h1.objs.size (.lst ws'), inv_adopt (t' := s'.toks) (ch := [h1.objs.size, h1.objs.size + 2]) I' (fun b hb => ?_) (by simp) keep2 ⟨by rw [a3, sizeLine_eq]; omega, _, e2, a1, gg⟩, rfl, post_lst hr1 a2 p2 _ n1⟩⟩
    rcases List.mem_cons.mp hb with rfl | hb
    · exact fa _ n1
    · rw [List.mem_singleton] at hb; subst hb; exact fk _ n2
theorem sk_src {v : V} {u : Value} {d : D} {Q : VK} (hc : X.calm = true) (hF : FnOk X.prog X.w X.K X.mg X.base CX0 k f fd ps (spD (wc X) 1 F)) (hb : Binds X.K fd ps []) (hrm : Room (k + 2) X.A) (I : Inv X pins σ H s) (hr : HRep (wc X) μ G H) (rd : RepV (wc X) μ H d v) (ru : RelV v u)
    (p : Post (wc X) Z μ H (sortKD F d G) (fun d μ' _ H' => ∀ v, RepV (wc X) μ' H' d v → Q v H')) : wpAny (model X.prog X.w) X.A (call (.builtin "sorted") [u] [(Str.ofString "key", .ref f)]) (EP X pins σ Q) X.xe s := by
  have seq : ∀ {a : Addr} {T : String} {o : Obj} {its : List Value} {vs : List V} {n : Nat} {l : List D}, (T = "list" ∨ T = "tuple") → s.heap.get? a = some o → o.cls = .type T → o.data = .seq its.toArray n → Vals vs its → RepL (wc X) μ H l vs → vs.length ≤ sizeLine →
      Post (wc X) Z μ H ((if l.length < 64 then sortKs F l else M.stuck : M D) G) (fun d μ' _ H' => ∀ v, RepV (wc X) μ' H' d v → Q v H') → wpAny (model X.prog X.w) X.A (call (.builtin "sorted") [.ref a] [(Str.ofString "key", .ref f)]) (EP X pins σ Q) X.xe s := by
    intro a T o its vs n l hT h1 h2 h3 rv rl hz p
    split at p
    case isFalse => exact p.elim
    rename_i h64
    refine sk_call hF hb hrm I hr h64 (fun Q' hQ => wpAny_collect_seq a hT h1 h2 h3 (fun h' kk => ?_) (by rw [List.size_toArray, ← rv.length]; exact hz)) p
    exact hQ h' s.toks its vs kk rv rl
  unfold sortKD at p
  split at p
  · rename_i l
    unfold RepV at rd
    obtain ⟨a, vs, rfl, q, rl⟩ := rd
    cases ru
    obtain ⟨its, rv, ⟨o, h1, h2, n, h3⟩, hz⟩ := I.tuple q
    exact seq (.inr rfl) h1 h2 h3 rv rl hz p
  · rename_i i
    unfold RepV at rd
    obtain ⟨a, m, rfl⟩ := rd
    cases ru
    obtain ⟨o, g, p1⟩ := objM_post p
    have ro := hr.obj i o a g m
    cases o with
    | lst l =>
      obtain ⟨vs, q, rl⟩ := ro
      obtain ⟨its, rv, pl, hz⟩ := I.list (SqL.of q)
      obtain ⟨o, h1, h2, n, h3⟩ := pl.isList
      exact seq (.inl rfl) h1 h2 h3 rv rl hz p1
    | dct l =>
      obtain ⟨kvs, q, rk⟩ := ro
      obtain ⟨ss, es, p2⟩ := optM_post p1
      split at p2
      case isFalse => exact p2.elim
      rename_i h64
      obtain ⟨z, hd, vs, rel, dd⟩ := dk_of I.hok q
      obtain ⟨ep, hat⟩ := dd.dictAt
      have hn : vs.length = ss.length := by rw [keyStrs_len es, ← rel.length, ← rk.length]
      refine sk_call hF hb hrm I hr (l := ss.map .str) (by simpa using h64) (fun Q' hQ => PySem.W.kdu_collect (PySem.W.kdl_dict (knd := mixKind X.prog X.w) (kvs := vs) (ep := ep) hd) (I.ok.hd hc) hat (by rw [sizeLine_eq]; omega) fun h1 tk acc hk hacc => ?_) p2
      have hS : StrsAre acc.toList ss := keyStrs_vals es rk rel (by rw [Array.length_toList]; exact hacc.1) fun j v e => hacc.2 j v (by rw [← Array.getElem?_toList]; exact e)
      obtain ⟨ws, ew, rv, rl2⟩ := strs_rep (c := wc X) (μ := μ) (H := H) hS
      exact hQ h1 tk acc.toList ws hk rv rl2
    | rol l => exact p1.elim
    | rod l => exact p1.elim
  · exact p.elim
end
section
variable {X : Cx} {Z : XC} {e : Expr} {fe : Fe} {p pf kp pos : Pos} {x : Str} {F : List D → M D}
theorem de_sortK (hc : X.calm = true) (hF : ∃ k kk, CalleeOk F 1 x X.prog X.w X.K X.mg X.base k ∧ Room kk X.A ∧ k + 2 ≤ kk) (hbl : BLs X.mg) (hgs : Gl X "sorted") (hg : Gl X x) (he : DE X Z e fe) (hs : notStar e = true) (hdb : (x == ("__debug__" : Str)) = false) :
    DE X Z (.Call (.Name "sorted" p) [e] [⟨some "key", .Name x pf, kp⟩] pos) (sortKE F fe) := ⟨by
  intro pins s σ H Q I h
  obtain ⟨k, kk, hF, hrm, hk⟩ := hF
  obtain ⟨f, fd, ps, f1, f2, f3, f4⟩ := hF.ex
  have hbs : bootBuiltins ("sorted" : Str) = some (.builtin "sorted") := bt_sorted
  refine wpAny_Call_Name_kw (ld_blt I hgs (hbl.h _ (by decide +kernel)) hbs ?_ (by decide) (by decide))
  obtain ⟨dσ, μ, G, sr, hr, pp⟩ := h
  unfold sortKE at pp
  have pa := Post.bind pp
  have hst : starEach [e] X.env = (false, eval e X.env) :: starEach [] X.env := star_one hs
  refine callWith_builtin_kwB (by rw [any_backTo]; exact star_all (by rw [List.all_cons, hs]; rfl)) rfl (evalArgs_kw2 rfl ?_ hst)
  have ha : DA X Z [e] (q10 fe q11) := q15 he q16 hst
  refine thn (ha.h pos pins s σ H (fun vs H1 => ∃ v d μ1 G1, vs = [v] ∧ RepV (wc X) μ1 H1 d v ∧ HRep (wc X) μ1 G1 H1 ∧ Post (wc X) Z μ1 H1 (sortKD F d G1) (fun d μ' _ H' => ∀ v, RepV (wc X) μ' H' d v → Q v H')) I ?_) fun us s1 ⟨vs, H1, I1, r1, v, d, μ1, G1, e1, rd, hr1, p1⟩ => ?_
  · refine ⟨dσ, μ, G, sr, hr, ?_⟩
    show Post (wc X) Z μ H ((fe dσ >>= fun y => (pure [y] : M (List D))) G) _
    match hm : fe dσ G, pa with
    | some (.ok y, G1), pa =>
      rw [M.bind_ok hm]
      intro μ' H' x1 h1 vs rv
      obtain ⟨v, ev, rv2⟩ := rep1 rv
      subst ev
      exact ⟨v, y, μ', G1, rfl, rv2, h1, pa μ' H' x1 h1⟩
    | some (.error y, G1), pa =>
      rw [M.bind_eq, hm]
      exact pa
  · subst e1
    obtain ⟨u, rfl, ru⟩ := vals1 r1
    show wpAny _ _ (evalAll [(do let v ← eval (.Name x pf) X.env; standAt pos; pure v)]) _ _ s1
    refine wpAny_evalAll_cons (wpAny_bind (ld_glob I1 hg f2 (wpAny_bind (wpAny_standAt (wpAny_pure (wpAny_evalAll_nil ?_)))) hdb))
    exact sk_src hc f1 f4 (hrm.mono hk) I1 hr1 rd ru p1⟩
end
end DL
namespace W
open PySem PySem.Spec L2 DL
open PyProof.Rows hiding St
noncomputable def B__law_hand : Fs := seqS (asgS (cE (.int 0)) (q13 3)) (seqS (ifS (testE (binE neD (varE 0) (lstE (q11)))) (asgS (binE modD (q12 sumF (q10 (varE 0) (q11))) (cE (.int 2))) (q13 3)) (nextS)) (retS (lstE (q10 (varE 1) (q10 (binE modD (binE mulD (binE addD (binE addD (binE modD (varE 1) (cE (.int 2147483629))) (binE mulD (cE (.int 7919)) (varE 2))) (cE (.int 1))) (cE (.int 48271))) (cE (.int 2147483647))) (q10 (varE 3) (q10 (cE (.int 0)) (q11))))))))
noncomputable def F__law_hand : List D → M D := bodyF 4 B__law_hand
noncomputable def B__law_draw : Fs := seqS (ifS (testE (binE eqD (binE ixD (varE 0) (cE (.int 2))) (cE (.int 0)))) (seqS (asgS (binE modD (binE ixD (varE 0) (cE (.int 0))) (varE 1)) (q13 2)) (seqS (asgS (binE fdivD (binE ixD (varE 0) (cE (.int 0))) (varE 1)) (subG (varE 0) (cE (.int 0)))) (retS (varE 2)))) (nextS)) (seqS (asgS (binE addD (binE modD (binE mulD (binE ixD (varE 0) (cE (.int 1))) (binE ixD (varE 0) (cE (.int 1)))) (cE (.int 2147483629))) (cE (.int 3))) (subG (varE 0) (cE (.int 1)))) (retS (binE modD (binE fdivD (binE modD (binE mulD (binE ixD (varE 0) (cE (.int 1))) (cE (.int 69621))) (cE (.int 2147483563))) (cE (.int 8))) (varE 1))))
noncomputable def F__law_draw : List D → M D := bodyF 3 B__law_draw
noncomputable def B__law_letters : Fs := seqS (asgS (cE (.str ("" : Str))) (q13 3)) (seqS (forS (itRng1 (q10 (binE addD (varE 1) (q12 (fnX 2 F__law_draw) (q10 (varE 0) (q10 (binE addD (binE subD (varE 2) (varE 1)) (cE (.int 1))) (q11))))) (q11))) (q13 4) (asgS (binE addD (varE 3) (binE ixD (cE (.str ("abcdefghijklmnopqrstuvwxyz" : Str))) (q12 (fnX 2 F__law_draw) (q10 (varE 0) (q10 (cE (.int 26)) (q11)))))) (q13 3))) (retS (varE 3)))
noncomputable def F__law_letters : List D → M D := bodyF 5 B__law_letters
noncomputable def B__law_text : Fs := seqS (ifS (testE (binE eqD (q12 (fnX 2 F__law_draw) (q10 (varE 0) (q10 (cE (.int 3)) (q11)))) (cE (.int 1)))) (retS (q12 (fnX 3 F__law_letters) (q10 (varE 0) (q10 (cE (.int 0)) (q10 (cE (.int 20)) (q11)))))) (nextS)) (retS (binE ixD (lstE (q10 (cE (.str ("" : Str))) (q10 (cE (.str ("a" : Str))) (q10 (cE (.str ("b" : Str))) (q10 (cE (.str ("aa" : Str))) (q10 (cE (.str ("ab" : Str))) (q10 (cE (.str ("ba" : Str))) (q10 (cE (.str ("abc" : Str))) (q10 (cE (.str ("z" : Str))) (q10 (cE (.str ("true" : Str))) (q10 (binE mulD (cE (.str ("z" : Str))) (cE (.int 20))) (q11)))))))))))) (q12 (fnX 2 F__law_draw) (q10 (varE 0) (q10 (cE (.int 10)) (q11))))))
noncomputable def F__law_text : List D → M D := bodyF 1 B__law_text
noncomputable def B__law_row : Fs := seqS (asgS (newDictE) (q13 3)) (seqS (forS (itRng1 (q10 (q12 (fnX 2 F__law_draw) (q10 (varE 0) (q10 (binE addD (varE 1) (cE (.int 1))) (q11)))) (q11))) (q13 4) (seqS (asgS (q12 (fnX 1 F__law_text) (q10 (varE 0) (q11))) (q13 5)) (seqS (ifS (andT (testE (binE neD (varE 2) (tupE (q11)))) (testE (binE eqD (q12 (fnX 2 F__law_draw) (q10 (varE 0) (q10 (cE (.int 2)) (q11)))) (cE (.int 1))))) (asgS (binE ixD (varE 2) (q12 (fnX 2 F__law_draw) (q10 (varE 0) (q10 (q12 lenF (q10 (varE 2) (q11))) (q11))))) (q13 5)) (nextS)) (asgS (cE (.bl true)) (subG (varE 3) (varE 5)))))) (seqS (asgS (lstE (q11)) (q13 6)) (seqS (forS (itRng1 (q10 (cE (.int 21)) (q11))) (q13 7) (asgS (binE addD (varE 6) (q12 sortedG (q10 (compE (itW (varE 3)) [none, some 7] (q13 0) (testE (binE eqD (q12 lenF (q10 (varE 0) (q11))) (varE 1))) (varE 0)) (q11)))) (q13 6))) (retS (tupE (q10 (binE ixD (lstE (q10 (cE (.str ("of" : Str))) (q10 (cE (.str ("but" : Str))) (q11)))) (q12 (fnX 2 F__law_draw) (q10 (varE 0) (q10 (cE (.int 2)) (q11))))) (q10 (q12 tupleF (q10 (varE 6) (q11))) (q11))))))))
noncomputable def F__law_row : List D → M D := bodyF 8 B__law_row
noncomputable def B_marked : Fs := retS (q12 dictF (q10 (compE (itW (varE 0)) [none] (q13 0) (trueT) (tupE (q10 (varE 0) (q10 (cE (.bl true)) (q11))))) (q11)))
noncomputable def F_marked : List D → M D := bodyF 1 B_marked
noncomputable def B_text_order : Fs := retS (tupE (q10 (q12 lenF (q10 (varE 0) (q11))) (q10 (varE 0) (q11))))
noncomputable def F_text_order : List D → M D := bodyF 1 B_text_order
noncomputable def B_rising_texts : Fs := retS (q12 tupleF (q10 (sortKE F_text_order (q12 (fnX 1 F_marked) (q10 (varE 0) (q11)))) (q11)))
noncomputable def F_rising_texts : List D → M D := bodyF 1 B_rising_texts
noncomputable def B_in_either : Fs := retS (q12 (fnX 1 F_rising_texts) (q10 (binE addD (varE 0) (varE 1)) (q11)))
noncomputable def F_in_either : List D → M D := bodyF 2 B_in_either
noncomputable def B_in_both : Fs := seqS (asgS (q12 (fnX 1 F_marked) (q10 (varE 1) (q11))) (q13 2)) (retS (q12 tupleF (q10 (compE (itW (varE 0)) [none, some 2] (q13 0) (testE (binE inD (varE 0) (varE 1))) (varE 0)) (q11))))
noncomputable def F_in_both : List D → M D := bodyF 3 B_in_both
noncomputable def B_without : Fs := seqS (asgS (q12 (fnX 1 F_marked) (q10 (varE 1) (q11))) (q13 2)) (retS (q12 tupleF (q10 (compE (itW (varE 0)) [none, some 2] (q13 0) (testE (binE notInD (varE 0) (varE 1))) (varE 0)) (q11))))
noncomputable def F_without : List D → M D := bodyF 3 B_without
noncomputable def B_meet_texts : Fs := seqS (ifS (andT (testE (binE eqD (binE ixD (varE 0) (cE (.int 0))) (cE (.str ("of" : Str))))) (testE (binE eqD (binE ixD (varE 1) (cE (.int 0))) (cE (.str ("of" : Str)))))) (retS (tupE (q10 (cE (.str ("of" : Str))) (q10 (q12 (fnX 2 F_in_both) (q10 (binE ixD (varE 0) (cE (.int 1))) (q10 (binE ixD (varE 1) (cE (.int 1))) (q11)))) (q11))))) (nextS)) (seqS (ifS (testE (binE eqD (binE ixD (varE 0) (cE (.int 0))) (cE (.str ("of" : Str))))) (retS (tupE (q10 (cE (.str ("of" : Str))) (q10 (q12 (fnX 2 F_without) (q10 (binE ixD (varE 0) (cE (.int 1))) (q10 (binE ixD (varE 1) (cE (.int 1))) (q11)))) (q11))))) (nextS)) (seqS (ifS (testE (binE eqD (binE ixD (varE 1) (cE (.int 0))) (cE (.str ("of" : Str))))) (retS (tupE (q10 (cE (.str ("of" : Str))) (q10 (q12 (fnX 2 F_without) (q10 (binE ixD (varE 1) (cE (.int 1))) (q10 (binE ixD (varE 0) (cE (.int 1))) (q11)))) (q11))))) (nextS)) (retS (tupE (q10 (cE (.str ("but" : Str))) (q10 (q12 (fnX 2 F_in_either) (q10 (binE ixD (varE 0) (cE (.int 1))) (q10 (binE ixD (varE 1) (cE (.int 1))) (q11)))) (q11)))))))
noncomputable def F_meet_texts : List D → M D := bodyF 2 B_meet_texts
noncomputable def B_turned : Fs := retS (tupE (q10 (ifE (testE (binE eqD (binE ixD (varE 0) (cE (.int 0))) (cE (.str ("of" : Str))))) (cE (.str ("but" : Str))) (cE (.str ("of" : Str)))) (q10 (binE ixD (varE 0) (cE (.int 1))) (q11))))
noncomputable def F_turned : List D → M D := bodyF 1 B_turned
noncomputable def B_join_texts : Fs := retS (q12 (fnX 1 F_turned) (q10 (q12 (fnX 2 F_meet_texts) (q10 (q12 (fnX 1 F_turned) (q10 (varE 0) (q11))) (q10 (q12 (fnX 1 F_turned) (q10 (varE 1) (q11))) (q11)))) (q11)))
noncomputable def F_join_texts : List D → M D := bodyF 2 B_join_texts
noncomputable def B__law_word : Fs := seqS (asgS (lstE (q10 (varE 0) (q10 (varE 1) (q11)))) (q13 3)) (seqS (ifS (testE (binE eqD (varE 2) (cE (.int 0)))) (retS (binE ixD (lstE (q10 (cE (.str ("of" : Str))) (q10 (cE (.str ("but" : Str))) (q11)))) (q12 intF (q10 (binE eqD (varE 3) (lstE (q10 (cE (.str ("but" : Str))) (q10 (cE (.str ("but" : Str))) (q11))))) (q11))))) (nextS)) (retS (binE ixD (lstE (q10 (cE (.str ("but" : Str))) (q10 (cE (.str ("of" : Str))) (q11)))) (q12 intF (q10 (binE eqD (varE 3) (lstE (q10 (cE (.str ("of" : Str))) (q10 (cE (.str ("of" : Str))) (q11))))) (q11))))))
noncomputable def F__law_word : List D → M D := bodyF 4 B__law_word
noncomputable def B_rising : Fs := retS (q12 allF (q10 (compE (itZip (q10 (varE 0) (q10 (sliceT (varE 0) (partO (cE (.int 1))) (noPart)) (q11)))) [none, none] (tupG 2 (consG (q13 0) (consG (q13 1) (nilG)))) (trueT) (binE ltD (varE 0) (varE 1))) (q11)))
noncomputable def F_rising : List D → M D := bodyF 1 B_rising
noncomputable def B_is_tagged : Fs := seqS (ifS (notT (andT (truthE (q12 isinstF (q10 (varE 0) (q10 (cE (.ty "tuple")) (q11))))) (testE (binE eqD (q12 lenF (q10 (varE 0) (q11))) (cE (.int 2)))))) (retS (cE (.bl false))) (nextS)) (retS (andVE (q12 isinstF (q10 (binE ixD (varE 0) (cE (.int 0))) (q10 (cE (.ty "str")) (q11)))) (andVE (binE eqD (binE ixD (varE 0) (cE (.int 0))) (varE 1)) (q12 isinstF (q10 (binE ixD (varE 0) (cE (.int 1))) (q10 (cE (.ty "tuple")) (q11)))))))
noncomputable def F_is_tagged : List D → M D := bodyF 2 B_is_tagged
noncomputable def B_is_text : Fs := retS (andVE (q12 isinstF (q10 (varE 0) (q10 (cE (.ty "str")) (q11)))) (q12 allF (q10 (compE (itW (varE 0)) [none] (q13 0) (trueT) (chainE leD leD (cE (.str ("a" : Str))) (varE 0) (cE (.str ("z" : Str))))) (q11))))
noncomputable def F_is_text : List D → M D := bodyF 1 B_is_text
noncomputable def B_is_texts : Fs := seqS (ifS (notT (orT (truthE (q12 (fnX 2 F_is_tagged) (q10 (varE 0) (q10 (cE (.str ("of" : Str))) (q11))))) (truthE (q12 (fnX 2 F_is_tagged) (q10 (varE 0) (q10 (cE (.str ("but" : Str))) (q11))))))) (retS (cE (.bl false))) (nextS)) (seqS (ifS (notT (truthE (q12 allF (q10 (compE (itW (binE ixD (varE 0) (cE (.int 1)))) [none] (q13 0) (trueT) (q12 (fnX 1 F_is_text) (q10 (varE 0) (q11)))) (q11))))) (retS (cE (.bl false))) (nextS)) (retS (q12 (fnX 1 F_rising) (q10 (compE (itW (binE ixD (varE 0) (cE (.int 1)))) [none] (q13 0) (trueT) (q12 (fnX 1 F_text_order) (q10 (varE 0) (q11)))) (q11)))))
noncomputable def F_is_texts : List D → M D := bodyF 1 B_is_texts
noncomputable def B__law_in : Fs := retS (binE eqD (binE inD (varE 0) (binE ixD (varE 1) (cE (.int 1)))) (binE eqD (binE ixD (varE 1) (cE (.int 0))) (cE (.str ("of" : Str)))))
noncomputable def F__law_in : List D → M D := bodyF 2 B__law_in
noncomputable def B__law_told : Fs := seqS (asgS (binE addD (q12 listF (q10 (binE addD (binE ixD (varE 0) (cE (.int 1))) (binE ixD (varE 1) (cE (.int 1)))) (q11))) (lstE (q10 (cE (.str ("" : Str))) (q10 (cE (.str ("q" : Str))) (q10 (cE (.str ("qq" : Str))) (q10 (cE (.str ("nosuchtext" : Str))) (q11))))))) (q13 2)) (seqS (forS (itW (lstE (q10 (tupE (q10 (varE 0) (q10 (varE 1) (q11)))) (q10 (tupE (q10 (varE 1) (q10 (varE 0) (q11)))) (q11))))) (tupG 2 (consG (q13 3) (consG (q13 4) (nilG)))) (forS (itW (lstE (q10 (tupE (q10 (cE (.int 0)) (q10 (q12 (fnX 2 F_meet_texts) (q10 (varE 3) (q10 (varE 4) (q11)))) (q11)))) (q10 (tupE (q10 (cE (.int 1)) (q10 (q12 (fnX 2 F_join_texts) (q10 (varE 3) (q10 (varE 4) (q11)))) (q11)))) (q11))))) (tupG 2 (consG (q13 5) (consG (q13 6) (nilG)))) (seqS (asgS (binE addD (binE ixD (varE 0) (cE (.int 1))) (binE ixD (varE 1) (cE (.int 1)))) (q13 7)) (seqS (ifS (orT (testE (binE notCD (q12 (fnX 1 F_is_texts) (q10 (varE 6) (q11))) (cE (.bl true)))) (testE (binE neD (compE (itW (binE ixD (varE 6) (cE (.int 1)))) [none, some 7] (q13 0) (testE (binE notInD (varE 0) (varE 1))) (varE 0)) (lstE (q11))))) (retS (cE (.bl false))) (nextS)) (seqS (forS (itW (varE 2)) (q13 8) (seqS (asgS (lstE (q10 (q12 (fnX 2 F__law_in) (q10 (varE 8) (q10 (varE 3) (q11)))) (q10 (q12 (fnX 2 F__law_in) (q10 (varE 8) (q10 (varE 4) (q11)))) (q11)))) (q13 9)) (ifS (testE (binE neD (q12 (fnX 2 F__law_in) (q10 (varE 8) (q10 (varE 6) (q11)))) (binE ixD (lstE (q10 (andVE (binE ixD (varE 9) (cE (.int 0))) (binE ixD (varE 9) (cE (.int 1)))) (q10 (orVE (binE ixD (varE 9) (cE (.int 0))) (binE ixD (varE 9) (cE (.int 1)))) (q11)))) (varE 5)))) (retS (cE (.bl false))) (nextS)))) (ifS (testE (binE neD (binE ixD (varE 6) (cE (.int 0))) (q12 (fnX 3 F__law_word) (q10 (binE ixD (varE 3) (cE (.int 0))) (q10 (binE ixD (varE 4) (cE (.int 0))) (q10 (varE 5) (q11))))))) (retS (cE (.bl false))) (nextS))))))) (retS (cE (.bl true))))
noncomputable def F__law_told : List D → M D := bodyF 10 B__law_told
noncomputable def B_law : Fs := seqS (asgS (tupE (q10 (cE (.str ("but" : Str))) (q10 (tupE (q11)) (q11)))) (q13 1)) (seqS (asgS (tupE (q10 (cE (.str ("of" : Str))) (q10 (tupE (q11)) (q11)))) (q13 2)) (seqS (forS (itEnum (q10 (sliceT (varE 0) (noPart) (partO (cE (.int 63)))) (q11))) (tupG 2 (consG (q13 3) (consG (q13 4) (nilG)))) (seqS (asgS (q12 (fnX 3 F__law_hand) (q10 (varE 0) (q10 (varE 4) (q10 (varE 3) (q11))))) (q13 5)) (seqS (asgS (q12 (fnX 3 F__law_row) (q10 (varE 5) (q10 (cE (.int 12)) (q10 (tupE (q11)) (q11))))) (q13 6)) (seqS (asgS (q12 (fnX 3 F__law_row) (q10 (varE 5) (q10 (cE (.int 12)) (q10 (binE ixD (varE 6) (cE (.int 1))) (q11))))) (q13 7)) (seqS (asgS (tupE (q10 (binE ixD (lstE (q10 (cE (.str ("of" : Str))) (q10 (cE (.str ("but" : Str))) (q11)))) (q12 intF (q10 (binE eqD (binE ixD (varE 6) (cE (.int 0))) (cE (.str ("of" : Str)))) (q11)))) (q10 (binE ixD (varE 6) (cE (.int 1))) (q11)))) (q13 8)) (seqS (forS (itW (lstE (q10 (varE 7) (q10 (varE 6) (q10 (varE 1) (q10 (varE 2) (q10 (varE 8) (q11)))))))) (q13 9) (ifS (notT (truthE (q12 (fnX 2 F__law_told) (q10 (varE 6) (q10 (varE 9) (q11)))))) (retS (cE (.bl false))) (nextS))) (ifS (orT (testE (binE neD (q12 (fnX 2 F_meet_texts) (q10 (varE 6) (q10 (varE 8) (q11)))) (varE 2))) (orT (testE (binE neD (q12 (fnX 2 F_join_texts) (q10 (varE 6) (q10 (varE 8) (q11)))) (varE 1))) (testE (binE neD (q12 (fnX 2 F_meet_texts) (q10 (varE 6) (q10 (varE 1) (q11)))) (varE 6))))) (retS (cE (.bl false))) (nextS)))))))) (retS (andVE (q12 (fnX 2 F__law_told) (q10 (varE 1) (q10 (varE 2) (q11)))) (andVE (q12 (fnX 2 F__law_told) (q10 (varE 1) (q10 (varE 1) (q11)))) (q12 (fnX 2 F__law_told) (q10 (varE 2) (q10 (varE 2) (q11)))))))))
noncomputable def F_law : List D → M D := bodyF 10 B_law
end W
namespace W
open PySem PySem.Spec L2 DL
open PyProof.Rows hiding St
local macro_rules | `(tactic| walk_at "cl") => `(tactic| (refine ⟨?k, ?kk, ?a, ?b, ?c⟩; (case a => assumption); (case b => assumption); (case c => first | decide | omega)))
local macro_rules | `(tactic| walk_at "ck") => `(tactic| (refine ⟨?k, ?kk, ?kkk, ?a, ?b, ?c, ?d⟩; (case a => assumption); (case b => rfl); (case c => rfl); (case d => decide +kernel)))
local macro_rules | `(tactic| walk_at "od") => `(tactic| first
  | with_reducible exact od_add
  | with_reducible exact od_sub
  | with_reducible exact od_mul
  | with_reducible exact od_fdiv
  | with_reducible exact od_mod
  | with_reducible exact od_le
  | with_reducible exact od_isnotC
  | ((with_reducible refine od_eq ?_); exact Room.units (by assumption))
  | ((with_reducible refine od_ne ?_); exact Room.units (by assumption))
  | ((with_reducible refine od_lt ?_); exact Room.units (by assumption))
  | ((with_reducible refine od_in ?_); exact Room.units (by assumption))
  | ((with_reducible refine od_notin ?_); exact Room.units (by assumption)))
local macro_rules | `(tactic| walk_at "bd") => `(tactic| first
  | with_reducible exact bd_len
  | with_reducible exact bd_isinstance
  | with_reducible exact bd_all
  | with_reducible exact bd_sum
  | with_reducible exact bd_tuple
  | with_reducible exact bd_list
  | with_reducible exact bd_int
  | with_reducible exact bd_sortedG
  | with_reducible exact bd_dict)
local macro_rules | `(tactic| walk_at "da") => `(tactic| first
  | with_reducible exact q16
  | ((with_reducible refine da_c ?_ ?_ ?_); walk_at "de"; walk_at "da"; rfl))
local macro_rules | `(tactic| walk_at "do") => `(tactic| first
  | with_reducible exact do_none
  | ((with_reducible refine do_some ?_); walk_at "de"))
local macro_rules | `(tactic| walk_at "de") => `(tactic| first
  | with_reducible exact q17
  | with_reducible exact de_bl
  | with_reducible exact de_str
  | ((with_reducible refine de_v _ ?_ ?_ ?_ ?_); rfl; (first | exact Or.inl rfl | exact Or.inr (Or.inl rfl) | exact Or.inr (Or.inr rfl)); decide; decide)
  | ((with_reducible refine de_tyN ?_ ?_ ?_ ?_ ?_ ?_); assumption; decide; decide +kernel; rfl; decide; decide)
  | ((with_reducible refine de_op ?_ ?_ ?_); walk_at "od"; walk_at "de"; walk_at "de")
  | ((with_reducible refine de_cmp ?_ ?_ ?_ ?_); walk_at "od"; walk_at "de"; walk_at "de"; with_unfolding_all rfl)
  | ((with_reducible refine de_chain ?_ ?_ ?_ ?_ ?_ ?_); walk_at "od"; walk_at "od"; walk_at "de"; walk_at "de"; walk_at "de"; with_unfolding_all rfl)
  | ((with_reducible refine de_one ?_); walk_at "de")
  | ((with_reducible refine de_andV ?_ ?_); walk_at "de"; walk_at "de")
  | ((with_reducible refine de_orV ?_ ?_); walk_at "de"; walk_at "de")
  | ((with_reducible refine de_if ?_ ?_ ?_); walk_at "dt"; walk_at "de"; walk_at "de")
  | ((with_reducible refine de_tup ?_); walk_at "da")
  | ((with_reducible refine de_lst ?_); walk_at "da")
  | with_reducible exact de_dict0
  | ((with_reducible refine de_sliceT ?_ ?_ ?_); walk_at "de"; walk_at "do"; walk_at "do")
  | ((with_reducible refine de_ix ?_ ?_ ?_); walk_at "de"; walk_at "de"; exact fun _ _ => rfl)
  | ((with_reducible refine de_callC ?_ ?_ ?_ ?_ ?_); walk_at "cl"; rfl; walk_at "da"; decide; rfl)
  | ((with_reducible refine de_sortK ?_ ?_ ?_ ?_ ?_ ?_ ?_ ?_); rfl; walk_at "cl"; assumption; rfl; rfl; walk_at "de"; rfl; decide)
  | ((with_reducible refine de_blt ?_ ?_ ?_ ?_ ?_ ?_ ?_ ?_ ?_); rfl; walk_at "bd"; assumption; decide +kernel; rfl; walk_at "da"; decide; decide; rfl)
  | ((with_reducible refine de_cmpr ?_ ?_ ?_ ?_ ?_ ?_ ?_ ?_); rfl; walk_at "di"; walk_at "ck"; decide +kernel; (intro _ _ _ _ _; walk_at "dg"); (intro _ _ _ _; walk_at "dts"); (intro _ _ _ _; walk_at "de"); exact fun _ => rfl))
local macro_rules | `(tactic| walk_at "dt") => `(tactic| first
  | ((with_reducible refine DW.dt ?_); walk_at "dw")
  | ((with_reducible refine dt_not ?_); walk_at "dt")
  | ((with_reducible refine dt_cmp ?_ ?_ ?_ ?_); walk_at "od"; walk_at "de"; walk_at "de"; with_unfolding_all rfl)
  | ((with_reducible refine dt_truth ?_ ?_); walk_at "de"; exact fun _ => rfl))
local macro_rules | `(tactic| walk_at "dw") => `(tactic| first
  | ((with_reducible refine dw_and1 ?_); walk_at "dt")
  | ((with_reducible refine dw_or1 ?_); walk_at "dt")
  | ((with_reducible refine dw_and ?_ ?_); walk_at "dt"; walk_at "dw")
  | ((with_reducible refine dw_or ?_ ?_); walk_at "dt"; walk_at "dw"))
local macro_rules | `(tactic| walk_at "dts") => `(tactic| first
  | with_reducible exact dts_nil
  | ((with_reducible refine dts_one ?_); walk_at "dt"))
local macro_rules | `(tactic| walk_at "di") => `(tactic| first
  | ((with_reducible refine di_r1 ?_ ?_ ?_ ?_); assumption; rfl; walk_at "da"; rfl)
  | ((with_reducible refine di_z ?_ ?_ ?_ ?_ ?_); assumption; rfl; walk_at "da"; rfl; rfl)
  | ((with_reducible refine di_e ?_ ?_ ?_ ?_); assumption; rfl; walk_at "da"; rfl)
  | ((with_reducible refine di_W ?_); walk_at "de"))
local macro_rules | `(tactic| walk_at "dg") => `(tactic| first
  | ((with_reducible refine dg_nm ?_ ?_ ?_ ?_); exact ⟨_, _, _, ‹FnScope _ _ _›, rfl⟩; rfl; (first | exact Or.inl rfl | exact Or.inr rfl); (first | exact .inl rfl | exact .inr rfl))
  | ((with_reducible refine dg_name ?_ ?_ ?_ ?_); assumption; rfl; (first | exact Or.inl rfl | exact Or.inr rfl); (first | exact .inl rfl | exact .inr rfl))
  | ((with_reducible refine dg_tup ?_ ?_ ?_ ?_); rfl; walk_at "dgs"; rfl; rfl)
  | ((with_reducible refine dg_sub ?_ ?_ ?_ ?_); exact Room.units (by assumption); walk_at "de"; walk_at "de"; exact fun _ => rfl))
local macro_rules | `(tactic| walk_at "dgs") => `(tactic| first
  | with_reducible exact dgs_nil
  | ((with_reducible refine dgs_cons ?_ ?_ ?_); walk_at "dg"; walk_at "dgs"; rfl))
local macro_rules | `(tactic| walk_at "ds") => `(tactic| first
  | ((with_reducible refine ds_ret ?_); walk_at "de")
  | ((with_reducible refine ds_if ?_ ?_ ?_); walk_at "dt"; walk_at "db"; walk_at "db")
  | ((with_reducible refine ds_asg ?_ ?_ ?_ ?_ ?_); walk_at "de"; walk_at "dg"; rfl; rfl; rfl)
  | ((with_reducible refine ds_for ?_ ?_ ?_ ?_ ?_ ?_); exact PassesOwn.never; rfl; walk_at "di"; walk_at "dg"; walk_at "db"; exact fun _ => rfl))
local macro_rules | `(tactic| walk_at "db") => `(tactic| first
  | with_reducible exact db_nil
  | ((with_reducible refine db_one ?_); walk_at "ds")
  | ((with_reducible refine db_cons ?_ ?_); walk_at "ds"; walk_at "db"))
local macro_rules | `(tactic| walk_at "db0") => `(tactic| first
  | (refine db_one ?_; walk_at "ds")
  | (refine db_cons ?_ ?_; walk_at "ds"; walk_at "db"))
def top (i : Nat) : Stmt := PySem.Challenge.pw_allmeet_k12_texts_met_and_joined.main.body.getD i (.Pass ⟨0, 0, 0, 0⟩)
abbrev s__law_hand : Stmt := top 16
abbrev s__law_draw : Stmt := top 17
abbrev s__law_letters : Stmt := top 18
abbrev s__law_text : Stmt := top 19
abbrev s__law_row : Stmt := top 23
abbrev s_marked : Stmt := top 10
abbrev s_text_order : Stmt := top 4
abbrev s_rising_texts : Stmt := top 11
abbrev s_in_either : Stmt := top 14
abbrev s_in_both : Stmt := top 12
abbrev s_without : Stmt := top 13
abbrev s_meet_texts : Stmt := top 7
abbrev s_turned : Stmt := top 9
abbrev s_join_texts : Stmt := top 8
abbrev s__law_word : Stmt := top 26
abbrev s_rising : Stmt := top 3
abbrev s_is_tagged : Stmt := top 2
abbrev s_is_text : Stmt := top 1
abbrev s_is_texts : Stmt := top 6
abbrev s__law_in : Stmt := top 24
abbrev s__law_told : Stmt := top 25
abbrev s_law : Stmt := top 27
theorem sc__law_hand : FnScope ["script", "cell", "k", "way"] ["script", "cell", "k"] (defScope s__law_hand) := ⟨rfl, rfl, rfl, by decide +kernel, rfl, by decide +kernel, by decide +kernel⟩
theorem sc__law_draw : FnScope ["hand", "limit", "got"] ["hand", "limit"] (defScope s__law_draw) := ⟨rfl, rfl, rfl, by decide +kernel, rfl, by decide +kernel, by decide +kernel⟩
theorem sc__law_letters : FnScope ["hand", "least", "most", "text", "k"] ["hand", "least", "most"] (defScope s__law_letters) := ⟨rfl, rfl, rfl, by decide +kernel, rfl, by decide +kernel, by decide +kernel⟩
theorem sc__law_text : FnScope ["hand"] ["hand"] (defScope s__law_text) := ⟨rfl, rfl, rfl, by decide +kernel, rfl, by decide +kernel, by decide +kernel⟩
theorem sc__law_row : FnScope ["hand", "most", "known", "some", "k", "text", "got", "size"] ["hand", "most", "known"] (defScope s__law_row) := ⟨rfl, rfl, rfl, by decide +kernel, rfl, by decide +kernel, by decide +kernel⟩
theorem sc_marked : FnScope ["texts"] ["texts"] (defScope s_marked) := ⟨rfl, rfl, rfl, by decide +kernel, rfl, by decide +kernel, by decide +kernel⟩
theorem sc_text_order : FnScope ["text"] ["text"] (defScope s_text_order) := ⟨rfl, rfl, rfl, by decide +kernel, rfl, by decide +kernel, by decide +kernel⟩
theorem sc_rising_texts : FnScope ["texts"] ["texts"] (defScope s_rising_texts) := ⟨rfl, rfl, rfl, by decide +kernel, rfl, by decide +kernel, by decide +kernel⟩
theorem sc_in_either : FnScope ["one", "other"] ["one", "other"] (defScope s_in_either) := ⟨rfl, rfl, rfl, by decide +kernel, rfl, by decide +kernel, by decide +kernel⟩
theorem sc_in_both : FnScope ["one", "other", "there"] ["one", "other"] (defScope s_in_both) := ⟨rfl, rfl, rfl, by decide +kernel, rfl, by decide +kernel, by decide +kernel⟩
theorem sc_without : FnScope ["one", "other", "there"] ["one", "other"] (defScope s_without) := ⟨rfl, rfl, rfl, by decide +kernel, rfl, by decide +kernel, by decide +kernel⟩
theorem sc_meet_texts : FnScope ["one", "other"] ["one", "other"] (defScope s_meet_texts) := ⟨rfl, rfl, rfl, by decide +kernel, rfl, by decide +kernel, by decide +kernel⟩
theorem sc_turned : FnScope ["texts"] ["texts"] (defScope s_turned) := ⟨rfl, rfl, rfl, by decide +kernel, rfl, by decide +kernel, by decide +kernel⟩
theorem sc_join_texts : FnScope ["one", "other"] ["one", "other"] (defScope s_join_texts) := ⟨rfl, rfl, rfl, by decide +kernel, rfl, by decide +kernel, by decide +kernel⟩
theorem sc__law_word : FnScope ["one", "other", "way", "words"] ["one", "other", "way"] (defScope s__law_word) := ⟨rfl, rfl, rfl, by decide +kernel, rfl, by decide +kernel, by decide +kernel⟩
theorem sc_rising : FnScope ["keys"] ["keys"] (defScope s_rising) := ⟨rfl, rfl, rfl, by decide +kernel, rfl, by decide +kernel, by decide +kernel⟩
theorem sc_is_tagged : FnScope ["thing", "word"] ["thing", "word"] (defScope s_is_tagged) := ⟨rfl, rfl, rfl, by decide +kernel, rfl, by decide +kernel, by decide +kernel⟩
theorem sc_is_text : FnScope ["thing"] ["thing"] (defScope s_is_text) := ⟨rfl, rfl, rfl, by decide +kernel, rfl, by decide +kernel, by decide +kernel⟩
theorem sc_is_texts : FnScope ["thing"] ["thing"] (defScope s_is_texts) := ⟨rfl, rfl, rfl, by decide +kernel, rfl, by decide +kernel, by decide +kernel⟩
theorem sc__law_in : FnScope ["text", "some"] ["text", "some"] (defScope s__law_in) := ⟨rfl, rfl, rfl, by decide +kernel, rfl, by decide +kernel, by decide +kernel⟩
theorem sc__law_told : FnScope ["one", "other", "points", "mine", "its", "way", "got", "known", "text", "both"] ["one", "other"] (defScope s__law_told) := ⟨rfl, rfl, rfl, by decide +kernel, rfl, by decide +kernel, by decide +kernel⟩
theorem sc_law : FnScope ["script", "every", "none", "k", "cell", "hand", "one", "other", "turned_v", "its"] ["script"] (defScope s_law) := ⟨rfl, rfl, rfl, by decide +kernel, rfl, by decide +kernel, by decide +kernel⟩
section
variable {P : Program} {w : World} {K : PySem.W.Frag} {mg : Str → Option Value} {base : Heap} (zb : BLs mg)
include zb
theorem ok__law_hand {a : Addr} {d : FuncData} (c : FF K mg "_law_hand" s__law_hand ["script", "cell", "k"] a d) : FnOk P w K mg base CX0 1 a d ["script", "cell", "k"] (spD ⟨K, mg⟩ 3 F__law_hand) := by
  unfold F__law_hand
  exact fn_d c sc__law_hand rfl rfl fun cdv A outer s H E hr => by have hnd := sc__law_hand; unfold B__law_hand; walk_at "db0"
theorem ok__law_draw {a : Addr} {d : FuncData} (c : FF K mg "_law_draw" s__law_draw ["hand", "limit"] a d) : FnOk P w K mg base CX0 1 a d ["hand", "limit"] (spD ⟨K, mg⟩ 2 F__law_draw) := by
  unfold F__law_draw
  exact fn_d c sc__law_draw rfl rfl fun cdv A outer s H E hr => by have hnd := sc__law_draw; unfold B__law_draw; walk_at "db0"
theorem ok__law_letters {a : Addr} {d : FuncData} (c : FF K mg "_law_letters" s__law_letters ["hand", "least", "most"] a d) (k__law_draw : CalleeOk F__law_draw 2 "_law_draw" P w K mg base 1) : FnOk P w K mg base CX0 2 a d ["hand", "least", "most"] (spD ⟨K, mg⟩ 3 F__law_letters) := by
  unfold F__law_letters
  exact fn_d c sc__law_letters rfl rfl fun cdv A outer s H E hr => by have hnd := sc__law_letters; unfold B__law_letters; walk_at "db0"
theorem ok__law_text {a : Addr} {d : FuncData} (c : FF K mg "_law_text" s__law_text ["hand"] a d) (k__law_draw : CalleeOk F__law_draw 2 "_law_draw" P w K mg base 1) (k__law_letters : CalleeOk F__law_letters 3 "_law_letters" P w K mg base 2) : FnOk P w K mg base CX0 3 a d ["hand"] (spD ⟨K, mg⟩ 1 F__law_text) := by
  unfold F__law_text
  exact fn_d c sc__law_text rfl rfl fun cdv A outer s H E hr => by have hnd := sc__law_text; unfold B__law_text; walk_at "db0"
theorem ok__law_row {a : Addr} {d : FuncData} (c : FF K mg "_law_row" s__law_row ["hand", "most", "known"] a d) (k__law_draw : CalleeOk F__law_draw 2 "_law_draw" P w K mg base 1) (k__law_text : CalleeOk F__law_text 1 "_law_text" P w K mg base 3) : FnOk P w K mg base CX0 4 a d ["hand", "most", "known"] (spD ⟨K, mg⟩ 3 F__law_row) := by
  unfold F__law_row
  exact fn_d c sc__law_row rfl rfl fun cdv A outer s H E hr => by have hnd := sc__law_row; unfold B__law_row; walk_at "db0"
theorem ok_marked {a : Addr} {d : FuncData} (c : FF K mg "marked" s_marked ["texts"] a d) : FnOk P w K mg base CX0 1 a d ["texts"] (spD ⟨K, mg⟩ 1 F_marked) := by
  unfold F_marked
  exact fn_d c sc_marked rfl rfl fun cdv A outer s H E hr => by have hnd := sc_marked; unfold B_marked; walk_at "db0"
theorem ok_text_order {a : Addr} {d : FuncData} (c : FF K mg "text_order" s_text_order ["text"] a d) : FnOk P w K mg base CX0 1 a d ["text"] (spD ⟨K, mg⟩ 1 F_text_order) := by
  unfold F_text_order
  exact fn_d c sc_text_order rfl rfl fun cdv A outer s H E hr => by have hnd := sc_text_order; unfold B_text_order; walk_at "db0"
theorem ok_rising_texts {a : Addr} {d : FuncData} (c : FF K mg "rising_texts" s_rising_texts ["texts"] a d) (k_marked : CalleeOk F_marked 1 "marked" P w K mg base 1) (k_text_order : CalleeOk F_text_order 1 "text_order" P w K mg base 1) : FnOk P w K mg base CX0 4 a d ["texts"] (spD ⟨K, mg⟩ 1 F_rising_texts) := by
  unfold F_rising_texts
  exact fn_d c sc_rising_texts rfl rfl fun cdv A outer s H E hr => by have hnd := sc_rising_texts; unfold B_rising_texts; walk_at "db0"
theorem ok_in_either {a : Addr} {d : FuncData} (c : FF K mg "in_either" s_in_either ["one", "other"] a d) (k_rising_texts : CalleeOk F_rising_texts 1 "rising_texts" P w K mg base 4) : FnOk P w K mg base CX0 5 a d ["one", "other"] (spD ⟨K, mg⟩ 2 F_in_either) := by
  unfold F_in_either
  exact fn_d c sc_in_either rfl rfl fun cdv A outer s H E hr => by have hnd := sc_in_either; unfold B_in_either; walk_at "db0"
theorem ok_in_both {a : Addr} {d : FuncData} (c : FF K mg "in_both" s_in_both ["one", "other"] a d) (k_marked : CalleeOk F_marked 1 "marked" P w K mg base 1) : FnOk P w K mg base CX0 2 a d ["one", "other"] (spD ⟨K, mg⟩ 2 F_in_both) := by
  unfold F_in_both
  exact fn_d c sc_in_both rfl rfl fun cdv A outer s H E hr => by have hnd := sc_in_both; unfold B_in_both; walk_at "db0"
theorem ok_without {a : Addr} {d : FuncData} (c : FF K mg "without" s_without ["one", "other"] a d) (k_marked : CalleeOk F_marked 1 "marked" P w K mg base 1) : FnOk P w K mg base CX0 2 a d ["one", "other"] (spD ⟨K, mg⟩ 2 F_without) := by
  unfold F_without
  exact fn_d c sc_without rfl rfl fun cdv A outer s H E hr => by have hnd := sc_without; unfold B_without; walk_at "db0"
theorem ok_meet_texts {a : Addr} {d : FuncData} (c : FF K mg "meet_texts" s_meet_texts ["one", "other"] a d) (k_in_either : CalleeOk F_in_either 2 "in_either" P w K mg base 5) (k_in_both : CalleeOk F_in_both 2 "in_both" P w K mg base 2) (k_without : CalleeOk F_without 2 "without" P w K mg base 2) : FnOk P w K mg base CX0 6 a d ["one", "other"] (spD ⟨K, mg⟩ 2 F_meet_texts) := by
  unfold F_meet_texts
  exact fn_d c sc_meet_texts rfl rfl fun cdv A outer s H E hr => by have hnd := sc_meet_texts; unfold B_meet_texts; walk_at "db0"
theorem ok_turned {a : Addr} {d : FuncData} (c : FF K mg "turned" s_turned ["texts"] a d) : FnOk P w K mg base CX0 1 a d ["texts"] (spD ⟨K, mg⟩ 1 F_turned) := by
  unfold F_turned
  exact fn_d c sc_turned rfl rfl fun cdv A outer s H E hr => by have hnd := sc_turned; unfold B_turned; walk_at "db0"
theorem ok_join_texts {a : Addr} {d : FuncData} (c : FF K mg "join_texts" s_join_texts ["one", "other"] a d) (k_turned : CalleeOk F_turned 1 "turned" P w K mg base 1) (k_meet_texts : CalleeOk F_meet_texts 2 "meet_texts" P w K mg base 6) : FnOk P w K mg base CX0 7 a d ["one", "other"] (spD ⟨K, mg⟩ 2 F_join_texts) := by
  unfold F_join_texts
  exact fn_d c sc_join_texts rfl rfl fun cdv A outer s H E hr => by have hnd := sc_join_texts; unfold B_join_texts; walk_at "db0"
theorem ok__law_word {a : Addr} {d : FuncData} (c : FF K mg "_law_word" s__law_word ["one", "other", "way"] a d) : FnOk P w K mg base CX0 1 a d ["one", "other", "way"] (spD ⟨K, mg⟩ 3 F__law_word) := by
  unfold F__law_word
  exact fn_d c sc__law_word rfl rfl fun cdv A outer s H E hr => by have hnd := sc__law_word; unfold B__law_word; walk_at "db0"
theorem ok_rising {a : Addr} {d : FuncData} (c : FF K mg "rising" s_rising ["keys"] a d) : FnOk P w K mg base CX0 1 a d ["keys"] (spD ⟨K, mg⟩ 1 F_rising) := by
  unfold F_rising
  exact fn_d c sc_rising rfl rfl fun cdv A outer s H E hr => by have hnd := sc_rising; unfold B_rising; walk_at "db0"
theorem ok_is_tagged {a : Addr} {d : FuncData} (c : FF K mg "is_tagged" s_is_tagged ["thing", "word"] a d) : FnOk P w K mg base CX0 1 a d ["thing", "word"] (spD ⟨K, mg⟩ 2 F_is_tagged) := by
  unfold F_is_tagged
  exact fn_d c sc_is_tagged rfl rfl fun cdv A outer s H E hr => by have hnd := sc_is_tagged; unfold B_is_tagged; walk_at "db0"
theorem ok_is_text {a : Addr} {d : FuncData} (c : FF K mg "is_text" s_is_text ["thing"] a d) : FnOk P w K mg base CX0 1 a d ["thing"] (spD ⟨K, mg⟩ 1 F_is_text) := by
  unfold F_is_text
  exact fn_d c sc_is_text rfl rfl fun cdv A outer s H E hr => by have hnd := sc_is_text; unfold B_is_text; walk_at "db0"
theorem ok_is_texts {a : Addr} {d : FuncData} (c : FF K mg "is_texts" s_is_texts ["thing"] a d) (k_rising : CalleeOk F_rising 1 "rising" P w K mg base 1) (k_is_tagged : CalleeOk F_is_tagged 2 "is_tagged" P w K mg base 1) (k_text_order : CalleeOk F_text_order 1 "text_order" P w K mg base 1) (k_is_text : CalleeOk F_is_text 1 "is_text" P w K mg base 1) : FnOk P w K mg base CX0 2 a d ["thing"] (spD ⟨K, mg⟩ 1 F_is_texts) := by
  unfold F_is_texts
  exact fn_d c sc_is_texts rfl rfl fun cdv A outer s H E hr => by have hnd := sc_is_texts; unfold B_is_texts; walk_at "db0"
theorem ok__law_in {a : Addr} {d : FuncData} (c : FF K mg "_law_in" s__law_in ["text", "some"] a d) : FnOk P w K mg base CX0 1 a d ["text", "some"] (spD ⟨K, mg⟩ 2 F__law_in) := by
  unfold F__law_in
  exact fn_d c sc__law_in rfl rfl fun cdv A outer s H E hr => by have hnd := sc__law_in; unfold B__law_in; walk_at "db0"
theorem ok__law_told {a : Addr} {d : FuncData} (c : FF K mg "_law_told" s__law_told ["one", "other"] a d) (k_meet_texts : CalleeOk F_meet_texts 2 "meet_texts" P w K mg base 6) (k_join_texts : CalleeOk F_join_texts 2 "join_texts" P w K mg base 7) (k__law_word : CalleeOk F__law_word 3 "_law_word" P w K mg base 1) (k_is_texts : CalleeOk F_is_texts 1 "is_texts" P w K mg base 2) (k__law_in : CalleeOk F__law_in 2 "_law_in" P w K mg base 1) : FnOk P w K mg base CX0 8 a d ["one", "other"] (spD ⟨K, mg⟩ 2 F__law_told) := by
  unfold F__law_told
  exact fn_d c sc__law_told rfl rfl fun cdv A outer s H E hr => by have hnd := sc__law_told; unfold B__law_told; walk_at "db0"
theorem ok_law {a : Addr} {d : FuncData} (c : FF K mg "law" s_law ["script"] a d) (k__law_hand : CalleeOk F__law_hand 3 "_law_hand" P w K mg base 1) (k__law_row : CalleeOk F__law_row 3 "_law_row" P w K mg base 4) (k__law_told : CalleeOk F__law_told 2 "_law_told" P w K mg base 8) (k_meet_texts : CalleeOk F_meet_texts 2 "meet_texts" P w K mg base 6) (k_join_texts : CalleeOk F_join_texts 2 "join_texts" P w K mg base 7) : FnOk P w K mg base CX0 9 a d ["script"] (spD ⟨K, mg⟩ 1 F_law) := by
  unfold F_law
  exact fn_d c sc_law rfl rfl fun cdv A outer s H E hr => by have hnd := sc_law; unfold B_law; walk_at "db0"
end
set_option maxHeartbeats 4000000 in
theorem all_mk {l : PySem.W.OpenLaw} {w : World} {K : PySem.W.Frag} {h : Heap} {mg : Str → Option Value} {fa : Addr} (X : K.In h) (G : h.Ns mainGlobals mg) (hfa : mg "law" = some (.ref fa))
    {f__law_hand : Addr} {od__law_hand an__law_hand : Option Addr} {sl__law_hand : Array (Option Value)} {oc__law_hand kV__law_hand dc__law_hand pm__law_hand cd__law_hand ct__law_hand : Value}
    (a__law_hand : PySem.W.nsIn K mainGlobals "_law_hand" = some (some (.ref f__law_hand))) (l__law_hand : K.lookup f__law_hand = some ⟨oc__law_hand, od__law_hand, .func (PySem.W.fnOf "_law_hand" "_law_hand" (defArgs s__law_hand) (defBody s__law_hand) (defScope s__law_hand) .none kV__law_hand dc__law_hand pm__law_hand an__law_hand cd__law_hand ct__law_hand), sl__law_hand⟩) (e__law_hand : PySem.W.codeIn K cd__law_hand "_law_hand" = true) (k__law_hand : PySem.W.keepIn K (.ref f__law_hand) = true)
    {f__law_draw : Addr} {od__law_draw an__law_draw : Option Addr} {sl__law_draw : Array (Option Value)} {oc__law_draw kV__law_draw dc__law_draw pm__law_draw cd__law_draw ct__law_draw : Value}
    (a__law_draw : PySem.W.nsIn K mainGlobals "_law_draw" = some (some (.ref f__law_draw))) (l__law_draw : K.lookup f__law_draw = some ⟨oc__law_draw, od__law_draw, .func (PySem.W.fnOf "_law_draw" "_law_draw" (defArgs s__law_draw) (defBody s__law_draw) (defScope s__law_draw) .none kV__law_draw dc__law_draw pm__law_draw an__law_draw cd__law_draw ct__law_draw), sl__law_draw⟩) (e__law_draw : PySem.W.codeIn K cd__law_draw "_law_draw" = true) (k__law_draw : PySem.W.keepIn K (.ref f__law_draw) = true)
    {f__law_letters : Addr} {od__law_letters an__law_letters : Option Addr} {sl__law_letters : Array (Option Value)} {oc__law_letters kV__law_letters dc__law_letters pm__law_letters cd__law_letters ct__law_letters : Value}
    (a__law_letters : PySem.W.nsIn K mainGlobals "_law_letters" = some (some (.ref f__law_letters))) (l__law_letters : K.lookup f__law_letters = some ⟨oc__law_letters, od__law_letters, .func (PySem.W.fnOf "_law_letters" "_law_letters" (defArgs s__law_letters) (defBody s__law_letters) (defScope s__law_letters) .none kV__law_letters dc__law_letters pm__law_letters an__law_letters cd__law_letters ct__law_letters), sl__law_letters⟩) (e__law_letters : PySem.W.codeIn K cd__law_letters "_law_letters" = true) (k__law_letters : PySem.W.keepIn K (.ref f__law_letters) = true)
    {f__law_text : Addr} {od__law_text an__law_text : Option Addr} {sl__law_text : Array (Option Value)} {oc__law_text kV__law_text dc__law_text pm__law_text cd__law_text ct__law_text : Value}
    (a__law_text : PySem.W.nsIn K mainGlobals "_law_text" = some (some (.ref f__law_text))) (l__law_text : K.lookup f__law_text = some ⟨oc__law_text, od__law_text, .func (PySem.W.fnOf "_law_text" "_law_text" (defArgs s__law_text) (defBody s__law_text) (defScope s__law_text) .none kV__law_text dc__law_text pm__law_text an__law_text cd__law_text ct__law_text), sl__law_text⟩) (e__law_text : PySem.W.codeIn K cd__law_text "_law_text" = true) (k__law_text : PySem.W.keepIn K (.ref f__law_text) = true)
    {f__law_row : Addr} {od__law_row an__law_row : Option Addr} {sl__law_row : Array (Option Value)} {oc__law_row kV__law_row dc__law_row pm__law_row cd__law_row ct__law_row : Value}
    (a__law_row : PySem.W.nsIn K mainGlobals "_law_row" = some (some (.ref f__law_row))) (l__law_row : K.lookup f__law_row = some ⟨oc__law_row, od__law_row, .func (PySem.W.fnOf "_law_row" "_law_row" (defArgs s__law_row) (defBody s__law_row) (defScope s__law_row) .none kV__law_row dc__law_row pm__law_row an__law_row cd__law_row ct__law_row), sl__law_row⟩) (e__law_row : PySem.W.codeIn K cd__law_row "_law_row" = true) (k__law_row : PySem.W.keepIn K (.ref f__law_row) = true)
    {f_marked : Addr} {od_marked an_marked : Option Addr} {sl_marked : Array (Option Value)} {oc_marked kV_marked dc_marked pm_marked cd_marked ct_marked : Value}
    (a_marked : PySem.W.nsIn K mainGlobals "marked" = some (some (.ref f_marked))) (l_marked : K.lookup f_marked = some ⟨oc_marked, od_marked, .func (PySem.W.fnOf "marked" "marked" (defArgs s_marked) (defBody s_marked) (defScope s_marked) .none kV_marked dc_marked pm_marked an_marked cd_marked ct_marked), sl_marked⟩) (e_marked : PySem.W.codeIn K cd_marked "marked" = true) (k_marked : PySem.W.keepIn K (.ref f_marked) = true)
    {f_text_order : Addr} {od_text_order an_text_order : Option Addr} {sl_text_order : Array (Option Value)} {oc_text_order kV_text_order dc_text_order pm_text_order cd_text_order ct_text_order : Value}
    (a_text_order : PySem.W.nsIn K mainGlobals "text_order" = some (some (.ref f_text_order))) (l_text_order : K.lookup f_text_order = some ⟨oc_text_order, od_text_order, .func (PySem.W.fnOf "text_order" "text_order" (defArgs s_text_order) (defBody s_text_order) (defScope s_text_order) .none kV_text_order dc_text_order pm_text_order an_text_order cd_text_order ct_text_order), sl_text_order⟩) (e_text_order : PySem.W.codeIn K cd_text_order "text_order" = true) (k_text_order : PySem.W.keepIn K (.ref f_text_order) = true)
    {f_rising_texts : Addr} {od_rising_texts an_rising_texts : Option Addr} {sl_rising_texts : Array (Option Value)} {oc_rising_texts kV_rising_texts dc_rising_texts pm_rising_texts cd_rising_texts ct_rising_texts : Value}
    (a_rising_texts : PySem.W.nsIn K mainGlobals "rising_texts" = some (some (.ref f_rising_texts))) (l_rising_texts : K.lookup f_rising_texts = some ⟨oc_rising_texts, od_rising_texts, .func (PySem.W.fnOf "rising_texts" "rising_texts" (defArgs s_rising_texts) (defBody s_rising_texts) (defScope s_rising_texts) .none kV_rising_texts dc_rising_texts pm_rising_texts an_rising_texts cd_rising_texts ct_rising_texts), sl_rising_texts⟩) (e_rising_texts : PySem.W.codeIn K cd_rising_texts "rising_texts" = true) (k_rising_texts : PySem.W.keepIn K (.ref f_rising_texts) = true)
    {f_in_either : Addr} {od_in_either an_in_either : Option Addr} {sl_in_either : Array (Option Value)} {oc_in_either kV_in_either dc_in_either pm_in_either cd_in_either ct_in_either : Value}
    (a_in_either : PySem.W.nsIn K mainGlobals "in_either" = some (some (.ref f_in_either))) (l_in_either : K.lookup f_in_either = some ⟨oc_in_either, od_in_either, .func (PySem.W.fnOf "in_either" "in_either" (defArgs s_in_either) (defBody s_in_either) (defScope s_in_either) .none kV_in_either dc_in_either pm_in_either an_in_either cd_in_either ct_in_either), sl_in_either⟩) (e_in_either : PySem.W.codeIn K cd_in_either "in_either" = true) (k_in_either : PySem.W.keepIn K (.ref f_in_either) = true)
    {f_in_both : Addr} {od_in_both an_in_both : Option Addr} {sl_in_both : Array (Option Value)} {oc_in_both kV_in_both dc_in_both pm_in_both cd_in_both ct_in_both : Value}
    (a_in_both : PySem.W.nsIn K mainGlobals "in_both" = some (some (.ref f_in_both))) (l_in_both : K.lookup f_in_both = some ⟨oc_in_both, od_in_both, .func (PySem.W.fnOf "in_both" "in_both" (defArgs s_in_both) (defBody s_in_both) (defScope s_in_both) .none kV_in_both dc_in_both pm_in_both an_in_both cd_in_both ct_in_both), sl_in_both⟩) (e_in_both : PySem.W.codeIn K cd_in_both "in_both" = true) (k_in_both : PySem.W.keepIn K (.ref f_in_both) = true)
    {f_without : Addr} {od_without an_without : Option Addr} {sl_without : Array (Option Value)} {oc_without kV_without dc_without pm_without cd_without ct_without : Value}
    (a_without : PySem.W.nsIn K mainGlobals "without" = some (some (.ref f_without))) (l_without : K.lookup f_without = some ⟨oc_without, od_without, .func (PySem.W.fnOf "without" "without" (defArgs s_without) (defBody s_without) (defScope s_without) .none kV_without dc_without pm_without an_without cd_without ct_without), sl_without⟩) (e_without : PySem.W.codeIn K cd_without "without" = true) (k_without : PySem.W.keepIn K (.ref f_without) = true)
    {f_meet_texts : Addr} {od_meet_texts an_meet_texts : Option Addr} {sl_meet_texts : Array (Option Value)} {oc_meet_texts kV_meet_texts dc_meet_texts pm_meet_texts cd_meet_texts ct_meet_texts : Value}
    (a_meet_texts : PySem.W.nsIn K mainGlobals "meet_texts" = some (some (.ref f_meet_texts))) (l_meet_texts : K.lookup f_meet_texts = some ⟨oc_meet_texts, od_meet_texts, .func (PySem.W.fnOf "meet_texts" "meet_texts" (defArgs s_meet_texts) (defBody s_meet_texts) (defScope s_meet_texts) .none kV_meet_texts dc_meet_texts pm_meet_texts an_meet_texts cd_meet_texts ct_meet_texts), sl_meet_texts⟩) (e_meet_texts : PySem.W.codeIn K cd_meet_texts "meet_texts" = true) (k_meet_texts : PySem.W.keepIn K (.ref f_meet_texts) = true)
    {f_turned : Addr} {od_turned an_turned : Option Addr} {sl_turned : Array (Option Value)} {oc_turned kV_turned dc_turned pm_turned cd_turned ct_turned : Value}
    (a_turned : PySem.W.nsIn K mainGlobals "turned" = some (some (.ref f_turned))) (l_turned : K.lookup f_turned = some ⟨oc_turned, od_turned, .func (PySem.W.fnOf "turned" "turned" (defArgs s_turned) (defBody s_turned) (defScope s_turned) .none kV_turned dc_turned pm_turned an_turned cd_turned ct_turned), sl_turned⟩) (e_turned : PySem.W.codeIn K cd_turned "turned" = true) (k_turned : PySem.W.keepIn K (.ref f_turned) = true)
    {f_join_texts : Addr} {od_join_texts an_join_texts : Option Addr} {sl_join_texts : Array (Option Value)} {oc_join_texts kV_join_texts dc_join_texts pm_join_texts cd_join_texts ct_join_texts : Value}
    (a_join_texts : PySem.W.nsIn K mainGlobals "join_texts" = some (some (.ref f_join_texts))) (l_join_texts : K.lookup f_join_texts = some ⟨oc_join_texts, od_join_texts, .func (PySem.W.fnOf "join_texts" "join_texts" (defArgs s_join_texts) (defBody s_join_texts) (defScope s_join_texts) .none kV_join_texts dc_join_texts pm_join_texts an_join_texts cd_join_texts ct_join_texts), sl_join_texts⟩) (e_join_texts : PySem.W.codeIn K cd_join_texts "join_texts" = true) (k_join_texts : PySem.W.keepIn K (.ref f_join_texts) = true)
    {f__law_word : Addr} {od__law_word an__law_word : Option Addr} {sl__law_word : Array (Option Value)} {oc__law_word kV__law_word dc__law_word pm__law_word cd__law_word ct__law_word : Value}
    (a__law_word : PySem.W.nsIn K mainGlobals "_law_word" = some (some (.ref f__law_word))) (l__law_word : K.lookup f__law_word = some ⟨oc__law_word, od__law_word, .func (PySem.W.fnOf "_law_word" "_law_word" (defArgs s__law_word) (defBody s__law_word) (defScope s__law_word) .none kV__law_word dc__law_word pm__law_word an__law_word cd__law_word ct__law_word), sl__law_word⟩) (e__law_word : PySem.W.codeIn K cd__law_word "_law_word" = true) (k__law_word : PySem.W.keepIn K (.ref f__law_word) = true)
    {f_rising : Addr} {od_rising an_rising : Option Addr} {sl_rising : Array (Option Value)} {oc_rising kV_rising dc_rising pm_rising cd_rising ct_rising : Value}
    (a_rising : PySem.W.nsIn K mainGlobals "rising" = some (some (.ref f_rising))) (l_rising : K.lookup f_rising = some ⟨oc_rising, od_rising, .func (PySem.W.fnOf "rising" "rising" (defArgs s_rising) (defBody s_rising) (defScope s_rising) .none kV_rising dc_rising pm_rising an_rising cd_rising ct_rising), sl_rising⟩) (e_rising : PySem.W.codeIn K cd_rising "rising" = true) (k_rising : PySem.W.keepIn K (.ref f_rising) = true)
    {f_is_tagged : Addr} {od_is_tagged an_is_tagged : Option Addr} {sl_is_tagged : Array (Option Value)} {oc_is_tagged kV_is_tagged dc_is_tagged pm_is_tagged cd_is_tagged ct_is_tagged : Value}
    (a_is_tagged : PySem.W.nsIn K mainGlobals "is_tagged" = some (some (.ref f_is_tagged))) (l_is_tagged : K.lookup f_is_tagged = some ⟨oc_is_tagged, od_is_tagged, .func (PySem.W.fnOf "is_tagged" "is_tagged" (defArgs s_is_tagged) (defBody s_is_tagged) (defScope s_is_tagged) .none kV_is_tagged dc_is_tagged pm_is_tagged an_is_tagged cd_is_tagged ct_is_tagged), sl_is_tagged⟩) (e_is_tagged : PySem.W.codeIn K cd_is_tagged "is_tagged" = true) (k_is_tagged : PySem.W.keepIn K (.ref f_is_tagged) = true)
    {f_is_text : Addr} {od_is_text an_is_text : Option Addr} {sl_is_text : Array (Option Value)} {oc_is_text kV_is_text dc_is_text pm_is_text cd_is_text ct_is_text : Value}
    (a_is_text : PySem.W.nsIn K mainGlobals "is_text" = some (some (.ref f_is_text))) (l_is_text : K.lookup f_is_text = some ⟨oc_is_text, od_is_text, .func (PySem.W.fnOf "is_text" "is_text" (defArgs s_is_text) (defBody s_is_text) (defScope s_is_text) .none kV_is_text dc_is_text pm_is_text an_is_text cd_is_text ct_is_text), sl_is_text⟩) (e_is_text : PySem.W.codeIn K cd_is_text "is_text" = true) (k_is_text : PySem.W.keepIn K (.ref f_is_text) = true)
    {f_is_texts : Addr} {od_is_texts an_is_texts : Option Addr} {sl_is_texts : Array (Option Value)} {oc_is_texts kV_is_texts dc_is_texts pm_is_texts cd_is_texts ct_is_texts : Value}
    (a_is_texts : PySem.W.nsIn K mainGlobals "is_texts" = some (some (.ref f_is_texts))) (l_is_texts : K.lookup f_is_texts = some ⟨oc_is_texts, od_is_texts, .func (PySem.W.fnOf "is_texts" "is_texts" (defArgs s_is_texts) (defBody s_is_texts) (defScope s_is_texts) .none kV_is_texts dc_is_texts pm_is_texts an_is_texts cd_is_texts ct_is_texts), sl_is_texts⟩) (e_is_texts : PySem.W.codeIn K cd_is_texts "is_texts" = true) (k_is_texts : PySem.W.keepIn K (.ref f_is_texts) = true)
    {f__law_in : Addr} {od__law_in an__law_in : Option Addr} {sl__law_in : Array (Option Value)} {oc__law_in kV__law_in dc__law_in pm__law_in cd__law_in ct__law_in : Value}
    (a__law_in : PySem.W.nsIn K mainGlobals "_law_in" = some (some (.ref f__law_in))) (l__law_in : K.lookup f__law_in = some ⟨oc__law_in, od__law_in, .func (PySem.W.fnOf "_law_in" "_law_in" (defArgs s__law_in) (defBody s__law_in) (defScope s__law_in) .none kV__law_in dc__law_in pm__law_in an__law_in cd__law_in ct__law_in), sl__law_in⟩) (e__law_in : PySem.W.codeIn K cd__law_in "_law_in" = true) (k__law_in : PySem.W.keepIn K (.ref f__law_in) = true)
    {f__law_told : Addr} {od__law_told an__law_told : Option Addr} {sl__law_told : Array (Option Value)} {oc__law_told kV__law_told dc__law_told pm__law_told cd__law_told ct__law_told : Value}
    (a__law_told : PySem.W.nsIn K mainGlobals "_law_told" = some (some (.ref f__law_told))) (l__law_told : K.lookup f__law_told = some ⟨oc__law_told, od__law_told, .func (PySem.W.fnOf "_law_told" "_law_told" (defArgs s__law_told) (defBody s__law_told) (defScope s__law_told) .none kV__law_told dc__law_told pm__law_told an__law_told cd__law_told ct__law_told), sl__law_told⟩) (e__law_told : PySem.W.codeIn K cd__law_told "_law_told" = true) (k__law_told : PySem.W.keepIn K (.ref f__law_told) = true)
    {f_law : Addr} {od_law an_law : Option Addr} {sl_law : Array (Option Value)} {oc_law kV_law dc_law pm_law cd_law ct_law : Value}
    (a_law : PySem.W.nsIn K mainGlobals "law" = some (some (.ref f_law))) (l_law : K.lookup f_law = some ⟨oc_law, od_law, .func (PySem.W.fnOf "law" "law" (defArgs s_law) (defBody s_law) (defScope s_law) .none kV_law dc_law pm_law an_law cd_law ct_law), sl_law⟩) (e_law : PySem.W.codeIn K cd_law "law" = true) (k_law : PySem.W.keepIn K (.ref f_law) = true)
    (y_len : PySem.W.nsIn K mainGlobals "len" = some none)
    (y_isinstance : PySem.W.nsIn K mainGlobals "isinstance" = some none)
    (y_all : PySem.W.nsIn K mainGlobals "all" = some none)
    (y_any : PySem.W.nsIn K mainGlobals "any" = some none)
    (y_sum : PySem.W.nsIn K mainGlobals "sum" = some none)
    (y_min : PySem.W.nsIn K mainGlobals "min" = some none)
    (y_max : PySem.W.nsIn K mainGlobals "max" = some none)
    (y_abs : PySem.W.nsIn K mainGlobals "abs" = some none)
    (y_sorted : PySem.W.nsIn K mainGlobals "sorted" = some none)
    (y_tuple : PySem.W.nsIn K mainGlobals "tuple" = some none)
    (y_list : PySem.W.nsIn K mainGlobals "list" = some none)
    (y_int : PySem.W.nsIn K mainGlobals "int" = some none)
    (y_str : PySem.W.nsIn K mainGlobals "str" = some none)
    (y_bool : PySem.W.nsIn K mainGlobals "bool" = some none)
    (y_dict : PySem.W.nsIn K mainGlobals "dict" = some none)
    (y_zip : PySem.W.nsIn K mainGlobals "zip" = some none)
    (y_enumerate : PySem.W.nsIn K mainGlobals "enumerate" = some none)
    (y_range : PySem.W.nsIn K mainGlobals "range" = some none)
    (y_reversed : PySem.W.nsIn K mainGlobals "reversed" = some none)
    (pure : ∀ ns : List Int, ns.length ≤ 63 → ∃ G', F_law [.ref 0] [.rol (ns.map D.int)] = some (.ok (.bl true), G')) :
    ∃ fd : FuncData, (∀ (s : Shared) (v : Value), BindsTo s fd ⟨[v], []⟩ [("script", v)]) ∧ ∀ base : Heap, K.In base → base.Ns mainGlobals mg → FnOk l.prog w K mg base CX0 9 fa fd ["script"] (spLaw K) := by
  have e := hfa.symm.trans (PySem.W.mg_of X G a_law)
  cases e
  have C__law_hand : FF K mg "_law_hand" s__law_hand ["script", "cell", "k"] _ _ := ⟨fun_mk (st := s__law_hand) l__law_hand e__law_hand k__law_hand, (fun_mk (st := s__law_hand) l__law_hand e__law_hand k__law_hand).binds (ps := ["script", "cell", "k"]) (fun _ _ _ _ _ _ us hl => match us, hl with | [_, _, _], _ => rfl), PySem.W.mg_of X G a__law_hand⟩
  have C__law_draw : FF K mg "_law_draw" s__law_draw ["hand", "limit"] _ _ := ⟨fun_mk (st := s__law_draw) l__law_draw e__law_draw k__law_draw, (fun_mk (st := s__law_draw) l__law_draw e__law_draw k__law_draw).binds (ps := ["hand", "limit"]) (fun _ _ _ _ _ _ us hl => match us, hl with | [_, _], _ => rfl), PySem.W.mg_of X G a__law_draw⟩
  have C__law_letters : FF K mg "_law_letters" s__law_letters ["hand", "least", "most"] _ _ := ⟨fun_mk (st := s__law_letters) l__law_letters e__law_letters k__law_letters, (fun_mk (st := s__law_letters) l__law_letters e__law_letters k__law_letters).binds (ps := ["hand", "least", "most"]) (fun _ _ _ _ _ _ us hl => match us, hl with | [_, _, _], _ => rfl), PySem.W.mg_of X G a__law_letters⟩
  have C__law_text : FF K mg "_law_text" s__law_text ["hand"] _ _ := ⟨fun_mk (st := s__law_text) l__law_text e__law_text k__law_text, (fun_mk (st := s__law_text) l__law_text e__law_text k__law_text).binds (ps := ["hand"]) (fun _ _ _ _ _ _ us hl => match us, hl with | [_], _ => rfl), PySem.W.mg_of X G a__law_text⟩
  have C__law_row : FF K mg "_law_row" s__law_row ["hand", "most", "known"] _ _ := ⟨fun_mk (st := s__law_row) l__law_row e__law_row k__law_row, (fun_mk (st := s__law_row) l__law_row e__law_row k__law_row).binds (ps := ["hand", "most", "known"]) (fun _ _ _ _ _ _ us hl => match us, hl with | [_, _, _], _ => rfl), PySem.W.mg_of X G a__law_row⟩
  have C_marked : FF K mg "marked" s_marked ["texts"] _ _ := ⟨fun_mk (st := s_marked) l_marked e_marked k_marked, (fun_mk (st := s_marked) l_marked e_marked k_marked).binds (ps := ["texts"]) (fun _ _ _ _ _ _ us hl => match us, hl with | [_], _ => rfl), PySem.W.mg_of X G a_marked⟩
  have C_text_order : FF K mg "text_order" s_text_order ["text"] _ _ := ⟨fun_mk (st := s_text_order) l_text_order e_text_order k_text_order, (fun_mk (st := s_text_order) l_text_order e_text_order k_text_order).binds (ps := ["text"]) (fun _ _ _ _ _ _ us hl => match us, hl with | [_], _ => rfl), PySem.W.mg_of X G a_text_order⟩
  have C_rising_texts : FF K mg "rising_texts" s_rising_texts ["texts"] _ _ := ⟨fun_mk (st := s_rising_texts) l_rising_texts e_rising_texts k_rising_texts, (fun_mk (st := s_rising_texts) l_rising_texts e_rising_texts k_rising_texts).binds (ps := ["texts"]) (fun _ _ _ _ _ _ us hl => match us, hl with | [_], _ => rfl), PySem.W.mg_of X G a_rising_texts⟩
  have C_in_either : FF K mg "in_either" s_in_either ["one", "other"] _ _ := ⟨fun_mk (st := s_in_either) l_in_either e_in_either k_in_either, (fun_mk (st := s_in_either) l_in_either e_in_either k_in_either).binds (ps := ["one", "other"]) (fun _ _ _ _ _ _ us hl => match us, hl with | [_, _], _ => rfl), PySem.W.mg_of X G a_in_either⟩
  have C_in_both : FF K mg "in_both" s_in_both ["one", "other"] _ _ := ⟨fun_mk (st := s_in_both) l_in_both e_in_both k_in_both, (fun_mk (st := s_in_both) l_in_both e_in_both k_in_both).binds (ps := ["one", "other"]) (fun _ _ _ _ _ _ us hl => match us, hl with | [_, _], _ => rfl), PySem.W.mg_of X G a_in_both⟩
  have C_without : FF K mg "without" s_without ["one", "other"] _ _ := ⟨fun_mk (st := s_without) l_without e_without k_without, (fun_mk (st := s_without) l_without e_without k_without).binds (ps := ["one", "other"]) (fun _ _ _ _ _ _ us hl => match us, hl with | [_, _], _ => rfl), PySem.W.mg_of X G a_without⟩
  have C_meet_texts : FF K mg "meet_texts" s_meet_texts ["one", "other"] _ _ := ⟨fun_mk (st := s_meet_texts) l_meet_texts e_meet_texts k_meet_texts, (fun_mk (st := s_meet_texts) l_meet_texts e_meet_texts k_meet_texts).binds (ps := ["one", "other"]) (fun _ _ _ _ _ _ us hl => match us, hl with | [_, _], _ => rfl), PySem.W.mg_of X G a_meet_texts⟩
  have C_turned : FF K mg "turned" s_turned ["texts"] _ _ := ⟨fun_mk (st := s_turned) l_turned e_turned k_turned, (fun_mk (st := s_turned) l_turned e_turned k_turned).binds (ps := ["texts"]) (fun _ _ _ _ _ _ us hl => match us, hl with | [_], _ => rfl), PySem.W.mg_of X G a_turned⟩
  have C_join_texts : FF K mg "join_texts" s_join_texts ["one", "other"] _ _ := ⟨fun_mk (st := s_join_texts) l_join_texts e_join_texts k_join_texts, (fun_mk (st := s_join_texts) l_join_texts e_join_texts k_join_texts).binds (ps := ["one", "other"]) (fun _ _ _ _ _ _ us hl => match us, hl with | [_, _], _ => rfl), PySem.W.mg_of X G a_join_texts⟩
  have C__law_word : FF K mg "_law_word" s__law_word ["one", "other", "way"] _ _ := ⟨fun_mk (st := s__law_word) l__law_word e__law_word k__law_word, (fun_mk (st := s__law_word) l__law_word e__law_word k__law_word).binds (ps := ["one", "other", "way"]) (fun _ _ _ _ _ _ us hl => match us, hl with | [_, _, _], _ => rfl), PySem.W.mg_of X G a__law_word⟩
  have C_rising : FF K mg "rising" s_rising ["keys"] _ _ := ⟨fun_mk (st := s_rising) l_rising e_rising k_rising, (fun_mk (st := s_rising) l_rising e_rising k_rising).binds (ps := ["keys"]) (fun _ _ _ _ _ _ us hl => match us, hl with | [_], _ => rfl), PySem.W.mg_of X G a_rising⟩
  have C_is_tagged : FF K mg "is_tagged" s_is_tagged ["thing", "word"] _ _ := ⟨fun_mk (st := s_is_tagged) l_is_tagged e_is_tagged k_is_tagged, (fun_mk (st := s_is_tagged) l_is_tagged e_is_tagged k_is_tagged).binds (ps := ["thing", "word"]) (fun _ _ _ _ _ _ us hl => match us, hl with | [_, _], _ => rfl), PySem.W.mg_of X G a_is_tagged⟩
  have C_is_text : FF K mg "is_text" s_is_text ["thing"] _ _ := ⟨fun_mk (st := s_is_text) l_is_text e_is_text k_is_text, (fun_mk (st := s_is_text) l_is_text e_is_text k_is_text).binds (ps := ["thing"]) (fun _ _ _ _ _ _ us hl => match us, hl with | [_], _ => rfl), PySem.W.mg_of X G a_is_text⟩
  have C_is_texts : FF K mg "is_texts" s_is_texts ["thing"] _ _ := ⟨fun_mk (st := s_is_texts) l_is_texts e_is_texts k_is_texts, (fun_mk (st := s_is_texts) l_is_texts e_is_texts k_is_texts).binds (ps := ["thing"]) (fun _ _ _ _ _ _ us hl => match us, hl with | [_], _ => rfl), PySem.W.mg_of X G a_is_texts⟩
  have C__law_in : FF K mg "_law_in" s__law_in ["text", "some"] _ _ := ⟨fun_mk (st := s__law_in) l__law_in e__law_in k__law_in, (fun_mk (st := s__law_in) l__law_in e__law_in k__law_in).binds (ps := ["text", "some"]) (fun _ _ _ _ _ _ us hl => match us, hl with | [_, _], _ => rfl), PySem.W.mg_of X G a__law_in⟩
  have C__law_told : FF K mg "_law_told" s__law_told ["one", "other"] _ _ := ⟨fun_mk (st := s__law_told) l__law_told e__law_told k__law_told, (fun_mk (st := s__law_told) l__law_told e__law_told k__law_told).binds (ps := ["one", "other"]) (fun _ _ _ _ _ _ us hl => match us, hl with | [_, _], _ => rfl), PySem.W.mg_of X G a__law_told⟩
  have C_law : FF K mg "law" s_law ["script"] _ _ := ⟨fun_mk (st := s_law) l_law e_law k_law, (fun_mk (st := s_law) l_law e_law k_law).binds (ps := ["script"]) (fun _ _ _ _ _ _ us hl => match us, hl with | [_], _ => rfl), PySem.W.mg_of X G a_law⟩
  have zb : BLs mg := ⟨fun b hb => by
    simp only [bltL, List.mem_cons, List.not_mem_nil, or_false] at hb
    rcases hb with rfl | rfl | rfl | rfl | rfl | rfl | rfl | rfl | rfl | rfl | rfl | rfl | rfl | rfl | rfl | rfl | rfl | rfl | rfl
    all_goals first
      | exact PySem.W.mg_none_of X G y_len
      | exact PySem.W.mg_none_of X G y_isinstance
      | exact PySem.W.mg_none_of X G y_all
      | exact PySem.W.mg_none_of X G y_any
      | exact PySem.W.mg_none_of X G y_sum
      | exact PySem.W.mg_none_of X G y_min
      | exact PySem.W.mg_none_of X G y_max
      | exact PySem.W.mg_none_of X G y_abs
      | exact PySem.W.mg_none_of X G y_sorted
      | exact PySem.W.mg_none_of X G y_tuple
      | exact PySem.W.mg_none_of X G y_list
      | exact PySem.W.mg_none_of X G y_int
      | exact PySem.W.mg_none_of X G y_str
      | exact PySem.W.mg_none_of X G y_bool
      | exact PySem.W.mg_none_of X G y_dict
      | exact PySem.W.mg_none_of X G y_zip
      | exact PySem.W.mg_none_of X G y_enumerate
      | exact PySem.W.mg_none_of X G y_range
      | exact PySem.W.mg_none_of X G y_reversed⟩
  refine ⟨PySem.W.fnOf "law" "law" (defArgs s_law) (defBody s_law) (defScope s_law) .none kV_law dc_law pm_law an_law cd_law ct_law, fun s v => .of_eq rfl, fun base _ _ => law_of ?_ pure⟩
  have O__law_hand := ok__law_hand (P := l.prog) (w := w) (base := base) zb C__law_hand
  have O__law_draw := ok__law_draw (P := l.prog) (w := w) (base := base) zb C__law_draw
  have O__law_letters := ok__law_letters (P := l.prog) (w := w) (base := base) zb C__law_letters (CalleeOk.of C__law_draw O__law_draw)
  have O__law_text := ok__law_text (P := l.prog) (w := w) (base := base) zb C__law_text (CalleeOk.of C__law_draw O__law_draw) (CalleeOk.of C__law_letters O__law_letters)
  have O__law_row := ok__law_row (P := l.prog) (w := w) (base := base) zb C__law_row (CalleeOk.of C__law_draw O__law_draw) (CalleeOk.of C__law_text O__law_text)
  have O_marked := ok_marked (P := l.prog) (w := w) (base := base) zb C_marked
  have O_text_order := ok_text_order (P := l.prog) (w := w) (base := base) zb C_text_order
  have O_rising_texts := ok_rising_texts (P := l.prog) (w := w) (base := base) zb C_rising_texts (CalleeOk.of C_marked O_marked) (CalleeOk.of C_text_order O_text_order)
  have O_in_either := ok_in_either (P := l.prog) (w := w) (base := base) zb C_in_either (CalleeOk.of C_rising_texts O_rising_texts)
  have O_in_both := ok_in_both (P := l.prog) (w := w) (base := base) zb C_in_both (CalleeOk.of C_marked O_marked)
  have O_without := ok_without (P := l.prog) (w := w) (base := base) zb C_without (CalleeOk.of C_marked O_marked)
  have O_meet_texts := ok_meet_texts (P := l.prog) (w := w) (base := base) zb C_meet_texts (CalleeOk.of C_in_either O_in_either) (CalleeOk.of C_in_both O_in_both) (CalleeOk.of C_without O_without)
  have O_turned := ok_turned (P := l.prog) (w := w) (base := base) zb C_turned
  have O_join_texts := ok_join_texts (P := l.prog) (w := w) (base := base) zb C_join_texts (CalleeOk.of C_turned O_turned) (CalleeOk.of C_meet_texts O_meet_texts)
  have O__law_word := ok__law_word (P := l.prog) (w := w) (base := base) zb C__law_word
  have O_rising := ok_rising (P := l.prog) (w := w) (base := base) zb C_rising
  have O_is_tagged := ok_is_tagged (P := l.prog) (w := w) (base := base) zb C_is_tagged
  have O_is_text := ok_is_text (P := l.prog) (w := w) (base := base) zb C_is_text
  have O_is_texts := ok_is_texts (P := l.prog) (w := w) (base := base) zb C_is_texts (CalleeOk.of C_rising O_rising) (CalleeOk.of C_is_tagged O_is_tagged) (CalleeOk.of C_text_order O_text_order) (CalleeOk.of C_is_text O_is_text)
  have O__law_in := ok__law_in (P := l.prog) (w := w) (base := base) zb C__law_in
  have O__law_told := ok__law_told (P := l.prog) (w := w) (base := base) zb C__law_told (CalleeOk.of C_meet_texts O_meet_texts) (CalleeOk.of C_join_texts O_join_texts) (CalleeOk.of C__law_word O__law_word) (CalleeOk.of C_is_texts O_is_texts) (CalleeOk.of C__law_in O__law_in)
  have O_law := ok_law (P := l.prog) (w := w) (base := base) zb C_law (CalleeOk.of C__law_hand O__law_hand) (CalleeOk.of C__law_row O__law_row) (CalleeOk.of C__law_told O__law_told) (CalleeOk.of C_meet_texts O_meet_texts) (CalleeOk.of C_join_texts O_join_texts)
  exact O_law
theorem walk {l : PySem.W.OpenLaw} {q : Program} {loose : List Str} {XP : (Str → Option Value) → Heap → Prop} {YP : World → Heap → Prop} {d : DefRec} {K : Params → PySem.W.Frag} (hn : l.most = some 63) (hdf : d.params.defaults = [])
    (hY : ∀ (w : World) (h : Heap), YP w h → (K w.params).In h)
    (F : ∀ (w : World) (mg : Str → Option Value) (fa : Addr) (h : Heap), (K w.params).In h → h.Ns mainGlobals mg → mg d.name = some (.ref fa) →
      ∃ fd : FuncData, (∀ (s : Shared) (u : Value), BindsTo s fd ⟨[u], []⟩ [("script", u)]) ∧ ∀ base : Heap, (K w.params).In base → base.Ns mainGlobals mg → FnOk l.prog w (K w.params) mg base CX0 9 fa fd ["script"] (spLaw (K w.params))) :
    PySem.W.WalkO q loose XP YP l.row.toRowW d [] (fun f vs => PySem.call f vs) :=
  L2.walk_of (n := 63) (k := 9) (x := "script") (CX := fun _ => CX0) (sp := fun w => spLaw (K w.params)) hn (by decide) hdf ⟨rfl, by decide, by decide⟩ hY F (fun _ _ a ns hl hO hS => ⟨a, ns, rfl, hS, hO, hl, fun _ => rfl⟩) fun _ _ _ _ _ z => z
end W
set_option Elab.async false
set_option linter.all false
set_option maxRecDepth 100000
namespace W
open PySem PySem.Spec L2 DL
open PyProof.Rows hiding St
mutual
def szD : D → Nat
  | .tup l => 1 + szL l
  | .str _ => 1
  | .ref _ => 1
  | .fn _ => 1
  | .ty _ => 1
  | .non => 1
  | .bl _ => 1
  | .int _ => 1
def szL : List D → Nat
  | [] => 0
  | d :: r => szD d + szL r
end
theorem szD_pos : ∀ d : D, 1 ≤ szD d := fun d => by cases d <;> unfold szD <;> omega
theorem szL_len : ∀ l : List D, l.length ≤ szL l
  | [] => by simp [szL]
  | d :: r => by
    have := szL_len r
    have := szD_pos d
    unfold szL
    simp only [List.length_cons]
    omega
abbrev wList : Str := "list"
abbrev wRec : Str := "record"
def tagP (w : Str) : D → Bool
  | .tup [.str a, .tup _] => a == w
  | _ => false
def partsOf : D → List D
  | .tup [_, .tup l] => l
  | _ => []
theorem tag_shape {w : Str} {d : D} (h : tagP w d = true) : ∃ l, d = .tup [.str w, .tup l] := by
  unfold tagP at h
  split at h
  · rename_i a l
    rw [beq_iff_eq] at h
    subst h
    exact ⟨l, rfl⟩
  · cases h
def Ap (G G' : DH) : Prop := ∃ t, G' = G ++ t
theorem Ap.refl {G : DH} : Ap G G := ⟨[], by simp⟩
theorem Ap.trans {G G1 G2 : DH} (h : Ap G G1) (k : Ap G1 G2) : Ap G G2 := by
  obtain ⟨t, rfl⟩ := h
  obtain ⟨u, rfl⟩ := k
  exact ⟨t ++ u, by simp⟩
theorem Ap.one {G : DH} {o : DO} : Ap G (G ++ [o]) := ⟨_, rfl⟩
theorem Ap.at {G G' : DH} {p : Nat} {o : DO} (h : Ap G G') (e : G[p]? = some o) : G'[p]? = some o := by
  obtain ⟨t, rfl⟩ := h
  exact at_app e
theorem Ap.len {G G' : DH} (h : Ap G G') : G.length ≤ G'.length := by
  obtain ⟨t, rfl⟩ := h
  simp
theorem Ap.gr {G G' : DH} (h : Ap G G') : Gr G G' := by
  obtain ⟨t, rfl⟩ := h
  exact Gr.app
section
variable {g : Fg} {t : DSt → M Bool} {e : Fe} {ck : DH → Bool}
theorem comp_mapJ (J : DH → Prop) (S : DSt → Prop) (f : D → D) (hck : ∀ G, J G → ck G = true) : ∀ (items : List D) (σ : DSt) (G : DH), S σ → J G →
    (∀ d ∈ items, ∀ σ G, S σ → J G → Wp (g d σ) G fun σ1 G1 => G1 = G ∧ S σ1 ∧ Wp (t σ1) G fun b G2 => b = true ∧ G2 = G ∧ Wp (e σ1) G fun y G3 => J G3 ∧ y = f d) →
    Wp (compL g t e ck items σ) G fun ys G' => J G' ∧ ys = items.map f
  | [], σ, G, s, j, _ => by
    rw [wp_compN]
    exact ⟨hck G j, j, rfl⟩
  | d :: r, σ, G, s, j, step => by
    rw [wp_compC]
    refine ⟨hck G j, Wp.mono (step d (by simp) σ G s j) fun σ1 G1 ⟨e1, s1, w1⟩ => ?_⟩
    subst e1
    refine Wp.mono w1 fun b G2 ⟨eb, e2, w2⟩ => ?_
    subst eb e2
    rw [if_pos rfl]
    refine Wp.mono w2 fun y G3 ⟨j3, py⟩ => ?_
    refine Wp.mono (comp_mapJ J S f hck r σ1 G3 s1 j3 fun d hd => step d (by simp [hd])) fun ys G4 ⟨j4, l4⟩ => ⟨j4, by simp [l4, py]⟩
end
theorem sl_lst {G : DH} {p : Nat} {l : List D} {lo hi : Option Int} {Q : D → DH → Prop} (e : G[p]? = some (.lst l)) : Wp (slD (.ref p) lo hi) G Q ↔ Q (.ref G.length) (G ++ [.lst (DL.cutD l lo hi)]) := by
  have h : slD (.ref p) lo hi = (do
    let l ← objM p >>= DL.listOf
    allocM (.lst (DL.cutD l lo hi))) := rfl
  rw [h]
  simp only [wp_bind, wp_obj, e, someI, DL.listOf, wp_pure, wp_alloc]
theorem big : 1000000 < sizeLine := by decide
section
variable {t : DSt → M Bool} {b : Fs} {σ : DSt} {G : DH} {P : Fl → DH → Prop}
end
theorem Gr.set {G0 G : DH} {p : Nat} {o : DO} (h : Gr G0 G) (hp : G0.length ≤ p) : Gr G0 (G.set p o) := ⟨by rw [List.length_set]; exact h.1, fun i hi => by rw [List.getElem?_set_ne (by omega)]; exact h.2 i hi⟩
theorem lt_of_get {G : DH} {p : Nat} {o : DO} (e : G[p]? = some o) : p < G.length := by
  by_cases hi : p < G.length
  · exact hi
  · rw [List.getElem?_eq_none (by omega)] at e; cases e
end W
set_option Elab.async false
set_option linter.all false
set_option maxRecDepth 100000
namespace W
open PySem PySem.Spec L2 DL
open PyProof.Rows hiding St
def VB (b : Nat) : Nat → D → Prop
  | 0, _ => False
  | n + 1, d => (∃ i, d = .int i) ∨ (∃ k, d = .bl k) ∨ (∃ z, d = .str z ∧ z.length ≤ b) ∨ (∃ l, d = .tup [.str wList, .tup l] ∧ ∀ x ∈ l, VB b n x) ∨ (∃ l, d = .tup [.str wRec, .tup l] ∧ ∀ x ∈ l, ∃ nm v, x = .tup [.str nm, v] ∧ nm.length ≤ 1000 ∧ VB b n v)
theorem VB.le {b c : Nat} (hb : b ≤ c) : ∀ {n m : Nat} {d : D}, n ≤ m → VB b n d → VB c m d
  | 0, _, _, _, h => h.elim
  | n + 1, 0, _, h, _ => by omega
  | n + 1, m + 1, d, h, a => by
    rcases a with a | a | ⟨z, e, hz⟩ | ⟨l, e, hl⟩ | ⟨l, e, hl⟩
    · exact .inl a
    · exact .inr (.inl a)
    · exact .inr (.inr (.inl ⟨z, e, by omega⟩))
    · exact .inr (.inr (.inr (.inl ⟨l, e, fun x hx => VB.le hb (by omega) (hl x hx)⟩)))
    · exact .inr (.inr (.inr (.inr ⟨l, e, fun x hx => let ⟨nm, v, q1, q2, q3⟩ := hl x hx; ⟨nm, v, q1, q2, VB.le hb (by omega) q3⟩⟩)))
section
variable {bd n : Nat}
theorem VB.b {i : Bool} : VB bd (n + 1) (.bl i) := .inr (.inl ⟨i, rfl⟩)
end
theorem VB.pos {b n : Nat} {d : D} (h : VB b n d) : 0 < n := by
  cases n with
  | zero => exact h.elim
  | succ n => omega
theorem VB.there {b n : Nat} {d : D} {G : DH} (h : VB b n d) : There G d := by
  cases n with
  | zero => exact h.elim
  | succ n => rcases h with ⟨i, rfl⟩ | ⟨k, rfl⟩ | ⟨z, rfl, hz⟩ | ⟨l, rfl, hl⟩ | ⟨l, rfl, hl⟩ <;> exact ⟨_, rfl⟩
section
variable {G : DH} {Q : D → DH → Prop}
theorem ne_bl {a c : Bool} : Wp (neD (.bl a) (.bl c)) G Q ↔ Q (.bl (!(a == c))) G := by
  have e : eqN 40 G (.bl a) (.bl c) = some (a == c) := by rfl
  rw [wp_ne, e]; exact someI
theorem eq_bl {a c : Bool} : Wp (eqD (.bl a) (.bl c)) G Q ↔ Q (.bl (a == c)) G := by
  have e : eqN 40 G (.bl a) (.bl c) = some (a == c) := by rfl
  rw [wp_eq, e]; exact someI
theorem ne_nilT {xs : List D} : Wp (neD (.tup xs) (.tup [])) G Q ↔ Q (.bl (!xs.isEmpty)) G := by
  have h : eqN 40 G (.tup xs) (.tup []) = some xs.isEmpty := by
    rw [eqN]
    cases xs <;> rfl
  rw [wp_ne, h]; exact someI
theorem int_bl {k : Bool} : Wp (intF [.bl k]) G Q ↔ Q (.int (if k then 1 else 0)) G := wp_pure
end
def All2 {α β : Type} (R : α → β → Prop) : List α → List β → Prop
  | [], [] => True
  | a :: r, b :: s => R a b ∧ All2 R r s
  | _, _ => False
section
variable {α β : Type} {R S : α → β → Prop}
theorem All2.len : ∀ {a : List α} {b : List β}, All2 R a b → a.length = b.length
  | [], [], _ => rfl
  | _ :: _, _ :: _, h => by simp [All2.len h.2]
  | [], _ :: _, h => h.elim
  | _ :: _, [], h => h.elim
theorem All2.mono (k : ∀ a b, R a b → S a b) : ∀ {a : List α} {b : List β}, All2 R a b → All2 S a b
  | [], [], _ => trivial
  | _ :: _, _ :: _, h => ⟨k _ _ h.1, All2.mono k h.2⟩
  | [], _ :: _, h => h.elim
  | _ :: _, [], h => h.elim
theorem All2.app : ∀ {a c : List α} {b d : List β}, All2 R a b → All2 R c d → All2 R (a ++ c) (b ++ d)
  | [], _, [], _, _, h => h
  | _ :: _, _, _ :: _, _, h, k => ⟨h.1, All2.app h.2 k⟩
  | [], _, _ :: _, _, h, _ => h.elim
  | _ :: _, _, [], _, h, _ => h.elim
end
end W
set_option Elab.async false
set_option linter.all false
set_option maxRecDepth 100000
namespace W
open PySem PySem.Spec L2 DL
open PyProof.Rows hiding St
mutual
def AT (n : Nat) : D → Prop
  | .str z => z.length ≤ 1000
  | .tup l => ATL n l
  | .ref i => i < n
  | .fn _ => False
  | .ty _ => False
  | .non => True
  | .bl _ => True
  | .int _ => True
def ATL (n : Nat) : List D → Prop
  | [] => True
  | d :: r => AT n d ∧ ATL n r
end
theorem ATL_iff {n : Nat} : ∀ {l : List D}, ATL n l ↔ ∀ x ∈ l, AT n x
  | [] => by simp [ATL]
  | d :: r => by
    unfold ATL
    rw [ATL_iff (l := r)]
    simp
theorem AT_tup {n : Nat} {l : List D} : AT n (.tup l) ↔ ∀ x ∈ l, AT n x := by
  have e : AT n (.tup l) = ATL n l := by rw [AT]
  rw [e]; exact ATL_iff
mutual
theorem AT.le {n m : Nat} (h : n ≤ m) : ∀ {d : D}, AT n d → AT m d
  | .str z, a => by unfold AT at *; exact a
  | .tup l, a => by unfold AT at *; exact ATL.le h a
  | .ref i, a => by unfold AT at *; omega
  | .fn _, a => by unfold AT at a; exact a.elim
  | .ty _, a => by unfold AT at a; exact a.elim
  | .non, a => by unfold AT; trivial
  | .bl _, a => by unfold AT; trivial
  | .int _, a => by unfold AT; trivial
theorem ATL.le {n m : Nat} (h : n ≤ m) : ∀ {l : List D}, ATL n l → ATL m l
  | [], _ => by unfold ATL; trivial
  | d :: r, a => by unfold ATL at *; exact ⟨AT.le h a.1, ATL.le h a.2⟩
end
theorem AT.there {G : DH} {d : D} (h : AT G.length d) : There G d := by
  cases d with
  | ref i =>
    unfold AT at h
    have e : G[i]? = some G[i] := List.getElem?_eq_getElem h
    cases ho : G[i] with
    | lst l => exact ⟨.list, by simp only [kdOf, e, ho]⟩
    | rol l => exact ⟨.list, by simp only [kdOf, e, ho]⟩
    | dct l => exact ⟨.dict, by simp only [kdOf, e, ho]⟩
    | rod l => exact ⟨.dict, by simp only [kdOf, e, ho]⟩
  | fn _ => unfold AT at h; exact h.elim
  | ty _ => unfold AT at h; exact h.elim
  | _ => exact ⟨_, rfl⟩
def letD : D → Bool
  | .str s => letP (s.cps.getD 0 0)
  | _ => false
def textD : D → Bool
  | .str z => textP z
  | _ => false
theorem chars_all (z : Str) : (charsD z).all letD = textP z := by
  unfold charsD textP
  rw [List.all_map]
  rfl
theorem chars_len (z : Str) : (charsD z).length = z.length := by
  unfold charsD
  rw [List.length_map]
  rfl
theorem chars_mem {z : Str} {d : D} (h : d ∈ charsD z) : ∃ c, d = .str ⟨#[c]⟩ := by
  unfold charsD at h
  obtain ⟨c, _, rfl⟩ := List.mem_map.mp h
  exact ⟨c, rfl⟩
theorem le_a_wp {c : Nat} {G : DH} {Q : D → DH → Prop} : Wp (leD (.str ("a" : Str)) (.str ⟨#[c]⟩)) G Q ↔ Q (.bl (decide (97 ≤ c))) G := by rw [le_str', le_a]
theorem le_z_wp {c : Nat} {G : DH} {Q : D → DH → Prop} : Wp (leD (.str ⟨#[c]⟩) (.str ("z" : Str))) G Q ↔ Q (.bl (decide (c ≤ 122))) G := by rw [le_str', le_z]
theorem let_one (c : Nat) : letD (.str ⟨#[c]⟩) = letP c := rfl
theorem AT_str {n : Nat} {z : Str} (h : AT n (.str z)) : z.length ≤ 1000 := by unfold AT at h; exact h
theorem is_text_wp {d : D} {G : DH} (h : AT G.length d) : Wp (F_is_text [d]) G fun x G' => x = .bl (textD d) ∧ Ap G G' := by
  have bg := big
  unfold F_is_text B_is_text
  have s0 : ([d].map some ++ List.replicate (1 - [d].length) none : DSt) = [some d] := rfl
  simp only [wp_body, s0, wp_ret, wp_andV, wp_call, wp_cons, wp_nil, wp_c, wp_var, Option.some.injEq, exists_eq_left', List.getElem?_cons_zero, str_wp h.there, truth_bl]
  cases d with
  | str z =>
    have hz := AT_str h
    simp only [isStrD, if_true]
    rw [comp_wp (s := ⟨charsD z, fun _ => true⟩) (f := fun x => .bl (letD x)) (fun σ => σ.length = 1) rfl (by show (charsD z).length ≤ _; rw [chars_len]; omega) rfl rfl (fun x hx σ hσ => ?_)]
    · rw [all_wp (l := charsD z) (f := letD) app_one]
      exact ⟨by rw [chars_all]; rfl, Ap.one⟩
    · obtain ⟨c, rfl⟩ := chars_mem hx
      match σ, hσ with
      | [u], _ =>
        refine ⟨[some (.str ⟨#[c]⟩)], rfl, rfl, rfl, wp_is ?_⟩
        simp only [wp_chain, wp_c, wp_var, List.getElem?_cons_zero, Option.some.injEq, exists_eq_left', le_a_wp, le_z_wp, isBlI, let_one, letP]
        by_cases h1 : 97 ≤ c
        · simp [h1]
        · simp [h1]
  | _ => simp only [isStrD, Bool.false_eq_true, if_false]; exact ⟨rfl, Ap.refl⟩
theorem is_tagged_wp {d : D} {w : Str} {G : DH} {Q : D → DH → Prop} (h : AT G.length d) : Wp (F_is_tagged [d, .str w]) G Q ↔ Q (.bl (tagP w d)) G := by
  unfold F_is_tagged B_is_tagged
  have s0 : ([d, .str w].map some ++ List.replicate (2 - [d, .str w].length) none : DSt) = [some d, some (.str w)] := rfl
  simp only [wp_body, s0, wp_seq, wp_if, wp_notT, wp_andT, wp_test, wp_truth, wp_ret, wp_andV, wp_bin, wp_call, wp_cons, wp_nil, wp_c, wp_var, wp_next, Option.some.injEq, exists_eq_left', List.getElem?_cons_zero, List.getElem?_cons_succ, tuple_wp h.there, truth_bl, isBlI]
  cases d with
  | tup l =>
    rw [AT_tup] at h
    match l, h with
    | [], _ => simp [isTupD, len_tup, eq_int, tagP]
    | [a], _ => simp [isTupD, len_tup, eq_int, tagP]
    | [a, b], h =>
      have ha := h a (by simp)
      have hb := h b (by simp)
      simp only [isTupD, if_true, len_tup, eq_int, isBlI, truth_bl, List.length_cons, List.length_nil, ix_tup, at0, at1, Option.some.injEq, exists_eq_left', str_wp ha.there]
      simp only [show decide (((0 + 1 + 1 : Nat) : Int) = 2) = true from rfl, Bool.not_true, Bool.false_eq_true, if_false]
      cases a with
      | str z =>
        simp only [isStrD, if_true, eq_str, truth_bl, tuple_wp hb.there]
        by_cases hz : (z == w) = true
        · simp only [hz, if_true]
          cases b <;> simp [isTupD, tagP, hz]
        · have hz' : (z == w) = false := by simpa using hz
          simp only [hz', Bool.false_eq_true, if_false]
          cases b <;> simp [tagP, hz']
      | _ => simp only [isStrD, Bool.false_eq_true, if_false, tagP]
    | a :: b :: c :: r, _ =>
      have n2 : ¬ ((r.length : Int) + 1 + 1 + 1 = 2) := by omega
      simp [isTupD, len_tup, eq_int, tagP, n2]
  | _ => simp [isTupD, tagP]
theorem zip_ref {G : DH} {σ : DSt} {fs : DSt → M (List D)} {R : Src → DH → Prop} : Wp (itZip fs σ) G R ↔ Wp (fs σ) G fun xs G1 => Wp (match xs with
    | [a, b] => do
      let s1 ← srcM a
      let s2 ← srcM b
      pure ⟨(s1.items.zip s2.items).map fun p => .tup [p.1, p.2], fun G => s1.ck G && s2.ck G⟩
    | _ => M.stuck : M Src) G1 R := by
  unfold itZip; simp only [wp_bind] <;> rfl
theorem zip_two {G : DH} {p q : Nat} {k l : List D} {R : Src → DH → Prop} (ep : G[p]? = some (.lst k)) (eq : G[q]? = some (.lst l)) : Wp (match [D.ref p, D.ref q] with
    | [a, b] => do
      let s1 ← srcM a
      let s2 ← srcM b
      pure ⟨(s1.items.zip s2.items).map fun p => .tup [p.1, p.2], fun G => s1.ck G && s2.ck G⟩
    | _ => M.stuck : M Src) G R ↔ R ⟨(k.zip l).map fun p => .tup [p.1, p.2], fun G => ckO p (.lst k) G && ckO q (.lst l) G⟩ G := by
  show Wp (do
      let s1 ← srcM (.ref p)
      let s2 ← srcM (.ref q)
      pure ⟨(s1.items.zip s2.items).map fun p => .tup [p.1, p.2], fun G => s1.ck G && s2.ck G⟩ : M Src) G R ↔ _
  simp only [wp_bind]
  rw [seq_ref (σ := []) ep, seq_ref (σ := []) eq]
  exact wp_pure
theorem slT_lst {G : DH} {p : Nat} {l : List D} {lo hi : Option Int} {Q : D → DH → Prop} (e : G[p]? = some (.lst l)) : Wp (slT (.ref p) lo hi) G Q ↔ Q (.ref G.length) (G ++ [.lst (DL.cutD l lo hi)]) := sl_lst e
def prB (f : D → D → Bool) : D → Bool
  | .tup [a, b] => f a b
  | _ => false
def pairsD (xs : List D) : List D := (xs.zip (xs.drop 1)).map fun p => .tup [p.1, p.2]
def risD (f : D → D → Bool) (xs : List D) : Bool := (pairsD xs).all (prB f)
theorem pairs_len (xs : List D) : (pairsD xs).length ≤ xs.length := by
  unfold pairsD
  rw [List.length_map, List.length_zip, List.length_drop]; omega
theorem ris_comp {G : DH} {ck : DH → Bool} {d : D} {xs : List D} {f : D → D → Bool} (hck : ck G = true) (hlt : ∀ a ∈ xs, ∀ b ∈ xs, ltN 40 G a b = some (f a b)) : compL (tupG 2 (consG (q13 0) (consG (q13 1) nilG))) trueT (binE ltD (varE 0) (varE 1)) ck (pairsD xs) (capSt [none, none] [some d]) G = some (.ok ((pairsD xs).map fun x => .bl (prB f x)), G) := by
  refine compL_map (I := fun σ => σ.length = 2) hck _ _ rfl fun d hd σ hσ => ?_
  obtain ⟨q, hq, rfl⟩ := List.mem_map.mp hd
  match σ, hσ with
  | [u, v], _ =>
    refine ⟨[some q.1, some q.2], rfl, rfl, rfl, wp_is ?_⟩
    simp only [wp_bin, wp_var, List.getElem?_cons_zero, List.getElem?_cons_succ, Option.some.injEq, exists_eq_left', wp_lt]
    have h1 := List.of_mem_zip (a := q.1) (b := q.2) hq
    exact ⟨_, hlt _ h1.1 _ (List.mem_of_mem_drop h1.2), rfl, trivial⟩
theorem rising_lst {G : DH} {p : Nat} {xs : List D} {f : D → D → Bool} (e : G[p]? = some (.lst xs)) (hl : xs.length ≤ sizeLine) (hlt : ∀ G, ∀ a ∈ xs, ∀ b ∈ xs, ltN 40 G a b = some (f a b)) : Wp (F_rising [.ref p]) G fun x G' => x = .bl (risD f xs) ∧ Ap G G' := by
  unfold F_rising B_rising
  have s0 : ([D.ref p].map some ++ List.replicate (1 - [D.ref p].length) none : DSt) = [some (.ref p)] := rfl
  simp only [wp_body, s0, wp_ret, wp_call, wp_cons, wp_nil, wp_comp, zip_ref, wp_sliceT, wp_noPart, wp_part, wp_c, wp_var, Option.some.injEq, exists_eq_left', List.getElem?_cons_zero, intI, slT_lst e]
  rw [zip_two (at_app e) app_one, cut_1]
  refine ⟨Nat.le_trans (pairs_len xs) hl, ?_⟩
  refine (wp_some (ris_comp (xs := xs) (f := f) ?_ (hlt _))).mpr ?_
  · simp only [ckO, at_app e, app_one]; simp
  rw [all_wp (l := pairsD xs) (f := prB f) app_one]
  exact ⟨rfl, Ap.one.trans Ap.one⟩
def ordD : D → D
  | .str z => .tup [.int z.length, .str z]
  | _ => .non
def txB (a b : Str) : Bool := if a.length = b.length then decide (a.cps.toList < b.cps.toList) else decide (a.length < b.length)
def ordB : D → D → Bool
  | .tup [_, .str a], .tup [_, .str b] => txB a b
  | _, _ => false
def txD : D → D → Bool
  | .str a, .str b => txB a b
  | _, _ => false
theorem text_str {d : D} (h : textD d = true) : ∃ z, d = .str z := by
  cases d with
  | str z => exact ⟨z, rfl⟩
  | _ => cases h
theorem ord_lt {G : DH} {a b : Str} : ltN 40 G (ordD (.str a)) (ordD (.str b)) = some (txB a b) := by
  show ltL (eqN 39 G) (ltN 39 G) [.int a.length, .str a] [.int b.length, .str b] = _
  have e1 : eqN 39 G (.int a.length) (.int b.length) = some (decide ((a.length : Int) = b.length)) := rfl
  have e2 : eqN 39 G (.str a) (.str b) = some (a == b) := rfl
  unfold txB
  unfold ltL
  rw [e1]
  by_cases h : a.length = b.length
  · have h' : ((a.length : Int) = b.length) := by omega
    rw [if_pos h]
    simp only [h', decide_true]
    unfold ltL
    rw [e2]
    by_cases k : a = b
    · subst k
      simp [ltL, List.lt_irrefl]
    · have k' : (a == b) = false := by simpa using k
      rw [k']
      rfl
  · have h' : ¬ ((a.length : Int) = b.length) := by omega
    rw [if_neg h]
    simp only [h', decide_false]
    show some (decide ((a.length : Int) < b.length)) = _
    congr 1
    by_cases k : a.length < b.length
    · rw [decide_eq_true k, decide_eq_true (by omega)]
    · rw [decide_eq_false k, decide_eq_false (by omega)]
theorem ris_ord : ∀ {xs : List D}, xs.all textD = true → risD ordB (xs.map ordD) = risD txD xs
  | [], _ => rfl
  | [a], _ => by cases a <;> rfl
  | a :: b :: r, h => by
    have h1 := h
    rw [List.all_cons, Bool.and_eq_true] at h1
    have h2 := h1.2
    rw [List.all_cons, Bool.and_eq_true] at h2
    have ih := ris_ord h1.2
    obtain ⟨x, rfl⟩ := text_str h1.1
    obtain ⟨y, rfl⟩ := text_str h2.1
    show (txB x y && risD ordB ((.str y :: r).map ordD)) = (txB x y && risD txD (.str y :: r))
    rw [ih]
theorem text_order_wp {z : Str} {G : DH} {Q : D → DH → Prop} (h : z.length ≤ sizeLine) : Wp (F_text_order [.str z]) G Q ↔ Q (ordD (.str z)) G := by
  unfold F_text_order B_text_order
  have s0 : ([D.str z].map some ++ List.replicate (1 - [D.str z].length) none : DSt) = [some (.str z)] := rfl
  simp only [wp_body, s0, wp_ret, wp_tup, wp_call, wp_cons, wp_nil, wp_var, Option.some.injEq, exists_eq_left', List.getElem?_cons_zero, len_str' h]
  exact ⟨fun q => q.2, fun q => ⟨sz, q⟩⟩
abbrev wOf : Str := "of"
abbrev wBut : Str := "but"
def textsD (d : D) : Bool := (tagP wOf d || tagP wBut d) && ((partsOf d).all textD && risD txD (partsOf d))
theorem ord_all {xs : List D} (h : xs.all textD = true) : ∀ G : DH, ∀ a ∈ xs.map ordD, ∀ b ∈ xs.map ordD, ltN 40 G a b = some (ordB a b) := by
  intro G a ha b hb
  obtain ⟨x, hx, rfl⟩ := List.mem_map.mp ha
  obtain ⟨y, hy, rfl⟩ := List.mem_map.mp hb
  obtain ⟨s, rfl⟩ := text_str (List.all_eq_true.mp h x hx)
  obtain ⟨t, rfl⟩ := text_str (List.all_eq_true.mp h y hy)
  rw [ord_lt]
  rfl
theorem tagged {d : D} (h : (tagP wOf d || tagP wBut d) = true) : ∃ w l, d = .tup [.str w, .tup l] ∧ (w = wOf ∨ w = wBut) := by
  rw [Bool.or_eq_true] at h
  rcases h with h | h
  · obtain ⟨l, rfl⟩ := tag_shape h; exact ⟨_, l, rfl, .inl rfl⟩
  · obtain ⟨l, rfl⟩ := tag_shape h; exact ⟨_, l, rfl, .inr rfl⟩
theorem parts_AT {n : Nat} {w : Str} {l : List D} (h : AT n (.tup [.str w, .tup l])) : ∀ x ∈ l, AT n x := by
  rw [AT_tup] at h
  have h2 := h (.tup l) (by simp)
  rw [AT_tup] at h2
  exact h2
theorem is_texts_wp {d : D} {G : DH} (h : AT G.length d) (hz : szD d ≤ sizeLine) : Wp (F_is_texts [d]) G fun x G' => x = .bl (textsD d) ∧ Ap G G' := by
  have bg := big
  unfold F_is_texts B_is_texts
  have s0 : ([d].map some ++ List.replicate (1 - [d].length) none : DSt) = [some d] := rfl
  simp only [wp_body, s0, wp_seq, wp_if, wp_notT, wp_orT, wp_truth, wp_ret, wp_bin, wp_call, wp_cons, wp_nil, wp_c, wp_var, wp_fnX, wp_next, Option.some.injEq, exists_eq_left', List.getElem?_cons_zero, is_tagged_wp h, truth_bl, wp_comp, wp_itW]
  have key : ∀ b : Bool, b = (tagP wOf d || tagP wBut d) → if (!b) = true then (D.bl false = .bl (textsD d) ∧ Ap G G) else Wp (ixD d (.int 1)) G fun x G1 => Wp (srcW x) G1 fun s G1 => s.items.length ≤ sizeLine ∧ Wp (compL (q13 0) trueT (q12 (fnX 1 F_is_text) (q10 (varE 0) q11)) s.ck s.items (capSt [none] [some d])) G1 fun ys G2 => Wp (allF [.ref G2.length]) (G2 ++ [.lst ys]) fun x G1 => Wp (truthD x) G1 fun b G1 => if (!b) = true then (D.bl false = .bl (textsD d) ∧ Ap G G1) else Wp (ixD d (.int 1)) G1 fun x G1 => Wp (srcW x) G1 fun s G1 => s.items.length ≤ sizeLine ∧ Wp (compL (q13 0) trueT (q12 (fnX 1 F_text_order) (q10 (varE 0) q11)) s.ck s.items (capSt [none] [some d])) G1 fun ys G2 => [D.ref G2.length].length = 1 ∧ Wp (F_rising [.ref G2.length]) (G2 ++ [.lst ys]) fun x G' => x = .bl (textsD d) ∧ Ap G G' := by
    intro b hb
    cases b with
    | false =>
      simp only [Bool.not_false, if_true]
      refine ⟨?_, Ap.refl⟩
      unfold textsD
      rw [← hb]; rfl
    | true =>
      simp only [Bool.not_true, Bool.false_eq_true, if_false]
      have ht : textsD d = ((partsOf d).all textD && risD txD (partsOf d)) := by unfold textsD; rw [← hb]; rfl
      rw [ht]
      obtain ⟨w, l, rfl, _⟩ := tagged hb.symm
      have hp := parts_AT h
      have hll : l.length ≤ sizeLine := by
        have := szL_len l
        simp only [szD, szL] at hz
        omega
      simp only [ix_tup, at1, Option.some.injEq, exists_eq_left', srcW_tup, partsOf]
      refine ⟨hll, ?_⟩
      refine Wp.mono (comp_mapJ (Ap G) (fun σ => σ.length = 1) (fun x => .bl (textD x)) (fun _ _ => rfl) l _ G rfl Ap.refl fun x hx σ G2 hσ j => ?_) fun ys G2 ⟨j2, ey⟩ => ?_
      · match σ, hσ with
        | [u], _ =>
          simp only [wp_name, List.set_cons_zero, wp_trueT, wp_call, wp_cons, wp_nil, wp_var, List.getElem?_cons_zero, Option.some.injEq, exists_eq_left', wp_fnX]
          exact ⟨trivial, rfl, trivial, trivial, rfl, Wp.mono (is_text_wp ((hp x hx).le j.len)) fun y G3 ⟨e, a⟩ => ⟨j.trans a, e⟩⟩
      · subst ey
        rw [all_wp (l := l) (f := textD) app_one, truth_bl]
        by_cases ha : l.all textD = true
        · simp only [ha, Bool.not_true, Bool.false_eq_true, if_false, Bool.true_and]
          refine ⟨hll, ?_⟩
          have j3 : Ap G (G2 ++ [DO.lst (l.map fun x => .bl (textD x))]) := j2.trans Ap.one
          generalize (G2 ++ [DO.lst (l.map fun x => .bl (textD x))]) = G3 at j3 ⊢
          have hc : compL (q13 0) trueT (q12 (fnX 1 F_text_order) (q10 (varE 0) q11)) (fun _ => true) l (capSt [none] [some (.tup [.str w, .tup l])]) G3 = some (.ok (l.map ordD), G3) := by
            refine compL_map (I := fun σ => σ.length = 1) rfl _ _ rfl fun x hx σ hσ => ?_
            obtain ⟨z, rfl⟩ := text_str (List.all_eq_true.mp ha x hx)
            have hzl := AT_str (hp _ hx)
            match σ, hσ with
            | [u], _ =>
              refine ⟨[some (.str z)], rfl, rfl, rfl, wp_is ?_⟩
              simp only [wp_call, wp_cons, wp_nil, wp_var, List.getElem?_cons_zero, Option.some.injEq, exists_eq_left', wp_fnX]
              refine ⟨rfl, ?_⟩
              rw [text_order_wp (by omega)]
              exact ⟨rfl, rfl⟩
          refine (wp_some hc).mpr ⟨rfl, ?_⟩
          refine Wp.mono (rising_lst (f := ordB) app_one (by rw [List.length_map]; exact hll) (ord_all ha)) fun x G4 ⟨e, a⟩ => ⟨?_, j3.trans (Ap.one.trans a)⟩
          rw [e, ris_ord ha]
        · have ha' : l.all textD = false := by simpa using ha
          simp only [ha', Bool.not_false, if_true, Bool.false_and]
          exact ⟨trivial, j2.trans Ap.one⟩
  refine ⟨rfl, ?_⟩
  by_cases h1 : tagP wOf d = true
  · have k := key true (by rw [h1]; rfl)
    simp only [h1, if_true] at k ⊢
    exact k
  · have h1' : tagP wOf d = false := by simpa using h1
    have k := key (tagP wBut d) (by rw [h1']; rfl)
    simp only [h1', Bool.false_eq_true, if_false] at k ⊢
    exact ⟨rfl, k⟩
theorem draw_wp {r : Nat} {n : Int} {G : DH} (h : Hand G r) (hn : 0 < n ∧ n < 2 ^ 100) : Wp (F__law_draw [.ref r, .int n]) G fun x G' => ∃ k, x = .int k ∧ 0 ≤ k ∧ k < n ∧ ∃ o, G' = G.set r o ∧ Hand G' r := by
  obtain ⟨a, b, c, e, hr, hb1, hb2⟩ := h
  have hlt : r < G.length := by
    by_cases hi : r < G.length
    · exact hi
    · rw [List.getElem?_eq_none (by omega)] at hr; cases hr
  unfold F__law_draw B__law_draw
  have s0 : ([D.ref r, D.int n].map some ++ List.replicate (3 - [D.ref r, D.int n].length) none : DSt) = [some (.ref r), some (.int n), none] := rfl
  simp only [wp_body, s0, wp_seq, wp_if, wp_asg, wp_name, wp_notT, wp_andT, wp_test, wp_truth, wp_ret, wp_bin, wp_call, wp_cons, wp_nil, wp_c, wp_var, someI, isBlI, Option.some.injEq, exists_eq_left', List.getElem?_cons_zero, List.getElem?_cons_succ, ix_lst hr, at4.1, at4.2.1, at4.2.2, eq_int, wp_sub, List.set_cons_succ, List.set_cons_zero]
  by_cases hc : c = 0
  · simp only [hc, decide_true, if_true, mod_int hn.1, fdiv_int hn, wp_seq, wp_asg, wp_name, wp_bin, wp_var, wp_c, List.getElem?_cons_zero, List.getElem?_cons_succ, List.set_cons_succ, List.set_cons_zero, Option.some.injEq, exists_eq_left', ix_lst hr, at4.1, wp_sub, wp_ret]
    rw [set_lst hr (j := 0) rfl]
    refine ⟨_, rfl, Int.emod_nonneg _ (by omega), Int.emod_lt_of_pos _ hn.1, _, rfl, a / n, b, c, e, ?_, hb1, hb2⟩
    rw [List.getElem?_set_self hlt]
    rfl
  · have m1 : CMul b b := Or.inl ⟨by omega, by omega⟩
    simp only [hc, decide_false, Bool.false_eq_true, if_false, wp_next, List.getElem?_cons_zero, List.getElem?_cons_succ, Option.some.injEq, exists_eq_left', ix_lst hr, at4.2.1, mul_int m1, mod_int (show (0 : Int) < 2147483629 by omega), add_int]
    rw [set_lst hr (j := 1) rfl]
    have hr2 : (G.set r (.lst ([D.int a, D.int b, D.int c, D.int e].set 1 (D.int (b * b % 2147483629 + 3)))))[r]? = some (.lst [.int a, .int (b * b % 2147483629 + 3), .int c, .int e]) := by
      rw [List.getElem?_set_self hlt]; rfl
    have b1 : 0 ≤ b * b % 2147483629 := Int.emod_nonneg _ (by omega)
    have b2 : b * b % 2147483629 < 2147483629 := Int.emod_lt_of_pos _ (by omega)
    have m2 : CMul (b * b % 2147483629 + 3) 69621 := Or.inr ⟨by omega, by omega⟩
    simp only [ix_lst hr2, at4.2.1, List.getElem?_cons_zero, List.getElem?_cons_succ, Option.some.injEq, exists_eq_left', mul_int m2, mod_int (show (0 : Int) < 2147483563 by omega), fdiv_int (show (0 : Int) < 8 ∧ (8 : Int) < 2 ^ 100 by omega), mod_int hn.1]
    exact ⟨_, rfl, Int.emod_nonneg _ (by omega), Int.emod_lt_of_pos _ hn.1, _, rfl, a, b * b % 2147483629 + 3, c, e, hr2, by omega, by omega⟩
theorem draw_fr {r : Nat} {n : Int} {G : DH} (h : Hand G r) (hn : 0 < n ∧ n < 2 ^ 100) : Wp (F__law_draw [.ref r, .int n]) G fun x G' => ∃ k, x = .int k ∧ 0 ≤ k ∧ k < n ∧ Fr r G G' :=
  Wp.mono (draw_wp h hn) fun x G' ⟨k, e, h1, h2, o, e2, hh⟩ => ⟨k, e, h1, h2, by subst e2; exact Fr.set hh⟩
theorem pick_wp {r : Nat} {G : DH} {n : Int} {ds : List D} {Q : D → DH → Prop} (h : Hand G r) (hn : (ds.length : Int) = n) (h0 : 0 < n) (h1 : n < 2 ^ 100) (q : ∀ d ∈ ds, ∀ G', Fr r G G' → Fr r (G ++ [.lst ds]) G' → Q d G') :
    Wp (F__law_draw [.ref r, .int n]) (G ++ [.lst ds]) fun y G2 => Wp (ixD (.ref G.length) y) G2 Q := by
  refine Wp.mono (draw_fr h.app ⟨h0, h1⟩) fun x G2 ⟨k, e, h3, h4, f2⟩ => ?_
  subst e
  have hne : G.length ≠ r := by have := h.lt; omega
  have hg := f2.at hne (o := .lst ds) app_at0
  rw [ix_lst hg]
  obtain ⟨d, hd, e⟩ := atI_some (l := ds) h3 (by omega)
  exact ⟨d, e, q d hd G2 ((Fr.app h).trans f2) f2⟩
theorem draw_q {r : Nat} {n : Int} {G : DH} {Q : D → DH → Prop} (h : Hand G r) (hn : 0 < n ∧ n < 2 ^ 100) (q : ∀ k : Int, 0 ≤ k → k < n → ∀ G', Fr r G G' → Q (.int k) G') : Wp (F__law_draw [.ref r, .int n]) G Q :=
  Wp.mono (draw_fr h hn) fun x G' ⟨k, e, h1, h2, f⟩ => by subst e; exact q k h1 h2 G' f
theorem hand_wp {G : DH} {p : Nat} {ns : List Int} {c k : Int} (e : G[p]? = some (.rol (ns.map D.int))) (hk : 0 ≤ k ∧ k < 64) : Wp (F__law_hand [.ref p, .int c, .int k]) G fun d G' => ∃ r, d = .ref r ∧ G.length ≤ r ∧ Hand G' r ∧ Gr G G' := by
  unfold F__law_hand B__law_hand
  have s0 : ([D.ref p, D.int c, D.int k].map some ++ List.replicate (4 - [D.ref p, D.int c, D.int k].length) none : DSt) = [some (.ref p), some (.int c), some (.int k), none] := rfl
  have m1 : CMul 7919 k := Or.inl ⟨by omega, by omega⟩
  have b1 : 0 ≤ c % 2147483629 := Int.emod_nonneg _ (by omega)
  have b2 : c % 2147483629 < 2147483629 := Int.emod_lt_of_pos _ (by omega)
  have m2 : CMul (c % 2147483629 + 7919 * k + 1) 48271 := Or.inr ⟨by omega, by omega⟩
  simp only [wp_body, s0, wp_seq, wp_asg, wp_name, wp_if, wp_test, wp_bin, wp_un, wp_lst, wp_call, wp_cons, wp_nil, wp_c, wp_var, Option.some.injEq, exists_eq_left', List.getElem?_cons_zero, List.getElem?_cons_succ, List.set_cons_succ, List.set_cons_zero, wp_ret, wp_next, mod_int (show (0 : Int) < 2147483629 by omega), mod_int (show (0 : Int) < 2147483647 by omega), mul_int m1, add_int, mul_int m2]
  refine ⟨sz, ?_⟩
  rw [ne_nilR (at_app e) app_one]
  simp only [isBlI]
  have fin : ∀ w : Int, Hand (G ++ [DO.lst []] ++ [DO.lst [D.int c, D.int ((c % 2147483629 + 7919 * k + 1) * 48271 % 2147483647), D.int w, D.int 0]]) (G ++ [DO.lst []]).length := fun w =>
    ⟨_, _, _, _, app_one, Int.emod_nonneg _ (by omega), Int.lt_trans (Int.emod_lt_of_pos _ (by omega)) (by decide)⟩
  have ln : G.length ≤ (G ++ [DO.lst []]).length := by simp
  cases (!(ns.map D.int).isEmpty) with
  | true =>
    simp only [if_true]
    rw [sum_rol (at_app e)]
    simp only [mod_int (show (0 : Int) < 2 by omega), List.getElem?_cons_zero, List.getElem?_cons_succ, Option.some.injEq, exists_eq_left']
    exact ⟨sz, _, rfl, ln, fin _, Gr.app.trans Gr.app⟩
  | false =>
    simp only [Bool.false_eq_true, if_false, List.getElem?_cons_zero, List.getElem?_cons_succ, Option.some.injEq, exists_eq_left']
    exact ⟨sz, _, rfl, ln, fin _, Gr.app.trans Gr.app⟩
section
variable {G : DH} {Q : D → DH → Prop}
theorem one_len (c : Nat) : (⟨#[c]⟩ : Str).length = 1 := rfl
end
theorem keys_map (z : Str) (d : D) : ∀ l : List (Key × D), keyStrs (l.map fun kv => if kv.1 = .inr z then (kv.1, d) else kv) = keyStrs l
  | [] => rfl
  | (k, v) :: r => by
    have ih := keys_map z d r
    rw [List.map_cons]
    have e : (if ((k, v) : Key × D).1 = .inr z then (((k, v) : Key × D).1, d) else (k, v)).1 = k := by split <;> rfl
    generalize (if ((k, v) : Key × D).1 = .inr z then (((k, v) : Key × D).1, d) else (k, v)) = p at e
    obtain ⟨k', v'⟩ := p
    cases e
    cases k' with
    | inl i => rfl
    | inr y => simp only [keyStrs, ih]
theorem keys_app (z : Str) (d : D) : ∀ (l : List (Key × D)) (ss : List Str), keyStrs l = some ss → keyStrs (l ++ [(.inr z, d)]) = some (ss ++ [z])
  | [], ss, h => by cases h; rfl
  | (.inl i, v) :: r, ss, h => by cases h
  | (.inr y, v) :: r, ss, h => by
    unfold keyStrs at h
    cases hr : keyStrs r with
    | none => rw [hr] at h; cases h
    | some t =>
      rw [hr] at h
      cases h
      rw [List.cons_append]
      unfold keyStrs
      rw [keys_app z d r t hr]
      rfl
theorem set_dct {r : Nat} {l : List (Key × D)} {z : Str} {d : D} {G : DH} {R : Unit → DH → Prop} (h : G[r]? = some (.dct l)) (hl : l.length < sizeLine) : Wp (setD (.ref r) (.str z) d) G R ↔ R () (G.set r (.dct (putKD l (.inr z) d))) := by
  unfold setD
  simp only [wp_bind, wp_obj, h, someI, keyD, if_pos hl, wp_put]
theorem keyStrs_len' {l : List (Key × D)} {ss : List Str} (h : keyStrs l = some ss) : l.length = ss.length := (keyStrs_len h).symm
theorem keys_strs : ∀ {l : List (Key × D)} {ss : List Str}, keyStrs l = some ss → keysD l = ss.map D.str
  | [], ss, h => by cases h; rfl
  | (.inl i, v) :: r, ss, h => by cases h
  | (.inr x, v) :: r, ss, h => by
    unfold keyStrs at h
    cases hr : keyStrs r with
    | none => rw [hr] at h; cases h
    | some ts =>
      rw [hr] at h
      cases h
      have ih := keys_strs hr
      unfold keysD at ih ⊢
      rw [List.map_cons, ih]
      rfl
theorem strs_map : ∀ ss : List Str, strsOf (ss.map D.str) = some ss
  | [] => rfl
  | z :: r => by simp only [List.map_cons, strsOf, strs_map r, Option.map_some]
def Dk (G : DH) (p : Nat) (l : List (Key × D)) : Prop := G[p]? = some (.dct l) ∨ G[p]? = some (.rod l)
theorem walk_dk {r p : Nat} {l : List (Key × D)} {G : DH} {R : Src → DH → Prop} (hp : p ≠ r) (h : Hand G r) (e : Dk G p l) (q : ∀ G1, Dk G1 p l → Fr2 r p G G1 → R ⟨keysD l, fun _ => true⟩ G1) : Wp (srcW (.ref p)) G R := by
  rcases e with e | e
  · rw [srcW_dct e]
    exact q _ (.inr (by rw [List.getElem?_set_self (lt_of_get e)])) (Fr2.set hp h)
  · rw [srcW_rod e]
    exact q _ (.inr e) (Fr.refl h).two
theorem Dk.app {G : DH} {p : Nat} {l : List (Key × D)} {t : DH} (h : Dk G p l) : Dk (G ++ t) p l := by
  rcases h with h | h
  · exact .inl (at_app h)
  · exact .inr (at_app h)
theorem Dk.lt {G : DH} {p : Nat} {l : List (Key × D)} (h : Dk G p l) : p < G.length := by
  rcases h with h | h <;> exact lt_of_get h
end W
set_option Elab.async false
set_option linter.all false
set_option maxRecDepth 100000
namespace W
open PySem PySem.Spec L2 DL
open PyProof.Rows hiding St
def Tx (z : Str) : Prop := textP z = true ∧ z.length ≤ 1000
def Ris (s : List Str) : Prop := s.Pairwise fun a b => txB a b = true
theorem txB_tr {a b c : Str} (h1 : txB a b = true) (h2 : txB b c = true) : txB a c = true := by
  have := @ltIS_tr ((a.length : Int), a) ((b.length : Int), b) ((c.length : Int), c)
  unfold ltIS at this
  unfold txB at *
  simp only [Int.ofNat_inj, Int.ofNat_lt] at this
  exact this h1 h2
theorem txB_irr (a : Str) : txB a a = false := by
  unfold txB
  rw [if_pos rfl, decide_eq_false (List.lt_irrefl _)]
theorem txB_is (a b : Str) : txB a b = ltIS ((a.length : Int), a) ((b.length : Int), b) := by
  unfold txB ltIS
  simp only [Int.ofNat_inj, Int.ofNat_lt]
theorem ris_eq : ∀ {s t : List Str}, Ris s → Ris t → (∀ z, z ∈ s ↔ z ∈ t) → s = t
  | [], [], _, _, _ => rfl
  | [], b :: t, _, _, h => by have := (h b).mpr (by simp); cases this
  | a :: s, [], _, _, h => by have := (h a).mp (by simp); cases this
  | a :: s, b :: t, h1, h2, h => by
    obtain ⟨p1, p2⟩ := List.pairwise_cons.mp h1
    obtain ⟨q1, q2⟩ := List.pairwise_cons.mp h2
    have e : a = b := by
      rcases List.mem_cons.mp ((h a).mp (by simp)) with e | m
      · exact e
      · rcases List.mem_cons.mp ((h b).mpr (by simp)) with e | m'
        · exact e.symm
        · have := txB_tr (q1 a m) (p1 b m')
          rw [txB_irr] at this; cases this
    subst e
    congr 1
    refine ris_eq p2 q2 fun z => ⟨fun m => ?_, fun m => ?_⟩
    · rcases List.mem_cons.mp ((h z).mp (List.mem_cons_of_mem _ m)) with e | m'
      · subst e
        have := p1 z m
        rw [txB_irr] at this; cases this
      · exact m'
    · rcases List.mem_cons.mp ((h z).mpr (List.mem_cons_of_mem _ m)) with e | m'
      · subst e
        have := q1 z m
        rw [txB_irr] at this; cases this
      · exact m'
theorem ris_D : ∀ {s : List Str}, Ris s → risD txD (s.map D.str) = true
  | [], _ => rfl
  | [a], _ => rfl
  | a :: b :: r, h => by
    obtain ⟨p1, p2⟩ := List.pairwise_cons.mp h
    have ih := ris_D p2
    show (txB a b && risD txD ((b :: r).map D.str)) = true
    rw [p1 b (by simp), ih]; rfl
theorem tx_all {s : List Str} (h : ∀ z ∈ s, Tx z) : (s.map D.str).all textD = true := by
  rw [List.all_map, List.all_eq_true]
  exact fun z hz => (h z hz).1
abbrev wrd (b : Bool) : Str := if b then wOf else wBut
def rowD (b : Bool) (s : List Str) : D := .tup [.str (wrd b), .tup (s.map D.str)]
theorem row_texts {b : Bool} {s : List Str} (h1 : Ris s) (h2 : ∀ z ∈ s, Tx z) : textsD (rowD b s) = true := by
  have e : partsOf (rowD b s) = s.map D.str := rfl
  unfold textsD
  rw [e, tx_all h2, ris_D h1]
  cases b <;> rfl
theorem row_AT {b : Bool} {s : List Str} {n : Nat} (h2 : ∀ z ∈ s, Tx z) : AT n (rowD b s) := by
  unfold rowD
  rw [AT_tup]
  intro x hx
  simp only [List.mem_cons, List.not_mem_nil, or_false] at hx
  rcases hx with rfl | rfl
  · unfold AT; cases b <;> decide
  · rw [AT_tup]
    intro x hx
    obtain ⟨z, hz, rfl⟩ := List.mem_map.mp hx
    unfold AT; exact (h2 z hz).2
theorem szL_strs : ∀ s : List Str, szL (s.map D.str) = s.length
  | [] => rfl
  | a :: r => by
    have ih := szL_strs r
    simp only [List.map_cons, szL, szD, ih, List.length_cons]; omega
theorem row_sz {b : Bool} {s : List Str} : szD (rowD b s) = s.length + 3 := by
  unfold rowD
  simp only [szD, szL, szL_strs]; omega
theorem is_texts_row {b : Bool} {s : List Str} {G : DH} (h1 : Ris s) (h2 : ∀ z ∈ s, Tx z) (hl : s.length ≤ 1000) : Wp (F_is_texts [rowD b s]) G fun x G' => x = .bl true ∧ Ap G G' := by
  have bg := big
  refine Wp.mono (is_texts_wp (row_AT h2) (by rw [row_sz]; omega)) fun x G' ⟨e, a⟩ => ⟨?_, a⟩
  rw [e, row_texts h1 h2]
theorem eqL_strs {n : Nat} {G : DH} : ∀ s t : List Str, eqL (eqN (n + 1) G) (s.map D.str) (t.map D.str) = some (decide (s = t))
  | [], [] => by simp [eqL]
  | [], _ :: _ => by simp [eqL]
  | _ :: _, [] => by simp [eqL]
  | a :: s, b :: t => by
    have e : eqN (n + 1) G (.str a) (.str b) = some (a == b) := rfl
    simp only [List.map_cons, eqL, e, eqL_strs s t, Option.some.injEq]
    by_cases h1 : a = b
    · by_cases h2 : s = t <;> simp [h1, h2]
    · simp [h1]
theorem eqN_row {G : DH} {b c : Bool} {s t : List Str} : eqN 40 G (rowD b s) (rowD c t) = some (decide (b = c ∧ s = t)) := by
  have e1 : eqN 39 G (.tup (s.map D.str)) (.tup (t.map D.str)) = some (decide (s = t)) := eqL_strs (n := 37) s t
  have e2 : eqN 39 G (.str (wrd b)) (.str (wrd c)) = some (wrd b == wrd c) := rfl
  have e3 : eqN 40 G (rowD b s) (rowD c t) = eqL (eqN 39 G) [.str (wrd b), .tup (s.map D.str)] [.str (wrd c), .tup (t.map D.str)] := rfl
  rw [e3]
  simp only [eqL, e1, e2]
  have e4 : (wrd b == wrd c) = decide (b = c) := by cases b <;> cases c <;> decide
  rw [e4]
  by_cases h1 : b = c <;> by_cases h2 : s = t <;> simp [h1, h2]
theorem ne_row {G : DH} {b c : Bool} {s t : List Str} {Q : D → DH → Prop} : Wp (neD (rowD b s) (rowD c t)) G Q ↔ Q (.bl (!decide (b = c ∧ s = t))) G := by rw [wp_ne, eqN_row]; exact someI
theorem eqV_str (a b : Str) : L2.eqV (.str a) (.str b) = (a == b) := by rfl
theorem in_strs {z : Str} {s : List Str} {G : DH} : inB (.str z) (.tup (s.map D.str)) G = some (decide (z ∈ s)) := by
  have hf : (flatD (.str z) && (s.map D.str).all flatD) = true := by simp [flatD, List.all_map]
  unfold inB
  simp only [hf, if_true]
  congr 1
  unfold L2.inV
  rw [List.map_map, List.any_map]
  induction s with
  | nil => rfl
  | cons a r ih =>
    rw [List.any_cons, ih (by simp [flatD, List.all_map])]
    have e : ((fun y => L2.eqV y (toV (.str z))) ∘ (toV ∘ D.str)) a = (a == z) := eqV_str a z
    rw [e]
    by_cases h : a = z
    · simp [h]
    · have : ¬ z = a := fun e => h e.symm
      simp [h, this]
def Mk (l : List (Key × D)) (ks : List Str) : Prop := keyStrs l = some ks ∧ ks.Nodup
theorem look_mk : ∀ {l : List (Key × D)} {ks : List Str} {z : Str}, keyStrs l = some ks → (lookK l (.inr z)).isSome = decide (z ∈ ks)
  | [], ks, z, h => by cases h; rfl
  | (.inl i, v) :: r, ks, z, h => by cases h
  | (.inr x, v) :: r, ks, z, h => by
    unfold keyStrs at h
    cases hr : keyStrs r with
    | none => rw [hr] at h; cases h
    | some t =>
      rw [hr] at h
      cases h
      have ih := look_mk (z := z) hr
      unfold lookK at ih ⊢
      rw [List.find?_cons]
      by_cases hx : x = z
      · subst hx; simp
      · have h1 : decide ((Sum.inr x : Key) = .inr z) = false := by simpa using hx
        have h2 : ¬ z = x := fun e => hx e.symm
        simp only [h1]
        rw [ih]
        simp [h2]
theorem any_mk {l : List (Key × D)} {ks : List Str} {z : Str} (h : keyStrs l = some ks) : l.any (fun kv => decide (kv.1 = .inr z)) = decide (z ∈ ks) := by
  rw [← look_mk h]
  unfold lookK
  rw [Option.isSome_map]
  induction l generalizing ks with
  | nil => rfl
  | cons kv r ih =>
    rw [List.any_cons, List.find?_cons]
    cases hk : decide (kv.1 = .inr z) with
    | true => rfl
    | false =>
      obtain ⟨k, v⟩ := kv
      cases k with
      | inl i => cases h
      | inr x =>
        unfold keyStrs at h
        cases hr : keyStrs r with
        | none => rw [hr] at h; cases h
        | some t => rw [ih hr]; rfl
theorem put_mk {l : List (Key × D)} {ks : List Str} {z : Str} {d : D} (h : Mk l ks) : Mk (putKD l (.inr z) d) (if z ∈ ks then ks else ks ++ [z]) := by
  unfold putKD
  rw [any_mk h.1]
  by_cases hz : z ∈ ks
  · simp only [hz, decide_true, if_true]
    exact ⟨by rw [keys_map]; exact h.1, h.2⟩
  · simp only [hz, decide_false, Bool.false_eq_true, if_false]
    refine ⟨keys_app z d l ks h.1, ?_⟩
    rw [List.nodup_append]
    exact ⟨h.2, by simp, fun a ha b hb => by rw [List.mem_singleton] at hb; subst hb; exact fun e => hz (by rw [← e]; exact ha)⟩
theorem pairs_mk : ∀ s : List Str, pairsK (s.map fun z => .tup [.str z, .bl true]) = some (s.map fun z => (.inr z, .bl true))
  | [] => rfl
  | a :: r => by simp only [List.map_cons, pairsK, pairK, keyD, pairs_mk r]
theorem putAll_mk : ∀ (s : List Str) (l : List (Key × D)) (ks : List Str), Mk l ks → ∃ ks', Mk (putAll l (s.map fun z => (.inr z, .bl true))) ks' ∧ (∀ z, z ∈ ks' ↔ z ∈ ks ∨ z ∈ s) ∧ ks'.length ≤ ks.length + s.length
  | [], l, ks, h => ⟨ks, h, by simp, by simp⟩
  | a :: r, l, ks, h => by
    obtain ⟨ks', h1, h2, h3⟩ := putAll_mk r _ _ (put_mk (z := a) (d := .bl true) h)
    refine ⟨ks', h1, fun z => ?_, ?_⟩
    · rw [h2 z]
      by_cases ha : a ∈ ks
      · simp only [ha, if_true, List.mem_cons]
        constructor
        · rintro (h | h)
          · exact .inl h
          · exact .inr (.inr h)
        · rintro (h | rfl | h)
          · exact .inl h
          · exact .inl ha
          · exact .inr h
      · simp only [ha, if_false, List.mem_append, List.mem_cons, or_assoc, List.not_mem_nil, false_or]
    · by_cases ha : a ∈ ks
      · simp only [ha, if_true] at h3
        simp only [List.length_cons]; omega
      · simp only [ha, if_false, List.length_append, List.length_singleton] at h3
        simp only [List.length_cons]; omega
theorem dict_lst {r : Nat} {l : List D} {ps : List (Key × D)} {G : DH} {Q : D → DH → Prop} (e : G[r]? = some (.lst l)) (h : pairsK l = some ps) : Wp (dictF [.ref r]) G Q ↔ Q (.ref G.length) (G ++ [.dct (putAll [] ps)]) := by
  unfold dictF
  simp only [wp_bind, wp_obj, e, someI, DL.listOf, wp_pure, wp_opt, h, wp_alloc]
theorem marked_wp {s : List Str} {G : DH} (hl : s.length ≤ 1000) : Wp (F_marked [.tup (s.map D.str)]) G fun x G' => ∃ q l ks, x = .ref q ∧ G'[q]? = some (.dct l) ∧ Mk l ks ∧ (∀ z, z ∈ ks ↔ z ∈ s) ∧ ks.length ≤ s.length ∧ Ap G G' ∧ G.length ≤ q := by
  have bg := big
  unfold F_marked B_marked
  have s0 : ([D.tup (s.map D.str)].map some ++ List.replicate (1 - [D.tup (s.map D.str)].length) none : DSt) = [some (.tup (s.map D.str))] := rfl
  simp only [wp_body, s0, wp_ret, wp_call, wp_cons, wp_nil]
  rw [comp_wp (s := ⟨s.map D.str, fun _ => true⟩) (f := fun x => .tup [x, .bl true]) (fun σ => σ.length = 1) rfl (by show (s.map D.str).length ≤ _; rw [List.length_map]; omega) rfl rfl (fun x hx σ hσ => ?_)]
  · have e : (s.map D.str).map (fun x => D.tup [x, .bl true]) = s.map fun z => .tup [.str z, .bl true] := by rw [List.map_map]; rfl
    show Wp (dictF [.ref G.length]) (G ++ [.lst ((s.map D.str).map fun x => D.tup [x, .bl true])]) _
    rw [e, dict_lst app_one (pairs_mk s)]
    obtain ⟨ks', h1, h2, h3⟩ := putAll_mk s [] [] ⟨rfl, by simp⟩
    exact ⟨_, _, ks', rfl, app_one, h1, by simpa using h2, by simpa using h3, Ap.one.trans Ap.one, by simp⟩
  · match σ, hσ with
    | [u], _ =>
      refine ⟨[some x], rfl, rfl, rfl, wp_is ?_⟩
      simp only [wp_tup, wp_cons, wp_nil, wp_c, wp_var, List.getElem?_cons_zero, Option.some.injEq, exists_eq_left']
      exact ⟨sz, by first | rfl | trivial, trivial⟩
end W
set_option Elab.async false
set_option linter.all false
set_option maxRecDepth 100000
namespace W
open PySem PySem.Spec L2 DL
open PyProof.Rows hiding St
theorem in_dct {q : Nat} {l : List (Key × D)} {ks : List Str} {z : Str} {G : DH} (e : G[q]? = some (.dct l)) (h : keyStrs l = some ks) : inB (.str z) (.ref q) G = some (decide (z ∈ ks)) := by
  unfold inB
  simp only [e, keyD, Option.map_some, look_mk h]
theorem filt_strs {s : List Str} {p : Str → Bool} : ((s.map D.str).filter fun x => match x with | .str z => p z | _ => false) = (s.filter p).map D.str := by
  rw [List.filter_map]; rfl
theorem in_both_wp {s t : List Str} {G : DH} (hs : s.length ≤ 1000) (ht : t.length ≤ 1000) : Wp (F_in_both [.tup (s.map D.str), .tup (t.map D.str)]) G fun x G' => x = .tup ((s.filter fun z => decide (z ∈ t)).map D.str) ∧ Ap G G' := by
  have bg := big
  unfold F_in_both B_in_both
  have s0 : ([D.tup (s.map D.str), .tup (t.map D.str)].map some ++ List.replicate (3 - [D.tup (s.map D.str), .tup (t.map D.str)].length) none : DSt) = [some (.tup (s.map D.str)), some (.tup (t.map D.str)), none] := rfl
  simp only [wp_body, s0, wp_seq, wp_asg, wp_name, wp_ret, wp_call, wp_cons, wp_nil, wp_var, wp_fnX, wp_comp, wp_itW, srcW_tup, List.set_cons_zero, List.set_cons_succ, List.getElem?_cons_zero, List.getElem?_cons_succ, Option.some.injEq, exists_eq_left']
  refine ⟨rfl, Wp.mono (marked_wp ht) fun x G1 ⟨q, l, ks, ex, e1, mk, mm, _, a1, _⟩ => ?_⟩
  subst ex
  refine ⟨by rw [List.length_map]; omega, ?_⟩
  have hc : compL (q13 0) (testE (binE inD (varE 0) (varE 1))) (varE 0) (fun _ => true) (s.map D.str) (capSt [none, some 2] [some (.tup (s.map D.str)), some (.tup (t.map D.str)), some (.ref q)]) G1 = some (.ok ((s.map D.str).filter fun x => match x with | .str z => decide (z ∈ t) | _ => false), G1) := by
    refine comp_filter rfl (fun σ => ∃ u, σ = [u, some (.ref q)]) _ _ ⟨none, rfl⟩ fun x hx σ hσ => ?_
    obtain ⟨z, hz, rfl⟩ := List.mem_map.mp hx
    obtain ⟨u, rfl⟩ := hσ
    refine ⟨[some (.str z), some (.ref q)], rfl, ⟨_, rfl⟩, wp_is ?_, rfl⟩
    simp only [wp_test, wp_bin, wp_var, List.getElem?_cons_zero, List.getElem?_cons_succ, Option.some.injEq, exists_eq_left', wp_in, in_dct e1 mk.1, isBlI]
    refine ⟨?_, trivial⟩
    simp only [mm]
  refine (wp_some hc).mpr ?_
  rw [tuple_lst app_one, filt_strs]
  exact ⟨rfl, a1.trans Ap.one⟩
theorem without_wp {s t : List Str} {G : DH} (hs : s.length ≤ 1000) (ht : t.length ≤ 1000) : Wp (F_without [.tup (s.map D.str), .tup (t.map D.str)]) G fun x G' => x = .tup ((s.filter fun z => !decide (z ∈ t)).map D.str) ∧ Ap G G' := by
  have bg := big
  unfold F_without B_without
  have s0 : ([D.tup (s.map D.str), .tup (t.map D.str)].map some ++ List.replicate (3 - [D.tup (s.map D.str), .tup (t.map D.str)].length) none : DSt) = [some (.tup (s.map D.str)), some (.tup (t.map D.str)), none] := rfl
  simp only [wp_body, s0, wp_seq, wp_asg, wp_name, wp_ret, wp_call, wp_cons, wp_nil, wp_var, wp_fnX, wp_comp, wp_itW, srcW_tup, List.set_cons_zero, List.set_cons_succ, List.getElem?_cons_zero, List.getElem?_cons_succ, Option.some.injEq, exists_eq_left']
  refine ⟨rfl, Wp.mono (marked_wp ht) fun x G1 ⟨q, l, ks, ex, e1, mk, mm, _, a1, _⟩ => ?_⟩
  subst ex
  refine ⟨by rw [List.length_map]; omega, ?_⟩
  have hc : compL (q13 0) (testE (binE notInD (varE 0) (varE 1))) (varE 0) (fun _ => true) (s.map D.str) (capSt [none, some 2] [some (.tup (s.map D.str)), some (.tup (t.map D.str)), some (.ref q)]) G1 = some (.ok ((s.map D.str).filter fun x => match x with | .str z => !decide (z ∈ t) | _ => false), G1) := by
    refine comp_filter rfl (fun σ => ∃ u, σ = [u, some (.ref q)]) _ _ ⟨none, rfl⟩ fun x hx σ hσ => ?_
    obtain ⟨z, hz, rfl⟩ := List.mem_map.mp hx
    obtain ⟨u, rfl⟩ := hσ
    refine ⟨[some (.str z), some (.ref q)], rfl, ⟨_, rfl⟩, wp_is ?_, rfl⟩
    simp only [wp_test, wp_bin, wp_var, List.getElem?_cons_zero, List.getElem?_cons_succ, Option.some.injEq, exists_eq_left', wp_notIn, in_dct e1 mk.1, isBlI]
    refine ⟨?_, trivial⟩
    simp only [mm]
  refine (wp_some hc).mpr ?_
  rw [tuple_lst app_one, filt_strs]
  exact ⟨rfl, a1.trans Ap.one⟩
theorem keysM_ord : ∀ (s : List Str) (G : DH), (∀ z ∈ s, z.length ≤ sizeLine) → keysM F_text_order (s.map D.str) G = some (.ok (s.map fun z => ordD (.str z)), G)
  | [], G, _ => rfl
  | a :: r, G, h => by
    have h1 : noX (F_text_order [.str a]) G = some (.ok (ordD (.str a)), G) := wp_is (wp_noX.mpr ((text_order_wp (h a (by simp))).mpr ⟨rfl, rfl⟩))
    have h2 := keysM_ord r G fun z hz => h z (by simp [hz])
    show (noX (F_text_order [.str a]) >>= fun k => keysM F_text_order (r.map D.str) >>= fun ks => pure (k :: ks)) G = _
    rw [M.bind_ok h1, M.bind_ok h2]
    rfl
theorem keysIS_ord : ∀ s : List Str, keysIS (s.map fun z => ordD (.str z)) = some (s.map fun z => ((z.length : Int), z))
  | [] => rfl
  | a :: r => by simp only [List.map_cons, keysIS, keysIS_ord r]; rfl
theorem sortIS_ord {s : List Str} (nd : s.Nodup) : ∃ m, sortIS (s.map fun z => ((z.length : Int), z)) (s.map D.str) = m.map D.str ∧ Ris m ∧ m.Perm s := by
  have hz : (s.map fun z => (((z.length : Int), z) : Int × Str)).zip (s.map D.str) = s.map fun z => (((z.length : Int), z), D.str z) := by
    rw [List.zip_map']
  have nd2 : (s.map fun z => (((z.length : Int), z) : Int × Str)).Nodup := by
    rw [List.Nodup, List.pairwise_map]
    exact nd.imp fun {a b} h e => h (Prod.mk.inj e).2
  let m := s.mergeSort fun a b => !txB b a
  have hp : m.Perm s := List.mergeSort_perm _ _
  have hs : m.Pairwise fun a b => (!txB b a) = true := List.pairwise_mergeSort (fun a b c h1 h2 => by
    simp only [Bool.not_eq_true'] at *
    refine Bool.eq_false_iff.mpr fun h => ?_
    by_cases e : a = b
    · subst e; rw [h] at h2; cases h2
    · rw [txB_is] at h h1 h2
      have := ltIS_tr h (ltIS_tot (fun z => e (Prod.mk.inj z).2.symm) h1)
      rw [this] at h2; cases h2) (fun a b => by
    by_cases e : a = b
    · subst e; rw [txB_irr]; rfl
    · cases q : txB b a with
      | false => rfl
      | true =>
        have : txB a b = false := by
          refine Bool.eq_false_iff.mpr fun h => ?_
          have := txB_tr q h
          rw [txB_irr] at this; cases this
        rw [this]; rfl) _
  refine ⟨m, ?_, ?_, hp⟩
  · have e := sortIS_eq (l := s.map D.str) nd2 (z := m.map fun z => (((z.length : Int), z), D.str z)) (by rw [hz]; exact hp.map _) (by
      rw [List.pairwise_map]
      refine hs.imp fun {a b} h => ?_
      unfold leIS
      rw [← txB_is]; exact h)
    rw [← e, List.map_map]
    rfl
  · have ndm : m.Nodup := hp.nodup_iff.mpr nd
    have : m.Pairwise fun a b => (!txB b a) = true ∧ a ≠ b := List.Pairwise.and hs ndm
    refine this.imp fun {a b} h => ?_
    have h1 := h.1
    simp only [Bool.not_eq_true'] at h1
    rw [txB_is] at h1 ⊢
    exact ltIS_tot (fun z => h.2 (Prod.mk.inj z).2.symm) h1
theorem sortKD_dct {q : Nat} {l : List (Key × D)} {ks : List Str} {G : DH} {Q : D → DH → Prop} (e : G[q]? = some (.dct l)) (h : Mk l ks) (h64 : ks.length < 64) (hz : ∀ z ∈ ks, z.length ≤ sizeLine) (hq : ∀ m, Ris m → m.Perm ks → Q (.ref G.length) (G ++ [.lst (m.map D.str)])) : Wp (sortKD F_text_order (.ref q)) G Q := by
  obtain ⟨m, e1, e2, e3⟩ := sortIS_ord h.2
  have nd2 : (ks.map fun z => (((z.length : Int), z) : Int × Str)).Nodup := by
    rw [List.Nodup, List.pairwise_map]
    exact h.2.imp fun {a b} h e => h (Prod.mk.inj e).2
  unfold sortKD
  simp only [wp_bind, wp_obj, e, someI, wp_opt, h.1, if_pos h64, sortKs]
  refine (wp_some (keysM_ord ks G hz)).mpr ?_
  rw [keysIS_ord]
  refine ⟨_, rfl, ?_⟩
  rw [if_pos nd2, wp_alloc, e1]
  exact hq m e2 e3
theorem wp_sortK {F : List D → M D} {fe : Fe} {σ : DSt} {G : DH} {Q : D → DH → Prop} : Wp (sortKE F fe σ) G Q ↔ Wp (fe σ) G fun x G1 => Wp (sortKD F x) G1 Q := by unfold sortKE; simp only [wp_bind]
theorem rising_texts_wp {s : List Str} {G : DH} (hs : s.length < 64) (hz : ∀ z ∈ s, Tx z) : Wp (F_rising_texts [.tup (s.map D.str)]) G fun x G' => ∃ m, x = .tup (m.map D.str) ∧ Ris m ∧ (∀ z, z ∈ m ↔ z ∈ s) ∧ m.length ≤ s.length ∧ Ap G G' := by
  have bg := big
  unfold F_rising_texts B_rising_texts
  have s0 : ([D.tup (s.map D.str)].map some ++ List.replicate (1 - [D.tup (s.map D.str)].length) none : DSt) = [some (.tup (s.map D.str))] := rfl
  simp only [wp_body, s0, wp_ret, wp_call, wp_cons, wp_nil, wp_var, wp_fnX, wp_sortK, List.getElem?_cons_zero, Option.some.injEq, exists_eq_left']
  refine ⟨rfl, Wp.mono (marked_wp (by omega)) fun x G1 ⟨q, l, ks, ex, e1, mk, mm, hl, a1, _⟩ => ?_⟩
  subst ex
  refine sortKD_dct e1 mk (by omega) (fun z hz' => Nat.le_trans (hz z ((mm z).mp hz')).2 (by omega)) fun m r p => ?_
  rw [tuple_lst app_one]
  exact ⟨m, rfl, r, fun z => by rw [p.mem_iff, mm], by rw [p.length_eq]; exact hl, a1.trans Ap.one⟩
theorem in_either_wp {s t : List Str} {G : DH} (hs : s.length + t.length < 64) (hz : ∀ z ∈ s, Tx z) (hz2 : ∀ z ∈ t, Tx z) : Wp (F_in_either [.tup (s.map D.str), .tup (t.map D.str)]) G fun x G' => ∃ m, x = .tup (m.map D.str) ∧ Ris m ∧ (∀ z, z ∈ m ↔ z ∈ s ∨ z ∈ t) ∧ m.length ≤ s.length + t.length ∧ Ap G G' := by
  have bg := big
  unfold F_in_either B_in_either
  have s0 : ([D.tup (s.map D.str), .tup (t.map D.str)].map some ++ List.replicate (2 - [D.tup (s.map D.str), .tup (t.map D.str)].length) none : DSt) = [some (.tup (s.map D.str)), some (.tup (t.map D.str))] := rfl
  simp only [wp_body, s0, wp_ret, wp_call, wp_cons, wp_nil, wp_var, wp_bin, wp_fnX, List.getElem?_cons_zero, List.getElem?_cons_succ, Option.some.injEq, exists_eq_left']
  rw [add_tup (by rw [List.length_map, List.length_map]; omega), ← List.map_append]
  refine ⟨rfl, Wp.mono (rising_texts_wp (s := s ++ t) (by rw [List.length_append]; exact hs) (fun z hz' => ?_)) fun x G1 ⟨m, e, r, mm, hl, a⟩ => ⟨m, e, r, fun z => by rw [mm, List.mem_append], by rw [List.length_append] at hl; exact hl, a⟩⟩
  rcases List.mem_append.mp hz' with h | h
  · exact hz z h
  · exact hz2 z h
def inR (b : Bool) (s : List Str) (z : Str) : Prop := if b then z ∈ s else z ∉ s
structure Rw (s : List Str) : Prop where
  ris : Ris s
  tx : ∀ z ∈ s, Tx z
  len : s.length < 30
def MeetQ (b c : Bool) (s t : List Str) (G : DH) (x : D) (G' : DH) : Prop := ∃ m, x = rowD (b || c) m ∧ Ris m ∧ (∀ z, inR (b || c) m z ↔ inR b s z ∧ inR c t z) ∧ (∀ z ∈ m, z ∈ s ∨ z ∈ t) ∧ m.length ≤ s.length + t.length ∧ Ap G G'
theorem ris_filt {s : List Str} {p : Str → Bool} (h : Ris s) : Ris (s.filter p) := h.sublist List.filter_sublist
theorem wrd_of (b : Bool) : (wrd b == wOf) = b := by cases b <;> decide
theorem meet_wp {b c : Bool} {s t : List Str} {G : DH} (hs : Rw s) (ht : Rw t) : Wp (F_meet_texts [rowD b s, rowD c t]) G (MeetQ b c s t G) := by
  have l1 := hs.len
  have l2 := ht.len
  unfold F_meet_texts B_meet_texts
  have s0 : ([rowD b s, rowD c t].map some ++ List.replicate (2 - [rowD b s, rowD c t].length) none : DSt) = [some (.tup [.str (wrd b), .tup (s.map D.str)]), some (.tup [.str (wrd c), .tup (t.map D.str)])] := rfl
  simp only [wp_body, s0, wp_seq, wp_if, wp_andT, wp_test, wp_ret, wp_tup, wp_call, wp_cons, wp_nil, wp_var, wp_bin, wp_c, wp_fnX, wp_next, List.getElem?_cons_zero, List.getElem?_cons_succ, Option.some.injEq, exists_eq_left', ix_tup, at0, at1, eq_str, isBlI, wrd_of]
  cases b <;> cases c <;> simp only [Bool.false_eq_true, if_false, if_true]
  · refine ⟨rfl, Wp.mono (in_either_wp (by omega) hs.tx ht.tx) fun x G1 ⟨m, e, r, mm, hl, a⟩ => ?_⟩
    subst e
    refine ⟨sz, m, rfl, r, fun z => ?_, fun z hz => (mm z).mp hz, hl, a⟩
    simp only [inR, Bool.or_false, Bool.false_eq_true, if_false, mm]
    exact not_or
  · refine ⟨rfl, Wp.mono (without_wp (by omega) (by omega)) fun x G1 ⟨e, a⟩ => ?_⟩
    subst e
    refine ⟨sz, _, rfl, ris_filt ht.ris, fun z => ?_, fun z hz => .inr (List.mem_filter.mp hz).1, Nat.le_trans (List.length_filter_le _ _) (by omega), a⟩
    simp only [inR, Bool.or_true, Bool.false_eq_true, if_false, if_true, List.mem_filter, Bool.not_eq_true', decide_eq_false_iff_not]
    exact And.comm
  · refine ⟨rfl, Wp.mono (without_wp (by omega) (by omega)) fun x G1 ⟨e, a⟩ => ?_⟩
    subst e
    refine ⟨sz, _, rfl, ris_filt hs.ris, fun z => ?_, fun z hz => .inl (List.mem_filter.mp hz).1, Nat.le_trans (List.length_filter_le _ _) (by omega), a⟩
    simp only [inR, Bool.or_false, Bool.false_eq_true, if_false, if_true, List.mem_filter, Bool.not_eq_true', decide_eq_false_iff_not]
  · refine ⟨rfl, Wp.mono (in_both_wp (by omega) (by omega)) fun x G1 ⟨e, a⟩ => ?_⟩
    subst e
    refine ⟨sz, _, rfl, ris_filt hs.ris, fun z => ?_, fun z hz => .inl (List.mem_filter.mp hz).1, Nat.le_trans (List.length_filter_le _ _) (by omega), a⟩
    simp only [inR, Bool.or_self, if_true, List.mem_filter, decide_eq_true_eq]
theorem turned_wp {b : Bool} {s : List Str} {G : DH} {Q : D → DH → Prop} : Wp (F_turned [rowD b s]) G Q ↔ Q (rowD (!b) s) G := by
  unfold F_turned B_turned
  have s0 : ([rowD b s].map some ++ List.replicate (1 - [rowD b s].length) none : DSt) = [some (.tup [.str (wrd b), .tup (s.map D.str)])] := rfl
  simp only [wp_body, s0, wp_ret, wp_tup, wp_ifE, wp_test, wp_cons, wp_nil, wp_var, wp_bin, wp_c, List.getElem?_cons_zero, Option.some.injEq, exists_eq_left', ix_tup, at0, at1, eq_str, isBlI, wrd_of]
  cases b <;> simp only [Bool.false_eq_true, if_false, if_true] <;> exact ⟨fun h => h.2, fun h => ⟨sz, h⟩⟩
def JoinQ (b c : Bool) (s t : List Str) (G : DH) (x : D) (G' : DH) : Prop := ∃ m, x = rowD (b && c) m ∧ Ris m ∧ (∀ z, inR (b && c) m z ↔ inR b s z ∨ inR c t z) ∧ (∀ z ∈ m, z ∈ s ∨ z ∈ t) ∧ m.length ≤ s.length + t.length ∧ Ap G G'
theorem inR_not {b : Bool} {s : List Str} {z : Str} : inR (!b) s z ↔ ¬ inR b s z := by
  unfold inR
  cases b
  · simp
  · simp
theorem join_wp {b c : Bool} {s t : List Str} {G : DH} (hs : Rw s) (ht : Rw t) : Wp (F_join_texts [rowD b s, rowD c t]) G (JoinQ b c s t G) := by
  unfold F_join_texts B_join_texts
  have s0 : ([rowD b s, rowD c t].map some ++ List.replicate (2 - [rowD b s, rowD c t].length) none : DSt) = [some (rowD b s), some (rowD c t)] := rfl
  simp only [wp_body, s0, wp_ret, wp_call, wp_cons, wp_nil, wp_var, wp_fnX, List.getElem?_cons_zero, List.getElem?_cons_succ, Option.some.injEq, exists_eq_left', turned_wp]
  refine ⟨rfl, rfl, rfl, Wp.mono (meet_wp hs ht) fun x G1 ⟨m, e, r, mm, sub, hl, a⟩ => ?_⟩
  subst e
  rw [turned_wp]
  have eb : (!(!b || !c)) = (b && c) := by cases b <;> cases c <;> rfl
  refine ⟨rfl, m, by rw [eb], r, fun z => ?_, sub, hl, a⟩
  rw [← eb, inR_not, mm z, inR_not, inR_not, Classical.not_and_iff_not_or_not, Classical.not_not, Classical.not_not]
end W
set_option Elab.async false
set_option linter.all false
set_option maxRecDepth 100000
namespace W
open PySem PySem.Spec L2 DL
open PyProof.Rows hiding St
section
variable {G : DH} {Q : D → DH → Prop}
theorem ix_strM {z : Str} {k : Int} (hz : z.length ≤ sizeLine) (h0 : 0 ≤ k) (h1 : k < z.length) (q : ∀ c ∈ z.cps.toList, Q (.str ⟨#[c]⟩) G) : Wp (ixD (.str z) (.int k)) G Q := by
  have e : ixD (.str z) (.int k) = if z.length ≤ sizeLine then (do
      let c ← optM (atI z.cps.toList k)
      pure (.str ⟨#[c]⟩) : M D) else M.stuck := rfl
  rw [e, if_pos hz]
  simp only [wp_bind, wp_opt, wp_pure]
  have hl : z.length = z.cps.toList.length := rfl
  obtain ⟨n, rfl⟩ := Int.eq_ofNat_of_zero_le h0
  have hn : n < z.cps.toList.length := by omega
  refine ⟨z.cps.toList[n], ?_, q _ (List.getElem_mem hn)⟩
  unfold atI ixN
  rw [if_pos (by omega), if_pos (by omega)]
  simp only [Int.toNat_natCast, Option.bind_some, List.getElem?_eq_getElem hn]
end
theorem alpha_let : ∀ c ∈ alpha.cps.toList, letP c = true := by decide +kernel
theorem tx_snoc {z : Str} {c : Nat} (h : textP z = true) (hc : letP c = true) : textP (z ++ ⟨#[c]⟩) = true := by
  have e : (z ++ (⟨#[c]⟩ : Str)).cps.toList = z.cps.toList ++ [c] := by
    show (z.cps ++ #[c]).toList = _
    simp
  unfold textP at *
  rw [e, List.all_append, h]
  simp [hc]
noncomputable def LT : Fs := (asgS (binE addD (varE 3) (binE ixD (cE (.str ("abcdefghijklmnopqrstuvwxyz" : Str))) (q12 (fnX 2 F__law_draw) (q10 (varE 0) (q10 (cE (.int 26)) (q11)))))) (q13 3))
theorem is_LT : B__law_letters = seqS (asgS (cE (.str ("" : Str))) (q13 3)) (seqS (forS (itRng1 (q10 (binE addD (varE 1) (q12 (fnX 2 F__law_draw) (q10 (varE 0) (q10 (binE addD (binE subD (varE 2) (varE 1)) (cE (.int 1))) (q11))))) (q11))) (q13 4) LT) (retS (varE 3))) := rfl
theorem LT_wp {r : Nat} {a b : Int} {z : Str} {u : Option D} {G : DH} (h : Hand G r) (hz : z.length ≤ 1000) (ht : textP z = true) : Wp (LT [some (.ref r), some (.int a), some (.int b), some (.str z), u]) G fun fl G' => Fr r G G' ∧ ∃ c, fl = .nx [some (.ref r), some (.int a), some (.int b), some (.str (z ++ ⟨#[c]⟩)), u] ∧ textP (z ++ ⟨#[c]⟩) = true := by
  have bg := big
  unfold LT
  simp only [List.set_cons_succ, List.set_cons_zero, wp_asg, wp_bin, wp_call, wp_cons, wp_nil, wp_c, wp_var, wp_fnX, wp_name, List.getElem?_cons_zero, List.getElem?_cons_succ, Option.some.injEq, exists_eq_left']
  refine ⟨rfl, draw_q h ⟨by decide, by decide⟩ fun k h0 h1 G1 f1 => ?_⟩
  have hA : ("abcdefghijklmnopqrstuvwxyz" : Str).length = 26 := by rfl
  refine ix_strM (by omega) h0 (by omega) fun c hc => ?_
  rw [add_str' (by rw [one_len]; omega)]
  exact ⟨f1, c, rfl, tx_snoc ht (alpha_let c hc)⟩
theorem LT_loop {r : Nat} {a b : Int} : ∀ (items : List D) (z : Str) (u : Option D) (G : DH), Hand G r → z.length + items.length ≤ 100 → textP z = true →
    Wp (forL (q13 4) LT (fun _ => true) items [some (.ref r), some (.int a), some (.int b), some (.str z), u]) G fun fl G' => Fr r G G' ∧ ∃ z' u', fl = .nx [some (.ref r), some (.int a), some (.int b), some (.str z'), u'] ∧ z'.length ≤ 100 ∧ textP z' = true
  | [], z, u, G, h, hl, ht => by
    rw [wp_forN]
    exact ⟨rfl, Fr.refl h, z, u, rfl, by simpa using hl, ht⟩
  | d :: t, z, u, G, h, hl, ht => by
    simp only [List.length_cons] at hl
    rw [wp_forC, wp_name]
    refine ⟨rfl, ?_⟩
    simp only [List.set_cons_succ, List.set_cons_zero]
    refine Wp.mono (LT_wp h (by omega) ht) fun fl G1 ⟨f1, c, e, ht1⟩ => ?_
    subst e
    refine Wp.mono (LT_loop t (z ++ ⟨#[c]⟩) (some d) G1 f1.2.2 (by rw [Str.length_append, one_len]; omega) ht1) fun fl G2 ⟨f2, h2⟩ => ⟨f1.trans f2, h2⟩
theorem letters_wp {r : Nat} {a b : Int} {G : DH} (h : Hand G r) (h0 : 0 ≤ a) (h1 : a ≤ b) (h2 : b ≤ 20) : Wp (F__law_letters [.ref r, .int a, .int b]) G fun x G' => ∃ z, x = .str z ∧ Tx z ∧ Fr r G G' := by
  unfold F__law_letters
  rw [is_LT]
  have s0 : ([D.ref r, D.int a, D.int b].map some ++ List.replicate (5 - [D.ref r, D.int a, D.int b].length) none : DSt) = [some (.ref r), some (.int a), some (.int b), none, none] := rfl
  simp only [wp_body, s0, wp_seq, wp_asg, wp_name, wp_for, rng1, wp_bin, wp_call, wp_cons, wp_nil, wp_c, wp_var, wp_fnX, wp_ret, List.getElem?_cons_zero, List.getElem?_cons_succ, List.set_cons_succ, List.set_cons_zero, Option.some.injEq, exists_eq_left', sub_int, add_int]
  refine ⟨rfl, draw_q h ⟨by omega, by omega⟩ fun k hk0 hk1 G1 f1 => ?_⟩
  rw [add_int, rng1_int ⟨by omega, by omega⟩]
  refine Wp.mono (LT_loop (rangeL 0 (a + k).toNat) "" none G1 f1.2.2 ?_ rfl) fun fl G2 ⟨f2, z', u', e, hz, ht⟩ => ?_
  · unfold rangeL
    rw [List.length_map, List.length_range, show (("" : Str).length) = 0 from rfl]
    omega
  · subst e
    simp only [List.getElem?_cons_zero, List.getElem?_cons_succ, Option.some.injEq, exists_eq_left']
    exact ⟨z', rfl, ⟨ht, by omega⟩, f1.trans f2⟩
theorem mul_z : ∃ z : Str, Tx z ∧ ∀ {G : DH} {Q : D → DH → Prop}, Wp (mulD (.str ("z" : Str)) (.int 20)) G Q ↔ Q (.str z) G := by
  refine ⟨Txt.mul ("z" : Str) 20, ⟨by decide +kernel, by decide +kernel⟩, fun {G Q} => ?_⟩
  have e : mulD (.str ("z" : Str)) (.int 20) = if PySem.MulOk ("z" : Str) 20 then pure (.str (Txt.mul ("z" : Str) 20)) else M.stuck := rfl
  rw [e, if_pos (by decide +kernel)]
  exact wp_pure
theorem text_wp {r : Nat} {G : DH} (h : Hand G r) : Wp (F__law_text [.ref r]) G fun x G' => ∃ z, x = .str z ∧ Tx z ∧ Fr r G G' := by
  obtain ⟨zz, hzz, emul⟩ := mul_z
  unfold F__law_text B__law_text
  have s0 : ([D.ref r].map some ++ List.replicate (1 - [D.ref r].length) none : DSt) = [some (.ref r)] := rfl
  simp only [wp_body, s0, wp_seq, wp_if, wp_test, wp_ret, wp_bin, wp_lst, wp_call, wp_cons, wp_nil, wp_c, wp_var, wp_fnX, wp_next, List.getElem?_cons_zero, Option.some.injEq, exists_eq_left', emul]
  refine ⟨rfl, draw_q h ⟨by decide, by decide⟩ fun k hk0 hk1 G1 f1 => ?_⟩
  rw [eq_int]
  refine ⟨_, rfl, ?_⟩
  by_cases hk : k = 1
  · simp only [hk, decide_true, if_true]
    exact ⟨rfl, Wp.mono (letters_wp f1.2.2 (by decide) (by decide) (by decide)) fun x G2 ⟨z, e, hz, f2⟩ => ⟨z, e, hz, f1.trans f2⟩⟩
  · simp only [hk, decide_false, Bool.false_eq_true, if_false]
    refine ⟨sz, rfl, pick_wp f1.2.2 rfl (by decide) (by decide) fun d hd G2 f2 _ => ?_⟩
    simp only [List.mem_cons, List.not_mem_nil, or_false] at hd
    rcases hd with rfl | rfl | rfl | rfl | rfl | rfl | rfl | rfl | rfl | rfl
    all_goals first
      | exact ⟨_, rfl, ⟨by decide, by decide⟩, f1.trans f2⟩
      | exact ⟨_, rfl, hzz, f1.trans f2⟩
noncomputable def RA1 : Fs := (ifS (andT (testE (binE neD (varE 2) (tupE (q11)))) (testE (binE eqD (q12 (fnX 2 F__law_draw) (q10 (varE 0) (q10 (cE (.int 2)) (q11)))) (cE (.int 1))))) (asgS (binE ixD (varE 2) (q12 (fnX 2 F__law_draw) (q10 (varE 0) (q10 (q12 lenF (q10 (varE 2) (q11))) (q11))))) (q13 5)) (nextS))
noncomputable def RA : Fs := (seqS (asgS (q12 (fnX 1 F__law_text) (q10 (varE 0) (q11))) (q13 5)) (seqS RA1 (asgS (cE (.bl true)) (subG (varE 3) (varE 5)))))
noncomputable def RC : Fe := (compE (itW (varE 3)) [none, some 7] (q13 0) (testE (binE eqD (q12 lenF (q10 (varE 0) (q11))) (varE 1))) (varE 0))
noncomputable def RB : Fs := (asgS (binE addD (varE 6) (q12 sortedG (q10 RC (q11)))) (q13 6))
theorem is_R : B__law_row = seqS (asgS (newDictE) (q13 3)) (seqS (forS (itRng1 (q10 (q12 (fnX 2 F__law_draw) (q10 (varE 0) (q10 (binE addD (varE 1) (cE (.int 1))) (q11)))) (q11))) (q13 4) RA) (seqS (asgS (lstE (q11)) (q13 6)) (seqS (forS (itRng1 (q10 (cE (.int 21)) (q11))) (q13 7) RB) (retS (tupE (q10 (binE ixD (lstE (q10 (cE (.str ("of" : Str))) (q10 (cE (.str ("but" : Str))) (q11)))) (q12 (fnX 2 F__law_draw) (q10 (varE 0) (q10 (cE (.int 2)) (q11))))) (q10 (q12 tupleF (q10 (varE 6) (q11))) (q11)))))))) := rfl
theorem RA1_wp {r p : Nat} {n u g b : Option D} {known : List Str} {z : Str} {G : DH} (h : Hand G r) (hk : ∀ z ∈ known, Tx z) (hl : known.length < 30) (hz : Tx z) :
    Wp (RA1 [some (.ref r), n, some (.tup (known.map D.str)), some (.ref p), u, some (.str z), g, b]) G fun fl G' => Fr r G G' ∧ ∃ z', Tx z' ∧ fl = .nx [some (.ref r), n, some (.tup (known.map D.str)), some (.ref p), u, some (.str z'), g, b] := by
  unfold RA1
  simp only [wp_if, wp_andT, wp_test, wp_asg, wp_name, wp_bin, wp_tup, wp_call, wp_cons, wp_nil, wp_c, wp_var, wp_fnX, wp_next, List.set_cons_succ, List.set_cons_zero, List.getElem?_cons_zero, List.getElem?_cons_succ, Option.some.injEq, exists_eq_left', ne_nilT, isBlI, len_tup]
  refine ⟨sz, ?_⟩
  cases known with
  | nil =>
    simp only [List.map_nil, List.isEmpty_nil, Bool.not_true, Bool.false_eq_true, if_false]
    exact ⟨Fr.refl h, z, hz, rfl⟩
  | cons k0 kr =>
    simp only [List.map_cons, List.isEmpty_cons, Bool.not_false, if_true]
    refine ⟨rfl, draw_q h ⟨by decide, by decide⟩ fun k hk0 hk1 G1 f1 => ?_⟩
    rw [eq_int]
    simp only [isBlI]
    by_cases hk2 : k = 1
    · simp only [hk2, decide_true, if_true]
      have hlen : (D.str k0 :: kr.map D.str).length = (k0 :: kr).length := by simp
      refine ⟨rfl, draw_q f1.2.2 ⟨by rw [hlen]; simp, by rw [hlen]; simp only [List.length_cons] at hl ⊢; omega⟩ fun j hj0 hj1 G2 f2 => ?_⟩
      rw [ix_tup]
      obtain ⟨d, hd, e⟩ := atI_some (l := D.str k0 :: kr.map D.str) hj0 hj1
      refine ⟨d, e, f1.trans f2, ?_⟩
      have hd' : d ∈ (k0 :: kr).map D.str := hd
      obtain ⟨z', hz', rfl⟩ := List.mem_map.mp hd'
      exact ⟨z', hk z' hz', rfl⟩
    · simp only [hk2, decide_false, Bool.false_eq_true, if_false]
      exact ⟨f1, z, hz, rfl⟩
theorem RA_wp {r p : Nat} {n u v g b : Option D} {known : List Str} {l : List (Key × D)} {ks : List Str} {G : DH} (hp : p ≠ r) (h : Hand G r) (hk : ∀ z ∈ known, Tx z) (hkl : known.length < 30) (e : G[p]? = some (.dct l)) (mk : Mk l ks) (hl : ks.length ≤ 60) (hz : ∀ z ∈ ks, Tx z) :
    Wp (RA [some (.ref r), n, some (.tup (known.map D.str)), some (.ref p), u, v, g, b]) G fun fl G' => Fr2 r p G G' ∧ ∃ v' l' ks', fl = .nx [some (.ref r), n, some (.tup (known.map D.str)), some (.ref p), u, v', g, b] ∧ G'[p]? = some (.dct l') ∧ Mk l' ks' ∧ ks'.length ≤ ks.length + 1 ∧ ∀ z ∈ ks', Tx z := by
  have bg := big
  unfold RA
  simp only [wp_seq, wp_asg, wp_name, wp_sub, wp_call, wp_cons, wp_nil, wp_c, wp_var, wp_fnX, List.set_cons_succ, List.set_cons_zero, List.getElem?_cons_zero, List.getElem?_cons_succ, Option.some.injEq, exists_eq_left']
  refine ⟨rfl, Wp.mono (text_wp h) fun x G3 ⟨z, ex, hzl, f3⟩ => ?_⟩
  subst ex
  refine Wp.mono (RA1_wp f3.2.2 hk hkl hzl) fun fl G4 ⟨f4, z', hz', efl⟩ => ?_
  subst efl
  simp only [List.getElem?_cons_zero, List.getElem?_cons_succ, Option.some.injEq, exists_eq_left']
  have f34 := f3.trans f4
  have e3 := f34.at hp e
  rw [set_dct e3 (by rw [keyStrs_len' mk.1]; omega)]
  have mk' := put_mk (z := z') (d := .bl true) mk
  refine ⟨f34.two.trans (Fr2.set hp f4.2.2), _, _, _, rfl, by rw [List.getElem?_set_self (lt_of_get e3)], mk', ?_, fun y hy => ?_⟩
  · split
    · omega
    · simp
  · split at hy
    · exact hz y hy
    · rcases List.mem_append.mp hy with hy | hy
      · exact hz y hy
      · rw [List.mem_singleton] at hy; subst hy; exact hz'
theorem RA_loop {r p : Nat} {n g b : Option D} {known : List Str} (hp : p ≠ r) (hk : ∀ z ∈ known, Tx z) (hkl : known.length < 30) : ∀ (items : List D) (u v : Option D) (l : List (Key × D)) (ks : List Str) (G : DH), Hand G r → G[p]? = some (.dct l) → Mk l ks → ks.length + items.length ≤ 60 → (∀ z ∈ ks, Tx z) →
    Wp (forL (q13 4) RA (fun _ => true) items [some (.ref r), n, some (.tup (known.map D.str)), some (.ref p), u, v, g, b]) G fun fl G' => Fr2 r p G G' ∧ ∃ u' v' l' ks', fl = .nx [some (.ref r), n, some (.tup (known.map D.str)), some (.ref p), u', v', g, b] ∧ G'[p]? = some (.dct l') ∧ Mk l' ks' ∧ ks'.length ≤ ks.length + items.length ∧ ∀ z ∈ ks', Tx z
  | [], u, v, l, ks, G, h, e, mk, hl, hz => by
    rw [wp_forN]
    exact ⟨rfl, (Fr.refl h).two, u, v, l, ks, rfl, e, mk, by simp, hz⟩
  | d :: t, u, v, l, ks, G, h, e, mk, hl, hz => by
    simp only [List.length_cons] at hl
    rw [wp_forC, wp_name]
    refine ⟨rfl, ?_⟩
    simp only [List.set_cons_succ, List.set_cons_zero]
    refine Wp.mono (RA_wp (u := some d) hp h hk hkl e mk (by omega) hz) fun fl G1 ⟨f1, v1, l1, ks1, q1, q2, q3, q4, q5⟩ => ?_
    subst q1
    refine Wp.mono (RA_loop hp hk hkl t (some d) v1 l1 ks1 G1 f1.2.2 q2 q3 (by omega) q5) fun fl G2 ⟨f2, u', v', l', ks', p1, p2, p3, p4, p5⟩ => ⟨f1.trans f2, u', v', l', ks', p1, p2, p3, by simp only [List.length_cons]; omega, p5⟩
def Gw (ks xs : List Str) (j : Nat) : Prop := Ris xs ∧ (∀ z ∈ xs, z ∈ ks ∧ z.length < j)
theorem sortS_ris {ts : List Str} {j : Nat} (nd : ts.Nodup) (h : ∀ z ∈ ts, z.length = j) : Ris (sortS ts) := by
  have hp : (sortS ts).Perm ts := List.mergeSort_perm ts leS
  have hs : (sortS ts).Pairwise fun a b => leS a b = true := List.pairwise_mergeSort leS_trans leS_total ts
  have ndm : (sortS ts).Nodup := hp.nodup_iff.mpr nd
  refine (List.Pairwise.and hs ndm).imp_of_mem fun {a b} ha hb hh => ?_
  have la := h a (hp.mem_iff.mp ha)
  have lb := h b (hp.mem_iff.mp hb)
  unfold txB
  rw [if_pos (by omega)]
  refine decide_eq_true (Classical.byContradiction fun n => hh.2 ?_)
  exact leS_antisymm hh.1 (by unfold leS; simp only [Bool.not_eq_true', decide_eq_false_iff_not]; exact n)
theorem gw_step {ks xs : List Str} {j : Nat} (nd : ks.Nodup) (g : Gw ks xs j) : Gw ks (xs ++ sortS (ks.filter fun z => decide ((z.length : Int) = (j : Int)))) (j + 1) := by
  have hm : ∀ z ∈ sortS (ks.filter fun z => decide ((z.length : Int) = (j : Int))), z ∈ ks ∧ z.length = j := fun z hz => by
    have := (List.mergeSort_perm _ leS).mem_iff.mp hz
    have := List.mem_filter.mp this
    exact ⟨this.1, by have h2 := of_decide_eq_true this.2; omega⟩
  refine ⟨List.pairwise_append.mpr ⟨g.1, sortS_ris (j := j) (nd.sublist List.filter_sublist) (fun z hz => by have h2 := of_decide_eq_true (List.mem_filter.mp hz).2; omega), fun a ha b hb => ?_⟩, fun z hz => ?_⟩
  · have h1 := (g.2 a ha).2
    have h2 := (hm b hb).2
    unfold txB
    rw [if_neg (by omega)]
    exact decide_eq_true (by omega)
  · rcases List.mem_append.mp hz with hz | hz
    · exact ⟨(g.2 z hz).1, by have := (g.2 z hz).2; omega⟩
    · exact ⟨(hm z hz).1, by have := (hm z hz).2; omega⟩
theorem ris_nodup {s : List Str} (h : Ris s) : s.Nodup := h.imp fun {a b} h e => by subst e; rw [txB_irr] at h; cases h
theorem nd_len : ∀ {l k : List Str}, l.Nodup → (∀ z ∈ l, z ∈ k) → l.length ≤ k.length
  | [], k, _, _ => Nat.zero_le _
  | a :: r, k, nd, h => by
    obtain ⟨h1, h2⟩ := List.nodup_cons.mp nd
    have ha := h a (by simp)
    have := nd_len (l := r) (k := k.erase a) h2 fun z hz => (List.mem_erase_of_ne (fun e => h1 (by rw [← e]; exact hz))).mpr (h z (List.mem_cons_of_mem _ hz))
    rw [List.length_erase_of_mem ha] at this
    have := List.length_pos_of_mem ha
    simp only [List.length_cons]
    omega
theorem gw_len {ks xs : List Str} {j : Nat} (g : Gw ks xs j) : xs.length ≤ ks.length := by
  have nd := ris_nodup g.1
  exact nd_len nd fun z hz => (g.2 z hz).1
end W
set_option Elab.async false
set_option linter.all false
set_option maxRecDepth 100000
namespace W
open PySem PySem.Spec L2 DL
open PyProof.Rows hiding St
theorem RB_wp {r p q : Nat} {n kn u v : Option D} {k : Int} {l : List (Key × D)} {ks xs : List Str} {G : DH} (hp : p ≠ r) (h : Hand G r) (e : Dk G p l) (mk : Mk l ks) (hl : ks.length ≤ 60) (hz : ∀ z ∈ ks, Tx z) (hq : q ≠ r ∧ q ≠ p) (eq : G[q]? = some (.lst (xs.map D.str))) (hxl : xs.length ≤ 1000) :
    Wp (RB [some (.ref r), n, kn, some (.ref p), u, v, some (.ref q), some (.int k)]) G fun fl G' => Fr2 r p G G' ∧ Dk G' p l ∧ ∃ q', fl = .nx [some (.ref r), n, kn, some (.ref p), u, v, some (.ref q'), some (.int k)] ∧ (q' ≠ r ∧ q' ≠ p) ∧ G'[q']? = some (.lst ((xs ++ sortS (ks.filter fun z => decide ((z.length : Int) = k))).map D.str)) := by
  have bg := big
  unfold RB RC
  simp only [wp_asg, wp_bin, wp_call, wp_cons, wp_nil, wp_c, wp_var, wp_name, wp_comp, wp_itW, List.set_cons_succ, List.set_cons_zero, List.getElem?_cons_zero, List.getElem?_cons_succ, Option.some.injEq, exists_eq_left']
  refine walk_dk hp h e fun G1 d1 f1 => ?_
  have eq1 : G1[q]? = some (.lst (xs.map D.str)) := by rw [f1.2.1 q hq.1 hq.2 (lt_of_get eq)]; exact eq
  rw [keys_strs mk.1]
  refine ⟨by show (ks.map D.str).length ≤ _; rw [List.length_map]; omega, ?_⟩
  have hc : compL (q13 0) (testE (binE eqD (q12 lenF (q10 (varE 0) q11)) (varE 1))) (varE 0) (fun _ => true) (ks.map D.str) (capSt [none, some 7] [some (.ref r), n, kn, some (.ref p), u, v, some (.ref q), some (.int k)]) G1 = some (.ok ((ks.map D.str).filter fun x => match x with | .str z => decide ((z.length : Int) = k) | _ => false), G1) := by
    refine comp_filter rfl (fun σ => ∃ u, σ = [u, some (.int k)]) _ _ ⟨none, rfl⟩ fun x hx σ hσ => ?_
    obtain ⟨z, hzm, rfl⟩ := List.mem_map.mp hx
    obtain ⟨u, rfl⟩ := hσ
    have hz1 := (hz z hzm).2
    refine ⟨[some (.str z), some (.int k)], rfl, ⟨_, rfl⟩, wp_is ?_, rfl⟩
    simp only [wp_test, wp_bin, wp_call, wp_cons, wp_nil, wp_var, List.getElem?_cons_zero, List.getElem?_cons_succ, Option.some.injEq, exists_eq_left', len_str' (show z.length ≤ sizeLine by omega), eq_int, isBlI]
    exact ⟨trivial, trivial⟩
  refine (wp_some hc).mpr ?_
  have ef : ((ks.map D.str).filter fun x => match x with | .str z => decide ((z.length : Int) = k) | _ => false) = (ks.filter fun z => decide ((z.length : Int) = k)).map D.str := by
    rw [List.filter_map]
    rfl
  rw [ef]
  have hle : (ks.filter fun z => decide ((z.length : Int) = k)).length ≤ ks.length := List.length_filter_le _ _
  generalize (ks.filter fun z => decide ((z.length : Int) = k)) = ts at hle ⊢
  rw [sortG_lst app_one (strs_map ts) (by omega)]
  have hperm : (sortS ts).Perm ts := List.mergeSort_perm ts leS
  have hlen := hperm.length_eq
  rw [add_lst (at_app (at_app eq1)) app_one (by rw [List.length_map, List.length_map]; omega), ← List.map_append]
  have h1 := d1.lt
  have h2 := f1.2.2.lt
  have f2 : Fr r G1 (G1 ++ [DO.lst (ts.map D.str)] ++ [DO.lst ((sortS ts).map D.str)] ++ [DO.lst ((xs ++ sortS ts).map D.str)]) := by rw [List.append_assoc, List.append_assoc]; exact Fr.app f1.2.2
  exact ⟨f1.trans f2.two, d1.app.app.app, _, rfl, ⟨by simp only [List.length_append]; omega, by simp only [List.length_append]; omega⟩, app_one⟩
theorem RB_loop {r p : Nat} {n kn u v : Option D} {l : List (Key × D)} {ks : List Str} (hp : p ≠ r) (mk : Mk l ks) (hl : ks.length ≤ 60) (hz : ∀ z ∈ ks, Tx z) : ∀ (m j : Nat) (w : Option D) (q : Nat) (xs : List Str) (G : DH), Hand G r → Dk G p l → (q ≠ r ∧ q ≠ p) → G[q]? = some (.lst (xs.map D.str)) → Gw ks xs j →
    Wp (forL (q13 7) RB (fun _ => true) ((List.range' j m).map fun (i : Nat) => D.int (0 + (i : Int))) [some (.ref r), n, kn, some (.ref p), u, v, some (.ref q), w]) G fun fl G' => Fr2 r p G G' ∧ ∃ q' w' xs', fl = .nx [some (.ref r), n, kn, some (.ref p), u, v, some (.ref q'), w'] ∧ (q' ≠ r ∧ q' ≠ p) ∧ G'[q']? = some (.lst (xs'.map D.str)) ∧ Gw ks xs' (j + m)
  | 0, j, w, q, xs, G, h, e, hq, eq, g => by
    simp only [List.range'_zero, List.map_nil, wp_forN]
    exact ⟨trivial, (Fr.refl h).two, q, w, xs, rfl, hq, eq, g⟩
  | m + 1, j, w, q, xs, G, h, e, hq, eq, g => by
    have hc := gw_len g
    simp only [List.range'_succ, List.map_cons, wp_forC, wp_name, List.set_cons_succ, List.set_cons_zero]
    refine ⟨trivial, ?_⟩
    refine Wp.mono (RB_wp (k := 0 + (j : Int)) hp h e mk hl hz hq eq (by omega)) fun fl G1 ⟨f1, d1, q1, r1, r2, r3⟩ => ?_
    subst r1
    rw [show (0 + (j : Int)) = (j : Int) by omega] at r3
    refine Wp.mono (RB_loop hp mk hl hz m (j + 1) _ q1 _ G1 f1.2.2 d1 r2 r3 (gw_step mk.2 g)) fun fl G2 ⟨f2, q', w', xs', p1, p2, p3, p4⟩ => ⟨f1.trans f2, q', w', xs', p1, p2, p3, by rw [show j + (m + 1) = j + 1 + m by omega]; exact p4⟩
theorem row_wp {r : Nat} {known : List Str} {G : DH} (h : Hand G r) (hk : ∀ z ∈ known, Tx z) (hkl : known.length < 30) : Wp (F__law_row [.ref r, .int 12, .tup (known.map D.str)]) G fun x G' => ∃ b s, x = rowD b s ∧ Rw s ∧ Fr r G G' := by
  unfold F__law_row
  rw [is_R]
  have s0 : ([D.ref r, .int 12, .tup (known.map D.str)].map some ++ List.replicate (8 - [D.ref r, .int 12, .tup (known.map D.str)].length) none : DSt) = [some (.ref r), some (.int 12), some (.tup (known.map D.str)), none, none, none, none, none] := rfl
  simp only [wp_body, s0, wp_seq, wp_asg, wp_name, wp_for, rng1, wp_newDict, wp_bin, wp_lst, wp_tup, wp_call, wp_cons, wp_nil, wp_c, wp_var, wp_fnX, wp_ret, add_int, List.getElem?_cons_zero, List.getElem?_cons_succ, List.set_cons_succ, List.set_cons_zero, Option.some.injEq, exists_eq_left']
  have fd : Fr r G (G ++ [DO.dct []]) := Fr.app h
  have hp : G.length ≠ r := by have := h.lt; omega
  refine ⟨rfl, draw_q fd.2.2 ⟨by decide, by decide⟩ fun k hk0 hk1 G2 f2 => ?_⟩
  rw [rng1_int ⟨by omega, by omega⟩]
  have e2 : G2[G.length]? = some (.dct []) := f2.at hp app_one
  have hlen : (rangeL 0 k.toNat).length = k.toNat := by unfold rangeL; rw [List.length_map, List.length_range]
  refine Wp.mono (RA_loop hp hk hkl (rangeL 0 k.toNat) none none [] [] G2 f2.2.2 e2 ⟨rfl, by simp⟩ (by rw [hlen]; simp; omega) (fun z hz => by cases hz)) fun fl G3 ⟨f3, u', v', l', ks', q1, q2, q3, q4, q5⟩ => ?_
  subst q1
  rw [hlen] at q4
  simp only [List.length_nil] at q4
  refine ⟨sz, ?_⟩
  rw [rng1_int ⟨by decide, by decide⟩]
  have h3 := lt_of_get q2
  have h4 := f3.2.2.lt
  have er : rangeL 0 (21 : Int).toNat = (List.range' 0 21).map fun (i : Nat) => D.int (0 + (i : Int)) := by
    unfold rangeL
    rw [List.range_eq_range']
    rfl
  show Wp (forL (q13 7) RB (fun _ => true) (rangeL 0 (21 : Int).toNat) [some (.ref r), some (.int 12), some (.tup (known.map D.str)), some (.ref G.length), u', v', some (.ref G3.length), none]) (G3 ++ [DO.lst []]) _
  rw [er]
  refine Wp.mono (RB_loop hp q3 (by omega) q5 21 0 none G3.length [] (G3 ++ [.lst []]) (f3.2.2.app) (.inl (at_app q2)) ⟨by omega, by omega⟩ app_one ⟨by simp [Ris], fun z hz => by cases hz⟩) fun fl G4 ⟨f4, q', w', xs', p1, p2, p3, p4⟩ => ?_
  subst p1
  have f34 := f3.trans ((Fr.app (t := [DO.lst []]) f3.2.2).two.trans f4)
  have f02 := fd.trans f2
  have hfd := fd.1
  have h02 := f02.1
  have fr : Fr r G G4 := by
    refine ⟨Nat.le_trans f02.1 f34.1, fun j hj hl => ?_, f34.2.2⟩
    rw [f34.2.1 j hj (by omega) (by omega), f02.2.1 j hj hl]
  simp only [List.getElem?_cons_zero, List.getElem?_cons_succ, Option.some.injEq, exists_eq_left']
  refine ⟨sz, rfl, pick_wp f4.2.2 rfl (by decide) (by decide) fun d hd G5 f5 _ => ?_⟩
  rw [tuple_lst (f5.at p2.1 p3)]
  have hxl := gw_len p4
  have rw' : Rw xs' := ⟨p4.1, fun z hz => q5 z (p4.2 z hz).1, by omega⟩
  simp only [List.mem_cons, List.not_mem_nil, or_false] at hd
  rcases hd with rfl | rfl
  · exact ⟨sz, true, xs', rfl, rw', fr.trans f5⟩
  · exact ⟨sz, false, xs', rfl, rw', fr.trans f5⟩
end W
set_option Elab.async false
set_option linter.all false
set_option maxRecDepth 100000
namespace W
open PySem PySem.Spec L2 DL
open PyProof.Rows hiding St
def inB' (b : Bool) (s : List Str) (z : Str) : Bool := decide (z ∈ s) == b
theorem inB_iff {b : Bool} {s : List Str} {z : Str} : inB' b s z = true ↔ inR b s z := by
  unfold inB' inR
  cases b <;> by_cases h : z ∈ s <;> simp [h]
theorem law_in_wp {z : Str} {b : Bool} {s : List Str} {G : DH} {Q : D → DH → Prop} : Wp (F__law_in [.str z, rowD b s]) G Q ↔ Q (.bl (inB' b s z)) G := by
  unfold F__law_in B__law_in
  have s0 : ([D.str z, rowD b s].map some ++ List.replicate (2 - [D.str z, rowD b s].length) none : DSt) = [some (.str z), some (.tup [.str (wrd b), .tup (s.map D.str)])] := rfl
  simp only [wp_body, s0, wp_ret, wp_bin, wp_var, wp_c, List.getElem?_cons_zero, List.getElem?_cons_succ, Option.some.injEq, exists_eq_left', ix_tup, at0, at1, wp_in, in_strs, eq_str, wrd_of, eq_bl]
  rfl
theorem eq_two {G : DH} {p q : Nat} {a b c d : Str} {Q : D → DH → Prop} (e : G[p]? = some (.lst [.str a, .str b])) (f : G[q]? = some (.lst [.str c, .str d])) : Wp (eqD (.ref p) (.ref q)) G Q ↔ Q (.bl ((a == c) && (b == d))) G := by
  have h : eqN 40 G (.ref p) (.ref q) = some ((a == c) && (b == d)) := by
    have h1 : seqK G (.ref p) = some (false, [.str a, .str b]) := by simp only [seqK, e]
    have h2 : seqK G (.ref q) = some (false, [.str c, .str d]) := by simp only [seqK, f]
    have e1 : eqN 39 G (.str a) (.str c) = some (a == c) := rfl
    have e2 : eqN 39 G (.str b) (.str d) = some (b == d) := rfl
    rw [eqN, h1, h2]
    simp only [eqL, e1, e2, List.length_cons, List.length_nil, ne_eq, not_true_eq_false, and_false, if_false, if_true, Bool.and_true]
  rw [wp_eq, h]; exact someI
def wb (w b c : Bool) : Bool := if w then b && c else b || c
theorem wrd_but (b : Bool) : (wrd b == wBut) = !b := by cases b <;> decide
theorem law_word_wp {b c w : Bool} {G : DH} : Wp (F__law_word [.str (wrd b), .str (wrd c), .int (if w then 1 else 0)]) G fun x G' => x = .str (wrd (wb w b c)) ∧ Ap G G' := by
  unfold F__law_word B__law_word
  have s0 : ([D.str (wrd b), .str (wrd c), .int (if w then 1 else 0)].map some ++ List.replicate (4 - [D.str (wrd b), .str (wrd c), .int (if w then 1 else 0)].length) none : DSt) = [some (.str (wrd b)), some (.str (wrd c)), some (.int (if w then 1 else 0)), none] := rfl
  simp only [wp_body, s0, wp_seq, wp_asg, wp_name, wp_if, wp_test, wp_ret, wp_lst, wp_bin, wp_call, wp_cons, wp_nil, wp_var, wp_c, wp_next, List.set_cons_zero, List.set_cons_succ, List.getElem?_cons_zero, List.getElem?_cons_succ, Option.some.injEq, exists_eq_left', eq_int, isBlI]
  refine ⟨sz, ?_⟩
  cases w
  · simp only [Bool.false_eq_true, if_false, decide_true, if_true]
    refine ⟨sz, sz, ?_⟩
    rw [eq_two (at_app (at_app app_one)) app_one, int_bl, ix_lst (at_app app_one), wrd_but, wrd_but]
    refine ⟨.str (wrd (wb false b c)), ?_, rfl, Ap.one.trans (Ap.one.trans Ap.one)⟩
    cases b <;> cases c <;> rfl
  · simp only [if_true, show decide ((1 : Int) = 0) = false from rfl, Bool.false_eq_true, if_false]
    refine ⟨sz, sz, ?_⟩
    rw [eq_two (at_app (at_app app_one)) app_one, int_bl, ix_lst (at_app app_one), wrd_of, wrd_of]
    refine ⟨.str (wrd (wb true b c)), ?_, rfl, Ap.one.trans (Ap.one.trans Ap.one)⟩
    cases b <;> cases c <;> rfl
structure Got (w b c : Bool) (s t m : List Str) : Prop where
  ris : Ris m
  mem : ∀ z, inR (wb w b c) m z ↔ if w then inR b s z ∨ inR c t z else inR b s z ∧ inR c t z
  sub : ∀ z ∈ m, z ∈ s ∨ z ∈ t
  len : m.length ≤ s.length + t.length
noncomputable def TL : Fs := (seqS (asgS (lstE (q10 (q12 (fnX 2 F__law_in) (q10 (varE 8) (q10 (varE 3) (q11)))) (q10 (q12 (fnX 2 F__law_in) (q10 (varE 8) (q10 (varE 4) (q11)))) (q11)))) (q13 9)) (ifS (testE (binE neD (q12 (fnX 2 F__law_in) (q10 (varE 8) (q10 (varE 6) (q11)))) (binE ixD (lstE (q10 (andVE (binE ixD (varE 9) (cE (.int 0))) (binE ixD (varE 9) (cE (.int 1)))) (q10 (orVE (binE ixD (varE 9) (cE (.int 0))) (binE ixD (varE 9) (cE (.int 1)))) (q11)))) (varE 5)))) (retS (cE (.bl false))) (nextS)))
theorem TL_wp {o1 o2 o3 o7 u : Option D} {b c w : Bool} {s t m : List Str} {z : Str} {G : DH} (g : Got w b c s t m) :
    Wp (TL [o1, o2, o3, some (rowD b s), some (rowD c t), some (.int (if w then 1 else 0)), some (rowD (wb w b c) m), o7, some (.str z), u]) G fun fl G' => Ap G G' ∧ ∃ u', fl = .nx [o1, o2, o3, some (rowD b s), some (rowD c t), some (.int (if w then 1 else 0)), some (rowD (wb w b c) m), o7, some (.str z), u'] := by
  unfold TL
  simp only [wp_seq, wp_asg, wp_name, wp_if, wp_test, wp_ret, wp_lst, wp_bin, wp_call, wp_cons, wp_nil, wp_var, wp_c, wp_next, wp_fnX, law_in_wp, wp_andV, wp_orV, List.set_cons_zero, List.set_cons_succ, List.getElem?_cons_zero, List.getElem?_cons_succ, Option.some.injEq, exists_eq_left']
  refine ⟨rfl, rfl, sz, rfl, ?_⟩
  rw [ix_lst app_one]
  refine ⟨.bl (inB' b s z), rfl, ?_⟩
  rw [truth_bl]
  have i1 : ∀ {Q : D → DH → Prop}, Wp (ixD (.ref G.length) (.int 1)) (G ++ [.lst [.bl (inB' b s z), .bl (inB' c t z)]]) Q ↔ Q (.bl (inB' c t z)) (G ++ [.lst [.bl (inB' b s z), .bl (inB' c t z)]]) := fun {Q} => by
    rw [ix_lst app_one]; exact ⟨fun ⟨d, e, q⟩ => by cases e; exact q, fun q => ⟨_, rfl, q⟩⟩
  have i0 : ∀ {Q : D → DH → Prop}, Wp (ixD (.ref G.length) (.int 0)) (G ++ [.lst [.bl (inB' b s z), .bl (inB' c t z)]]) Q ↔ Q (.bl (inB' b s z)) (G ++ [.lst [.bl (inB' b s z), .bl (inB' c t z)]]) := fun {Q} => by
    rw [ix_lst app_one]; exact ⟨fun ⟨d, e, q⟩ => by cases e; exact q, fun q => ⟨_, rfl, q⟩⟩
  have hm : inB' (wb w b c) m z = if w then inB' b s z || inB' c t z else inB' b s z && inB' c t z := by
    have := g.mem z
    rw [← inB_iff] at this
    rw [Bool.eq_iff_iff, this]
    cases w <;> simp [inB_iff]
  rw [hm]
  simp only [i0, i1, truth_bl]
  generalize inB' b s z = x at *
  generalize inB' c t z = y at *
  have a2 : ∀ {o : DO} {o' : DO}, Ap G (G ++ [o] ++ [o']) := fun {o o'} => Ap.one.trans Ap.one
  cases w <;> cases x <;> cases y <;> simp only [Bool.false_eq_true, if_false, if_true] <;> refine ⟨sz, ?_⟩ <;> rw [ix_lst app_one] <;> refine ⟨_, rfl, ?_⟩ <;> simp only [ne_bl, isBlI, Bool.and_self, Bool.or_self, Bool.and_true, Bool.and_false, Bool.or_true, Bool.or_false, Bool.true_or, Bool.false_or, Bool.false_and, Bool.true_and, beq_self_eq_true, Bool.not_true, Bool.false_eq_true, if_false] <;> exact ⟨a2, _, rfl⟩
theorem TL_loop {o1 o2 o3 o7 : Option D} {b c w : Bool} {s t m : List Str} {p : Nat} {L : List D} (g : Got w b c s t m) : ∀ (items : List Str) (u v : Option D) (G : DH), G[p]? = some (.lst L) →
    Wp (forL (q13 8) TL (ckO p (.lst L)) (items.map D.str) [o1, o2, o3, some (rowD b s), some (rowD c t), some (.int (if w then 1 else 0)), some (rowD (wb w b c) m), o7, u, v]) G fun fl G' => Ap G G' ∧ ∃ u' v', fl = .nx [o1, o2, o3, some (rowD b s), some (rowD c t), some (.int (if w then 1 else 0)), some (rowD (wb w b c) m), o7, u', v']
  | [], u, v, G, e => by
    rw [List.map_nil, wp_forN]
    exact ⟨by simp only [ckO, e]; simp, Ap.refl, u, v, rfl⟩
  | z :: r, u, v, G, e => by
    rw [List.map_cons, wp_forC, wp_name]
    refine ⟨by simp only [ckO, e]; simp, ?_⟩
    simp only [List.set_cons_succ, List.set_cons_zero]
    refine Wp.mono (TL_wp g) fun fl G1 ⟨a1, v1, e1⟩ => ?_
    subst e1
    exact Wp.mono (TL_loop g r (some (.str z)) v1 G1 (a1.at e)) fun fl G2 ⟨a2, h2⟩ => ⟨a1.trans a2, h2⟩
end W
set_option Elab.async false
set_option linter.all false
set_option maxRecDepth 100000
namespace W
open PySem PySem.Spec L2 DL
open PyProof.Rows hiding St
noncomputable def T1 : Fs := (asgS (binE addD (binE ixD (varE 0) (cE (.int 1))) (binE ixD (varE 1) (cE (.int 1)))) (q13 7))
noncomputable def T2 : Fs := (ifS (orT (testE (binE notCD (q12 (fnX 1 F_is_texts) (q10 (varE 6) (q11))) (cE (.bl true)))) (testE (binE neD (compE (itW (binE ixD (varE 6) (cE (.int 1)))) [none, some 7] (q13 0) (testE (binE notInD (varE 0) (varE 1))) (varE 0)) (lstE (q11))))) (retS (cE (.bl false))) (nextS))
noncomputable def T4 : Fs := (ifS (testE (binE neD (binE ixD (varE 6) (cE (.int 0))) (q12 (fnX 3 F__law_word) (q10 (binE ixD (varE 3) (cE (.int 0))) (q10 (binE ixD (varE 4) (cE (.int 0))) (q10 (varE 5) (q11))))))) (retS (cE (.bl false))) (nextS))
noncomputable def TB : Fs := seqS T1 (seqS T2 (seqS (forS (itW (varE 2)) (q13 8) TL) T4))
noncomputable def TW : DSt → M Src := (itW (lstE (q10 (tupE (q10 (cE (.int 0)) (q10 (q12 (fnX 2 F_meet_texts) (q10 (varE 3) (q10 (varE 4) (q11)))) (q11)))) (q10 (tupE (q10 (cE (.int 1)) (q10 (q12 (fnX 2 F_join_texts) (q10 (varE 3) (q10 (varE 4) (q11)))) (q11)))) (q11)))))
noncomputable def TO : Fs := forS TW (tupG 2 (consG (q13 5) (consG (q13 6) (nilG)))) TB
theorem is_T : B__law_told = seqS (asgS (binE addD (q12 listF (q10 (binE addD (binE ixD (varE 0) (cE (.int 1))) (binE ixD (varE 1) (cE (.int 1)))) (q11))) (lstE (q10 (cE (.str ("" : Str))) (q10 (cE (.str ("q" : Str))) (q10 (cE (.str ("qq" : Str))) (q10 (cE (.str ("nosuchtext" : Str))) (q11))))))) (q13 2)) (seqS (forS (itW (lstE (q10 (tupE (q10 (varE 0) (q10 (varE 1) (q11)))) (q10 (tupE (q10 (varE 1) (q10 (varE 0) (q11)))) (q11))))) (tupG 2 (consG (q13 3) (consG (q13 4) (nilG)))) TO) (retS (cE (.bl true)))) := rfl
theorem ix1_row {b : Bool} {s : List Str} {G : DH} {Q : D → DH → Prop} : Wp (ixD (rowD b s) (.int 1)) G Q ↔ Q (.tup (s.map D.str)) G := by
  unfold rowD
  rw [ix_tup]; exact ⟨fun ⟨d, e, q⟩ => by cases e; exact q, fun q => ⟨_, rfl, q⟩⟩
theorem ix0_row {b : Bool} {s : List Str} {G : DH} {Q : D → DH → Prop} : Wp (ixD (rowD b s) (.int 0)) G Q ↔ Q (.str (wrd b)) G := by
  unfold rowD
  rw [ix_tup]; exact ⟨fun ⟨d, e, q⟩ => by cases e; exact q, fun q => ⟨_, rfl, q⟩⟩
theorem TB_wp {b1 b2 b c w : Bool} {s1 s2 s t m items : List Str} {p : Nat} {u v o7 : Option D} {G : DH} (h1 : Rw s1) (h2 : Rw s2) (hk : ∀ z, z ∈ s ∨ z ∈ t → z ∈ s1 ∨ z ∈ s2) (hl : s.length + t.length < 100) (g : Got w b c s t m) (e : G[p]? = some (.lst (items.map D.str))) :
    Wp (TB [some (rowD b1 s1), some (rowD b2 s2), some (.ref p), some (rowD b s), some (rowD c t), some (.int (if w then 1 else 0)), some (rowD (wb w b c) m), o7, u, v]) G fun fl G' => Ap G G' ∧ ∃ o7 u v, fl = .nx [some (rowD b1 s1), some (rowD b2 s2), some (.ref p), some (rowD b s), some (rowD c t), some (.int (if w then 1 else 0)), some (rowD (wb w b c) m), o7, u, v] := by
  have bg := big
  have l1 := h1.len
  have l2 := h2.len
  have lm := g.len
  have htx : ∀ z ∈ m, Tx z := fun z hz => (hk z (g.sub z hz)).elim (h1.tx z) (h2.tx z)
  unfold TB T1
  simp only [wp_seq, wp_asg, wp_name, wp_bin, wp_var, wp_c, List.set_cons_zero, List.set_cons_succ, List.getElem?_cons_zero, List.getElem?_cons_succ, Option.some.injEq, exists_eq_left', ix1_row]
  rw [add_tup (by rw [List.length_map, List.length_map]; omega), ← List.map_append]
  unfold T2
  simp only [wp_if, wp_orT, wp_test, wp_bin, wp_call, wp_cons, wp_nil, wp_var, wp_c, wp_fnX, wp_next, wp_lst, wp_comp, wp_itW, List.getElem?_cons_zero, List.getElem?_cons_succ, Option.some.injEq, exists_eq_left', ix1_row, srcW_tup]
  refine ⟨rfl, Wp.mono (is_texts_row g.ris htx (by omega)) fun x G1 ⟨ex, a1⟩ => ?_⟩
  subst ex
  rw [notC_bl]
  simp only [isBlI, bne_self_eq_false, Bool.false_eq_true, if_false]
  refine ⟨by rw [List.length_map]; omega, ?_⟩
  have hc : compL (q13 0) (testE (binE notInD (varE 0) (varE 1))) (varE 0) (fun _ => true) (m.map D.str) (capSt [none, some 7] [some (rowD b1 s1), some (rowD b2 s2), some (.ref p), some (rowD b s), some (rowD c t), some (.int (if w then 1 else 0)), some (rowD (wb w b c) m), some (.tup ((s1 ++ s2).map D.str)), u, v]) G1 = some (.ok ((m.map D.str).filter fun _ => false), G1) := by
    refine comp_filter rfl (fun σ => ∃ u, σ = [u, some (.tup ((s1 ++ s2).map D.str))]) _ _ ⟨none, rfl⟩ fun x hx σ hσ => ?_
    obtain ⟨z, hz, rfl⟩ := List.mem_map.mp hx
    obtain ⟨u, rfl⟩ := hσ
    refine ⟨[some (.str z), some (.tup ((s1 ++ s2).map D.str))], rfl, ⟨_, rfl⟩, wp_is ?_, rfl⟩
    have hin : z ∈ s1 ++ s2 := List.mem_append.mpr (hk z (g.sub z hz))
    simp only [wp_test, wp_bin, wp_var, List.getElem?_cons_zero, List.getElem?_cons_succ, Option.some.injEq, exists_eq_left', wp_notIn, in_strs, isBlI, hin, decide_true, Bool.not_true]
    exact ⟨trivial, trivial⟩
  refine (wp_some hc).mpr ⟨sz, ?_⟩
  rw [ne_nil (at_app app_one) app_one]
  have hf : (m.map D.str).filter (fun _ => false) = [] := by simp
  rw [hf]
  simp only [List.isEmpty_nil, Bool.not_true, isBlI, Bool.false_eq_true, if_false, wp_for, wp_itW, wp_var, List.getElem?_cons_zero, List.getElem?_cons_succ, Option.some.injEq, exists_eq_left']
  have a3 : Ap G (G1 ++ [DO.lst []] ++ [DO.lst []]) := a1.trans (Ap.one.trans Ap.one)
  generalize (G1 ++ [DO.lst []] ++ [DO.lst []]) = G3 at a3 ⊢
  rw [srcW_lst (a3.at e)]
  refine Wp.mono (TL_loop g items u v G3 (a3.at e)) fun fl G4 ⟨a4, u', v', e4⟩ => ?_
  subst e4
  unfold T4
  simp only [wp_if, wp_test, wp_bin, wp_call, wp_cons, wp_nil, wp_var, wp_c, wp_fnX, wp_next, List.getElem?_cons_zero, List.getElem?_cons_succ, Option.some.injEq, exists_eq_left', ix0_row]
  refine ⟨rfl, Wp.mono law_word_wp fun x G5 ⟨ex, a5⟩ => ?_⟩
  subst ex
  rw [ne_str]
  simp only [isBlI, beq_self_eq_true, Bool.not_true, Bool.false_eq_true, if_false]
  exact ⟨a3.trans (a4.trans a5), _, _, _, rfl⟩
theorem got_meet {b c : Bool} {s t m : List Str} (r : Ris m) (mm : ∀ z, inR (b || c) m z ↔ inR b s z ∧ inR c t z) (sub : ∀ z ∈ m, z ∈ s ∨ z ∈ t) (hl : m.length ≤ s.length + t.length) : Got false b c s t m := ⟨r, mm, sub, hl⟩
theorem got_join {b c : Bool} {s t m : List Str} (r : Ris m) (mm : ∀ z, inR (b && c) m z ↔ inR b s z ∨ inR c t z) (sub : ∀ z ∈ m, z ∈ s ∨ z ∈ t) (hl : m.length ≤ s.length + t.length) : Got true b c s t m := ⟨r, mm, sub, hl⟩
theorem TO_wp {b1 b2 b c : Bool} {s1 s2 s t items : List Str} {p : Nat} {o5 o6 o7 u v : Option D} {G : DH} (h1 : Rw s1) (h2 : Rw s2) (hs : Rw s) (ht : Rw t) (hk : ∀ z, z ∈ s ∨ z ∈ t → z ∈ s1 ∨ z ∈ s2) (e : G[p]? = some (.lst (items.map D.str))) :
    Wp (TO [some (rowD b1 s1), some (rowD b2 s2), some (.ref p), some (rowD b s), some (rowD c t), o5, o6, o7, u, v]) G fun fl G' => Ap G G' ∧ ∃ o5 o6 o7 u v, fl = .nx [some (rowD b1 s1), some (rowD b2 s2), some (.ref p), some (rowD b s), some (rowD c t), o5, o6, o7, u, v] := by
  have l1 := hs.len
  have l2 := ht.len
  unfold TO TW
  simp only [wp_for, wp_itW, wp_lst, wp_tup, wp_call, wp_cons, wp_nil, wp_var, wp_c, wp_fnX, List.getElem?_cons_zero, List.getElem?_cons_succ, Option.some.injEq, exists_eq_left']
  refine ⟨rfl, Wp.mono (meet_wp hs ht) fun x G1 ⟨m, ex, r, mm, sub, hl, a1⟩ => ?_⟩
  subst ex
  refine ⟨sz, rfl, Wp.mono (join_wp hs ht) fun x G2 ⟨m2, ex, r2, mm2, sub2, hl2, a2⟩ => ?_⟩
  subst ex
  refine ⟨sz, sz, ?_⟩
  rw [srcW_lst app_one]
  have ck : ∀ {G' : DH}, Ap (G2 ++ [DO.lst [.tup [.int 0, rowD (b || c) m], .tup [.int 1, rowD (b && c) m2]]]) G' → ckO G2.length (.lst [.tup [.int 0, rowD (b || c) m], .tup [.int 1, rowD (b && c) m2]]) G' = true := fun {G'} a => by
    simp only [ckO, a.at app_one]; simp
  have a3 : Ap G (G2 ++ [DO.lst [.tup [.int 0, rowD (b || c) m], .tup [.int 1, rowD (b && c) m2]]]) := a1.trans (a2.trans Ap.one)
  have a0 := @Ap.refl (G2 ++ [DO.lst [.tup [.int 0, rowD (b || c) m], .tup [.int 1, rowD (b && c) m2]]])
  generalize hG : (G2 ++ [DO.lst [.tup [.int 0, rowD (b || c) m], .tup [.int 1, rowD (b && c) m2]]]) = G3 at *
  simp only [wp_forC, wp_forN, wp_tup2, wp_consG, wp_nilG, wp_name, List.set_cons_succ, List.set_cons_zero]
  refine ⟨ck a0, ?_⟩
  refine Wp.mono (TB_wp (w := false) (b := b) (c := c) (m := m) h1 h2 hk (by omega) (got_meet r mm sub hl) (a3.at e)) fun fl G4 ⟨a4, x7, xu, xv, e4⟩ => ?_
  subst e4
  simp only [List.set_cons_succ, List.set_cons_zero]
  refine ⟨ck a4, ?_⟩
  refine Wp.mono (TB_wp (w := true) (b := b) (c := c) (m := m2) h1 h2 hk (by omega) (got_join r2 mm2 sub2 hl2) ((a3.trans a4).at e)) fun fl G5 ⟨a5, y7, yu, yv, e5⟩ => ?_
  subst e5
  exact ⟨ck (a4.trans a5), a3.trans (a4.trans a5), _, _, _, _, _, rfl⟩
theorem told_wp {b1 b2 : Bool} {s1 s2 : List Str} {G : DH} (h1 : Rw s1) (h2 : Rw s2) : Wp (F__law_told [rowD b1 s1, rowD b2 s2]) G fun x G' => x = .bl true ∧ Ap G G' := by
  have bg := big
  have l1 := h1.len
  have l2 := h2.len
  unfold F__law_told
  rw [is_T]
  have s0 : ([rowD b1 s1, rowD b2 s2].map some ++ List.replicate (10 - [rowD b1 s1, rowD b2 s2].length) none : DSt) = [some (rowD b1 s1), some (rowD b2 s2), none, none, none, none, none, none, none, none] := rfl
  simp only [wp_body, s0, wp_seq, wp_asg, wp_name, wp_for, wp_itW, wp_bin, wp_lst, wp_tup, wp_call, wp_cons, wp_nil, wp_var, wp_c, wp_ret, List.set_cons_succ, List.set_cons_zero, List.getElem?_cons_zero, List.getElem?_cons_succ, Option.some.injEq, exists_eq_left', ix1_row]
  rw [add_tup (by rw [List.length_map, List.length_map]; omega), ← List.map_append, list_tup]
  refine ⟨sz, ?_⟩
  rw [add_lst (at_app app_one) app_one (by rw [List.length_map, List.length_append]; simp only [List.length_cons, List.length_nil]; omega)]
  have ei : ((s1 ++ s2).map D.str ++ [.str ("" : Str), .str ("q" : Str), .str ("qq" : Str), .str ("nosuchtext" : Str)]) = (s1 ++ s2 ++ [("" : Str), "q", "qq", "nosuchtext"]).map D.str := by simp only [List.map_append, List.map_cons, List.map_nil]
  rw [ei]
  generalize (s1 ++ s2 ++ [("" : Str), "q", "qq", "nosuchtext"]) = items
  generalize hG0 : (G ++ [DO.lst ((s1 ++ s2).map D.str)] ++ [DO.lst [D.str ("" : Str), .str ("q" : Str), .str ("qq" : Str), .str ("nosuchtext" : Str)]]) = G0
  have aG : Ap G (G0 ++ [DO.lst (items.map D.str)]) := by rw [← hG0]; exact Ap.one.trans (Ap.one.trans Ap.one)
  have e0 : (G0 ++ [DO.lst (items.map D.str)])[G0.length]? = some (.lst (items.map D.str)) := app_one
  generalize hG1 : (G0 ++ [DO.lst (items.map D.str)]) = G1 at aG e0 ⊢
  refine ⟨sz, sz, sz, ?_⟩
  rw [srcW_lst app_one]
  have ck : ∀ {G' : DH}, Ap (G1 ++ [DO.lst [.tup [rowD b1 s1, rowD b2 s2], .tup [rowD b2 s2, rowD b1 s1]]]) G' → ckO G1.length (.lst [.tup [rowD b1 s1, rowD b2 s2], .tup [rowD b2 s2, rowD b1 s1]]) G' = true := fun {G'} a => by
    simp only [ckO, a.at app_one]; simp
  have a3 : Ap G1 (G1 ++ [DO.lst [.tup [rowD b1 s1, rowD b2 s2], .tup [rowD b2 s2, rowD b1 s1]]]) := Ap.one
  have a0 := @Ap.refl (G1 ++ [DO.lst [.tup [rowD b1 s1, rowD b2 s2], .tup [rowD b2 s2, rowD b1 s1]]])
  generalize hG3 : (G1 ++ [DO.lst [.tup [rowD b1 s1, rowD b2 s2], .tup [rowD b2 s2, rowD b1 s1]]]) = G3 at *
  simp only [wp_forC, wp_forN, wp_tup2, wp_consG, wp_nilG, wp_name, List.set_cons_succ, List.set_cons_zero]
  refine ⟨ck a0, ?_⟩
  refine Wp.mono (TO_wp h1 h2 h1 h2 (fun z h => h) (a3.at e0)) fun fl G4 ⟨a4, x5, x6, x7, xu, xv, e4⟩ => ?_
  subst e4
  simp only [List.set_cons_succ, List.set_cons_zero]
  refine ⟨ck a4, ?_⟩
  refine Wp.mono (TO_wp h1 h2 h2 h1 (fun z h => h.symm) ((a3.trans a4).at e0)) fun fl G5 ⟨a5, y5, y6, y7, yu, yv, e5⟩ => ?_
  subst e5
  exact ⟨ck (a4.trans a5), by first | rfl | trivial, aG.trans (a3.trans (a4.trans a5))⟩
end W
set_option Elab.async false
set_option linter.all false
set_option maxRecDepth 100000
namespace W
open PySem PySem.Spec L2 DL
open PyProof.Rows hiding St
noncomputable def L1 : Fs := (asgS (tupE (q10 (binE ixD (lstE (q10 (cE (.str ("of" : Str))) (q10 (cE (.str ("but" : Str))) (q11)))) (q12 intF (q10 (binE eqD (binE ixD (varE 6) (cE (.int 0))) (cE (.str ("of" : Str)))) (q11)))) (q10 (binE ixD (varE 6) (cE (.int 1))) (q11)))) (q13 8))
noncomputable def L2b : Fs := (ifS (notT (truthE (q12 (fnX 2 F__law_told) (q10 (varE 6) (q10 (varE 9) (q11)))))) (retS (cE (.bl false))) (nextS))
noncomputable def L3 : Fs := (ifS (orT (testE (binE neD (q12 (fnX 2 F_meet_texts) (q10 (varE 6) (q10 (varE 8) (q11)))) (varE 2))) (orT (testE (binE neD (q12 (fnX 2 F_join_texts) (q10 (varE 6) (q10 (varE 8) (q11)))) (varE 1))) (testE (binE neD (q12 (fnX 2 F_meet_texts) (q10 (varE 6) (q10 (varE 1) (q11)))) (varE 6))))) (retS (cE (.bl false))) (nextS))
noncomputable def LB : Fs := (seqS (asgS (q12 (fnX 3 F__law_hand) (q10 (varE 0) (q10 (varE 4) (q10 (varE 3) (q11))))) (q13 5)) (seqS (asgS (q12 (fnX 3 F__law_row) (q10 (varE 5) (q10 (cE (.int 12)) (q10 (tupE (q11)) (q11))))) (q13 6)) (seqS (asgS (q12 (fnX 3 F__law_row) (q10 (varE 5) (q10 (cE (.int 12)) (q10 (binE ixD (varE 6) (cE (.int 1))) (q11))))) (q13 7)) (seqS L1 (seqS (forS (itW (lstE (q10 (varE 7) (q10 (varE 6) (q10 (varE 1) (q10 (varE 2) (q10 (varE 8) (q11)))))))) (q13 9) L2b) L3)))))
theorem is_L : B_law = seqS (asgS (tupE (q10 (cE (.str ("but" : Str))) (q10 (tupE (q11)) (q11)))) (q13 1)) (seqS (asgS (tupE (q10 (cE (.str ("of" : Str))) (q10 (tupE (q11)) (q11)))) (q13 2)) (seqS (forS (itEnum (q10 (sliceT (varE 0) (noPart) (partO (cE (.int 63)))) (q11))) (tupG 2 (consG (q13 3) (consG (q13 4) (nilG)))) LB) (retS (andVE (q12 (fnX 2 F__law_told) (q10 (varE 1) (q10 (varE 2) (q11)))) (andVE (q12 (fnX 2 F__law_told) (q10 (varE 1) (q10 (varE 1) (q11)))) (q12 (fnX 2 F__law_told) (q10 (varE 2) (q10 (varE 2) (q11))))))))) := rfl
theorem rw_nil : Rw [] := ⟨(by simp [Ris]), (fun z hz => by cases hz), (by simp)⟩
theorem every_is : D.tup [.str ("but" : Str), .tup []] = rowD false [] := rfl
theorem none_is : D.tup [.str ("of" : Str), .tup []] = rowD true [] := rfl
theorem L1_wp {o0 o1 o2 o3 o4 o5 o7 o8 o9 : Option D} {b : Bool} {s : List Str} {G : DH} : Wp (L1 [o0, o1, o2, o3, o4, o5, some (rowD b s), o7, o8, o9]) G fun fl G' => Ap G G' ∧ fl = .nx [o0, o1, o2, o3, o4, o5, some (rowD b s), o7, some (rowD (!b) s), o9] := by
  unfold L1
  simp only [wp_asg, wp_name, wp_tup, wp_bin, wp_lst, wp_call, wp_cons, wp_nil, wp_var, wp_c, List.set_cons_succ, List.set_cons_zero, List.getElem?_cons_zero, List.getElem?_cons_succ, Option.some.injEq, exists_eq_left', ix0_row, ix1_row, eq_str, wrd_of, int_bl]
  refine ⟨sz, ?_⟩
  rw [ix_lst app_one]
  refine ⟨.str (wrd (!b)), by cases b <;> rfl, sz, Ap.one, rfl⟩
theorem L2_loop {o0 o1 o2 o3 o4 o5 o7 o8 : Option D} {b : Bool} {s : List Str} {p : Nat} {L : List D} (hs : Rw s) : ∀ (items : List (Bool × List Str)) (u : Option D) (G : DH), (∀ x ∈ items, Rw x.2) → G[p]? = some (.lst L) →
    Wp (forL (q13 9) L2b (ckO p (.lst L)) (items.map fun x => rowD x.1 x.2) [o0, o1, o2, o3, o4, o5, some (rowD b s), o7, o8, u]) G fun fl G' => Ap G G' ∧ ∃ u', fl = .nx [o0, o1, o2, o3, o4, o5, some (rowD b s), o7, o8, u']
  | [], u, G, _, e => by
    rw [List.map_nil, wp_forN]
    exact ⟨by simp only [ckO, e]; simp, Ap.refl, u, rfl⟩
  | x :: r, u, G, h, e => by
    rw [List.map_cons, wp_forC, wp_name]
    refine ⟨by simp only [ckO, e]; simp, ?_⟩
    unfold L2b
    simp only [List.set_cons_succ, List.set_cons_zero, wp_if, wp_notT, wp_truth, wp_call, wp_cons, wp_nil, wp_var, wp_fnX, wp_next, List.getElem?_cons_zero, List.getElem?_cons_succ, Option.some.injEq, exists_eq_left']
    refine ⟨rfl, Wp.mono (told_wp hs (h x (by simp))) fun y G1 ⟨ey, a1⟩ => ?_⟩
    subst ey
    rw [truth_bl]
    simp only [Bool.not_true, Bool.false_eq_true, if_false]
    exact Wp.mono (L2_loop hs r (some (rowD x.1 x.2)) G1 (fun y hy => h y (by simp [hy])) (a1.at e)) fun fl G2 ⟨a2, h2⟩ => ⟨a1.trans a2, h2⟩
theorem empty_of {m : List Str} (h : ∀ z, z ∉ m) : m = [] := by
  cases m with
  | nil => rfl
  | cons a r => exact (h a (by simp)).elim
theorem L3_wp {o0 o3 o4 o5 o7 o9 : Option D} {b : Bool} {s : List Str} {G : DH} (hs : Rw s) : Wp (L3 [o0, some (rowD false []), some (rowD true []), o3, o4, o5, some (rowD b s), o7, some (rowD (!b) s), o9]) G fun fl G' => Ap G G' ∧ fl = .nx [o0, some (rowD false []), some (rowD true []), o3, o4, o5, some (rowD b s), o7, some (rowD (!b) s), o9] := by
  unfold L3
  simp only [wp_if, wp_orT, wp_test, wp_bin, wp_call, wp_cons, wp_nil, wp_var, wp_fnX, wp_next, List.getElem?_cons_zero, List.getElem?_cons_succ, Option.some.injEq, exists_eq_left']
  refine ⟨rfl, Wp.mono (meet_wp hs hs) fun x G1 ⟨m, ex, r, mm, sub, hl, a1⟩ => ?_⟩
  subst ex
  have e1 : (b || !b) = true := by cases b <;> rfl
  rw [e1] at mm ⊢
  have em : m = [] := empty_of fun z hz => by
    have := (mm z).mp hz
    rw [inR_not] at this
    exact this.2 this.1
  subst em
  rw [ne_row]
  simp only [isBlI, and_self, decide_true, Bool.not_true, Bool.false_eq_true, if_false]
  refine ⟨rfl, Wp.mono (join_wp hs hs) fun x G2 ⟨m, ex, r, mm, sub, hl, a2⟩ => ?_⟩
  subst ex
  have e2 : (b && !b) = false := by cases b <;> rfl
  rw [e2] at mm ⊢
  have em : m = [] := empty_of fun z hz => by
    have h1 : ¬ (inR b s z ∨ inR (!b) s z) := fun hh => ((mm z).mpr hh) hz
    rw [inR_not] at h1
    exact h1 (Classical.em _)
  subst em
  rw [ne_row]
  simp only [isBlI, and_self, decide_true, Bool.not_true, Bool.false_eq_true, if_false]
  refine ⟨rfl, Wp.mono (meet_wp hs rw_nil) fun x G3 ⟨m, ex, r, mm, sub, hl, a3⟩ => ?_⟩
  subst ex
  rw [Bool.or_false] at mm ⊢
  have em : m = s := ris_eq r hs.ris fun z => by
    have h1 := mm z
    have h2 : inR false [] z := by unfold inR; simp
    simp only [h2, and_true] at h1
    unfold inR at h1
    cases b
    · simp only [Bool.false_eq_true, if_false] at h1
      exact Decidable.not_iff_not.mp h1
    · simpa using h1
  subst em
  rw [ne_row]
  simp only [isBlI, and_self, decide_true, Bool.not_true, Bool.false_eq_true, if_false]
  exact ⟨a1.trans (a2.trans a3), by first | rfl | trivial⟩
theorem LB_wp {ns : List Int} {p : Nat} {k c : Int} {o5 o6 o7 o8 o9 : Option D} {G : DH} (e : G[p]? = some (.rol (ns.map D.int))) (hk : 0 ≤ k ∧ k < 64) : Wp (LB [some (.ref p), some (rowD false []), some (rowD true []), some (.int k), some (.int c), o5, o6, o7, o8, o9]) G fun fl G' => Gr G G' ∧ ∃ o5 o6 o7 o8 o9, fl = .nx [some (.ref p), some (rowD false []), some (rowD true []), some (.int k), some (.int c), o5, o6, o7, o8, o9] := by
  unfold LB
  simp only [wp_seq, wp_asg, wp_name, wp_tup, wp_bin, wp_call, wp_cons, wp_nil, wp_var, wp_c, wp_fnX, List.set_cons_succ, List.set_cons_zero, List.getElem?_cons_zero, List.getElem?_cons_succ, Option.some.injEq, exists_eq_left']
  refine ⟨rfl, Wp.mono (hand_wp e hk) fun d G1 ⟨r, ed, hr, hh, g1⟩ => ?_⟩
  subst ed
  refine ⟨sz, rfl, Wp.mono (row_wp (known := []) hh (fun z hz => by cases hz) (by simp)) fun x G2 ⟨b, s, ex, hs, f2⟩ => ?_⟩
  subst ex
  rw [ix1_row]
  refine ⟨rfl, Wp.mono (row_wp f2.2.2 hs.tx hs.len) fun x G3 ⟨c2, t, ex, ht, f3⟩ => ?_⟩
  subst ex
  have g3 : Gr G G3 := Gr.of g1 (f2.trans f3) hr
  refine Wp.mono L1_wp fun fl G4 ⟨a4, e4⟩ => ?_
  subst e4
  simp only [wp_for, wp_itW, wp_lst, wp_cons, wp_nil, wp_var, List.getElem?_cons_zero, List.getElem?_cons_succ, Option.some.injEq, exists_eq_left']
  refine ⟨sz, ?_⟩
  rw [srcW_lst app_one]
  have hit : ∀ x ∈ [(c2, t), (b, s), (false, []), (true, []), (!b, s)], Rw x.2 := fun x hx => by
    simp only [List.mem_cons, List.not_mem_nil, or_false] at hx
    rcases hx with rfl | rfl | rfl | rfl | rfl
    · exact ht
    · exact hs
    · exact rw_nil
    · exact rw_nil
    · exact hs
  refine Wp.mono (L2_loop (L := [rowD c2 t, rowD b s, rowD false [], rowD true [], rowD (!b) s]) hs [(c2, t), (b, s), (false, []), (true, []), (!b, s)] o9 _ hit app_one) fun fl G5 ⟨a5, u', e5⟩ => ?_
  subst e5
  refine Wp.mono (L3_wp hs) fun fl G6 ⟨a6, e6⟩ => ?_
  subst e6
  exact ⟨g3.trans (a4.gr.trans (Gr.app.trans (a5.gr.trans a6.gr))), _, _, _, _, _, rfl⟩
theorem LB_loop {ns : List Int} {p q : Nat} {L : List D} : ∀ (cs : List Int) (k : Nat) (o3 o4 o5 o6 o7 o8 o9 : Option D) (G : DH), G[p]? = some (.rol (ns.map D.int)) → G[q]? = some (.lst L) → k + cs.length ≤ 63 →
    Wp (forL (tupG 2 (consG (q13 3) (consG (q13 4) nilG))) LB (ckO q (.lst L)) (((cs.map D.int).zipIdx k).map fun p => .tup [.int ((p.2 : Nat) : Int), p.1]) [some (.ref p), some (rowD false []), some (rowD true []), o3, o4, o5, o6, o7, o8, o9]) G fun fl G' => Gr G G' ∧ ∃ o3 o4 o5 o6 o7 o8 o9, fl = .nx [some (.ref p), some (rowD false []), some (rowD true []), o3, o4, o5, o6, o7, o8, o9]
  | [], k, o3, o4, o5, o6, o7, o8, o9, G, e, et, hk => by
    simp only [List.map_nil, List.zipIdx_nil, wp_forN]
    exact ⟨by simp [ckO, et], Gr.refl, _, _, _, _, _, _, _, rfl⟩
  | c :: r, k, o3, o4, o5, o6, o7, o8, o9, G, e, et, hk => by
    simp only [List.map_cons, List.zipIdx_cons, wp_forC]
    refine ⟨by simp [ckO, et], ?_⟩
    rw [wp_tup2]
    simp only [wp_consG, wp_nilG, wp_name, List.set_cons_succ, List.set_cons_zero]
    simp only [List.length_cons] at hk
    refine Wp.mono (LB_wp e ⟨by omega, by omega⟩) fun fl G1 ⟨g1, u5, u6, u7, u8, u9, ef⟩ => ?_
    subst ef
    exact Wp.mono (LB_loop r (k + 1) _ _ _ _ _ _ _ G1 (g1.at e) (g1.at et) (by omega)) fun fl G2 ⟨g2, h2⟩ => ⟨g1.trans g2, h2⟩
theorem slT_rol {G : DH} {p : Nat} {l : List D} {lo hi : Option Int} {Q : D → DH → Prop} (e : G[p]? = some (.rol l)) : Wp (slT (.ref p) lo hi) G Q ↔ Q (.ref G.length) (G ++ [.lst (DL.cutD l lo hi)]) := sl_rol e
theorem pure_wp (ns : List Int) (hn : ns.length ≤ 63) : Wp (F_law [.ref 0]) [.rol (ns.map D.int)] fun d _ => d = .bl true := by
  unfold F_law
  rw [is_L]
  have e0 : ([DO.rol (ns.map D.int)] : DH)[0]? = some (.rol (ns.map D.int)) := rfl
  generalize hG : ([DO.rol (ns.map D.int)] : DH) = G at *
  have s0 : ([D.ref 0].map some ++ List.replicate (10 - [D.ref 0].length) none : DSt) = [some (.ref 0), none, none, none, none, none, none, none, none, none] := rfl
  simp only [wp_body, s0, wp_seq, wp_asg, wp_name, wp_tup, wp_for, wp_sliceT, wp_noPart, wp_part, wp_cons, wp_nil, wp_c, wp_var, Option.some.injEq, exists_eq_left', List.set_cons_succ, List.set_cons_zero, List.getElem?_cons_zero, List.getElem?_cons_succ, intI, wp_ret, enum_ref, every_is, none_is, wp_andV, wp_call, wp_fnX]
  refine ⟨sz, sz, sz, sz, ?_⟩
  rw [slT_rol e0, enum_one app_one]
  obtain ⟨cs, ec, hc⟩ := cut_map ns none (some 63)
  simp only [ec]
  refine Wp.mono (LB_loop (ns := ns) cs 0 none none none none none none none _ (at_app e0) (by rw [← ec]; exact app_one) (by omega)) fun fl G7 ⟨g7, o3, o4, o5, o6, o7, o8, o9, e7⟩ => ?_
  subst e7
  simp only [List.getElem?_cons_zero, List.getElem?_cons_succ, Option.some.injEq, exists_eq_left']
  refine ⟨rfl, Wp.mono (told_wp rw_nil rw_nil) fun x G8 ⟨ex, a8⟩ => ?_⟩
  subst ex
  rw [truth_bl]
  simp only [if_true]
  refine ⟨rfl, Wp.mono (told_wp rw_nil rw_nil) fun x G9 ⟨ex, a9⟩ => ?_⟩
  subst ex
  rw [truth_bl]
  simp only [if_true]
  exact ⟨rfl, Wp.mono (told_wp rw_nil rw_nil) fun x G10 ⟨ex, a10⟩ => ex⟩
theorem pure_law : ∀ ns : List Int, ns.length ≤ 63 → ∃ G', F_law [.ref 0] [.rol (ns.map D.int)] = some (.ok (.bl true), G') := fun ns hn => by
  obtain ⟨d, G', e, rfl⟩ := pure_wp ns hn
  exact ⟨G', e⟩
end W
set_option maxRecDepth 100000 in
set_option maxHeartbeats 0 in
theorem PySem.Challenge.cw_allmeet_k12_texts_met_and_joined_holds : PySem.Challenge.rw_allmeet_k12_texts_met_and_joined.Holds := by
  w_on; o_law; k_head; (case hw => w_witness2)
  k_fill
  refine W.walk (l := PySem.Challenge.rw_allmeet_k12_texts_met_and_joined) rfl rfl (fun w h Y => PySem.W.kIn_of Y) ?F
  case F =>
    intro w mg fa h KX G hmg
    refine' W.all_mk KX G hmg ?a__law_hand ?l__law_hand ?e__law_hand ?k__law_hand ?a__law_draw ?l__law_draw ?e__law_draw ?k__law_draw ?a__law_letters ?l__law_letters ?e__law_letters ?k__law_letters ?a__law_text ?l__law_text ?e__law_text ?k__law_text ?a__law_row ?l__law_row ?e__law_row ?k__law_row ?a_marked ?l_marked ?e_marked ?k_marked ?a_text_order ?l_text_order ?e_text_order ?k_text_order ?a_rising_texts ?l_rising_texts ?e_rising_texts ?k_rising_texts ?a_in_either ?l_in_either ?e_in_either ?k_in_either ?a_in_both ?l_in_both ?e_in_both ?k_in_both ?a_without ?l_without ?e_without ?k_without ?a_meet_texts ?l_meet_texts ?e_meet_texts ?k_meet_texts ?a_turned ?l_turned ?e_turned ?k_turned ?a_join_texts ?l_join_texts ?e_join_texts ?k_join_texts ?a__law_word ?l__law_word ?e__law_word ?k__law_word ?a_rising ?l_rising ?e_rising ?k_rising ?a_is_tagged ?l_is_tagged ?e_is_tagged ?k_is_tagged ?a_is_text ?l_is_text ?e_is_text ?k_is_text ?a_is_texts ?l_is_texts ?e_is_texts ?k_is_texts ?a__law_in ?l__law_in ?e__law_in ?k__law_in ?a__law_told ?l__law_told ?e__law_told ?k__law_told ?a_law ?l_law ?e_law ?k_law ?y_len ?y_isinstance ?y_all ?y_any ?y_sum ?y_min ?y_max ?y_abs ?y_sorted ?y_tuple ?y_list ?y_int ?y_str ?y_bool ?y_dict ?y_zip ?y_enumerate ?y_range ?y_reversed W.pure_law
    (case a__law_hand => k_is)
    (case l__law_hand => k_is)
    (case e__law_hand => k_is)
    (case k__law_hand => k_is)
    (case a__law_draw => k_is)
    (case l__law_draw => k_is)
    (case e__law_draw => k_is)
    (case k__law_draw => k_is)
    (case a__law_letters => k_is)
    (case l__law_letters => k_is)
    (case e__law_letters => k_is)
    (case k__law_letters => k_is)
    (case a__law_text => k_is)
    (case l__law_text => k_is)
    (case e__law_text => k_is)
    (case k__law_text => k_is)
    (case a__law_row => k_is)
    (case l__law_row => k_is)
    (case e__law_row => k_is)
    (case k__law_row => k_is)
    (case a_marked => k_is)
    (case l_marked => k_is)
    (case e_marked => k_is)
    (case k_marked => k_is)
    (case a_text_order => k_is)
    (case l_text_order => k_is)
    (case e_text_order => k_is)
    (case k_text_order => k_is)
    (case a_rising_texts => k_is)
    (case l_rising_texts => k_is)
    (case e_rising_texts => k_is)
    (case k_rising_texts => k_is)
    (case a_in_either => k_is)
    (case l_in_either => k_is)
    (case e_in_either => k_is)
    (case k_in_either => k_is)
    (case a_in_both => k_is)
    (case l_in_both => k_is)
    (case e_in_both => k_is)
    (case k_in_both => k_is)
    (case a_without => k_is)
    (case l_without => k_is)
    (case e_without => k_is)
    (case k_without => k_is)
    (case a_meet_texts => k_is)
    (case l_meet_texts => k_is)
    (case e_meet_texts => k_is)
    (case k_meet_texts => k_is)
    (case a_turned => k_is)
    (case l_turned => k_is)
    (case e_turned => k_is)
    (case k_turned => k_is)
    (case a_join_texts => k_is)
    (case l_join_texts => k_is)
    (case e_join_texts => k_is)
    (case k_join_texts => k_is)
    (case a__law_word => k_is)
    (case l__law_word => k_is)
    (case e__law_word => k_is)
    (case k__law_word => k_is)
    (case a_rising => k_is)
    (case l_rising => k_is)
    (case e_rising => k_is)
    (case k_rising => k_is)
    (case a_is_tagged => k_is)
    (case l_is_tagged => k_is)
    (case e_is_tagged => k_is)
    (case k_is_tagged => k_is)
    (case a_is_text => k_is)
    (case l_is_text => k_is)
    (case e_is_text => k_is)
    (case k_is_text => k_is)
    (case a_is_texts => k_is)
    (case l_is_texts => k_is)
    (case e_is_texts => k_is)
    (case k_is_texts => k_is)
    (case a__law_in => k_is)
    (case l__law_in => k_is)
    (case e__law_in => k_is)
    (case k__law_in => k_is)
    (case a__law_told => k_is)
    (case l__law_told => k_is)
    (case e__law_told => k_is)
    (case k__law_told => k_is)
    (case a_law => k_is)
    (case l_law => k_is)
    (case e_law => k_is)
    (case k_law => k_is)
    (case y_len => k_is)
    (case y_isinstance => k_is)
    (case y_all => k_is)
    (case y_any => k_is)
    (case y_sum => k_is)
    (case y_min => k_is)
    (case y_max => k_is)
    (case y_abs => k_is)
    (case y_sorted => k_is)
    (case y_tuple => k_is)
    (case y_list => k_is)
    (case y_int => k_is)
    (case y_str => k_is)
    (case y_bool => k_is)
    (case y_dict => k_is)
    (case y_zip => k_is)
    (case y_enumerate => k_is)
    (case y_range => k_is)
    (case y_reversed => k_is)
