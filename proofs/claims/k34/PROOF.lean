import PyProof.Rows.All
import Wide.All
import OpenK.AllK
import Wide.FinOn
import Lean
import PyProof.EqAt
import PyProof.EqKinds
import PyProof.TupleCall
import PyProof.NeKinds
import PyProof.ZipIter
import PyProof.EnumFor
import PyProof.EnumMake
import PyProof.EnumStmt
import PyProof.Draws
import KE.KDictSum
import PyProof.Rows.SortStr
import PyProof.StrWalks
import KE.KRevIter
import KE.KDictList
import PyProof.CollectIter
import PyProof.SliceStr2
import PyProof.StrBlockI
import KE.KListMore
import PyProof.DictWalks
import PyProof.TupleOfSeq
import PyProof.AttrMissHeap
import PyProof.AttrMissSeq
import KE.KDictOf
import PyProof.WalksMore
import KE.KSortTup
import KE.KSortKey
import PyProof.Rows.StrJoin2
import PySem.Challenge.RW_allmeet_k34_whole_counts_by_lists_of_val
set_option Elab.async false
set_option linter.all false
set_option maxRecDepth 100000
namespace L2
open PySem PySem.Spec PyProof.Rows
noncomputable abbrev Key := Sum Int Str
noncomputable def keyIs : Key → Value → Bool
  | .inl k, v => Value.isInt k v
  | .inr x, v => Value.isStrOf x v
noncomputable def keyH (w : World) : Key → Int
  | .inl k => hashInt k
  | .inr x => hashStr w x
theorem keyIs_shape : ∀ {k : Key} {v : Value}, keyIs k v = true → (∃ i t, k = Sum.inl i ∧ v = Value.int i t) ∨ (∃ x t, k = Sum.inr x ∧ v = Value.str x t)
  | .inl i, v, h => by
    obtain ⟨t, e⟩ := Value.isInt_shape (k := i) (v := v) h
    exact .inl ⟨i, t, rfl, e⟩
  | .inr x, v, h => by
    obtain ⟨t, e⟩ := Value.isStrOf_shape (x := x) (v := v) h
    exact .inr ⟨x, t, rfl, e⟩
theorem keyIs_int (i : Int) (t : Tok) : keyIs (.inl i) (.int i t) = true := by simp [keyIs, Value.isInt]
theorem keyIs_str (x : Str) (t : Tok) : keyIs (.inr x) (.str x t) = true := by simp [keyIs, Value.isStrOf]
theorem key_ll (a b : Int) : decide ((Sum.inl a : Key) = Sum.inl b) = (a == b) := by
  by_cases e : a = b
  · subst e; simp
  · have h : ¬ (Sum.inl a : Key) = Sum.inl b := fun q => e (Sum.inl.inj q)
    rw [decide_eq_false h]
    exact (beq_eq_false_iff_ne.mpr e).symm
theorem key_rr (a b : Str) : decide ((Sum.inr a : Key) = Sum.inr b) = decide (a = b) := by
  by_cases e : a = b
  · subst e; simp
  · have h : ¬ (Sum.inr a : Key) = Sum.inr b := fun q => e (Sum.inr.inj q)
    rw [decide_eq_false h, decide_eq_false e]
theorem key_lr (a : Int) (b : Str) : decide ((Sum.inl a : Key) = Sum.inr b) = false := decide_eq_false (fun q => nomatch q)
theorem key_rl (a : Str) (b : Int) : decide ((Sum.inr a : Key) = Sum.inl b) = false := decide_eq_false (fun q => nomatch q)
noncomputable def mixKind (prog : Program) (w : World) : PySem.KeyKind prog w Key where
  is := keyIs
  hash := keyH w
  inj := fun v a b ha hb => by
    rcases keyIs_shape ha with ⟨i, t, rfl, rfl⟩ | ⟨x, t, rfl, rfl⟩
    · rcases keyIs_shape hb with ⟨j, u, rfl, e⟩ | ⟨y, u, rfl, e⟩
      · injection e with e1 _; rw [e1]
      · exact nomatch e
    · rcases keyIs_shape hb with ⟨j, u, rfl, e⟩ | ⟨y, u, rfl, e⟩
      · exact nomatch e
      · injection e with e1 _; rw [e1]
  byValue := fun k v h => by
    rcases keyIs_shape h with ⟨i, t, rfl, rfl⟩ | ⟨x, t, rfl, rfl⟩ <;> rfl
  pyHash := fun hv h => by
    rcases keyIs_shape hv with ⟨i, t, rfl, rfl⟩ | ⟨x, t, rfl, rfl⟩
    · exact wpAny_pyHash_int h
    · exact wpAny_pyHash_str h
  eqBool := fun hu hv h => by
    rcases keyIs_shape hu with ⟨i, t, rfl, rfl⟩ | ⟨x, t, rfl, rfl⟩
    · rcases keyIs_shape hv with ⟨j, u, rfl, rfl⟩ | ⟨y, u, rfl, rfl⟩
      · rw [key_ll] at h; exact wpAny_eqBool_int h
      · rw [key_lr] at h; exact SeqAt.EqAt.int_str i t y u _ _ _ _ h
    · rcases keyIs_shape hv with ⟨j, u, rfl, rfl⟩ | ⟨y, u, rfl, rfl⟩
      · rw [key_rl] at h; exact SeqAt.EqAt.str_int x t j u _ _ _ _ h
      · rw [key_rr] at h; exact wpAny_eqBool_str h
  «strs» := fun k x t v h => by
    rcases keyIs_shape h with ⟨i, u, rfl, e⟩ | ⟨y, u, rfl, e⟩
    · exact nomatch e
    · injection e with e1 _
      subst e1
      cases v <;> rfl
theorem mixKind_int (prog : Program) (w : World) (i : Int) (t : Tok) : (mixKind prog w).is (.inl i) (.int i t) = true := keyIs_int i t
theorem mixKind_str (prog : Program) (w : World) (x : Str) (t : Tok) : (mixKind prog w).is (.inr x) (.str x t) = true := keyIs_str x t
end L2
namespace L2
open PySem PySem.Spec PyProof.Rows
inductive V where
  | non | bl (b : Bool) | int (i : Int) | str (x : Str) | byt (b : Array UInt8) | flt (b : UInt64) | ref (a : Addr) | ty (n : String)
  deriving DecidableEq
noncomputable def RelV : V → Value → Prop
  | .non, u => u = Value.none
  | .bl b, u => u = Value.bool b
  | .int i, u => ∃ t, u = Value.int i t
  | .str x, u => ∃ t, u = Value.str x t
  | .byt b, u => ∃ t, u = Value.bytes b t
  | .flt b, u => ∃ t, u = Value.float b t
  | .ref a, u => u = Value.ref a
  | .ty n, u => u = Value.type n
noncomputable abbrev Vals : List V → List Value → Prop := Paired RelV
theorem Vals.length {xs : List V} {us : List Value} (r : Vals xs us) : xs.length = us.length := Paired.length r
theorem Vals.get : ∀ {xs : List V} {us : List Value} {i : Nat} {x : V}, Vals xs us → xs[i]? = some x → ∃ u, us[i]? = some u ∧ RelV x u
  | _, _, _, _, .nil, e => by simp at e
  | _, _, 0, _, .cons r _, e => by simp at e; subst e; exact ⟨_, rfl, r⟩
  | _, _, i + 1, x, .cons _ t, e => by
    obtain ⟨u, h1, h2⟩ := Vals.get (i := i) (x := x) t (by simpa using e)
    exact ⟨u, by simpa using h1, h2⟩
theorem Vals.set {x : V} {u : Value} (r : RelV x u) : ∀ {xs : List V} {us : List Value} (i : Nat), Vals xs us → Vals (xs.set i x) (us.set i u)
  | _, _, _, .nil => .nil
  | _, _, 0, .cons _ t => .cons r t
  | _, _, i + 1, .cons q t => .cons q (Vals.set r i t)
theorem Vals.append : ∀ {xs ys : List V} {us ws : List Value}, Vals xs us → Vals ys ws → Vals (xs ++ ys) (us ++ ws)
  | _, _, _, _, .nil, s => s
  | _, _, _, _, .cons r t, s => .cons r (Vals.append t s)
theorem Vals.take : ∀ {xs : List V} {us : List Value} (n : Nat), Vals xs us → Vals (xs.take n) (us.take n)
  | _, _, 0, _ => .nil
  | _, _, _ + 1, .nil => .nil
  | _, _, n + 1, .cons r t => .cons r (Vals.take n t)
theorem Vals.drop : ∀ {xs : List V} {us : List Value} (n : Nat), Vals xs us → Vals (xs.drop n) (us.drop n)
  | _, _, 0, r => r
  | _, _, _ + 1, .nil => .nil
  | _, _, n + 1, .cons _ t => Vals.drop n t
noncomputable def RelO : Option V → Option Value → Prop
  | some v, some u => RelV v u
  | none, none => True
  | _, _ => False
noncomputable def KV {κ : Type} : List (κ × V) → List (κ × Value) → Prop := Paired fun (p : κ × V) (q : κ × Value) => p.1 = q.1 ∧ RelV p.2 q.2
noncomputable def kV : Key → V
  | .inl i => .int i
  | .inr x => .str x
inductive HO where
  /-- a list -/
  | lst (xs : List V)
  /-- a tuple (never changes) -/
  | tup (xs : List V)
  /-- a dict whose keys are ints and texts; one whose keys are tuples of ints and texts (the empty one is both) -/
  | dK (kvs : List (Key × V)) | dT (kvs : List (List Key × V))
  /-- a set of ints: its members, its size -/
  | set (S : Int → Bool) (n : Nat)
  /-- an instance of the class at C, its dict at dx, its attributes -/
  | ins (C dx : Addr) (fs : List (Str × V))
  /-- the dict of the instance at x -/
  | own (x : Addr)
  /-- the dict of an exception -/
  | xd (fs : List (Str × V))
  /-- a bound method, f of x -/
  | met (f x : Addr)
  /-- a range object lo, lo + 1, .. below hi -/
  | rng (lo hi : Int)
  /-- a thing that is known to the object (the script; a dict while a loop walks it): read, never written while it is so -/
  | frz (o : Obj) (u : HO)
  /-- a code object's table -/
  | tbl (ps : Array Value)
  /-- any other thing, by what is true of its one object (a def of one's own: SetO a S n := HO.ext fun h => ..) -/
  | ext (φ : Heap → Prop)
noncomputable abbrev Hp := Addr → Option HO
noncomputable def upd (H : Hp) (a : Addr) (o : HO) : Hp := fun b => if b = a then some o else H b
theorem upd_same {H : Hp} {a : Addr} {o : HO} : upd H a o a = some o := by unfold upd; rw [if_pos rfl]
theorem upd_ne {H : Hp} {a b : Addr} {o : HO} (h : b ≠ a) : upd H a o b = H b := by unfold upd; rw [if_neg h]
theorem ne_of {H : Hp} {a b : Addr} {o u : HO} (h : H a = some o) (h' : H b = some u) (d : o ≠ u) : a ≠ b := by
  intro e; subst e; rw [h] at h'; exact d (Option.some.inj h')
theorem ne_of_none {H : Hp} {a b : Addr} {o : HO} (h : H a = some o) (h' : H b = none) : a ≠ b := by
  intro e; subst e; rw [h] at h'; cases h'
section
variable (P : Program) (w : World)
noncomputable def IsTupN (h : Heap) (a : Addr) (items : Array Value) : Prop := ∃ o, h.get? a = some o ∧ o.cls = .type "tuple" ∧ ∃ n, (o.data, o.dict) = (Data.seq items n, none)
theorem IsTupN.tup {h : Heap} {a : Addr} {items : Array Value} (x : IsTupN h a items) : IsTup h a items := by
  obtain ⟨o, e, c, n, d⟩ := x
  exact ⟨o, e, c, n, (Prod.mk.inj d).1⟩
theorem IsTupN.new (h : Heap) (items : Array Value) : IsTupN (h.push { cls := .type "tuple", data := .seq items }) h.objs.size items := ⟨_, Heap.get?_push_size _ rfl, rfl, _, rfl⟩
noncomputable def ObjOk (H : Hp) (h : Heap) (a : Addr) : HO → Prop
  | .lst xs => xs.length ≤ sizeLine ∧ ∃ (its : List Value) (n : Nat), Vals xs its ∧ h.get? a = some { cls := .type "list", data := .seq its.toArray n }
  | .tup xs => xs.length ≤ sizeLine ∧ ∃ its : List Value, Vals xs its ∧ IsTupN h a its.toArray
  | .dK kvs => kvs.length ≤ sizeLine ∧ (a == sysModules) = false ∧ ∃ vs, KV kvs vs ∧ h.DictOf (mixKind P w) a vs
  | .dT kvs => kvs.length ≤ sizeLine ∧ (a == sysModules) = false ∧ ∃ xs : List (List Key × Addr × Value),
      Paired (fun (p : List Key × V) (q : List Key × Addr × Value) => p.1 = q.1 ∧ H q.2.1 = some (.tup (p.1.map kV)) ∧ RelV p.2 q.2.2) kvs xs ∧
      ∃ o es ep, h.get? a = some o ∧ o.ExactDict ∧ o.data = .dict es ep ∧ es.toList = xs.map (entryOfKey (tupleKind (mixKind P w))) ∧ (xs.map (·.1)).Nodup
  | .set S n => h.SetOf (intKind P w) a S n
  | .ins C dx fs => H dx = some (.own a) ∧ fs.length ≤ 1000 ∧ dx ≠ a ∧ h.get? a = some (PySem.W.instObj C dx) ∧
      ∃ mA, h.Ns1 dx mA ∧ (∀ f, RelO (fs.lookup f) (mA f)) ∧ PySem.Within mA (fs.map (·.1))
  | .own _ => ∃ o, h.get? a = some o
  | .xd fs => ∃ mA, h.Ns1 a mA ∧ ∀ f, RelO (fs.lookup f) (mA f)
  | .rng lo hi => ∃ t u v, h.get? a = some { cls := .type "range", data := .fields #[.int lo t, .int hi u, .int 1 v] }
  | .frz o u => h.get? a = some o ∧ ObjOk H h a u
  | .tbl ps => h.get? a = some { cls := .none, data := .fields ps }
  | .met f x => h.get? a = some (PySem.W.methodObj (.ref f) (.ref x))
  | .ext φ => φ h ∧ (∃ o, h.get? a = some o) ∧ ∀ h1 h2 : Heap, φ h1 → (∀ o, h1.get? a = some o → h2.get? a = some o) → φ h2
noncomputable def HOk (H : Hp) (h : Heap) : Prop := ∀ a o, H a = some o → ObjOk P w H h a o
end
section
variable {P : Program} {w : World} {H H' : Hp} {h h' : Heap} {a : Addr} {o : HO}
theorem ObjOk.lt (x : ObjOk P w H h a o) : a < h.objs.size := by
  cases o with
  | lst xs => obtain ⟨_, _, _, _, e⟩ := x; exact Heap.lt_size e
  | tup xs => obtain ⟨_, _, _, p⟩ := x; exact (IsTupN.tup p).lt
  | dK kvs => obtain ⟨_, _, _, _, o, _, _, e, _⟩ := x; exact Heap.lt_size e
  | dT kvs => obtain ⟨_, _, _, _, o, _, _, e, _⟩ := x; exact Heap.lt_size e
  | set S n => obtain ⟨o, _, _, _, e, _⟩ := x; exact Heap.lt_size e
  | ins C dx fs => obtain ⟨_, _, _, e, _⟩ := x; exact Heap.lt_size e
  | own y => obtain ⟨_, e⟩ := x; exact Heap.lt_size e
  | xd fs => obtain ⟨_, ⟨_, _, _, e, _⟩, _⟩ := x; exact Heap.lt_size e
  | rng lo hi => obtain ⟨_, _, _, e⟩ := x; exact Heap.lt_size e
  | frz ob u => obtain ⟨e, _⟩ := x; exact Heap.lt_size e
  | tbl ps => exact Heap.lt_size (show h.get? a = some _ from x)
  | met f y => exact Heap.lt_size (show h.get? a = some _ from x)
  | ext φ => obtain ⟨_, ⟨_, e⟩, _⟩ := x; exact Heap.lt_size e
theorem Paired.mapP {α β : Type} {F G : α → β → Prop} : ∀ {l₁ : List α} {l₂ : List β}, Paired F l₁ l₂ → (∀ a b, F a b → G a b) → Paired G l₁ l₂
  | _, _, .nil, _ => .nil
  | _, _, .cons r t, f => .cons (f _ _ r) (Paired.mapP t f)
theorem ObjOk.stay (x : ObjOk P w H h a o) (k : ∀ b u, (b = a ∨ H b = some (.own a)) → h.get? b = some u → h'.get? b = some u)
    (ho : ∀ b, H b = some (.own a) → H' b = some (.own a)) (ht : ∀ b xs, H b = some (.tup xs) → H' b = some (.tup xs)) : ObjOk P w H' h' a o := by
  induction o with
  | lst xs => obtain ⟨z, its, n, r, e⟩ := x; exact ⟨z, its, n, r, k _ _ (.inl rfl) e⟩
  | tup xs => obtain ⟨z, its, r, ob, e, c⟩ := x; exact ⟨z, its, r, ob, k _ _ (.inl rfl) e, c⟩
  | dK kvs => obtain ⟨z, y, vs, r, ob, es, ep, e, c⟩ := x; exact ⟨z, y, vs, r, ob, es, ep, k _ _ (.inl rfl) e, c⟩
  | dT kvs =>
    obtain ⟨z, y, xs, r, ob, es, ep, e, c⟩ := x
    exact ⟨z, y, xs, Paired.mapP r fun p q z => ⟨z.1, ht _ _ z.2.1, z.2.2⟩, ob, es, ep, k _ _ (.inl rfl) e, c⟩
  | set S n => obtain ⟨ob, es, ep, t, e, c⟩ := x; exact ⟨ob, es, ep, t, k _ _ (.inl rfl) e, c⟩
  | ins C dx fs =>
    obtain ⟨d, z, ne, e, mA, ⟨od, es, ep, e2, c⟩, r⟩ := x
    exact ⟨ho _ d, z, ne, k _ _ (.inl rfl) e, mA, ⟨od, es, ep, k _ _ (.inr d) e2, c⟩, r⟩
  | own y => obtain ⟨ob, e⟩ := x; exact ⟨ob, k _ _ (.inl rfl) e⟩
  | xd fs => obtain ⟨mA, ⟨od, es, ep, e, c⟩, r⟩ := x; exact ⟨mA, ⟨od, es, ep, k _ _ (.inl rfl) e, c⟩, r⟩
  | rng lo hi => obtain ⟨t, u, v, e⟩ := x; exact ⟨t, u, v, k _ _ (.inl rfl) e⟩
  | frz ob u ih => obtain ⟨e, q⟩ := x; exact ⟨k _ _ (.inl rfl) e, ih q⟩
  | tbl ps =>
    have e : h.get? a = some { cls := .none, data := .fields ps } := x
    show h'.get? a = some { cls := .none, data := .fields ps }
    exact k a _ (.inl rfl) e
  | met f y =>
    have e : h.get? a = some (PySem.W.methodObj (.ref f) (.ref y)) := x
    show h'.get? a = some (PySem.W.methodObj (.ref f) (.ref y))
    exact k a _ (.inl rfl) e
  | ext φ => obtain ⟨p, ⟨o, e⟩, st⟩ := x; exact ⟨st _ _ p fun o q => k _ _ (.inl rfl) q, ⟨o, k _ _ (.inl rfl) e⟩, st⟩
theorem HOk.lt (x : HOk P w H h) (e : H a = some o) : a < h.objs.size := (x a o e).lt
theorem HOk.fresh (x : HOk P w H h) (e : h.objs.size ≤ a) : H a = none := by
  cases q : H a with
  | none => rfl
  | some u => exact absurd (Nat.lt_of_lt_of_le (x.lt q) e) (Nat.lt_irrefl _)
theorem HOk.kept (x : HOk P w H h) (k : ∀ b u, h.get? b = some u → h'.get? b = some u) : HOk P w H h' := fun a o e =>
  (x a o e).stay (fun b u _ q => k b u q) (fun _ q => q) fun _ _ q => q
theorem HOk.laid (x : HOk P w H h) (k : ∀ b u, h.get? b = some u → h'.get? b = some u) (hp : h.objs.size ≤ a) (new : ObjOk P w (upd H a o) h' a o) : HOk P w (upd H a o) h' := fun b u e => by
  have hn := x.fresh hp
  by_cases hb : b = a
  · subst hb; rw [upd_same] at e; cases e; exact new
  · rw [upd_ne hb] at e
    exact (x b u e).stay (fun c v _ q => k c v q) (fun c q => by rw [upd_ne (ne_of_none q hn)]; exact q) fun c xs q => by rw [upd_ne (ne_of_none q hn)]; exact q
end
noncomputable def Rd (H : Hp) (a : Addr) (u : HO) : Prop := H a = some u ∨ ∃ o, H a = some (.frz o u)
theorem Rd.of {H : Hp} {a : Addr} {u : HO} (h : H a = some u) : Rd H a u := .inl h
theorem Rd.ok {P : Program} {w : World} {H : Hp} {h : Heap} {a : Addr} {u : HO} (r : Rd H a u) (x : HOk P w H h) : ObjOk P w H h a u := by
  rcases r with r | ⟨o, r⟩
  · exact x a u r
  · obtain ⟨_, q⟩ := x a _ r
    exact q
noncomputable def Mut : Option HO → Prop
  | some (.lst _) => True
  | some (.dK _) => True
  | some (.dT _) => True
  | some (.set _ _) => True
  | some (.ins _ _ _) => True
  | some (.ext _) => True
  | _ => False
section
variable {P : Program} {w : World} {H : Hp} {h h' : Heap} {x e : Addr} {o' : HO}
theorem HOk.write (ok : HOk P w H h) (mu : Mut (H x)) (he : e = x ∨ H e = some (.own x)) (k : ∀ b u, b ≠ e → h.get? b = some u → h'.get? b = some u) (heo : ∃ u, h'.get? e = some u)
    (new : ObjOk P w (upd H x o') h' x o') : HOk P w (upd H x o') h' := fun b u q => by
  have nown : ∀ c y, H c = some (.own y) → c ≠ x := fun c y r z => by subst z; rw [r] at mu; exact mu
  have ntup : ∀ c xs, H c = some (.tup xs) → c ≠ x := fun c xs r z => by subst z; rw [r] at mu; exact mu
  by_cases hb : b = x
  · subst hb; rw [upd_same] at q; cases q; exact new
  · rw [upd_ne hb] at q
    by_cases hbe : b = e
    · have q' : H b = some (.own x) := by
        rcases he with z | z
        · exact absurd (hbe.trans z) hb
        · rw [hbe]; exact z
      rw [q] at q'; cases q'
      obtain ⟨v, hv⟩ := heo
      exact ⟨v, by rw [hbe]; exact hv⟩
    · refine (ok b u q).stay (fun c v hc r => k c v ?_ r) (fun c r => by rw [upd_ne (nown c b r)]; exact r) fun c xs r => by rw [upd_ne (ntup c xs r)]; exact r
      rcases hc with rfl | hc
      · exact hbe
      · rintro rfl
        rcases he with z | z
        · exact nown c b hc z
        · rw [hc] at z; cases z; exact hb rfl
end
structure Un (fs ex : List Addr) (H H' : Hp) (h h' : Heap) : Prop where
  keep : ∀ b o, h.get? b = some o → H b = none → b ∉ fs → b ∉ ex → h'.get? b = some o
  slot : ∀ b o, h.get? b = some o → H b = none → b ∈ fs → b ∉ ex → ∃ sl, h'.get? b = some { o with slots := sl }
  free : ∀ b o, h.get? b = some o → H b = none → b ∉ ex → H' b = none
  there : ∀ b o, h.get? b = some o → b ∉ ex → ∃ o', h'.get? b = some o'
  tups : ∀ b xs, H b = some (.tup xs) → H' b = some (.tup xs)
  frzs : ∀ b o u, H b = some (.frz o u) → H' b = some (.frz o u)
  tbls : ∀ b ps, H b = some (.tbl ps) → ∃ more, H' b = some (.tbl (ps ++ more))
section
variable {fs fs' ex ex' : List Addr} {H H1 H2 : Hp} {h h1 h2 h' : Heap} {a x e : Addr} {o : HO}
theorem Un.any (u : Un fs ex H H1 h h1) {b : Addr} {ob : Obj} (q : h.get? b = some ob) (n : H b = none) (hx : b ∉ ex) : ∃ sl, h1.get? b = some { ob with slots := sl } := by
  by_cases hb : b ∈ fs
  · exact u.slot b ob q n hb hx
  · exact ⟨ob.slots, u.keep b ob q n hb hx⟩
theorem Un.trans (a : Un fs ex H H1 h h1) (b : Un fs ex H1 H2 h1 h2) : Un fs ex H H2 h h2 where
  keep := fun c ob q n hc hx => b.keep c ob (a.keep c ob q n hc hx) (a.free c ob q n hx) hc hx
  slot := fun c ob q n hc hx => by
    obtain ⟨sl, e1⟩ := a.slot c ob q n hc hx
    obtain ⟨sl', e2⟩ := b.slot c _ e1 (a.free c ob q n hx) hc hx
    exact ⟨sl', e2⟩
  free := fun c ob q n hx => by
    obtain ⟨o', e1⟩ := a.there c ob q hx
    exact b.free c o' e1 (a.free c ob q n hx) hx
  there := fun c ob q hx => by
    obtain ⟨o', e1⟩ := a.there c ob q hx
    exact b.there c o' e1 hx
  tups := fun c xs q => b.tups c xs (a.tups c xs q)
  frzs := fun c ob xs q => b.frzs c ob xs (a.frzs c ob xs q)
  tbls := fun c ps q => by
    obtain ⟨m1, e1⟩ := a.tbls c ps q
    obtain ⟨m2, e2⟩ := b.tbls c _ e1
    exact ⟨m1 ++ m2, by rw [e2, Array.append_assoc]⟩
theorem Un.kept (k : ∀ b u, h.get? b = some u → h'.get? b = some u) : Un fs ex H H h h' :=
  ⟨fun b ob q _ _ _ => k b ob q, fun b ob q _ _ _ => ⟨ob.slots, k b ob q⟩, fun _ _ _ n _ => n, fun b ob q _ => ⟨ob, k b ob q⟩, fun _ _ q => q, fun _ _ _ q => q, fun _ ps q => ⟨#[], by rw [q]; simp⟩⟩
theorem Un.refl : Un fs ex H H h h := Un.kept fun _ _ q => q
theorem Un.laid (k : ∀ b u, h.get? b = some u → h'.get? b = some u) (hp : h.objs.size ≤ a) (hn : H a = none) : Un fs ex H (upd H a o) h h' where
  keep := fun b u q _ _ _ => k b u q
  slot := fun b u q _ _ _ => ⟨u.slots, k b u q⟩
  free := fun b u q n _ => by rw [upd_ne (Nat.ne_of_lt (Nat.lt_of_lt_of_le (Heap.lt_size q) hp))]; exact n
  there := fun b u q _ => ⟨u, k b u q⟩
  tups := fun b xs q => by rw [upd_ne (ne_of_none q hn)]; exact q
  frzs := fun b u xs q => by rw [upd_ne (ne_of_none q hn)]; exact q
  tbls := fun b ps q => ⟨#[], by rw [upd_ne (ne_of_none q hn), q]; simp⟩
theorem Un.write (mu : Mut (H x)) (he : e = x ∨ H e = some (.own x)) (k : ∀ b u, b ≠ e → h.get? b = some u → h'.get? b = some u) (heo : ∃ u, h'.get? e = some u) : Un fs ex H (upd H x o) h h' := by
  have hx : ∀ b, H b = none → b ≠ x := fun b n z => by subst z; rw [n] at mu; exact mu
  have hb : ∀ b, H b = none → b ≠ e := fun b n z => by
    subst z
    rcases he with r | r
    · exact hx b n r
    · rw [n] at r; cases r
  have hm : ∀ b u, H b = some u → ¬ Mut (some u) → b ≠ x := fun b u q nm z => by subst z; rw [q] at mu; exact nm mu
  refine ⟨fun b u q n _ _ => k b u (hb b n) q, fun b u q n _ _ => ⟨u.slots, k b u (hb b n) q⟩, fun b u q n _ => by rw [upd_ne (hx b n)]; exact n, fun b u q _ => ?_,
    fun b xs q => by rw [upd_ne (hm b _ q fun z => z)]; exact q, fun b u xs q => by rw [upd_ne (hm b _ q fun z => z)]; exact q, fun b ps q => ⟨#[], by rw [upd_ne (hm b _ q fun z => z), q]; simp⟩⟩
  by_cases hbe : b = e
  · subst hbe; exact heo
  · exact ⟨u, k b u hbe q⟩
theorem Un.mono (u : Un fs ex H H1 h h1) (hs : ∀ b ∈ fs, b ∈ fs') (hx : ∀ b ∈ ex, b ∈ ex') : Un fs' ex' H H1 h h1 :=
  ⟨fun b ob q n hb he => u.keep b ob q n (fun z => hb (hs b z)) fun z => he (hx b z), fun _ _ q n _ he => u.any q n fun z => he (hx _ z), fun b ob q n he => u.free b ob q n fun z => he (hx b z), fun b ob q he => u.there b ob q fun z => he (hx b z), u.tups, u.frzs, u.tbls⟩
end
noncomputable def trk (h : Heap) (H : Hp) : List Addr := (List.range h.objs.size).filter fun a => (H a).isSome
noncomputable def hidT (h : Heap) (H : Hp) : Heap := PySem.W.hideAll h (trk h H)
theorem hidT_size (h : Heap) (H : Hp) : (hidT h H).objs.size = h.objs.size := PySem.W.hideAll_size _ _
theorem hidT_get {h : Heap} {H : Hp} {b : Addr} {o : Obj} (e : h.get? b = some o) (n : H b = none) : (hidT h H).get? b = some o :=
  PySem.W.hideAll_get _ e fun hm => by
    have q : (H b).isSome = true := (List.mem_filter.mp hm).2
    rw [n] at q; simp at q
theorem of_hidT {h : Heap} {H : Hp} {b : Addr} {o : Obj} (e : (hidT h H).get? b = some o) : h.get? b = some o ∧ H b = none := by
  have e' : h.get? b = some o := PySem.W.of_hideAll (trk h H) e
  refine ⟨e', ?_⟩
  cases q : H b with
  | none => rfl
  | some x =>
    have hm : b ∈ trk h H := List.mem_filter.mpr ⟨List.mem_range.mpr (Heap.lt_size e'), by simp [q]⟩
    have z : (hidT h H).get? b = none := PySem.W.hideAll_none (trk h H) hm
    rw [z] at e; cases e
noncomputable def allNews (g h : Heap) (L : Addr) : List (Addr × Obj) := (List.range h.objs.size).filterMap fun a => if a = L ∨ (g.get? a).isSome = true then none else (h.get? a).map fun o => (a, o)
noncomputable def rest (g h : Heap) (L d : Addr) : List (Addr × Obj) := (allNews g h L).filter fun p => decide (p.1 ≠ d)
end L2
namespace L2
open PySem PySem.Spec PyProof.Rows
structure Mod (K : PySem.W.Frag) (mg : Str → Option Value) (base : Heap) : Prop where
  kin : K.In base
  glob : base.Ns mainGlobals mg
  blt : ∃ mb, base.Ns builtinsNs mb ∧ ∀ x : Str, x ≠ "__name__" → mb x = bootBuiltins x
  nolimit : base.NoLimit
structure Cx where
  prog : Program
  w : World
  K : PySem.W.Frag
  mg : Str → Option Value
  base : Heap
  A : Around
  N : List Str
  s₀ : Shared
  H₀ : Hp
  env : Env
  outer : List Env
  stack : List Env
  ex : List Addr
  fn : Str → Bool
  calm : Bool
  pn : List (Addr × Obj)
  xe : Value → Shared → Prop
noncomputable def frs (l : List Env) : List Addr := l.filterMap (·.frame)
noncomputable abbrev Cx.fs (X : Cx) : List Addr := frs X.outer
noncomputable def Vis (sc : Scope) (x : Str) : Prop := sc.names.lookup x = some .local ∨ sc.names.lookup x = some .cell ∨ sc.names.lookup x = some .free
noncomputable def Loc (sc : Scope) (x : Str) : Prop := sc.names.lookup x = some .local ∨ sc.names.lookup x = some .cell
noncomputable def Look (env : Env) (h : Heap) (m : Str → Option Value) (x : Str) (u : Value) : Prop :=
  (env.kindOf x = some .local ∧ m x = some u) ∨ ((env.kindOf x = some .cell ∨ env.kindOf x = some .free) ∧ ∃ c, env.cells.lookup x = some c ∧ h.IsCell c (some u))
structure Cx.Ok (X : Cx) : Prop where
  mod : Mod X.K X.mg X.base
  kind : X.env.scope.kind = .function
  glob : X.env.globals = mainGlobals
  blt : X.env.builtins = builtinsNs
  above : X.s₀.heap.objs.size ≤ X.env.locals
  inj : ∀ x y c, X.env.cells.lookup x = some c → X.env.cells.lookup y = some c → x = y
  has : ∀ x, (X.env.kindOf x = some .cell ∨ X.env.kindOf x = some .free) → ∃ c, X.env.cells.lookup x = some c
  cab : ∀ x c, X.fn x = true → X.env.cells.lookup x = some c → X.s₀.heap.objs.size ≤ c
  hd : X.calm = true → X.A.handled = none
  frames : X.A.frames = some X.stack
  stk : X.stack = X.outer ∨ (X.stack = X.env :: X.outer ∧ X.env.frame = some X.env.locals)
  exf : ∀ b ∈ X.ex, b ≠ X.env.locals ∧ ∀ x c, X.env.cells.lookup x = some c → c ≠ b
  bs : ∀ b o, X.base.get? b = some o → X.s₀.heap.get? b = some o ∧ X.H₀ b = none
  bsz : X.base.objs.size ≤ X.s₀.heap.objs.size
  noex : ∀ b o, X.base.get? b = some o → b ∉ X.ex
  exfs : ∀ b ∈ X.ex, b ∉ X.fs
  funs : X.s₀.heap.FunFrames X.base X.outer
  frf : ∀ b ∈ X.fs, X.H₀ b = none
structure Inv (X : Cx) (pins : List (Addr × Obj)) (σ : List (Option V)) (H : Hp) (s : Shared) : Prop where
  ok : X.Ok
  os : s.os = X.s₀.os
  bare : AllBare s.gens
  base : Un X.fs X.ex X.H₀ H X.s₀.heap s.heap
  loc : ∃ m, s.heap.Ns X.env.locals m ∧ ∀ (i : Nat) (x : Str) (v : V), X.N[i]? = some x → σ[i]? = some (some v) → Vis X.env.scope x → ∃ u, RelV v u ∧ Look X.env s.heap m x u
  cell : ∀ x c, X.env.cells.lookup x = some c → ∃ v, s.heap.IsCell c v
  free : H X.env.locals = none
  freeC : ∀ x c, X.env.cells.lookup x = some c → H c = none
  pin : ∀ p ∈ X.pn ++ pins, s.heap.get? p.1 = some p.2 ∧ H p.1 = none ∧ p.1 ≠ X.env.locals ∧ p.1 ∉ X.fs ∧ ∀ v, p.2.data ≠ .cell v
  hok : HOk X.prog X.w H s.heap
  len : σ.length = X.N.length
section
variable {X : Cx} {pins : List (Addr × Obj)} {σ : List (Option V)} {H H' : Hp} {s : Shared} {h' : Heap}
theorem Cx.Ok.nofr (ok : X.Ok) {b : Addr} {o : Obj} (e : X.base.get? b = some o) : b ∉ X.fs := fun hb => by
  have := (ok.funs.mem hb).1
  rw [e] at this; cases this
theorem Inv.bs (I : Inv X pins σ H s) : ∀ b o, X.base.get? b = some o → s.heap.get? b = some o ∧ H b = none := fun b o e =>
  ⟨I.base.keep b o (I.ok.bs b o e).1 (I.ok.bs b o e).2 (I.ok.nofr e) (I.ok.noex b o e), I.base.free b o (I.ok.bs b o e).1 (I.ok.bs b o e).2 (I.ok.noex b o e)⟩
theorem Inv.bk (I : Inv X pins σ H s) : ∀ b o, X.base.get? b = some o → s.heap.get? b = some o := fun b o e => (I.bs b o e).1
theorem Inv.mod (I : Inv X pins σ H s) : Mod X.K X.mg X.base := I.ok.mod
theorem Inv.kIn (I : Inv X pins σ H s) : X.K.In s.heap := I.ok.mod.kin.keeps I.bk
theorem Inv.nolimit (I : Inv X pins σ H s) : s.heap.NoLimit := I.ok.mod.nolimit.keeps I.bk
theorem Inv.lt (I : Inv X pins σ H s) : X.env.locals < s.heap.objs.size := let ⟨_, hn, _⟩ := I.loc; hn.lt
theorem Inv.sz (I : Inv X pins σ H s) : X.s₀.heap.objs.size ≤ s.heap.objs.size := Nat.le_trans I.ok.above (Nat.le_of_lt I.lt)
theorem Inv.nofs (I : Inv X pins σ H s) {a : Addr} (h : s.heap.objs.size ≤ a) : a ∉ X.fs := fun hb => by
  obtain ⟨_, o, ho, _⟩ := I.ok.funs.mem hb
  exact absurd (Nat.lt_of_lt_of_le (Heap.lt_size ho) (Nat.le_trans I.sz h)) (Nat.lt_irrefl _)
theorem Inv.cne (I : Inv X pins σ H s) : ∀ x c, X.env.cells.lookup x = some c → c ≠ X.env.locals := fun x c e z => by
  obtain ⟨v, o, ho, hd⟩ := I.cell x c e
  obtain ⟨m, ⟨o', es, ep, ho', hd', _⟩, _⟩ := I.loc
  rw [z, ho'] at ho; cases ho; rw [hd'] at hd; cases hd
theorem Inv.funs (I : Inv X pins σ H s) : s.heap.FunFrames X.base X.outer := by
  have all : ∀ (l : List Env), (∀ b ∈ frs l, b ∈ X.fs) → X.s₀.heap.FunFrames X.base l → s.heap.FunFrames X.base l := by
    intro l
    induction l with
    | nil => intro _ _; trivial
    | cons env r ih =>
      intro hs hl
      obtain ⟨hk, ⟨L, o, hf, hn, ho, hd⟩, hr⟩ := hl
      have hL : L ∈ X.fs := hs L (by unfold frs; rw [List.filterMap_cons, hf]; exact List.mem_cons_self)
      obtain ⟨sl, e⟩ := I.base.slot L o ho (I.ok.frf L hL) hL fun z => I.ok.exfs L z hL
      exact ⟨hk, ⟨L, _, hf, hn, e, hd⟩, ih (fun b hb => hs b (by unfold frs; rw [List.filterMap_cons, hf]; exact List.mem_cons_of_mem _ hb)) hr⟩
  exact all X.outer (fun _ hb => hb) I.ok.funs
theorem Inv.stack (I : Inv X pins σ H s) : s.heap.FunFrames X.base X.stack := by
  rcases I.ok.stk with e | ⟨e, hf⟩
  · rw [e]; exact I.funs
  · rw [e]
    obtain ⟨m, hn, _⟩ := I.loc
    refine .cons (by rw [I.ok.kind]; decide) hf hn ?_ I.funs
    exact Heap.get?_none_of_le (Nat.le_trans I.ok.bsz I.ok.above)
theorem Inv.stkSub (I : Inv X pins σ H s) : ∀ b ∈ frs X.stack, b ∈ X.env.locals :: X.fs := fun b hb => by
  rcases I.ok.stk with e | ⟨e, hf⟩
  · rw [e] at hb; exact List.mem_cons_of_mem _ hb
  · rw [e] at hb
    unfold frs at hb
    rw [List.filterMap_cons, hf] at hb
    exact hb
theorem Inv.stkFree (I : Inv X pins σ H s) : ∀ b ∈ frs X.stack, H b = none := fun b hb => by
  rcases List.mem_cons.mp (I.stkSub b hb) with e | hb
  · rw [e]; exact I.free
  · obtain ⟨_, o, ho, _⟩ := I.ok.funs.mem hb
    exact I.base.free b o ho (I.ok.frf b hb) fun z => I.ok.exfs b z hb
theorem Inv.step {g' : Array GenState} {t' : Nat} {d' : Drawn} {ch : List Addr} (I : Inv X pins σ H s)
    (hch : ∀ b ∈ ch, (b ∈ X.ex ∨ X.s₀.heap.objs.size ≤ b) ∧ b ≠ X.env.locals ∧ (∀ x c, X.env.cells.lookup x = some c → c ≠ b) ∧ ∀ p ∈ X.pn ++ pins, p.1 ≠ b)
    (keep : ∀ b o, b ≠ X.env.locals → b ∉ X.fs → b ∉ ch → s.heap.get? b = some o → H b = none → h'.get? b = some o)
    (slot : ∀ b o, b ≠ X.env.locals → b ∈ X.fs → b ∉ ch → s.heap.get? b = some o → H b = none → ∃ sl, h'.get? b = some { o with slots := sl }) (free : ∀ b o, b ∉ ch → s.heap.get? b = some o → H b = none → H' b = none)
    (there : ∀ b o, b ∉ ch → s.heap.get? b = some o → ∃ o', h'.get? b = some o')
    (tups : ∀ b xs, H b = some (.tup xs) → H' b = some (.tup xs)) (frzs : ∀ b o u, H b = some (.frz o u) → H' b = some (.frz o u)) (tbls : ∀ b ps, H b = some (.tbl ps) → ∃ more, H' b = some (.tbl (ps ++ more)))
    (ns : ∀ m, s.heap.Ns X.env.locals m → h'.Ns X.env.locals m) (hok : HOk X.prog X.w H' h') (hg : AllBare g') :
    Inv X pins σ H' { s with heap := h', gens := g', drawn := d', toks := t' } := by
  have neL : ∀ b o, X.s₀.heap.get? b = some o → b ≠ X.env.locals := fun b o e => Nat.ne_of_lt (Nat.lt_of_lt_of_le (Heap.lt_size e) I.ok.above)
  have neC : ∀ b o, X.s₀.heap.get? b = some o → b ∉ X.ex → b ∉ ch := fun b o e hx hb => by
    rcases (hch b hb).1 with z | z
    · exact hx z
    · exact absurd (Nat.lt_of_lt_of_le (Heap.lt_size e) z) (Nat.lt_irrefl _)
  have cellK : ∀ x c, X.env.cells.lookup x = some c → ∀ v, s.heap.IsCell c v → h'.IsCell c v := fun x c e v ⟨o, ho, hd⟩ => by
    have nch : c ∉ ch := fun z => (hch c z).2.2.1 x c e rfl
    by_cases hc : c ∈ X.fs
    · obtain ⟨sl, q⟩ := slot c o (I.cne x c e) hc nch ho (I.freeC x c e)
      exact ⟨_, q, hd⟩
    · exact ⟨o, keep c o (I.cne x c e) hc nch ho (I.freeC x c e), hd⟩
  refine ⟨I.ok, I.os, hg, ⟨fun b o e n hb hx => ?_, fun b o e n hb hx => ?_, fun b o e n hx => ?_, fun b o e hx => ?_, fun b xs e => tups b xs (I.base.tups b xs e), fun b o xs e => frzs b o xs (I.base.frzs b o xs e), fun b ps e => ?_⟩, ?_, fun x c e => ?_, ?_, fun x c e => ?_, fun p hp => ?_, hok, I.len⟩
  · exact keep b o (neL b o e) hb (neC b o e hx) (I.base.keep b o e n hb hx) (I.base.free b o e n hx)
  · obtain ⟨sl, e1⟩ := I.base.slot b o e n hb hx
    obtain ⟨sl', e2⟩ := slot b _ (neL b o e) hb (neC b o e hx) e1 (I.base.free b o e n hx)
    exact ⟨sl', e2⟩
  · obtain ⟨o', e1⟩ := I.base.there b o e hx
    exact free b o' (neC b o e hx) e1 (I.base.free b o e n hx)
  · obtain ⟨o', e1⟩ := I.base.there b o e hx
    exact there b o' (neC b o e hx) e1
  · obtain ⟨m1, e1⟩ := I.base.tbls b ps e
    obtain ⟨m2, e2⟩ := tbls b _ e1
    exact ⟨m1 ++ m2, by rw [e2, Array.append_assoc]⟩
  · obtain ⟨m, hn, hl⟩ := I.loc
    refine ⟨m, ns m hn, fun i x v e1 e2 e3 => ?_⟩
    obtain ⟨u, r, l⟩ := hl i x v e1 e2 e3
    refine ⟨u, r, ?_⟩
    rcases l with l | ⟨k, c, e, z⟩
    · exact .inl l
    · exact .inr ⟨k, c, e, cellK x c e _ z⟩
  · obtain ⟨v, z⟩ := I.cell x c e
    exact ⟨v, cellK x c e v z⟩
  · obtain ⟨m, ⟨o, _, _, ho, _⟩, _⟩ := I.loc
    exact free _ o (fun z => (hch _ z).2.1 rfl) ho I.free
  · obtain ⟨v, o, ho, hd⟩ := I.cell x c e
    exact free c o (fun z => (hch c z).2.2.1 x c e rfl) ho (I.freeC x c e)
  · obtain ⟨e, n, ne, nf, d⟩ := I.pin p hp
    have nch : p.1 ∉ ch := fun z => (hch p.1 z).2.2.2 p hp rfl
    exact ⟨keep p.1 p.2 ne nf nch e n, free p.1 p.2 nch e n, ne, nf, d⟩
theorem Inv.un {t' : Nat} (I : Inv X pins σ H s) (u : Un X.fs [] H H' s.heap h') (hok : HOk X.prog X.w H' h') : Inv X pins σ H' { s with heap := h', toks := t' } := by
  obtain ⟨m, ⟨o, es, ep, ho, r⟩, _⟩ := id I.loc
  obtain ⟨sl, hL⟩ := u.any ho I.free (by simp)
  exact I.step (g' := s.gens) (d' := s.drawn) (ch := []) (fun _ z => nomatch z) (fun b o _ hb _ e n => u.keep b o e n hb (by simp)) (fun b o _ hb _ e n => u.slot b o e n hb (by simp)) (fun b o _ e n => u.free b o e n (by simp)) (fun b o _ e => u.there b o e (by simp)) u.tups u.frzs u.tbls (fun m' hm => by
    obtain ⟨o', es', ep', ho', r'⟩ := hm
    rw [ho] at ho'; cases ho'
    exact ⟨_, es', ep', hL, r'⟩) hok I.bare
theorem Inv.call {g' : Array GenState} {t' : Nat} {d' : Drawn} {ch : List Addr} (I : Inv X pins σ H s) (u : Un (frs X.stack) ch H H' s.heap h') (hok : HOk X.prog X.w H' h') (hg : AllBare g')
    (hch : ∀ b ∈ ch, (b ∈ X.ex ∨ X.s₀.heap.objs.size ≤ b) ∧ b ≠ X.env.locals ∧ (∀ x c, X.env.cells.lookup x = some c → c ≠ b) ∧ ∀ p ∈ X.pn ++ pins, p.1 ≠ b) :
    Inv X pins σ H' { s with heap := h', gens := g', drawn := d', toks := t' } := by
  obtain ⟨m, ⟨o, es, ep, ho, r⟩, _⟩ := id I.loc
  obtain ⟨sl, hL⟩ := u.any ho I.free fun z => (hch _ z).2.1 rfl
  exact I.step (ch := ch) hch (fun b o hL hb hc e n => u.keep b o e n (fun z => (List.mem_cons.mp (I.stkSub b z)).elim hL hb) hc) (fun b o _ _ hc e n => u.any e n hc) (fun b o hc e n => u.free b o e n hc) (fun b o hc e => u.there b o e hc) u.tups u.frzs u.tbls (fun m' hm => by
    obtain ⟨o', es', ep', ho', r'⟩ := hm
    rw [ho] at ho'; cases ho'
    exact ⟨_, es', ep', hL, r'⟩) hok hg
theorem Inv.turned {t' : Nat} {it : Addr} (I : Inv X pins σ H s) (k : ∀ b o, b ≠ it → s.heap.get? b = some o → h'.get? b = some o) (hn : H it = none) (hL : it ≠ X.env.locals)
    (h1 : it ∈ X.ex ∨ X.s₀.heap.objs.size ≤ it) (h2 : ∀ x c, X.env.cells.lookup x = some c → c ≠ it) (h3 : ∀ p ∈ X.pn ++ pins, p.1 ≠ it) : Inv X pins σ H { s with heap := h', toks := t' } := by
  have nit : ∀ b u, H b = some u → b ≠ it := fun b u e z => by rw [z, hn] at e; cases e
  refine I.step (g' := s.gens) (d' := s.drawn) (ch := [it]) (fun b hb => ?_) (fun b o _ _ hc e _ => k b o (fun z => hc (by simp [z])) e) (fun b o _ _ hc e _ => ⟨o.slots, k b o (fun z => hc (by simp [z])) e⟩) (fun _ _ _ _ n => n)
    (fun b o hc e => ⟨o, k b o (fun z => hc (by simp [z])) e⟩) (fun _ _ e => e) (fun _ _ _ e => e) (fun b ps e => ⟨#[], by rw [e]; simp⟩) (fun m hm => ?_) (fun b u e => ?_) I.bare
  · have e : b = it := by simpa using hb
    subst e
    exact ⟨h1, hL, h2, h3⟩
  · obtain ⟨o, es, ep, ho, r⟩ := hm
    exact ⟨o, es, ep, k _ o (Ne.symm hL) ho, r⟩
  · refine (I.hok b u e).stay (fun c v hc q => k c v ?_ q) (fun _ q => q) fun _ _ q => q
    rcases hc with z | z
    · rw [z]; exact nit b u e
    · exact nit c _ z
theorem Inv.tok (I : Inv X pins σ H s) (t : Nat) : Inv X pins σ H { s with toks := t } := I.un (h' := s.heap) (t' := t) Un.refl I.hok
theorem Inv.kept {t' : Nat} (I : Inv X pins σ H s) (k : ∀ b u, s.heap.get? b = some u → h'.get? b = some u) : Inv X pins σ H { s with heap := h', toks := t' } := I.un (Un.kept k) (I.hok.kept k)
theorem Inv.laid {a : Addr} {o : HO} {t' : Nat} (I : Inv X pins σ H s) (k : ∀ b u, s.heap.get? b = some u → h'.get? b = some u) (hp : s.heap.objs.size ≤ a) (new : ObjOk X.prog X.w (upd H a o) h' a o) :
    Inv X pins σ (upd H a o) { s with heap := h', toks := t' } := I.un (Un.laid k hp (I.hok.fresh hp)) (I.hok.laid k hp new)
theorem Inv.write {x e : Addr} {o : HO} {t' : Nat} (I : Inv X pins σ H s) (mu : Mut (H x)) (he : e = x ∨ H e = some (.own x)) (k : ∀ b u, b ≠ e → s.heap.get? b = some u → h'.get? b = some u) (heo : ∃ u, h'.get? e = some u)
    (new : ObjOk X.prog X.w (upd H x o) h' x o) : Inv X pins σ (upd H x o) { s with heap := h', toks := t' } := I.un (Un.write mu he k heo) (I.hok.write mu he k heo new)
theorem Inv.pins_of {pins' : List (Addr × Obj)} (I : Inv X pins σ H s) (h : ∀ p ∈ pins', s.heap.get? p.1 = some p.2 ∧ H p.1 = none ∧ p.1 ≠ X.env.locals ∧ p.1 ∉ X.fs ∧ ∀ v, p.2.data ≠ .cell v) : Inv X pins' σ H s :=
  ⟨I.ok, I.os, I.bare, I.base, I.loc, I.cell, I.free, I.freeC, fun p hp => (List.mem_append.mp hp).elim (fun z => I.pin p (List.mem_append_left _ z)) (h p), I.hok, I.len⟩
theorem nodup_ix {N : List Str} (hN : N.Nodup) {i j : Nat} {x : Str} (a : N[i]? = some x) (b : N[j]? = some x) : i = j := by
  obtain ⟨h1, e1⟩ := List.getElem?_eq_some_iff.mp a
  obtain ⟨h2, e2⟩ := List.getElem?_eq_some_iff.mp b
  exact (List.getElem_inj hN).mp (e1.trans e2.symm)
theorem store_ok2 {M : Model} {A : Around} {E : Value → Shared → Prop} {i : Nat} {x : Str} {v : V} {u : Value} {Q : Unit → Shared → Prop} (I : Inv X pins σ H s) (hN : X.N.Nodup) (hi : X.N[i]? = some x) (hx : Loc X.env.scope x) (r : RelV v u)
    (h : ∀ s', Inv X pins (σ.set i (some v)) H s' → (∃ a, Heap.SameBut a s.heap s'.heap ∧ (a = X.env.locals ∨ X.env.cells.lookup x = some a)) → Q () s') (hf : X.fn x = true ∨ X.env.scope.names.lookup x = some .local := by first | exact .inl rfl | exact .inr rfl | assumption) : wpAny M A (storeName X.env x u) Q E s := by
  obtain ⟨m, hn, hl⟩ := id I.loc
  have hcls : (X.env.scope.kind == .class || (X.env.scope.kind == .module && X.env.locals != X.env.globals)) = false := by rw [I.ok.kind]; rfl
  have hiσ : i < σ.length := by rw [I.len]; exact (List.getElem?_eq_some_iff.mp hi).1
  have cne := I.cne
  have tracked : ∀ {a : Addr} {h' : Heap}, (∃ o, s.heap.get? a = some o ∧ H a = none) → Heap.SameBut a s.heap h' → HOk X.prog X.w H h' := fun {a h'} ha hs b ob e => by
    obtain ⟨_, _, hfree⟩ := ha
    refine (I.hok b ob e).stay (fun c w' hc q => (hs.2 c ?_).trans q) (fun _ q => q) fun _ _ q => q
    rintro rfl
    rcases hc with rfl | hc
    · rw [hfree] at e; cases e
    · rw [hfree] at hc; cases hc
  rcases hx with hk | hk
  · refine wpAny_storeName_local hk hn (fun h' hn' hs => ?_) hcls
    obtain ⟨oL, _, _, hoL, _⟩ := id hn
    refine h _ ⟨I.ok, I.os, I.bare, ⟨fun b o e n hb hx => ?_, fun b o e n hb hx => ?_, I.base.free, fun b o e hx => ?_, I.base.tups, I.base.frzs, I.base.tbls⟩, ⟨_, hn', fun j y v' e1 e2 e3 => ?_⟩, fun y c e => ?_, I.free, I.freeC, fun p hp => ?_, tracked ⟨oL, hoL, I.free⟩ hs, by simpa using I.len⟩ ⟨_, hs, .inl rfl⟩
    · exact (hs.2 b (Nat.ne_of_lt (Nat.lt_of_lt_of_le (Heap.lt_size e) I.ok.above))).trans (I.base.keep b o e n hb hx)
    · obtain ⟨sl, e1⟩ := I.base.slot b o e n hb hx
      exact ⟨sl, (hs.2 b (Nat.ne_of_lt (Nat.lt_of_lt_of_le (Heap.lt_size e) I.ok.above))).trans e1⟩
    · obtain ⟨o', e1⟩ := I.base.there b o e hx
      exact ⟨o', (hs.2 b (Nat.ne_of_lt (Nat.lt_of_lt_of_le (Heap.lt_size e) I.ok.above))).trans e1⟩
    · by_cases hj : j = i
      · subst hj
        rw [hi] at e1; cases e1
        rw [List.getElem?_set_self hiσ] at e2
        cases e2
        exact ⟨u, r, .inl ⟨hk, by simp⟩⟩
      · rw [List.getElem?_set_ne (Ne.symm hj)] at e2
        obtain ⟨u', r', q⟩ := hl j y v' e1 e2 e3
        refine ⟨u', r', ?_⟩
        rcases q with ⟨k, e⟩ | ⟨k, c, e, z⟩
        · refine .inl ⟨k, ?_⟩
          have : y ≠ x := fun e => hj (nodup_ix hN e1 (e ▸ hi))
          simp [this, e]
        · exact .inr ⟨k, c, e, z.sameBut hs (cne y c e)⟩
    · obtain ⟨w', z⟩ := I.cell y c e
      exact ⟨w', z.sameBut hs (cne y c e)⟩
    · obtain ⟨e, n, ne, nf, d⟩ := I.pin p hp
      exact ⟨(hs.2 p.1 ne).trans e, n, ne, nf, d⟩
  · have hfn : X.fn x = true := by
      rcases hf with z | z
      · exact z
      · rw [z] at hk; cases hk
    obtain ⟨c, hc⟩ := I.ok.has x (.inl hk)
    obtain ⟨w', z⟩ := I.cell x c hc
    refine wpAny_storeName_cell I.ok.kind hk hc z (fun h' hc' hs => ?_)
    obtain ⟨oc, hoc, hocd⟩ := id z
    refine h { s with heap := h' } ⟨I.ok, I.os, I.bare, ⟨fun b o e n hb hx => ?_, fun b o e n hb hx => ?_, I.base.free, fun b o e hx => ?_, I.base.tups, I.base.frzs, I.base.tbls⟩, ⟨m, hn.sameBut hs (Ne.symm (cne x c hc)), fun j y v' e1 e2 e3 => ?_⟩, fun y c' e => ?_, I.free, I.freeC, fun p hp => ?_, tracked ⟨oc, hoc, I.freeC x c hc⟩ hs, by simpa using I.len⟩ ⟨c, hs, .inr hc⟩
    · exact (hs.2 b (Nat.ne_of_lt (Nat.lt_of_lt_of_le (Heap.lt_size e) (I.ok.cab x c hfn hc)))).trans (I.base.keep b o e n hb hx)
    · obtain ⟨sl, e1⟩ := I.base.slot b o e n hb hx
      exact ⟨sl, (hs.2 b (Nat.ne_of_lt (Nat.lt_of_lt_of_le (Heap.lt_size e) (I.ok.cab x c hfn hc)))).trans e1⟩
    · obtain ⟨o', e1⟩ := I.base.there b o e hx
      exact ⟨o', (hs.2 b (Nat.ne_of_lt (Nat.lt_of_lt_of_le (Heap.lt_size e) (I.ok.cab x c hfn hc)))).trans e1⟩
    · by_cases hj : j = i
      · subst hj
        rw [hi] at e1; cases e1
        rw [List.getElem?_set_self hiσ] at e2
        cases e2
        exact ⟨u, r, .inr ⟨.inl hk, c, hc, hc'⟩⟩
      · rw [List.getElem?_set_ne (Ne.symm hj)] at e2
        obtain ⟨u', r', q⟩ := hl j y v' e1 e2 e3
        refine ⟨u', r', ?_⟩
        rcases q with q | ⟨k, c', e, z'⟩
        · exact .inl q
        · refine .inr ⟨k, c', e, z'.sameBut hs ?_⟩
          rintro rfl
          exact hj (nodup_ix hN e1 (I.ok.inj _ _ _ e hc ▸ hi))
    · by_cases hcc : c' = c
      · subst hcc; exact ⟨_, hc'⟩
      · obtain ⟨w2, z2⟩ := I.cell y c' e
        exact ⟨w2, z2.sameBut hs hcc⟩
    · obtain ⟨e, n, ne, nf, d⟩ := I.pin p hp
      refine ⟨(hs.2 p.1 ?_).trans e, n, ne, nf, d⟩
      intro q
      rw [q, hoc] at e
      have q' : oc = p.2 := Option.some.inj e
      exact d w' (by rw [← q']; exact hocd)
theorem store_ok {M : Model} {A : Around} {E : Value → Shared → Prop} {i : Nat} {x : Str} {v : V} {u : Value} {Q : Unit → Shared → Prop} (I : Inv X pins σ H s) (hN : X.N.Nodup) (hi : X.N[i]? = some x) (hx : Loc X.env.scope x) (r : RelV v u)
    (h : ∀ s', Inv X pins (σ.set i (some v)) H s' → Q () s') (hf : X.fn x = true ∨ X.env.scope.names.lookup x = some .local := by first | exact .inl rfl | exact .inr rfl | assumption) : wpAny M A (storeName X.env x u) Q E s :=
  store_ok2 I hN hi hx r (fun s' I' _ => h s' I') hf
end
noncomputable abbrev XK := Value → Option Addr → Hp → Prop
noncomputable abbrev St := List (Option V)
noncomputable abbrev VK := V → Hp → Prop
noncomputable abbrev TE := St → Hp → VK → Prop
noncomputable abbrev TT := St → Hp → (Bool → Hp → Prop) → Prop
noncomputable abbrev TA := St → Hp → (List V → Hp → Prop) → Prop
structure Ends where
  nx : St → Hp → Prop
  rt : VK
  bk : St → Hp → Prop := fun _ _ => False
  ct : St → Hp → Prop := fun _ _ => False
noncomputable abbrev TS := Ends → St → Hp → Prop
noncomputable def EP (X : Cx) (pins : List (Addr × Obj)) (σ : St) (Q : VK) (u : Value) (s' : Shared) : Prop := ∃ v H', Inv X pins σ H' s' ∧ RelV v u ∧ Q v H'
noncomputable def TP (X : Cx) (pins : List (Addr × Obj)) (σ : St) (Q : Bool → Hp → Prop) (b : Bool) (s' : Shared) : Prop := ∃ H', Inv X pins σ H' s' ∧ Q b H'
noncomputable def AP (X : Cx) (pins : List (Addr × Obj)) (σ : St) (Q : List V → Hp → Prop) (us : List Value) (s' : Shared) : Prop := ∃ vs H', Inv X pins σ H' s' ∧ Vals vs us ∧ Q vs H'
noncomputable def SP (X : Cx) (pins : List (Addr × Obj)) (D : Ends) (f : Flow) (s' : Shared) : Prop :=
  match f with
  | .next => ∃ σ' H', Inv X pins σ' H' s' ∧ D.nx σ' H'
  | .brk => ∃ σ' H', Inv X pins σ' H' s' ∧ D.bk σ' H'
  | .cont => ∃ σ' H', Inv X pins σ' H' s' ∧ D.ct σ' H'
  | .ret u => ∃ v σ' H', Inv X pins σ' H' s' ∧ RelV v u ∧ D.rt v H'
noncomputable def PE (X : Cx) (e : Expr) (t : TE) : Prop :=
  ∀ (pins : List (Addr × Obj)) (s : Shared) (σ : St) (H : Hp) (Q : VK), Inv X pins σ H s → t σ H Q → wpAny (model X.prog X.w) X.A (eval e X.env) (EP X pins σ Q) X.xe s
noncomputable def PT (X : Cx) (e : Expr) (t : TT) : Prop :=
  ∀ (pins : List (Addr × Obj)) (s : Shared) (σ : St) (H : Hp) (Q : Bool → Hp → Prop), Inv X pins σ H s → t σ H Q → wpAny (model X.prog X.w) X.A (isTrue e X.env (eval e X.env)) (TP X pins σ Q) X.xe s
noncomputable def PW (X : Cx) (e : Expr) (t : TT) : Prop :=
  ∀ (whole : Sem Value) (pins : List (Addr × Obj)) (s : Shared) (σ : St) (H : Hp) (Q : Bool → Hp → Prop), Inv X pins σ H s → t σ H Q → wpAny (model X.prog X.w) X.A (isTrue e X.env whole) (TP X pins σ Q) X.xe s
noncomputable def PA (X : Cx) (es : List Expr) (t : TA) : Prop :=
  ∀ (pos : Pos) (pins : List (Addr × Obj)) (s : Shared) (σ : St) (H : Hp) (Q : List V → Hp → Prop), Inv X pins σ H s → t σ H Q → wpAny (model X.prog X.w) X.A (spliced (backTo pos (starEach es X.env))) (AP X pins σ Q) X.xe s
noncomputable def PS (X : Cx) (st : Stmt) (t : TS) : Prop :=
  ∀ (pins : List (Addr × Obj)) (s : Shared) (σ : St) (H : Hp) (D : Ends), Inv X pins σ H s → t D σ H → wpAny (model X.prog X.w) X.A (exec st X.env) (SP X pins D) X.xe s
noncomputable def PSs (X : Cx) (st : List Stmt) (t : TS) : Prop :=
  ∀ (pins : List (Addr × Obj)) (s : Shared) (σ : St) (H : Hp) (D : Ends), Inv X pins σ H s → t D σ H → wpAny (model X.prog X.w) X.A (execs st X.env) (SP X pins D) X.xe s
theorem thn {α : Type} {t : Sem α} {Q Q' : α → Shared → Prop} {M : Model} {A : Around} {E : Value → Shared → Prop} {s : Shared} (h : wpAny M A t Q E s) (hQ : ∀ a s, Q a s → Q' a s) : wpAny M A t Q' E s := wpAny_mono h hQ fun _ _ x => x
end L2
namespace L2
open PySem PySem.Spec PyProof.Rows
section
variable {X : Cx}
noncomputable def tVar (i : Nat) : TE := fun σ H Q => ∃ v, σ[i]? = some (some v) ∧ Q v H
noncomputable def tC (v : V) : TE := fun _ H Q => Q v H
theorem pe_var {i : Nat} {x : Str} {pos : Pos} (hN : X.N[i]? = some x) (hv : Vis X.env.scope x) (hd : (x == ("__debug__" : Str)) = false := by decide) (hcd : (x == ("__classdict__" : Str)) = false := by decide) : PE X (.Name x pos) (tVar i) := by
  intro pins s σ H Q I h
  obtain ⟨v, e, h⟩ := h
  obtain ⟨m, hn, hl⟩ := I.loc
  obtain ⟨u, r, l⟩ := hl i x v hN e hv
  have fin : EP X pins σ Q u s := ⟨v, H, I, r, h⟩
  rcases l with ⟨hk, hm⟩ | ⟨hk, c, hc, hcell⟩
  · exact wpAny_Name (wpAny_loadName_local I.ok.kind hk hn hm fin) hd
  · rcases hk with hk | hk
    · exact wpAny_Name (wpAny_loadName_cell I.ok.kind hk hc hcell fin) hd
    · exact wpAny_Name (wpAny_loadName_free I.ok.kind hk hc hcell fin hcd) hd
theorem pe_int {i j pos} : PE X (.Constant (.int i) j pos) (tC (.int i)) := fun _ _ _ H _ I h => wpAny_Constant_int ⟨.int i, H, I.tok _, ⟨_, rfl⟩, h⟩
theorem pe_bl {b j pos} : PE X (.Constant (.bool b) j pos) (tC (.bl b)) := fun _ _ _ H _ I h => Constant_bool ⟨.bl b, H, I, rfl, h⟩
theorem pe_non {j pos} : PE X (.Constant .none j pos) (tC .non) := fun _ _ _ H _ I h => Constant_none ⟨.non, H, I, rfl, h⟩
theorem pe_str {x j pos} : PE X (.Constant (.str x) j pos) (tC (.str x)) := fun _ _ _ H _ I h => Calls.Constant_str ⟨.str x, H, I.tok _, ⟨_, rfl⟩, h⟩
noncomputable def Gl (X : Cx) (x : Str) : Prop := X.env.kindOf x = some .globalImplicit
theorem ld_glob {E : Value → Shared → Prop} {pins : List (Addr × Obj)} {s : Shared} {σ : St} {H : Hp} {x : Str} {u : Value} {pos : Pos} {Q : Value → Shared → Prop} (I : Inv X pins σ H s) (hg : Gl X x) (hm : X.mg x = some u) (h : Q u s)
    (hd : (x == ("__debug__" : Str)) = false := by decide) : wpAny (model X.prog X.w) X.A (eval (.Name x pos) X.env) Q E s :=
  Calls.Name_function_global I.ok.kind hg (Calls.loadGlobal_global (by rw [I.ok.glob]; exact I.mod.glob.keeps I.bk) hm h) hd
theorem ld_blt {E : Value → Shared → Prop} {pins : List (Addr × Obj)} {s : Shared} {σ : St} {H : Hp} {x : Str} {u : Value} {pos : Pos} {Q : Value → Shared → Prop} (I : Inv X pins σ H s) (hg : Gl X x) (hm : X.mg x = none) (hv : bootBuiltins x = some u) (h : Q u s)
    (hn : x ≠ "__name__" := by decide) (hd : (x == ("__debug__" : Str)) = false := by decide) : wpAny (model X.prog X.w) X.A (eval (.Name x pos) X.env) Q E s := by
  obtain ⟨mb, h1, h2⟩ := I.mod.blt
  exact Calls.Name_function_global I.ok.kind hg (Calls.loadGlobal_builtin (by rw [I.ok.glob]; exact I.mod.glob.keeps I.bk) hm (by rw [I.ok.blt]; exact h1.keeps I.bk) ((h2 x hn).trans hv) h) hd
theorem pe_bltn {x : Str} {v : V} {u : Value} {pos : Pos} (hg : Gl X x) (hm : X.mg x = none) (hv : bootBuiltins x = some u) (r : RelV v u) (hn : x ≠ "__name__" := by decide) (hd : (x == ("__debug__" : Str)) = false := by decide) : PE X (.Name x pos) (tC v) :=
  fun _ _ _ H _ I h => ld_blt I hg hm hv ⟨v, H, I, r, h⟩ hn hd
variable {a b : Expr} {ta tb : TE} {pos : Pos}
variable {tA tB' : TT} {rest : List Expr}
noncomputable def tAnd (t u : TT) : TT := fun σ H Q => t σ H fun c H1 => if c = true then u σ H1 Q else Q false H1
noncomputable def tOr (t u : TT) : TT := fun σ H Q => t σ H fun c H1 => if c = true then Q true H1 else u σ H1 Q
theorem pw_and1 (ha : PT X a tA) : PW X (.BoolOp .And [a] pos) tA := by
  intro wh pins s σ H Q I h
  refine isTrue_and (thn (ha pins s σ H Q I h) fun c s1 e => ?_)
  cases c with
  | true => exact isTrue_and_nil e
  | false => exact e
theorem pw_or1 (ha : PT X a tA) : PW X (.BoolOp .Or [a] pos) tA := by
  intro wh pins s σ H Q I h
  refine isTrue_or (thn (ha pins s σ H Q I h) fun c s1 e => ?_)
  cases c with
  | false => exact isTrue_or_nil e
  | true => exact e
theorem pw_and (ha : PT X a tA) (hb : PW X (.BoolOp .And (b :: rest) pos) tB') : PW X (.BoolOp .And (a :: b :: rest) pos) (tAnd tA tB') := by
  intro wh pins s σ H Q I h
  refine isTrue_and (thn (ha pins s σ H _ I h) fun c s1 ⟨H1, I1, q1⟩ => ?_)
  cases c with
  | true => exact hb wh pins s1 σ H1 Q I1 q1
  | false => exact ⟨H1, I1, q1⟩
theorem pw_or (ha : PT X a tA) (hb : PW X (.BoolOp .Or (b :: rest) pos) tB') : PW X (.BoolOp .Or (a :: b :: rest) pos) (tOr tA tB') := by
  intro wh pins s σ H Q I h
  refine isTrue_or (thn (ha pins s σ H _ I h) fun c s1 ⟨H1, I1, q1⟩ => ?_)
  cases c with
  | true => exact ⟨H1, I1, q1⟩
  | false => exact hb wh pins s1 σ H1 Q I1 q1
noncomputable def tNotV (ta : TE) : TE := fun σ H Q => ta σ H fun x H1 => ∃ c, x = .bl c ∧ Q (.bl (!c)) H1
theorem pe_one {op} {t : TE} (h : PE X a t) : PE X (.BoolOp op [a] pos) t := fun pins s σ H Q I hw => BoolOp_one (h pins s σ H Q I hw)
theorem pe_not (ha : PE X a ta) : PE X (.UnaryOp .Not a pos) (tNotV ta) := by
  intro pins s σ H Q I h
  refine UnaryOp_ (thn (ha pins s σ H _ I h) fun v s1 ⟨x, H1, I1, r1, q1⟩ => ?_)
  obtain ⟨c, rfl, q1⟩ := q1
  cases r1
  exact not_of (wpAny_truthy_bool ⟨.bl (!c), H1, I1, rfl, q1⟩)
noncomputable def tIf (t : TT) (ta tb : TE) : TE := fun σ H Q => t σ H fun c H1 => if c = true then ta σ H1 Q else tb σ H1 Q
theorem pe_ifExp {c : Expr} (hc : PT X c tA) (ha : PE X a ta) (hb : PE X b tb) : PE X (.IfExp c a b pos) (tIf tA ta tb) := by
  intro pins s σ H Q I h
  refine wpAny_IfExp (thn (hc pins s σ H _ I h) fun d s1 ⟨H1, I1, q1⟩ => ?_)
  cases d with
  | true => exact ha pins s1 σ H1 Q I1 q1
  | false => exact hb pins s1 σ H1 Q I1 q1
end
end L2
namespace L2
open PySem PySem.Spec PyProof.Rows
noncomputable def SqL (K : PySem.W.Frag) (H : Hp) (a : Addr) (xs : List V) : Prop :=
  Rd H a (.lst xs) ∨
    ∃ (o : Obj) (its : Array Value) (n : Nat), K.lookup a = some o ∧ o.cls = .type "list" ∧ o.dict = none ∧ o.data = .seq its n ∧ its.size ≤ sizeLine ∧ Vals xs its.toList
noncomputable def SqT (K : PySem.W.Frag) (H : Hp) (a : Addr) (xs : List V) : Prop :=
  Rd H a (.tup xs) ∨
    ∃ (o : Obj) (its : Array Value) (n : Nat), K.lookup a = some o ∧ o.cls = .type "tuple" ∧ (o.data, o.dict) = (Data.seq its n, none) ∧ its.size ≤ sizeLine ∧ Vals xs its.toList
noncomputable def absV : Value → Option V
  | .none => some .non
  | .bool b => some (.bl b)
  | .int i _ => some (.int i)
  | .str x _ => some (.str x)
  | .bytes b _ => some (.byt b)
  | .float b _ => some (.flt b)
  | .ref a => some (.ref a)
  | .type n => some (.ty n)
  | _ => none
theorem RelV.abs {x : V} {u : Value} (r : RelV x u) : absV u = some x := by
  cases x with
  | non => cases r; rfl
  | bl _ => cases r; rfl
  | int _ => obtain ⟨t, rfl⟩ := r; rfl
  | str _ => obtain ⟨t, rfl⟩ := r; rfl
  | byt _ => obtain ⟨t, rfl⟩ := r; rfl
  | flt _ => obtain ⟨t, rfl⟩ := r; rfl
  | ref _ => cases r; rfl
  | ty _ => cases r; rfl
theorem RelV.inj {x y : V} {u : Value} (r : RelV x u) (q : RelV y u) : x = y := Option.some.inj (r.abs.symm.trans q.abs)
theorem Vals.inj : ∀ {xs ys : List V} {us : List Value}, Vals xs us → Vals ys us → xs = ys
  | _, _, _, .nil, .nil => rfl
  | _, _, _, .cons r t, .cons r' t' => by rw [r.inj r', Vals.inj t t']
section
variable {X : Cx} {pins : List (Addr × Obj)} {σ : St} {H : Hp} {s : Shared} {a : Addr} {xs ys : List V}
theorem SqL.of {K : PySem.W.Frag} (h : H a = some (.lst xs)) : SqL K H a xs := .inl (.inl h)
theorem SqT.of {K : PySem.W.Frag} (h : H a = some (.tup xs)) : SqT K H a xs := .inl (.inl h)
theorem Inv.list (I : Inv X pins σ H s) (h : SqL X.K H a xs) : ∃ its : List Value, Vals xs its ∧ PlainL s.heap a its.toArray ∧ xs.length ≤ sizeLine := by
  rcases h with h | ⟨o, its, n, hk, hc, hd, hs, hz, r⟩
  · obtain ⟨z, its, n, r, e⟩ := h.ok I.hok
    exact ⟨its, r, ⟨_, n, e, rfl, rfl, rfl⟩, z⟩
  · refine ⟨its.toList, r, ⟨o, n, I.kIn a o hk, hc, hd, by simpa using hs⟩, ?_⟩
    have e := r.length
    simp only [Array.length_toList] at e
    omega
theorem Inv.tuple (I : Inv X pins σ H s) (h : SqT X.K H a xs) : ∃ its : List Value, Vals xs its ∧ IsTup s.heap a its.toArray ∧ xs.length ≤ sizeLine := by
  rcases h with h | ⟨o, its, n, hk, hc, hs, hz, r⟩
  · obtain ⟨z, its, r, p⟩ := h.ok I.hok
    exact ⟨its, r, IsTupN.tup p, z⟩
  · refine ⟨its.toList, r, ⟨o, I.kIn a o hk, hc, n, by simpa using (Prod.mk.inj hs).1⟩, ?_⟩
    have e := r.length
    simp only [Array.length_toList] at e
    omega
theorem Inv.list_inj (I : Inv X pins σ H s) (h : SqL X.K H a xs) (h' : SqL X.K H a ys) : xs = ys := by
  obtain ⟨its, r, ⟨o, n, e, _, _, d⟩, _⟩ := I.list h
  obtain ⟨its', r', ⟨o', n', e', _, _, d'⟩, _⟩ := I.list h'
  rw [e] at e'; cases e'
  rw [d] at d'
  injection d' with d1 _
  have : its = its' := by simpa using congrArg Array.toList d1
  subst this
  exact r.inj r'
theorem Inv.tuple_inj (I : Inv X pins σ H s) (h : SqT X.K H a xs) (h' : SqT X.K H a ys) : xs = ys := by
  obtain ⟨its, r, ⟨o, e, _, n, d⟩, _⟩ := I.tuple h
  obtain ⟨its', r', ⟨o', e', _, n', d'⟩, _⟩ := I.tuple h'
  rw [e] at e'; cases e'
  rw [d] at d'
  injection d' with d1 _
  have : its = its' := by simpa using congrArg Array.toList d1
  subst this
  exact r.inj r'
end
noncomputable abbrev Cx.wish (X : Cx) (E : Value → Shared → Prop) : Cx := { X with xe := E }
noncomputable abbrev Cx.nox (X : Cx) : Cx := X.wish fun _ _ => False
theorem Cx.Ok.wish {X : Cx} (ok : X.Ok) (E : Value → Shared → Prop) : (X.wish E).Ok :=
  ⟨ok.mod, ok.kind, ok.glob, ok.blt, ok.above, ok.inj, ok.has, ok.cab, ok.hd, ok.frames, ok.stk, ok.exf, ok.bs, ok.bsz, ok.noex, ok.exfs, ok.funs, ok.frf⟩
theorem Cx.Ok.unwish {X : Cx} {E : Value → Shared → Prop} (ok : (X.wish E).Ok) : X.Ok :=
  ⟨ok.mod, ok.kind, ok.glob, ok.blt, ok.above, ok.inj, ok.has, ok.cab, ok.hd, ok.frames, ok.stk, ok.exf, ok.bs, ok.bsz, ok.noex, ok.exfs, ok.funs, ok.frf⟩
section
variable {X : Cx} {pins : List (Addr × Obj)} {σ : St} {H : Hp} {s : Shared} {E : Value → Shared → Prop}
theorem Inv.wish (I : Inv X pins σ H s) (E : Value → Shared → Prop) : Inv (X.wish E) pins σ H s := ⟨I.ok.wish E, I.os, I.bare, I.base, I.loc, I.cell, I.free, I.freeC, I.pin, I.hok, I.len⟩
theorem Inv.unwish (I : Inv (X.wish E) pins σ H s) : Inv X pins σ H s := ⟨I.ok.unwish, I.os, I.bare, I.base, I.loc, I.cell, I.free, I.freeC, I.pin, I.hok, I.len⟩
theorem SP.unwish {D : Ends} {f : Flow} {s' : Shared} (h : SP (X.wish E) pins D f s') : SP X pins D f s' := by
  cases f with
  | next => obtain ⟨σ', H', I, q⟩ := h; exact ⟨σ', H', I.unwish, q⟩
  | brk => obtain ⟨σ', H', I, q⟩ := h; exact ⟨σ', H', I.unwish, q⟩
  | cont => obtain ⟨σ', H', I, q⟩ := h; exact ⟨σ', H', I.unwish, q⟩
  | ret u => obtain ⟨v, σ', H', I, r, q⟩ := h; exact ⟨v, σ', H', I.unwish, r, q⟩
theorem PE.nox {e : Expr} {t : TE} (h : PE X.nox e t) : PE X e t := fun pins s σ H Q I hw =>
  wpAny_mono (h pins s σ H Q (I.wish _) hw) (fun _ _ ⟨v, H', I', r, q⟩ => ⟨v, H', I'.unwish, r, q⟩) fun _ _ z => False.elim z
theorem PT.nox {e : Expr} {t : TT} (h : PT X.nox e t) : PT X e t := fun pins s σ H Q I hw =>
  wpAny_mono (h pins s σ H Q (I.wish _) hw) (fun _ _ ⟨H', I', q⟩ => ⟨H', I'.unwish, q⟩) fun _ _ z => False.elim z
theorem PSs.nox {st : List Stmt} {t : TS} (h : PSs X.nox st t) : PSs X st t := fun pins s σ H D I hw =>
  wpAny_mono (h pins s σ H D (I.wish _) hw) (fun _ _ q => q.unwish) fun _ _ z => False.elim z
end
section
variable {X : Cx} {st : Stmt} {rest : List Stmt} {t u : TS} {e : Expr} {te : TE} {pos : Pos}
noncomputable def tNext : TS := fun D σ H => D.nx σ H
noncomputable def tSeq (t u : TS) : TS := fun D σ H => t { D with nx := u D } σ H
theorem pss_nil : PSs X [] tNext := fun _ _ σ H _ I h => wpAny_execs_nil ⟨σ, H, I, h⟩
theorem pss_cons (h1 : PS X st t) (h2 : PSs X rest u) : PSs X (st :: rest) (tSeq t u) := by
  intro pins s σ H D I h
  refine wpAny_execs_cons (thn (h1 pins s σ H { D with nx := u D } I h) fun f s1 q => ?_)
  cases f with
  | next =>
    obtain ⟨σ', H', I', q⟩ := q
    exact h2 pins s1 σ' H' D I' q
  | ret v => exact q
  | brk => exact q
  | cont => exact q
theorem pss_one (h1 : PS X st t) : PSs X [st] t := by
  intro pins s σ H D I h
  refine wpAny_execs_cons (thn (h1 pins s σ H D I h) fun f s1 q => ?_)
  cases f with
  | next => exact wpAny_execs_nil q
  | ret v => exact q
  | brk => exact q
  | cont => exact q
theorem Inv.quiet {pins : List (Addr × Obj)} {σ : St} {H : Hp} {s : Shared} (I : Inv X pins σ H s) : interactive X.env = false := by simp [interactive, I.ok.kind]
noncomputable def tDrop (te : TE) : TS := fun D σ H => te σ H fun _ H1 => D.nx σ H1
theorem ps_expr (he : PE X e te) (hs : swapsWith e none pos.line X.env = pure false := by rfl) : PS X (.Expr e pos) (tDrop te) := by
  intro pins s σ H D I h
  exact wpAny_Expr_any (thn (he pins s σ H _ I h) fun v s1 ⟨x, H1, I1, r1, q1⟩ => ⟨σ, H1, I1, q1⟩) I.quiet hs
noncomputable def tRet (te : TE) : TS := fun D σ H => te σ H D.rt
theorem ps_ret (he : PE X e te) : PS X (.Return (some e) pos) (tRet te) := by
  intro pins s σ H D I h
  exact wpAny_Return_some (thn (he pins s σ H _ I h) fun v s1 ⟨x, H1, I1, r1, q1⟩ => ⟨x, σ, H1, I1, r1, q1⟩)
noncomputable def tIfS (c : TT) (t u : TS) : TS := fun D σ H => c σ H fun b H1 => if b = true then t D σ H1 else u D σ H1
theorem ps_if {c : Expr} {a b : List Stmt} {tc : TT} (hc : PT X c tc) (ha : PSs X a t) (hb : PSs X b u) : PS X (.If c a b pos) (tIfS tc t u) := by
  intro pins s σ H D I h
  refine wpAny_If (thn (hc pins s σ H _ I h) fun d s1 ⟨H1, I1, q1⟩ => ?_)
  cases d with
  | true => exact ha pins s1 σ H1 D I1 q1
  | false => exact hb pins s1 σ H1 D I1 q1
end
noncomputable abbrev TG := V → St → Hp → (St → Hp → Prop) → Prop
noncomputable abbrev TGs := List V → St → Hp → (St → Hp → Prop) → Prop
noncomputable def PG (X : Cx) (target : Expr) (t : TG) : Prop :=
  ∀ (pins : List (Addr × Obj)) (s : Shared) (σ : St) (H : Hp) (v : V) (u : Value) (Q : St → Hp → Prop), Inv X pins σ H s → RelV v u → t v σ H Q →
    wpAny (model X.prog X.w) X.A (assign target X.env u) (fun _ s' => ∃ σ' H', Inv X pins σ' H' s' ∧ Q σ' H') X.xe s
noncomputable def PGs (X : Cx) (ts : List Expr) (t : TGs) : Prop :=
  ∀ (pins : List (Addr × Obj)) (s : Shared) (σ : St) (H : Hp) (vs : List V) (us : List Value) (Q : St → Hp → Prop), Inv X pins σ H s → Vals vs us → t vs σ H Q →
    wpAny (model X.prog X.w) X.A (assignInOrder ((assignEach ts X.env).map (·.2)) us) (fun _ s' => ∃ σ' H', Inv X pins σ' H' s' ∧ Q σ' H') X.xe s
noncomputable abbrev TSet := V → V → V → Hp → (Hp → Prop) → Prop
noncomputable def PSet (X : Cx) (t : TSet) : Prop :=
  ∀ (pins : List (Addr × Obj)) (s : Shared) (σ : St) (H : Hp) (o i v : V) (ov iv u : Value) (Q : Hp → Prop), Inv X pins σ H s → RelV o ov → RelV i iv → RelV v u → t o i v H Q →
    wpAny (model X.prog X.w) X.A (setItem ov iv u) (fun _ s' => ∃ H', Inv X pins σ H' s' ∧ Q H') X.xe s
section
variable {X : Cx} {pos : Pos}
noncomputable def gName (i : Nat) : TG := fun v σ H Q => Q (σ.set i (some v)) H
theorem pg_name {i : Nat} {x : Str} (hN : X.N.Nodup) (hi : X.N[i]? = some x) (hx : Loc X.env.scope x) (hf : X.fn x = true ∨ X.env.scope.names.lookup x = some .local := by first | exact .inl rfl | exact .inr rfl | assumption) : PG X (.Name x pos) (gName i) := by
  intro pins s σ H v u Q I r h
  exact wpAny_assign_Name (store_ok I hN hi hx r (fun s' I' => ⟨_, H, I', h⟩) hf)
noncomputable def gNil : TGs := fun vs σ H Q => vs = [] ∧ Q σ H
noncomputable def gCons (t : TG) (u : TGs) : TGs := fun vs σ H Q => ∃ v r, vs = v :: r ∧ t v σ H fun σ' H' => u r σ' H' Q
theorem pgs_nil : PGs X [] gNil := by
  intro pins s σ H vs us Q I r h
  obtain ⟨e, h⟩ := h
  subst e
  cases r
  exact assignInOrder_nil ⟨σ, H, I, h⟩
theorem pgs_cons {e : Expr} {es : List Expr} {t : TG} {u : TGs} (h1 : PG X e t) (h2 : PGs X es u)
    (hs : (assignEach (e :: es) X.env).map (·.2) = assign e X.env :: (assignEach es X.env).map (·.2) := by rfl) : PGs X (e :: es) (gCons t u) := by
  intro pins s σ H vs us Q I r h
  obtain ⟨v, vr, e1, h⟩ := h
  subst e1
  cases r with
  | cons r rr =>
    rw [hs]
    refine assignInOrder_cons (thn (h1 pins s σ H _ _ _ I r h) fun _ s1 ⟨σ1, H1, I1, q1⟩ => ?_)
    exact h2 pins s1 σ1 H1 _ _ Q I1 rr q1
noncomputable def gTup (K : PySem.W.Frag) (n : Nat) (t : TGs) : TG := fun v σ H Q => ∃ a xs, v = .ref a ∧ SqT K H a xs ∧ xs.length = n ∧ t xs σ H Q
theorem pg_tup {es : List Expr} {k : Nat} {t : TGs} {n : Nat} (hc : X.calm = true) (h : PGs X es t)
    (hn : (assignEach es X.env).length = n := by rfl) (hst : (assignEach es X.env).findIdx? (·.1) = none := by rfl) : PG X (.Tuple es k pos) (gTup X.K n t) := by
  intro pins s σ H v u Q I r hw
  obtain ⟨a, xs, e1, hq, hl, hw⟩ := hw
  subst e1
  cases r
  obtain ⟨its, rv, ht, hz⟩ := I.tuple hq
  refine assign_Tuple_tuple (I.ok.hd hc) ht (by simp [hn, ← hl, rv.length]) hst fun h' hx => ?_
  have I1 : Inv X pins σ H { s with heap := h' } := I.kept (t' := s.toks) fun b o e => hx b o (Nat.ne_of_lt (Heap.lt_size e)) e
  exact h pins _ σ H xs _ Q I1 (by simpa using rv) hw
noncomputable def gSub (to ti : TE) (t : TSet) : TG := fun v σ H Q => to σ H fun o H1 => ti σ H1 fun i H2 => t o i v H2 fun H3 => Q σ H3
theorem pg_sub {o i : Expr} {to ti : TE} {t : TSet} (ho : PE X o to) (hi : PE X i ti) (hs : PSet X t)
    (ha : ∀ v, assign (.Subscript o i pos) X.env v = (do
      let ov ← holding [v] (eval o X.env)
      let iv ← holding [v, ov] (eval i X.env)
      standAt pos
      holding [v, ov, iv] (setItem ov iv v)
      release [v, ov, iv] []) := by intro _; rfl) : PG X (.Subscript o i pos) (gSub to ti t) := by
  intro pins s σ H v u Q I r h
  rw [ha]
  refine wpAny_bind (wpAny_holding (thn (ho pins s σ H _ I h) fun ov s1 ⟨x, H1, I1, r1, q1⟩ => ?_))
  refine wpAny_bind (wpAny_holding (thn (hi pins s1 σ H1 _ I1 q1) fun iv s2 ⟨y, H2, I2, r2, q2⟩ => ?_))
  refine wpAny_bind (wpAny_standAt (wpAny_bind (wpAny_holding (thn (hs pins s2 σ H2 x y v ov iv u _ I2 r1 r2 r q2) fun _ s3 ⟨H3, I3, q3⟩ => ?_))))
  exact wpAny_release ⟨σ, H3, I3, q3⟩
noncomputable def tAsg (te : TE) (g : TG) : TS := fun D σ H => te σ H fun x H1 => g x σ H1 D.nx
theorem ps_asg {tg e : Expr} {te : TE} {g : TG} (he : PE X e te) (hg : PG X tg g) (hs : swapsWithSole [tg] e pos.line X.env = pure false := by rfl) (hw : swappedStores [tg] e X.env = pure none := by rfl)
    (h1 : (assignEach [tg] X.env).map (·.2) = [assign tg X.env] := by rfl) : PS X (.Assign [tg] e pos) (tAsg te g) := by
  intro pins s σ H D I h
  refine wpAny_Assign_stores (thn (he pins s σ H _ I h) fun v s1 ⟨x, H1, I1, r1, q1⟩ => ?_) hs hw
  rw [h1]
  exact thn (hg pins s1 σ H1 x v _ I1 r1 q1) fun _ s2 q => q
noncomputable def tPar (i j : Nat) (ta : TA) : TS := fun D σ H => ta σ H fun vs H1 => ∃ v w, vs = [v, w] ∧ D.nx ((σ.set i (some v)).set j (some w)) H1
theorem ps_par {i j : Nat} {x y : Str} {a b : Expr} {ta : TA} {px py pt : Pos} {kt k2 pt2} (hc : X.calm = true) (hN : X.N.Nodup) (hi : X.N[i]? = some x) (hj : X.N[j]? = some y) (hij : i ≠ j)
    (hx : X.env.scope.names.lookup x = some .local) (hy : X.env.scope.names.lookup y = some .local) (ha : PA X [a, b] ta)
    (hw : swappedStores [.Tuple [.Name x px, .Name y py] kt pt] (.Tuple [a, b] k2 pt2) X.env = pure (some [x, y]))
    (hs : swapsWithSole [.Tuple [.Name x px, .Name y py] kt pt] (.Tuple [a, b] k2 pt2) pos.line X.env = pure false := by rfl) :
    PS X (.Assign [.Tuple [.Name x px, .Name y py] kt pt] (.Tuple [a, b] k2 pt2) pos) (tPar i j ta) := by
  intro pins s σ H D I h
  rw [exec_Assign_arm]
  refine wpAny_bind (wpAny_standAt ?_)
  rw [hs]
  refine wpAny_bind (wpAny_pure ?_)
  rw [if_neg (by decide)]
  refine wpAny_bind (Tuple_ (thn (ha _ pins s σ H _ I h) fun us s1 ⟨vs, H1, I1, r1, q1⟩ => ?_))
  obtain ⟨v, w, e1, q1⟩ := q1
  subst e1
  obtain ⟨u1, u2, rfl, rv, rw'⟩ : ∃ u1 u2, us = [u1, u2] ∧ RelV v u1 ∧ RelV w u2 := by
    cases r1 with
    | cons p q =>
      cases q with
      | cons p' q' =>
        cases q'
        exact ⟨_, _, rfl, p, p'⟩
  refine wpAny_newObj_type ?_ (by show 2 ≤ sizeLine; decide)
  have I2 : Inv X pins σ H1 { s1 with heap := s1.heap.push { cls := .type "tuple", data := .seq [u1, u2].toArray } } := I1.kept (t' := s1.toks) fun b o e => Heap.get?_push_of_some _ e
  rw [hw]
  refine wpAny_bind (wpAny_pure ?_)
  show wpAny (model X.prog X.w) X.A (do rule "assign.swapped-stores"; let items ← unpackItems (.ref s1.heap.objs.size) 2 none; assignInOrder [fun v => bindName X.env y v, fun v => bindName X.env x v] items.reverse; pure Flow.next) _ _ _
  refine wpAny_bind (wpAny_rule (wpAny_bind (unpackItems_tuple (items := #[u1, u2]) (I.ok.hd hc) (IsTup.new s1.heap _) fun h' hx' => ?_)))
  have I3 := I2.kept (h' := h') (t' := s1.toks) fun b o e => hx' b o (Nat.ne_of_lt (Heap.lt_size e)) e
  show wpAny _ _ (assignInOrder [fun v => bindName X.env y v, fun v => bindName X.env x v] [u2, u1] >>= fun _ => pure Flow.next) _ _ _
  refine wpAny_bind (assignInOrder_cons (wpAny_bindName (store_ok I3 hN hj (.inl hy) rw' (fun s2 I4 => ?_) (.inr hy))))
  refine assignInOrder_cons (wpAny_bindName (store_ok I4 hN hi (.inl hx) rv (fun s3 I5 => assignInOrder_nil (wpAny_pure ?_)) (.inr hx)))
  rw [List.set_comm _ _ (Ne.symm hij)] at I5
  exact ⟨_, H1, I5, q1⟩
end
section
variable {X : Cx} {pos : Pos}
end
structure It where
  go : Nat → Hp → Prop
  yld : Nat → Hp → V → Hp → Prop
  stop : Nat → Hp → Prop
noncomputable def FpOk (X : Cx) (pins : List (Addr × Obj)) (H : Hp) (b : Addr) : Prop :=
  H b = none ∧ b ≠ X.env.locals ∧ b ∉ X.fs ∧ (b ∈ X.ex ∨ X.s₀.heap.objs.size ≤ b) ∧ (∀ x c, X.env.cells.lookup x = some c → c ≠ b) ∧ ∀ p ∈ X.pn ++ pins, p.1 ≠ b
theorem Inv.fpOk {X : Cx} {pins : List (Addr × Obj)} {σ : St} {H H' : Hp} {s : Shared} {b : Addr} (I : Inv X pins σ H s) (hb : s.heap.objs.size ≤ b) (hn : H' b = none) : FpOk X pins H' b := by
  refine ⟨hn, Nat.ne_of_gt (Nat.lt_of_lt_of_le I.lt hb), I.nofs hb, .inr (Nat.le_trans I.sz hb), fun x c e z => ?_, fun p hp z => ?_⟩
  · obtain ⟨v, q⟩ := I.cell x c e
    exact absurd (Nat.lt_of_lt_of_le q.lt (by rw [z]; exact hb)) (Nat.lt_irrefl _)
  · exact absurd (Nat.lt_of_lt_of_le (Heap.lt_size (I.pin p hp).1) (by rw [z]; exact hb)) (Nat.lt_irrefl _)
structure Turn (P : Program) (w : World) (K : PySem.W.Frag) (tg : Expr) (J : It) (fp : List Addr) (it : Addr) (tn : Nat → Heap → Prop) : Prop where
  mem : it ∈ fp
  obj : ∀ i h, tn i h → ∀ b ∈ fp, ∃ o, h.get? b = some o ∧ ∀ v, o.data ≠ .cell v
  keep : ∀ i h h', tn i h → (∀ b ∈ fp, ∀ o, h.get? b = some o → h'.get? b = some o) → tn i h'
  item : ∀ (X : Cx), X.prog = P → X.w = w → X.K = K → X.calm = true → ∀ (i : Nat) (pins : List (Addr × Obj)) (s : Shared) (σ : St) (H : Hp) (E : Value → Shared → Prop), Inv X pins σ H s → (∀ b ∈ fp, FpOk X pins H b) → tn i s.heap → J.go i H →
    wpAny (model P w) X.A (pyNext (.ref it)) (fun r s1 => ∃ u, r = some u ∧
      wpAny (model P w) X.A (letOwnedTupleGo tg (.ref it) u) (fun _ s2 => ∃ x H', Inv X pins σ H' s2 ∧ RelV x u ∧ J.yld i H x H' ∧ tn (i + 1) s2.heap ∧ ∀ b ∈ fp, H' b = none) E s1) E s
  done : ∀ (X : Cx), X.prog = P → X.w = w → X.K = K → X.calm = true → ∀ (i : Nat) (pins : List (Addr × Obj)) (s : Shared) (σ : St) (H : Hp) (E : Value → Shared → Prop), Inv X pins σ H s → (∀ b ∈ fp, FpOk X pins H b) → tn i s.heap → J.stop i H →
    wpAny (model P w) X.A (pyNext (.ref it)) (fun r s1 => r = none ∧ Inv X pins σ H s1) E s
  self : ∀ (A : Around) (i : Nat) (s : Shared) (Q : Value → Shared → Prop) (E : Value → Shared → Prop), tn i s.heap → Q (.ref it) s → wpAny (model P w) A (pyIter (.ref it)) Q E s
noncomputable abbrev TI := St → Hp → (It → Hp → Prop) → Prop
noncomputable def PIE (X : Cx) (pins : List (Addr × Obj)) (σ : St) (tg : Expr) (R : It → Hp → Prop) (itv : Value) (s2 : Shared) : Prop :=
  ∃ (it : Addr) (fp : List Addr) (tn : Nat → Heap → Prop) (J : It) (H' : Hp), itv = .ref it ∧ Inv X pins σ H' s2 ∧ Turn X.prog X.w X.K tg J fp it tn ∧ tn 0 s2.heap ∧ (∀ b ∈ fp, FpOk X pins H' b) ∧ R J H'
noncomputable def PI (X : Cx) (tg iter : Expr) (wi : TI) : Prop :=
  ∀ (pins : List (Addr × Obj)) (s : Shared) (σ : St) (H : Hp) (R : It → Hp → Prop), Inv X pins σ H s → wi σ H R →
    wpAny (model X.prog X.w) X.A (eval iter X.env) (fun v s1 => wpAny (model X.prog X.w) X.A (pyIter v) (PIE X pins σ tg R) X.xe s1) X.xe s
theorem go_of {M : Model} {A : Around} {E : Value → Shared → Prop} {s : Shared} {tg : Expr} {it : Addr} {u : Value} {o : Obj} {n : String} {vs : Array Value} {Q : Unit → Shared → Prop} (ho : s.heap.get? it = some o) (hc : o.cls = .type n) (hd : o.data = .fields vs)
    (hn : ["enumerate", "zip", "dict_itemiterator", "dict_reverseitemiterator", "odict_iterator", "itertools.zip_longest", "itertools.pairwise"].contains n = false) (hQ : Q () s) : wpAny M A (letOwnedTupleGo tg (.ref it) u) Q E s := by
  unfold letOwnedTupleGo
  cases tg <;> first
    | exact wpAny_pure hQ
    | (cases u <;> first
        | exact wpAny_pure hQ
        | (refine wpAny_bind (wpAny_load ho ?_)
           rw [hc, hd]
           show wpAny M A (if (["enumerate", "zip", "dict_itemiterator", "dict_reverseitemiterator", "odict_iterator", "itertools.zip_longest", "itertools.pairwise"].contains n && vs[0]? == some (rawInt _)) = true then _ else _) Q E s
           rw [if_neg (by intro h; rw [hn, Bool.false_and] at h; cases h)]
           exact wpAny_pure hQ))
noncomputable def Itl (K : PySem.W.Frag) (a : Addr) : It :=
  ⟨fun i H => ∃ xs x, SqL K H a xs ∧ xs[i]? = some x, fun i H x H' => H' = H ∧ ∀ xs, SqL K H a xs → xs[i]? = some x, fun i H => ∃ xs, SqL K H a xs ∧ xs.length ≤ i⟩
noncomputable def Itt (K : PySem.W.Frag) (a : Addr) : It :=
  ⟨fun i H => ∃ xs x, SqT K H a xs ∧ xs[i]? = some x, fun i H x H' => H' = H ∧ ∀ xs, SqT K H a xs → xs[i]? = some x, fun i H => ∃ xs, SqT K H a xs ∧ xs.length ≤ i⟩
noncomputable def Itr (lo : Int) (n : Nat) : It := ⟨fun i _ => i < n, fun i H x H' => H' = H ∧ x = .int (lo + i), fun i _ => n ≤ i⟩
theorem turn_list {P : Program} {w : World} {K : PySem.W.Frag} {tg : Expr} (a it : Addr) : Turn P w K tg (Itl K a) [it] it (fun i h => h.IsListIter it a i) where
  mem := by simp
  obj := fun i h st b hb => by
    have e : b = it := by simpa using hb
    subst e
    obtain ⟨o, e, c, d⟩ := st
    exact ⟨o, e, fun v z => by rw [d] at z; cases z⟩
  keep := fun i h h' st k => st.at fun o e => k it (by simp) o e
  item := by
    intro X hP hw hK hc i pins s σ H E I hf st hg
    subst hP hw hK
    obtain ⟨xs, x, hq, hx⟩ := hg
    obtain ⟨its, rv, p, hz⟩ := I.list hq
    obtain ⟨u, hu, ru⟩ := rv.get hx
    obtain ⟨f0, f1, f2, f3, f4, f5⟩ := hf it (by simp)
    refine wpAny_pyNext_list_item st p.isList (x := u) (by simpa using hu) fun h' st' sb => ?_
    have I1 : Inv X pins σ H { s with heap := h' } := I.turned (t' := s.toks) (fun b o hb e => (sb.2 b hb).trans e) f0 f1 f3 f4 f5
    obtain ⟨o, e, c, d⟩ := id st'
    exact ⟨u, rfl, go_of (s := { s with heap := h' }) e c d (by decide) ⟨x, H, I1, ru, ⟨rfl, fun ys hy => by rw [I.list_inj hy hq]; exact hx⟩, st', fun b hb => (hf b hb).1⟩⟩
  done := by
    intro X hP hw hK hc i pins s σ H E I hf st hg
    subst hP hw hK
    obtain ⟨xs, hq, hx⟩ := hg
    obtain ⟨its, rv, p, hz⟩ := I.list hq
    obtain ⟨f0, f1, f2, f3, f4, f5⟩ := hf it (by simp)
    have hl := rv.length
    exact wpAny_pyNext_list_end (I.ok.hd hc) st p.isList (by simp; omega) fun h' eb => ⟨rfl, I.turned (t' := s.toks) (fun b o hb e => eb b o hb e) f0 f1 f3 f4 f5⟩
  self := fun _ _ _ _ _ st h => wpAny_pyIter_listiter st h
theorem turn_tuple {P : Program} {w : World} {K : PySem.W.Frag} {tg : Expr} (a it : Addr) : Turn P w K tg (Itt K a) [it] it (fun i h => h.IsTupleIter it a i) where
  mem := by simp
  obj := fun i h st b hb => by
    have e : b = it := by simpa using hb
    subst e
    obtain ⟨o, e, c, d⟩ := st
    exact ⟨o, e, fun v z => by rw [d] at z; cases z⟩
  keep := fun i h h' st k => st.at fun o e => k it (by simp) o e
  item := by
    intro X hP hw hK hc i pins s σ H E I hf st hg
    subst hP hw hK
    obtain ⟨xs, x, hq, hx⟩ := hg
    obtain ⟨its, rv, p, hz⟩ := I.tuple hq
    obtain ⟨u, hu, ru⟩ := rv.get hx
    obtain ⟨f0, f1, f2, f3, f4, f5⟩ := hf it (by simp)
    refine wpAny_pyNext_tuple_item st (show s.heap.IsTuple a its.toArray from p) (x := u) (by simpa using hu) fun h' st' sb => ?_
    have I1 : Inv X pins σ H { s with heap := h' } := I.turned (t' := s.toks) (fun b o hb e => (sb.2 b hb).trans e) f0 f1 f3 f4 f5
    obtain ⟨o, e, c, d⟩ := id st'
    exact ⟨u, rfl, go_of (s := { s with heap := h' }) e c d (by decide) ⟨x, H, I1, ru, ⟨rfl, fun ys hy => by rw [I.tuple_inj hy hq]; exact hx⟩, st', fun b hb => (hf b hb).1⟩⟩
  done := by
    intro X hP hw hK hc i pins s σ H E I hf st hg
    subst hP hw hK
    obtain ⟨xs, hq, hx⟩ := hg
    obtain ⟨its, rv, p, hz⟩ := I.tuple hq
    obtain ⟨f0, f1, f2, f3, f4, f5⟩ := hf it (by simp)
    have hl := rv.length
    exact wpAny_pyNext_tuple_end (I.ok.hd hc) st (show s.heap.IsTuple a its.toArray from p) (by simp; omega) fun h' eb => ⟨rfl, I.turned (t' := s.toks) (fun b o hb e => eb b o hb e) f0 f1 f3 f4 f5⟩
  self := fun _ _ _ _ _ st h => wpAny_pyIter_tupleiter st h
theorem turn_range {P : Program} {w : World} {K : PySem.W.Frag} {tg : Expr} (it : Addr) (lo : Int) (n : Nat) : Turn P w K tg (Itr lo n) [it] it (fun i h => IsRangeIter h it (lo + (i : Nat) * 1) ((n : Int) - (i : Nat)) 1) where
  mem := by simp
  obj := fun i h st b hb => by
    have e : b = it := by simpa using hb
    subst e
    exact ⟨_, st, fun v z => by
      have z' : Data.fields _ = Data.cell v := z
      cases z'⟩
  keep := fun i h h' st k => k it (by simp) _ st
  item := by
    intro X hP hw hK hc i pins s σ H E I hf st hg
    subst hP hw hK
    obtain ⟨f0, f1, f2, f3, f4, f5⟩ := hf it (by simp)
    have W := Walks.range (prog := X.prog) (w := X.w) (I.ok.hd hc) it lo 1 n
    refine W.item i s _ _ hg st fun v h' tk hv st' kk => ?_
    obtain ⟨t, rfl⟩ := hv
    have I1 : Inv X pins σ H { s with heap := h', toks := tk } := I.turned (fun b o hb e => kk b o (by simpa using hb) e) f0 f1 f3 f4 f5
    refine ⟨_, rfl, go_of (s := { s with heap := h', toks := tk }) (n := "range_iterator") st' rfl rfl (by decide) ⟨.int (lo + i), H, I1, ⟨t, ?_⟩, ⟨rfl, rfl⟩, st', fun b hb => (hf b hb).1⟩⟩
    rw [Int.mul_one]
  done := by
    intro X hP hw hK hc i pins s σ H E I hf st hg
    subst hP hw hK
    obtain ⟨f0, f1, f2, f3, f4, f5⟩ := hf it (by simp)
    exact wpAny_pyNext_range_end (I.ok.hd hc) st (by have : n ≤ i := hg; omega) fun h' eb => ⟨rfl, I.turned (t' := s.toks) (fun b o hb e => eb b o hb e) f0 f1 f3 f4 f5⟩
  self := fun _ _ _ _ _ st h => wpAny_pyIter_rangeiter st h
end L2
namespace L2
open PySem PySem.Spec PyProof.Rows
section
variable {X : Cx} {tg : Expr}
theorem range_it {pins : List (Addr × Obj)} {σ : St} {H : Hp} {s : Shared} {R : It → Hp → Prop} {E : Value → Shared → Prop} {lo hi : Int} {t u v : Tok} {tk : Nat} (I : Inv X pins σ H s) (h1 : -(2 ^ 62) ≤ lo) (h2 : lo < 2 ^ 62) (h3 : -(2 ^ 62) ≤ hi) (h4 : hi < 2 ^ 62)
    (q : R (Itr lo (hi - lo).toNat) H) : wpAny (model X.prog X.w) X.A (pyIter (.ref s.heap.objs.size)) (PIE X pins σ tg R) E { s with heap := s.heap.push { cls := .type "range", data := .fields #[.int lo t, .int hi u, .int 1 v] }, toks := tk } := by
  refine wpAny_pyIter_range (IsRange.new ..) (small_one h1 h2 h3 h4) ?_
  have I1 : Inv X pins σ H { s with heap := s.heap.push { cls := .type "range", data := .fields #[.int lo t, .int hi u, .int 1 v] }, toks := tk } := I.kept fun b o e => Heap.get?_push_of_some _ e
  refine ⟨(s.heap.push { cls := .type "range", data := .fields #[.int lo t, .int hi u, .int 1 v] }).objs.size, [(s.heap.push { cls := .type "range", data := .fields #[.int lo t, .int hi u, .int 1 v] }).objs.size], _, _, H, rfl,
    I1.kept (t' := tk) fun b o e => Heap.get?_push_of_some _ e, turn_range _ lo (hi - lo).toNat, ?_, fun b hb => ?_, q⟩
  · have e1 : lo + ((0 : Nat) : Int) * 1 = lo := by simp
    have e2 : (((hi - lo).toNat : Nat) : Int) - ((0 : Nat) : Int) = Builtin.Range.rangeSize lo hi 1 := by rw [rangeSize_one]; split <;> omega
    show IsRangeIter _ _ (lo + ((0 : Nat) : Int) * 1) ((((hi - lo).toNat : Nat) : Int) - ((0 : Nat) : Int)) 1
    rw [e1, e2]
    exact Heap.get?_push_size _ rfl
  · have e : b = (s.heap.push { cls := .type "range", data := .fields #[.int lo t, .int hi u, .int 1 v] }).objs.size := by simpa using hb
    subst e
    exact I1.fpOk (Nat.le_refl _) (I1.hok.fresh (Nat.le_refl _))
noncomputable def iRng1 (ta : TA) : TI := fun σ H R => ta σ H fun vs H1 => ∃ j : Int, vs = [.int j] ∧ -(2 ^ 62) ≤ j ∧ j < 2 ^ 62 ∧ R (Itr 0 j.toNat) H1
theorem pi_range1 {a : Expr} {ta : TA} {p pos : Pos} (hg : Gl X "range") (hm : X.mg "range" = none) (ha : PA X [a] ta) (hs : starEach [a] X.env = [(false, eval a X.env)] := by rfl) : PI X tg (.Call (.Name "range" p) [a] [] pos) (iRng1 ta) := by
  intro pins s σ H R I h
  refine Call_ (ld_blt I hg hm boot_range (PyProof.Rows.callWith_type1 (thn (ha pos pins s σ H _ I h) fun us s1 ⟨vs, H1, I1, r1, q1⟩ => ?_) hs rfl))
  obtain ⟨j, e, q1, q2, q⟩ := q1
  subst e
  cases r1 with
  | cons r rr =>
    cases rr
    obtain ⟨t, rfl⟩ := r
    exact call_range_1 (range_it I1 (by omega) (by omega) q1 q2 (by simpa using q))
noncomputable def tFor (wi : TI) (g : TG) (tb : TS) : TS := fun D σ H => wi σ H fun J H1 => ∃ W : Nat → Nat → St → Hp → Prop, (∃ m, W 0 m σ H1) ∧ ∀ i m σ H, W i m σ H →
  (J.stop i H ∧ D.nx σ H) ∨ (J.go i H ∧ ∃ N : St → Hp → Prop, (∀ σ' H', N σ' H' → ∃ m', m' < m ∧ W (i + 1) m' σ' H') ∧ ∀ x H', J.yld i H x H' → g x σ H' fun σ2 H2 => tb { D with nx := N, ct := N, bk := D.nx } σ2 H2)
noncomputable def pinsAt (fp : List Addr) (h : Heap) : List (Addr × Obj) := fp.filterMap fun b => (h.get? b).map fun o => (b, o)
theorem mem_pinsAt {fp : List Addr} {h : Heap} {b : Addr} {o : Obj} (hb : b ∈ fp) (e : h.get? b = some o) : (b, o) ∈ pinsAt fp h := List.mem_filterMap.mpr ⟨b, hb, by rw [e]; rfl⟩
theorem of_pinsAt {fp : List Addr} {h : Heap} {p : Addr × Obj} (hp : p ∈ pinsAt fp h) : p.1 ∈ fp ∧ h.get? p.1 = some p.2 := by
  obtain ⟨b, hb, e⟩ := List.mem_filterMap.mp hp
  cases q : h.get? b with
  | none => rw [q] at e; cases e
  | some o =>
    rw [q] at e
    have e' : (b, o) = p := Option.some.inj e
    subst e'
    exact ⟨hb, q⟩
theorem Inv.pinned {pins : List (Addr × Obj)} {σ : St} {H : Hp} {s : Shared} {fp : List Addr} (I : Inv X pins σ H s) (hf : ∀ b ∈ fp, FpOk X pins H b) (ho : ∀ b ∈ fp, ∃ o, s.heap.get? b = some o ∧ ∀ v, o.data ≠ .cell v) : Inv X (pins ++ pinsAt fp s.heap) σ H s :=
  I.pins_of fun p hp => (List.mem_append.mp hp).elim (fun z => I.pin p (List.mem_append_right _ z)) fun z => by
    obtain ⟨hb, e⟩ := of_pinsAt z
    obtain ⟨f0, f1, f2, _⟩ := hf p.1 hb
    obtain ⟨o, e', d⟩ := ho p.1 hb
    rw [e] at e'; cases e'
    exact ⟨e, f0, f1, f2, d⟩
theorem Inv.unpinned {pins pl : List (Addr × Obj)} {σ : St} {H : Hp} {s : Shared} (I : Inv X (pins ++ pl) σ H s) : Inv X pins σ H s := I.pins_of fun p hp => I.pin p (List.mem_append_right _ (List.mem_append_left _ hp))
theorem ps_for {iter : Expr} {body : List Stmt} {wi : TI} {g : TG} {tb : TS} {pos : Pos} (hp : PassesOwn (model X.prog X.w) X.A X.env X.xe) (hc : X.calm = true) (hi : PI X tg iter wi) (hg : PG X tg g) (hb : PSs X body tb)
    (hs : ∀ x, foldedSetIterable iter X.env x = pure x := by intro _; rfl) : PS X (.For tg iter body [] pos) (tFor wi g tb) := by
  intro pins s σ H D I h
  refine wpAny_For (thn (hi pins s σ H _ I h) fun v s1 h1 => thn h1 fun itv s2 h2 => ?_) hs
  obtain ⟨it, fp, tn, J, H2, e, I2, T, st2, f2, W, ⟨m0, w0⟩, turn⟩ := h2
  subst e
  -- what stays true of the iterator's objects through the loop
  have stat : ∀ {H' : Hp}, (∀ b ∈ fp, H' b = none) → ∀ b ∈ fp, FpOk X pins H' b := fun hn b hb => ⟨hn b hb, (f2 b hb).2⟩
  refine codeAny_forLoop_any (fun n s' => ∃ i σ' H', Inv X pins σ' H' s' ∧ tn i s'.heap ∧ (∀ b ∈ fp, H' b = none) ∧ W i n σ' H') ?_ m0 ⟨0, σ, H2, I2, st2, fun b hb => (f2 b hb).1, w0⟩
  rintro n s3 ⟨i, σ3, H3, I3, st3, fr3, w3⟩
  rcases turn i n σ3 H3 w3 with ⟨stop, qn⟩ | ⟨go, N, hN, step⟩
  · refine wpAny_passesOwn hp (thn (T.done X rfl rfl rfl hc i pins s3 σ3 H3 X.xe I3 (stat fr3) st3 stop) fun r s4 ⟨hr, I4⟩ => ?_)
    subst hr
    exact wpAny_execs_nil ⟨σ3, H3, I4, qn⟩
  · refine wpAny_passesOwn hp (thn (T.item X rfl rfl rfl hc i pins s3 σ3 H3 X.xe I3 (stat fr3) st3 go) fun r s4 ⟨u, hr, h4⟩ => ?_)
    subst hr
    refine wpAny_passesOwn hp (thn h4 fun _ s5 ⟨x, H5, I5, r5, y5, st5, fr5⟩ => ?_)
    have I5' := I5.pinned (stat fr5) (T.obj _ _ st5)
    refine wpAny_passesOwn hp (thn (hg _ s5 σ3 H5 x u _ I5' r5 (step x H5 y5)) fun _ s6 ⟨σ6, H6, I6, q6⟩ => ?_)
    refine wpAny_passesOwn hp (thn (hb _ s6 σ6 H6 _ I6 q6) fun f s7 q7 => ?_)
    have again : ∀ {σ7 : St} {H7 : Hp}, Inv X (pins ++ pinsAt fp s5.heap) σ7 H7 s7 → N σ7 H7 → ∃ m, m < n ∧ ∃ i σ' H', Inv X pins σ' H' s7 ∧ tn i s7.heap ∧ (∀ b ∈ fp, H' b = none) ∧ W i m σ' H' := fun {σ7 H7} I7 n7 => by
      obtain ⟨m', hm, w7⟩ := hN σ7 H7 n7
      refine ⟨m', hm, i + 1, σ7, H7, I7.unpinned, T.keep _ _ _ st5 fun b hb o e => (I7.pin (b, o) (List.mem_append_right _ (List.mem_append_right _ (mem_pinsAt hb e)))).1, fun b hb => ?_, w7⟩
      obtain ⟨o, e, d⟩ := T.obj _ _ st5 b hb
      exact (I7.pin (b, o) (List.mem_append_right _ (List.mem_append_right _ (mem_pinsAt hb e)))).2.1
    cases f with
    | next => obtain ⟨σ7, H7, I7, n7⟩ := q7; exact again I7 n7
    | cont => obtain ⟨σ7, H7, I7, n7⟩ := q7; exact again I7 n7
    | brk => obtain ⟨σ7, H7, I7, q7⟩ := q7; exact ⟨σ7, H7, I7.unpinned, q7⟩
    | ret v => obtain ⟨x7, σ7, H7, I7, r7, q7⟩ := q7; exact ⟨x7, σ7, H7, I7.unpinned, r7, q7⟩
end
end L2
namespace L2
open PySem PySem.Spec PyProof.Rows
noncomputable abbrev R2 := V → V → Hp → VK → Prop
noncomputable def OpR (X : Cx) (f : Value → Value → Sem Value) (r : R2) : Prop :=
  ∀ (pins : List (Addr × Obj)) (s : Shared) (σ : St) (H : Hp) (x y : V) (v u : Value) (Q : VK), Inv X pins σ H s → RelV x v → RelV y u → r x y H Q →
    wpAny (model X.prog X.w) X.A (f v u) (EP X pins σ Q) X.xe s
noncomputable def UnR (X : Cx) (f : Value → Sem Value) (r : V → Hp → VK → Prop) : Prop :=
  ∀ (pins : List (Addr × Obj)) (s : Shared) (σ : St) (H : Hp) (x : V) (v : Value) (Q : VK), Inv X pins σ H s → RelV x v → r x H Q →
    wpAny (model X.prog X.w) X.A (f v) (EP X pins σ Q) X.xe s
noncomputable def CallR (X : Cx) (f : Value) (r : List V → Hp → VK → Prop) : Prop :=
  ∀ (pins : List (Addr × Obj)) (s : Shared) (σ : St) (H : Hp) (xs : List V) (us : List Value) (Q : VK), Inv X pins σ H s → Vals xs us → r xs H Q →
    wpAny (model X.prog X.w) X.A (call f us) (EP X pins σ Q) X.xe s
noncomputable def TruR (X : Cx) (r : V → Hp → (Bool → Hp → Prop) → Prop) : Prop :=
  ∀ (pins : List (Addr × Obj)) (s : Shared) (σ : St) (H : Hp) (x : V) (v : Value) (Q : Bool → Hp → Prop), Inv X pins σ H s → RelV x v → r x H Q →
    wpAny (model X.prog X.w) X.A (truthy v) (TP X pins σ Q) X.xe s
noncomputable def tOp (r : R2) (ta tb : TE) : TE := fun σ H Q => ta σ H fun x H1 => tb σ H1 fun y H2 => r x y H2 Q
noncomputable def rI (C : Int → Int → Prop) (g : Int → Int → V) : R2 := fun x y H Q => ∃ i j, x = .int i ∧ y = .int j ∧ C i j ∧ Q (g i j) H
noncomputable def rI0 (g : Int → Int → V) : R2 := fun x y H Q => ∃ i j, x = .int i ∧ y = .int j ∧ Q (g i j) H
section
variable {X : Cx} {a b c : Expr} {ta tb tc : TE} {pos : Pos}
theorem binT (ha : PE X a ta) (hb : PE X b tb) {pins : List (Addr × Obj)} {s : Shared} {σ : St} {H : Hp} {R : V → V → Hp → Prop} (I : Inv X pins σ H s)
    (h : ta σ H fun x H1 => tb σ H1 fun y H2 => R x y H2) {Q : Value → Shared → Prop} {f : Value → Value → Sem Value}
    (hf : ∀ v u s2 x y H2, Inv X pins σ H2 s2 → RelV x v → RelV y u → R x y H2 → wpAny (model X.prog X.w) X.A (f v u) Q X.xe s2) :
    wpAny (model X.prog X.w) X.A (eval a X.env) (fun v s₁ => wpAny (model X.prog X.w) X.A (eval b X.env) (fun u s₂ => wpAny (model X.prog X.w) X.A (f v u) Q X.xe s₂) X.xe s₁) X.xe s := by
  refine thn (ha pins s σ H _ I h) fun v s1 ⟨x, H1, I1, r1, q1⟩ => ?_
  refine thn (hb pins s1 σ H1 _ I1 q1) fun u s2 ⟨y, H2, I2, r2, q2⟩ => ?_
  exact hf v u s2 x y H2 I2 r1 r2 q2
theorem pe_op {op : Operator} {r : R2} (ho : OpR X (binaryOp op) r) (ha : PE X a ta) (hb : PE X b tb) : PE X (.BinOp a op b pos) (tOp r ta tb) := by
  intro pins s σ H Q I h
  exact wpAny_BinOp (binT ha hb I h fun v u s2 x y H2 I2 rx ry q => ho pins s2 σ H2 x y v u Q I2 rx ry q)
theorem opI {f : Value → Value → Sem Value} {C : Int → Int → Prop} {g : Int → Int → Int}
    (rule : ∀ (i j : Int) (t u : Tok) (s : Shared) (Q : Value → Shared → Prop) (E : Value → Shared → Prop), C i j → Q (.int (g i j) s.toks) { s with toks := s.toks + 1 } → wpAny (model X.prog X.w) X.A (f (.int i t) (.int j u)) Q E s) :
    OpR X f (rI C fun i j => .int (g i j)) := by
  intro pins s σ H x y v u Q I rx ry h
  obtain ⟨i, j, rfl, rfl, hc, q⟩ := h
  obtain ⟨t, rfl⟩ := rx
  obtain ⟨t', rfl⟩ := ry
  exact rule i j t t' s _ _ hc ⟨.int (g i j), H, I.tok _, ⟨_, rfl⟩, q⟩
theorem opI0 {f : Value → Value → Sem Value} {g : Int → Int → Int}
    (rule : ∀ (i j : Int) (t u : Tok) (s : Shared) (Q : Value → Shared → Prop) (E : Value → Shared → Prop), Q (.int (g i j) s.toks) { s with toks := s.toks + 1 } → wpAny (model X.prog X.w) X.A (f (.int i t) (.int j u)) Q E s) :
    OpR X f (rI0 fun i j => .int (g i j)) := by
  intro pins s σ H x y v u Q I rx ry h
  obtain ⟨i, j, rfl, rfl, q⟩ := h
  obtain ⟨t, rfl⟩ := rx
  obtain ⟨t', rfl⟩ := ry
  exact rule i j t t' s _ _ ⟨.int (g i j), H, I.tok _, ⟨_, rfl⟩, q⟩
theorem opB0 {f : Value → Value → Sem Value} {g : Int → Int → Bool}
    (rule : ∀ (i j : Int) (t u : Tok) (s : Shared) (Q : Value → Shared → Prop) (E : Value → Shared → Prop), Q (.bool (g i j)) s → wpAny (model X.prog X.w) X.A (f (.int i t) (.int j u)) Q E s) :
    OpR X f (rI0 fun i j => .bl (g i j)) := by
  intro pins s σ H x y v u Q I rx ry h
  obtain ⟨i, j, rfl, rfl, q⟩ := h
  obtain ⟨t, rfl⟩ := rx
  obtain ⟨t', rfl⟩ := ry
  exact rule i j t t' s _ _ ⟨.bl (g i j), H, I, rfl, q⟩
noncomputable def CPow (i j : Int) : Prop := 0 ≤ j ∧ j ≤ 1000000 ∧ i.natAbs < 2 ^ 64
noncomputable def CMul (i j : Int) : Prop := (-(2 ^ 64) < i ∧ i < 2 ^ 64) ∨ (-(2 ^ 64) < j ∧ j < 2 ^ 64)
theorem CMul.ok {i j : Int} (h : CMul i j) : IntMulOk i j := by
  rcases h with ⟨h1, h2⟩ | ⟨h1, h2⟩
  · exact .of_left (intBits_le_64 h1 h2)
  · exact .of_right (intBits_le_64 h1 h2)
theorem op_add : OpR X (binaryOp .Add) (rI0 fun i j => .int (i + j)) := opI0 fun _ _ _ _ _ _ _ q => add_int q
theorem op_sub : OpR X (binaryOp .Sub) (rI0 fun i j => .int (i - j)) := opI0 fun _ _ _ _ _ _ _ q => sub_int q
theorem op_mul : OpR X (binaryOp .Mult) (rI CMul fun i j => .int (i * j)) := opI fun _ _ _ _ _ _ _ hc q => mul_int q hc.ok
theorem op_mod : OpR X (binaryOp .Mod) (rI (fun _ j => 0 < j) fun i j => .int (i % j)) := opI fun i j _ _ _ _ _ hc q => by
  have h1 : (0 : Int) < j := hc
  exact mod_int' (by omega) (by rw [Int.fmod_eq_emod_of_nonneg i (by omega)]; exact q)
theorem op_pow : OpR X (binaryOp .Pow) (rI CPow fun i j => .int (i ^ j.toNat)) := opI fun _ _ _ _ _ _ _ hc q => pow_int_small hc.1 hc.2.1 hc.2.2 q
end
section
variable {X : Cx} {a b c : Expr} {ta tb tc : TE} {pos : Pos}
theorem fin_bl {pins : List (Addr × Obj)} {σ : St} {H : Hp} {s : Shared} {Q : VK} {k k' : Bool} (I : Inv X pins σ H s) (q : Q (.bl k) H) (e : k = k') : EP X pins σ Q (.bool k') s := by
  subst e
  exact ⟨.bl k, H, I, rfl, q⟩
theorem op_le : OpR X (compareOp .LtE) (rI0 fun i j => .bl (decide (i ≤ j))) := opB0 fun _ _ _ _ _ _ _ q => le_int q
theorem op_gt : OpR X (compareOp .Gt) (rI0 fun i j => .bl (decide (j < i))) := opB0 fun _ _ _ _ _ _ _ q => gt_int q
theorem op_ge : OpR X (compareOp .GtE) (rI0 fun i j => .bl (decide (j ≤ i))) := opB0 fun _ _ _ _ _ _ _ q => ge_int q
theorem op_in_str : OpR X (compareOp .In) (fun x y H Q => ∃ i j, x = .str i ∧ y = .str j ∧ Q (.bl (!(Builtin.Str.occurrences j i 0 j.length 1).isEmpty)) H) := by
  intro pins s σ H x y v u Q I rx ry h
  obtain ⟨i, j, rfl, rfl, q⟩ := h
  obtain ⟨t, rfl⟩ := rx
  obtain ⟨t', rfl⟩ := ry
  exact in_str (fin_bl I q rfl)
theorem op_isN : OpR X (compareOp .Is) (fun x y H Q => y = .non ∧ Q (.bl (decide (x = .non))) H) := by
  intro pins s σ H x y v u Q I rx ry h
  obtain ⟨rfl, q⟩ := h
  cases ry
  refine is_none_gen (fin_bl I q ?_)
  cases x <;> first
    | (cases rx; rfl)
    | (obtain ⟨t, rfl⟩ := rx; rfl)
theorem op_notN : OpR X (compareOp .IsNot) (fun x y H Q => y = .non ∧ Q (.bl (!decide (x = .non))) H) := by
  intro pins s σ H x y v u Q I rx ry h
  obtain ⟨rfl, q⟩ := h
  cases ry
  refine isnot_none_gen (fin_bl I q ?_)
  cases x <;> first
    | (cases rx; rfl)
    | (obtain ⟨t, rfl⟩ := rx; rfl)
theorem OpR.or {f : Value → Value → Sem Value} {r r' : R2} (h : OpR X f r) (h' : OpR X f r') : OpR X f (fun x y H Q => r x y H Q ∨ r' x y H Q) := by
  intro pins s σ H x y v u Q I rx ry q
  rcases q with q | q
  · exact h pins s σ H x y v u Q I rx ry q
  · exact h' pins s σ H x y v u Q I rx ry q
theorem pe_cmpR {op : CmpOp} {r : R2} (ho : OpR X (compareOp op) r) (ha : PE X a ta) (hb : PE X b tb) (hm : behindInMarks op b = false) : PE X (.Compare a [op] [b] pos) (tOp r ta tb) := by
  intro pins s σ H Q I h
  exact wpAny_Compare1 (binT ha hb I h fun v u s2 x y H2 I2 rx ry q => ho pins s2 σ H2 x y v u Q I2 rx ry q) hm
noncomputable def tTest (t : TE) : TT := fun σ H Q => t σ H fun x H' => ∃ k, x = .bl k ∧ Q k H'
theorem pt_cmpR {op : CmpOp} {r : R2} (ho : OpR X (compareOp op) r) (ha : PE X a ta) (hb : PE X b tb) (hm : behindInMarks op b = false) : PT X (.Compare a [op] [b] pos) (tTest (tOp r ta tb)) := by
  intro pins s σ H Q I h
  refine wpAny_isTrue_Compare1 (thn (ha pins s σ H _ I h) fun v s1 ⟨x, H1, I1, r1, q1⟩ => thn (hb pins s1 σ H1 _ I1 q1) fun u s2 ⟨y, H2, I2, r2, q2⟩ =>
    thn (ho pins s2 σ H2 x y v u _ I2 r1 r2 q2) fun c s3 ⟨z, H3, I3, r3, k, e, q3⟩ => ?_) hm
  subst e
  cases r3
  exact wpAny_truthy_bool ⟨H3, I3, q3⟩
noncomputable def tChain (r r' : R2) (ta tb tc : TE) : TE := fun σ H Q => ta σ H fun x H1 => tb σ H1 fun y H2 => r x y H2 fun z H3 => ∃ k, z = .bl k ∧
  (if k = true then tc σ H3 fun w' H4 => r' y w' H4 Q else Q (.bl false) H3)
theorem pt_chain {op op' : CmpOp} {r r' : R2} (ho : OpR X (compareOp op) r) (ho' : OpR X (compareOp op') r') (ha : PE X a ta) (hb : PE X b tb) (hc : PE X c tc)
    (hm : lastMarks [op, op'] [b, c] = false := by with_unfolding_all rfl) : PT X (.Compare a [op, op'] [b, c] pos) (tTest (tChain r r' ta tb tc)) := by
  intro pins s σ H Q I h
  refine isTrue_chain (thn (ha pins s σ H _ I h) fun v s1 ⟨x, H1, I1, r1, q1⟩ => test_link (thn (hb pins s1 σ H1 _ I1 q1) fun u s2 ⟨y, H2, I2, r2, q2⟩ =>
    thn (ho pins s2 σ H2 x y v u _ I2 r1 r2 q2) fun d s3 ⟨z, H3, I3, r3, k, e, q3⟩ => ?_)) hm
  subst e
  cases r3
  refine wpAny_truthy_bool ?_
  cases k with
  | false =>
    obtain ⟨k', e', q'⟩ := q3
    cases e'
    exact ite_ff ⟨H3, I3, q'⟩
  | true =>
    refine ite_tt (test_last (thn (hc pins s3 σ H3 _ I3 q3) fun w' s4 ⟨z', H4, I4, r4, q4⟩ => thn (ho' pins s4 σ H4 y z' u w' _ I4 r2 r4 q4) fun d' s5 ⟨z2, H5, I5, r5, k2, e2, q5⟩ => ?_))
    subst e2
    cases r5
    exact wpAny_truthy_bool ⟨H5, I5, q5⟩
noncomputable def TruV (K : PySem.W.Frag) (x : V) (H : Hp) (k : Bool) : Prop :=
  match x with
  | .non => k = false
  | .bl b => k = b
  | .int i => k = (i != 0)
  | .str y => y.length ≤ sizeLine ∧ k = ((y.length : Int) != 0)
  | .byt y => y.size ≤ sizeLine ∧ k = ((y.size : Int) != 0)
  | .ref p => (∃ xs, SqL K H p xs ∧ k = !xs.isEmpty) ∨ (∃ xs, SqT K H p xs ∧ k = !xs.isEmpty) ∨ ∃ kvs, H p = some (.dK kvs) ∧ k = !kvs.isEmpty
  | _ => False
theorem isEmpty_kv {κ : Type} {kvs : List (κ × V)} {vs : List (κ × Value)} (r : KV kvs vs) : (!vs.isEmpty) = !kvs.isEmpty := by
  cases r <;> rfl
theorem isEmpty_of {xs : List V} {its : List Value} (r : Vals xs its) : (!its.toArray.isEmpty) = !xs.isEmpty := by
  cases r <;> simp
theorem line63 : (sizeLine : Nat) < 2 ^ 63 := by rw [sizeLine_eq]; decide
theorem tru_ok : TruR X (fun x H Q => ∃ k, TruV X.K x H k ∧ Q k H) := by
  intro pins s σ H x v Q I rx h
  obtain ⟨k, e, q⟩ := h
  have hl := line63
  have hs : sizeLine = 16777216 := sizeLine_eq
  cases x with
  | non =>
    cases rx
    have e' : k = false := e
    subst e'
    exact truthy_none ⟨H, I, q⟩
  | bl b =>
    cases rx
    have e' : k = b := e
    subst e'
    exact wpAny_truthy_bool ⟨H, I, q⟩
  | int i =>
    obtain ⟨t, rfl⟩ := rx
    have e' : k = (i != 0) := e
    subst e'
    exact PySem.P.truthy_int ⟨H, I, q⟩
  | str y =>
    obtain ⟨t, rfl⟩ := rx
    obtain ⟨hy, e'⟩ : y.length ≤ sizeLine ∧ k = ((y.length : Int) != 0) := e
    subst e'
    exact PySem.P.truthy_str (by omega) ⟨H, I.tok _, q⟩
  | byt y =>
    obtain ⟨t, rfl⟩ := rx
    obtain ⟨hy, e'⟩ : y.size ≤ sizeLine ∧ k = ((y.size : Int) != 0) := e
    subst e'
    exact PySem.W.truthy_bytes (by omega) ⟨H, I.tok _, q⟩
  | ref p =>
    cases rx
    have e' : (∃ xs, SqL X.K H p xs ∧ k = !xs.isEmpty) ∨ (∃ xs, SqT X.K H p xs ∧ k = !xs.isEmpty) ∨ ∃ kvs, H p = some (.dK kvs) ∧ k = !kvs.isEmpty := e
    rcases e' with ⟨xs, hx, e'⟩ | ⟨xs, hx, e'⟩ | ⟨kvs, hx, e'⟩
    · subst e'
      obtain ⟨its, r, pl, hz⟩ := I.list hx
      have hlen := r.length
      exact wpAny_truthy_list pl.isList (by simp only [List.size_toArray]; omega) ⟨H, I.tok _, by rw [isEmpty_of r]; exact q⟩
    · subst e'
      obtain ⟨its, r, pl, hz⟩ := I.tuple hx
      have hlen := r.length
      exact truthy_tuple pl (by simp only [List.size_toArray]; omega) ⟨H, I.tok _, by rw [isEmpty_of r]; exact q⟩
    · subst e'
      obtain ⟨hz, hS, vs, r, m⟩ : kvs.length ≤ sizeLine ∧ (p == sysModules) = false ∧ ∃ vs, KV kvs vs ∧ s.heap.DictOf (mixKind X.prog X.w) p vs := I.hok p _ hx
      have hlen : kvs.length = vs.length := Paired.length r
      exact wpAny_truthy_dict hS m (by omega) ⟨H, I.tok _, by rw [isEmpty_kv r]; exact q⟩
  | _ => exact (show False from e).elim
theorem pt_truth (ha : PE X a ta) (he : ∀ whole, isTrue a X.env whole = (do let v ← whole; standAt a.pos; holding [v] (truthy v))) :
    PT X a (fun σ H Q => ta σ H fun x H' => ∃ k, TruV X.K x H' k ∧ Q k H') := by
  intro pins s σ H Q I h
  exact isTrue_plain (thn (ha pins s σ H _ I h) fun v s1 ⟨x, H1, I1, r1, q1⟩ => tru_ok pins s1 σ H1 x v Q I1 r1 q1) (he _)
theorem op_add_str : OpR X (binaryOp .Add) (fun x y H Q => ∃ i j, x = .str i ∧ y = .str j ∧ i.length + j.length ≤ sizeLine ∧ Q (.str (i ++ j)) H) := by
  intro pins s σ H x y v u Q I rx ry h
  obtain ⟨i, j, rfl, rfl, hz, q⟩ := h
  obtain ⟨t, rfl⟩ := rx
  obtain ⟨t', rfl⟩ := ry
  exact add_str (fun t' tk => ⟨.str (i ++ j), H, I.tok _, ⟨_, rfl⟩, q⟩) hz
theorem vals1 {x : V} {us : List Value} (r : Vals [x] us) : ∃ u, us = [u] ∧ RelV x u := by
  cases r with
  | cons r1 r2 => cases r2; exact ⟨_, rfl, r1⟩
theorem vals2 {x y : V} {us : List Value} (r : Vals [x, y] us) : ∃ u w', us = [u, w'] ∧ RelV x u ∧ RelV y w' := by
  cases r with
  | cons r1 r2 =>
    cases r2 with
    | cons r3 r4 => cases r4; exact ⟨_, _, rfl, r1, r3⟩
theorem call_abs : CallR X (.builtin "abs") (fun xs H Q => ∃ i, xs = [.int i] ∧ Q (.int (if i < 0 then -i else i)) H) := by
  intro pins s σ H xs us Q I r h
  obtain ⟨i, rfl, q⟩ := h
  obtain ⟨u, rfl, t, rfl⟩ := vals1 r
  exact call_abs_int fun u tk => ⟨.int (if i < 0 then -i else i), H, I.tok _, ⟨_, rfl⟩, q⟩
theorem call_int1 : CallR X (.type "int") (fun xs H Q => (∃ i, xs = [.int i] ∧ Q (.int i) H) ∨ ∃ k, xs = [.bl k] ∧ Q (.int (if k then 1 else 0)) H) := by
  intro pins s σ H xs us Q I r h
  rcases h with ⟨i, rfl, q⟩ | ⟨k, rfl, q⟩
  · obtain ⟨u, rfl, t, rfl⟩ := vals1 r
    exact call_int_int ⟨.int i, H, I, ⟨_, rfl⟩, q⟩
  · obtain ⟨u, rfl, r1⟩ := vals1 r
    cases r1
    exact call_int_bool ⟨.int (if k then 1 else 0), H, I.tok _, ⟨_, rfl⟩, q⟩
end
end L2
namespace L2
open PySem PySem.Spec PyProof.Rows
structure ObjM (h : Heap) (x dx C : Addr) (mA : Str → Option Value) : Prop where
  obj : h.get? x = some (PySem.W.instObj C dx)
  ns : h.Ns1 dx mA
  ne : dx ≠ x
section
variable {prog : Program} {w : World} {A : Around} {E : Value → Shared → Prop} {s : Shared} {K : PySem.W.Frag} {x dx C f : Addr} {mA : Str → Option Value} {name : Str} {v : Value}
end
theorem RelO.some_of {v : V} {o : Option Value} (r : RelO (some v) o) : ∃ u, o = some u ∧ RelV v u := by
  cases o with
  | none => exact (show False from r).elim
  | some u => exact ⟨u, rfl, r⟩
section
variable {P : Program} {w : World} {H H' : Hp} {h h' : Heap} {a C dx : Addr} {fs fs' : List (Str × V)}
end
structure Cls (K : PySem.W.Frag) (C : Addr) : Prop where
  pg : PySem.W.plainGet K C Str.empty = true
  hd : PySem.W.hasDictIn K C = true
  po : PySem.W.plainOver K C = true
  sa : PySem.W.findIn K (.ref C) "__setattr__" = some (some (.builtin "object.__setattr__"))
theorem Cls.get {K : PySem.W.Frag} {C : Addr} (c : Cls K C) (f : Str) : PySem.W.plainGet K C f = true := c.pg
structure Con (K : PySem.W.Frag) (C : Addr) (f : Str) (v : V) (u : Value) : Prop where
  at_ : PySem.W.findIn K (.ref C) f = some (some u)
  rel : RelV v u
  get : PySem.W.specialIn K u "__get__" = some none
  cp : PySem.W.copiedNames.contains f = false
structure Meth (K : PySem.W.Frag) (C : Addr) (m : Str) (f : Addr) : Prop where
  at_ : PySem.W.findIn K (.ref C) m = some (some (.ref f))
  fn : PySem.W.isFn K (.ref f) = true
  kp : PySem.W.keepIn K (.ref f) = true
section
variable {X : Cx} {pins : List (Addr × Obj)} {σ : St} {H : Hp} {s : Shared} {a C dx : Addr} {fs : List (Str × V)} {f : Str} {v : V} {A : Around} {E : Value → Shared → Prop}
end
section
variable {X : Cx} {o e value : Expr} {f : Str} {pos pos' tpos : Pos} {ta tv : TE}
end
section
variable {X : Cx} {pins : List (Addr × Obj)} {σ : St} {H : Hp} {s : Shared} {A : Around} {E : Value → Shared → Prop} {Q : Value → Shared → Prop} {c : Value} {b : Bool}
inductive TyOf (K : PySem.W.Frag) (H : Hp) : V → Value → Prop where
  | non : TyOf K H .non (.type "NoneType")
  | bl (x : Bool) : TyOf K H (.bl x) (.type "bool")
  | int (i : Int) : TyOf K H (.int i) (.type "int")
  | str (x : Str) : TyOf K H (.str x) (.type "str")
  | flt (x : UInt64) : TyOf K H (.flt x) (.type "float")
  | lst {a : Addr} {xs : List V} (e : H a = some (.lst xs)) : TyOf K H (.ref a) (.type "list")
  | frz {a : Addr} {o : Obj} {xs : List V} (e : H a = some (.frz o (.lst xs))) : TyOf K H (.ref a) (.type "list")
  | tup {a : Addr} {xs : List V} (e : H a = some (.tup xs)) : TyOf K H (.ref a) (.type "tuple")
  | dK {a : Addr} {kvs : List (Key × V)} (e : H a = some (.dK kvs)) : TyOf K H (.ref a) (.type "dict")
  | dT {a : Addr} {kvs : List (List Key × V)} (e : H a = some (.dT kvs)) : TyOf K H (.ref a) (.type "dict")
  | ins {a C dx : Addr} {fs : List (Str × V)} (e : H a = some (.ins C dx fs)) (cl : Cls K C) (ha : PySem.W.findIn K (.ref C) "__class__" = some (some (.builtin "object.__class__")))
      (hn : PySem.W.specialIn K (.builtin "object.__class__") "__get__" = some (some (.builtin "getset_descriptor.__get__"))) (htk : PySem.W.takesIn K (.builtin "object.__class__") = some true)
      (hm : PySem.W.mroIn K C (.type "object") = some true) : TyOf K H (.ref a) (.ref C)
end
end L2
namespace L2
open PySem PySem.Spec PyProof.Rows
structure Room (k : Nat) (A : Around) : Prop where
  hd : A.handled = none
  dp : A.depth + 3 * k + 5 < recursionLimit
  un : A.units + 16 * k + 200 < cLine
theorem Room.mono {j k : Nat} {A : Around} (r : Room k A) (h : j ≤ k) : Room j A := ⟨r.hd, by have := r.dp; omega, by have := r.un; omega⟩
theorem Room.deeper {k : Nat} {A : Around} (r : Room (k + 1) A) (env : Env) : Room k (A.deeper env) :=
  ⟨r.hd, by have := r.dp; show A.depth + 1 + 3 * k + 5 < _; omega, by have := r.un; show A.units + 3 + 16 * k + 200 < _; omega⟩
theorem Room.in1 {k : Nat} {A : Around} (r : Room (k + 1) A) : Room k A.in1 :=
  ⟨r.hd, by have := r.dp; show A.depth + 3 * k + 5 < _; omega, by have := r.un; show A.units + 1 + 16 * k + 200 < _; omega⟩
theorem Room.depth {k : Nat} {A : Around} (r : Room k A) : A.depth < recursionLimit := by have := r.dp; omega
theorem Room.units {k : Nat} {A : Around} (r : Room k A) : A.units + 64 < cLine := by have := r.un; omega
noncomputable def tNil : TA := fun _ H Q => Q [] H
noncomputable def tCons (ta : TE) (tr : TA) : TA := fun σ H Q => ta σ H fun x H1 => tr σ H1 fun xs H2 => Q (x :: xs) H2
section
variable {X : Cx} {e : Expr} {es : List Expr} {te : TE} {t : TA} {pos : Pos}
theorem pa_nil : PA X [] tNil := fun _ _ _ _ H Q I h => Calls.spliced_nil ⟨[], H, I, .nil, h⟩
theorem pa_cons (ha : PE X e te) (hr : PA X es t) (hs : starEach (e :: es) X.env = (false, eval e X.env) :: starEach es X.env := by rfl) : PA X (e :: es) (tCons te t) := by
  intro pos pins s σ H Q I h
  rw [hs]
  show wpAny _ _ (spliced ((false, eval e X.env) :: backTo pos (starEach es X.env))) _ _ s
  refine Calls.spliced_cons (thn (ha pins s σ H _ I h) fun u s1 ⟨x, H1, I1, r1, q1⟩ => ?_)
  exact thn (hr pos pins s1 σ H1 _ I1 q1) fun us s2 ⟨xs, H2, I2, r2, q2⟩ => ⟨x :: xs, H2, I2, .cons r1 r2, q2⟩
noncomputable def tTup (t : TA) : TE := fun σ H Q => t σ H fun xs H1 => xs.length ≤ sizeLine ∧ ∀ p, H1 p = none → Q (.ref p) (upd H1 p (.tup xs))
noncomputable def tLst (t : TA) : TE := fun σ H Q => t σ H fun xs H1 => xs.length ≤ sizeLine ∧ ∀ p, H1 p = none → Q (.ref p) (upd H1 p (.lst xs))
theorem pe_tup {x1} (h : PA X es t) : PE X (.Tuple es x1 pos) (tTup t) := by
  intro pins s σ H Q I hq
  refine wpAny_Tuple_spliced (thn (h pos pins s σ H _ I hq) fun us s1 ⟨xs, H1, I1, r, z, q⟩ => ⟨by rw [← r.length]; exact z, ?_⟩)
  have hf : H1 s1.heap.objs.size = none := I1.hok.fresh (Nat.le_refl _)
  refine ⟨.ref s1.heap.objs.size, upd H1 s1.heap.objs.size (.tup xs), I1.laid (t' := s1.toks) (fun b u e => Heap.get?_push_of_some _ e) (Nat.le_refl _) ?_, rfl, q _ hf⟩
  exact ⟨z, us, r, ⟨_, Heap.get?_push_size _ rfl, rfl, _, rfl⟩⟩
theorem pe_lst (h : PA X es t) : PE X (.List es pos) (tLst t) := by
  intro pins s σ H Q I hq
  refine wpAny_List_spliced (thn (h pos pins s σ H _ I hq) fun us s1 ⟨xs, H1, I1, r, z, q⟩ => ⟨by rw [← r.length]; exact z, ?_⟩)
  have hf : H1 s1.heap.objs.size = none := I1.hok.fresh (Nat.le_refl _)
  refine ⟨.ref s1.heap.objs.size, upd H1 s1.heap.objs.size (.lst xs), I1.laid (t' := s1.toks) (fun b u e => Heap.get?_push_of_some _ e) (Nat.le_refl _) ?_, rfl, q _ hf⟩
  exact ⟨z, us, 0, r, Heap.get?_push_size _ rfl⟩
end
noncomputable abbrev Sp := List V → Hp → VK → XK → Prop
noncomputable abbrev CXT := List Env → Hp → Shared → XK → Value → Shared → Prop
structure Env0 (P : Program) (w : World) (K : PySem.W.Frag) (mg : Str → Option Value) (base : Heap) (A : Around) (outer : List Env) (s : Shared) (H : Hp) : Prop where
  frames : A.frames = some outer
  mod : Mod K mg base
  bs : ∀ b o, base.get? b = some o → s.heap.get? b = some o ∧ H b = none
  bsz : base.objs.size ≤ s.heap.objs.size
  funs : s.heap.FunFrames base outer
  frf : ∀ b ∈ frs outer, H b = none
  hok : HOk P w H s.heap
  bare : AllBare s.gens
noncomputable def CE (outer : List Env) (P : Program) (w : World) (H : Hp) (s : Shared) (Q : VK) (u : Value) (s' : Shared) : Prop :=
  ∃ v H', s'.os = s.os ∧ AllBare s'.gens ∧ Un (frs outer) [] H H' s.heap s'.heap ∧ HOk P w H' s'.heap ∧ RelV v u ∧ Q v H'
noncomputable def CR (CX : CXT) (outer : List Env) (P : Program) (w : World) (H : Hp) (s : Shared) (Q : VK) (E : XK) (r : Result) (s' : Shared) : Prop :=
  match r with
  | .ok (.ret u) => CE outer P w H s Q u s'
  | .ok _ => False
  | .error e => CX outer H s E e s'
structure FnOk (P : Program) (w : World) (K : PySem.W.Frag) (mg : Str → Option Value) (base : Heap) (CX : CXT) (k : Nat) (f : Addr) (fd : FuncData) (ps : List Str) (sp : Sp) : Prop where
  len : ∀ vs H Q E, sp vs H Q E → vs.length = ps.length
  run : ∀ (A : Around) (outer : List Env) (s : Shared) (H : Hp) (args : Args) (us : List Value) (vs : List V) (Q : VK) (E : XK), Room k A → Env0 P w K mg base A outer s H → BindsTo s fd args (ps.zip us) → Vals vs us → sp vs H Q E →
    codeAny (model P w) A (.call (.ref f) args) (CR CX outer P w H s Q E) s
theorem FnOk.mono {P : Program} {w : World} {K : PySem.W.Frag} {mg : Str → Option Value} {base : Heap} {CX : CXT} {j k : Nat} {f : Addr} {fd : FuncData} {ps : List Str} {sp : Sp} (F : FnOk P w K mg base CX j f fd ps sp) (h : j ≤ k) :
    FnOk P w K mg base CX k f fd ps sp := ⟨F.len, fun A outer s H args us vs Q E hr => F.run A outer s H args us vs Q E (hr.mono h)⟩
theorem FnOk.imp {P : Program} {w : World} {K : PySem.W.Frag} {mg : Str → Option Value} {base : Heap} {CX : CXT} {k : Nat} {f : Addr} {fd : FuncData} {ps : List Str} {sp sp' : Sp} (F : FnOk P w K mg base CX k f fd ps sp)
    (h : ∀ vs H Q E, sp' vs H Q E → sp vs H Q E) : FnOk P w K mg base CX k f fd ps sp' :=
  ⟨fun vs H Q E q => F.len vs H Q E (h _ _ _ _ q), fun A outer s H args us vs Q E hr he hb hv hs => F.run A outer s H args us vs Q E hr he hb hv (h _ _ _ _ hs)⟩
theorem Env0.in1 {P : Program} {w : World} {K : PySem.W.Frag} {mg : Str → Option Value} {base : Heap} {A : Around} {outer : List Env} {s : Shared} {H : Hp} (e : Env0 P w K mg base A outer s H) :
    Env0 P w K mg base A.in1 outer s H := ⟨e.frames, e.mod, e.bs, e.bsz, e.funs, e.frf, e.hok, e.bare⟩
section
variable {X : Cx} {pins : List (Addr × Obj)} {σ : St} {H : Hp} {s s' : Shared}
theorem Inv.env0 (I : Inv X pins σ H s) : Env0 X.prog X.w X.K X.mg X.base X.A X.stack s H :=
  ⟨I.ok.frames, I.ok.mod, I.bs, Nat.le_trans I.ok.bsz I.sz, I.stack, I.stkFree, I.hok, I.bare⟩
theorem Inv.after {Q : VK} {u : Value} (I : Inv X pins σ H s) (h : CE X.stack X.prog X.w H s Q u s') : EP X pins σ Q u s' := by
  obtain ⟨v, H', os, bare, un, hok, r, q⟩ := h
  obtain ⟨hh, g, d, t, os'⟩ := s'
  obtain rfl : os' = s.os := os
  exact ⟨v, H', I.call (h' := hh) (g' := g) (d' := d) (t' := t) (ch := []) un hok bare (fun b z => absurd z (by simp)), r, q⟩
end
noncomputable def tCall (sp : Sp) (dvs : List V) (E : XK) (t : TA) : TE := fun σ H Q => t σ H fun vs H1 => sp (vs ++ dvs) H1 Q E
noncomputable def Binds (K : PySem.W.Frag) (fd : FuncData) (ps : List Str) (ds : List Value) : Prop :=
  ∀ (s : Shared) (us : List Value), K.In s.heap → (us ++ ds).length = ps.length → BindsTo s fd ⟨us, []⟩ (ps.zip (us ++ ds))
theorem Binds.all {K : PySem.W.Frag} {fd : FuncData} {ps : List Str} (h : ∀ us : List Value, us.length = ps.length → bindArgs fd ⟨us, []⟩ = pure (ps.zip us)) : Binds K fd ps [] := fun s us _ hl => by
  rw [List.append_nil] at hl ⊢
  exact .of_eq (h us hl)
noncomputable def Passes (CX : CXT) (X : Cx) (E : XK) : Prop := ∀ (pins : List (Addr × Obj)) (σ : St) (H : Hp) (s : Shared) (e : Value) (s' : Shared), Inv X pins σ H s → CX X.stack H s E e s' → X.xe e s'
section
variable {X : Cx} {CX : CXT} {k : Nat} {f C : Addr} {fd : FuncData} {ps : List Str} {sp : Sp} {dvs : List V} {ds : List Value} {E : XK} {x m : Str} {p pos apos : Pos} {e o : Expr} {es : List Expr} {ta : TE} {t : TA}
theorem run_fn {pins : List (Addr × Obj)} {σ : St} {H : Hp} {s : Shared} {Q : VK} {us : List Value} {vs : List V} (F : FnOk X.prog X.w X.K X.mg X.base CX k f fd ps sp) (hr : Room k X.A) (hb : Binds X.K fd ps ds) (hd : Vals dvs ds) (hx : Passes CX X E)
    (I : Inv X pins σ H s) (r : Vals vs us) (h : sp (vs ++ dvs) H Q E) : wpAny (model X.prog X.w) X.A (call (.ref f) us) (EP X pins σ Q) X.xe s := by
  have r2 : Vals (vs ++ dvs) (us ++ ds) := r.append hd
  have hl : (us ++ ds).length = ps.length := by rw [← r2.length]; exact F.len _ _ _ _ h
  refine wpAny_call (codeAny_mono (F.run X.A X.stack s H ⟨us, []⟩ (us ++ ds) (vs ++ dvs) Q E hr I.env0 (hb s us I.kIn hl) r2 h) fun r s' hq => ?_)
  cases r with
  | error e => exact hx pins σ H s e s' I hq
  | ok fl =>
    cases fl with
    | ret u => exact I.after hq
    | next => exact False.elim hq
    | brk => exact False.elim hq
    | cont => exact False.elim hq
theorem pe_call (F : FnOk X.prog X.w X.K X.mg X.base CX k f fd ps sp) (hr : Room k X.A) (hg : Gl X x) (hm : X.mg x = some (.ref f)) (hk : PySem.W.keepIn X.K (.ref f) = true) (hb : Binds X.K fd ps ds) (hd : Vals dvs ds) (hx : Passes CX X E)
    (ha : PA X (e :: es) t) (hdb : (x == ("__debug__" : Str)) = false := by decide) (he : starEach (e :: es) X.env = (false, eval e X.env) :: starEach es X.env := by rfl) (hpl : (backTo pos (starEach es X.env)).any (·.1) = false := by rfl) :
    PE X (.Call (.Name x p) (e :: es) [] pos) (tCall sp dvs E t) := by
  intro pins s σ H Q I h
  refine wpAny_Call_Name_kw (ld_glob I hg hm ?_ hdb)
  refine PySem.W.callWith_K (h₀ := X.base) I.ok.mod.kin hk (thn (ha pos pins s σ H _ I h) fun us s1 ⟨vs, H1, I1, r, q⟩ => ⟨I1.kIn, ?_⟩) he hpl
  exact run_fn F hr hb hd hx I1 r q
theorem pe_call0 (F : FnOk X.prog X.w X.K X.mg X.base CX k f fd ps sp) (hr : Room k X.A) (hg : Gl X x) (hm : X.mg x = some (.ref f)) (hk : PySem.W.keepIn X.K (.ref f) = true) (hb : Binds X.K fd ps ds) (hd : Vals dvs ds) (hx : Passes CX X E)
    (hdb : (x == ("__debug__" : Str)) = false := by decide) : PE X (.Call (.Name x p) [] [] pos) (tCall sp dvs E tNil) := by
  intro pins s σ H Q I h
  refine wpAny_Call_Name_kw (ld_glob I hg hm ?_ hdb)
  exact PySem.W.callWith_K0 I.kIn hk (run_fn (us := []) F hr hb hd hx I .nil h)
structure Mk (K : PySem.W.Frag) (C f : Addr) : Prop where
  makes : PySem.W.makesIn K C = true
  init : PySem.W.findIn K (.ref C) "__init__" = some (some (.ref f))
  fn : PySem.W.isFn K (.ref f) = true
  kp : PySem.W.keepIn K (.ref C) = true
end
section
variable {X : Cx} {CX : CXT} {k : Nat} {f C : Addr} {fd : FuncData} {ps ks : List Str} {sp : Sp} {E : XK} {x m : Str} {p pos apos kpos : Pos} {e o : Expr} {es : List Expr} {kws : List Keyword} {te ta : TE} {t tk : TA} {nm : Option Str}
structure KBinds (K : PySem.W.Frag) (fd : FuncData) (ps ks : List Str) (g : List Value → List Value → List Value) (gV : List V → List V → List V) : Prop where
  to : ∀ (s : Shared) (us ws : List Value), K.In s.heap → (g us ws).length = ps.length → BindsTo s fd ⟨us, ks.zip ws⟩ (ps.zip (g us ws))
  rel : ∀ {vs : List V} {us : List Value} {zs : List V} {ws : List Value}, Vals vs us → Vals zs ws → Vals (gV vs zs) (g us ws)
variable {g : List Value → List Value → List Value} {gV : List V → List V → List V}
end
structure FnScope (N P : List Str) (sc : Scope) : Prop where
  kind : sc.kind = .function
  co : sc.isCoroutine = false
  gen : sc.isGenerator = false
  nd : N.Nodup
  pre : N.take P.length = P
  par : ∀ x ∈ P, sc.names.lookup x = some .local ∨ sc.names.lookup x = some .cell
  nofree : ∀ y ∈ sc.names, y.2 ≠ .free
theorem bindL_out {kindOf : Str → Option NameKind} {x : Str} : ∀ {binds : List (Str × Value)} {m : Str → Option Value}, (∀ v, (x, v) ∉ binds) → bindL kindOf binds m x = m x
  | [], _, _ => rfl
  | (n, v) :: r, m, h => by
    unfold bindL
    rw [bindL_out fun w hw => h w (List.mem_cons_of_mem _ hw)]
    split
    · have : x ≠ n := by rintro rfl; exact h v List.mem_cons_self
      simp [this]
    · rfl
theorem bindC_out {kindOf : Str → Option NameKind} {x : Str} : ∀ {binds : List (Str × Value)} {m : Str → Option Value}, (∀ v, (x, v) ∉ binds) → bindC kindOf binds m x = m x
  | [], _, _ => rfl
  | (n, v) :: r, m, h => by
    unfold bindC
    rw [bindC_out fun w hw => h w (List.mem_cons_of_mem _ hw)]
    split
    · rfl
    · have : x ≠ n := by rintro rfl; exact h v List.mem_cons_self
      simp [this]
theorem bindL_get {kindOf : Str → Option NameKind} {x : Str} {v : Value} : ∀ {P : List Str} {vs : List Value} {i : Nat} {m : Str → Option Value}, P.Nodup → P[i]? = some x → vs[i]? = some v → kindOf x = some .local →
    bindL kindOf (P.zip vs) m x = some v
  | [], _, _, _, _, h, _, _ => by simp at h
  | _ :: _, [], _, _, _, _, h, _ => by simp at h
  | p :: P, w :: vs, 0, m, nd, h1, h2, hk => by
    simp at h1 h2; subst h1; subst h2
    show bindL kindOf ((p, w) :: P.zip vs) m p = _
    unfold bindL
    rw [bindL_out fun v hv => (List.nodup_cons.mp nd).1 (List.of_mem_zip hv).1, if_pos hk]
    simp
  | p :: P, w :: vs, i + 1, m, nd, h1, h2, hk => by
    show bindL kindOf ((p, w) :: P.zip vs) m x = _
    unfold bindL
    exact bindL_get (i := i) (List.nodup_cons.mp nd).2 (by simpa using h1) (by simpa using h2) hk
theorem bindC_get {kindOf : Str → Option NameKind} {x : Str} {v : Value} : ∀ {P : List Str} {vs : List Value} {i : Nat} {m : Str → Option Value}, P.Nodup → P[i]? = some x → vs[i]? = some v → kindOf x ≠ some .local →
    bindC kindOf (P.zip vs) m x = some v
  | [], _, _, _, _, h, _, _ => by simp at h
  | _ :: _, [], _, _, _, _, h, _ => by simp at h
  | p :: P, w :: vs, 0, m, nd, h1, h2, hk => by
    simp at h1 h2; subst h1; subst h2
    show bindC kindOf ((p, w) :: P.zip vs) m p = _
    unfold bindC
    rw [bindC_out fun v hv => (List.nodup_cons.mp nd).1 (List.of_mem_zip hv).1, if_neg hk]
    simp
  | p :: P, w :: vs, i + 1, m, nd, h1, h2, hk => by
    show bindC kindOf ((p, w) :: P.zip vs) m x = _
    unfold bindC
    exact bindC_get (i := i) (List.nodup_cons.mp nd).2 (by simpa using h1) (by simpa using h2) hk
noncomputable def start (N : List Str) (vs : List V) : St := vs.map some ++ List.replicate (N.length - vs.length) none
noncomputable def cxOf (CX : CXT) (P : Program) (w : World) (K : PySem.W.Frag) (mg : Str → Option Value) (base : Heap) (N : List Str) (qual : Str) (scope : Scope) (f : Addr) (cd : Value) (A : Around) (outer : List Env) (s : Shared) (H : Hp) (E : XK) : Cx where
  prog := P
  w := w
  K := K
  mg := mg
  base := base
  A := A.deeper (envOfC qual scope s.heap.objs.size f cd)
  N := N
  s₀ := s
  H₀ := H
  env := envOfC qual scope s.heap.objs.size f cd
  outer := outer
  stack := envOfC qual scope s.heap.objs.size f cd :: outer
  ex := []
  calm := true
  fn := fun _ => true
  pn := []
  xe := fun e s' => wpAny (model P w) (A.deeper (envOfC qual scope s.heap.objs.size f cd)) (leaving (envOfC qual scope s.heap.objs.size f cd) e) (fun _ s'' => CX outer H s E e s'') (fun e' s'' => CX outer H s E e' s'') s'
theorem cell_has {sc : Scope} {n : Nat} {x : Str} (h : sc.names.lookup x = some .cell) : ∃ c, (cellsFrom n sc.names []).lookup x = some c := by
  have q := PySem.W.cellsFrom_some sc.names n [] (.inl h)
  exact Option.isSome_iff_exists.mp q
theorem inv_start {CX : CXT} {P : Program} {w : World} {K : PySem.W.Frag} {mg : Str → Option Value} {base : Heap} {N ps : List Str} {qual : Str} {scope : Scope} {f : Addr} {cd : Value} {A : Around} {outer : List Env} {s s1 : Shared} {H : Hp} {E : XK} {us : List Value} {vs : List V}
    (S : FnScope N ps scope) (hd : A.handled = none) (e0 : Env0 P w K mg base A outer s H) (hl : vs.length = ps.length) (r : Vals vs us)
    (x : InCallC s s.heap.objs.size (bindL (envOfC qual scope s.heap.objs.size f cd).kindOf (ps.zip us) fun _ => none) (cellsFrom (s.heap.objs.size + 1) scope.names []) (bindC (envOfC qual scope s.heap.objs.size f cd).kindOf (ps.zip us) fun _ => none) s1) :
    Inv (cxOf CX P w K mg base N qual scope f cd A outer s H E) [] (start N vs) H s1 := by
  have hpl : ps.length ≤ N.length := by have := congrArg List.length S.pre; rw [List.length_take] at this; omega
  obtain ⟨h1, tk, rfl, hk⟩ := x.done
  have noA : ∀ b : Addr, b ∉ (cxOf CX P w K mg base N qual scope f cd A outer s H E).ex := fun b z => absurd (show b ∈ ([] : List Addr) from z) (by simp)
  refine ⟨⟨e0.mod, S.kind, rfl, rfl, Nat.le_refl _, fun y z c h1 h2 => ?_, fun y hy => ?_, fun y c _ h => ?_, fun _ => hd, Around.frames_deeper e0.frames, .inr ⟨rfl, rfl⟩, fun b z => absurd z (noA b), e0.bs, e0.bsz, fun b _ _ => noA b, fun b z => absurd z (noA b), e0.funs, e0.frf⟩,
    rfl, e0.bare, Un.kept hk, ⟨_, x.toInCall.ns, fun i y v h1 h2 h3 => ?_⟩, fun y c h => ⟨_, x.cell y c h⟩, e0.hok.fresh (Nat.le_refl _), fun y c h => ?_, fun p hp => absurd (show p ∈ ([] : List (Addr × Obj)) from hp) (by simp), e0.hok.kept hk, ?_⟩
  · exact name_of_addr x.apart (PySem.mem_of_lookup h1) (PySem.mem_of_lookup h2)
  · have hy : scope.names.lookup y = some .cell ∨ scope.names.lookup y = some .free := hy
    rcases hy with hy | hy
    · exact cell_has hy
    · exact absurd rfl (S.nofree _ (PySem.mem_of_lookup hy))
  · exact Nat.le_of_lt (x.above y c (PySem.mem_of_lookup h))
  · have hi : i < vs.length := by
      unfold start at h2
      by_cases hi : i < vs.length
      · exact hi
      · rw [List.getElem?_append_right (by simpa using hi)] at h2
        rw [List.getElem?_replicate] at h2
        split at h2 <;> cases h2
    have ha : vs[i]? = some v := by
      unfold start at h2
      rw [List.getElem?_append_left (by simpa using hi), List.getElem?_map] at h2
      cases e : vs[i]? with
      | none => rw [e] at h2; cases h2
      | some a => rw [e] at h2; cases h2; rfl
    obtain ⟨u, hu, rv⟩ := r.get ha
    have hp : ps[i]? = some y := by
      rw [← S.pre, List.getElem?_take_of_lt (by omega)]; exact h1
    have ndP : ps.Nodup := by rw [← S.pre]; exact S.nd.sublist (List.take_sublist _ _)
    refine ⟨u, rv, ?_⟩
    rcases S.par y (List.mem_of_getElem? hp) with k | k
    · exact .inl ⟨k, bindL_get ndP hp hu k⟩
    · obtain ⟨c, e⟩ := cell_has (n := s.heap.objs.size + 1) k
      refine .inr ⟨.inl k, c, e, ?_⟩
      have q := x.cell y c e
      rw [bindC_get ndP hp hu (by show scope.names.lookup y ≠ _; rw [k]; decide)] at q
      exact q
  · exact e0.hok.fresh (Nat.le_of_lt (x.above y c (PySem.mem_of_lookup h)))
  · unfold start
    show _ = N.length
    rw [List.length_append, List.length_map, List.length_replicate]
    omega
theorem fn_of {CX : CXT} {P : Program} {w : World} {K : PySem.W.Frag} {mg : Str → Option Value} {base : Heap} {k : Nat} {f : Addr} {name qual : Str} {params : Arguments} {body : List Stmt} {scope : Scope} {dV kV doc pm cdv ct oc : Value} {an od : Option Addr}
    {osl : Array (Option Value)} {N ps : List Str} {sp : Sp} (lk : K.lookup f = some ⟨oc, od, .func (PySem.W.fnOf name qual params body scope dV kV doc pm an cdv ct), osl⟩) (hcd : PySem.W.codeIn K cdv qual = true) (S : FnScope N ps scope)
    (len : ∀ vs H Q E, sp vs H Q E → vs.length = ps.length)
    (hbody : ∀ (A : Around) (outer : List Env) (s : Shared) (H : Hp) (vs : List V) (Q : VK) (E : XK), Room k (A.deeper (envOfC qual scope s.heap.objs.size f cdv)) → sp vs H Q E →
      ∃ t, PSs (cxOf CX P w K mg base N qual scope f cdv A outer s H E) body t ∧ t { nx := fun _ H' => Q .non H', rt := Q } (start N vs) H) :
    FnOk P w K mg base CX (k + 1) f (PySem.W.fnOf name qual params body scope dV kV doc pm an cdv ct) ps sp := by
  refine ⟨len, fun A outer s H args us vs Q E hr e0 hb r hsp => ?_⟩
  have hl := len _ _ _ _ hsp
  have KX : K.In s.heap := e0.mod.kin.keeps fun b o e => (e0.bs b o e).1
  have lim : s.heap.NoLimit := e0.mod.nolimit.keeps fun b o e => (e0.bs b o e).1
  have hkind : ∀ y ∈ ps.zip us, scope.names.lookup y.1 = some .local ∨ (scope.names.lookup y.1 = some .cell ∧ ((cellsFrom (s.heap.objs.size + 1) scope.names []).lookup y.1).isSome = true) := fun ⟨n, v⟩ hy => by
    rcases S.par n (List.of_mem_zip hy).1 with q | q
    · exact .inl q
    · exact .inr ⟨q, PySem.W.cellsFrom_some _ _ _ (.inl q)⟩
  refine codeAny_call_function hr.depth (KX _ _ lk) rfl S.co S.gen rfl (PySem.W.codeRec_of KX hcd) (hb _ _ _ _ ?_)
  refine wpAny_newFunctionEnv_cells S.kind hkind fun env he s1 x => ?_
  subst he
  refine ⟨lim.keeps x.toInCall.keep, codeAny_func ?_⟩
  obtain ⟨t, ht, hq⟩ := hbody A outer s H vs Q E (hr.deeper _) hsp
  have I : Inv (cxOf CX P w K mg base N qual scope f cdv A outer s H E) [] (start N vs) H s1 := inv_start S hr.hd e0 hl r x
  refine wpAny_mono (ht [] s1 (start N vs) H _ I hq) (fun fl s' hs => ?_) fun e s' hs => hs
  have fin : ∀ {σ' : St} {H' : Hp} {v : V} {u : Value}, Inv (cxOf CX P w K mg base N qual scope f cdv A outer s H E) [] σ' H' s' → RelV v u → Q v H' → CE outer P w H s Q u s' :=
    fun {σ' H' v u} J rv q => ⟨v, H', J.os, J.bare, J.base, J.hok, rv, q⟩
  cases fl with
  | ret u =>
    obtain ⟨v, σ', H', J, rv, q⟩ := hs
    exact fin J rv q
  | next =>
    obtain ⟨σ', H', J, q⟩ := hs
    exact fin (v := V.non) (u := Value.none) J rfl q
  | brk =>
    obtain ⟨_, _, _, q⟩ := hs
    exact False.elim q
  | cont =>
    obtain ⟨_, _, _, q⟩ := hs
    exact False.elim q
end L2
namespace L2
open PySem PySem.Spec PyProof.Rows
section
variable {X : Cx} {x : Str} {p pos : Pos} {e : Expr} {es : List Expr} {t : TA} {id T : String} {r : List V → Hp → VK → Prop}
noncomputable def tCB (r : List V → Hp → VK → Prop) (t : TA) : TE := fun σ H Q => t σ H fun vs H1 => r vs H1 Q
theorem pe_callB (hc : CallR X (.builtin id) r) (hg : Gl X x) (hm : X.mg x = none) (hv : bootBuiltins x = some (.builtin id)) (ha : PA X (e :: es) t) (hn : x ≠ "__name__" := by decide) (hdb : (x == ("__debug__" : Str)) = false := by decide)
    (he : starEach (e :: es) X.env = (false, eval e X.env) :: starEach es X.env := by rfl) (hpl : (backTo pos (starEach es X.env)).any (·.1) = false := by rfl) : PE X (.Call (.Name x p) (e :: es) [] pos) (tCB r t) := by
  intro pins s σ H Q I h
  refine wpAny_Call_Name_kw (ld_blt I hg hm hv ?_ hn hdb)
  exact PyProof.Rows.callWith_builtin1 (thn (ha pos pins s σ H _ I h) fun us s1 ⟨vs, H1, I1, r1, q1⟩ => hc pins s1 σ H1 vs us Q I1 r1 q1) he hpl
theorem pe_callTy (hc : CallR X (.type T) r) (hg : Gl X x) (hm : X.mg x = none) (hv : bootBuiltins x = some (.type T)) (ha : PA X (e :: es) t) (hn : x ≠ "__name__" := by decide) (hdb : (x == ("__debug__" : Str)) = false := by decide)
    (he : starEach (e :: es) X.env = (false, eval e X.env) :: starEach es X.env := by rfl) (hpl : (backTo pos (starEach es X.env)).any (·.1) = false := by rfl) : PE X (.Call (.Name x p) (e :: es) [] pos) (tCB r t) := by
  intro pins s σ H Q I h
  refine wpAny_Call_Name_kw (ld_blt I hg hm hv ?_ hn hdb)
  exact PyProof.Rows.callWith_type1 (thn (ha pos pins s σ H _ I h) fun us s1 ⟨vs, H1, I1, r1, q1⟩ => hc pins s1 σ H1 vs us Q I1 r1 q1) he hpl
end
end L2
namespace HT
open PySem PyProof.Rows
section
open PySem.SeqAt
open PySem.AutoSeq1 (wpAny_loadPart')
open PySem.MeetsSeq PySem.MeetsSeq2 PySem.MeetsSeq3
end
section
variable {prog : Program} {w : World} {A : Around} {E : Value → Shared → Prop} {s : Shared}
theorem cat_tup {t b : Addr} {vs ws : List Value} {Q : Value → Shared → Prop} (ht : IsTup s.heap t vs.toArray) (hb : IsTup s.heap b ws.toArray) (hv : vs ≠ [])
    (h1 : ws = [] → Q (.ref t) s) (h2 : ws ≠ [] → Q (.ref s.heap.objs.size) { s with heap := s.heap.push { cls := .type "tuple", data := .seq (vs ++ ws).toArray } })
    (hsz : vs.length + ws.length ≤ sizeLine) : wpAny (model prog w) A (binaryOp .Add (.ref t) (.ref b)) Q E s := by
  obtain ⟨⟨cls, dd, data, sl⟩, ho, hc, n, hd⟩ := id ht
  obtain ⟨⟨cls2, dd2, data2, sl2⟩, ho2, hc2, n2, hd2⟩ := id hb
  simp only at hc hd hc2 hd2
  subst hc hd hc2 hd2
  have e : vs.toArray ++ ws.toArray = (vs ++ ws).toArray := by simp
  by_cases hw : ws = []
  · exact concat_meets ⟨_, ho, rfl⟩ ⟨_, ho2, rfl⟩ noFill_tuple_add seq_tuple_add PySem.F.slot_tuple_add PySem.F.entry_tuple_add (PySem.F.args_tuple_add_2 _ _)
      (tuple_addW1 t b vs.toArray ws.toArray n n2 dd dd2 sl sl2 (by simpa using hv) (by simp [hw])) ⟨ho, ho2, h1 hw⟩
  · refine concat_meets ⟨_, ho, rfl⟩ ⟨_, ho2, rfl⟩ noFill_tuple_add seq_tuple_add PySem.F.slot_tuple_add PySem.F.entry_tuple_add (PySem.F.args_tuple_add_2 _ _)
      (tuple_addW2 t b vs.toArray ws.toArray n n2 dd dd2 sl sl2 (by simpa using hv) (by simpa using hw) (by rw [List.size_toArray, List.size_toArray]; exact hsz)) ⟨ho, ho2, ?_⟩
    rw [e]
    exact h2 hw
noncomputable def sIx (n d : Nat) : Option Int → Nat
  | none => d
  | some v => if v < 0 then (v + (n : Int)).toNat else min v.toNat n
theorem sIx_none (n d : Nat) : sIx n d none = d := rfl
theorem sIx_nat (n d k : Nat) : sIx n d (some (k : Int)) = min k n := by
  show (if (k : Int) < 0 then ((k : Int) + (n : Int)).toNat else min (k : Int).toNat n) = min k n
  rw [if_neg (by omega), Int.toNat_natCast]
theorem sIx_le (n d : Nat) (hd : d ≤ n) (o : Option Int) : sIx n d o ≤ n := by
  cases o with
  | none => exact hd
  | some v =>
    show (if v < 0 then (v + (n : Int)).toNat else min v.toNat n) ≤ n
    by_cases hv : v < 0
    · rw [if_pos hv]; omega
    · rw [if_neg hv]; exact Nat.min_le_right _ _
theorem clip_eq (v : Int) (n d : Nat) : (if v < 0 then max (v + (n : Int)) 0 else min v (n : Int)) = ((sIx n d (some v) : Nat) : Int) := by
  show (if v < 0 then max (v + (n : Int)) 0 else min v (n : Int)) = (((if v < 0 then (v + (n : Int)).toNat else min v.toNat n) : Nat) : Int)
  by_cases hv : v < 0
  · simp only [if_pos hv]; omega
  · simp only [if_neg hv]; omega
theorem adjust_gen (lo hi : Option Int) (n : Nat) : Builtin.Slice.sliceAdjust lo hi 1 (n : Int) = (((sIx n 0 lo : Nat) : Int), ((sIx n n hi : Nat) : Int)) := by
  have h1 : ¬ ((1 : Int) < 0) := by omega
  unfold Builtin.Slice.sliceAdjust
  simp only [h1, if_false]
  refine Prod.ext ?_ ?_
  · cases lo with
    | none => rfl
    | some v => exact clip_eq v n 0
  · cases hi with
    | none => rfl
    | some v => exact clip_eq v n n
theorem places_gen (i j : Nat) : Builtin.Slice.slicePlaces (i : Int) (j : Int) 1 = j - i := by
  unfold Builtin.Slice.slicePlaces
  have h1 : (1 : Int) > 0 := by omega
  simp only [h1, if_true, Int.ediv_one]
  split <;> omega
theorem slicePart_ {v : Value} {o : Option Int} {Q : Option Int → Shared → Prop} (p : IsPart v o) (h : Q o s) : wpAny (model prog w) A (Builtin.Slice.slicePartIndex v) Q E s := by
  cases p with
  | none => exact slicePart_none h
  | int i t => exact slicePart_int h
theorem sliceApplied_gen {sl : Addr} {vl vu : Value} {lo hi : Option Int} {n : Nat} {Q : Int × Int × Nat → Shared → Prop} (hs : s.heap.IsSliceOf sl vl vu .none) (pl : IsPart vl lo) (pu : IsPart vu hi)
    (h : Q (((sIx n 0 lo : Nat) : Int), 1, sIx n n hi - sIx n 0 lo) s) : wpAny (model prog w) A (Builtin.Slice.sliceApplied (.ref sl) (pure (n : Int))) Q E s := by
  obtain ⟨os, hos, hcs, hds⟩ := id hs
  unfold Builtin.Slice.sliceApplied Builtin.Slice.sliceFields
  refine wpAny_bind (wpAny_bind (wpAny_field hos hds (x := vl) rfl (wpAny_bind (wpAny_field hos hds (x := vu) rfl (wpAny_bind (wpAny_field hos hds (x := .none) rfl (wpAny_pure ?_)))))))
  refine wpAny_bind (slicePart_none ?_)
  show wpAny _ _ (if ((1 : Int) == 0) = true then _ else _) _ _ s
  rw [if_neg (by decide)]
  refine wpAny_bind (slicePart_ pl (wpAny_bind (slicePart_ pu (wpAny_bind (wpAny_pure ?_)))))
  show wpAny _ _ (match Builtin.Slice.sliceAdjust lo hi 1 (n : Int) with | (lo, hi) => pure (lo, (1 : Int), Builtin.Slice.slicePlaces lo hi 1)) _ _ s
  rw [adjust_gen lo hi n]
  show wpAny _ _ (pure (((sIx n 0 lo : Nat) : Int), (1 : Int), Builtin.Slice.slicePlaces ((sIx n 0 lo : Nat) : Int) ((sIx n n hi : Nat) : Int) 1)) _ _ s
  rw [places_gen]
  exact wpAny_pure h
theorem pick_gen (xs : Array Value) (i k : Nat) : ((List.range k).filterMap fun (m : Nat) => xs[((i : Int) + (m : Int) * 1).toNat]?).toArray = ((xs.toList.drop i).take k).toArray := by
  have e : (fun (m : Nat) => xs[((i : Int) + (m : Int) * 1).toNat]?) = fun m => xs[i + m]? := by
    funext m
    have : ((i : Int) + (m : Int) * 1).toNat = i + m := by omega
    rw [this]
  rw [e]
  have := pick_run xs i k
  rw [List.filterMap_map] at this
  have e2 : ((fun x => xs[x]?) ∘ fun x => i + x) = fun m => xs[i + m]? := rfl
  rw [e2] at this
  rw [this]
theorem getItem_tuple_cut {t sl : Addr} {items : Array Value} {vl vu : Value} {lo hi : Option Int} {Q : Value → Shared → Prop} (ht : IsTup s.heap t items) (hs : s.heap.IsSliceOf sl vl vu .none) (pl : IsPart vl lo) (pu : IsPart vu hi)
    (hw : ¬ (sIx items.size 0 lo = 0 ∧ sIx items.size items.size hi = items.size))
    (h : Q (.ref s.heap.objs.size) { s with heap := s.heap.push { cls := .type "tuple", data := .seq ((items.toList.drop (sIx items.size 0 lo)).take (sIx items.size items.size hi - sIx items.size 0 lo)).toArray } })
    (hsz : items.size ≤ sizeLine) : wpAny (model prog w) A (getItem (.ref t) (.ref sl)) Q E s := by
  have htake : sizeOk (.seq ((items.toList.drop (sIx items.size 0 lo)).take (sIx items.size items.size hi - sIx items.size 0 lo)).toArray) := by
    show ((items.toList.drop (sIx items.size 0 lo)).take (sIx items.size items.size hi - sIx items.size 0 lo)).toArray.size ≤ sizeLine
    rw [List.size_toArray, List.length_take, List.length_drop, Array.length_toList]
    omega
  have hj : sIx items.size items.size hi ≤ items.size := sIx_le _ _ (Nat.le_refl _) hi
  obtain ⟨os, hos, hcs, hds⟩ := id hs
  have hTs : s.TypeIs (.ref sl) "slice" := ⟨os, hos, hcs⟩
  unfold getItem
  try with_reducible refine wpAny_holding ?_
  first | refine wpAny_bind (wpAny_pure ?_) | skip
  refine wpAny_bind (wpAny_sequenceKey ht.typeIs (by decide) ?_)
  refine wpAny_bind (wpAny_callSpecial?_slot (name := Str.ofString "__getitem__") ht.typeIs PyProof.Rows.slot_tuple_getitem
    (wpAny_call_entry PyProof.Rows.slot_tuple_getitem ht.typeIs entry_tuple_getitem ?_ (args_tuple_getitem _ _)))
  show wpAny _ _ (Builtin.Tuple.tupleItemsOf (.ref t) >>= _) _ _ s
  refine wpAny_bind (tupleItemsOf_ ht ?_)
  refine wpAny_bind (wpAny_typeOf hTs ?_)
  rw [if_pos (by decide)]
  refine wpAny_bind (sliceApplied_gen hs pl pu ?_)
  have hno : ¬ ((((sIx items.size 0 lo : Nat) : Int) == 0 && (1 : Int) == 1 && (sIx items.size items.size hi - sIx items.size 0 lo) == items.size) = true) := by
    intro q
    rw [Bool.and_eq_true, Bool.and_eq_true] at q
    have q1 : ((sIx items.size 0 lo : Nat) : Int) = 0 := eq_of_beq q.1.1
    have q2 : sIx items.size items.size hi - sIx items.size 0 lo = items.size := eq_of_beq q.2
    exact hw ⟨by omega, by omega⟩
  show wpAny _ _ (if (((sIx items.size 0 lo : Nat) : Int) == 0 && (1 : Int) == 1 && (sIx items.size items.size hi - sIx items.size 0 lo) == items.size) = true then _ else _) _ _ s
  rw [if_neg hno, pick_gen]
  first
    | exact wpAny_bind (m := Builtin.Tuple.tupleExact _) (wpAny_newObj_type (wpAny_pure ⟨_, rfl, wpAny_pure h⟩) htake)
    | exact wpAny_bind (m := Builtin.Tuple.tupleExact _) (wpAny_newObj_type (wpAny_bind (wpAny_pure (wpAny_pure ⟨_, rfl, wpAny_pure h⟩))) htake)
    | exact wpAny_bind (wpAny_bind (m := Builtin.Tuple.tupleExact _) (wpAny_newObj_type (wpAny_pure (wpAny_pure ⟨_, rfl, wpAny_pure h⟩)) htake))
    | exact wpAny_bind (wpAny_bind (m := Builtin.Tuple.tupleExact _) (wpAny_newObj_type (wpAny_pure ⟨_, rfl, wpAny_pure h⟩) htake))
end
end HT
namespace L2
open PySem PySem.Spec PyProof.Rows
noncomputable abbrev TO := St → Hp → (Option Int → Hp → Prop) → Prop
noncomputable def PO (X : Cx) (e : Option Expr) (t : TO) : Prop :=
  ∀ (pins : List (Addr × Obj)) (s : Shared) (σ : St) (H : Hp) (Q : Option Int → Hp → Prop), Inv X pins σ H s → t σ H Q →
    wpAny (model X.prog X.w) X.A (evalPart e X.env) (fun u s' => ∃ o H', Inv X pins σ H' s' ∧ IsPart u o ∧ Q o H') X.xe s
noncomputable def tNoPart : TO := fun _ H Q => Q none H
noncomputable def tPart (t : TE) : TO := fun σ H Q => t σ H fun x H1 => ∃ i, x = .int i ∧ Q (some i) H1
section
variable {X : Cx} {e : Expr} {te : TE} {lo hi : Option Expr} {tl th : TO} {pos p2 : Pos}
theorem po_none : PO X none tNoPart := by
  intro pins s σ H Q I h
  rw [evalPart_none]
  exact wpAny_pure ⟨none, H, I, .none, h⟩
theorem po_some (h : PE X e te) : PO X (some e) (tPart te) := by
  intro pins s σ H Q I hw
  rw [evalPart_some]
  refine thn (h pins s σ H _ I hw) fun u s1 ⟨x, H1, I1, r1, q1⟩ => ?_
  obtain ⟨i, rfl, q⟩ := q1
  obtain ⟨t, rfl⟩ := r1
  exact ⟨some i, H1, I1, .int i t, q⟩
noncomputable def SlR (X : Cx) (r : V → Option Int → Option Int → Hp → VK → Prop) : Prop :=
  ∀ (pins : List (Addr × Obj)) (s : Shared) (σ : St) (H : Hp) (x : V) (v vl vu : Value) (lo hi : Option Int) (sl : Addr) (Q : VK), Inv X pins σ H s → RelV x v → s.heap.IsSliceOf sl vl vu .none → IsPart vl lo → IsPart vu hi → r x lo hi H Q →
    ∃ T id, typeLookup (.type T) "__getitem__" = pure (some (.builtin id)) ∧ s.TypeIs v T ∧ wpAny (model X.prog X.w) X.A (getItem v (.ref sl)) (EP X pins σ Q) X.xe s
theorem SlR.or {r r' : V → Option Int → Option Int → Hp → VK → Prop} (h : SlR X r) (h' : SlR X r') : SlR X (fun x lo hi H Q => r x lo hi H Q ∨ r' x lo hi H Q) := by
  intro pins s σ H x v vl vu lo hi sl Q I rx hs pl pu q
  rcases q with q | q
  · exact h pins s σ H x v vl vu lo hi sl Q I rx hs pl pu q
  · exact h' pins s σ H x v vl vu lo hi sl Q I rx hs pl pu q
noncomputable def tSl (r : V → Option Int → Option Int → Hp → VK → Prop) (te : TE) (tl th : TO) : TE := fun σ H Q => te σ H fun x H1 => tl σ H1 fun l H2 => th σ H2 fun u H3 => r x l u H3 Q
theorem pe_slice {r : V → Option Int → Option Int → Hp → VK → Prop} (hr : SlR X r) (he : PE X e te) (hl : PO X lo tl) (hu : PO X hi th) : PE X (.Subscript e (.Slice lo hi none p2) pos) (tSl r te tl th) := by
  intro pins s σ H Q I h
  refine Subscript_ (thn (he pins s σ H _ I h) fun v s1 ⟨x, H1, I1, r1, q1⟩ => ?_)
  refine wpAny_Slice (thn (hl pins s1 σ H1 _ I1 q1) fun vl s2 ⟨l, H2, I2, pl, q2⟩ => thn (hu pins s2 σ H2 _ I2 q2) fun vu s3 ⟨u, H3, I3, pu, q3⟩ => ?_)
  rw [evalPart_none]
  refine wpAny_pure ?_
  have I4 : Inv X pins σ H3 { s3 with heap := s3.heap.push { cls := .type "slice", data := .fields #[vl, vu, .none] } } := I3.kept (t' := s3.toks) fun b ob q => Heap.get?_push_of_some _ q
  obtain ⟨T, id, hT, ht, hg⟩ := hr pins { s3 with heap := s3.heap.push { cls := .type "slice", data := .fields #[vl, vu, .none] } } σ H3 x v vl vu l u s3.heap.objs.size Q I4 r1 (Heap.IsSliceOf.new ..) pl pu q3
  show wpAny (model X.prog X.w) X.A (subscriptTail e (.Slice lo hi none p2) v (.ref s3.heap.objs.size)) (EP X pins σ Q) X.xe { s3 with heap := s3.heap.push { cls := .type "slice", data := .fields #[vl, vu, .none] } }
  exact tail_any (ops := [.ref s3.heap.objs.size, v]) ht hT hg (by with_unfolding_all rfl)
noncomputable def cutV (xs : List V) (lo hi : Option Int) : List V := (xs.drop (HT.sIx xs.length 0 lo)).take (HT.sIx xs.length xs.length hi - HT.sIx xs.length 0 lo)
theorem cutV_length (xs : List V) (lo hi : Option Int) : (cutV xs lo hi).length ≤ xs.length := by
  unfold cutV
  rw [List.length_take, List.length_drop]
  omega
noncomputable def rSlT (K : PySem.W.Frag) : V → Option Int → Option Int → Hp → VK → Prop := fun x lo hi H Q => ∃ a xs, x = .ref a ∧ SqT K H a xs ∧
  ¬ (HT.sIx xs.length 0 lo = 0 ∧ HT.sIx xs.length xs.length hi = xs.length) ∧ ∀ p, H p = none → Q (.ref p) (upd H p (.tup (cutV xs lo hi)))
theorem sl_tup : SlR X (rSlT X.K) := by
  intro pins s σ H x v vl vu lo hi sl Q I rx hs pl pu h
  obtain ⟨a, xs, rfl, hx, hw, q⟩ := h
  cases rx
  obtain ⟨its, r, ht, hz⟩ := I.tuple hx
  have hlen : its.toArray.size = xs.length := by rw [List.size_toArray]; exact r.length.symm
  refine ⟨"tuple", _, PyProof.Rows.slot_tuple_getitem.lookup, ht.typeIs, ?_⟩
  refine HT.getItem_tuple_cut ht hs pl pu (by rw [hlen]; exact hw) ?_ (by rw [hlen]; exact hz)
  rw [hlen]
  refine ⟨.ref s.heap.objs.size, _, I.laid (t' := s.toks) (o := .tup (cutV xs lo hi)) (fun b ob q => Heap.get?_push_of_some _ q) (Nat.le_refl _) ?_, rfl, q _ (I.hok.fresh (Nat.le_refl _))⟩
  exact ⟨Nat.le_trans (cutV_length xs lo hi) hz, _, (r.drop (HT.sIx xs.length 0 lo)).take (HT.sIx xs.length xs.length hi - HT.sIx xs.length 0 lo), IsTupN.new _ _⟩
noncomputable def rCatT (K : PySem.W.Frag) : R2 := fun x y H Q => ∃ a b xs ys, x = .ref a ∧ y = .ref b ∧ SqT K H a xs ∧ SqT K H b ys ∧ xs ≠ [] ∧ xs.length + ys.length ≤ sizeLine ∧
  (ys = [] → Q (.ref a) H) ∧ (ys ≠ [] → ∀ p, H p = none → Q (.ref p) (upd H p (.tup (xs ++ ys))))
theorem Vals.nil_iff {xs : List V} {us : List Value} (r : Vals xs us) : us = [] ↔ xs = [] := by
  cases r with
  | nil => simp
  | cons _ _ => simp
theorem op_catT : OpR X (binaryOp .Add) (rCatT X.K) := by
  intro pins s σ H x y v u Q I rx ry h
  obtain ⟨a, b, xs, ys, rfl, rfl, ha, hb, hx, hz, q1, q2⟩ := h
  cases rx
  cases ry
  obtain ⟨its, r1, p1, _⟩ := I.tuple ha
  obtain ⟨its2, r2, p2, _⟩ := I.tuple hb
  refine HT.cat_tup p1 p2 (fun z => hx (r1.nil_iff.mp z)) (fun z => ⟨.ref a, H, I, rfl, q1 (r2.nil_iff.mp z)⟩) (fun z => ?_) (by rw [← r1.length, ← r2.length]; exact hz)
  refine ⟨.ref s.heap.objs.size, _, I.laid (t' := s.toks) (o := .tup (xs ++ ys)) (fun b ob q => Heap.get?_push_of_some _ q) (Nat.le_refl _) ?_, rfl, q2 (fun w => z (r2.nil_iff.mpr w)) _ (I.hok.fresh (Nat.le_refl _))⟩
  exact ⟨by rw [List.length_append]; exact hz, _, r1.append r2, IsTupN.new _ _⟩
end
end L2
namespace L2
open PySem PySem.Spec PyProof.Rows
noncomputable def ixN (n : Nat) (i : Int) : Option Nat := if 0 ≤ i then (if i < n then some i.toNat else none) else if -(n : Int) ≤ i then some (i + n).toNat else none
noncomputable def atI {α : Type} (xs : List α) (i : Int) : Option α := (ixN xs.length i).bind fun j => xs[j]?
theorem ixN_seq {n : Nat} {i : Int} {j : Nat} (h : ixN n i = some j) : seqIndex? i n = some j ∧ j < n ∧ -(n : Int) ≤ i ∧ i < n := by
  unfold ixN at h
  by_cases h0 : 0 ≤ i
  · rw [if_pos h0] at h
    by_cases h1 : i < n
    · rw [if_pos h1] at h
      have e : i.toNat = j := Option.some.inj h
      exact ⟨by rw [seqIndex_of h0 h1, e], by omega, by omega, h1⟩
    · rw [if_neg h1] at h; cases h
  · rw [if_neg h0] at h
    by_cases h1 : -(n : Int) ≤ i
    · rw [if_pos h1] at h
      have e : (i + n).toNat = j := Option.some.inj h
      exact ⟨by rw [seqIndex_neg (by omega) h1, e], by omega, h1, by omega⟩
    · rw [if_neg h1] at h; cases h
theorem atI_get {α : Type} {xs : List α} {i : Int} {v : α} (h : atI xs i = some v) : ∃ j, seqIndex? i xs.length = some j ∧ xs[j]? = some v ∧ j < xs.length ∧ -(xs.length : Int) ≤ i ∧ i < xs.length := by
  unfold atI at h
  cases e : ixN xs.length i with
  | none => rw [e] at h; cases h
  | some j =>
    rw [e] at h
    obtain ⟨h1, h2, h3, h4⟩ := ixN_seq e
    exact ⟨j, h1, h, h2, h3, h4⟩
theorem atI_nat {α : Type} {xs : List α} {j : Nat} {v : α} (h : xs[j]? = some v) : atI xs (j : Int) = some v := by
  have hj : j < xs.length := (List.getElem?_eq_some_iff.mp h).1
  have e : ixN xs.length (j : Int) = some j := by
    unfold ixN
    rw [if_pos (by omega), if_pos (by omega)]; simp
  unfold atI; rw [e]; exact h
noncomputable def PlainIx (b : Expr) : Prop := ∀ o i, subscripted b false o i = operate [o, i] (getItem o i)
noncomputable def IxR (X : Cx) (r : R2) : Prop :=
  ∀ (value slice : Expr) (pins : List (Addr × Obj)) (s : Shared) (σ : St) (H : Hp) (x y : V) (v u : Value) (Q : VK), Inv X pins σ H s → RelV x v → RelV y u → r x y H Q →
    subscripted slice false v u = operate [v, u] (getItem v u) → wpAny (model X.prog X.w) X.A (subscriptTail value slice v u) (EP X pins σ Q) X.xe s
noncomputable def MtR (X : Cx) (id : String) (r : V → List V → Hp → VK → Prop) : Prop :=
  ∀ (pins : List (Addr × Obj)) (s : Shared) (σ : St) (H : Hp) (x : V) (xs : List V) (v : Value) (us : List Value) (Q : VK), Inv X pins σ H s → RelV x v → Vals xs us → r x xs H Q →
    wpAny (model X.prog X.w) X.A (call (.builtin id) (v :: us)) (EP X pins σ Q) X.xe s
section
variable {X : Cx} {a b : Expr} {ta tb : TE} {pos : Pos}
theorem IxR.or {r r' : R2} (h : IxR X r) (h' : IxR X r') : IxR X (fun x y H Q => r x y H Q ∨ r' x y H Q) := by
  intro value slice pins s σ H x y v u Q I rx ry q hs
  rcases q with q | q
  · exact h value slice pins s σ H x y v u Q I rx ry q hs
  · exact h' value slice pins s σ H x y v u Q I rx ry q hs
theorem MtR.or {id : String} {r r' : V → List V → Hp → VK → Prop} (h : MtR X id r) (h' : MtR X id r') : MtR X id (fun x xs H Q => r x xs H Q ∨ r' x xs H Q) := by
  intro pins s σ H x xs v us Q I rx rs q
  rcases q with q | q
  · exact h pins s σ H x xs v us Q I rx rs q
  · exact h' pins s σ H x xs v us Q I rx rs q
theorem pe_ix {r : R2} (hr : IxR X r) (ha : PE X a ta) (hb : PE X b tb) (hs : PlainIx b) : PE X (.Subscript a b pos) (tOp r ta tb) := by
  intro pins s σ H Q I h
  exact Subscript_ (binT ha hb I h fun v u s2 x y H2 I2 rx ry q => hr a b pins s2 σ H2 x y v u Q I2 rx ry q (hs _ _))
noncomputable def rIxL (K : PySem.W.Frag) : R2 := fun x y H Q => ∃ p xs i v, x = .ref p ∧ y = .int i ∧ SqL K H p xs ∧ atI xs i = some v ∧ Q v H
noncomputable def rIxT (K : PySem.W.Frag) : R2 := fun x y H Q => ∃ p xs i v, x = .ref p ∧ y = .int i ∧ SqT K H p xs ∧ atI xs i = some v ∧ Q v H
noncomputable def rIxS : R2 := fun x y H Q => ∃ z i c, x = .str z ∧ y = .int i ∧ z.length ≤ sizeLine ∧ atI z.cps.toList i = some c ∧ Q (.str ⟨#[c]⟩) H
theorem ix_list : IxR X (rIxL X.K) := by
  intro value slice pins s σ H x y v u Q I rx ry h hs
  obtain ⟨p, xs, i, z, rfl, rfl, hq, he, q⟩ := h
  cases rx
  obtain ⟨t, rfl⟩ := ry
  obtain ⟨its, r, pl, hz⟩ := I.list hq
  obtain ⟨j, h1, h2, h3, h4, h5⟩ := atI_get he
  obtain ⟨w, ew, rw'⟩ := r.get h2
  have hl := r.length
  have hn := line63
  have fin : EP X pins σ Q w s := ⟨z, H, I, rw', q⟩
  by_cases h0 : 0 ≤ i
  · have hj : i.toNat = j := by
      rw [seqIndex_of h0 h5] at h1
      exact Option.some.inj h1
    exact item_listR pl.isList h0 (by omega) (by rw [hj]; simpa using ew) fin hs
  · have hj : (i + (its.toArray.size : Int)).toNat = j := by
      rw [seqIndex_neg (by omega) h4] at h1
      rw [List.size_toArray, ← hl]
      exact Option.some.inj h1
    exact subscriptTail_builtinR (x := w) pl.isList.typeIs slot_list_getitem.lookup
      (wpAny_getItem_list_neg (Q := fun r s' => r = w ∧ EP X pins σ Q r s') pl.isList (by omega) (by rw [List.size_toArray] <;> omega) (by omega) (by rw [hj]; simpa using ew) ⟨rfl, fin⟩) hs
theorem ix_tup : IxR X (rIxT X.K) := by
  intro value slice pins s σ H x y v u Q I rx ry h hs
  obtain ⟨p, xs, i, z, rfl, rfl, hq, he, q⟩ := h
  cases rx
  obtain ⟨t, rfl⟩ := ry
  obtain ⟨its, r, pl, hz⟩ := I.tuple hq
  obtain ⟨j, h1, h2, h3, h4, h5⟩ := atI_get he
  obtain ⟨w, ew, rw'⟩ := r.get h2
  have hl := r.length
  have hn := line63
  have fin : EP X pins σ Q w s := ⟨z, H, I, rw', q⟩
  exact subscriptTail_builtinR (x := w) pl.typeIs slot_tuple_getitem.lookup
    (getItem_tuple (j := j) (Q := fun r s' => r = w ∧ EP X pins σ Q r s') pl (by omega) (by omega) (by rw [List.size_toArray, ← hl]; exact h1) (by simpa using ew) ⟨rfl, fin⟩) hs
theorem ix_str : IxR X rIxS := by
  intro value slice pins s σ H x y v u Q I rx ry h hs
  obtain ⟨z, i, c, rfl, rfl, hz, he, q⟩ := h
  obtain ⟨t, rfl⟩ := rx
  obtain ⟨t', rfl⟩ := ry
  obtain ⟨j, h1, h2, h3, h4, h5⟩ := atI_get he
  have hl : z.cps.toList.length = z.length := by simp [Str.length]
  rw [hl] at h1 h4 h5
  have hn := line63
  exact tail_any (typeIs_str s z t) slot_str_getitem.lookup (getItem_str (c := c) (by
    have e1 : decide (i < -(2 ^ 63 : Int)) = false := decide_eq_false (by omega)
    have e2 : decide (i ≥ 2 ^ 63) = false := decide_eq_false (by omega)
    rw [e1, e2, Bool.or_false]) (by rw [h1]; simpa using h2) ⟨.str ⟨#[c]⟩, H, I.tok _, ⟨_, rfl⟩, q⟩) hs
theorem mapSeq_set (its : List Value) (n j : Nat) (u : Value) : Obj.mapSeq (·.setIfInBounds j u) { cls := .type "list", data := .seq its.toArray n } = { cls := .type "list", data := .seq (its.set j u).toArray n } := by
  simp [Obj.mapSeq]
theorem Inv.lst {pins : List (Addr × Obj)} {σ : St} {H : Hp} {s : Shared} {p : Addr} {xs : List V} (I : Inv X pins σ H s) (h : H p = some (.lst xs)) :
    ∃ (its : List Value) (n : Nat), Vals xs its ∧ s.heap.get? p = some { cls := .type "list", data := .seq its.toArray n } ∧ xs.length ≤ sizeLine := by
  obtain ⟨z, its, n, r, e⟩ := I.hok p _ h
  exact ⟨its, n, r, e, z⟩
theorem Inv.lstUpd {pins : List (Addr × Obj)} {σ : St} {H : Hp} {s : Shared} {p : Addr} {xs ys : List V} {its its' : List Value} {n n' : Nat} {f : Obj → Obj} (I : Inv X pins σ H s) (h : H p = some (.lst xs))
    (ho : s.heap.get? p = some { cls := .type "list", data := .seq its.toArray n }) (hf : f { cls := .type "list", data := .seq its.toArray n } = { cls := .type "list", data := .seq its'.toArray n' }) (r : Vals ys its') (hz : ys.length ≤ sizeLine) (t : Nat) :
    Inv X pins σ (upd H p (.lst ys)) { s with heap := s.heap.update p f, toks := t } := by
  have e : (s.heap.update p f).get? p = some { cls := .type "list", data := .seq its'.toArray n' } := by
    rw [Heap.get?_update_self f ho (by rw [hf] <;> rfl), hf]
  refine I.write (x := p) (e := p) (by rw [h]; trivial) (.inl rfl) (fun b u hb q => (Heap.get?_update_other _ _ (Ne.symm hb)).trans q) ⟨_, e⟩ ?_
  exact ⟨hz, its', n', r, e⟩
noncomputable def rSetL : V → V → V → Hp → (Hp → Prop) → Prop := fun o i v H Q => ∃ p xs k j, o = .ref p ∧ i = .int k ∧ H p = some (.lst xs) ∧ ixN xs.length k = some j ∧ Q (upd H p (.lst (xs.set j v)))
theorem set_list : PSet X rSetL := by
  intro pins s σ H o i v ov iv u Q I ro ri rv h
  obtain ⟨p, xs, k, j, rfl, rfl, hp, hj, q⟩ := h
  cases ro
  obtain ⟨t, rfl⟩ := ri
  obtain ⟨its, n, r, ho, hz⟩ := I.lst hp
  obtain ⟨h1, h2, h3, h4⟩ := ixN_seq hj
  have hl := r.length
  have hn := line63
  have I' : Inv X pins σ (upd H p (.lst (xs.set j v))) { s with heap := s.heap.update p (Obj.mapSeq (·.setIfInBounds j u)) } :=
    I.lstUpd hp ho (mapSeq_set its n j u) (r.set rv j) (by rw [List.length_set]; exact hz) s.toks
  by_cases h0 : 0 ≤ k
  · have hk : k.toNat = j := by
      rw [seqIndex_of h0 h4] at h1
      exact Option.some.inj h1
    exact PySem.W.ki_setAt ho h0 (by omega) (by rw [List.size_toArray, ← hl]; exact h4) (by rw [hk]; exact ⟨_, I', q⟩)
  · have hk : (k + (its.toArray.size : Int)).toNat = j := by
      rw [seqIndex_neg (by omega) h3] at h1
      rw [List.size_toArray, ← hl]
      exact Option.some.inj h1
    exact PySem.W.ki_setBack ho (by omega) (by rw [List.size_toArray, ← hl]; exact h3) (by omega) (by rw [hk]; exact ⟨_, I', q⟩)
theorem slice_bounds (lo hi : Option Int) (n : Nat) : (sliceBounds lo hi none n).1 = ((HT.sIx n 0 lo : Nat) : Int) ∧ (sliceBounds lo hi none n).2.1 = ((HT.sIx n n hi : Nat) : Int) ∧ (sliceBounds lo hi none n).2.2 = 1 := by
  refine ⟨?_, ?_, rfl⟩
  · cases lo with
    | none => simp [sliceBounds, HT.sIx]
    | some i =>
      simp only [sliceBounds, HT.sIx, Option.getD_none, show (1 : Int) > 0 by decide, if_true]
      by_cases h : i < 0
      · simp only [h, if_true] <;> omega
      · simp only [h, if_false] <;> omega
  · cases hi with
    | none => simp [sliceBounds, HT.sIx]
    | some i =>
      simp only [sliceBounds, HT.sIx, Option.getD_none, show (1 : Int) > 0 by decide, if_true]
      by_cases h : i < 0
      · simp only [h, if_true] <;> omega
      · simp only [h, if_false] <;> omega
theorem slicePick_cut (its : List Value) (lo hi : Option Int) : slicePick its.toArray lo hi none = ((its.drop (HT.sIx its.length 0 lo)).take (HT.sIx its.length its.length hi - HT.sIx its.length 0 lo)).toArray := by
  obtain ⟨h1, h2, h3⟩ := slice_bounds lo hi its.toArray.size
  unfold slicePick
  rw [h1, h2, h3]
  simp only [sliceRange_one, pick_run, List.size_toArray] <;> rfl
noncomputable def rSlL (K : PySem.W.Frag) : V → Option Int → Option Int → Hp → VK → Prop := fun x lo hi H Q => ∃ a xs, x = .ref a ∧ SqL K H a xs ∧ ∀ p, H p = none → Q (.ref p) (upd H p (.lst (cutV xs lo hi)))
theorem sl_list : SlR X (rSlL X.K) := by
  intro pins s σ H x v vl vu lo hi sl Q I rx hs pl pu h
  obtain ⟨a, xs, rfl, hx, q⟩ := h
  cases rx
  obtain ⟨its, r, ht, hz⟩ := I.list hx
  have hlen := r.length
  refine ⟨"list", _, slot_list_getitem.lookup, ht.isList.typeIs, ?_⟩
  refine wpAny_getItem_list_slice ht.isList hs pl pu .none (by simp) ?_ (by rw [List.size_toArray] <;> omega)
  rw [slicePick_cut, ← hlen]
  refine ⟨.ref s.heap.objs.size, _, I.laid (t' := s.toks) (o := .lst (cutV xs lo hi)) (fun b ob q => Heap.get?_push_of_some _ q) (Nat.le_refl _) ?_, rfl, q _ (I.hok.fresh (Nat.le_refl _))⟩
  exact ⟨Nat.le_trans (cutV_length xs lo hi) hz, _, 0, (r.drop (HT.sIx xs.length 0 lo)).take (HT.sIx xs.length xs.length hi - HT.sIx xs.length 0 lo), Heap.get?_push_size _ rfl⟩
noncomputable def flatV : V → Bool
  | .non => true
  | .bl _ => true
  | .int _ => true
  | .str _ => true
  | _ => false
noncomputable def eqV : V → V → Bool
  | .non, .non => true
  | .bl a, .bl b => a == b
  | .bl a, .int b => (if a then 1 else 0) == b
  | .int a, .bl b => a == (if b then 1 else 0)
  | .int a, .int b => a == b
  | .str a, .str b => a == b
  | _, _ => false
theorem eqAt_V {A : Around} {s : Shared} {y x : V} {u v : Value} (ry : RelV y u) (rx : RelV x v) (fy : flatV y = true) (fx : flatV x = true) : SeqAt.EqAt A s u v (eqV y x) := by
  cases y with
  | non =>
    cases ry
    cases x with
    | non => cases rx; exact SeqAt.EqAt.same _
    | bl b => cases rx; exact SeqAt.EqAt.none_bool b
    | int b => obtain ⟨t, rfl⟩ := rx; exact SeqAt.EqAt.none_int b t
    | str b => obtain ⟨t, rfl⟩ := rx; exact SeqAt.EqAt.none_str b t
    | _ => exact absurd (show false = true from fx) Bool.false_ne_true
  | bl a =>
    cases ry
    cases x with
    | non => cases rx; exact SeqAt.EqAt.bool_none a
    | bl b => cases rx; exact SeqAt.EqAt.bool_bool a b
    | int b => obtain ⟨t, rfl⟩ := rx; exact SeqAt.EqAt.bool_int a b t
    | str b => obtain ⟨t, rfl⟩ := rx; exact SeqAt.EqAt.bool_str a b t
    | _ => exact absurd (show false = true from fx) Bool.false_ne_true
  | int a =>
    obtain ⟨t', rfl⟩ := ry
    cases x with
    | non => cases rx; exact SeqAt.EqAt.int_none a t'
    | bl b => cases rx; exact SeqAt.EqAt.int_bool a t' b
    | int b => obtain ⟨t, rfl⟩ := rx; exact SeqAt.EqAt.int_int a t' b t
    | str b => obtain ⟨t, rfl⟩ := rx; exact SeqAt.EqAt.int_str a t' b t
    | _ => exact absurd (show false = true from fx) Bool.false_ne_true
  | str a =>
    obtain ⟨t', rfl⟩ := ry
    cases x with
    | non => cases rx; exact SeqAt.EqAt.str_none a t'
    | bl b => cases rx; exact SeqAt.EqAt.str_bool a t' b
    | int b => obtain ⟨t, rfl⟩ := rx; exact SeqAt.EqAt.str_int a t' b t
    | str b => obtain ⟨t, rfl⟩ := rx; exact SeqAt.EqAt.str_str a t' b t
    | _ => exact absurd (show false = true from fx) Bool.false_ne_true
  | _ => exact absurd (show false = true from fy) Bool.false_ne_true
noncomputable def eqU (x : V) (u : Value) : Bool := match u with
  | .none => eqV .non x
  | .bool b => eqV (.bl b) x
  | .int i _ => eqV (.int i) x
  | .str z _ => eqV (.str z) x
  | _ => false
theorem eqU_of {x y : V} {u : Value} (r : RelV y u) (f : flatV y = true) : eqU x u = eqV y x := by
  cases y with
  | non => cases r; rfl
  | bl b => cases r; rfl
  | int i => obtain ⟨t, rfl⟩ := r; rfl
  | str z => obtain ⟨t, rfl⟩ := r; rfl
  | _ => exact absurd (show false = true from f) Bool.false_ne_true
theorem any_eqU {x : V} : ∀ {xs : List V} {us : List Value}, Vals xs us → xs.all flatV = true → us.any (eqU x) = xs.any fun y => eqV y x
  | _, _, .nil, _ => rfl
  | y :: xs, u :: us, .cons r t, f => by
    rw [List.all_cons, Bool.and_eq_true] at f
    rw [List.any_cons, List.any_cons, eqU_of r f.1, any_eqU t f.2]
theorem mem_eqAt {A : Around} {s : Shared} {x : V} {v : Value} (rx : RelV x v) (fx : flatV x = true) : ∀ {xs : List V} {us : List Value}, Vals xs us → xs.all flatV = true → ∀ u ∈ us, SeqAt.EqAt A s u v (eqU x u)
  | _, _, .nil, _ => fun u hu => by cases hu
  | y :: xs, u :: us, .cons r t, f => fun u' hu => by
    rw [List.all_cons, Bool.and_eq_true] at f
    rcases List.mem_cons.mp hu with rfl | hu
    · rw [eqU_of r f.1]; exact eqAt_V r rx f.1 fx
    · exact mem_eqAt rx fx t f.2 u' hu
noncomputable def inV (x : V) (xs : List V) : Bool := xs.any fun y => eqV y x
noncomputable def rIn (K : PySem.W.Frag) (neg : Bool) : R2 := fun x y H Q => ∃ p xs, y = .ref p ∧ (SqL K H p xs ∨ SqT K H p xs) ∧ flatV x = true ∧ xs.all flatV = true ∧ Q (.bl (if neg then !inV x xs else inV x xs)) H
theorem op_in_seq : OpR X (compareOp .In) (rIn X.K false) := by
  intro pins s σ H x y v u Q I rx ry h
  obtain ⟨p, xs, rfl, hq, fx, fs, q⟩ := h
  cases ry
  rcases hq with hq | hq
  · obtain ⟨its, r, pl, hz⟩ := I.list hq
    refine SeqAt.in_listAt (eqU x) pl.isList (fun w hw => mem_eqAt rx fx r fs w (by simpa using hw)) ⟨.bl _, H, I, rfl, ?_⟩
    rw [show its.toArray.any (eqU x) = its.any (eqU x) by simp, any_eqU r fs]
    exact q
  · obtain ⟨its, r, pl, hz⟩ := I.tuple hq
    refine SeqAt.in_tupleAt (eqU x) pl (fun w hw => mem_eqAt rx fx r fs w (by simpa using hw)) ⟨.bl _, H, I, rfl, ?_⟩
    rw [show its.toArray.any (eqU x) = its.any (eqU x) by simp, any_eqU r fs]
    exact q
theorem op_notIn_seq : OpR X (compareOp .NotIn) (rIn X.K true) := by
  intro pins s σ H x y v u Q I rx ry h
  obtain ⟨p, xs, rfl, hq, fx, fs, q⟩ := h
  cases ry
  rcases hq with hq | hq
  · obtain ⟨its, r, pl, hz⟩ := I.list hq
    refine SeqAt.notIn_listAt (eqU x) pl.isList (fun w hw => mem_eqAt rx fx r fs w (by simpa using hw)) ⟨.bl _, H, I, rfl, ?_⟩
    rw [show its.toArray.any (eqU x) = its.any (eqU x) by simp, any_eqU r fs]
    exact q
  · obtain ⟨its, r, pl, hz⟩ := I.tuple hq
    refine SeqAt.notIn_tupleAt (eqU x) pl (fun w hw => mem_eqAt rx fx r fs w (by simpa using hw)) ⟨.bl _, H, I, rfl, ?_⟩
    rw [show its.toArray.any (eqU x) = its.any (eqU x) by simp, any_eqU r fs]
    exact q
theorem op_notIn_str : OpR X (compareOp .NotIn) (fun x y H Q => ∃ i j, x = .str i ∧ y = .str j ∧ Q (.bl (!(!(Builtin.Str.occurrences j i 0 j.length 1).isEmpty))) H) := by
  intro pins s σ H x y v u Q I rx ry h
  obtain ⟨i, j, rfl, rfl, q⟩ := h
  obtain ⟨t, rfl⟩ := rx
  obtain ⟨t', rfl⟩ := ry
  exact notIn_str ⟨.bl _, H, I, rfl, q⟩
theorem call_len_seq : CallR X (.builtin "len") (fun xs H Q => ∃ p ys, xs = [.ref p] ∧ (SqL X.K H p ys ∨ SqT X.K H p ys) ∧ Q (.int ys.length) H) := by
  intro pins s σ H xs us Q I r h
  obtain ⟨p, ys, rfl, hq, q⟩ := h
  obtain ⟨u, rfl, rx⟩ := vals1 r
  cases rx
  have hn := line63
  rcases hq with hq | hq
  · obtain ⟨its, r', pl, hz⟩ := I.list hq
    have hlen := r'.length
    exact Calls.call_len_list pl.isList (by simp only [List.size_toArray] <;> omega) ⟨.int ys.length, H, I.tok _, ⟨s.toks + 1, by rw [List.size_toArray, hlen]⟩, q⟩
  · obtain ⟨its, r', pl, hz⟩ := I.tuple hq
    have hlen := r'.length
    exact len_tuple pl (by simp only [List.size_toArray] <;> omega) ⟨.int ys.length, H, I.tok _, ⟨s.toks + 1, by rw [List.size_toArray, hlen]⟩, q⟩
theorem call_len_str : CallR X (.builtin "len") (fun xs H Q => ∃ z, xs = [.str z] ∧ z.length ≤ sizeLine ∧ Q (.int z.length) H) := by
  intro pins s σ H xs us Q I r h
  obtain ⟨z, rfl, hz, q⟩ := h
  obtain ⟨u, rfl, t, rfl⟩ := vals1 r
  have hn := line63
  exact len_str (by omega) ⟨.int z.length, H, I.tok _, ⟨_, rfl⟩, q⟩
theorem CallR.or {f : Value} {r r' : List V → Hp → VK → Prop} (h : CallR X f r) (h' : CallR X f r') : CallR X f (fun xs H Q => r xs H Q ∨ r' xs H Q) := by
  intro pins s σ H xs us Q I rs q
  rcases q with q | q
  · exact h pins s σ H xs us Q I rs q
  · exact h' pins s σ H xs us Q I rs q
theorem call_list_of : CallR X (.type "list") (fun xs H Q => ∃ p ys, xs = [.ref p] ∧ (SqL X.K H p ys ∨ SqT X.K H p ys) ∧ ∀ l, H l = none → Q (.ref l) (upd H l (.lst ys))) := by
  intro pins s σ H xs us Q I r h
  obtain ⟨p, ys, rfl, hq, q⟩ := h
  obtain ⟨u, rfl, rx⟩ := vals1 r
  cases rx
  have fin : ∀ (its : List Value), Vals ys its → ys.length ≤ sizeLine → ∀ (h' : Heap) (c' : Nat), (∀ b o', s.heap.get? b = some o' → h'.get? b = some o') →
      h'.get? s.heap.objs.size = some { cls := .type "list", dict := none, data := .seq its.toArray c', slots := #[] } → EP X pins σ Q (.ref s.heap.objs.size) { s with heap := h' } := fun its r' hz h' c' kp e =>
    ⟨.ref s.heap.objs.size, _, I.laid (t' := s.toks) kp (Nat.le_refl _) (show ObjOk X.prog X.w _ h' _ (.lst ys) from ⟨hz, its, c', r', e⟩), rfl, q _ (I.hok.fresh (Nat.le_refl _))⟩
  rcases hq with hq | hq
  · obtain ⟨its, r', pl, hz⟩ := I.list hq
    have hlen := r'.length
    obtain ⟨o, ho, hc, n, hd⟩ := pl.isList
    exact call_list_seq p (.inl rfl) ho hc hd (fun h' c' kp e => fin its r' hz h' c' kp e) (by simp only [List.size_toArray] <;> omega)
  · obtain ⟨its, r', pl, hz⟩ := I.tuple hq
    have hlen := r'.length
    obtain ⟨o, ho, hc, n, hd⟩ := pl
    exact call_list_seq p (.inr rfl) ho hc hd (fun h' c' kp e => fin its r' hz h' c' kp e) (by simp only [List.size_toArray] <;> omega)
theorem call_tuple_of : CallR X (.type "tuple") (fun xs H Q => ∃ p ys, xs = [.ref p] ∧ ((SqL X.K H p ys ∧ ∀ l, H l = none → Q (.ref l) (upd H l (.tup ys))) ∨ (SqT X.K H p ys ∧ Q (.ref p) H))) := by
  intro pins s σ H xs us Q I r h
  obtain ⟨p, ys, rfl, h⟩ := h
  obtain ⟨u, rfl, rx⟩ := vals1 r
  cases rx
  rcases h with ⟨hq, q⟩ | ⟨hq, q⟩
  · obtain ⟨its, r', pl, hz⟩ := I.list hq
    have hlen := r'.length
    refine call_tuple_list pl.isList (fun h' kp => ?_) (by simp only [List.size_toArray] <;> omega)
    have I1 : Inv X pins σ H { s with heap := h' } := I.kept (t' := s.toks) kp
    have I2 : Inv X pins σ (upd H h'.objs.size (.tup ys)) { s with heap := h'.push { cls := .type "tuple", data := .seq its.toArray } } :=
      I1.laid (t' := s.toks) (fun b o e => Heap.get?_push_of_some _ e) (Nat.le_refl _) (show ObjOk X.prog X.w _ _ _ (.tup ys) from ⟨hz, its, r', IsTupN.new _ _⟩)
    exact ⟨.ref h'.objs.size, _, I2, rfl, q _ (I1.hok.fresh (Nat.le_refl _))⟩
  · obtain ⟨its, r', pl, hz⟩ := I.tuple hq
    exact call_tuple_same pl ⟨.ref p, H, I, rfl, q⟩
noncomputable def tyV (K : PySem.W.Frag) (T : String) (x : V) (H : Hp) : Prop := match x with
  | .str _ => T = "str"
  | .int _ => T = "int"
  | .ref p => (T = "list" ∧ ∃ xs, SqL K H p xs) ∨ (T = "tuple" ∧ ∃ o, K.lookup p = some o ∧ o.cls = .type "tuple" ∧ o.dict = none) ∨
      (T = "dict" ∧ ((∃ kvs, H p = some (.dK kvs)) ∨ ∃ kvs, H p = some (.dT kvs))) ∨ (T = "set" ∧ ∃ S n, H p = some (.set S n))
  | _ => False
theorem tyV_is {pins : List (Addr × Obj)} {σ : St} {H : Hp} {s : Shared} {T : String} {x : V} {v : Value} (I : Inv X pins σ H s) (r : RelV x v) (ty : tyV X.K T x H) :
    s.TypeIs v T ∧ ∀ a, v = .ref a → ∃ ob, s.heap.get? a = some ob ∧ ob.dict = none := by
  cases x with
  | str z =>
    obtain ⟨t, rfl⟩ := r
    cases (show T = "str" from ty)
    exact ⟨typeIs_str s z t, fun _ e => nomatch e⟩
  | int i =>
    obtain ⟨t, rfl⟩ := r
    cases (show T = "int" from ty)
    exact ⟨typeIs_int s i t, fun _ e => nomatch e⟩
  | ref p =>
    cases r
    rcases ty with ⟨rfl, xs, hq⟩ | ⟨rfl, o, hk, hc, hd⟩ | ⟨rfl, hk⟩ | ⟨rfl, S, n, hk⟩
    · obtain ⟨its, _, pl, _⟩ := I.list hq
      refine ⟨pl.isList.typeIs, fun a e => ?_⟩
      cases e
      obtain ⟨o, n, e, c, hd, _⟩ := pl
      exact ⟨o, e, hd⟩
    · refine ⟨⟨o, I.kIn p o hk, hc⟩, fun a e => ?_⟩
      cases e
      exact ⟨o, I.kIn _ o hk, hd⟩
    · have z : ∃ o, s.heap.get? p = some o ∧ o.ExactDict := by
        rcases hk with ⟨kvs, hk⟩ | ⟨kvs, hk⟩
        · obtain ⟨_, _, _, _, o, _, _, e, ex, _⟩ := I.hok p _ hk
          exact ⟨o, e, ex⟩
        · obtain ⟨_, _, _, _, o, _, _, e, ex, _⟩ := I.hok p _ hk
          exact ⟨o, e, ex⟩
      obtain ⟨o, e, ex⟩ := z
      refine ⟨⟨o, e, ex.1⟩, fun a e2 => ?_⟩
      cases e2
      exact ⟨o, e, ex.2.1⟩
    · obtain ⟨o, _, _, _, e, ex, _⟩ := I.hok p _ hk
      refine ⟨⟨o, e, ex.1⟩, fun a e2 => ?_⟩
      cases e2
      exact ⟨o, e, ex.2.1⟩
  | _ => exact False.elim ty
noncomputable def tBM0 (K : PySem.W.Frag) (T : String) (r : V → List V → Hp → VK → Prop) (to : TE) : TE := fun σ H Q => to σ H fun x H1 => tyV K T x H1 ∧ r x [] H1 Q
noncomputable def tBM (K : PySem.W.Frag) (T : String) (r : V → List V → Hp → VK → Prop) (to : TE) (t : TA) : TE := fun σ H Q => to σ H fun x H1 => tyV K T x H1 ∧ t σ H1 fun xs H2 => r x xs H2 Q
variable {o e : Expr} {es : List Expr} {to : TE} {t : TA} {name : Str} {apos cpos : Pos} {T id : String} {r : V → List V → Hp → VK → Prop}
theorem pe_bm0 (pa : PlainAttrs T) (slot : Slot T name id) (hty : typeOf (.builtin id) = pure (.type "method_descriptor")) (hm : MtR X id r) (ho : PE X o to)
    (hbase : attributeBase o name X.env (eval o X.env) = eval o X.env := by rfl) (hline : (apos.endLine == cpos.line) = true := by rfl) : PE X (.Call (.Attribute o name apos) [] [] cpos) (tBM0 X.K T r to) := by
  intro pins s σ H Q I h
  refine wpAny_Call_method0_late hbase hline (thn (ho pins s σ H _ I h) fun v s1 ⟨x, H1, I1, r1, ty, q1⟩ => ?_)
  obtain ⟨h1, h2⟩ := tyV_is I1 r1 ty
  exact ⟨T, id, pa, slot, hty, h1, h2, Calls.callWith_builtin rfl (PySem.evalArgs_none (hm pins s1 σ H1 x [] v [] Q I1 r1 .nil q1))⟩
theorem pe_bm (pa : PlainAttrs T) (slot : Slot T name id) (hty : typeOf (.builtin id) = pure (.type "method_descriptor")) (hm : MtR X id r) (ho : PE X o to) (ha : PA X (e :: es) t)
    (hbase : attributeBase o name X.env (eval o X.env) = eval o X.env := by rfl)
    (hfew : ((backTo cpos (starEach (e :: es) X.env)).all (fun x => !x.1) && (backToKw cpos (keywordEach [] X.env)).all (fun x => x.1.isSome)
      && decide ((e :: es).length + ([] : List Keyword).length + (if ([] : List Keyword).isEmpty then 0 else 1) < 30)) = true := by rfl)
    (hline : (apos.endLine == cpos.line) = true := by rfl) (hs : starEach (e :: es) X.env = (false, eval e X.env) :: starEach es X.env := by rfl) (hplain : (backTo cpos (starEach es X.env)).any (·.1) = false := by rfl) :
    PE X (.Call (.Attribute o name apos) (e :: es) [] cpos) (tBM X.K T r to t) := by
  intro pins s σ H Q I h
  refine wpAny_Call_method_late hbase hfew hline rfl (thn (ho pins s σ H _ I h) fun v s1 ⟨x, H1, I1, r1, ty, q1⟩ => ?_)
  obtain ⟨h1, h2⟩ := tyV_is I1 r1 ty
  refine ⟨T, id, pa, slot, hty, h1, h2, ?_⟩
  have hA := ha cpos pins s1 σ H1 _ I1 q1
  rw [hs] at hA ⊢
  refine Calls.callWith_builtin (by show (false || (backTo cpos (starEach es X.env)).any (·.1)) = false; rw [hplain] <;> rfl) (Calls.evalArgs_plain ?_)
  exact thn hA fun us s2 ⟨vs, H2, I2, r2, q2⟩ => hm pins s2 σ H2 x vs v us Q I2 r1 r2 q2
end
end L2
namespace L2
open PySem PySem.Spec PyProof.Rows
noncomputable def MtM (X : Cx) (id : String) (r : V → List V → Hp → VK → Prop) : Prop :=
  ∀ (pins : List (Addr × Obj)) (s : Shared) (σ : St) (H : Hp) (x : V) (xs : List V) (v : Value) (us : List Value) (Q : VK), Inv X pins σ H s → RelV x v → Vals xs us → r x xs H Q →
    wpAny (model X.prog X.w) X.A (call (.builtin id) (v :: us)) (EP X pins σ Q) X.xe s
theorem Vals.one : ∀ {x : V} {us : List Value}, Vals [x] us → ∃ u, us = [u] ∧ RelV x u
  | _, _, .cons r .nil => ⟨_, rfl, r⟩
theorem Vals.two : ∀ {x y : V} {us : List Value}, Vals [x, y] us → ∃ u v, us = [u, v] ∧ RelV x u ∧ RelV y v
  | _, _, _, .cons r (.cons q .nil) => ⟨_, _, rfl, r, q⟩
theorem Vals.zero : ∀ {us : List Value}, Vals [] us → us = []
  | _, .nil => rfl
theorem Vals.dropLast {xs : List V} {us : List Value} (h : Vals xs us) : Vals xs.dropLast us.dropLast := by
  induction h with
  | nil => exact .nil
  | cons r t ih =>
    cases t with
    | nil => exact .nil
    | cons q t' => exact .cons r ih
theorem Vals.eraseIdx : ∀ {xs : List V} {us : List Value} (i : Nat), Vals xs us → Vals (xs.eraseIdx i) (us.eraseIdx i)
  | _, _, _, .nil => .nil
  | _, _, 0, .cons _ t => t
  | _, _, i + 1, .cons r t => .cons r (Vals.eraseIdx i t)
theorem Vals.reverse {xs : List V} {us : List Value} (h : Vals xs us) : Vals xs.reverse us.reverse := by
  induction h with
  | nil => exact .nil
  | cons r t ih => rw [List.reverse_cons, List.reverse_cons]; exact Vals.append ih (.cons r .nil)
theorem erase_last {α : Type} (l : List α) : l.eraseIdx (l.length - 1) = l.dropLast := by
  induction l with
  | nil => rfl
  | cons a r ih =>
    cases r with
    | nil => rfl
    | cons b r =>
      have e : (a :: b :: r).length - 1 = ((b :: r).length - 1) + 1 := by
        have h1 : (a :: b :: r).length = r.length + 2 := rfl
        have h2 : (b :: r).length = r.length + 1 := rfl
        omega
      rw [e, List.eraseIdx_cons_succ, ih]
      all_goals rfl
section
variable {X : Cx} {pins : List (Addr × Obj)} {σ : St} {H : Hp} {s : Shared} {l b : Addr} {xs ys zs : List V}
theorem Inv.lset {its its' : List Value} {n : Nat} {f : Array Value → Array Value} {t' : Nat} (I : Inv X pins σ H s) (hH : H l = some (.lst xs))
    (e : s.heap.get? l = some { cls := .type "list", data := .seq its.toArray n }) (hf : f its.toArray = its'.toArray) (hv : Vals ys its') (hz : ys.length ≤ sizeLine) :
    Inv X pins σ (upd H l (.lst ys)) { s with heap := s.heap.update l (Obj.mapSeq f), toks := t' } := by
  have q := PySem.IsL.update e f
  rw [hf] at q
  refine I.write (x := l) (e := l) (by rw [hH]; exact trivial) (.inl rfl) (fun b' u hb hu => (Heap.get?_update_other s.heap (Obj.mapSeq f) (Ne.symm hb)).trans hu) ⟨_, q⟩ ?_
  exact ⟨hz, its', _, hv, q⟩
theorem Inv.lnew {its : List Value} {t' : Nat} (I : Inv X pins σ H s) (hv : Vals ys its) (hz : ys.length ≤ sizeLine) :
    Inv X pins σ (upd H s.heap.objs.size (.lst ys)) { s with heap := s.heap.push { cls := .type "list", data := .seq its.toArray }, toks := t' } :=
  I.laid (fun _ _ q => Heap.get?_push_of_some _ q) (Nat.le_refl _) ⟨hz, its, 0, hv, Heap.get?_push_size _ rfl⟩
theorem Inv.fresh (I : Inv X pins σ H s) : H s.heap.objs.size = none := I.hok.fresh (Nat.le_refl _)
theorem Inv.lstM (I : Inv X pins σ H s) (hH : H l = some (.lst xs)) : xs.length ≤ sizeLine ∧ ∃ (its : List Value) (n : Nat), Vals xs its ∧ xs.length = its.length ∧ s.heap.get? l = some { cls := .type "list", data := .seq its.toArray n } := by
  obtain ⟨z, its, n, r, e⟩ := I.hok l _ hH
  exact ⟨z, its, n, r, r.length, e⟩
theorem notLongL {n : Nat} (h : n ≤ sizeLine) : Builtin.List.listTooLong n = false := by
  unfold Builtin.List.listTooLong
  exact decide_eq_false (by omega)
end
section
variable {X : Cx}
noncomputable def rAppend : V → List V → Hp → VK → Prop := fun x vs H Q => ∃ l xs y, x = .ref l ∧ vs = [y] ∧ H l = some (.lst xs) ∧ xs.length < sizeLine ∧ Q .non (upd H l (.lst (xs ++ [y])))
theorem mt_append : MtM X "list.append" rAppend := by
  intro pins s σ H x vs v us Q I rx rv h
  obtain ⟨l, xs, y, rfl, rfl, hH, hz, q⟩ := h
  cases rx
  obtain ⟨u, rfl, ru⟩ := rv.one
  obtain ⟨z, its, n, r, hl, e⟩ := I.lstM hH
  refine call_meets F.slot_list_append ⟨_, e, rfl⟩ F.entry_list_append (F.args_list_append_2 _ _) (PySem.list_append l its.toArray n u (by rw [List.size_toArray]; omega)) ⟨e, ?_⟩
  refine ⟨.non, _, I.lset (its' := its ++ [u]) hH e (by simp) (r.append (.cons ru .nil)) ?_, rfl, q⟩
  rw [List.length_append, List.length_singleton]
  omega
noncomputable def rExtend : V → List V → Hp → VK → Prop := fun x vs H Q => ∃ l b xs zs, x = .ref l ∧ vs = [.ref b] ∧ H l = some (.lst xs) ∧ H b = some (.lst zs) ∧ xs.length + zs.length ≤ sizeLine ∧ Q .non (upd H l (.lst (xs ++ zs)))
theorem mt_extend : MtM X "list.extend" rExtend := by
  intro pins s σ H x vs v us Q I rx rv h
  obtain ⟨l, b, xs, zs, rfl, rfl, hH, hB, hz, q⟩ := h
  cases rx
  obtain ⟨u, rfl, ru⟩ := rv.one
  cases ru
  obtain ⟨z, its, n, r, hl, e⟩ := I.lstM hH
  obtain ⟨z2, its2, n2, r2, hl2, e2⟩ := I.lstM hB
  have hsz : its.toArray.size + its2.toArray.size ≤ sizeLine := by rw [List.size_toArray, List.size_toArray]; omega
  have hlong : ¬ (!its.toArray.isEmpty && Builtin.List.listTooLong (its.toArray.size + its2.toArray.size)) = true := by
    rw [notLongL hsz, Bool.and_false]
    exact Bool.false_ne_true
  refine call_meets F.slot_list_extend ⟨_, e, rfl⟩ F.entry_list_extend (F.args_list_extend_2 _ _)
    (AutoSeq1.list_extend_list_list_0 l its.toArray n b its2.toArray n2 hlong (by rw [List.size_toArray]; omega) (by omega)) ⟨e, e2, ?_⟩
  refine ⟨.non, _, I.lset (its' := its ++ its2) hH e (by simp) (r.append r2) ?_, rfl, q⟩
  rw [List.length_append]
  omega
noncomputable def rPop : V → List V → Hp → VK → Prop := fun x vs H Q => ∃ l xs y, x = .ref l ∧ vs = [] ∧ H l = some (.lst xs) ∧ xs[xs.length - 1]? = some y ∧ Q y (upd H l (.lst xs.dropLast))
theorem mt_pop : MtM X "list.pop" rPop := by
  intro pins s σ H x vs v us Q I rx rv h
  obtain ⟨l, xs, y, rfl, rfl, hH, hy, q⟩ := h
  cases rx
  have hus := rv.zero
  subst hus
  obtain ⟨z, its, n, r, hl, e⟩ := I.lstM hH
  obtain ⟨u, hu, ru⟩ := r.get hy
  have hy' : its.toArray[its.toArray.size - 1]? = some u := by
    show its.toArray[its.length - 1]? = some u
    rw [← Array.getElem?_toList, ← hl]
    exact hu
  refine call_meets F.slot_list_pop ⟨_, e, rfl⟩ F.entry_list_pop (F.args_list_pop_1 _) (MeetsSeq.list_pop_last l its.toArray n u hy' (by rw [List.size_toArray]; omega)) ⟨e, ?_⟩
  refine ⟨y, _, I.lset (its' := its.dropLast) hH e ?_ r.dropLast ?_, ru, q⟩
  · show its.toArray.eraseIdxIfInBounds (its.toArray.size - 1) = its.dropLast.toArray
    rw [List.size_toArray, List.eraseIdxIfInBounds_toArray, erase_last]
  · rw [List.length_dropLast]
    omega
noncomputable def rCat : R2 := fun x y H Q => ∃ l b xs zs, x = .ref l ∧ y = .ref b ∧ H l = some (.lst xs) ∧ H b = some (.lst zs) ∧ xs.length + zs.length ≤ sizeLine ∧ ∀ p, H p = none → Q (.ref p) (upd H p (.lst (xs ++ zs)))
theorem op_cat : OpR X (binaryOp .Add) rCat := by
  intro pins s σ H x y v u Q I rx ry h
  obtain ⟨l, b, xs, zs, rfl, rfl, hH, hB, hz, q⟩ := h
  cases rx
  cases ry
  obtain ⟨z, its, n, r, hl, e⟩ := I.lstM hH
  obtain ⟨z2, its2, n2, r2, hl2, e2⟩ := I.lstM hB
  refine PySem.P.add_list e e2 ?_ (by rw [List.size_toArray, List.size_toArray]; omega)
  have ea : its.toArray ++ its2.toArray = (its ++ its2).toArray := by simp
  rw [ea]
  exact ⟨.ref _, _, I.lnew (t' := s.toks) (r.append r2) (by rw [List.length_append]; omega), rfl, q _ I.fresh⟩
end
section
variable {prog : Program} {w : World} {A : Around} {E : Value → Shared → Prop} {s : Shared}
end
section
variable {X : Cx}
end
end L2
namespace Att
open PySem PySem.W PySem.Calls PyProof.Rows
theorem ints_of_wellAll {P : Params} {h : Heap} : ∀ (ns : List Int) (vs : List Value), WellAll P h vs (ns.map WData.int) → IntsAre vs ns := by
  intro ns
  induction ns with
  | nil =>
    intro vs w
    rw [List.map_nil] at w
    cases w
    exact .nil
  | cons n ns ih =>
    intro vs w
    rw [List.map_cons] at w
    cases w with
    | cons a b =>
      cases a
      exact .cons _ _ (ih _ b)
theorem script_of {l : OpenLaw} {n : Nat} (hn : l.most = some n) {P : Params} {h : Heap} {args : List WData} {vals : List Value}
    (hpre : l.row.toRowW.claim.pre args = true) (hwl : WellAll P h vals args) :
    ∃ a vs ns, vals = [Value.ref a] ∧ args = [WData.list (ns.map WData.int)] ∧ h.get? a = some { cls := .type "list", data := .seq vs.toArray } ∧ IntsAre vs ns ∧ ns.length ≤ n := by
  have hsh : WShape.hasAll [] args [.list .int] = true := (pre_splitW hpre).1
  have hc : l.pre.holds [] { args := args } = true := (pre_splitW hpre).2
  obtain ⟨d, r, rfl, h1, h2⟩ := hasAllW_cons hsh
  obtain rfl := hasAllW_nil h2
  obtain ⟨xs, rfl, h3⟩ := hasW_list h1
  obtain ⟨ns, rfl⟩ := items_int h3
  have hlen : ns.length ≤ n := by
    unfold OpenLaw.pre at hc
    have h4 : (WTm.not (.lt (.lit (.int (n : Int))) (.len (.arg 0)))).holds [] { args := [.list (ns.map .int)] } = true := by
      have h4 := (holds_andW hc).1
      rw [hn] at h4
      exact h4
    have h5 := condW_of h4 (w_not (w_lt w_lit (w_len_list (w_arg rfl))))
    rw [List.length_map] at h5
    refine Nat.le_of_not_lt fun q => ?_
    have q' : (n : Int) < ((ns.length : Nat) : Int) := by omega
    first
      | (rw [decide_eq_true q'] at h5; exact absurd h5 (by decide))
      | (simp at h5; omega)
  cases hwl with
  | cons w1 w2 =>
    cases w2
    cases w1 with
    | list ho hall => exact ⟨_, _, ns, rfl, rfl, ho, ints_of_wellAll ns _ hall, hlen⟩
theorem post_true (l : OpenLaw) (args : List WData) : l.row.toRowW.claim.post args (.bool true) args = true :=
  postW_of (r := l.row.toRowW) (X := (true == true))
    (show WShape.has [] (.bool true) .bool = true by first | rfl | decide | simp [WShape.has, WShape.arms, WShape.armsAll])
    (show (WTm.eq .res (.lit (.bool true))).value [] { args := args, res := some (.bool true), after := args } = some (.bool (true == true)) from w_eq_bool (w_res rfl) w_lit) rfl
theorem attach_call {l : OpenLaw} {n : Nat} {q : Program} {loose : List Str} {XP : (Str → Option Value) → Heap → Prop} {YP : World → Heap → Prop} {d : DefRec}
    (hn : l.most = some n) (hdf : d.params.defaults = [])
    (call : ∀ (w : World) (s₀ s₁ : Shared) (mg mb : Str → Option Value) (fa : Addr) (o : Obj) (pm cd doc : Value) (a : Addr) (vs : List Value) (ns : List Int),
      Ground q loose [] XP w s₀ mg mb s₁.heap → YP w s₁.heap →
      s₁.heap.get? fa = some o → o.data = .func (docDef d.name d.params d.body d.scope pm cd doc) → s₁.heap.CodeRec cd d.name → mg d.name = some (.ref fa) →
      s₁.heap.get? a = some { cls := .type "list", data := .seq vs.toArray } → IntsAre vs ns → ns.length ≤ n → s₁.gens = #[] →
      codeAny (model l.prog w) callerA (.call (.ref fa) ⟨[.ref a], []⟩) (fun r s' => r = .ok (.ret (.bool true)) ∧ OldK s₁.heap s'.heap ∧ s'.os = s₁.os ∧ AllBare s'.gens) s₁) :
    WalkO q loose XP YP l.row.toRowW d [] (fun f vs => PySem.call f vs) := by
  intro w s₀ s₁ mg mb G Y fa o pm cd doc dV kV ho hd hcd hD hmg hg args vals as hpre hlay hrd hwl hlo
  obtain rfl : dV = .none := Dflts.none hD hdf
  obtain rfl : kV = .none := Dflts.noKw hD
  obtain ⟨a, vs, ns, rfl, rfl, hobj, hints, hlen⟩ := script_of hn hpre hwl
  refine enter_call (codeAny_mono (call w s₀ s₁ mg mb fa o pm cd doc a vs ns G Y ho (fd_plain hd) hcd hmg hobj hints hlen hg) fun r s' hq => ?_)
  obtain ⟨rfl, h2, h3, h4⟩ := hq
  exact ⟨.inl ⟨.bool true, .bool true, [], rfl, fun _ => rfl, .bool true, post_true l _, fun _ => ⟨List.Pairwise.nil, fun _ hm => (nomatch hm)⟩⟩, h2, h3, h4⟩
section
variable {prog : Program} {w : World} {A : Around} {E : Value → Shared → Prop} {s : Shared} {K : Frag}
end
end Att
namespace L2
open PySem PySem.Spec PyProof.Rows
theorem vals_ints : ∀ {vs : List Value} {ns : List Int}, IntsAre vs ns → Vals (ns.map V.int) vs
  | _, _, .nil => .nil
  | _, _, .cons n t h => .cons ⟨t, rfl⟩ (vals_ints h)
noncomputable def Only (H : Hp) : Prop := ∀ b, H b = none ∨ ∃ o xs, H b = some (.frz o (.lst xs))
theorem law_call {P : Program} {w : World} {K : PySem.W.Frag} {mg mb : Str → Option Value} {CX : CXT} {k : Nat} {fa a : Addr} {fd : FuncData} {x : Str} {sp : Sp} {s₁ : Shared} {vs : List Value} {ns : List Int}
    (KX : K.In s₁.heap) (hns : s₁.heap.Ns mainGlobals mg) (hb : s₁.heap.Ns builtinsNs mb) (hbb : ∀ x : Str, x ≠ "__name__" → mb x = bootBuiltins x) (hlim : s₁.heap.NoLimit) (hg : s₁.gens = #[])
    (ha : s₁.heap.get? a = some { cls := .type "list", data := .seq vs.toArray }) (hi : IntsAre vs ns) (hl : ns.length ≤ sizeLine) (hr : Room k callerA)
    (F : ∀ base : Heap, K.In base → base.Ns mainGlobals mg → FnOk P w K mg base CX k fa fd [x] sp) (hbind : ∀ (s : Shared) (u : Value), BindsTo s fd ⟨[u], []⟩ [(x, u)])
    (hsp : ∀ H : Hp, Only H → SqL K H a (ns.map V.int) → sp [.ref a] H (fun v _ => v = .bl true) fun _ _ _ => False)
    (hCX : ∀ H e s', CX [] H s₁ (fun _ _ _ => False) e s' → False) :
    codeAny (model P w) callerA (.call (.ref fa) ⟨[.ref a], []⟩) (fun r s' => r = .ok (.ret (.bool true)) ∧ OldK s₁.heap s'.heap ∧ s'.os = s₁.os ∧ AllBare s'.gens) s₁ := by
  have rv := vals_ints hi
  have lenV := hi.length
  -- from an abstract heap in which nothing but the script may be tracked
  have core : ∀ H : Hp, Only H → SqL K H a (ns.map V.int) → HOk P w H s₁.heap → (∀ b, H b ≠ none → b = a) → (H a ≠ none → K.lookup a = none) →
      codeAny (model P w) callerA (.call (.ref fa) ⟨[.ref a], []⟩) (fun r s' => r = .ok (.ret (.bool true)) ∧ OldK s₁.heap s'.heap ∧ s'.os = s₁.os ∧ AllBare s'.gens) s₁ := by
    intro H hO hS hok hA hK
    have base_of : ∀ {b : Addr} {o : Obj}, s₁.heap.get? b = some o → H b = none → (hidT s₁.heap H).get? b = some o := fun e n => hidT_get e n
    have noA : ∀ {b : Addr} {o : Obj} {es : Array DictEntry} {ep : Nat}, s₁.heap.get? b = some o → o.data = .dict es ep → H b = none := fun {b o es ep} e d => by
      cases q : H b with
      | none => rfl
      | some u =>
        have e' : b = a := hA b (by rw [q]; simp)
        subst e'
        rw [ha] at e; cases e
        have d' : Data.seq vs.toArray _ = Data.dict es ep := d
        cases d'
    have nsK : ∀ {b : Addr} {m : Str → Option Value}, s₁.heap.Ns b m → (hidT s₁.heap H).Ns b m := fun {b m} ⟨o, es, ep, e, d, r⟩ => ⟨o, es, ep, base_of e (noA e d), d, r⟩
    have hKb : K.In (hidT s₁.heap H) := fun b o e => base_of (KX b o e) (by
      cases q : H b with
      | none => rfl
      | some u =>
        have e' : b = a := hA b (by rw [q]; simp)
        subst e'
        rw [hK (by rw [q]; simp)] at e; cases e)
    have hM : Mod K mg (hidT s₁.heap H) := ⟨hKb, nsK hns, ⟨mb, nsK hb, hbb⟩, let ⟨mc, h1, h2⟩ := hlim; ⟨mc, nsK h1, h2⟩⟩
    have e0 : Env0 P w K mg (hidT s₁.heap H) callerA [] s₁ H := ⟨rfl, hM, fun b o e => of_hidT e, Nat.le_of_eq (hidT_size _ _), trivial, fun b hb => absurd (show b ∈ ([] : List Addr) from hb) (by simp), hok, .of_eq hg⟩
    refine codeAny_mono ((F _ hKb (nsK hns)).run callerA [] s₁ H ⟨[.ref a], []⟩ [.ref a] [.ref a] _ _ hr e0 (hbind s₁ (.ref a)) (.cons rfl .nil) (hsp H hO hS)) fun r s' h => ?_
    cases r with
    | error e => exact (hCX H e s' h).elim
    | ok fl =>
      cases fl with
      | next => exact False.elim h
      | brk => exact False.elim h
      | cont => exact False.elim h
      | ret u =>
        obtain ⟨v, H', os, bare, un, hok', r', q⟩ := h
        have q' : v = .bl true := q
        subst q'
        obtain rfl : u = Value.bool true := r'
        refine ⟨rfl, OldK.of_keep fun b o e => ?_, os, bare⟩
        cases q : H b with
        | none => exact un.keep b o e q (by intro z; exact absurd (show b ∈ ([] : List Addr) from z) (by simp)) (by simp)
        | some u =>
          rcases hO b with z | ⟨ob, xs, z⟩
          · rw [q] at z; cases z
          · have z2 := un.frzs b ob _ z
            obtain ⟨e1, _⟩ := hok b _ z
            obtain ⟨e2, _⟩ := hok' b _ z2
            rw [e] at e1; cases e1
            exact e2
  cases hk : K.lookup a with
  | some o =>
    -- the script is one of the module's own objects
    have e := KX a o hk
    rw [ha] at e
    cases e
    refine core (fun _ => none) (fun _ => .inl rfl) (.inr ⟨_, vs.toArray, _, hk, rfl, rfl, rfl, by rw [List.size_toArray, lenV]; exact hl, by simpa using rv⟩) (fun b u z => by have z' : (none : Option HO) = some u := z; cases z') (fun b z => absurd rfl z) fun z => absurd rfl z
  | none =>
    refine core (fun b => if b = a then some (.frz { cls := .type "list", data := .seq vs.toArray } (.lst (ns.map V.int))) else none) (fun b => ?_) (.inl (.inr ⟨{ cls := .type "list", data := .seq vs.toArray }, if_pos rfl⟩)) (fun b u z => ?_) (fun b z => ?_) fun _ => hk
    · by_cases hb : b = a
      · exact .inr ⟨_, _, if_pos hb⟩
      · exact .inl (if_neg hb)
    · by_cases hb : b = a
      · have z' := (if_pos hb).symm.trans z
        cases z'
        subst hb
        exact ⟨ha, by rw [List.length_map]; exact hl, vs, _, rv, ha⟩
      · have z' := (if_neg hb).symm.trans z
        cases z'
    · by_cases hb : b = a
      · exact hb
      · exact absurd (if_neg hb) z
end L2
namespace L2
open PySem PySem.Spec PyProof.Rows
theorem walk_of {l : PySem.W.OpenLaw} {n k : Nat} {q : Program} {loose : List Str} {XP : (Str → Option Value) → Heap → Prop} {YP : World → Heap → Prop} {d : DefRec} {K : Params → PySem.W.Frag} {CX : World → CXT} {sp : World → Sp} {x : Str}
    (hn : l.most = some n) (hn2 : n ≤ sizeLine) (hdf : d.params.defaults = []) (hr : Room k callerA)
    (hY : ∀ (w : World) (h : Heap), YP w h → (K w.params).In h)
    (F : ∀ (w : World) (mg : Str → Option Value) (fa : Addr) (h : Heap), (K w.params).In h → h.Ns mainGlobals mg → mg d.name = some (.ref fa) →
      ∃ fd : FuncData, (∀ (s : Shared) (u : Value), BindsTo s fd ⟨[u], []⟩ [(x, u)]) ∧
        ∀ base : Heap, (K w.params).In base → base.Ns mainGlobals mg → FnOk l.prog w (K w.params) mg base (CX w) k fa fd [x] (sp w))
    (hsp : ∀ (w : World) (H : Hp) (a : Addr) (ns : List Int), ns.length ≤ n → Only H → SqL (K w.params) H a (ns.map V.int) → sp w [.ref a] H (fun v _ => v = .bl true) fun _ _ _ => False)
    (hCX : ∀ (w : World) (H : Hp) (s : Shared) (e : Value) (s' : Shared), CX w [] H s (fun _ _ _ => False) e s' → False) :
    PySem.W.WalkO q loose XP YP l.row.toRowW d [] (fun f vs => PySem.call f vs) := by
  refine Att.attach_call hn hdf fun w s₀ s₁ mg mb fa o pm cd doc a vs ns G Y ho hd hcd hmg hobj hints hlen hg => ?_
  have KX := hY w _ Y
  obtain ⟨fd, hb, hF⟩ := F w mg fa _ KX G.T.g hmg
  exact law_call KX G.T.g G.T.b G.T.builtins G.T.nolimit hg hobj hints (Nat.le_trans hlen hn2) hr hF hb (fun H hO hS => hsp w H a ns hlen hO hS) fun H e s' => hCX w H s₁ e s'
end L2
namespace L2
open PySem PySem.Spec PyProof.Rows
noncomputable def defArgs (s : Stmt) : Arguments := match s with
  | .FunctionDef _ a _ _ _ _ _ _ _ _ => a
  | _ => { posonlyargs := [], args := [], vararg := none, kwonlyargs := [], kw_defaults := [], kwarg := none, defaults := [] }
noncomputable def defBody (s : Stmt) : List Stmt := match s with
  | .FunctionDef _ _ b _ _ _ _ _ _ _ => b
  | _ => []
noncomputable def defScope (s : Stmt) : Scope := match s with
  | .FunctionDef _ _ _ _ _ _ sc _ _ _ => sc
  | _ => { kind := .function, names := [], isGenerator := false, isCoroutine := false }
noncomputable abbrev CX0 : CXT := fun _ _ _ _ _ _ => False
noncomputable abbrev E0 : XK := fun _ _ _ => False
theorem pass0 {X : Cx} : Passes CX0 X E0 := fun _ _ _ _ _ _ _ h => h.elim
structure Fun (K : PySem.W.Frag) (x qual : Str) (st : Stmt) (f : Addr) (fd : FuncData) : Prop where
  ex : ∃ (oc : Value) (od : Option Addr) (kV doc pm : Value) (an : Option Addr) (cdv ct : Value) (osl : Array (Option Value)),
    fd = PySem.W.fnOf x qual (defArgs st) (defBody st) (defScope st) .none kV doc pm an cdv ct ∧ K.lookup f = some ⟨oc, od, .func fd, osl⟩ ∧ PySem.W.codeIn K cdv qual = true
  kp : PySem.W.keepIn K (.ref f) = true
section
variable {P : Program} {w : World} {K : PySem.W.Frag} {mg : Str → Option Value} {base : Heap}
theorem Fun.ok {x qual : Str} {st : Stmt} {f : Addr} {fd : FuncData} {N ps : List Str} {k : Nat} {sp : Sp} (F : Fun K x qual st f fd) (S : FnScope N ps (defScope st)) (len : ∀ vs H Q E, sp vs H Q E → vs.length = ps.length)
    (hbody : ∀ (cdv : Value) (A : Around) (outer : List Env) (s : Shared) (H : Hp) (vs : List V) (Q : VK) (E : XK), Room k (A.deeper (envOfC qual (defScope st) s.heap.objs.size f cdv)) → sp vs H Q E →
      ∃ t, PSs (cxOf CX0 P w K mg base N qual (defScope st) f cdv A outer s H E).nox (defBody st) t ∧ t { nx := fun _ H' => Q .non H', rt := Q } (start N vs) H) : FnOk P w K mg base CX0 (k + 1) f fd ps sp := by
  obtain ⟨oc, od, kV, doc, pm, an, cdv, ct, osl, rfl, lk, hcd⟩ := F.ex
  refine fn_of lk hcd S len fun A outer s H vs Q E hr hsp => ?_
  obtain ⟨t, h, q⟩ := hbody cdv A outer s H vs Q E hr hsp
  exact ⟨t, h.nox, q⟩
theorem Fun.binds {x qual : Str} {st : Stmt} {f : Addr} {fd : FuncData} {ps : List Str} (F : Fun K x qual st f fd)
    (h : ∀ (kV doc pm : Value) (an : Option Addr) (cdv ct : Value) (us : List Value), us.length = ps.length → bindArgs (PySem.W.fnOf x qual (defArgs st) (defBody st) (defScope st) .none kV doc pm an cdv ct) ⟨us, []⟩ = pure (ps.zip us)) : Binds K fd ps [] := by
  obtain ⟨oc, od, kV, doc, pm, an, cdv, ct, osl, rfl, lk, hcd⟩ := F.ex
  exact .all (h kV doc pm an cdv ct)
theorem fun_mk {x qual : Str} {st : Stmt} {f : Addr} {oc : Value} {od an : Option Addr} {osl : Array (Option Value)} {kV doc pm cdv ct : Value} (l : K.lookup f = some ⟨oc, od, .func (PySem.W.fnOf x qual (defArgs st) (defBody st) (defScope st) .none kV doc pm an cdv ct), osl⟩)
    (c : PySem.W.codeIn K cdv qual = true) (k : PySem.W.keepIn K (.ref f) = true) : Fun K x qual st f (PySem.W.fnOf x qual (defArgs st) (defBody st) (defScope st) .none kV doc pm an cdv ct) := ⟨⟨oc, od, kV, doc, pm, an, cdv, ct, osl, rfl, l, c⟩, k⟩
end
section
variable {X : Cx}
end
noncomputable def Same (H H' : Hp) : Prop := ∀ b o, H b = some o → H' b = some o
theorem Same.refl (H : Hp) : Same H H := fun _ _ h => h
theorem Same.trans {H H1 H2 : Hp} (a : Same H H1) (b : Same H1 H2) : Same H H2 := fun c o h => b c o (a c o h)
theorem Same.free {H H' : Hp} (e : Same H H') {l : Addr} (h : H' l = Option.none) : H l = Option.none := by
  cases q : H l with
  | none => rfl
  | some o =>
    rw [e l o q] at h
    cases h
theorem Same.seq {K : PySem.W.Frag} {H H' : Hp} {a : Addr} {xs : List V} (e : Same H H') (h : SqL K H a xs) : SqL K H' a xs := by
  rcases h with (h | ⟨o, h⟩) | h
  · exact .inl (.inl (e _ _ h))
  · exact .inl (.inr ⟨o, e _ _ h⟩)
  · exact .inr h
end L2
set_option Elab.async false
set_option linter.all false
set_option maxRecDepth 100000
namespace L2
open PySem PySem.Spec PyProof.Rows
section
variable {κ : Type} [DecidableEq κ]
noncomputable def valV (kvs : List (κ × V)) (k : κ) : Option V := (kvs.find? fun kv => decide (kv.1 = k)).map (·.2)
noncomputable def putK (kvs : List (κ × V)) (k : κ) (v : V) : List (κ × V) :=
  if (kvs.any fun kv => decide (kv.1 = k)) = true then kvs.map (fun kv => if kv.1 = k then (kv.1, v) else kv) else kvs ++ [(k, v)]
noncomputable def dropK (kvs : List (κ × V)) (k : κ) : List (κ × V) := kvs.filter fun kv => decide (kv.1 ≠ k)
theorem valV_pos {p : κ × V} {r : List (κ × V)} {k : κ} (e : p.1 = k) : valV (p :: r) k = some p.2 := by simp [valV, List.find?_cons, e]
theorem valV_neg {p : κ × V} {r : List (κ × V)} {k : κ} (e : ¬ p.1 = k) : valV (p :: r) k = valV r k := by simp [valV, List.find?_cons, e]
theorem valV_any (k : κ) : ∀ kvs : List (κ × V), (kvs.any fun kv => decide (kv.1 = k)) = (valV kvs k).isSome
  | [] => rfl
  | p :: r => by
    rw [List.any_cons]
    by_cases e : p.1 = k
    · simp only [valV_pos e, decide_eq_true e, Bool.true_or, Option.isSome_some]
    · rw [valV_neg e, decide_eq_false e, Bool.false_or]; exact valV_any k r
theorem length_putK (kvs : List (κ × V)) (k : κ) (v : V) : (putK kvs k v).length ≤ kvs.length + 1 := by
  unfold putK
  split
  · rw [List.length_map]; omega
  · rw [List.length_append, List.length_cons, List.length_nil]; omega
theorem RelO.isSome_eq {o : Option V} {u : Option Value} (r : RelO o u) : o.isSome = u.isSome := by
  cases o with
  | none => cases u with
    | none => rfl
    | some _ => exact (show False from r).elim
  | some _ => cases u with
    | none => exact (show False from r).elim
    | some _ => rfl
theorem RelO.getD {o : Option V} {u : Option Value} {d : V} {d' : Value} (r : RelO o u) (rd : RelV d d') : RelV (o.getD d) (u.getD d') := by
  cases o with
  | none => cases u with
    | none => exact rd
    | some _ => exact (show False from r).elim
  | some _ => cases u with
    | none => exact (show False from r).elim
    | some _ => exact r
theorem KV.val {kvs : List (κ × V)} {vs : List (κ × Value)} (r : KV kvs vs) (k : κ) : RelO (valV kvs k) (valueAt vs k) := by
  unfold KV at r
  induction r with
  | nil => exact True.intro
  | @cons p q ps qs h t ih =>
    obtain ⟨h1, h2⟩ := h
    by_cases e : p.1 = k
    · have e' : q.1 = k := h1.symm.trans e
      have b : valueAt (q :: qs) k = some q.2 := by simp [valueAt, List.find?_cons, e']
      rw [valV_pos e, b]; exact h2
    · have e' : ¬ q.1 = k := fun z => e (h1.trans z)
      have b : valueAt (q :: qs) k = valueAt qs k := by simp [valueAt, List.find?_cons, e']
      rw [valV_neg e, b]; exact ih
theorem KV.any {kvs : List (κ × V)} {vs : List (κ × Value)} (r : KV kvs vs) (k : κ) : (kvs.any fun kv => decide (kv.1 = k)) = vs.any fun kv => decide (kv.1 = k) := by
  unfold KV at r
  induction r with
  | nil => rfl
  | cons h t ih => rw [List.any_cons, List.any_cons, ih, h.1]
theorem KV.repl {kvs : List (κ × V)} {vs : List (κ × Value)} (r : KV kvs vs) (k : κ) {y : V} {u : Value} (ry : RelV y u) :
    KV (kvs.map fun kv => if kv.1 = k then (kv.1, y) else kv) (vs.map fun kv => if kv.1 = k then (kv.1, u) else kv) := by
  unfold KV at r ⊢
  induction r with
  | nil => exact .nil
  | @cons p q ps qs h t ih =>
    rw [List.map_cons, List.map_cons]
    refine .cons ?_ ih
    obtain ⟨h1, h2⟩ := h
    by_cases e : p.1 = k
    · rw [if_pos e, if_pos (h1.symm.trans e)]; exact ⟨h1, ry⟩
    · rw [if_neg e, if_neg (fun z => e (h1.trans z))]; exact ⟨h1, h2⟩
theorem KV.put {kvs : List (κ × V)} {vs : List (κ × Value)} (r : KV kvs vs) (k : κ) {y : V} {u : Value} (ry : RelV y u) : KV (putK kvs k y) (stored vs k u) := by
  unfold putK stored
  rw [r.any k]
  by_cases e : (vs.any fun kv => decide (kv.1 = k)) = true
  · rw [if_pos e, if_pos e]; exact r.repl k ry
  · rw [if_neg e, if_neg e]; exact Paired.snoc r ⟨rfl, ry⟩
theorem KV.drop {kvs : List (κ × V)} {vs : List (κ × Value)} (r : KV kvs vs) (k : κ) : KV (dropK kvs k) (without vs k) := by
  unfold KV at r ⊢
  unfold dropK without
  induction r with
  | nil => exact .nil
  | @cons p q ps qs h t ih =>
    obtain ⟨h1, h2⟩ := h
    rw [List.filter_cons, List.filter_cons]
    by_cases e : p.1 = k
    · have a : ¬ decide (p.1 ≠ k) = true := by simp [e]
      have b : ¬ decide (q.1 ≠ k) = true := by simp [h1.symm.trans e]
      rw [if_neg a, if_neg b]; exact ih
    · have e' : ¬ q.1 = k := fun z => e (h1.trans z)
      have a : decide (p.1 ≠ k) = true := by simp [e]
      have b : decide (q.1 ≠ k) = true := by simp [e']
      rw [if_pos a, if_pos b]; exact .cons ⟨h1, h2⟩ ih
theorem KV.length {kvs : List (κ × V)} {vs : List (κ × Value)} (r : KV kvs vs) : kvs.length = vs.length := Paired.length r
end
theorem kV_is {P : Program} {w : World} {k : Key} {u : Value} (r : RelV (kV k) u) : (mixKind P w).is k u = true := by
  cases k with
  | inl i => obtain ⟨t, e⟩ := (show ∃ t, u = Value.int i t from r); subst e; exact mixKind_int P w i t
  | inr x => obtain ⟨t, e⟩ := (show ∃ t, u = Value.str x t from r); subst e; exact mixKind_str P w x t
theorem items_are {P : Program} {w : World} : ∀ {ks : List Key} {us : List Value}, Vals (ks.map kV) us → ItemsAre (mixKind P w) ks us
  | [], _, r => by rw [List.map_nil] at r; cases r; exact .nil
  | k :: ks, _, r => by
    rw [List.map_cons] at r
    cases r with
    | cons h t => exact .cons (kV_is h) (items_are t)
noncomputable abbrev KT (H : Hp) : List (List Key × V) → List (List Key × Addr × Value) → Prop := Paired fun p q => p.1 = q.1 ∧ H q.2.1 = some (.tup (p.1.map kV)) ∧ RelV p.2 q.2.2
theorem KT.val {H : Hp} {kvs : List (List Key × V)} {xs : List (List Key × Addr × Value)} (r : KT H kvs xs) (k : List Key) : RelO (valV kvs k) ((atKey xs k).map (·.2)) := by
  induction r with
  | nil => exact True.intro
  | @cons p q ps qs h t ih =>
    obtain ⟨h1, _, h2⟩ := h
    by_cases e : p.1 = k
    · have e' : q.1 = k := h1.symm.trans e
      have b : atKey (q :: qs) k = some q.2 := by simp [atKey, List.find?_cons, e']
      rw [valV_pos e, b]; exact h2
    · have e' : ¬ q.1 = k := fun z => e (h1.trans z)
      have b : atKey (q :: qs) k = atKey qs k := by simp [atKey, List.find?_cons, e']
      rw [valV_neg e, b]; exact ih
theorem KT.repl {H : Hp} {kvs : List (List Key × V)} {xs : List (List Key × Addr × Value)} (r : KT H kvs xs) (k : List Key) {y : V} {u : Value} (ry : RelV y u) :
    KT H (kvs.map fun kv => if kv.1 = k then (kv.1, y) else kv) (xs.map (putAt k u)) := by
  induction r with
  | nil => exact .nil
  | @cons p q ps qs h t ih =>
    rw [List.map_cons, List.map_cons]
    refine .cons ?_ ih
    obtain ⟨h1, h2, h3⟩ := h
    unfold putAt
    by_cases e : p.1 = k
    · rw [if_pos e, if_pos (h1.symm.trans e)]; exact ⟨h1, h2, ry⟩
    · rw [if_neg e, if_neg (fun z => e (h1.trans z))]; exact ⟨h1, h2, h3⟩
theorem KT.put {H : Hp} {kvs : List (List Key × V)} {xs : List (List Key × Addr × Value)} (r : KT H kvs xs) (k : List Key) {b : Addr} {y : V} {u : Value} (hb : H b = some (.tup (k.map kV))) (ry : RelV y u) :
    KT H (putK kvs k y) (storedH xs k b u) := by
  have e : (kvs.any fun kv => decide (kv.1 = k)) = (atKey xs k).isSome := by
    rw [valV_any, (r.val k).isSome_eq, Option.isSome_map]
  unfold putK storedH
  rw [e]
  by_cases q : (atKey xs k).isSome = true
  · rw [if_pos q, if_pos q]; exact r.repl k ry
  · rw [if_neg q, if_neg q]; exact Paired.snoc r ⟨rfl, hb, ry⟩
theorem KT.keeps {H H' : Hp} {kvs : List (List Key × V)} {xs : List (List Key × Addr × Value)} (r : KT H kvs xs) (ht : ∀ b ys, H b = some (.tup ys) → H' b = some (.tup ys)) : KT H' kvs xs :=
  Paired.mapP r fun _ _ z => ⟨z.1, ht _ _ z.2.1, z.2.2⟩
section
variable {P : Program} {w : World} {H : Hp} {h : Heap} {a : Addr}
theorem rd_of {u : HO} (ok : HOk P w H h) (e : Rd H a u) : ObjOk P w H h a u := e.ok ok
theorem dk_rd {kvs : List (Key × V)} (ok : HOk P w H h) (e : Rd H a (.dK kvs)) : kvs.length ≤ sizeLine ∧ (a == sysModules) = false ∧ ∃ vs, KV kvs vs ∧ h.DictOf (mixKind P w) a vs :=
  show ObjOk P w H h a (.dK kvs) from rd_of ok e
theorem dk_of {kvs : List (Key × V)} (ok : HOk P w H h) (e : H a = some (.dK kvs)) : kvs.length ≤ sizeLine ∧ (a == sysModules) = false ∧ ∃ vs, KV kvs vs ∧ h.DictOf (mixKind P w) a vs := dk_rd ok (.inl e)
theorem key_of {ks : List Key} (ok : HOk P w H h) (e : H a = some (.tup (ks.map kV))) : (tupleKind (mixKind P w)).is h ks a := by
  obtain ⟨_, its, r, o, h1, h2, n, h3⟩ := (show ObjOk P w H h a (.tup (ks.map kV)) from ok a _ e)
  exact ⟨o, its.toArray, n, h1, h2, (Prod.mk.inj h3).1, by simpa using items_are r⟩
theorem dt_rd {kvs : List (List Key × V)} (ok : HOk P w H h) (e : Rd H a (.dT kvs)) : kvs.length ≤ sizeLine ∧ (a == sysModules) = false ∧
    ∃ xs, KT H kvs xs ∧ h.DictOfH (tupleKind (mixKind P w)) a xs := by
  obtain ⟨z, y, xs, r, o, es, ep, h1, h2, h3, h4, h5⟩ := (show ObjOk P w H h a (.dT kvs) from rd_of ok e)
  refine ⟨z, y, xs, r, o, es, ep, h1, h2, h3, h4, fun x hx => ?_, h5⟩
  have all : ∀ {l : List (List Key × V)} {m : List (List Key × Addr × Value)}, KT H l m → ∀ x ∈ m, (tupleKind (mixKind P w)).is h x.1 x.2.1 := by
    intro l m q
    induction q with
    | nil => intro x hx; exact nomatch hx
    | @cons p q ps qs hq t ih =>
      intro x hx
      rcases List.mem_cons.mp hx with e | hx
      · subst e
        exact key_of ok (by rw [← hq.1]; exact hq.2.1)
      · exact ih x hx
  exact all r x hx
theorem dt_of {kvs : List (List Key × V)} (ok : HOk P w H h) (e : H a = some (.dT kvs)) : kvs.length ≤ sizeLine ∧ (a == sysModules) = false ∧
    ∃ xs, KT H kvs xs ∧ h.DictOfH (tupleKind (mixKind P w)) a xs := dt_rd ok (.inl e)
end
noncomputable def DGet (H : Hp) (a : Addr) (y : V) (r : Option V) : Prop :=
  (∃ kvs k, Rd H a (.dK kvs) ∧ y = kV k ∧ r = valV kvs k) ∨ ∃ kvs k b, Rd H a (.dT kvs) ∧ y = .ref b ∧ H b = some (.tup (k.map kV)) ∧ r = valV kvs k
noncomputable def DPut (H : Hp) (a : Addr) (y v : V) (H' : Hp) : Prop :=
  (∃ kvs k, H a = some (.dK kvs) ∧ y = kV k ∧ kvs.length < sizeLine ∧ H' = upd H a (.dK (putK kvs k v))) ∨
  ∃ kvs k b, H a = some (.dT kvs) ∧ y = .ref b ∧ H b = some (.tup (k.map kV)) ∧ kvs.length < sizeLine ∧ H' = upd H a (.dT (putK kvs k v))
theorem DGet.k {H : Hp} {a : Addr} {kvs : List (Key × V)} {k : Key} (e : H a = some (.dK kvs)) : DGet H a (kV k) (valV kvs k) := .inl ⟨kvs, k, .inl e, rfl, rfl⟩
theorem DPut.k {H : Hp} {a : Addr} {kvs : List (Key × V)} {k : Key} {v : V} (e : H a = some (.dK kvs)) (hl : kvs.length < sizeLine) : DPut H a (kV k) v (upd H a (.dK (putK kvs k v))) := .inl ⟨kvs, k, e, rfl, hl, rfl⟩
section
variable {X : Cx} {pins : List (Addr × Obj)} {σ : St} {H : Hp} {s : Shared} {a : Addr} {y v : V} {u r : Value} {o : Option V} {A : Around} {E : Value → Shared → Prop}
theorem d_in {Q : Value → Shared → Prop} (hu : A.units + 1 < cLine) (I : Inv X pins σ H s) (g : DGet H a y o) (ry : RelV y u) (h : ∀ s', Inv X pins σ H s' → Q (.bool o.isSome) s') :
    wpAny (model X.prog X.w) A (compareOp .In u (.ref a)) Q E s := by
  rcases g with ⟨kvs, k, e, ey, l⟩ | ⟨kvs, k, b, e, ey, eb, l⟩
  · subst ey
    obtain ⟨z, hd, vs, rel, dd⟩ := dk_rd I.hok e
    refine wpAny_in_of (kV_is ry) hd dd.mapOf ?_
    rw [← (rel.val k).isSome_eq, ← l]
    exact h _ (I.tok _)
  · subst ey
    cases (show u = Value.ref b from ry)
    obtain ⟨z, hd, xs, rel, dd⟩ := dt_rd I.hok e
    refine wpAny_in_heap (tupleKind_room_in1 hu) (key_of I.hok eb) hd dd ?_
    have q := (rel.val k).isSome_eq
    rw [Option.isSome_map] at q
    rw [← q, ← l]
    exact h _ (I.tok _)
theorem d_notIn {Q : Value → Shared → Prop} (hu : A.units + 1 < cLine) (I : Inv X pins σ H s) (g : DGet H a y o) (ry : RelV y u) (h : ∀ s', Inv X pins σ H s' → Q (.bool (!o.isSome)) s') :
    wpAny (model X.prog X.w) A (compareOp .NotIn u (.ref a)) Q E s := by
  rcases g with ⟨kvs, k, e, ey, l⟩ | ⟨kvs, k, b, e, ey, eb, l⟩
  · subst ey
    obtain ⟨z, hd, vs, rel, dd⟩ := dk_rd I.hok e
    refine wpAny_notIn_of (kV_is ry) hd dd.mapOf ?_
    rw [← (rel.val k).isSome_eq, ← l]
    exact h _ (I.tok _)
  · subst ey
    cases (show u = Value.ref b from ry)
    obtain ⟨z, hd, xs, rel, dd⟩ := dt_rd I.hok e
    refine wpAny_notIn_heap (tupleKind_room_in1 hu) (key_of I.hok eb) hd dd ?_
    have q := (rel.val k).isSome_eq
    rw [Option.isSome_map] at q
    rw [← q, ← l]
    exact h _ (I.tok _)
theorem d_write {h' : Heap} {t' : Nat} {ob : HO} (I : Inv X pins σ H s) (mu : Mut (H a)) (hs : Heap.SameBut a s.heap h') (he : ∃ q, h'.get? a = some q) (new : ObjOk X.prog X.w (upd H a ob) h' a ob) :
    Inv X pins σ (upd H a ob) { s with heap := h', toks := t' } :=
  I.write (x := a) (e := a) mu (.inl rfl) (fun b q hb z => (hs.2 b hb).trans z) he new
theorem dk_new {P : Program} {w : World} {H' : Hp} {h' : Heap} {kvs : List (Key × V)} {vs : List (Key × Value)} (z : kvs.length ≤ sizeLine) (hd : (a == sysModules) = false) (rel : KV kvs vs) (dd : h'.DictOf (mixKind P w) a vs) :
    ObjOk P w H' h' a (.dK kvs) := ⟨z, hd, vs, rel, dd⟩
theorem d_setItem {H' : Hp} {Q : Unit → Shared → Prop} (hu : A.units + 1 < cLine) (I : Inv X pins σ H s) (g : DPut H a y v H') (ry : RelV y u) (rv : RelV v r) (h : ∀ s', Inv X pins σ H' s' → Q () s') :
    wpAny (model X.prog X.w) A (setItem (.ref a) u r) Q E s := by
  rcases g with ⟨kvs, k, e, ey, l, eH⟩ | ⟨kvs, k, b, e, ey, eb, l, eH⟩
  · subst ey eH
    obtain ⟨z, hd, vs, rel, dd⟩ := dk_of I.hok e
    have hz : vs.length ≤ sizeLine := by rw [← rel.length]; exact z
    have hl : (putK kvs k v).length ≤ sizeLine := by have := length_putK kvs k v; omega
    refine wpAny_setItem_pairs (hsz := hz) (kV_is ry) dd fun h' dd' hs => h _ ?_
    have he : ∃ q, h'.get? a = some q := let ⟨q, _, _, hq, _⟩ := dd'; ⟨q, hq⟩
    exact d_write I (by rw [e]; exact True.intro) hs he (dk_new hl hd (rel.put k rv) dd')
  · subst ey eH
    cases (show u = Value.ref b from ry)
    obtain ⟨z, hd, xs, rel, dd⟩ := dt_of I.hok e
    have hz : xs.length ≤ sizeLine := by rw [← Paired.length rel]; exact z
    have hl : (putK kvs k v).length ≤ sizeLine := by have := length_putK kvs k v; omega
    refine wpAny_setItem_heap (hsz := hz) (tupleKind_room_in1 hu) (key_of I.hok eb) dd fun h' dd' hs => h _ ?_
    obtain ⟨q, es, ep, hq, h2, h3, h4, _, h5⟩ := dd'
    refine d_write I (by rw [e]; exact True.intro) hs ⟨q, hq⟩ ⟨hl, hd, _, (rel.put k eb rv).keeps fun c ys ec => ?_, q, es, ep, hq, h2, h3, h4, h5⟩
    rw [upd_ne (ne_of ec e (fun z => nomatch z))]
    exact ec
end
section
variable {X : Cx} {pins : List (Addr × Obj)} {σ : St} {H : Hp} {s : Shared} {a : Addr} {kvs : List (Key × V)} {k : Key} {u : Value} {A : Around} {E : Value → Shared → Prop}
theorem d_len {Q : Value → Shared → Prop} (I : Inv X pins σ H s) (e : Rd H a (.dK kvs)) (h : ∀ t s', Inv X pins σ H s' → Q (.int kvs.length t) s') : wpAny (model X.prog X.w) A (call (.builtin "len") [.ref a]) Q E s := by
  obtain ⟨z, hd, vs, rel, dd⟩ := dk_rd I.hok e
  refine call_len_dict hd dd (by rw [← rel.length]; rw [sizeLine_eq] at z; omega) ?_
  rw [← rel.length]
  exact h _ _ (I.tok _)
end
section
variable {X : Cx} {o i e value : Expr} {pos pos' tpos : Pos} {td ty tv : TE}
end
section
variable {X : Cx} {pos : Pos}
end
structure M1 (X : Cx) (o : Expr) (m : Str) (apos : Pos) (e : Expr) (cpos : Pos) : Prop where
  base : attributeBase o m X.env (eval o X.env) = eval o X.env
  few : ((backTo cpos (starEach [e] X.env)).all (fun x => !x.1) && (backToKw cpos (keywordEach [] X.env)).all (fun x => x.1.isSome)
    && decide (([e] : List Expr).length + ([] : List Keyword).length + (if ([] : List Keyword).isEmpty then 0 else 1) < 30)) = true
  line : (apos.endLine == cpos.line) = true
  trees : backTo cpos (starEach [e] X.env) = [(false, eval e X.env)]
structure M2 (X : Cx) (o : Expr) (m : Str) (apos : Pos) (e f : Expr) (cpos : Pos) : Prop where
  base : attributeBase o m X.env (eval o X.env) = eval o X.env
  few : ((backTo cpos (starEach [e, f] X.env)).all (fun x => !x.1) && (backToKw cpos (keywordEach [] X.env)).all (fun x => x.1.isSome)
    && decide (([e, f] : List Expr).length + ([] : List Keyword).length + (if ([] : List Keyword).isEmpty then 0 else 1) < 30)) = true
  line : (apos.endLine == cpos.line) = true
  trees : backTo cpos (starEach [e, f] X.env) = [(false, eval e X.env), (false, eval f X.env)]
section
variable {X : Cx} {pins : List (Addr × Obj)} {σ : St} {H : Hp} {s : Shared} {a : Addr} {y d : V} {u r : Value} {o : Option V} {A : Around} {E : Value → Shared → Prop}
end
section
variable {X : Cx} {o e f : Expr} {apos cpos : Pos} {td ty tx : TE}
end
section
variable {X : Cx} {pins : List (Addr × Obj)} {σ : St} {H : Hp} {s : Shared} {a : Addr} {kvs : List (Key × V)} {A : Around} {E : Value → Shared → Prop}
end
section
variable {X : Cx} {pins : List (Addr × Obj)} {σ : St} {H : Hp} {s : Shared} {a : Addr} {y : V} {u : Value} {A : Around} {E : Value → Shared → Prop}
end
end L2
namespace L2
open PySem PySem.Spec PyProof.Rows
section
variable {X : Cx}
theorem call_lenD : CallR X (.builtin "len") (fun xs H Q => ∃ a kvs, xs = [V.ref a] ∧ H a = some (.dK kvs) ∧ Q (.int kvs.length) H) := by
  intro pins s σ H xs us Q I r h
  obtain ⟨a, kvs, rfl, ha, q⟩ := h
  obtain ⟨u, rfl, ru⟩ := vals1 r
  cases ru
  exact d_len I (.inl ha) fun t s' I' => ⟨.int kvs.length, H, I', ⟨t, rfl⟩, q⟩
end
section
variable {κ : Type} [DecidableEq κ]
end
end L2
set_option Elab.async false
set_option linter.all false
set_option maxRecDepth 100000
namespace DL
open PySem PySem.Spec L2
open PyProof.Rows hiding St
inductive D where
  | non | bl (b : Bool) | int (i : Int) | str (x : Str) | tup (l : List D) | ref (i : Nat) | fn (x : Str) | ty (n : String)
inductive DO where
  | lst (l : List D) | rol (l : List D) | dct (l : List (Key × D)) | rod (l : List (Key × D))
noncomputable abbrev DH := List DO
noncomputable abbrev DSt := List (Option D)
structure Wc where
  K : PySem.W.Frag
  mg : Str → Option Value
noncomputable abbrev wc (X : Cx) : Wc := ⟨X.K, X.mg⟩
mutual
noncomputable def RepV (c : Wc) (μ : List Addr) (H : Hp) : D → V → Prop
  | .non, v => v = .non
  | .bl b, v => v = .bl b
  | .int i, v => v = .int i
  | .str x, v => v = .str x
  | .ty n, v => v = .ty n
  | .fn x, v => ∃ a, c.mg x = some (.ref a) ∧ v = .ref a
  | .ref i, v => ∃ a, μ[i]? = some a ∧ v = .ref a
  | .tup l, v => ∃ a vs, v = .ref a ∧ SqT c.K H a vs ∧ RepL c μ H l vs
noncomputable def RepL (c : Wc) (μ : List Addr) (H : Hp) : List D → List V → Prop
  | [], vs => vs = []
  | d :: ds, vs => ∃ v r, vs = v :: r ∧ RepV c μ H d v ∧ RepL c μ H ds r
end
noncomputable def RepK (c : Wc) (μ : List Addr) (H : Hp) : List (Key × D) → List (Key × V) → Prop
  | [], kvs => kvs = []
  | (k, d) :: r, kvs => ∃ v t, kvs = (k, v) :: t ∧ RepV c μ H d v ∧ RepK c μ H r t
structure Ext (μ : List Addr) (H : Hp) (μ' : List Addr) (H' : Hp) : Prop where
  pre : μ <+: μ'
  new : ∀ a ∈ μ', a ∉ μ → H a = none
  oth : ∀ b o, H b = some o → b ∉ μ → H' b = some o
  tup : ∀ b xs, H b = some (.tup xs) → H' b = some (.tup xs)
  frz : ∀ b o u, H b = some (.frz o u) → H' b = some (.frz o u)
theorem Ext.refl (μ : List Addr) (H : Hp) : Ext μ H μ H := ⟨List.prefix_refl _, fun a h n => absurd h n, fun _ _ h _ => h, fun _ _ h => h, fun _ _ _ h => h⟩
theorem Ext.trans {μ μ1 μ2 : List Addr} {H H1 H2 : Hp} (a : Ext μ H μ1 H1) (b : Ext μ1 H1 μ2 H2) : Ext μ H μ2 H2 where
  pre := a.pre.trans b.pre
  new := fun x h n => by
    by_cases h1 : x ∈ μ1
    · exact a.new x h1 n
    · have e1 := b.new x h h1
      cases e : H x with
      | none => rfl
      | some o => rw [a.oth x o e n] at e1; cases e1
  oth := fun x o e n => by
    refine b.oth x o (a.oth x o e n) fun h1 => ?_
    have := a.new x h1 n
    rw [e] at this; cases this
  tup := fun x xs e => b.tup x xs (a.tup x xs e)
  frz := fun x o u e => b.frz x o u (a.frz x o u e)
theorem Ext.lay {μ : List Addr} {H : Hp} {p : Addr} (h : H p = none) (o : HO) : Ext μ H μ (upd H p o) :=
  ⟨List.prefix_refl _, fun a h n => absurd h n, fun b o' q _ => by rw [upd_ne (ne_of_none q h)]; exact q, fun b xs q => by rw [upd_ne (ne_of_none q h)]; exact q, fun b o' u q => by rw [upd_ne (ne_of_none q h)]; exact q⟩
theorem Ext.add {μ : List Addr} {H : Hp} {p : Addr} (h : H p = none) (o : HO) : Ext μ H (μ ++ [p]) (upd H p o) :=
  ⟨List.prefix_append _ _, fun a ha n => by
    rcases List.mem_append.mp ha with z | z
    · exact absurd z n
    · rw [List.mem_singleton.mp z]; exact h, fun b o' q _ => by rw [upd_ne (ne_of_none q h)]; exact q, fun b xs q => by rw [upd_ne (ne_of_none q h)]; exact q, fun b o' u q => by rw [upd_ne (ne_of_none q h)]; exact q⟩
theorem Ext.mut {μ : List Addr} {H : Hp} {p : Addr} {o' : HO} (hp : p ∈ μ) (h : H p = some o') (n1 : ∀ xs, o' ≠ .tup xs) (n2 : ∀ o u, o' ≠ .frz o u) (o : HO) : Ext μ H μ (upd H p o) :=
  ⟨List.prefix_refl _, fun a h n => absurd h n, fun b o2 q n => by rw [upd_ne (fun e => n (by rw [e]; exact hp))]; exact q, fun b xs q => by
    rw [upd_ne (fun e => by subst e; rw [h] at q; cases q; exact n1 _ rfl)]; exact q,
   fun b oo u q => by
    rw [upd_ne (fun e => by subst e; rw [h] at q; cases q; exact n2 _ _ rfl)]; exact q⟩
theorem Ext.sqT {μ μ' : List Addr} {K : PySem.W.Frag} {H H' : Hp} (k : Ext μ H μ' H') {a : Addr} {xs : List V} (h : SqT K H a xs) : SqT K H' a xs := by
  rcases h with (h | ⟨o, h⟩) | h
  · exact .inl (.inl (k.tup _ _ h))
  · exact .inl (.inr ⟨o, k.frz _ _ _ h⟩)
  · exact .inr h
noncomputable def RoL (K : PySem.W.Frag) (H : Hp) (a : Addr) (xs : List V) : Prop := (∃ o, H a = some (.frz o (.lst xs))) ∨ (SqL K (fun _ => none) a xs)
theorem sqL_none {K : PySem.W.Frag} {H : Hp} {a : Addr} {xs : List V} (h : SqL K (fun _ => none) a xs) : SqL K H a xs := by
  rcases h with (h | ⟨o, h⟩) | h
  · cases h
  · cases h
  · exact .inr h
theorem RoL.sq {K : PySem.W.Frag} {H : Hp} {a : Addr} {xs : List V} (h : RoL K H a xs) : SqL K H a xs := by
  rcases h with ⟨o, h⟩ | h
  · exact .inl (.inr ⟨o, h⟩)
  · exact sqL_none h
theorem Ext.roL {μ μ' : List Addr} {K : PySem.W.Frag} {H H' : Hp} (k : Ext μ H μ' H') {a : Addr} {xs : List V} (h : RoL K H a xs) : RoL K H' a xs := by
  rcases h with ⟨o, h⟩ | h
  · exact .inl ⟨o, k.frz _ _ _ h⟩
  · exact .inr h
section
variable {c : Wc} {μ μ' : List Addr} {H H' : Hp}
theorem pre_get {μ μ' : List Addr} (h : μ <+: μ') {i : Nat} {a : Addr} (e : μ[i]? = some a) : μ'[i]? = some a := by
  obtain ⟨t, rfl⟩ := h
  have : i < μ.length := by
    rcases Nat.lt_or_ge i μ.length with q | q
    · exact q
    · rw [List.getElem?_eq_none q] at e; cases e
  rw [List.getElem?_append_left this]; exact e
mutual
theorem RepV.mono (x : Ext μ H μ' H') : ∀ {d : D} {v : V}, RepV c μ H d v → RepV c μ' H' d v
  | .non, _, h => h
  | .bl _, _, h => h
  | .int _, _, h => h
  | .str _, _, h => h
  | .ty _, _, h => h
  | .fn _, _, h => h
  | .ref i, v, h => by
    unfold RepV at h ⊢
    obtain ⟨a, e, r⟩ := h
    exact ⟨a, pre_get x.pre e, r⟩
  | .tup l, v, h => by
    unfold RepV at h ⊢
    obtain ⟨a, vs, e, q, r⟩ := h
    exact ⟨a, vs, e, x.sqT q, RepL.mono x r⟩
theorem RepL.mono (x : Ext μ H μ' H') : ∀ {l : List D} {vs : List V}, RepL c μ H l vs → RepL c μ' H' l vs
  | [], _, h => h
  | d :: ds, vs, h => by
    unfold RepL at h ⊢
    obtain ⟨v, r, e, q, t⟩ := h
    exact ⟨v, r, e, RepV.mono x q, RepL.mono x t⟩
end
theorem RepK.mono (x : Ext μ H μ' H') : ∀ {l : List (Key × D)} {vs : List (Key × V)}, RepK c μ H l vs → RepK c μ' H' l vs
  | [], _, h => h
  | (_, d) :: ds, vs, h => by
    obtain ⟨v, r, e, q, t⟩ := h
    exact ⟨v, r, e, RepV.mono x q, RepK.mono x t⟩
theorem RepL.nil : RepL c μ H [] [] := rfl
theorem RepL.cons {d : D} {v : V} {ds : List D} {vs : List V} (h : RepV c μ H d v) (t : RepL c μ H ds vs) : RepL c μ H (d :: ds) (v :: vs) := ⟨v, vs, rfl, h, t⟩
theorem RepL.length : ∀ {l : List D} {vs : List V}, RepL c μ H l vs → l.length = vs.length
  | [], _, h => by cases h; rfl
  | _ :: _, _, h => by obtain ⟨v, r, rfl, _, t⟩ := h; simp [RepL.length t]
theorem RepL.get : ∀ {l : List D} {vs : List V} {i : Nat} {d : D}, RepL c μ H l vs → l[i]? = some d → ∃ v, vs[i]? = some v ∧ RepV c μ H d v
  | [], _, _, _, _, e => by simp at e
  | _ :: _, _, 0, _, h, e => by
    obtain ⟨v, r, rfl, q, t⟩ := h
    simp at e; subst e
    exact ⟨v, rfl, q⟩
  | _ :: _, _, i + 1, _, h, e => by
    obtain ⟨v, r, rfl, q, t⟩ := h
    simp at e
    obtain ⟨w, h1, h2⟩ := RepL.get t e
    exact ⟨w, by simpa using h1, h2⟩
theorem RepL.append : ∀ {l l' : List D} {vs vs' : List V}, RepL c μ H l vs → RepL c μ H l' vs' → RepL c μ H (l ++ l') (vs ++ vs')
  | [], _, _, _, h, t => by cases h; exact t
  | _ :: _, _, _, _, h, t => by
    obtain ⟨v, r, rfl, q, u⟩ := h
    exact ⟨v, r ++ _, rfl, q, RepL.append u t⟩
theorem RepL.take : ∀ (n : Nat) {l : List D} {vs : List V}, RepL c μ H l vs → RepL c μ H (l.take n) (vs.take n)
  | 0, _, _, _ => rfl
  | _ + 1, [], _, h => by cases h; rfl
  | n + 1, _ :: _, _, h => by
    obtain ⟨v, r, rfl, q, u⟩ := h
    exact ⟨v, r.take n, rfl, q, RepL.take n u⟩
theorem RepL.drop : ∀ (n : Nat) {l : List D} {vs : List V}, RepL c μ H l vs → RepL c μ H (l.drop n) (vs.drop n)
  | 0, _, _, h => h
  | _ + 1, [], _, h => by cases h; rfl
  | n + 1, _ :: _, _, h => by
    obtain ⟨v, r, rfl, q, u⟩ := h
    exact RepL.drop n u
theorem RepL.set {d : D} {v : V} (hv : RepV c μ H d v) : ∀ (n : Nat) {l : List D} {vs : List V}, RepL c μ H l vs → RepL c μ H (l.set n d) (vs.set n v)
  | _, [], _, h => by cases h; rfl
  | 0, _ :: _, _, h => by
    obtain ⟨w, r, rfl, q, u⟩ := h
    exact ⟨v, r, rfl, hv, u⟩
  | n + 1, _ :: _, _, h => by
    obtain ⟨w, r, rfl, q, u⟩ := h
    exact ⟨w, r.set n v, rfl, q, RepL.set hv n u⟩
theorem RepL.reverse : ∀ {l : List D} {vs : List V}, RepL c μ H l vs → RepL c μ H l.reverse vs.reverse
  | [], _, h => by cases h; rfl
  | _ :: _, _, h => by
    obtain ⟨w, r, rfl, q, u⟩ := h
    simp only [List.reverse_cons]
    exact RepL.append (RepL.reverse u) ⟨w, [], rfl, q, rfl⟩
theorem RepL.dropLast {l : List D} {vs : List V} (h : RepL c μ H l vs) : RepL c μ H l.dropLast vs.dropLast := by
  rw [List.dropLast_eq_take, List.dropLast_eq_take, h.length]
  exact h.take _
noncomputable def isRol : Option DO → Prop
  | some (.rol _) => True
  | some (.rod _) => True
  | _ => False
noncomputable def ObjRep (c : Wc) (μ : List Addr) (H : Hp) (a : Addr) : DO → Prop
  | .lst l => ∃ vs, H a = some (.lst vs) ∧ RepL c μ H l vs
  | .rol l => ∃ vs, RoL c.K H a vs ∧ RepL c μ H l vs
  | .dct l => ∃ kvs, H a = some (.dK kvs) ∧ RepK c μ H l kvs
  | .rod l => ∃ kvs o, H a = some (.frz o (.dK kvs)) ∧ RepK c μ H l kvs
structure HRep (c : Wc) (μ : List Addr) (G : DH) (H : Hp) : Prop where
  len : μ.length = G.length
  inj : ∀ (i j : Nat) (a : Addr), μ[i]? = some a → μ[j]? = some a → i = j ∨ isRol G[i]? ∨ isRol G[j]?
  obj : ∀ (i : Nat) (o : DO) (a : Addr), G[i]? = some o → μ[i]? = some a → ObjRep c μ H a o
variable {G : DH}
theorem lt_of_get {α : Type} {l : List α} {i : Nat} {x : α} (e : l[i]? = some x) : i < l.length := by
  rcases Nat.lt_or_ge i l.length with q | q
  · exact q
  · rw [List.getElem?_eq_none q] at e; cases e
theorem HRep.at (h : HRep c μ G H) {i : Nat} {o : DO} (e : G[i]? = some o) : ∃ a, μ[i]? = some a ∧ ObjRep c μ H a o := by
  have q : i < μ.length := by rw [h.len]; exact lt_of_get e
  exact ⟨μ[i], List.getElem?_eq_getElem q, h.obj i o _ e (List.getElem?_eq_getElem q)⟩
theorem ObjRep.mono (x : Ext μ H μ' H') {a : Addr} {o : DO} (h : ObjRep c μ H a o) (e : H' a = H a ∨ isRol (some o)) : ObjRep c μ' H' a o := by
  cases o with
  | lst l =>
    obtain ⟨vs, q, r⟩ := h
    rcases e with e | e
    · exact ⟨vs, e.trans q, r.mono x⟩
    · exact e.elim
  | rol l => obtain ⟨vs, q, r⟩ := h; exact ⟨vs, x.roL q, r.mono x⟩
  | rod l => obtain ⟨vs, o, q, r⟩ := h; exact ⟨vs, o, x.frz _ _ _ q, r.mono x⟩
  | dct l =>
    obtain ⟨vs, q, r⟩ := h
    rcases e with e | e
    · exact ⟨vs, e.trans q, r.mono x⟩
    · exact e.elim
theorem ObjRep.some_of {a : Addr} {o : DO} (h : ObjRep c μ H a o) (n : ¬ isRol (some o)) : ∃ u, H a = some u ∧ (∀ xs, u ≠ .tup xs) ∧ ∀ o' u', u ≠ .frz o' u' := by
  cases o with
  | lst l => obtain ⟨vs, q, _⟩ := h; exact ⟨_, q, (fun _ z => nomatch z), (fun _ _ z => nomatch z)⟩
  | rol l => exact (n trivial).elim
  | rod l => exact (n trivial).elim
  | dct l => obtain ⟨vs, q, _⟩ := h; exact ⟨_, q, (fun _ z => nomatch z), (fun _ _ z => nomatch z)⟩
theorem HRep.same (h : HRep c μ G H) (k : Ext μ H μ H') (e : ∀ a o, H a = some o → (∀ xs, o ≠ .tup xs) → H' a = some o) : HRep c μ G H' :=
  ⟨h.len, h.inj, fun i o a g m => by
    have q := h.obj i o a g m
    by_cases hr : isRol (some o)
    · exact q.mono k (.inr hr)
    · obtain ⟨u, e1, n1, n2⟩ := q.some_of hr
      exact q.mono k (.inl ((e a u e1 n1).trans e1.symm))⟩
theorem HRep.new {p : Addr} {o : DO} {u : HO} (h : HRep c μ G H) (hp : H p = none) (ho : ObjRep c (μ ++ [p]) (upd H p u) p o) : HRep c (μ ++ [p]) (G ++ [o]) (upd H p u) := by
  have k : Ext μ H (μ ++ [p]) (upd H p u) := Ext.add hp u
  have old : ∀ (i : Nat) (a : Addr), i < μ.length → (μ ++ [p])[i]? = some a → μ[i]? = some a := fun i a hi e => by
    rw [List.getElem?_append_left hi] at e; exact e
  refine ⟨by simp [h.len], fun i j a ei ej => ?_, fun i o' a g m => ?_⟩
  · have li := lt_of_get ei
    have lj := lt_of_get ej
    simp only [List.length_append, List.length_singleton] at li lj
    by_cases hi : i < μ.length
    · have mi := old i a hi ei
      have gi : (G ++ [o])[i]? = G[i]? := List.getElem?_append_left (by rw [← h.len]; exact hi)
      by_cases hj : j < μ.length
      · have mj := old j a hj ej
        have gj : (G ++ [o])[j]? = G[j]? := List.getElem?_append_left (by rw [← h.len]; exact hj)
        rw [gi, gj]
        exact h.inj i j a mi mj
      · -- j is the new one: a = p
        have ej' : j = μ.length := by omega
        subst ej'
        have ea : a = p := by simpa using ej.symm
        subst ea
        right; left
        rw [gi]
        have hg : i < G.length := by rw [← h.len]; exact hi
        have q := h.obj i G[i] a (List.getElem?_eq_getElem hg) mi
        rw [List.getElem?_eq_getElem hg]
        refine Classical.byContradiction fun n => ?_
        obtain ⟨u', e1, _⟩ := q.some_of n
        rw [hp] at e1; cases e1
    · have ei' : i = μ.length := by omega
      by_cases hj : j < μ.length
      · have mj := old j a hj ej
        have gj : (G ++ [o])[j]? = G[j]? := List.getElem?_append_left (by rw [← h.len]; exact hj)
        subst ei'
        have ea : a = p := by simpa using ei.symm
        subst ea
        right; right
        rw [gj]
        have hg : j < G.length := by rw [← h.len]; exact hj
        have q := h.obj j G[j] a (List.getElem?_eq_getElem hg) mj
        rw [List.getElem?_eq_getElem hg]
        refine Classical.byContradiction fun n => ?_
        obtain ⟨u', e1, _⟩ := q.some_of n
        rw [hp] at e1; cases e1
      · left; omega
  · have li := lt_of_get m
    simp only [List.length_append, List.length_singleton] at li
    by_cases hi : i < μ.length
    · have mi := old i a hi m
      rw [List.getElem?_append_left (by rw [← h.len]; exact hi)] at g
      have q := h.obj i o' a g mi
      by_cases hr : isRol (some o')
      · exact q.mono k (.inr hr)
      · obtain ⟨u', e1, _⟩ := q.some_of hr
        exact q.mono k (.inl (upd_ne (ne_of_none e1 hp)))
    · have ei' : i = μ.length := by omega
      subst ei'
      have ea : a = p := by simpa using m.symm
      subst ea
      rw [h.len] at g
      have eo : o' = o := by simpa using g.symm
      subst eo
      exact ho
theorem HRep.set {i : Nat} {a : Addr} {o o' : DO} {u : HO} (h : HRep c μ G H) (g : G[i]? = some o) (n : ¬ isRol (some o)) (m : μ[i]? = some a) (k : Ext μ H μ (upd H a u)) (n' : ¬ isRol (some o')) (ho : ObjRep c μ (upd H a u) a o') : HRep c μ (G.set i o') (upd H a u) := by
  have hi : i < G.length := lt_of_get g
  have get : ∀ j, (G.set i o')[j]? = if i = j then some o' else G[j]? := fun j => by
    rw [List.getElem?_set]
    by_cases e : i = j
    · subst e; simp [hi]
    · simp [e]
  refine ⟨by simp [h.len], fun j l b ej el => ?_, fun j o2 b gj mj => ?_⟩
  · rcases h.inj j l b ej el with e | e | e
    · exact .inl e
    · by_cases ij : i = j
      · subst ij; rw [g] at e; exact (n e).elim
      · right; left; rw [get, if_neg ij]; exact e
    · by_cases ij : i = l
      · subst ij; rw [g] at e; exact (n e).elim
      · right; right; rw [get, if_neg ij]; exact e
  · rw [get] at gj
    by_cases ij : i = j
    · subst ij
      rw [if_pos rfl] at gj
      cases gj
      rw [m] at mj
      cases mj
      exact ho
    · rw [if_neg ij] at gj
      have q := h.obj j o2 b gj mj
      by_cases hr : isRol (some o2)
      · exact q.mono k (.inr hr)
      · have nb : b ≠ a := fun e => by
          subst e
          rcases h.inj i j b m mj with e | e | e
          · exact ij e
          · rw [g] at e; exact n e
          · rw [gj] at e; exact hr e
        exact q.mono k (.inl (upd_ne nb))
noncomputable def StRep (c : Wc) (μ : List Addr) (H : Hp) (dσ : DSt) (σ : St) : Prop := dσ.length = σ.length ∧ ∀ (i : Nat) (d : D), dσ[i]? = some (some d) → ∃ v, σ[i]? = some (some v) ∧ RepV c μ H d v
theorem StRep.mono (x : Ext μ H μ' H') {dσ : DSt} {σ : St} (h : StRep c μ H dσ σ) : StRep c μ' H' dσ σ :=
  ⟨h.1, fun i d e => let ⟨v, a, b⟩ := h.2 i d e; ⟨v, a, b.mono x⟩⟩
theorem StRep.put {dσ : DSt} {σ : St} (h : StRep c μ H dσ σ) {d : D} {v : V} (r : RepV c μ H d v) (i : Nat) : StRep c μ H (dσ.set i (some d)) (σ.set i (some v)) := by
  refine ⟨by simp [h.1], fun j d' e => ?_⟩
  rw [List.getElem?_set] at e ⊢
  by_cases ij : i = j
  · subst ij
    rw [if_pos rfl] at e ⊢
    rw [← h.1]
    split at e
    · rename_i hl
      rw [if_pos hl]
      cases e
      exact ⟨v, rfl, r⟩
    · cases e
  · rw [if_neg ij] at e ⊢
    exact h.2 j d' e
end
noncomputable def M (α : Type) := DH → Option (Except Str α × DH)
namespace M
noncomputable def pure {α : Type} (a : α) : M α := fun G => some (.ok a, G)
noncomputable def bind {α β : Type} (m : M α) (f : α → M β) : M β := fun G => match m G with
  | none => none
  | some (.ok a, G1) => f a G1
  | some (.error x, G1) => some (.error x, G1)
noncomputable def stuck {α : Type} : M α := fun _ => none
end M
noncomputable instance : Monad M := { pure := M.pure, bind := M.bind }
theorem M.bind_eq {α β : Type} (m : M α) (f : α → M β) (G : DH) : (m >>= f) G = match m G with
  | none => none
  | some (.ok a, G1) => f a G1
  | some (.error x, G1) => some (.error x, G1) := rfl
theorem M.bind_ok {α β : Type} {m : M α} {f : α → M β} {G G1 : DH} {a : α} (h : m G = some (.ok a, G1)) : (m >>= f) G = f a G1 := by rw [M.bind_eq, h]
theorem M.bind_assoc {α β γ : Type} (m : M α) (f : α → M β) (g : β → M γ) : ((m >>= f) >>= g) = (m >>= fun a => f a >>= g) := by
  funext G
  simp only [M.bind_eq]
  cases m G with
  | none => rfl
  | some p => obtain ⟨r, G1⟩ := p; cases r <;> rfl
noncomputable abbrev XC := Str → List Addr → DH → Hp → Prop
noncomputable def ZF : XC := fun _ _ _ _ => False
noncomputable def Post {α : Type} (c : Wc) (Z : XC) (μ : List Addr) (H : Hp) (r : Option (Except Str α × DH)) (K : α → List Addr → DH → Hp → Prop) : Prop :=
  match r with
  | none => False
  | some (.ok a, G') => ∀ μ' H', Ext μ H μ' H' → HRep c μ' G' H' → K a μ' G' H'
  | some (.error x, G') => ∀ μ' H', Ext μ H μ' H' → HRep c μ' G' H' → Z x μ' G' H'
section
variable {α β : Type} {c : Wc} {Z : XC} {μ μ' : List Addr} {H H' : Hp}
theorem Post.mono {r : Option (Except Str α × DH)} {K K' : α → List Addr → DH → Hp → Prop} (h : Post c Z μ H r K)
    (k : ∀ a μ' G' H', Ext μ H μ' H' → HRep c μ' G' H' → K a μ' G' H' → K' a μ' G' H') : Post c Z μ H r K' := by
  match r, h with
  | some (.ok a, G'), h => exact fun μ' H' p e => k a μ' G' H' p e (h μ' H' p e)
  | some (.error x, G'), h => exact h
theorem Post.from {r : Option (Except Str α × DH)} {K : α → List Addr → DH → Hp → Prop} (h : Post c Z μ H r K) (p : Ext μ H μ' H') : Post c Z μ' H' r K := by
  match r, h with
  | some (.ok a, G'), h => exact fun μ2 H2 p2 e => h μ2 H2 (p.trans p2) e
  | some (.error x, G'), h => exact fun μ2 H2 p2 e => h μ2 H2 (p.trans p2) e
theorem Post.bind {m : M α} {f : α → M β} {G : DH} {K : β → List Addr → DH → Hp → Prop} (h : Post c Z μ H ((m >>= f) G) K) :
    Post c Z μ H (m G) (fun a μ' G' H' => Post c Z μ' H' (f a G') K) := by
  rw [M.bind_eq] at h
  match m G, h with
  | some (.ok a, G'), h => exact fun μ' H' p e => Post.from h p
  | some (.error x, G'), h => exact h
theorem Post.ok {a : α} {G : DH} {K : α → List Addr → DH → Hp → Prop} (h : Post c Z μ H (some (.ok a, G)) K) (e : HRep c μ G H) : K a μ G H := h μ H (Ext.refl _ _) e
end
inductive Fl where
  | nx (σ : DSt) | rt (d : D) | bk (σ : DSt) | ct (σ : DSt)
section
variable (c : Wc) (Z : XC)
noncomputable def liftE (f : DSt → M D) : TE := fun σ H Q => ∃ dσ μ G, StRep c μ H dσ σ ∧ HRep c μ G H ∧ Post c Z μ H (f dσ G) fun d μ' _ H' => ∀ v, RepV c μ' H' d v → Q v H'
noncomputable def liftT (f : DSt → M Bool) : TT := fun σ H Q => ∃ dσ μ G, StRep c μ H dσ σ ∧ HRep c μ G H ∧ Post c Z μ H (f dσ G) fun b μ' _ H' => Q b H'
noncomputable def liftA (f : DSt → M (List D)) : TA := fun σ H Q => ∃ dσ μ G, StRep c μ H dσ σ ∧ HRep c μ G H ∧ Post c Z μ H (f dσ G) fun ds μ' _ H' => ∀ vs, RepL c μ' H' ds vs → Q vs H'
noncomputable def EndOk (E : Ends) (fl : Fl) (μ : List Addr) (H : Hp) : Prop := match fl with
  | .nx dσ => ∀ σ, StRep c μ H dσ σ → E.nx σ H
  | .rt d => ∀ v, RepV c μ H d v → E.rt v H
  | .bk dσ => ∀ σ, StRep c μ H dσ σ → E.bk σ H
  | .ct dσ => ∀ σ, StRep c μ H dσ σ → E.ct σ H
noncomputable def liftS (f : DSt → M Fl) : TS := fun E σ H => ∃ dσ μ G, StRep c μ H dσ σ ∧ HRep c μ G H ∧ Post c Z μ H (f dσ G) fun fl μ' _ H' => EndOk c E fl μ' H'
end
structure DE (X : Cx) (Z : XC) (e : Expr) (f : DSt → M D) : Prop where
  h : PE X e (liftE (wc X) Z f)
structure DT (X : Cx) (Z : XC) (e : Expr) (f : DSt → M Bool) : Prop where
  h : PT X e (liftT (wc X) Z f)
structure DA (X : Cx) (Z : XC) (e : List Expr) (f : DSt → M (List D)) : Prop where
  h : PA X e (liftA (wc X) Z f)
structure DS (X : Cx) (Z : XC) (e : Stmt) (f : DSt → M Fl) : Prop where
  h : PS X e (liftS (wc X) Z f)
structure DB (X : Cx) (Z : XC) (e : List Stmt) (f : DSt → M Fl) : Prop where
  h : PSs X e (liftS (wc X) Z f)
theorem PE.mono {X : Cx} {e : Expr} {t t' : TE} (h : PE X e t) (k : ∀ σ H Q, t' σ H Q → t σ H Q) : PE X e t' := fun pins s σ H Q I q => h pins s σ H Q I (k σ H Q q)
theorem PT.mono {X : Cx} {e : Expr} {t t' : TT} (h : PT X e t) (k : ∀ σ H Q, t' σ H Q → t σ H Q) : PT X e t' := fun pins s σ H Q I q => h pins s σ H Q I (k σ H Q q)
theorem PW.mono {X : Cx} {e : Expr} {t t' : TT} (h : PW X e t) (k : ∀ σ H Q, t' σ H Q → t σ H Q) : PW X e t' := fun wh pins s σ H Q I q => h wh pins s σ H Q I (k σ H Q q)
theorem PA.mono {X : Cx} {e : List Expr} {t t' : TA} (h : PA X e t) (k : ∀ σ H Q, t' σ H Q → t σ H Q) : PA X e t' := fun pos pins s σ H Q I q => h pos pins s σ H Q I (k σ H Q q)
theorem PS.mono {X : Cx} {e : Stmt} {t t' : TS} (h : PS X e t) (k : ∀ E σ H, t' E σ H → t E σ H) : PS X e t' := fun pins s σ H E I q => h pins s σ H E I (k E σ H q)
theorem PSs.mono {X : Cx} {e : List Stmt} {t t' : TS} (h : PSs X e t) (k : ∀ E σ H, t' E σ H → t E σ H) : PSs X e t' := fun pins s σ H E I q => h pins s σ H E I (k E σ H q)
theorem DE.of {X : Cx} {Z : XC} {e : Expr} {f : DSt → M D} {t : TE} (h : PE X e t) (k : ∀ σ H Q, liftE (wc X) Z f σ H Q → t σ H Q) : DE X Z e f := ⟨PE.mono h k⟩
theorem DT.of {X : Cx} {Z : XC} {e : Expr} {f : DSt → M Bool} {t : TT} (h : PT X e t) (k : ∀ σ H Q, liftT (wc X) Z f σ H Q → t σ H Q) : DT X Z e f := ⟨PT.mono h k⟩
theorem DA.of {X : Cx} {Z : XC} {e : List Expr} {f : DSt → M (List D)} {t : TA} (h : PA X e t) (k : ∀ σ H Q, liftA (wc X) Z f σ H Q → t σ H Q) : DA X Z e f := ⟨PA.mono h k⟩
theorem DS.of {X : Cx} {Z : XC} {e : Stmt} {f : DSt → M Fl} {t : TS} (h : PS X e t) (k : ∀ E σ H, liftS (wc X) Z f E σ H → t E σ H) : DS X Z e f := ⟨PS.mono h k⟩
theorem DB.of {X : Cx} {Z : XC} {e : List Stmt} {f : DSt → M Fl} {t : TS} (h : PSs X e t) (k : ∀ E σ H, liftS (wc X) Z f E σ H → t E σ H) : DB X Z e f := ⟨PSs.mono h k⟩
end DL
set_option Elab.async false
set_option linter.all false
set_option maxRecDepth 100000
namespace DL
open PySem PySem.Spec L2
open PyProof.Rows hiding St
noncomputable def notStar : Expr → Bool
  | .Starred .. => false
  | _ => true
theorem q14 {e : Expr} {es : List Expr} {env : Env} (h : notStar e = true) : starEach (e :: es) env = (false, eval e env) :: starEach es env := by
  cases e <;> first
    | rfl
    | cases h
theorem star_one {e : Expr} {env : Env} (h : notStar e = true) : starEach [e] env = [(false, eval e env)] := q14 h
noncomputable abbrev Fe := DSt → M D
noncomputable def varE (i : Nat) : Fe := fun σ G => match σ[i]? with
  | some (some d) => some (.ok d, G)
  | _ => none
noncomputable def cE (d : D) : Fe := fun _ => pure d
noncomputable def binE (o : D → D → M D) (a b : Fe) : Fe := fun σ => do o (← a σ) (← b σ)
noncomputable def unE (o : D → M D) (a : Fe) : Fe := fun σ => do o (← a σ)
noncomputable def q11 : DSt → M (List D) := fun _ => pure []
noncomputable def q10 (a : Fe) (r : DSt → M (List D)) : DSt → M (List D) := fun σ => do
  let x ← a σ
  let xs ← r σ
  pure (x :: xs)
noncomputable def q13 (F : List D → M D) (a : DSt → M (List D)) : Fe := fun σ => do F (← a σ)
noncomputable def isBl : D → M Bool
  | .bl b => pure b
  | _ => M.stuck
noncomputable def notE (a : Fe) : Fe := fun σ => do pure (.bl (!(← isBl (← a σ))))
noncomputable def ifE (t : DSt → M Bool) (a b : Fe) : Fe := fun σ => do if ← t σ then a σ else b σ
section
variable (c : Wc) (Z : XC)
noncomputable def liftR2 (o : D → D → M D) : R2 := fun x y H Q => ∃ dx dy μ G, RepV c μ H dx x ∧ RepV c μ H dy y ∧ HRep c μ G H ∧ Post c Z μ H (o dx dy G) fun d μ' _ H' => ∀ v, RepV c μ' H' d v → Q v H'
noncomputable def liftR1 (o : D → M D) : V → Hp → VK → Prop := fun x H Q => ∃ dx μ G, RepV c μ H dx x ∧ HRep c μ G H ∧ Post c Z μ H (o dx G) fun d μ' _ H' => ∀ v, RepV c μ' H' d v → Q v H'
noncomputable def liftRL (F : List D → M D) : List V → Hp → VK → Prop := fun xs H Q => ∃ ds μ G, RepL c μ H ds xs ∧ HRep c μ G H ∧ Post c Z μ H (F ds G) fun d μ' _ H' => ∀ v, RepV c μ' H' d v → Q v H'
end
structure OpD (X : Cx) (Z : XC) (f : Value → Value → Sem Value) (o : D → D → M D) : Prop where
  h : OpR X f (liftR2 (wc X) Z o)
structure UnD (X : Cx) (Z : XC) (f : Value → Sem Value) (o : D → M D) : Prop where
  h : UnR X f (liftR1 (wc X) Z o)
structure CallD (X : Cx) (Z : XC) (f : Value) (F : List D → M D) : Prop where
  h : CallR X f (liftRL (wc X) Z F)
theorem OpR.mono {X : Cx} {f : Value → Value → Sem Value} {r r' : R2} (h : OpR X f r) (k : ∀ x y H Q, r' x y H Q → r x y H Q) : OpR X f r' := fun pins s σ H x y v u Q I rx ry q => h pins s σ H x y v u Q I rx ry (k x y H Q q)
theorem CallR.mono {X : Cx} {f : Value} {r r' : List V → Hp → VK → Prop} (h : CallR X f r) (k : ∀ xs H Q, r' xs H Q → r xs H Q) : CallR X f r' := fun pins s σ H xs us Q I rx q => h pins s σ H xs us Q I rx (k xs H Q q)
theorem OpD.of {X : Cx} {Z : XC} {f : Value → Value → Sem Value} {o : D → D → M D} {r : R2} (h : OpR X f r) (k : ∀ x y H Q, liftR2 (wc X) Z o x y H Q → r x y H Q) : OpD X Z f o := ⟨OpR.mono h k⟩
theorem CallD.of {X : Cx} {Z : XC} {f : Value} {F : List D → M D} {r : List V → Hp → VK → Prop} (h : CallR X f r) (k : ∀ xs H Q, liftRL (wc X) Z F xs H Q → r xs H Q) : CallD X Z f F := ⟨CallR.mono h k⟩
section
variable {X : Cx} {Z : XC} {a b c e : Expr} {es : List Expr} {fa fb fc : Fe} {pos : Pos}
theorem bin_lift {cc : Wc} {o : D → D → M D} (σ : St) (H : Hp) (Q : VK) (h : liftE cc Z (binE o fa fb) σ H Q) : tOp (liftR2 cc Z o) (liftE cc Z fa) (liftE cc Z fb) σ H Q := by
  obtain ⟨dσ, μ, G, s, h, p⟩ := h
  exact ⟨dσ, μ, G, s, h, (Post.bind p).mono fun x μ1 G1 H1 x' h1 p1 v rv => ⟨dσ, μ1, G1, s.mono x', h1, (Post.bind p1).mono fun y μ2 G2 H2 x2 h2 p2 u ru => ⟨x, y, μ2, G2, rv.mono x2, ru, h2, p2⟩⟩⟩
theorem de_var {i : Nat} (h : PE X e (tVar i)) : DE X Z e (varE i) := DE.of h fun σ H Q ⟨dσ, μ, G, s, h, p⟩ => by
  unfold varE at p
  split at p
  · rename_i d he
    obtain ⟨v, e1, r⟩ := s.2 i d he
    exact ⟨v, e1, Post.ok p h v r⟩
  · exact p.elim
theorem de_c {d : D} {v : V} (h : PE X e (tC v)) (r : ∀ μ H, RepV (wc X) μ H d v) : DE X Z e (cE d) := DE.of h fun σ H Q ⟨dσ, μ, G, s, h, p⟩ => Post.ok p h v (r _ _)
theorem q17 {i j pos} : DE X Z (.Constant (.int i) j pos) (cE (.int i)) := de_c pe_int fun _ _ => by unfold RepV; rfl
theorem de_bl {i j pos} : DE X Z (.Constant (.bool i) j pos) (cE (.bl i)) := de_c pe_bl fun _ _ => by unfold RepV; rfl
theorem de_non {j pos} : DE X Z (.Constant .none j pos) (cE .non) := de_c pe_non fun _ _ => by unfold RepV; rfl
theorem de_str {i j pos} : DE X Z (.Constant (.str i) j pos) (cE (.str i)) := de_c pe_str fun _ _ => by unfold RepV; rfl
theorem de_v (i : Nat) {x : Str} {pos : Pos} (hN : X.N[i]? = some x := by rfl) (hv : Vis X.env.scope x := by first | exact Or.inl rfl | exact Or.inr (Or.inl rfl) | exact Or.inr (Or.inr rfl)) (hd : (x == ("__debug__" : Str)) = false := by decide)
    (hcd : (x == ("__classdict__" : Str)) = false := by decide) : DE X Z (.Name x pos) (varE i) := de_var (pe_var hN hv hd hcd)
theorem de_op {op : Operator} {o : D → D → M D} (ho : OpD X Z (binaryOp op) o) (ha : DE X Z a fa) (hb : DE X Z b fb) : DE X Z (.BinOp a op b pos) (binE o fa fb) :=
  DE.of (pe_op ho.h ha.h hb.h) bin_lift
theorem de_cmp {op : CmpOp} {o : D → D → M D} (ho : OpD X Z (compareOp op) o) (ha : DE X Z a fa) (hb : DE X Z b fb) (hm : behindInMarks op b = false) : DE X Z (.Compare a [op] [b] pos) (binE o fa fb) :=
  DE.of (pe_cmpR ho.h ha.h hb.h hm) bin_lift
theorem isBl_post {α : Type} {cc : Wc} {μ : List Addr} {H : Hp} {d : D} {f : Bool → M α} {G : DH} {K : α → List Addr → DH → Hp → Prop} (p : Post cc Z μ H ((isBl d >>= f) G) K) : ∃ k, d = .bl k ∧ Post cc Z μ H (f k G) K := by
  cases d with
  | bl k => exact ⟨k, rfl, p⟩
  | _ => exact p.elim
theorem de_one {op} {f : Fe} (h : DE X Z a f) : DE X Z (.BoolOp op [a] pos) f := ⟨pe_one h.h⟩
theorem de_not (ha : DE X Z a fa) : DE X Z (.UnaryOp .Not a pos) (notE fa) :=
  DE.of (pe_not ha.h) fun σ H Q ⟨dσ, μ, G, s, h, p⟩ => ⟨dσ, μ, G, s, h, (Post.bind p).mono fun x μ1 G1 H1 x' h1 p1 v rv => by
    obtain ⟨k', rfl, p2⟩ := isBl_post p1
    unfold RepV at rv
    exact ⟨k', rv, Post.ok p2 h1 _ (by unfold RepV; rfl)⟩⟩
noncomputable def testE (f : Fe) : DSt → M Bool := fun σ => do isBl (← f σ)
noncomputable def andT (a b : DSt → M Bool) : DSt → M Bool := fun σ => do if ← a σ then b σ else pure false
noncomputable def orT (a b : DSt → M Bool) : DSt → M Bool := fun σ => do if ← a σ then pure true else b σ
structure DW (X : Cx) (Z : XC) (e : Expr) (f : DSt → M Bool) : Prop where
  h : PW X e (liftT (wc X) Z f)
theorem DW.of {X : Cx} {Z : XC} {e : Expr} {f : DSt → M Bool} {t : TT} (h : PW X e t) (k : ∀ σ H Q, liftT (wc X) Z f σ H Q → t σ H Q) : DW X Z e f := ⟨PW.mono h k⟩
variable {ta tb : DSt → M Bool} {rest : List Expr}
theorem DW.dt (h : DW X Z a ta) : DT X Z a ta := ⟨fun pins s σ H Q I q => h.h _ pins s σ H Q I q⟩
theorem dt_cmp {op : CmpOp} {o : D → D → M D} (ho : OpD X Z (compareOp op) o) (ha : DE X Z a fa) (hb : DE X Z b fb) (hm : behindInMarks op b = false) : DT X Z (.Compare a [op] [b] pos) (testE (binE o fa fb)) :=
  DT.of (pt_cmpR ho.h ha.h hb.h hm) fun σ H Q ⟨dσ, μ, G, s, h, p⟩ => bin_lift σ H _ ⟨dσ, μ, G, s, h, (Post.bind p).mono fun x μ1 G1 H1 x' h1 p1 v rv => by
    cases x with
    | bl k' => unfold RepV at rv; exact ⟨k', rv, Post.ok p1 h1⟩
    | _ => exact p1.elim⟩
theorem dw_and1 (ha : DT X Z a ta) : DW X Z (.BoolOp .And [a] pos) ta := ⟨pw_and1 ha.h⟩
theorem dw_or1 (ha : DT X Z a ta) : DW X Z (.BoolOp .Or [a] pos) ta := ⟨pw_or1 ha.h⟩
theorem dw_and (ha : DT X Z a ta) (hb : DW X Z (.BoolOp .And (b :: rest) pos) tb) : DW X Z (.BoolOp .And (a :: b :: rest) pos) (andT ta tb) :=
  DW.of (pw_and ha.h hb.h) fun σ H Q ⟨dσ, μ, G, s, h, p⟩ => ⟨dσ, μ, G, s, h, (Post.bind p).mono fun x μ1 G1 H1 x' h1 p1 => by
    cases x with
    | true => exact ⟨dσ, μ1, G1, s.mono x', h1, p1⟩
    | false => exact Post.ok p1 h1⟩
theorem dw_or (ha : DT X Z a ta) (hb : DW X Z (.BoolOp .Or (b :: rest) pos) tb) : DW X Z (.BoolOp .Or (a :: b :: rest) pos) (orT ta tb) :=
  DW.of (pw_or ha.h hb.h) fun σ H Q ⟨dσ, μ, G, s, h, p⟩ => ⟨dσ, μ, G, s, h, (Post.bind p).mono fun x μ1 G1 H1 x' h1 p1 => by
    cases x with
    | false => exact ⟨dσ, μ1, G1, s.mono x', h1, p1⟩
    | true => exact Post.ok p1 h1⟩
theorem de_if (hc : DT X Z c ta) (ha : DE X Z a fa) (hb : DE X Z b fb) : DE X Z (.IfExp c a b pos) (ifE ta fa fb) :=
  DE.of (pe_ifExp hc.h ha.h hb.h) fun σ H Q ⟨dσ, μ, G, s, h, p⟩ => ⟨dσ, μ, G, s, h, (Post.bind p).mono fun x μ1 G1 H1 x' h1 p1 => by
    cases x with
    | true => exact ⟨dσ, μ1, G1, s.mono x', h1, p1⟩
    | false => exact ⟨dσ, μ1, G1, s.mono x', h1, p1⟩⟩
variable {fs : DSt → M (List D)}
theorem q16 : DA X Z [] q11 := DA.of pa_nil fun σ H Q ⟨dσ, μ, G, s, h, p⟩ => Post.ok p h [] rfl
theorem q15 (ha : DE X Z e fa) (hr : DA X Z es fs) (hs : starEach (e :: es) X.env = (false, eval e X.env) :: starEach es X.env) : DA X Z (e :: es) (q10 fa fs) :=
  DA.of (pa_cons ha.h hr.h hs) fun σ H Q ⟨dσ, μ, G, s, h, p⟩ => ⟨dσ, μ, G, s, h, (Post.bind p).mono fun x μ1 G1 H1 x' h1 p1 v rv =>
    ⟨dσ, μ1, G1, s.mono x', h1, (Post.bind p1).mono fun xs μ2 G2 H2 x2 h2 p2 vs rvs => Post.ok p2 h2 (v :: vs) ⟨v, vs, rfl, rv.mono x2, rvs⟩⟩⟩
noncomputable def tupE (fs : DSt → M (List D)) : Fe := fun σ => do
  let xs ← fs σ
  if xs.length ≤ sizeLine then pure (.tup xs) else M.stuck
noncomputable def allocM (o : DO) : M D := fun G => some (.ok (.ref G.length), G ++ [o])
noncomputable def lstE (fs : DSt → M (List D)) : Fe := fun σ => do
  let xs ← fs σ
  if xs.length ≤ sizeLine then allocM (.lst xs) else M.stuck
theorem post_tup {cc : Wc} {μ : List Addr} {H : Hp} {G : DH} {xs : List D} {vs : List V} {Q : VK} (h : HRep cc μ G H) (r : RepL cc μ H xs vs)
    (p : Post cc Z μ H (some (Except.ok (.tup xs), G)) fun d μ' _ H' => ∀ v, RepV cc μ' H' d v → Q v H') (q : Addr) (hq : H q = none) : Q (.ref q) (upd H q (.tup vs)) := by
  have k : Ext μ H μ (upd H q (.tup vs)) := Ext.lay hq _
  refine p μ _ k (h.same k fun a o e n => ?_) _ ?_
  · rw [upd_ne (ne_of_none e hq)]; exact e
  · unfold RepV
    exact ⟨q, vs, rfl, SqT.of upd_same, r.mono k⟩
theorem post_lst {cc : Wc} {μ : List Addr} {H : Hp} {G : DH} {xs : List D} {vs : List V} {Q : VK} (h : HRep cc μ G H) (r : RepL cc μ H xs vs)
    (p : Post cc Z μ H (allocM (.lst xs) G) fun d μ' _ H' => ∀ v, RepV cc μ' H' d v → Q v H') (q : Addr) (hq : H q = none) : Q (.ref q) (upd H q (.lst vs)) := by
  have k : Ext μ H (μ ++ [q]) (upd H q (.lst vs)) := Ext.add hq _
  refine p (μ ++ [q]) _ k (h.new hq ⟨vs, upd_same, r.mono k⟩) _ ?_
  unfold RepV
  exact ⟨q, by rw [← h.len]; simp, rfl⟩
theorem de_tup {x1} (h : DA X Z es fs) : DE X Z (.Tuple es x1 pos) (tupE fs) :=
  DE.of (pe_tup h.h) fun σ H Q ⟨dσ, μ, G, s, h, p⟩ => ⟨dσ, μ, G, s, h, (Post.bind p).mono fun xs μ1 G1 H1 x' h1 p1 vs rv => by
    split at p1
    · rename_i hz
      exact ⟨by rw [← rv.length]; exact hz, fun q hq => post_tup h1 rv p1 q hq⟩
    · exact p1.elim⟩
theorem de_lst (h : DA X Z es fs) : DE X Z (.List es pos) (lstE fs) :=
  DE.of (pe_lst h.h) fun σ H Q ⟨dσ, μ, G, s, h, p⟩ => ⟨dσ, μ, G, s, h, (Post.bind p).mono fun xs μ1 G1 H1 x' h1 p1 vs rv => by
    split at p1
    · rename_i hz
      exact ⟨by rw [← rv.length]; exact hz, fun q hq => post_lst h1 rv p1 q hq⟩
    · exact p1.elim⟩
theorem call_lift {cc : Wc} {F : List D → M D} (σ : St) (H : Hp) (Q : VK) (h : liftE cc Z (q13 F fs) σ H Q) : tCB (liftRL cc Z F) (liftA cc Z fs) σ H Q := by
  obtain ⟨dσ, μ, G, s, h, p⟩ := h
  exact ⟨dσ, μ, G, s, h, (Post.bind p).mono fun x μ1 G1 H1 x' h1 p1 vs rv => ⟨x, μ1, G1, rv, h1, p1⟩⟩
theorem de_callB {F : List D → M D} {id : String} {x : Str} {p : Pos} (hc : CallD X Z (.builtin id) F) (hg : Gl X x) (hm : X.mg x = none) (hv : bootBuiltins x = some (.builtin id)) (ha : DA X Z (e :: es) fs) (hn : x ≠ "__name__") (hdb : (x == ("__debug__" : Str)) = false)
    (he : starEach (e :: es) X.env = (false, eval e X.env) :: starEach es X.env) (hpl : (backTo pos (starEach es X.env)).any (·.1) = false) : DE X Z (.Call (.Name x p) (e :: es) [] pos) (q13 F fs) :=
  DE.of (pe_callB hc.h hg hm hv ha.h hn hdb he hpl) call_lift
theorem de_callTy {F : List D → M D} {T : String} {x : Str} {p : Pos} (hc : CallD X Z (.type T) F) (hg : Gl X x) (hm : X.mg x = none) (hv : bootBuiltins x = some (.type T)) (ha : DA X Z (e :: es) fs) (hn : x ≠ "__name__") (hdb : (x == ("__debug__" : Str)) = false)
    (he : starEach (e :: es) X.env = (false, eval e X.env) :: starEach es X.env) (hpl : (backTo pos (starEach es X.env)).any (·.1) = false) : DE X Z (.Call (.Name x p) (e :: es) [] pos) (q13 F fs) :=
  DE.of (pe_callTy hc.h hg hm hv ha.h hn hdb he hpl) call_lift
noncomputable def spD (c : Wc) (n : Nat) (F : List D → M D) : Sp := fun vs H Q _ => vs.length = n ∧ ∃ ds μ G, RepL c μ H ds vs ∧ HRep c μ G H ∧ Post c ZF μ H (F ds G) fun d μ' _ H' => ∀ v, RepV c μ' H' d v → Q v H'
noncomputable def noX {α : Type} (m : M α) : M α := fun G => match m G with
  | some (.ok a, G1) => some (.ok a, G1)
  | _ => none
theorem noX_post {α : Type} {cc : Wc} {μ : List Addr} {H : Hp} {m : M α} {G : DH} {K : α → List Addr → DH → Hp → Prop} (p : Post cc Z μ H (noX m G) K) : Post cc ZF μ H (m G) K := by
  unfold noX at p
  match m G, p with
  | some (.ok a, G1), p => exact p
  | some (.error x, G1), p => exact p.elim
  | none, p => exact p.elim
noncomputable def fnX (n : Nat) (F : List D → M D) : List D → M D := fun ds => if ds.length = n then noX (F ds) else M.stuck
theorem fnX_post {cc : Wc} {μ : List Addr} {H : Hp} {n : Nat} {F : List D → M D} {ds : List D} {G : DH} {K : D → List Addr → DH → Hp → Prop} (p : Post cc Z μ H (fnX n F ds G) K) : ds.length = n ∧ Post cc ZF μ H (F ds G) K := by
  unfold fnX at p
  split at p
  · rename_i h; exact ⟨h, noX_post p⟩
  · exact p.elim
theorem de_call {F : List D → M D} {k n : Nat} {f : Addr} {fd : FuncData} {ps : List Str} {x : Str} {p : Pos} (hF : FnOk X.prog X.w X.K X.mg X.base CX0 k f fd ps (spD (wc X) n F)) (hr : Room k X.A) (hg : Gl X x) (hm : X.mg x = some (.ref f)) (hk : PySem.W.keepIn X.K (.ref f) = true) (hb : Binds X.K fd ps [])
    (ha : DA X Z (e :: es) fs)
    (hdb : (x == ("__debug__" : Str)) = false) (he : starEach (e :: es) X.env = (false, eval e X.env) :: starEach es X.env) (hpl : (backTo pos (starEach es X.env)).any (·.1) = false) :
    DE X Z (.Call (.Name x p) (e :: es) [] pos) (q13 (fnX n F) fs) :=
  DE.of (pe_call hF hr hg hm hk hb .nil pass0 ha.h hdb he hpl) fun σ H Q ⟨dσ, μ, G, s, h, p⟩ => by
    refine ⟨dσ, μ, G, s, h, (Post.bind p).mono fun ds' μ1 G1 H1 x' h1 p1 vs rv => ?_⟩
    obtain ⟨hl, p2⟩ := fnX_post p1
    show spD (wc X) n F (vs ++ []) H1 Q E0
    rw [List.append_nil]
    exact ⟨by rw [← rv.length]; exact hl, ds', μ1, G1, rv, h1, p2⟩
end
noncomputable abbrev Fs := DSt → M Fl
noncomputable def nextS : Fs := fun σ => pure (.nx σ)
noncomputable def seqS (a b : Fs) : Fs := fun σ => do
  match ← a σ with
  | .nx σ' => b σ'
  | r => pure r
noncomputable def retS (f : Fe) : Fs := fun σ => do pure (.rt (← f σ))
noncomputable def dropS (f : Fe) : Fs := fun σ => do
  let _ ← f σ
  pure (.nx σ)
noncomputable def ifS (t : DSt → M Bool) (a b : Fs) : Fs := fun σ => do if ← t σ then a σ else b σ
noncomputable abbrev Fg := D → DSt → M DSt
noncomputable abbrev Fgs := List D → DSt → M DSt
noncomputable def q12 (i : Nat) : Fg := fun d σ => pure (σ.set i (some d))
noncomputable def nilG : Fgs := fun ds σ => match ds with
  | [] => pure σ
  | _ => M.stuck
noncomputable def consG (g : Fg) (r : Fgs) : Fgs := fun ds σ => match ds with
  | d :: t => do r t (← g d σ)
  | [] => M.stuck
noncomputable def tupG (n : Nat) (g : Fgs) : Fg := fun d σ => match d with
  | .tup l => if l.length = n then g l σ else M.stuck
  | _ => M.stuck
noncomputable def asgS (f : Fe) (g : Fg) : Fs := fun σ => do
  let d ← f σ
  let σ' ← g d σ
  pure (.nx σ')
section
variable (c : Wc) (Z : XC)
noncomputable def liftG (g : Fg) : TG := fun v σ H Q => ∃ d dσ μ G, RepV c μ H d v ∧ StRep c μ H dσ σ ∧ HRep c μ G H ∧ Post c Z μ H (g d dσ G) fun dσ' μ' _ H' => ∀ σ', StRep c μ' H' dσ' σ' → Q σ' H'
noncomputable def liftGs (g : Fgs) : TGs := fun vs σ H Q => ∃ ds dσ μ G, RepL c μ H ds vs ∧ StRep c μ H dσ σ ∧ HRep c μ G H ∧ Post c Z μ H (g ds dσ G) fun dσ' μ' _ H' => ∀ σ', StRep c μ' H' dσ' σ' → Q σ' H'
end
structure DG (X : Cx) (Z : XC) (tg : Expr) (g : Fg) : Prop where
  h : PG X tg (liftG (wc X) Z g)
structure DGs (X : Cx) (Z : XC) (tgs : List Expr) (g : Fgs) : Prop where
  h : PGs X tgs (liftGs (wc X) Z g)
theorem PG.mono {X : Cx} {e : Expr} {t t' : TG} (h : PG X e t) (k : ∀ v σ H Q, t' v σ H Q → t v σ H Q) : PG X e t' := fun pins s σ H v u Q I r q => h pins s σ H v u Q I r (k v σ H Q q)
theorem PGs.mono {X : Cx} {e : List Expr} {t t' : TGs} (h : PGs X e t) (k : ∀ v σ H Q, t' v σ H Q → t v σ H Q) : PGs X e t' := fun pins s σ H v u Q I r q => h pins s σ H v u Q I r (k v σ H Q q)
theorem DG.of {X : Cx} {Z : XC} {e : Expr} {g : Fg} {t : TG} (h : PG X e t) (k : ∀ v σ H Q, liftG (wc X) Z g v σ H Q → t v σ H Q) : DG X Z e g := ⟨PG.mono h k⟩
theorem DGs.of {X : Cx} {Z : XC} {e : List Expr} {g : Fgs} {t : TGs} (h : PGs X e t) (k : ∀ v σ H Q, liftGs (wc X) Z g v σ H Q → t v σ H Q) : DGs X Z e g := ⟨PGs.mono h k⟩
section
variable {X : Cx} {Z : XC} {a b c e tg : Expr} {es : List Expr} {fa fb : Fe} {pos : Pos} {st : Stmt} {rest sa sb : List Stmt} {f g : Fs}
theorem db_nil : DB X Z [] nextS := DB.of pss_nil fun E σ H ⟨dσ, μ, G, s, h, p⟩ => Post.ok p h σ s
theorem end_seq {cc : Wc} {E : Ends} {μ : List Addr} {G : DH} {H : Hp} {fl : Fl} (h : HRep cc μ G H)
    (p : Post cc Z μ H ((match fl with | .nx σ' => g σ' | r => pure r : M Fl) G) fun fl μ' _ H' => EndOk cc E fl μ' H') : EndOk cc { E with nx := liftS cc Z g E } fl μ H := by
  cases fl with
  | nx dσ => exact fun σ s => ⟨dσ, μ, G, s, h, p⟩
  | rt d => exact Post.ok p h
  | bk dσ => exact Post.ok p h
  | ct dσ => exact Post.ok p h
theorem db_cons (h1 : DS X Z st f) (h2 : DB X Z rest g) : DB X Z (st :: rest) (seqS f g) :=
  DB.of (pss_cons h1.h h2.h) fun E σ H ⟨dσ, μ, G, s, h, p⟩ => ⟨dσ, μ, G, s, h, (Post.bind p).mono fun fl μ1 G1 H1 x' h1 p1 => end_seq h1 p1⟩
theorem db_one (h1 : DS X Z st f) : DB X Z [st] f := ⟨pss_one h1.h⟩
theorem ds_expr (he : DE X Z e fa) (hs : swapsWith e none pos.line X.env = pure false) : DS X Z (.Expr e pos) (dropS fa) :=
  DS.of (ps_expr he.h hs) fun E σ H ⟨dσ, μ, G, s, h, p⟩ => ⟨dσ, μ, G, s, h, (Post.bind p).mono fun d μ1 G1 H1 x' h1 p1 v rv => Post.ok p1 h1 σ (s.mono x')⟩
theorem ds_ret (he : DE X Z e fa) : DS X Z (.Return (some e) pos) (retS fa) :=
  DS.of (ps_ret he.h) fun E σ H ⟨dσ, μ, G, s, h, p⟩ => ⟨dσ, μ, G, s, h, (Post.bind p).mono fun d μ1 G1 H1 x' h1 p1 v rv => Post.ok p1 h1 v rv⟩
theorem ds_if {t : DSt → M Bool} (hc : DT X Z c t) (ha : DB X Z sa f) (hb : DB X Z sb g) : DS X Z (.If c sa sb pos) (ifS t f g) :=
  DS.of (ps_if hc.h ha.h hb.h) fun E σ H ⟨dσ, μ, G, s, h, p⟩ => ⟨dσ, μ, G, s, h, (Post.bind p).mono fun x μ1 G1 H1 x' h1 p1 => by
    cases x with
    | true => exact ⟨dσ, μ1, G1, s.mono x', h1, p1⟩
    | false => exact ⟨dσ, μ1, G1, s.mono x', h1, p1⟩⟩
theorem dg_name {i : Nat} {x : Str} (hN : X.N.Nodup) (hi : X.N[i]? = some x := by rfl) (hx : Loc X.env.scope x := by first | exact Or.inl rfl | exact Or.inr rfl) (hf : X.fn x = true ∨ X.env.scope.names.lookup x = some .local := by first | exact .inl rfl | exact .inr rfl | assumption) : DG X Z (.Name x pos) (q12 i) :=
  DG.of (pg_name hN hi hx hf) fun v σ H Q ⟨d, dσ, μ, G, r, s, h, p⟩ => Post.ok p h _ (s.put r i)
theorem dgs_nil : DGs X Z [] nilG := DGs.of pgs_nil fun vs σ H Q ⟨ds, dσ, μ, G, r, s, h, p⟩ => by
  cases ds with
  | nil => cases r; exact ⟨rfl, Post.ok p h _ s⟩
  | cons _ _ => exact p.elim
theorem dgs_cons {gg : Fg} {gr : Fgs} (h1 : DG X Z e gg) (h2 : DGs X Z es gr) (hs : (assignEach (e :: es) X.env).map (·.2) = assign e X.env :: (assignEach es X.env).map (·.2)) : DGs X Z (e :: es) (consG gg gr) :=
  DGs.of (pgs_cons h1.h h2.h hs) fun vs σ H Q ⟨ds, dσ, μ, G, r, s, h, p⟩ => by
    cases ds with
    | nil => exact p.elim
    | cons d t =>
      obtain ⟨v, vr, rfl, rv, rt⟩ := r
      exact ⟨v, vr, rfl, d, dσ, μ, G, rv, s, h, (Post.bind p).mono fun dσ1 μ1 G1 H1 x' h1 p1 σ1 s1 => ⟨t, dσ1, μ1, G1, rt.mono x', s1, h1, p1⟩⟩
theorem dg_tup {gs : Fgs} {k n : Nat} (hc : X.calm = true) (h : DGs X Z es gs) (hn : (assignEach es X.env).length = n) (hst : (assignEach es X.env).findIdx? (·.1) = none) : DG X Z (.Tuple es k pos) (tupG n gs) :=
  DG.of (pg_tup hc h.h hn hst) fun v σ H Q ⟨d, dσ, μ, G, r, s, h, p⟩ => by
    cases d with
    | tup l =>
      unfold RepV at r
      obtain ⟨a, vs, rfl, q, rl⟩ := r
      have p' : Post (wc X) Z μ H ((if l.length = n then gs l dσ else M.stuck : M DSt) G) fun dσ' μ' _ H' => ∀ σ', StRep (wc X) μ' H' dσ' σ' → Q σ' H' := p
      split at p'
      · rename_i hl
        exact ⟨a, vs, rfl, q, by rw [← rl.length]; exact hl, l, dσ, μ, G, rl, s, h, p'⟩
      · exact p'.elim
    | _ => exact p.elim
theorem ds_asg {gg : Fg} (he : DE X Z e fa) (hg : DG X Z tg gg) (hs : swapsWithSole [tg] e pos.line X.env = pure false) (hw : swappedStores [tg] e X.env = pure none)
    (h1 : (assignEach [tg] X.env).map (·.2) = [assign tg X.env]) : DS X Z (.Assign [tg] e pos) (asgS fa gg) :=
  DS.of (ps_asg he.h hg.h hs hw h1) fun E σ H ⟨dσ, μ, G, s, h, p⟩ => ⟨dσ, μ, G, s, h, (Post.bind p).mono fun d μ1 G1 H1 x' h1 p1 v rv =>
    ⟨d, dσ, μ1, G1, rv, s.mono x', h1, (Post.bind p1).mono fun dσ2 μ2 G2 H2 x2 h2 p2 σ2 s2 => Post.ok p2 h2 σ2 s2⟩⟩
end
section
variable {X : Cx} {Z : XC} {c : Expr} {pos : Pos} {body : List Stmt} {t : DSt → M Bool} {f : Fs}
end
noncomputable def forL (g : Fg) (b : Fs) (ck : DH → Bool) : List D → Fs
  | [] => fun σ G => if ck G then some (.ok (.nx σ), G) else none
  | d :: r => fun σ G => if ck G then (do
      match ← b (← g d σ) with
      | .nx σ' => forL g b ck r σ'
      | .ct σ' => forL g b ck r σ'
      | .bk σ' => pure (.nx σ')
      | .rt d => pure (.rt d) : M Fl) G else none
structure Src where
  items : List D
  ck : DH → Bool
noncomputable def forS (it : DSt → M Src) (g : Fg) (b : Fs) : Fs := fun σ => do
  let s ← it σ
  forL g b s.ck s.items σ
noncomputable def ItD (c : Wc) (μ : List Addr) (H : Hp) (J : It) (s : Src) : Prop := ∀ μ' G' H', Ext μ H μ' H' → HRep c μ' G' H' → s.ck G' = true → ∀ i : Nat,
  (∀ d, s.items[i]? = some d → J.go i H' ∧ ∀ x H2, J.yld i H' x H2 → Ext μ' H' μ' H2 ∧ HRep c μ' G' H2 ∧ RepV c μ' H2 d x) ∧ (s.items.length ≤ i → J.stop i H')
noncomputable def liftI (c : Wc) (Z : XC) (it : DSt → M Src) : TI := fun σ H R => ∃ dσ μ G, StRep c μ H dσ σ ∧ HRep c μ G H ∧ Post c Z μ H (it dσ G) fun s μ' _ H' => ∀ J, ItD c μ' H' J s → R J H'
structure DI (X : Cx) (Z : XC) (tg e : Expr) (it : DSt → M Src) : Prop where
  h : PI X tg e (liftI (wc X) Z it)
theorem PI.mono {X : Cx} {tg e : Expr} {t t' : TI} (h : PI X tg e t) (k : ∀ σ H R, t' σ H R → t σ H R) : PI X tg e t' := fun pins s σ H R I q => h pins s σ H R I (k σ H R q)
theorem DI.of {X : Cx} {Z : XC} {tg e : Expr} {it : DSt → M Src} {t : TI} (h : PI X tg e t) (k : ∀ σ H R, liftI (wc X) Z it σ H R → t σ H R) : DI X Z tg e it := ⟨PI.mono h k⟩
section
variable {X : Cx} {Z : XC} {iter tg : Expr} {pos : Pos} {body : List Stmt} {f : Fs} {gg : Fg} {it : DSt → M Src}
theorem ds_for (hp : PassesOwn (model X.prog X.w) X.A X.env X.xe) (hc : X.calm = true) (hi : DI X Z tg iter it) (hg : DG X Z tg gg) (hb : DB X Z body f) (hs : ∀ x, foldedSetIterable iter X.env x = pure x) :
    DS X Z (.For tg iter body [] pos) (forS it gg f) :=
  DS.of (ps_for hp hc hi.h hg.h hb.h hs) fun E σ H ⟨dσ, μ, G, s, h, p⟩ => ⟨dσ, μ, G, s, h, (Post.bind p).mono fun sr μ1 G1 H1 x' h1 p1 J hJ => by
    refine ⟨fun i m σ' H' => m = sr.items.length - i ∧ i ≤ sr.items.length ∧ ∃ dσ' μ' G', Ext μ1 H1 μ' H' ∧ StRep (wc X) μ' H' dσ' σ' ∧ HRep (wc X) μ' G' H' ∧
        Post (wc X) Z μ' H' (forL gg f sr.ck (sr.items.drop i) dσ' G') fun fl μ2 _ H2 => EndOk (wc X) E fl μ2 H2,
      ⟨sr.items.length, by simp, Nat.zero_le _, dσ, μ1, G1, Ext.refl _ _, s.mono x', h1, p1⟩, ?_⟩
    rintro i m σ' H' ⟨rfl, hi', dσ', μ', G', k', s', h', p'⟩
    by_cases hlt : i < sr.items.length
    · rw [List.drop_eq_getElem_cons hlt] at p'
      unfold forL at p'
      split at p'
      · rename_i ck
        obtain ⟨q1, _⟩ := hJ μ' G' H' k' h' ck i
        obtain ⟨go, yl⟩ := q1 _ (List.getElem?_eq_getElem hlt)
        refine .inr ⟨go, fun σ2 H2 => ∃ dσ2 μ2 G2, Ext μ1 H1 μ2 H2 ∧ StRep (wc X) μ2 H2 dσ2 σ2 ∧ HRep (wc X) μ2 G2 H2 ∧
          Post (wc X) Z μ2 H2 (forL gg f sr.ck (sr.items.drop (i + 1)) dσ2 G2) fun fl μ3 _ H3 => EndOk (wc X) E fl μ3 H3, fun σ2 H2 w => ⟨sr.items.length - (i + 1), by omega, rfl, hlt, w⟩, fun x H2 y => ?_⟩
        obtain ⟨k2, h2, rx⟩ := yl x H2 y
        have p2 := Post.bind (p'.from k2)
        refine ⟨_, dσ', μ', G', rx, s'.mono k2, h2, p2.mono fun dσ3 μ3 G3 H3 x3 h3 p3 σ3 s3 => ?_⟩
        refine ⟨dσ3, μ3, G3, s3, h3, (Post.bind p3).mono fun fl μ4 G4 H4 x4 h4 p4 => ?_⟩
        cases fl with
        | nx dσ4 => exact fun σ4 s4 => ⟨dσ4, μ4, G4, k'.trans (k2.trans (x3.trans x4)), s4, h4, p4⟩
        | ct dσ4 => exact fun σ4 s4 => ⟨dσ4, μ4, G4, k'.trans (k2.trans (x3.trans x4)), s4, h4, p4⟩
        | bk dσ4 => exact fun σ4 s4 => Post.ok p4 h4 σ4 s4
        | rt d => exact fun v r => Post.ok p4 h4 v r
      · exact p'.elim
    · have e : i = sr.items.length := by omega
      subst e
      rw [List.drop_length] at p'
      unfold forL at p'
      split at p'
      · rename_i ck
        obtain ⟨_, q2⟩ := hJ μ' G' H' k' h' ck sr.items.length
        exact .inl ⟨q2 (Nat.le_refl _), Post.ok p' h' σ' s'⟩
      · exact p'.elim⟩
end
end DL
set_option Elab.async false
set_option linter.all false
set_option maxRecDepth 100000
namespace DL
open PySem PySem.Spec L2
open PyProof.Rows hiding St
noncomputable def closL (env : Env) : List (Str × NameKind) → List (Str × Addr) → List (Str × Addr)
  | [], cs => cs
  | (n, k) :: r, cs => closL env r (if k == .free then (match env.cells.lookup n with | some c => (n, c) :: cs | none => cs) else cs)
theorem closL_go {env : Env} : ∀ (l : List (Str × NameKind)) (cs : List (Str × Addr)), (∀ p ∈ l, p.2 = .free → ∃ c, env.cells.lookup p.1 = some c) →
    (forIn l cs (fun (x : Str × NameKind) (cs : List (Str × Addr)) => (match x with | (name, kind) => if (kind == NameKind.free) = true then do let c ← cellOf env name; pure (ForInStep.yield ((name, c) :: cs)) else pure (ForInStep.yield cs) : Sem (ForInStep (List (Str × Addr))))) : Sem (List (Str × Addr))) = pure (closL env l cs)
  | [], cs, _ => rfl
  | (n, k) :: r, cs, h => by
    have ih := fun cs' => closL_go r cs' fun p hp => h p (List.mem_cons_of_mem _ hp)
    rw [List.forIn_cons]
    unfold closL
    cases hk : (k == NameKind.free) with
    | false =>
      have e : (match ((n, k) : Str × NameKind) with | (name, kind) => if (kind == NameKind.free) = true then do let c ← cellOf env name; pure (ForInStep.yield ((name, c) :: cs)) else pure (ForInStep.yield cs) : Sem (ForInStep (List (Str × Addr)))) = pure (ForInStep.yield cs) := by
        show (if (k == NameKind.free) = true then _ else _) = _
        rw [hk]; rfl
      rw [e]
      exact ih cs
    | true =>
      obtain ⟨c, hc⟩ := h (n, k) List.mem_cons_self (by simpa using hk)
      have hcell : cellOf env n = pure c := by unfold cellOf; rw [hc]
      have e : (match ((n, k) : Str × NameKind) with | (name, kind) => if (kind == NameKind.free) = true then do let c ← cellOf env name; pure (ForInStep.yield ((name, c) :: cs)) else pure (ForInStep.yield cs) : Sem (ForInStep (List (Str × Addr)))) = pure (ForInStep.yield ((n, c) :: cs)) := by
        show (if (k == NameKind.free) = true then (do let c ← cellOf env n; pure (ForInStep.yield ((n, c) :: cs))) else _) = _
        rw [hk, hcell]; rfl
      rw [e, hc]
      exact ih ((n, c) :: cs)
theorem closureFor_closL {env : Env} {scope : Scope} (h : ∀ p ∈ scope.names, p.2 = .free → ∃ c, env.cells.lookup p.1 = some c) : closureFor scope env = pure (closL env scope.names []) := by
  have q := closL_go scope.names [] h
  unfold closureFor
  dsimp only
  rw [q]
  rfl
theorem closL_sub {env : Env} {x : Str} {c : Addr} : ∀ (l : List (Str × NameKind)) (cs : List (Str × Addr)), (cs.lookup x = some c → env.cells.lookup x = some c) → (closL env l cs).lookup x = some c → env.cells.lookup x = some c
  | [], cs, h, e => h e
  | (n, k) :: r, cs, h, e => by
    unfold closL at e
    refine closL_sub r _ (fun e1 => ?_) e
    split at e1
    · split at e1
      · rename_i c' hc
        rw [List.lookup_cons] at e1
        split at e1
        · rename_i hx
          have hx' : x = n := by simpa using hx
          subst hx'
          cases e1
          exact hc
        · exact h e1
      · exact h e1
    · exact h e1
theorem closL_sub0 {env : Env} {x : Str} {c : Addr} {l : List (Str × NameKind)} (h : (closL env l []).lookup x = some c) : env.cells.lookup x = some c := closL_sub l [] (fun z => by cases z) h
theorem closL_keep {env : Env} {x : Str} : ∀ (l : List (Str × NameKind)) (cs : List (Str × Addr)), (∃ c, cs.lookup x = some c) → ∃ c, (closL env l cs).lookup x = some c
  | [], cs, h => h
  | (n, k) :: r, cs, h => by
    unfold closL
    refine closL_keep r _ ?_
    split
    · split
      · rename_i c' hc
        rw [List.lookup_cons]
        split
        · exact ⟨_, rfl⟩
        · exact h
      · exact h
    · exact h
theorem closL_has {env : Env} {x : Str} {c : Addr} (hc : env.cells.lookup x = some c) : ∀ (l : List (Str × NameKind)) (cs : List (Str × Addr)), (x, NameKind.free) ∈ l → ∃ c, (closL env l cs).lookup x = some c
  | [], cs, h => by simp at h
  | (n, k) :: r, cs, h => by
    unfold closL
    rcases List.mem_cons.mp h with e | h
    · cases e
      refine closL_keep r _ ?_
      rw [hc]
      simp
    · exact closL_has hc r _ h
section
variable {prog : Program} {w : World} {A : Around} {E : Value → Shared → Prop} {R : Result → Shared → Prop} {s : Shared}
theorem compLoop_own {elt target iter : Expr} {ifs : List Expr} {scope : Scope} {pos : Pos} {it acc : Value} {env : Env} (I : Nat → Shared → Prop)
    (turn : ∀ n s, I n s → wpAny (model prog w) A (pyNext it) (fun r s₁ => match r with
      | none => R (.ok .next) s₁
      | some v => wpAny (model prog w) A (letOwnedTupleGo target it v) (fun _ s₁' => wpAny (model prog w) A (assign target env v) (fun _ s₂ =>
          wpAny (model prog w) A (forIn ifs true fun c r => if r = true then do let ok ← isTrue c env (eval c env); pure (ForInStep.yield ok) else pure (ForInStep.yield r)) (fun ok s₃ =>
            if ok = true then wpAny (model prog w) A (eval elt env) (fun x s₄ =>
              wpAny (model prog w) A (call (.builtin "list.append") [acc, x]) (fun _ s₅ => ∃ m, m < n ∧ I m s₅) (fun _ _ => False) s₄) (fun _ _ => False) s₃
            else ∃ m, m < n ∧ I m s₃) (fun _ _ => False) s₂) (fun _ _ => False) s₁') (fun _ _ => False) s₁) (fun _ _ => False) s)
    (n : Nat) (h : I n s) :
    codeAny (model prog w) A (.compLoop (.ListComp elt [⟨target, iter, ifs, 0⟩] scope pos) 0 it acc env) R s := by
  refine codeAny_loop rfl I (fun n s hI => ?_) n h
  show wpAny _ A ((compTurn (.ListComp elt [⟨target, iter, ifs, 0⟩] scope pos) 0 it acc env).onRaise (fun x => do noteFrame x env; theTreesLotGoes x)) _ _ s
  refine wpAny_noted ?_
  rw [compTurn_list]
  refine wpAny_bind (wpAny_standAt (wpAny_bind (wpAny_mono (turn n s hI) (fun r s₁ h₁ => ?_) fun _ _ h' => h'.elim)))
  cases r with
  | none => exact wpAny_pure h₁
  | some v =>
    refine wpAny_bind (wpAny_mono h₁ (fun _ s₁' h₁' => ?_) fun _ _ h' => h'.elim)
    refine wpAny_bind (wpAny_mono h₁' (fun _ s₂ h₂ => wpAny_bind (wpAny_mono h₂ (fun ok s₃ h₃ => ?_) fun _ _ h' => h'.elim)) fun _ _ h' => h'.elim)
    cases ok with
    | true =>
      exact wpAny_bind (wpAny_bind (wpAny_mono h₃ (fun x s₄ h₄ => wpAny_bind (wpAny_mono h₄ (fun _ s₅ h₅ => wpAny_pure (wpAny_pure ⟨rfl, h₅⟩)) fun _ _ h' => h'.elim)) fun _ _ h' => h'.elim))
    | false =>
      exact wpAny_pure ⟨rfl, h₃⟩
end
noncomputable def compCx (X : Cx) (scope : Scope) (N : List Str) (C : Addr) (s : Shared) (H : Hp) (ex : List Addr) : Cx where
  prog := X.prog
  w := X.w
  K := X.K
  mg := X.mg
  base := X.base
  A := X.A
  N := N
  s₀ := s
  H₀ := H
  env := compEnvC scope (closL X.env scope.names []) C X.env
  outer := X.stack
  stack := X.stack
  ex := ex
  fn := fun _ => false
  calm := X.calm
  pn := []
  xe := fun _ _ => False
structure CompOk (X : Cx) (scope : Scope) (N : List Str) (caps : List (Option Nat)) : Prop where
  kind : scope.kind = .function
  cell : ∀ y ∈ scope.names, y.2 ≠ .cell
  names : ∀ y ∈ scope.names, y.2 = .local → scope.names.lookup y.1 = some .local
  free : ∀ y ∈ scope.names, y.2 = .free → X.env.kindOf y.1 = some .cell ∨ X.env.kindOf y.1 = some .free
  frees : ∀ y ∈ scope.names, y.2 = .free → scope.names.lookup y.1 = some .free
  len : caps.length = N.length
  caps : ∀ (i j : Nat), caps[i]? = some (some j) → ∃ x, N[i]? = some x ∧ X.N[j]? = some x ∧ (x, NameKind.free) ∈ scope.names
noncomputable def capSt {α : Type} (caps : List (Option Nat)) (σ : List (Option α)) : List (Option α) := caps.map fun o => o.bind fun j => (σ[j]?).join
theorem lookup_rel {env : Env} {x : Str} : ∀ names : List (Str × NameKind), (names.map fun (n, k) => if (k == NameKind.free && env.scope.kind == .function && env.kindOf n == some .cell) then (n, NameKind.cell) else (n, k)).lookup x =
    (names.lookup x).map fun k => if (k == NameKind.free && env.scope.kind == .function && env.kindOf x == some .cell) then NameKind.cell else k
  | [] => rfl
  | (n, k) :: r => by
    have ih := lookup_rel (env := env) (x := x) r
    rw [List.map_cons]
    by_cases hx : x = n
    · subst hx
      dsimp only
      split
      · rename_i h; simp [List.lookup_cons]; simp at h; simp [h]
      · rename_i h; simp [List.lookup_cons]; simp at h; intro a b c; exact absurd c (h a b)
    · have hb : (x == n) = false := by simpa using hx
      dsimp only
      split
      · rw [List.lookup_cons, List.lookup_cons, hb]; exact ih
      · rw [List.lookup_cons, List.lookup_cons, hb]; exact ih
section
variable {X : Cx} {scope : Scope} {N : List Str} {caps : List (Option Nat)} {C : Addr} {pins : List (Addr × Obj)} {σ : St} {H : Hp} {s : Shared} {ex : List Addr}
theorem CompOk.isFree (k : CompOk X scope N caps) {x : Str} (h : (relabel scope X.env).names.lookup x = some .cell ∨ (relabel scope X.env).names.lookup x = some .free) : (x, NameKind.free) ∈ scope.names := by
  have e : (relabel scope X.env).names.lookup x = (scope.names.lookup x).map fun k => if (k == NameKind.free && X.env.scope.kind == .function && X.env.kindOf x == some .cell) then NameKind.cell else k := lookup_rel scope.names
  rw [e] at h
  cases hl : scope.names.lookup x with
  | none => rw [hl] at h; rcases h with h | h <;> cases h
  | some kd =>
    rw [hl] at h
    have hm := PySem.mem_of_lookup hl
    have hn := k.cell _ hm
    simp only [Option.map_some] at h
    cases kd with
    | free => exact hm
    | cell => exact absurd rfl hn
    | _ => rcases h with h | h <;> simp at h
theorem CompOk.cells (k : CompOk X scope N caps) (ok : X.Ok) : ∀ p ∈ scope.names, p.2 = .free → ∃ c, X.env.cells.lookup p.1 = some c := fun p hp e => ok.has p.1 (k.free p hp e)
theorem compCx_ok (I : Inv X pins σ H s) (k : CompOk X scope N caps) (hC : s.heap.objs.size ≤ C) (hex : ∀ b ∈ ex, FpOk X pins H b) (hlt : ∀ b ∈ ex, b < s.heap.objs.size) : (compCx X scope N C s H ex).Ok where
  mod := I.ok.mod
  kind := k.kind
  glob := I.ok.glob
  blt := I.ok.blt
  above := hC
  inj := fun x y c h1 h2 => I.ok.inj x y c (closL_sub0 h1) (closL_sub0 h2)
  has := fun x hx => by
    have hm := k.isFree hx
    obtain ⟨c, hc⟩ := k.cells I.ok _ hm rfl
    exact closL_has hc _ _ hm
  cab := fun x c h => by cases h
  hd := I.ok.hd
  frames := I.ok.frames
  stk := .inl rfl
  exf := fun b hb => ⟨Nat.ne_of_lt (Nat.lt_of_lt_of_le (hlt b hb) hC), fun x c e => (hex b hb).2.2.2.2.1 x c (closL_sub0 e)⟩
  bs := I.bs
  bsz := Nat.le_trans I.ok.bsz I.sz
  noex := fun b o e hb => by
    rcases (hex b hb).2.2.2.1 with z | z
    · exact I.ok.noex b o e z
    · exact absurd (Nat.lt_of_lt_of_le (Heap.lt_size (I.ok.bs b o e).1) z) (Nat.lt_irrefl _)
  exfs := fun b hb z => by
    rcases List.mem_cons.mp (I.stkSub b z) with e | e
    · exact (hex b hb).2.1 e
    · exact (hex b hb).2.2.1 e
  funs := I.stack
  frf := I.stkFree
theorem capSt_get {α : Type} {caps : List (Option Nat)} {σ : List (Option α)} {i : Nat} {v : α} (h : (capSt caps σ)[i]? = some (some v)) : ∃ j, caps[i]? = some (some j) ∧ σ[j]? = some (some v) := by
  unfold capSt at h
  rw [List.getElem?_map] at h
  cases e : caps[i]? with
  | none => rw [e] at h; cases h
  | some o =>
    rw [e] at h
    cases o with
    | none => cases h
    | some j =>
      refine ⟨j, rfl, ?_⟩
      simp only [Option.map_some, Option.bind_some, Option.some.injEq] at h
      cases e2 : σ[j]? with
      | none => rw [e2] at h; cases h
      | some w => rw [e2] at h; simp at h; rw [h]
theorem comp_start {h₁ : Heap} {tk : Nat} (I : Inv X pins σ H s) (k : CompOk X scope N caps) (hC : s.heap.objs.size < C) (hex : ∀ b ∈ ex, FpOk X pins H b) (hlt : ∀ b ∈ ex, b < s.heap.objs.size)
    (old : ∀ b o, s.heap.get? b = some o → h₁.get? b = some o) (hns : h₁.Ns C fun _ => none) (hacc : h₁.get? s.heap.objs.size = some { cls := .type "list", data := .seq ([] : List Value).toArray 0 }) :
    Inv (compCx X scope N C s H ex) [] (capSt caps σ) (upd H s.heap.objs.size (.lst [])) { s with heap := h₁, toks := tk } := by
  have hD : H s.heap.objs.size = none := I.hok.fresh (Nat.le_refl _)
  refine ⟨compCx_ok I k (Nat.le_of_lt hC) hex hlt, rfl, I.bare, Un.laid old (Nat.le_refl _) hD, ⟨_, hns, fun i x v h1 h2 h3 => ?_⟩, fun x c e => ?_, ?_, fun x c e => ?_, fun p hp => absurd (show p ∈ ([] : List (Addr × Obj)) from hp) (by simp), ?_, ?_⟩
  · obtain ⟨j, e1, e2⟩ := capSt_get h2
    obtain ⟨y, e3, e4, e5⟩ := k.caps i j e1
    have exy : y = x := by
      have : some y = some x := e3.symm.trans h1
      exact Option.some.inj this
    subst exy
    have hk := k.free _ e5 rfl
    obtain ⟨m, hn, hl⟩ := I.loc
    obtain ⟨u, r, l⟩ := hl j y v e4 e2 (by rcases hk with z | z; exact .inr (.inl z); exact .inr (.inr z))
    refine ⟨u, r, .inr ?_⟩
    rcases l with ⟨z, _⟩ | ⟨_, c, ec, hc⟩
    · rcases hk with z' | z' <;> (rw [z] at z'; cases z')
    · refine ⟨?_, c, ?_, ?_⟩
      · rcases h3 with h3 | h3 | h3
        · exfalso
          have e : (relabel scope X.env).names.lookup y = (scope.names.lookup y).map fun k => if (k == NameKind.free && X.env.scope.kind == .function && X.env.kindOf y == some .cell) then NameKind.cell else k := lookup_rel scope.names
          have h3' : (relabel scope X.env).names.lookup y = some .local := h3
          rw [e] at h3'
          rw [k.frees _ e5 rfl] at h3'
          simp only [Option.map_some] at h3'
          split at h3' <;> cases h3'
        · exact .inl h3
        · exact .inr h3
      · obtain ⟨c', ec'⟩ := closL_has ec scope.names [] e5
        have := closL_sub0 ec'
        rw [ec] at this
        cases this
        exact ec'
      · obtain ⟨o, ho, hd⟩ := hc
        exact ⟨o, old _ _ ho, hd⟩
  · obtain ⟨v, o, ho, hd⟩ := I.cell x c (closL_sub0 e)
    exact ⟨v, o, old _ _ ho, hd⟩
  · show upd H s.heap.objs.size (.lst []) C = none
    rw [upd_ne (Nat.ne_of_gt hC)]
    exact I.hok.fresh (Nat.le_of_lt hC)
  · obtain ⟨v, o, ho, hd⟩ := I.cell x c (closL_sub0 e)
    rw [upd_ne (Nat.ne_of_lt (Heap.lt_size ho))]
    exact I.freeC x c (closL_sub0 e)
  · exact I.hok.laid old (Nat.le_refl _) ⟨Nat.zero_le _, [], 0, .nil, hacc⟩
  · show (capSt caps σ).length = N.length
    unfold capSt
    rw [List.length_map]; exact k.len
theorem comp_end {pins' : List (Addr × Obj)} {σ' : St} {H' : Hp} {s' : Shared} {h' : Heap} (I : Inv X pins σ H s) (hex : ∀ b ∈ ex, FpOk X pins H b) (hC : s.heap.objs.size < C)
    (I' : Inv (compCx X scope N C s H ex) pins' σ' H' s') (sb : Heap.SameBut C s'.heap h') : Inv X pins σ H' { s' with heap := h' } := by
  have hos : s'.os = s.os := I'.os
  have hfree : H' C = none := I'.free
  have neC : ∀ b o, s.heap.get? b = some o → b ≠ C := fun b o e z => by
    have := Heap.lt_size e
    rw [z] at this
    exact absurd (Nat.lt_trans hC this) (Nat.lt_irrefl _)
  have hun : Un (frs X.stack) ex H H' s.heap s'.heap := I'.base
  have hun2 : Un (frs X.stack) ex H H' s.heap h' := by
    refine ⟨fun b o e n hb hx => (sb.2 b (neC b o e)).trans (hun.keep b o e n hb hx), fun b o e n hb hx => ?_, hun.free, fun b o e hx => ?_, hun.tups, hun.frzs, hun.tbls⟩
    · obtain ⟨sl, q⟩ := hun.slot b o e n hb hx
      exact ⟨sl, (sb.2 b (neC b o e)).trans q⟩
    · obtain ⟨o', q⟩ := hun.there b o e hx
      exact ⟨o', (sb.2 b (neC b o e)).trans q⟩
  have hok2 : HOk X.prog X.w H' h' := fun a o e => by
    have nc : ∀ c u, H' c = some u → c ≠ C := fun c u q z => by rw [z, hfree] at q; cases q
    refine (I'.hok a o e).stay (fun b u hb q => ?_) (fun _ q => q) fun _ _ q => q
    rcases hb with rfl | hb
    · exact (sb.2 b (nc b o e)).trans q
    · exact (sb.2 b (nc b _ hb)).trans q
  obtain ⟨hh, g, d, t, os'⟩ := s'
  obtain rfl : os' = s.os := hos
  have fin := I.call (h' := h') (g' := g) (d' := d) (t' := t) (ch := ex) hun2 hok2 I'.bare fun b hb => ⟨(hex b hb).2.2.2.1, (hex b hb).2.1, (hex b hb).2.2.2.2.1, (hex b hb).2.2.2.2.2⟩
  exact fin
end
end DL
set_option Elab.async false
set_option linter.all false
set_option maxRecDepth 100000
namespace DL
open PySem PySem.Spec L2
open PyProof.Rows hiding St
noncomputable def hide (q : Addr) (H : Hp) : Hp := fun b => if b = q then none else H b
theorem hide_self {q : Addr} {H : Hp} : hide q H q = none := by unfold hide; rw [if_pos rfl]
theorem hide_ne {q b : Addr} {H : Hp} (h : b ≠ q) : hide q H b = H b := by unfold hide; rw [if_neg h]
theorem hide_some {q b : Addr} {H : Hp} {o : HO} (h : hide q H b = some o) : b ≠ q ∧ H b = some o := by
  by_cases e : b = q
  · rw [e, hide_self] at h; cases h
  · rw [hide_ne e] at h; exact ⟨e, h⟩
theorem upd_hide {q : Addr} {H : Hp} {o : HO} (h : H q = some o) : upd (hide q H) q o = H := by
  funext b
  by_cases e : b = q
  · rw [e, upd_same, h]
  · rw [upd_ne e, hide_ne e]
theorem hide_upd {q : Addr} {H : Hp} {o : HO} : hide q (upd H q o) = hide q H := by
  funext b
  by_cases e : b = q
  · rw [e, hide_self, hide_self]
  · rw [hide_ne e, hide_ne e, upd_ne e]
theorem hide_none {q : Addr} {H : Hp} (h : H q = none) : hide q H = H := by
  funext b
  by_cases e : b = q
  · rw [e, hide_self, h]
  · rw [hide_ne e]
section
variable {c : Wc} {μ μ' : List Addr} {H H' : Hp} {G : DH} {q : Addr} {vs : List V}
mutual
theorem RepV.sq (k : ∀ a xs, SqT c.K H a xs → SqT c.K H' a xs) : ∀ {d : D} {v : V}, RepV c μ H d v → RepV c μ H' d v
  | .non, _, h => h
  | .bl _, _, h => h
  | .int _, _, h => h
  | .str _, _, h => h
  | .ty _, _, h => h
  | .fn _, _, h => h
  | .ref i, v, h => by unfold RepV at h ⊢; exact h
  | .tup l, v, h => by
    unfold RepV at h ⊢
    obtain ⟨a, vs, e, q, r⟩ := h
    exact ⟨a, vs, e, k _ _ q, RepL.sq k r⟩
theorem RepL.sq (k : ∀ a xs, SqT c.K H a xs → SqT c.K H' a xs) : ∀ {l : List D} {vs : List V}, RepL c μ H l vs → RepL c μ H' l vs
  | [], _, h => h
  | d :: ds, vs, h => by
    unfold RepL at h ⊢
    obtain ⟨v, r, e, q, t⟩ := h
    exact ⟨v, r, e, RepV.sq k q, RepL.sq k t⟩
end
theorem RepK.sq (k : ∀ a xs, SqT c.K H a xs → SqT c.K H' a xs) : ∀ {l : List (Key × D)} {vs : List (Key × V)}, RepK c μ H l vs → RepK c μ H' l vs
  | [], _, h => h
  | (_, d) :: ds, vs, h => by
    obtain ⟨v, r, e, q, t⟩ := h
    exact ⟨v, r, e, RepV.sq k q, RepK.sq k t⟩
theorem sqT_hide (hq : H q = some (.lst vs)) {K : PySem.W.Frag} (a : Addr) (xs : List V) (h : SqT K H a xs) : SqT K (hide q H) a xs := by
  rcases h with (h | ⟨o, h⟩) | h
  · exact .inl (.inl (by rw [hide_ne (fun e => by rw [e, hq] at h; cases h)]; exact h))
  · exact .inl (.inr ⟨o, by rw [hide_ne (fun e => by rw [e, hq] at h; cases h)]; exact h⟩)
  · exact .inr h
theorem sqT_unhide {K : PySem.W.Frag} (a : Addr) (xs : List V) (h : SqT K (hide q H) a xs) : SqT K H a xs := by
  rcases h with (h | ⟨o, h⟩) | h
  · exact .inl (.inl (hide_some h).2)
  · exact .inl (.inr ⟨o, (hide_some h).2⟩)
  · exact .inr h
theorem StRep.sq (k : ∀ a xs, SqT c.K H a xs → SqT c.K H' a xs) {dσ : DSt} {σ : St} (h : StRep c μ H dσ σ) : StRep c μ H' dσ σ := ⟨h.1, fun i d e => let ⟨v, a, b⟩ := h.2 i d e; ⟨v, a, b.sq k⟩⟩
theorem Ext.hide (x : Ext μ H μ' H') (n : q ∉ μ) (hq : H q = some (.lst vs)) : H' q = some (.lst vs) ∧ q ∉ μ' ∧ Ext μ (DL.hide q H) μ' (DL.hide q H') := by
  refine ⟨x.oth q _ hq n, fun h => ?_, x.pre, fun a h1 h2 => ?_, fun b o e nb => ?_, fun b xs e => ?_, fun b o u e => ?_⟩
  · have := x.new q h n; rw [hq] at this; cases this
  · by_cases e : a = q
    · rw [e, hide_self]
    · rw [hide_ne e]; exact x.new a h1 h2
  · obtain ⟨e1, e2⟩ := hide_some e; rw [hide_ne e1]; exact x.oth b o e2 nb
  · obtain ⟨e1, e2⟩ := hide_some e; rw [hide_ne e1]; exact x.tup b xs e2
  · obtain ⟨e1, e2⟩ := hide_some e; rw [hide_ne e1]; exact x.frz b o u e2
theorem Ext.unhide (x : Ext μ H μ' (DL.hide q H')) : Ext μ H μ' H' :=
  ⟨x.pre, x.new, fun b o e n => (hide_some (x.oth b o e n)).2, fun b xs e => (hide_some (x.tup b xs e)).2, fun b o u e => (hide_some (x.frz b o u e)).2⟩
theorem HRep.hide (h : HRep c μ G H) (n : q ∉ μ) (hq : H q = some (.lst vs)) : HRep c μ G (DL.hide q H) :=
  ⟨h.len, h.inj, fun i o a g m => by
    have na : a ≠ q := fun e => n (by rw [← e]; exact List.mem_of_getElem? m)
    have r := h.obj i o a g m
    cases o with
    | lst l => obtain ⟨ws, e, r⟩ := r; exact ⟨ws, by rw [hide_ne na]; exact e, r.sq (sqT_hide hq)⟩
    | dct l => obtain ⟨ws, e, r⟩ := r; exact ⟨ws, by rw [hide_ne na]; exact e, r.sq (sqT_hide hq)⟩
    | rod l => obtain ⟨ws, o, e, r⟩ := r; exact ⟨ws, o, by rw [hide_ne na]; exact e, r.sq (sqT_hide hq)⟩
    | rol l =>
      obtain ⟨ws, e, r⟩ := r
      refine ⟨ws, ?_, r.sq (sqT_hide hq)⟩
      rcases e with ⟨o, e⟩ | e
      · exact .inl ⟨o, by rw [hide_ne na]; exact e⟩
      · exact .inr e⟩
theorem HRep.unhide (h : HRep c μ G (DL.hide q H)) : HRep c μ G H :=
  ⟨h.len, h.inj, fun i o a g m => by
    have r := h.obj i o a g m
    cases o with
    | lst l => obtain ⟨ws, e, r⟩ := r; exact ⟨ws, (hide_some e).2, r.sq sqT_unhide⟩
    | dct l => obtain ⟨ws, e, r⟩ := r; exact ⟨ws, (hide_some e).2, r.sq sqT_unhide⟩
    | rod l => obtain ⟨ws, o, e, r⟩ := r; exact ⟨ws, o, (hide_some e).2, r.sq sqT_unhide⟩
    | rol l =>
      obtain ⟨ws, e, r⟩ := r
      refine ⟨ws, ?_, r.sq sqT_unhide⟩
      rcases e with ⟨o, e⟩ | e
      · exact .inl ⟨o, (hide_some e).2⟩
      · exact .inr e⟩
theorem Post.unhide {α : Type} {Z : XC} {r : Option (Except Str α × DH)} {K : α → List Addr → DH → Hp → Prop} (n : q ∉ μ) (hq : H q = some (.lst vs)) (p : Post c ZF μ (DL.hide q H) r K) :
    Post c Z μ H r fun a μ' G' H' => H' q = some (.lst vs) ∧ q ∉ μ' ∧ HRep c μ' G' (DL.hide q H') ∧ Ext μ (DL.hide q H) μ' (DL.hide q H') ∧ K a μ' G' (DL.hide q H') := by
  match r, p with
  | some (.ok a, G'), p =>
    intro μ' H' x h
    obtain ⟨e1, e2, e3⟩ := x.hide n hq
    have h2 := h.hide e2 e1
    exact ⟨e1, e2, h2, e3, p μ' _ e3 h2⟩
  | some (.error z, G'), p =>
    intro μ' H' x h
    obtain ⟨e1, e2, e3⟩ := x.hide n hq
    exact (p μ' _ e3 (h.hide e2 e1)).elim
theorem HRep.mem_lt {X : Cx} {pins : List (Addr × Obj)} {σ : St} {s : Shared} (I : Inv X pins σ H s) (h : HRep (wc X) μ G H) {a : Addr} (ha : a ∈ μ) : a < s.heap.objs.size := by
  obtain ⟨i, hi⟩ := List.getElem?_of_mem ha
  have hl : i < G.length := by rw [← h.len]; exact lt_of_get hi
  have r := h.obj i G[i] a (List.getElem?_eq_getElem hl) hi
  cases e : G[i] with
  | lst l => rw [e] at r; obtain ⟨_, e, _⟩ := r; exact I.hok.lt e
  | dct l => rw [e] at r; obtain ⟨_, e, _⟩ := r; exact I.hok.lt e
  | rod l => rw [e] at r; obtain ⟨_, _, e, _⟩ := r; exact I.hok.lt e
  | rol l =>
    rw [e] at r
    obtain ⟨ws, e, _⟩ := r
    rcases e with ⟨o, e⟩ | e
    · exact I.hok.lt e
    · rcases e with (e | ⟨o, e⟩) | ⟨o, its, n, e, _⟩
      · cases e
      · cases e
      · exact Heap.lt_size (I.kIn a o e)
end
noncomputable def PTs (X : Cx) (ifs : List Expr) (t : TT) : Prop :=
  ∀ (pins : List (Addr × Obj)) (s : Shared) (σ : St) (H : Hp) (Q : Bool → Hp → Prop), Inv X pins σ H s → t σ H Q →
    wpAny (model X.prog X.w) X.A (forIn ifs true fun c r => if r = true then do let ok ← isTrue c X.env (eval c X.env); pure (ForInStep.yield ok) else pure (ForInStep.yield r)) (TP X pins σ Q) X.xe s
structure DTs (X : Cx) (Z : XC) (ifs : List Expr) (f : DSt → M Bool) : Prop where
  h : PTs X ifs (liftT (wc X) Z f)
noncomputable def trueT : DSt → M Bool := fun _ => pure true
theorem dts_nil {X : Cx} {Z : XC} : DTs X Z [] trueT := ⟨fun pins s σ H Q I ⟨dσ, μ, G, sr, h, p⟩ => wpAny_tests_nil ⟨H, I, Post.ok p h⟩⟩
theorem dts_one {X : Cx} {Z : XC} {c : Expr} {t : DSt → M Bool} (h : DT X Z c t) : DTs X Z [c] t := ⟨fun pins s σ H Q I q => wpAny_tests_one (h.h pins s σ H Q I q)⟩
noncomputable def compL (g : Fg) (t : DSt → M Bool) (e : Fe) (ck : DH → Bool) : List D → DSt → M (List D)
  | [] => fun _ G => if ck G then some (.ok [], G) else none
  | d :: r => fun σ G => if ck G then (do
      let σ1 ← g d σ
      if ← t σ1 then do
        let y ← e σ1
        let ys ← compL g t e ck r σ1
        pure (y :: ys)
      else compL g t e ck r σ1 : M (List D)) G else none
noncomputable def compE (it : DSt → M Src) (caps : List (Option Nat)) (g : Fg) (t : DSt → M Bool) (e : Fe) : Fe := fun σ => do
  let s ← it σ
  if s.items.length ≤ sizeLine then do
    let ys ← noX (compL g t e s.ck s.items (capSt caps σ))
    allocM (.lst ys)
  else M.stuck
theorem capSt_rep {c : Wc} {μ : List Addr} {H : Hp} {caps : List (Option Nat)} {dσ : DSt} {σ : St} (h : StRep c μ H dσ σ) : StRep c μ H (capSt caps dσ) (capSt caps σ) := by
  refine ⟨by simp [capSt], fun i d e => ?_⟩
  obtain ⟨j, e1, e2⟩ := capSt_get e
  obtain ⟨v, e3, r⟩ := h.2 j d e2
  refine ⟨v, ?_, r⟩
  unfold capSt
  rw [List.getElem?_map, e1]
  simp [e3]
section
variable {X : Cx} {Z : XC} {elt tg iter : Expr} {ifs : List Expr} {scope : Scope} {pos : Pos} {N : List Str} {caps : List (Option Nat)} {it : DSt → M Src} {gg : Fg} {tt : DSt → M Bool} {fe : Fe}
set_option maxHeartbeats 1000000 in
theorem comp_core {use : Option (Value → Sem Unit)} {PQ : Value → Shared → Prop} {Q : VK} {ps : Pos} {pins : List (Addr × Obj)} {s : Shared} {σ : St} {H : Hp} {dσ : DSt} {μ : List Addr} {G : DH} (hc : X.calm = true) (hi : DI X Z tg iter it) (k : CompOk X scope N caps)
    (hg : ∀ C s H ex, DG (compCx X scope N C s H ex) ZF tg gg) (ht : ∀ C s H ex, DTs (compCx X scope N C s H ex) ZF ifs tt) (he : ∀ C s H ex, DE (compCx X scope N C s H ex) ZF elt fe)
    (hs : ∀ x, foldedSetIterable iter X.env x = pure x) (I : Inv X pins σ H s) (sr : StRep (wc X) μ H dσ σ) (hr : HRep (wc X) μ G H) (p : Post (wc X) Z μ H (compE it caps gg tt fe dσ G) fun d μ' _ H' => ∀ v, RepV (wc X) μ' H' d v → Q v H')
    (fin : ∀ (DD C : Addr) (s4 : Shared) (H' : Hp) (m : Str → Option Value) (o : Flow), s4.heap.Ns C m → (∀ h'', Heap.SameBut C s4.heap h'' → Inv X pins σ H' { s4 with heap := h'' }) → H' C = none → (∀ H9 : Hp, H9 C = none → FpOk X pins H9 C) → Q (.ref DD) H' → compPost (model X.prog X.w) X.A X.xe use PQ (.ref DD) C (.ok o) s4) :
    wpAny (model X.prog X.w) X.A (comprehension (.ListComp elt [⟨tg, iter, ifs, 0⟩] scope pos) scope X.env ps (newList []) false (eval iter X.env) use) PQ X.xe s := by
  have p1 := Post.bind p
  refine wpAny_comprehension_free (use := use) rfl hs (closureFor_closL (k.cells I.ok)) k.kind k.names ?_
  refine thn (hi.h pins s σ H (fun J H1 => ∃ src μ1 G1, Ext μ H μ1 H1 ∧ HRep (wc X) μ1 G1 H1 ∧ ItD (wc X) μ1 H1 J src ∧
      Post (wc X) Z μ1 H1 ((if src.items.length ≤ sizeLine then (do let ys ← noX (compL gg tt fe src.ck src.items (capSt caps dσ)); allocM (.lst ys)) else M.stuck : M D) G1) fun d μ' _ H' => ∀ v, RepV (wc X) μ' H' d v → Q v H')
    I ⟨dσ, μ, G, sr, hr, p1.mono fun src μ1 G1 H1 x1 h1 p1 J hJ => ⟨src, μ1, G1, x1, h1, hJ, p1⟩⟩) fun v s1 q1 => thn q1 fun itv s2 q2 => ?_
  obtain ⟨itA, fp, tn, J, H2, rfl, I2, T, st2, f2, src, μ2, G2, x2, h2, hJ, p2⟩ := q2
  split at p2
  case isFalse => exact p2.elim
  rename_i hlen
  have hfp : ∀ b ∈ fp, b < s2.heap.objs.size := fun b hb => by obtain ⟨o, e, _⟩ := T.obj _ _ st2 b hb; exact Heap.lt_size e
  refine wpAny_newObj_type (wpAny_newFunctionEnv k.cell (by intro y hy; simp at hy) (fun h₁ hns₁ hsb₁ => ?_) k.kind)
  dsimp only at hns₁ hsb₁ ⊢
  generalize hHP : s2.heap.push { cls := .type "list", dict := none, data := .seq ([] : List Value).toArray } = HP at hns₁ hsb₁ ⊢
  have hC : HP.objs.size = s2.heap.objs.size + 1 := by rw [← hHP, Heap.size_push]
  have hCl : s2.heap.objs.size < HP.objs.size := by rw [hC]; exact Nat.lt_succ_self _
  have hDC : s2.heap.objs.size ≠ HP.objs.size := Nat.ne_of_lt hCl
  have old : ∀ b o, s2.heap.get? b = some o → h₁.get? b = some o := fun b o e => hsb₁.extBut b o (by have := Heap.lt_size e; exact Nat.ne_of_lt (Nat.lt_trans this hCl)) (Heap.get?_push_of_some _ (hHP ▸ Heap.get?_push_of_some _ e))
  have hacc : h₁.get? s2.heap.objs.size = some { cls := .type "list", data := .seq ([] : List Value).toArray 0 } := hsb₁.extBut _ _ hDC (Heap.get?_push_of_some _ (hHP ▸ Heap.get?_push_size _ rfl))
  have hD : H2 s2.heap.objs.size = none := I2.hok.fresh (Nat.le_refl _)
  have nD : s2.heap.objs.size ∉ μ2 := fun z => Nat.lt_irrefl _ (h2.mem_lt I2 z)
  have st1 : tn 0 h₁ := T.keep _ _ _ st2 fun b _ o e => old b o e
  have fpX : ∀ (H' : Hp) (b : Addr), b ∈ fp → H' b = none → FpOk (compCx X scope N HP.objs.size s2 H2 fp) [] H' b := fun H' b hb hn =>
    ⟨hn, Nat.ne_of_lt (Nat.lt_trans (hfp b hb) hCl), fun z => by
      rcases List.mem_cons.mp (I2.stkSub b z) with e | e
      · exact (f2 b hb).2.1 e
      · exact (f2 b hb).2.2.1 e, .inl hb, fun x c e => (f2 b hb).2.2.2.2.1 x c (closL_sub0 e), fun p hp => absurd (show p ∈ ([] : List (Addr × Obj)) from hp) (by simp)⟩
  have hcX : (compCx X scope N HP.objs.size s2 H2 fp).calm = true := hc
  have p3 := noX_post (Post.bind p2)
  generalize hDD : s2.heap.objs.size = DD at *
  have loop : ∀ s₃ : Shared, s₃ = { s2 with heap := h₁, toks := s2.toks + ([] : List (Str × Value)).length } →
      codeAny (model X.prog X.w) X.A (.compLoop (.ListComp elt [⟨tg, iter, ifs, 0⟩] scope pos) 0 (.ref itA) (.ref DD) (compEnvC scope (closL X.env scope.names []) HP.objs.size X.env))
        (compPost (model X.prog X.w) X.A X.xe use PQ (.ref DD) HP.objs.size) s₃ := by
    rintro s₃ rfl
    refine compLoop_own (fun n s' => ∃ (i : Nat) (ys : List D) (vs : List V) (σ' : St) (H' : Hp) (dσ' : DSt) (μ' : List Addr) (G' : DH), n = src.items.length - i ∧ i ≤ src.items.length ∧ vs.length ≤ i ∧
      Inv (compCx X scope N HP.objs.size s2 H2 fp) [] σ' H' s' ∧ tn i s'.heap ∧ (∀ b ∈ fp, H' b = none) ∧ H' DD = some (.lst vs) ∧ DD ∉ μ' ∧
      Ext μ2 H2 μ' (hide DD H') ∧ HRep (wc X) μ' G' (hide DD H') ∧ StRep (wc X) μ' (hide DD H') dσ' σ' ∧ RepL (wc X) μ' (hide DD H') ys vs ∧
      Post (wc X) ZF μ' (hide DD H') (compL gg tt fe src.ck (src.items.drop i) dσ' G') fun rest μ'' G'' H'' => Post (wc X) Z μ'' H'' (allocM (.lst (ys ++ rest)) G'') fun d μ' _ H' => ∀ v, RepV (wc X) μ' H' d v → Q v H') ?_ src.items.length
      ⟨0, [], [], capSt caps σ, upd H2 DD (.lst []), capSt caps dσ, μ2, G2, rfl, Nat.zero_le _, Nat.le_refl _, ?_, st1, fun b hb => ?_, upd_same, nD, ?_, ?_, ?_, rfl, ?_⟩
    · rintro n s' ⟨i, ys, vs, σ', H', dσ', μ', G', rfl, hi', hvl, I', st', fr', hvs, nD', x', h', sr', rl, p'⟩
      by_cases hlt : i < src.items.length
      · rw [List.drop_eq_getElem_cons hlt] at p'
        unfold compL at p'
        split at p'
        case isFalse => exact p'.elim
        rename_i ck
        obtain ⟨q1, _⟩ := hJ μ' G' H' x'.unhide h'.unhide ck i
        obtain ⟨go, yl⟩ := q1 _ (List.getElem?_eq_getElem hlt)
        refine thn (T.item (compCx X scope N HP.objs.size s2 H2 fp) rfl rfl rfl hcX i [] s' σ' H' (fun _ _ => False) I' (fun b hb => fpX H' b hb (fr' b hb)) st' go) fun r s4 ⟨u, hr, h4⟩ => ?_
        subst hr
        refine thn h4 fun _ s5 ⟨x, H5, I5, r5, y5, st5, fr5⟩ => ?_
        obtain ⟨k5, h5, rx5⟩ := yl x H5 y5
        obtain ⟨e5, n5, k5'⟩ := k5.hide nD' hvs
        have I5' := I5.pinned (fun b hb => fpX H5 b hb (fr5 b hb)) (T.obj _ _ st5)
        have keepIt : ∀ {σ7 : St} {H7 : Hp} {s7 : Shared}, Inv (compCx X scope N HP.objs.size s2 H2 fp) ([] ++ pinsAt fp s5.heap) σ7 H7 s7 → Inv (compCx X scope N HP.objs.size s2 H2 fp) [] σ7 H7 s7 ∧ tn (i + 1) s7.heap ∧ ∀ b ∈ fp, H7 b = none := fun {σ7 H7 s7} I7 => by
          refine ⟨I7.unpinned, T.keep _ _ _ st5 fun b hb o e => (I7.pin (b, o) (List.mem_append_right _ (List.mem_append_right _ (mem_pinsAt hb e)))).1, fun b hb => ?_⟩
          obtain ⟨o, e, d⟩ := T.obj _ _ st5 b hb
          exact (I7.pin (b, o) (List.mem_append_right _ (List.mem_append_right _ (mem_pinsAt hb e)))).2.1
        have p5 := Post.unhide (Z := ZF) n5 e5 (Post.bind (p'.from k5'))
        refine thn ((hg _ _ _ _).h _ s5 σ' H5 x u _ I5' r5 ⟨_, dσ', μ', G', rx5, (sr'.mono k5').sq sqT_unhide, h5, p5.mono fun dσ6 μ6 G6 H6 x6 h6 q6 σ6 sr6 => (⟨dσ6, μ6, G6, sr6, h6, q6⟩ :
          (fun σ6 H6 => ∃ dσ6 μ6 G6, StRep (wc X) μ6 H6 dσ6 σ6 ∧ HRep (wc X) μ6 G6 H6 ∧ H6 DD = some (.lst vs) ∧ DD ∉ μ6 ∧ HRep (wc X) μ6 G6 (hide DD H6) ∧ Ext μ' (hide DD H5) μ6 (hide DD H6) ∧
            Post (wc X) ZF μ6 (hide DD H6) ((do if ← tt dσ6 then do { let y ← fe dσ6; let ys ← compL gg tt fe src.ck (src.items.drop (i + 1)) dσ6; pure (y :: ys) } else compL gg tt fe src.ck (src.items.drop (i + 1)) dσ6 : M (List D)) G6)
              fun rest μ'' G'' H'' => Post (wc X) Z μ'' H'' (allocM (.lst (ys ++ rest)) G'') fun d μ' _ H' => ∀ v, RepV (wc X) μ' H' d v → Q v H') σ6 H6)⟩) fun _ s6 ⟨σ6, H6, I6, dσ6, μ6, G6, sr6, h6, e6, n6, hh6, x6, p6⟩ => ?_
        have p6' := Post.unhide (Z := ZF) n6 e6 (Post.bind p6)
        refine thn ((ht _ _ _ _).h _ s6 σ6 H6 (fun b H7 => ∃ μ7 G7, StRep (wc X) μ7 H7 dσ6 σ6 ∧ HRep (wc X) μ7 G7 H7 ∧ H7 DD = some (.lst vs) ∧ DD ∉ μ7 ∧ HRep (wc X) μ7 G7 (hide DD H7) ∧ Ext μ6 (hide DD H6) μ7 (hide DD H7) ∧
            Post (wc X) ZF μ7 (hide DD H7) ((if b = true then (do let y ← fe dσ6; let ys ← compL gg tt fe src.ck (src.items.drop (i + 1)) dσ6; pure (y :: ys)) else compL gg tt fe src.ck (src.items.drop (i + 1)) dσ6 : M (List D)) G7)
              fun rest μ'' G'' H'' => Post (wc X) Z μ'' H'' (allocM (.lst (ys ++ rest)) G'') fun d μ' _ H' => ∀ v, RepV (wc X) μ' H' d v → Q v H') I6 ⟨dσ6, μ6, G6, sr6, h6, p6'.mono fun b μ7 G7 H7 x7 h7 q7 => ⟨μ7, G7, sr6.mono x7, h7, q7⟩⟩) fun b s7 ⟨H7, I7, μ7, G7, sr7, h7, e7, n7, hh7, x7, p7⟩ => ?_
        have x27 : Ext μ2 H2 μ7 (hide DD H7) := x'.trans (k5'.trans (x6.trans x7))
        have rl7 : RepL (wc X) μ7 (hide DD H7) ys vs := rl.mono (k5'.trans (x6.trans x7))
        cases b with
        | false =>
          rw [if_neg Bool.false_ne_true] at p7 ⊢
          obtain ⟨I8, st8, fr8⟩ := keepIt I7
          exact ⟨src.items.length - (i + 1), by omega, i + 1, ys, vs, σ6, H7, dσ6, μ7, G7, rfl, hlt, by omega, I8, st8, fr8, e7, n7, x27, hh7, sr7.sq (sqT_hide e7), rl7, p7⟩
        | true =>
          rw [if_pos rfl] at p7 ⊢
          have p7' := Post.unhide (Z := ZF) n7 e7 (Post.bind p7)
          refine thn ((he _ _ _ _).h _ s7 σ6 H7 (fun v H8 => ∃ y μ8 G8, RepV (wc X) μ8 H8 y v ∧ StRep (wc X) μ8 H8 dσ6 σ6 ∧ HRep (wc X) μ8 G8 H8 ∧ H8 DD = some (.lst vs) ∧ DD ∉ μ8 ∧ HRep (wc X) μ8 G8 (hide DD H8) ∧ Ext μ7 (hide DD H7) μ8 (hide DD H8) ∧
            Post (wc X) ZF μ8 (hide DD H8) ((do let ys ← compL gg tt fe src.ck (src.items.drop (i + 1)) dσ6; pure (y :: ys) : M (List D)) G8)
              fun rest μ'' G'' H'' => Post (wc X) Z μ'' H'' (allocM (.lst (ys ++ rest)) G'') fun d μ' _ H' => ∀ v, RepV (wc X) μ' H' d v → Q v H') I7 ⟨dσ6, μ7, G7, sr7, h7, p7'.mono fun y μ8 G8 H8 x8 h8 q8 v rv => ⟨y, μ8, G8, rv, sr7.mono x8, h8, q8⟩⟩) fun yu s8 ⟨yv, H8, I8, ry, y, μ8, G8, ryd, sr8, h8, e8, n8, hh8, x8, p8⟩ => ?_
          refine thn (mt_append _ s8 σ6 H8 (.ref DD) [yv] (.ref DD) [yu] (fun _ H9 => H9 = upd H8 DD (.lst (vs ++ [yv]))) I8 rfl (.cons ry .nil) ⟨DD, vs, yv, rfl, rfl, e8, by omega, rfl⟩) fun _ s9 ⟨_, H9, I9, _, e9⟩ => ?_
          subst e9
          obtain ⟨I10, st10, fr10⟩ := keepIt I9
          have hd9 : hide DD (upd H8 DD (.lst (vs ++ [yv]))) = hide DD H8 := hide_upd
          refine ⟨src.items.length - (i + 1), by omega, i + 1, ys ++ [y], vs ++ [yv], σ6, _, dσ6, μ8, G8, rfl, hlt, by simp; omega, I10, st10, fr10, upd_same, n8, ?_, ?_, ?_, ?_, ?_⟩
          · rw [hd9]; exact x27.trans x8
          · rw [hd9]; exact hh8
          · rw [hd9]; exact sr8.sq (sqT_hide e8)
          · rw [hd9]; exact (rl7.mono x8).append ⟨yv, [], rfl, ryd.sq (sqT_hide e8), rfl⟩
          · rw [hd9]
            refine (Post.bind p8).mono fun rest μ'' G'' H'' x'' h'' q'' => ?_
            have q3 := Post.ok q'' h''
            rw [List.append_assoc]
            exact q3
      · have e : i = src.items.length := by omega
        subst e
        rw [List.drop_length] at p'
        unfold compL at p'
        split at p'
        case isFalse => exact p'.elim
        rename_i ck
        obtain ⟨_, q2⟩ := hJ μ' G' H' x'.unhide h'.unhide ck src.items.length
        refine thn (T.done (compCx X scope N HP.objs.size s2 H2 fp) rfl rfl rfl hcX src.items.length [] s' σ' H' (fun _ _ => False) I' (fun b hb => fpX H' b hb (fr' b hb)) st' (q2 (Nat.le_refl _))) fun r s4 ⟨hr, I4⟩ => ?_
        subst hr
        obtain ⟨m, hn, _⟩ := I4.loc
        have p9 := Post.ok p' h'
        rw [List.append_nil] at p9
        have q9 := post_lst (q := DD) h' rl p9 hide_self
        rw [upd_hide hvs] at q9
        exact fin DD HP.objs.size s4 H' m _ hn (fun h'' sb => comp_end I2 (fun b hb => f2 b hb) (by rw [hDD]; exact hCl) I4 sb) I4.free (fun H9 hn9 => I2.fpOk (by rw [hDD]; exact Nat.le_of_lt hCl) hn9) q9
    · have := comp_start (h₁ := h₁) (tk := s2.toks + ([] : List (Str × Value)).length) I2 k (C := HP.objs.size) (by rw [hDD]; exact hCl) f2 (fun b hb => by rw [hDD]; exact hfp b hb) old hns₁ (by rw [hDD]; exact hacc)
      rw [hDD] at this
      exact this
    · rw [upd_ne (Nat.ne_of_lt (hfp b hb))]; exact (f2 b hb).1
    · rw [hide_upd, hide_none hD]; exact Ext.refl _ _
    · rw [hide_upd, hide_none hD]; exact h2
    · rw [hide_upd, hide_none hD]; exact capSt_rep (sr.mono x2)
    · rw [hide_upd, hide_none hD, List.drop_zero]
      exact p3
  exact codeAny_compStart_list (loop _ rfl) (T.self _ 0 _ _ _ st1 (loop _ rfl))
theorem de_comp (hc : X.calm = true) (hi : DI X Z tg iter it) (k : CompOk X scope N caps)
    (hg : ∀ C s H ex, DG (compCx X scope N C s H ex) ZF tg gg) (ht : ∀ C s H ex, DTs (compCx X scope N C s H ex) ZF ifs tt) (he : ∀ C s H ex, DE (compCx X scope N C s H ex) ZF elt fe)
    (hs : ∀ x, foldedSetIterable iter X.env x = pure x) : DE X Z (.ListComp elt [⟨tg, iter, ifs, 0⟩] scope pos) (compE it caps gg tt fe) := ⟨by
  intro pins s σ H Q I ⟨dσ, μ, G, sr, hr, p⟩
  rw [eval_ListComp]
  exact comp_core (use := none) hc hi k hg ht he hs I sr hr p fun DD C s4 H' m o hn fin _ _ q9 => ⟨m, hn, fun h'' sb => ⟨.ref DD, H', fin h'' sb, rfl, q9⟩⟩⟩
end
end DL
set_option Elab.async false
set_option linter.all false
set_option maxRecDepth 100000
namespace DL
open PySem PySem.Spec L2
open PyProof.Rows hiding St
noncomputable def objM (r : Nat) : M DO := fun G => match G[r]? with
  | some o => some (.ok o, G)
  | none => none
noncomputable def listOf : DO → M (List D)
  | .lst l => pure l
  | .rol l => pure l
  | .dct _ => M.stuck
  | .rod _ => M.stuck
noncomputable def seqM : D → M (List D)
  | .tup l => pure l
  | .ref r => objM r >>= listOf
  | _ => M.stuck
noncomputable def optM {α : Type} : Option α → M α
  | some a => pure a
  | none => M.stuck
section
variable {X : Cx} {Z : XC}
theorem IxR.mono {r r' : R2} (h : IxR X r) (k : ∀ x y H Q, r' x y H Q → r x y H Q) : IxR X r' := fun va sl pins s σ H x y v u Q I rx ry q hs => h va sl pins s σ H x y v u Q I rx ry (k x y H Q q) hs
variable {c : Wc} {μ : List Addr} {H : Hp} {G : DH}
theorem objM_post {α : Type} {r : Nat} {f : DO → M α} {K : α → List Addr → DH → Hp → Prop} (p : Post c Z μ H ((objM r >>= f) G) K) : ∃ o, G[r]? = some o ∧ Post c Z μ H (f o G) K := by
  rw [M.bind_eq] at p
  unfold objM at p
  cases e : G[r]? with
  | none => rw [e] at p; exact p.elim
  | some o => rw [e] at p; exact ⟨o, rfl, p⟩
theorem optM_post {α β : Type} {r : Option β} {f : β → M α} {K : α → List Addr → DH → Hp → Prop} (p : Post c Z μ H ((optM r >>= f) G) K) : ∃ o, r = some o ∧ Post c Z μ H (f o G) K := by
  cases r with
  | none => exact p.elim
  | some o => exact ⟨o, rfl, p⟩
theorem seqM_post {α : Type} {d : D} {v : V} {f : List D → M α} {K : α → List Addr → DH → Hp → Prop} (h : HRep c μ G H) (r : RepV c μ H d v) (p : Post c Z μ H ((seqM d >>= f) G) K) :
    ∃ l a vs, v = .ref a ∧ RepL c μ H l vs ∧ Post c Z μ H (f l G) K ∧ ((d = .tup l ∧ SqT c.K H a vs) ∨ (∃ i, d = .ref i ∧ μ[i]? = some a ∧ ((G[i]? = some (.lst l) ∧ H a = some (.lst vs)) ∨ (G[i]? = some (.rol l) ∧ RoL c.K H a vs)))) := by
  cases d with
  | tup l =>
    unfold RepV at r
    obtain ⟨a, vs, e, q, rl⟩ := r
    exact ⟨l, a, vs, e, rl, p, .inl ⟨rfl, q⟩⟩
  | ref i =>
    unfold RepV at r
    obtain ⟨a, m, e⟩ := r
    have p' : Post c Z μ H ((objM i >>= fun o => listOf o >>= f) G) K := by rw [← M.bind_assoc]; exact p
    obtain ⟨o, g, p2⟩ := objM_post p'
    have ro := h.obj i o a g m
    cases o with
    | lst l => obtain ⟨vs, q, rl⟩ := ro; exact ⟨l, a, vs, e, rl, p2, .inr ⟨i, rfl, m, .inl ⟨g, q⟩⟩⟩
    | rol l => obtain ⟨vs, q, rl⟩ := ro; exact ⟨l, a, vs, e, rl, p2, .inr ⟨i, rfl, m, .inr ⟨g, q⟩⟩⟩
    | dct l => exact p2.elim
    | rod l => exact p2.elim
  | _ => exact p.elim
theorem repI {i : Int} {v : V} (r : RepV c μ H (.int i) v) : v = .int i := by unfold RepV at r; exact r
theorem repS {i : Str} {v : V} (r : RepV c μ H (.str i) v) : v = .str i := by unfold RepV at r; exact r
theorem repB {i : Bool} {v : V} (r : RepV c μ H (.bl i) v) : v = .bl i := by unfold RepV at r; exact r
theorem repN {v : V} (r : RepV c μ H .non v) : v = .non := by unfold RepV at r; exact r
theorem ofI {i : Int} : RepV c μ H (.int i) (.int i) := by unfold RepV; rfl
theorem ofS {i : Str} : RepV c μ H (.str i) (.str i) := by unfold RepV; rfl
theorem ofB {i : Bool} : RepV c μ H (.bl i) (.bl i) := by unfold RepV; rfl
theorem ofN : RepV c μ H .non .non := by unfold RepV; rfl
noncomputable def int2 (g : Int → Int → M D) : D → D → M D := fun x y => match x, y with
  | .int i, .int j => g i j
  | _, _ => M.stuck
theorem opd_int {f : Value → Value → Sem Value} {C : Int → Int → Prop} [∀ i j, Decidable (C i j)] {g : Int → Int → Int} (h : OpR X f (rI C fun i j => .int (g i j))) : OpD X Z f (int2 fun i j => if C i j then pure (.int (g i j)) else M.stuck) :=
  OpD.of h fun x y H Q ⟨dx, dy, μ, G, rx, ry, hr, p⟩ => by
    cases dx <;> cases dy <;> first
      | exact p.elim
      | skip
    rename_i i j
    unfold int2 at p
    dsimp only at p
    split at p
    · rename_i hc
      exact ⟨i, j, repI rx, repI ry, hc, Post.ok p hr _ ofI⟩
    · exact p.elim
theorem opd_int0 {f : Value → Value → Sem Value} {g : Int → Int → Int} (h : OpR X f (rI0 fun i j => .int (g i j))) : OpD X Z f (int2 fun i j => pure (.int (g i j))) :=
  OpD.of h fun x y H Q ⟨dx, dy, μ, G, rx, ry, hr, p⟩ => by
    cases dx <;> cases dy <;> first
      | exact p.elim
      | exact ⟨_, _, repI rx, repI ry, Post.ok p hr _ ofI⟩
noncomputable def subD : D → D → M D := int2 fun i j => pure (.int (i - j))
theorem od_sub : OpD X Z (binaryOp .Sub) subD := opd_int0 op_sub
noncomputable instance (i j : Int) : Decidable (CMul i j) := by unfold CMul; infer_instance
noncomputable def CDivB (_ j : Int) : Prop := 0 < j ∧ j < 2 ^ 100
noncomputable instance (i j : Int) : Decidable (CDivB i j) := by unfold CDivB; infer_instance
theorem op_fdivB : OpR X (binaryOp .FloorDiv) (rI CDivB fun i j => .int (i / j)) := opI fun i j _ _ _ _ _ hc q => by
  have h1 : (0 : Int) < j := hc.1
  have h2 : j < 2 ^ 100 := hc.2
  refine floordiv_int (by omega) (by rw [Int.fdiv_eq_ediv_of_nonneg i (by omega)]; exact q) (.inl (PyProof.noPylong_of_log2 ?_))
  have h3 : j.natAbs < 2 ^ 100 := by omega
  have h4 : j.natAbs ≠ 0 := by omega
  have := (Nat.log2_lt h4).mpr h3
  omega
noncomputable def fdivD : D → D → M D := int2 fun i j => if CDivB i j then pure (.int (i / j)) else M.stuck
theorem od_fdiv : OpD X Z (binaryOp .FloorDiv) fdivD := opd_int op_fdivB
noncomputable def modD : D → D → M D := int2 fun i j => if 0 < j then pure (.int (i % j)) else M.stuck
theorem od_mod : OpD X Z (binaryOp .Mod) modD := opd_int (C := fun _ j => 0 < j) op_mod
noncomputable instance (i j : Int) : Decidable (CPow i j) := by unfold CPow; infer_instance
noncomputable def powD : D → D → M D := int2 fun i j => if CPow i j then pure (.int (i ^ j.toNat)) else M.stuck
theorem od_pow : OpD X Z (binaryOp .Pow) powD := opd_int op_pow
theorem cat_tup0 {prog : Program} {w : World} {A : Around} {E : Value → Shared → Prop} {s : Shared} {t b : Addr} {ws : List Value} {Q : Value → Shared → Prop} (ht : IsTup s.heap t #[]) (hb : IsTup s.heap b ws.toArray)
    (h1 : Q (.ref b) s) : wpAny (model prog w) A (binaryOp .Add (.ref t) (.ref b)) Q E s := by
  obtain ⟨⟨cls, dd, data, sl⟩, ho, hc, n, hd⟩ := id ht
  obtain ⟨⟨cls2, dd2, data2, sl2⟩, ho2, hc2, n2, hd2⟩ := id hb
  simp only at hc hd hc2 hd2
  subst hc hd hc2 hd2
  exact concat_meets ⟨_, ho, rfl⟩ ⟨_, ho2, rfl⟩ noFill_tuple_add seq_tuple_add PySem.F.slot_tuple_add PySem.F.entry_tuple_add (PySem.F.args_tuple_add_2 _ _)
      (tuple_addW0 t b #[] ws.toArray n n2 dd dd2 sl sl2 (by simp)) ⟨ho, ho2, h1⟩
noncomputable def rCatT0 (K : PySem.W.Frag) : R2 := fun x y H Q => ∃ a b ys, x = .ref a ∧ y = .ref b ∧ SqT K H a [] ∧ SqT K H b ys ∧ Q (.ref b) H
theorem op_catT0 : OpR X (binaryOp .Add) (rCatT0 X.K) := by
  intro pins s σ H x y v u Q I rx ry h
  obtain ⟨a, b, ys, rfl, rfl, ha, hb, q⟩ := h
  cases rx
  cases ry
  obtain ⟨its, r, p, _⟩ := I.tuple ha
  obtain ⟨its2, r2, p2, _⟩ := I.tuple hb
  cases r
  exact cat_tup0 p p2 ⟨.ref b, H, I, rfl, q⟩
noncomputable def addD : D → D → M D := fun x y => match x, y with
  | .int i, .int j => pure (.int (i + j))
  | .str a, .str b => if a.length + b.length ≤ sizeLine then pure (.str (a ++ b)) else M.stuck
  | .tup a, .tup b => if a.length + b.length ≤ sizeLine then pure (.tup (a ++ b)) else M.stuck
  | .ref i, .ref j => do
    match ← objM i, ← objM j with
    | .lst a, .lst b => if a.length + b.length ≤ sizeLine then allocM (.lst (a ++ b)) else M.stuck
    | _, _ => M.stuck
  | _, _ => M.stuck
theorem post_tup2 {xs : List D} {vs : List V} {Q : VK} (h : HRep c μ G H) {a : Addr} (q : SqT c.K H a vs) (r : RepL c μ H xs vs)
    (p : Post c Z μ H (some (Except.ok (.tup xs), G)) fun d μ' _ H' => ∀ v, RepV c μ' H' d v → Q v H') : Q (.ref a) H := Post.ok p h _ (by unfold RepV; exact ⟨a, vs, rfl, q, r⟩)
theorem od_add : OpD X Z (binaryOp .Add) addD :=
  OpD.of (OpR.or op_add (OpR.or op_add_str (OpR.or op_catT (OpR.or op_catT0 op_cat)))) fun x y H Q ⟨dx, dy, μ, G, rx, ry, hr, p⟩ => by
    cases dx <;> cases dy <;> first
      | exact p.elim
      | skip
    · exact .inl ⟨_, _, repI rx, repI ry, Post.ok p hr _ ofI⟩
    · rename_i a b
      refine .inr (.inl ?_)
      unfold addD at p
      dsimp only at p
      split at p
      · rename_i hz
        exact ⟨a, b, repS rx, repS ry, hz, Post.ok p hr _ ofS⟩
      · exact p.elim
    · rename_i a b
      unfold RepV at rx ry
      obtain ⟨ax, vx, rfl, qx, lx⟩ := rx
      obtain ⟨ay, vy, rfl, qy, ly⟩ := ry
      unfold addD at p
      dsimp only at p
      split at p
      · rename_i hz
        by_cases hv : vx = []
        · subst hv
          cases a with
          | nil => exact .inr (.inr (.inr (.inl ⟨ax, ay, vy, rfl, rfl, qx, qy, post_tup2 hr qy ly p⟩)))
          | cons _ _ => obtain ⟨_, _, z, _⟩ := lx; cases z
        · refine .inr (.inr (.inl ⟨ax, ay, vx, vy, rfl, rfl, qx, qy, hv, by rw [← lx.length, ← ly.length]; exact hz, ?_⟩))
          refine ⟨fun hy => ?_, fun hy q hq => post_tup hr (lx.append ly) p q hq⟩
          subst hy
          refine post_tup2 hr qx ?_ p
          cases b with
          | nil => rw [List.append_nil]; exact lx
          | cons _ _ => obtain ⟨_, _, z, _⟩ := ly; cases z
      · exact p.elim
    · rename_i i j
      unfold RepV at rx ry
      obtain ⟨ax, mx, rfl⟩ := rx
      obtain ⟨ay, my, rfl⟩ := ry
      obtain ⟨ox, gx, p⟩ := objM_post p
      obtain ⟨oy, gy, p⟩ := objM_post p
      have hx := hr.obj i ox ax gx mx
      have hy := hr.obj j oy ay gy my
      cases ox <;> cases oy <;> first
        | exact p.elim
        | skip
      obtain ⟨vx, ex, lx⟩ := hx
      obtain ⟨vy, ey, ly⟩ := hy
      dsimp only at p
      split at p
      · rename_i hz
        exact .inr (.inr (.inr (.inr ⟨ax, ay, vx, vy, rfl, rfl, ex, ey, by rw [← lx.length, ← ly.length]; exact hz, fun q hq => post_lst hr (lx.append ly) p q hq⟩)))
      · exact p.elim
end
end DL
set_option Elab.async false
set_option linter.all false
set_option maxRecDepth 100000
namespace DL
open PySem PySem.Spec L2
open PyProof.Rows hiding St
noncomputable def seqK (G : DH) : D → Option (Bool × List D)
  | .tup l => some (true, l)
  | .ref i => match G[i]? with
    | some (.lst l) => some (false, l)
    | some (.rol l) => some (false, l)
    | _ => none
  | _ => none
noncomputable def scalD : D → Bool
  | .non => true
  | .bl _ => true
  | .int _ => true
  | .str _ => true
  | _ => false
noncomputable def eqS : D → D → Option Bool
  | .non, .non => some true
  | .bl a, .bl b => some (a == b)
  | .int a, .int b => some (a == b)
  | .str a, .str b => some (a == b)
  | .bl a, .int b => some ((if a then (1 : Int) else 0) == b)
  | .int a, .bl b => some (a == (if b then (1 : Int) else 0))
  | x, y => if scalD x && scalD y then some false else none
noncomputable def eqL (f : D → D → Option Bool) : List D → List D → Option Bool
  | [], [] => some true
  | [], _ :: _ => some false
  | _ :: _, [] => some false
  | x :: xs, y :: ys => match f x y, eqL f xs ys with
    | some e, some r => some (e && r)
    | _, _ => none
noncomputable def eqN : Nat → DH → D → D → Option Bool
  | 0, _, _, _ => none
  | n + 1, G, x, y => match seqK G x, seqK G y with
    | some (k1, a), some (k2, b) => if k1 = k2 then (if k1 = false ∧ a.length ≠ b.length then some false else eqL (eqN n G) a b) else some false
    | some _, none => if scalD y then some false else none
    | none, some _ => if scalD x then some false else none
    | none, none => eqS x y
theorem eqL_range {f : D → D → Option Bool} {e : Nat → Bool} : ∀ (a b : List D) (r : Bool), eqL f a b = some r → (∀ (j : Nat) x y, a[j]? = some x → b[j]? = some y → f x y = some (e j)) → r = ((List.range (min a.length b.length)).all e && a.length == b.length)
  | [], [], r, h, _ => by cases h; rfl
  | [], _ :: _, r, h, _ => by cases h; simp
  | _ :: _, [], r, h, _ => by cases h; simp
  | x :: xs, y :: ys, r, h, he => by
    unfold eqL at h
    have h0 := he 0 x y rfl rfl
    rw [h0] at h
    cases hr : eqL f xs ys with
    | none => rw [hr] at h; cases h
    | some r' =>
      rw [hr] at h
      have ih := eqL_range (e := fun j => e (j + 1)) xs ys r' hr fun j x' y' h1 h2 => he (j + 1) x' y' (by simpa using h1) (by simpa using h2)
      cases h
      rw [ih]
      have : min (x :: xs).length (y :: ys).length = min xs.length ys.length + 1 := by simp only [List.length_cons]; omega
      rw [this, List.range_succ_eq_map, List.all_cons, List.all_map]
      simp [Bool.and_assoc, Function.comp_def]
theorem eqL_some {f : D → D → Option Bool} : ∀ (a b : List D) (r : Bool), eqL f a b = some r → ∀ (j : Nat) x y, a[j]? = some x → b[j]? = some y → ∃ e, f x y = some e
  | [], _, _, _, _, _, _, h, _ => by simp at h
  | _ :: _, [], _, _, _, _, _, _, h => by simp at h
  | x :: xs, y :: ys, r, h, j, x', y', h1, h2 => by
    unfold eqL at h
    cases hf : f x y with
    | none => rw [hf] at h; cases h
    | some e =>
      cases hr : eqL f xs ys with
      | none => rw [hf, hr] at h; cases h
      | some r' =>
        cases j with
        | zero => simp at h1 h2; subst h1 h2; exact ⟨e, hf⟩
        | succ j => exact eqL_some xs ys r' hr j x' y' (by simpa using h1) (by simpa using h2)
section
variable {X : Cx} {pins : List (Addr × Obj)} {σ : St} {H : Hp} {s : Shared} {μ : List Addr} {G : DH}
noncomputable def SeqIs (s : Shared) (k : Bool) (a : Addr) (its : List Value) : Prop := if k then s.heap.IsTuple a its.toArray else s.heap.IsList a its.toArray
theorem seqK_at (I : Inv X pins σ H s) (h : HRep (wc X) μ G H) {d : D} {x : V} {v : Value} {k : Bool} {l : List D} (e : seqK G d = some (k, l)) (r : RepV (wc X) μ H d x) (rv : RelV x v) :
    ∃ a vs its, x = .ref a ∧ v = .ref a ∧ RepL (wc X) μ H l vs ∧ Vals vs its ∧ SeqIs s k a its ∧ (if k then SqT X.K H a vs else SqL X.K H a vs) := by
  cases d with
  | tup l' =>
    unfold seqK at e
    cases e
    unfold RepV at r
    obtain ⟨a, vs, rfl, q, rl⟩ := r
    obtain ⟨its, rr, p, _⟩ := I.tuple q
    exact ⟨a, vs, its, rfl, rv, rl, rr, p, q⟩
  | ref i =>
    have e' : (match G[i]? with | some (.lst l) => some (false, l) | some (.rol l) => some (false, l) | _ => none) = some (k, l) := e
    unfold RepV at r
    obtain ⟨a, m, rfl⟩ := r
    have key : ∀ vs, SqL X.K H a vs → RepL (wc X) μ H l vs → k = false → ∃ a' vs its, V.ref a = .ref a' ∧ v = .ref a' ∧ RepL (wc X) μ H l vs ∧ Vals vs its ∧ SeqIs s k a' its ∧ (if k then SqT X.K H a' vs else SqL X.K H a' vs) := fun vs q rl hk => by
      subst hk
      obtain ⟨its, rr, p, _⟩ := I.list q
      exact ⟨a, vs, its, rfl, rv, rl, rr, p.isList, q⟩
    split at e'
    · rename_i l' g
      cases e'
      obtain ⟨vs, q, rl⟩ := h.obj i _ a g m
      exact key vs (SqL.of q) rl rfl
    · rename_i l' g
      cases e'
      obtain ⟨vs, q, rl⟩ := h.obj i _ a g m
      exact key vs q.sq rl rfl
    · cases e'
  | _ => cases e
theorem scal_noref {d : D} {a : Addr} {c : Wc} (hs : scalD d = true) (r : RepV c μ H d (.ref a)) : False := by
  cases d <;> first
    | exact absurd (show false = true from hs) Bool.false_ne_true
    | (unfold RepV at r; cases r)
theorem eqS_scal {x y : D} {b : Bool} (h : eqS x y = some b) : scalD x = true ∧ scalD y = true := by
  cases x <;> cases y <;> first
    | exact ⟨rfl, rfl⟩
    | (exfalso; simp [eqS, scalD] at h)
theorem eqS_same {x y : D} {b : Bool} {v : V} {c : Wc} (h : eqS x y = some b) (rx : RepV c μ H x v) (ry : RepV c μ H y v) : b = true := by
  obtain ⟨s1, s2⟩ := eqS_scal h
  cases x <;> cases y <;> first
    | (cases s1; done)
    | (cases s2; done)
    | (unfold RepV at rx ry; rw [rx] at ry; cases ry; done)
    | (unfold RepV at rx ry; rw [rx] at ry; cases ry; cases h; first | rfl | simp)
theorem seqIs_kind (I : Inv X pins σ H s) {k k' : Bool} {a : Addr} {its its' : List Value} (h1 : SeqIs s k a its) (h2 : SeqIs s k' a its') : k = k' := by
  cases k <;> cases k' <;> first
    | rfl
    | exact absurd rfl (SeqAt.ne_of_list_tuple h1 h2)
    | exact absurd rfl (SeqAt.ne_of_list_tuple h2 h1)
theorem eqL_same {c : Wc} {f : D → D → Option Bool} : ∀ (l l' : List D) (vs : List V) (b : Bool), RepL c μ H l vs → RepL c μ H l' vs → (∀ d d' v b, v ∈ vs → RepV c μ H d v → RepV c μ H d' v → f d d' = some b → b = true) → eqL f l l' = some b → b = true
  | [], [], _, b, _, _, _, e => by cases e; rfl
  | [], _ :: _, vs, b, r1, r2, _, _ => by cases r1; obtain ⟨_, _, z, _⟩ := r2; cases z
  | _ :: _, [], vs, b, r1, r2, _, _ => by cases r2; obtain ⟨_, _, z, _⟩ := r1; cases z
  | d :: ds, d' :: ds', vs, b, r1, r2, k, e => by
    obtain ⟨v0, vr, rfl, q0, t0⟩ := r1
    obtain ⟨v1, vr', e1, q1, t1⟩ := r2
    cases e1
    unfold eqL at e
    cases hf : f d d' with
    | none => rw [hf] at e; cases e
    | some e0 =>
      cases hr : eqL f ds ds' with
      | none => rw [hf, hr] at e; cases e
      | some r' =>
        rw [hf, hr] at e
        cases e
        have z1 := k d d' v0 e0 List.mem_cons_self q0 q1 hf
        have z2 := eqL_same ds ds' vr r' t0 t1 (fun a a' v b hm => k a a' v b (List.mem_cons_of_mem _ hm)) hr
        rw [z1, z2]; rfl
theorem rep_same (I : Inv X pins σ H s) (h : HRep (wc X) μ G H) : ∀ (n : Nat) {dx dy : D} {x : V} {v : Value} {b : Bool}, RepV (wc X) μ H dx x → RepV (wc X) μ H dy x → RelV x v → eqN n G dx dy = some b → b = true
  | 0, _, _, _, _, _, _, _, _, e => by cases e
  | n + 1, dx, dy, x, v, b, rx, ry, rv, e => by
    unfold eqN at e
    cases hx : seqK G dx with
    | none =>
      rw [hx] at e
      cases hy : seqK G dy with
      | none => rw [hy] at e; exact eqS_same e rx ry
      | some p =>
        obtain ⟨k, l⟩ := p
        rw [hy] at e
        dsimp only at e
        split at e
        · rename_i hs
          obtain ⟨a, _, _, rfl, _⟩ := seqK_at I h hy ry rv
          exact (scal_noref hs rx).elim
        · cases e
    | some p =>
      obtain ⟨k, l⟩ := p
      rw [hx] at e
      cases hy : seqK G dy with
      | none =>
        rw [hy] at e
        dsimp only at e
        split at e
        · rename_i hs
          obtain ⟨a, _, _, rfl, _⟩ := seqK_at I h hx rx rv
          exact (scal_noref hs ry).elim
        · cases e
      | some p' =>
        obtain ⟨k', l'⟩ := p'
        rw [hy] at e
        dsimp only at e
        obtain ⟨a, vs, its, rfl, rfl, rl, rr, sq, q⟩ := seqK_at I h hx rx rv
        obtain ⟨a', vs', its', ea, _, rl', rr', sq', q'⟩ := seqK_at I h hy ry rv
        cases ea
        have hk : k = k' := seqIs_kind I sq sq'
        subst hk
        have hvs : vs = vs' := by
          cases k with
          | true => exact I.tuple_inj q q'
          | false => exact I.list_inj q q'
        subst hvs
        rw [if_pos rfl, if_neg (by rw [rl.length, rl'.length]; simp)] at e
        have hv : ∀ v ∈ vs, ∃ u, RelV v u := fun v hv => by
          obtain ⟨i, hi⟩ := List.getElem?_of_mem hv
          obtain ⟨u, _, ru⟩ := rr.get hi
          exact ⟨u, ru⟩
        exact eqL_same l l' vs b rl rl' (fun d d' v b hm r1 r2 ef => by
          obtain ⟨u, ru⟩ := hv v hm
          exact rep_same I h n r1 r2 ru ef) e
theorem eqS_at {A : Around} {dx dy : D} {x y : V} {v u : Value} {b : Bool} {c : Wc} (rx : RepV c μ H dx x) (ry : RepV c μ H dy y) (rv : RelV x v) (ru : RelV y u) (e : eqS dx dy = some b) :
    SeqAt.RcAt A s v u b ∧ SeqAt.RcNeAt A s v u (!b) ∧ SeqAt.EqAt A s v u b := by
  obtain ⟨s1, s2⟩ := eqS_scal e
  cases dx with
  | non =>
    unfold RepV at rx; subst rx; cases rv
    cases dy with
    | non => unfold RepV at ry; subst ry; cases ru; cases e; exact ⟨SeqAt.RcAt.none_none, SeqAt.RcNeAt.none_none, SeqAt.EqAt.same _⟩
    | bl j => unfold RepV at ry; subst ry; cases ru; cases e; exact ⟨SeqAt.RcAt.none_bool _, SeqAt.RcNeAt.none_bool _, SeqAt.EqAt.none_bool _⟩
    | int j => unfold RepV at ry; subst ry; obtain ⟨t, rfl⟩ := ru; cases e; exact ⟨SeqAt.RcAt.none_int _ _, SeqAt.RcNeAt.none_int _ _, SeqAt.EqAt.none_int _ _⟩
    | str j => unfold RepV at ry; subst ry; obtain ⟨t, rfl⟩ := ru; cases e; exact ⟨SeqAt.RcAt.none_str _ _, SeqAt.RcNeAt.none_str _ _, SeqAt.EqAt.none_str _ _⟩
    | _ => cases s2
  | bl i =>
    unfold RepV at rx; subst rx; cases rv
    cases dy with
    | non => unfold RepV at ry; subst ry; cases ru; cases e; exact ⟨SeqAt.RcAt.bool_none _, SeqAt.RcNeAt.bool_none _, SeqAt.EqAt.bool_none _⟩
    | bl j => unfold RepV at ry; subst ry; cases ru; cases e; exact ⟨SeqAt.RcAt.bool_bool _ _, SeqAt.RcNeAt.bool_bool _ _, SeqAt.EqAt.bool_bool _ _⟩
    | int j => unfold RepV at ry; subst ry; obtain ⟨t, rfl⟩ := ru; cases e; exact ⟨SeqAt.RcAt.bool_int _ _ _, SeqAt.RcNeAt.bool_int _ _ _, SeqAt.EqAt.bool_int _ _ _⟩
    | str j => unfold RepV at ry; subst ry; obtain ⟨t, rfl⟩ := ru; cases e; exact ⟨SeqAt.RcAt.bool_str _ _ _, SeqAt.RcNeAt.bool_str _ _ _, SeqAt.EqAt.bool_str _ _ _⟩
    | _ => cases s2
  | int i =>
    unfold RepV at rx; subst rx; obtain ⟨t, rfl⟩ := rv
    cases dy with
    | non => unfold RepV at ry; subst ry; cases ru; cases e; exact ⟨SeqAt.RcAt.int_none _ _, SeqAt.RcNeAt.int_none _ _, SeqAt.EqAt.int_none _ _⟩
    | bl j => unfold RepV at ry; subst ry; cases ru; cases e; exact ⟨SeqAt.RcAt.int_bool _ _ _, SeqAt.RcNeAt.int_bool _ _ _, SeqAt.EqAt.int_bool _ _ _⟩
    | int j => unfold RepV at ry; subst ry; obtain ⟨t, rfl⟩ := ru; cases e; exact ⟨SeqAt.RcAt.int_int _ _ _ _, SeqAt.RcNeAt.int_int _ _ _ _, SeqAt.EqAt.int_int _ _ _ _⟩
    | str j => unfold RepV at ry; subst ry; obtain ⟨t, rfl⟩ := ru; cases e; exact ⟨SeqAt.RcAt.int_str _ _ _ _, SeqAt.RcNeAt.int_str _ _ _ _, SeqAt.EqAt.int_str _ _ _ _⟩
    | _ => cases s2
  | str i =>
    unfold RepV at rx; subst rx; obtain ⟨t, rfl⟩ := rv
    cases dy with
    | non => unfold RepV at ry; subst ry; cases ru; cases e; exact ⟨SeqAt.RcAt.str_none _ _, SeqAt.RcNeAt.str_none _ _, SeqAt.EqAt.str_none _ _⟩
    | bl j => unfold RepV at ry; subst ry; cases ru; cases e; exact ⟨SeqAt.RcAt.str_bool _ _ _, SeqAt.RcNeAt.str_bool _ _ _, SeqAt.EqAt.str_bool _ _ _⟩
    | int j => unfold RepV at ry; subst ry; obtain ⟨t, rfl⟩ := ru; cases e; exact ⟨SeqAt.RcAt.str_int _ _ _ _, SeqAt.RcNeAt.str_int _ _ _ _, SeqAt.EqAt.str_int _ _ _ _⟩
    | str j => unfold RepV at ry; subst ry; obtain ⟨t, rfl⟩ := ru; cases e; exact ⟨SeqAt.RcAt.str_str _ _ _ _, SeqAt.RcNeAt.str_str _ _ _ _, SeqAt.EqAt.str_str _ _ _ _⟩
    | _ => cases s2
  | _ => cases s1
theorem eq_seq_scal {A : Around} (hu : A.units < cLine) {k : Bool} {a : Addr} {its : List Value} (sq : SeqIs s k a its) {dy : D} {y : V} {u : Value} {c : Wc} (ry : RepV c μ H dy y) (ru : RelV y u) (hs : scalD dy = true) :
    (SeqAt.RcAt A s (.ref a) u false ∧ SeqAt.RcNeAt A s (.ref a) u true ∧ SeqAt.EqAt A s (.ref a) u false) ∧ (SeqAt.RcAt A s u (.ref a) false ∧ SeqAt.RcNeAt A s u (.ref a) true ∧ SeqAt.EqAt A s u (.ref a) false) := by
  cases k with
  | true =>
    cases dy with
    | non => unfold RepV at ry; subst ry; cases ru; exact ⟨⟨.tuple_none sq hu, .tuple_none sq hu, .tuple_none sq hu⟩, .none_tuple sq hu, .none_tuple sq hu, .none_tuple sq hu⟩
    | bl j => unfold RepV at ry; subst ry; cases ru; exact ⟨⟨.tuple_bool _ sq hu, .tuple_bool _ sq hu, .tuple_bool _ sq hu⟩, .bool_tuple _ sq hu, .bool_tuple _ sq hu, .bool_tuple _ sq hu⟩
    | int j => unfold RepV at ry; subst ry; obtain ⟨t, rfl⟩ := ru; exact ⟨⟨.tuple_int _ _ sq hu, .tuple_int _ _ sq hu, .tuple_int _ _ sq hu⟩, .int_tuple _ _ sq hu, .int_tuple _ _ sq hu, .int_tuple _ _ sq hu⟩
    | str j => unfold RepV at ry; subst ry; obtain ⟨t, rfl⟩ := ru; exact ⟨⟨.tuple_str _ _ sq hu, .tuple_str _ _ sq hu, .tuple_str _ _ sq hu⟩, .str_tuple _ _ sq hu, .str_tuple _ _ sq hu, .str_tuple _ _ sq hu⟩
    | _ => cases hs
  | false =>
    cases dy with
    | non => unfold RepV at ry; subst ry; cases ru; exact ⟨⟨.list_none sq hu, .list_none sq hu, .list_none sq hu⟩, .none_list sq hu, .none_list sq hu, .none_list sq hu⟩
    | bl j => unfold RepV at ry; subst ry; cases ru; exact ⟨⟨.list_bool _ sq hu, .list_bool _ sq hu, .list_bool _ sq hu⟩, .bool_list _ sq hu, .bool_list _ sq hu, .bool_list _ sq hu⟩
    | int j => unfold RepV at ry; subst ry; obtain ⟨t, rfl⟩ := ru; exact ⟨⟨.list_int _ _ sq hu, .list_int _ _ sq hu, .list_int _ _ sq hu⟩, .int_list _ _ sq hu, .int_list _ _ sq hu, .int_list _ _ sq hu⟩
    | str j => unfold RepV at ry; subst ry; obtain ⟨t, rfl⟩ := ru; exact ⟨⟨.list_str _ _ sq hu, .list_str _ _ sq hu, .list_str _ _ sq hu⟩, .str_list _ _ sq hu, .str_list _ _ sq hu, .str_list _ _ sq hu⟩
    | _ => cases hs
theorem eq_at (I : Inv X pins σ H s) (h : HRep (wc X) μ G H) : ∀ (n : Nat) (A : Around), A.units + n < cLine → ∀ {dx dy : D} {x y : V} {v u : Value} {b : Bool}, RepV (wc X) μ H dx x → RepV (wc X) μ H dy y → RelV x v → RelV y u → eqN n G dx dy = some b →
    SeqAt.RcAt A s v u b ∧ SeqAt.RcNeAt A s v u (!b) ∧ SeqAt.EqAt A s v u b
  | 0, _, _, _, _, _, _, _, _, _, _, _, _, _, e => by cases e
  | n + 1, A, hu, dx, dy, x, y, v, u, b, rx, ry, rv, ru, e => by
    have hu0 : A.units < cLine := by omega
    have hu1 : A.in1.units + n < cLine := by show A.units + 1 + n < cLine; omega
    have e0 := e
    unfold eqN at e
    cases hx : seqK G dx with
    | none =>
      rw [hx] at e
      cases hy : seqK G dy with
      | none => rw [hy] at e; exact eqS_at rx ry rv ru e
      | some p =>
        obtain ⟨k, l⟩ := p
        rw [hy] at e
        dsimp only at e
        split at e
        · rename_i hs
          cases e
          obtain ⟨a, vs, its, rfl, rfl, _, _, sq, _⟩ := seqK_at I h hy ry ru
          exact (eq_seq_scal hu0 sq rx rv hs).2
        · cases e
    | some p =>
      obtain ⟨k, l⟩ := p
      rw [hx] at e
      obtain ⟨a, vs, its, rfl, rfl, rl, rr, sq, q⟩ := seqK_at I h hx rx rv
      cases hy : seqK G dy with
      | none =>
        rw [hy] at e
        dsimp only at e
        split at e
        · rename_i hs
          cases e
          exact (eq_seq_scal hu0 sq ry ru hs).1
        · cases e
      | some p' =>
        obtain ⟨k', l'⟩ := p'
        rw [hy] at e
        dsimp only at e
        obtain ⟨a', vs', its', rfl, rfl, rl', rr', sq', q'⟩ := seqK_at I h hy ry ru
        -- the two at one place
        have main : SeqAt.RcAt A s (.ref a) (.ref a') b ∧ SeqAt.RcNeAt A s (.ref a) (.ref a') (!b) := by
          have len1 : its.toArray.size = l.length := by rw [List.size_toArray, ← rr.length, rl.length]
          have len2 : its'.toArray.size = l'.length := by rw [List.size_toArray, ← rr'.length, rl'.length]
          by_cases hk : k = k'
          · subst hk
            rw [if_pos rfl] at e
            by_cases hlen : k = false ∧ l.length ≠ l'.length
            · rw [if_pos hlen] at e
              cases e
              obtain ⟨rfl, hne⟩ := hlen
              have hz : (its.toArray.size != its'.toArray.size) = true := by rw [len1, len2]; simpa using hne
              exact ⟨SeqAt.RcAt.lists_lengths sq sq' hz hu0, SeqAt.RcNeAt.lists_lengths sq sq' hz hu0⟩
            · rw [if_neg hlen] at e
              have items : ∀ j (h1 : j < its.toArray.size) (h2 : j < its'.toArray.size), ∃ e, eqN n G (l.getD j .non) (l'.getD j .non) = some e ∧ SeqAt.EqAt A.in1 s its.toArray[j] its'.toArray[j] e := fun j h1 h2 => by
                have j1 : j < l.length := by rw [← len1]; exact h1
                have j2 : j < l'.length := by rw [← len2]; exact h2
                have g1 : l[j]? = some l[j] := List.getElem?_eq_getElem j1
                have g2 : l'[j]? = some l'[j] := List.getElem?_eq_getElem j2
                obtain ⟨e1, he1⟩ := eqL_some l l' b e j _ _ g1 g2
                obtain ⟨v1, hv1, r1⟩ := rl.get g1
                obtain ⟨v2, hv2, r2⟩ := rl'.get g2
                obtain ⟨u1, hu1', ru1⟩ := rr.get hv1
                obtain ⟨u2, hu2', ru2⟩ := rr'.get hv2
                have w1 : its.toArray[j] = u1 := by
                  have : its.toArray[j]? = some u1 := by simpa using hu1'
                  rw [Array.getElem?_eq_getElem h1] at this
                  exact Option.some.inj this
                have w2 : its'.toArray[j] = u2 := by
                  have : its'.toArray[j]? = some u2 := by simpa using hu2'
                  rw [Array.getElem?_eq_getElem h2] at this
                  exact Option.some.inj this
                rw [w1, w2]
                refine ⟨e1, ?_, (eq_at I h n A.in1 hu1 r1 r2 ru1 ru2 he1).2.2⟩
                rw [List.getD_eq_getElem?_getD, List.getD_eq_getElem?_getD, g1, g2]
                exact he1
              have hr := eqL_range (e := fun j => (eqN n G (l.getD j .non) (l'.getD j .non)).getD false) l l' b e fun j x y g1 g2 => by
                obtain ⟨e1, he1⟩ := eqL_some l l' b e j x y g1 g2
                rw [List.getD_eq_getElem?_getD, List.getD_eq_getElem?_getD, g1, g2]
                simp only [Option.getD_some]
                rw [he1]; rfl
              have he : ∀ j (h1 : j < its.toArray.size) (h2 : j < its'.toArray.size), SeqAt.EqAt A.in1 s its.toArray[j] its'.toArray[j] ((eqN n G (l.getD j .non) (l'.getD j .non)).getD false) := fun j h1 h2 => by
                obtain ⟨e1, he1, hh⟩ := items j h1 h2
                rw [he1]; exact hh
              cases k with
              | true =>
                have z1 := SeqAt.RcAt.tuples (A := A) sq sq' hu0 he
                have z2 := SeqAt.RcNeAt.tuples (A := A) sq sq' hu0 he
                rw [len1, len2, ← hr] at z1 z2
                exact ⟨z1, z2⟩
              | false =>
                have hl : l.length = l'.length := Classical.byContradiction fun z => hlen ⟨rfl, z⟩
                have hsz : its.toArray.size = its'.toArray.size := by rw [len1, len2, hl]
                have z1 := SeqAt.RcAt.lists (A := A) sq sq' hsz hu0 he
                have z2 := SeqAt.RcNeAt.lists (A := A) sq sq' hsz hu0 he
                have hr2 : b = (List.range its.toArray.size).all fun j => (eqN n G (l.getD j .non) (l'.getD j .non)).getD false := by
                  rw [hr, len1, hl]; simp
                rw [← hr2] at z1 z2
                exact ⟨z1, z2⟩
          · rw [if_neg hk] at e
            cases e
            cases k <;> cases k' <;> first
              | exact absurd rfl hk
              | exact ⟨SeqAt.RcAt.list_tuple sq sq' hu0, SeqAt.RcNeAt.list_tuple sq sq' hu0⟩
              | exact ⟨SeqAt.RcAt.tuple_list sq sq' hu0, SeqAt.RcNeAt.tuple_list sq sq' hu0⟩
        refine ⟨main.1, main.2, ?_⟩
        by_cases ha : a = a'
        · subst ha
          have : b = true := rep_same I h (n + 1) rx ry rv e0
          rw [this]
          exact SeqAt.EqAt.same _
        · exact SeqAt.EqAt.of_refs ha main.1
end
end DL
set_option Elab.async false
set_option linter.all false
set_option maxRecDepth 100000
namespace DL
open PySem PySem.Spec L2
open PyProof.Rows hiding St
section
variable {X : Cx} {Z : XC}
noncomputable def eqD : D → D → M D := fun x y G => match eqN 40 G x y with
  | some b => some (.ok (.bl b), G)
  | none => none
noncomputable def neD : D → D → M D := fun x y G => match eqN 40 G x y with
  | some b => some (.ok (.bl (!b)), G)
  | none => none
theorem od_eq (hu : X.A.units + 64 < cLine) : OpD X Z (compareOp .Eq) eqD := ⟨by
  intro pins s σ H x y v u Q I rx ry ⟨dx, dy, μ, G, rdx, rdy, hr, p⟩
  unfold eqD at p
  cases e : eqN 40 G dx dy with
  | none => rw [e] at p; exact p.elim
  | some b =>
    rw [e] at p
    exact (eq_at I hr 40 X.A (by omega) rdx rdy rx ry e).1 X.prog X.w X.xe _ ⟨.bl b, H, I, rfl, Post.ok p hr _ ofB⟩⟩
theorem od_ne (hu : X.A.units + 64 < cLine) : OpD X Z (compareOp .NotEq) neD := ⟨by
  intro pins s σ H x y v u Q I rx ry ⟨dx, dy, μ, G, rdx, rdy, hr, p⟩
  unfold neD at p
  cases e : eqN 40 G dx dy with
  | none => rw [e] at p; exact p.elim
  | some b =>
    rw [e] at p
    exact (eq_at I hr 40 X.A (by omega) rdx rdy rx ry e).2.1 X.prog X.w X.xe _ ⟨.bl (!b), H, I, rfl, Post.ok p hr _ ofB⟩⟩
noncomputable def leD : D → D → M D := fun x y => match x, y with
  | .int i, .int j => pure (.bl (decide (i ≤ j)))
  | .str i, .str j => pure (.bl (!decide (j.cps.toList < i.cps.toList)))
  | _, _ => M.stuck
noncomputable def gtD : D → D → M D := fun x y => match x, y with
  | .int i, .int j => pure (.bl (decide (j < i)))
  | .str i, .str j => pure (.bl (decide (j.cps.toList < i.cps.toList)))
  | _, _ => M.stuck
noncomputable def geD : D → D → M D := fun x y => match x, y with
  | .int i, .int j => pure (.bl (decide (j ≤ i)))
  | .str i, .str j => pure (.bl (!decide (i.cps.toList < j.cps.toList)))
  | _, _ => M.stuck
theorem opd_cmp {op : CmpOp} {fi : Int → Int → Bool} {fs : Str → Str → Bool} {o : D → D → M D} (hi : OpR X (compareOp op) (rI0 fun i j => .bl (fi i j)))
    (hs : ∀ (i j : Str) (t u : Tok) (s : Shared) (Q : Value → Shared → Prop) (E : Value → Shared → Prop), Q (.bool (fs i j)) s → wpAny (model X.prog X.w) X.A (compareOp op (.str i t) (.str j u)) Q E s)
    (h1 : ∀ i j, o (.int i) (.int j) = pure (.bl (fi i j))) (h2 : ∀ i j, o (.str i) (.str j) = pure (.bl (fs i j)))
    (h3 : ∀ x y, (∀ i j, ¬ (x = .int i ∧ y = .int j)) → (∀ i j, ¬ (x = .str i ∧ y = .str j)) → o x y = M.stuck) : OpD X Z (compareOp op) o := ⟨by
  intro pins s σ H x y v u Q I rx ry ⟨dx, dy, μ, G, rdx, rdy, hr, p⟩
  by_cases c1 : ∃ i j, dx = .int i ∧ dy = .int j
  · obtain ⟨i, j, rfl, rfl⟩ := c1
    rw [h1] at p
    exact hi pins s σ H x y v u Q I rx ry ⟨i, j, repI rdx, repI rdy, Post.ok p hr _ ofB⟩
  · by_cases c2 : ∃ i j, dx = .str i ∧ dy = .str j
    · obtain ⟨i, j, rfl, rfl⟩ := c2
      rw [h2] at p
      have e1 := repS rdx
      have e2 := repS rdy
      subst e1 e2
      obtain ⟨t, rfl⟩ := rx
      obtain ⟨t', rfl⟩ := ry
      exact hs i j t t' s _ _ ⟨.bl (fs i j), H, I, rfl, Post.ok p hr _ ofB⟩
    · rw [h3 dx dy (fun i j z => c1 ⟨i, j, z⟩) (fun i j z => c2 ⟨i, j, z⟩)] at p
      exact p.elim⟩
theorem od_le : OpD X Z (compareOp .LtE) leD := opd_cmp op_le (fun _ _ _ _ _ _ _ q => PySem.P.le_str q) (fun _ _ => rfl) (fun _ _ => rfl) fun x y n1 n2 => by
  cases x <;> cases y <;> first
    | rfl
    | exact absurd ⟨rfl, rfl⟩ (n1 _ _)
    | exact absurd ⟨rfl, rfl⟩ (n2 _ _)
theorem od_gt : OpD X Z (compareOp .Gt) gtD := opd_cmp op_gt (fun _ _ _ _ _ _ _ q => PySem.P.gt_str q) (fun _ _ => rfl) (fun _ _ => rfl) fun x y n1 n2 => by
  cases x <;> cases y <;> first
    | rfl
    | exact absurd ⟨rfl, rfl⟩ (n1 _ _)
    | exact absurd ⟨rfl, rfl⟩ (n2 _ _)
theorem od_ge : OpD X Z (compareOp .GtE) geD := opd_cmp op_ge (fun _ _ _ _ _ _ _ q => PySem.P.ge_str q) (fun _ _ => rfl) (fun _ _ => rfl) fun x y n1 n2 => by
  cases x <;> cases y <;> first
    | rfl
    | exact absurd ⟨rfl, rfl⟩ (n1 _ _)
    | exact absurd ⟨rfl, rfl⟩ (n2 _ _)
noncomputable def isNonD : D → Bool
  | .non => true
  | _ => false
theorem rep_non {c : Wc} {μ : List Addr} {H : Hp} {d : D} {v : V} (r : RepV c μ H d v) : decide (v = .non) = isNonD d := by
  cases d with
  | non => rw [repN r]; rfl
  | tup l => unfold RepV at r; obtain ⟨a, _, rfl, _⟩ := r; rfl
  | ref l => unfold RepV at r; obtain ⟨a, _, rfl⟩ := r; rfl
  | fn l => unfold RepV at r; obtain ⟨a, _, rfl⟩ := r; rfl
  | _ => unfold RepV at r; subst r; rfl
noncomputable instance (x : Str) (n : Int) : Decidable (PySem.MulOk x n) := by unfold PySem.MulOk; infer_instance
noncomputable def mulD : D → D → M D := fun x y => match x, y with
  | .int i, .int j => if CMul i j then pure (.int (i * j)) else M.stuck
  | .str x, .int n => if PySem.MulOk x n then pure (.str (Txt.mul x n)) else M.stuck
  | _, _ => M.stuck
theorem op_mul_str : OpR X (binaryOp .Mult) (fun x y H Q => ∃ z n, x = .str z ∧ y = .int n ∧ PySem.MulOk z n ∧ Q (.str (Txt.mul z n)) H) := by
  intro pins s σ H x y v u Q I rx ry h
  obtain ⟨z, n, rfl, rfl, hk, q⟩ := h
  obtain ⟨t, rfl⟩ := rx
  obtain ⟨t', rfl⟩ := ry
  exact PySem.SB.mul hk fun t' k => ⟨.str _, H, I.tok _, ⟨_, rfl⟩, q⟩
theorem od_mul : OpD X Z (binaryOp .Mult) mulD :=
  OpD.of (OpR.or op_mul op_mul_str) fun x y H Q ⟨dx, dy, μ, G, rdx, rdy, hr, p⟩ => by
    cases dx <;> cases dy <;> first
      | exact p.elim
      | skip
    · unfold mulD at p
      dsimp only at p
      split at p
      · rename_i hc; exact .inl ⟨_, _, repI rdx, repI rdy, hc, Post.ok p hr _ ofI⟩
      · exact p.elim
    · unfold mulD at p
      dsimp only at p
      split at p
      · rename_i hc; exact .inr ⟨_, _, repS rdx, repI rdy, hc, Post.ok p hr _ ofS⟩
      · exact p.elim
end
end DL
set_option Elab.async false
set_option linter.all false
set_option maxRecDepth 100000
namespace DL
open PySem PySem.Spec L2
open PyProof.Rows hiding St
noncomputable def RcLtAt (A : Around) (s : Shared) (y x : Value) (b : Bool) : Prop :=
  ∀ (prog : Program) (w : World) (E : Value → Shared → Prop) (Q : Value → Shared → Prop), Q (.bool b) s → wpAny (model prog w) A (richCompare .Lt y x) Q E s
inductive LtR (A : Around) (s : Shared) : List Value → List Value → Bool → Prop
  | nil : LtR A s [] [] false
  | nilc {y ys} : LtR A s [] (y :: ys) true
  | cnil {x xs} : LtR A s (x :: xs) [] false
  | eq {x y xs ys b} : SeqAt.EqAt A s x y true → LtR A s xs ys b → LtR A s (x :: xs) (y :: ys) b
  | ne {x y xs ys b} : SeqAt.EqAt A s x y false → RcLtAt A s x y b → LtR A s (x :: xs) (y :: ys) b
section
open PySem.SeqAt
open PySem.AutoSeq1 (wpAny_loadPart')
open PySem.MeetsSeq PySem.MeetsSeq2 PySem.MeetsSeq3
theorem tuple_ltAt (l b : Addr) (items items2 : Array Value) (n n2 : Nat) (dd dd2 : Option Addr) (sl sl2 : Array (Option Value)) (k : Bool) :
    Meets (Builtin.«tuple.__lt__» ⟨[.ref l, .ref b], []⟩)
      (fun A R s => s.heap.get? l = some { cls := .type "tuple", dict := dd, data := .seq items n, slots := sl } ∧ s.heap.get? b = some { cls := .type "tuple", dict := dd2, data := .seq items2 n2, slots := sl2 } ∧
        LtR A.in1 s items.toList items2.toList k ∧ R (.ok (.ret (.bool k))) s) :=
  .of_wp fun prog w A R s h => by
    obtain ⟨hp, g, d, tk, os⟩ := s; obtain ⟨hl, hb, hk, h⟩ := h
    have f2 := AutoSeq1.sub_tuple_tuple
    wp_walk using wpAny_loadPart' hl, wpAny_loadPart' hb, wpAny_forIn_list _ (fun rest b s' => b.1 = none ∧ s' = ⟨hp, g, d, tk, os⟩ ∧ ∃ (vs ws : List Value), rest = vs.zip ws ∧
      vs.length + items2.size = ws.length + items.size ∧ LtR A.in1 ⟨hp, g, d, tk, os⟩ vs ws k) _
    case turn =>
      rintro ⟨y, x⟩ rest b s' ⟨hb', rfl, vs, ws, hz, hlen, hR⟩
      cases hR with
      | nil => cases hz
      | nilc => cases hz
      | cnil => cases hz
      | eq he hR' =>
        rw [List.zip_cons_cons] at hz
        injection hz with hyx hrest
        injection hyx with hy hx
        subst hy hx
        refine wpAny_bind (he prog w _ _ ?_)
        wp_walk
        simp only [List.length_cons] at hlen
        exact ⟨rfl, rfl, _, _, hrest, by omega, hR'⟩
      | ne he hc =>
        rw [List.zip_cons_cons] at hz
        injection hz with hyx hrest
        injection hyx with hy hx
        subst hy hx
        refine wpAny_bind (he prog w _ _ ?_)
        have hri := hc prog w
        wp_walk using hri
        exact ⟨_, rfl, h⟩
    case fin =>
      rintro ⟨b1, b2⟩ s' ⟨hb', rfl, vs, ws, hz, hlen, hR⟩
      simp only at hb'
      subst hb'
      have hv : k = decide (items.size < items2.size) := by
        cases hR with
        | nil => simp only [List.length_nil] at hlen; exact (decide_eq_false (by omega)).symm
        | nilc => simp only [List.length_nil, List.length_cons] at hlen; exact (decide_eq_true (by omega)).symm
        | cnil => simp only [List.length_nil, List.length_cons] at hlen; exact (decide_eq_false (by omega)).symm
        | eq _ _ => rw [List.zip_cons_cons] at hz; cases hz
        | ne _ _ => rw [List.zip_cons_cons] at hz; cases hz
      rw [hv] at h
      wp_walk
      exact ⟨_, rfl, by simpa [Builtin.Tuple.tupleCompareSizes] using h⟩
    case h =>
      exact ⟨rfl, rfl, items.toList, items2.toList, rfl, by simp; omega, hk⟩
theorem lt_loopAt (l b : Addr) (items items2 : Array Value) (n n2 : Nat) (dd dd2 : Option Addr) (sl sl2 : Array (Option Value)) (k : Bool) : ∀ (vs ws : List Value) (i : Nat), items.toList.drop i = vs → items2.toList.drop i = ws → i ≤ items.size → i ≤ items2.size →
    Meets (Builtin.«list.__eq__.loop» ⟨[.ref l, .ref b, rawInt i, rawInt 0], []⟩)
      (fun A R s => s.heap.get? l = some { cls := .type "list", dict := dd, data := .seq items n, slots := sl } ∧ s.heap.get? b = some { cls := .type "list", dict := dd2, data := .seq items2 n2, slots := sl2 } ∧
        LtR A.in1 s vs ws k ∧ R (.ok (.ret (.bool k))) s) := by
  have dropn : ∀ (a : Array Value) (i : Nat), a.toList.drop i = [] → i ≤ a.size → i = a.size := fun a i e hi => by
    have := List.drop_eq_nil_iff.mp e
    simp at this; omega
  have dropc : ∀ (a : Array Value) (i : Nat) (v : Value) (r : List Value), a.toList.drop i = v :: r → i < a.size ∧ a[((i : Nat) : Int).toNat]? = some v ∧ a.toList.drop (i + 1) = r := fun a i v r e => by
    have hlt : i < a.toList.length := by
      rcases Nat.lt_or_ge i a.toList.length with q | q
      · exact q
      · rw [List.drop_eq_nil_of_le q] at e; cases e
    rw [List.drop_eq_getElem_cons hlt] at e
    injection e with e1 e2
    refine ⟨by simpa using hlt, ?_, e2⟩
    simp at hlt
    simp [hlt]
    simpa using e1
  intro vs
  induction vs with
  | nil =>
    intro ws i hv hw hi hi2 prog w A R s h
    obtain ⟨hp, g, d, tk, os⟩ := s; obtain ⟨hl, hb, he, h⟩ := h
    have e1 := dropn items i hv hi
    wp_walk using wpAny_loadPart' hl, wpAny_loadPart' hb
    have hi1 : items[((i : Nat) : Int).toNat]? = none := by simp; omega
    rw [hi1]
    cases ws with
    | nil =>
      have e2 := dropn items2 i hw hi2
      cases he
      wp_walk using wpAny_loadPart' hl, wpAny_loadPart' hb
      show R (.ok (.ret (.bool (decide (items.size < items2.size))))) _
      rw [decide_eq_false (by omega)]
      exact h
    | cons y ys =>
      obtain ⟨hlt, _, _⟩ := dropc items2 i y ys hw
      cases he
      wp_walk using wpAny_loadPart' hl, wpAny_loadPart' hb
      show R (.ok (.ret (.bool (decide (items.size < items2.size))))) _
      rw [decide_eq_true (by omega)]
      exact h
  | cons x xs ih =>
    intro ws i hv hw hi hi2 prog w A R s h
    obtain ⟨hp, g, d, tk, os⟩ := s; obtain ⟨hl, hb, he, h⟩ := h
    obtain ⟨hlt, g1, d1⟩ := dropc items i x xs hv
    wp_walk using wpAny_loadPart' hl, wpAny_loadPart' hb
    cases ws with
    | nil =>
      have e2 := dropn items2 i hw hi2
      have hi2' : items2[((i : Nat) : Int).toNat]? = none := by simp; omega
      rw [g1, hi2']
      cases he
      wp_walk using wpAny_loadPart' hl, wpAny_loadPart' hb
      show R (.ok (.ret (.bool (decide (items.size < items2.size))))) _
      rw [decide_eq_false (by omega)]
      exact h
    | cons y ys =>
      obtain ⟨hlt2, g2, d2⟩ := dropc items2 i y ys hw
      have hc : ((i : Int) + 1) = ((i + 1 : Nat) : Int) := by push_cast; rfl
      rw [g1, g2]
      cases he with
      | eq he he' =>
        refine wpAny_bind (he prog w _ _ ?_)
        wp_walk
        rw [hc]
        exact ⟨plainId_quiet plain_eq_loop _, codeAny_builtin entry_eq_loop (by
          rw [Around.under_plainId plain_eq_loop _]
          exact ih ys (i + 1) d1 d2 (by omega) (by omega) prog w A R _ ⟨hl, hb, he', h⟩)⟩
      | ne he hcmp =>
        refine wpAny_bind (he prog w _ _ ?_)
        have hri := hcmp prog w
        wp_walk using wpAny_loadPart' hl, wpAny_loadPart' hb
        rw [g1, g2]
        wp_walk using hri
        exact h
theorem list_ltAt (l b : Addr) (items items2 : Array Value) (n n2 : Nat) (dd dd2 : Option Addr) (sl sl2 : Array (Option Value)) (k : Bool) :
    Meets (Builtin.«list.__lt__» ⟨[.ref l, .ref b], []⟩)
      (fun A R s => s.heap.get? l = some { cls := .type "list", dict := dd, data := .seq items n, slots := sl } ∧ s.heap.get? b = some { cls := .type "list", dict := dd2, data := .seq items2 n2, slots := sl2 } ∧
        LtR A.in1 s items.toList items2.toList k ∧ R (.ok (.ret (.bool k))) s) := by
  intro prog w A R s h
  obtain ⟨hp, g, d, tk, os⟩ := s; obtain ⟨hl, hb, he, h⟩ := h
  have f3 := AutoSeq1.sub_list_list
  wp_walk using wpAny_loadPart' hl, wpAny_loadPart' hb
  exact ⟨plainId_quiet plain_eq_loop _, codeAny_builtin entry_eq_loop (by
    rw [Around.under_plainId plain_eq_loop _]
    exact lt_loopAt l b items items2 n n2 dd dd2 sl sl2 k items.toList items2.toList 0 rfl rfl (Nat.zero_le _) (Nat.zero_le _) prog w A R _ ⟨hl, hb, he, h⟩)⟩
end
noncomputable def ltS : D → D → Option Bool
  | .int a, .int b => some (decide (a < b))
  | .str a, .str b => some (decide (a.cps.toList < b.cps.toList))
  | .bl a, .bl b => some (decide (b2i a < b2i b))
  | _, _ => none
noncomputable def ltL (eq lt : D → D → Option Bool) : List D → List D → Option Bool
  | [], [] => some false
  | [], _ :: _ => some true
  | _ :: _, [] => some false
  | x :: xs, y :: ys => match eq x y with
    | some true => ltL eq lt xs ys
    | some false => lt x y
    | none => none
noncomputable def ltN : Nat → DH → D → D → Option Bool
  | 0, _, _, _ => none
  | n + 1, G, x, y => match seqK G x, seqK G y with
    | some (k1, a), some (k2, b) => if k1 = k2 then ltL (eqN n G) (ltN n G) a b else none
    | none, none => ltS x y
    | _, _ => none
section
variable {X : Cx} {Z : XC} {pins : List (Addr × Obj)} {σ : St} {H : Hp} {s : Shared} {μ : List Addr} {G : DH}
theorem ltS_at {A : Around} {dx dy : D} {x y : V} {v u : Value} {b : Bool} {c : Wc} (rx : RepV c μ H dx x) (ry : RepV c μ H dy y) (rv : RelV x v) (ru : RelV y u) (e : ltS dx dy = some b) : RcLtAt A s v u b := by
  intro prog w E Q hq
  cases dx <;> cases dy <;> first
    | (cases e; done)
    | skip
  · cases e
    unfold RepV at rx ry; subst rx ry; cases rv; cases ru
    exact (lt_bool hq : wpAny (model prog w) A (compareOp .Lt _ _) Q E s)
  · cases e
    unfold RepV at rx ry; subst rx ry; obtain ⟨t, rfl⟩ := rv; obtain ⟨t', rfl⟩ := ru
    exact (lt_int hq : wpAny (model prog w) A (compareOp .Lt _ _) Q E s)
  · cases e
    unfold RepV at rx ry; subst rx ry; obtain ⟨t, rfl⟩ := rv; obtain ⟨t', rfl⟩ := ru
    exact (lt_str hq : wpAny (model prog w) A (compareOp .Lt _ _) Q E s)
theorem lt_at (I : Inv X pins σ H s) (h : HRep (wc X) μ G H) : ∀ (n : Nat) (A : Around), A.units + n < cLine → ∀ {dx dy : D} {x y : V} {v u : Value} {b : Bool}, RepV (wc X) μ H dx x → RepV (wc X) μ H dy y → RelV x v → RelV y u → ltN n G dx dy = some b → RcLtAt A s v u b
  | 0, _, _, _, _, _, _, _, _, _, _, _, _, _, e => by cases e
  | n + 1, A, hu, dx, dy, x, y, v, u, b, rx, ry, rv, ru, e => by
    have hu0 : A.units < cLine := by omega
    have hu1 : A.in1.units + n < cLine := by show A.units + 1 + n < cLine; omega
    unfold ltN at e
    cases hx : seqK G dx with
    | none =>
      rw [hx] at e
      cases hy : seqK G dy with
      | none => rw [hy] at e; exact ltS_at rx ry rv ru e
      | some p => rw [hy] at e; cases e
    | some p =>
      obtain ⟨k, l⟩ := p
      rw [hx] at e
      cases hy : seqK G dy with
      | none => rw [hy] at e; cases e
      | some p' =>
        obtain ⟨k', l'⟩ := p'
        rw [hy] at e
        dsimp only at e
        split at e
        case isFalse => cases e
        rename_i hk
        subst hk
        obtain ⟨a, vs, its, rfl, rfl, rl, rr, sq, q⟩ := seqK_at I h hx rx rv
        obtain ⟨a', vs', its', rfl, rfl, rl', rr', sq', q'⟩ := seqK_at I h hy ry ru
        have main : ∀ (l l' : List D) (vs vs' : List V) (its its' : List Value), RepL (wc X) μ H l vs → RepL (wc X) μ H l' vs' → Vals vs its → Vals vs' its' → ltL (eqN n G) (ltN n G) l l' = some b → LtR A.in1 s its its' b := by
          intro l
          induction l with
          | nil =>
            intro l' vs vs' its its' r r' q q' e
            cases r; cases q
            cases l' with
            | nil => cases r'; cases q'; cases e; exact .nil
            | cons _ _ =>
              obtain ⟨_, _, rfl, _, _⟩ := r'
              cases q'
              cases e
              exact .nilc
          | cons d ds ih =>
            intro l' vs vs' its its' r r' q q' e
            obtain ⟨v0, vr, rfl, r0, rt⟩ := r
            cases q with
            | cons q0 qt =>
              cases l' with
              | nil => cases r'; cases q'; cases e; exact .cnil
              | cons d' ds' =>
                obtain ⟨v1, vr', rfl, r1, rt'⟩ := r'
                cases q' with
                | cons q1 qt' =>
                  unfold ltL at e
                  cases he : eqN n G d d' with
                  | none => rw [he] at e; cases e
                  | some b0 =>
                    rw [he] at e
                    have hE := (eq_at I h n A.in1 hu1 r0 r1 q0 q1 he).2.2
                    cases b0 with
                    | true => exact .eq hE (ih ds' vr vr' _ _ rt rt' qt qt' e)
                    | false => exact .ne hE (lt_at I h n A.in1 hu1 r0 r1 q0 q1 e)
        have hR := main l l' vs vs' its its' rl rl' rr rr' e
        intro prog w E Q hq
        cases k with
        | true =>
          obtain ⟨⟨cls, dd, data, sl⟩, ho, hc, m, hd⟩ := id sq
          obtain ⟨⟨cls2, dd2, data2, sl2⟩, ho2, hc2, m2, hd2⟩ := id sq'
          simp only at hc hd hc2 hd2
          subst hc hd hc2 hd2
          exact richCompare_meets_room (op := .Lt) ⟨_, ho, rfl⟩ ⟨_, ho2, rfl⟩ PySem.F.slot_tuple_lt PySem.F.entry_tuple_lt (PySem.F.args_tuple_lt_2 _ _) (tuple_ltAt a a' its.toArray its'.toArray m m2 dd dd2 sl sl2 b)
            ⟨ho, ho2, hR, show Value.bool b ≠ Value.notImplemented ∧ Q (.bool b) s from ⟨(fun x => nomatch x), hq⟩⟩ hu0
        | false =>
          obtain ⟨⟨cls, dd, data, sl⟩, ho, hc, m, hd⟩ := id sq
          obtain ⟨⟨cls2, dd2, data2, sl2⟩, ho2, hc2, m2, hd2⟩ := id sq'
          simp only at hc hd hc2 hd2
          subst hc hd hc2 hd2
          exact richCompare_meets_room (op := .Lt) ⟨_, ho, rfl⟩ ⟨_, ho2, rfl⟩ PySem.F.slot_list_lt PySem.F.entry_list_lt (PySem.F.args_list_lt_2 _ _) (list_ltAt a a' its.toArray its'.toArray m m2 dd dd2 sl sl2 b)
            ⟨ho, ho2, hR, show Value.bool b ≠ Value.notImplemented ∧ Q (.bool b) s from ⟨(fun x => nomatch x), hq⟩⟩ hu0
noncomputable def ltD : D → D → M D := fun x y G => match ltN 40 G x y with
  | some b => some (.ok (.bl b), G)
  | none => none
theorem od_lt (hu : X.A.units + 64 < cLine) : OpD X Z (compareOp .Lt) ltD := ⟨by
  intro pins s σ H x y v u Q I rx ry ⟨dx, dy, μ, G, rdx, rdy, hr, p⟩
  unfold ltD at p
  cases e : ltN 40 G dx dy with
  | none => rw [e] at p; exact p.elim
  | some b =>
    rw [e] at p
    exact lt_at I hr 40 X.A (by omega) rdx rdy rx ry e X.prog X.w X.xe _ ⟨.bl b, H, I, rfl, Post.ok p hr _ ofB⟩⟩
end
end DL
set_option Elab.async false
set_option linter.all false
set_option maxRecDepth 100000
namespace DL
open PySem PySem.Spec L2
open PyProof.Rows hiding St
noncomputable def flatD : D → Bool
  | .non => true
  | .bl _ => true
  | .int _ => true
  | .str _ => true
  | _ => false
noncomputable def toV : D → V
  | .bl b => .bl b
  | .int i => .int i
  | .str x => .str x
  | _ => .non
noncomputable def keyD : D → Option Key
  | .int i => some (.inl i)
  | .str x => some (.inr x)
  | _ => none
noncomputable def lookK (l : List (Key × D)) (k : Key) : Option D := (l.find? fun kv => decide (kv.1 = k)).map (·.2)
noncomputable def inB (x y : D) (G : DH) : Option Bool := match y with
  | .str j => match x with
    | .str i => some (!(Builtin.Str.occurrences j i 0 j.length 1).isEmpty)
    | _ => none
  | .ref r => match G[r]? with
    | some (.dct l) => (keyD x).map fun k => (lookK l k).isSome
    | some (.rod _) => none
    | some (.lst l) => if flatD x && l.all flatD then some (inV (toV x) (l.map toV)) else none
    | some (.rol l) => if flatD x && l.all flatD then some (inV (toV x) (l.map toV)) else none
    | none => none
  | .tup l => if flatD x && l.all flatD then some (inV (toV x) (l.map toV)) else none
  | _ => none
noncomputable def inD : D → D → M D := fun x y G => match inB x y G with
  | some b => some (.ok (.bl b), G)
  | none => none
noncomputable def notInD : D → D → M D := fun x y G => match inB x y G with
  | some b => some (.ok (.bl (!b)), G)
  | none => none
section
variable {X : Cx} {Z : XC} {c : Wc} {μ : List Addr} {H : Hp} {G : DH}
theorem flat_rep {d : D} {v : V} (f : flatD d = true) (r : RepV c μ H d v) : v = toV d ∧ flatV v = true := by
  cases d <;> first
    | exact absurd (show false = true from f) Bool.false_ne_true
    | (unfold RepV at r; subst r; exact ⟨rfl, rfl⟩)
theorem flat_reps : ∀ {l : List D} {vs : List V}, l.all flatD = true → RepL c μ H l vs → vs = l.map toV ∧ vs.all flatV = true
  | [], _, _, r => by cases r; exact ⟨rfl, rfl⟩
  | d :: ds, _, f, r => by
    obtain ⟨v, t, rfl, q, rt⟩ := r
    rw [List.all_cons, Bool.and_eq_true] at f
    obtain ⟨e1, e2⟩ := flat_rep f.1 q
    obtain ⟨e3, e4⟩ := flat_reps f.2 rt
    refine ⟨by rw [List.map_cons, ← e1, ← e3], ?_⟩
    rw [List.all_cons, e2, e4]; rfl
theorem key_rep {d : D} {k : Key} {v : V} (e : keyD d = some k) (r : RepV c μ H d v) : v = kV k := by
  cases d <;> first
    | (cases e; unfold RepV at r; exact r)
    | cases e
theorem lookK_rep {k : Key} : ∀ {l : List (Key × D)} {kvs : List (Key × V)}, RepK c μ H l kvs → match lookK l k with | some d => ∃ v, valV kvs k = some v ∧ RepV c μ H d v | none => valV kvs k = none
  | [], _, r => by cases r; exact rfl
  | (k', d) :: t, _, r => by
    obtain ⟨v, kt, rfl, q, rt⟩ := r
    by_cases e : k' = k
    · have h1 : lookK ((k', d) :: t) k = some d := by unfold lookK; simp [e]
      rw [h1]
      exact ⟨v, valV_pos e, q⟩
    · have h1 : lookK ((k', d) :: t) k = lookK t k := by unfold lookK; simp [e]
      rw [h1]
      have ih := lookK_rep (k := k) rt
      rw [valV_neg e]
      exact ih
theorem lookK_some {k : Key} {l : List (Key × D)} {kvs : List (Key × V)} (r : RepK c μ H l kvs) : (lookK l k).isSome = (valV kvs k).isSome := by
  have q := lookK_rep (k := k) r
  cases e : lookK l k with
  | none => rw [e] at q; rw [q]; rfl
  | some d => rw [e] at q; obtain ⟨v, q, _⟩ := q; rw [q]; rfl
theorem in_at (hu : X.A.units + 64 < cLine) {pins : List (Addr × Obj)} {σ : St} {s : Shared} {x y : V} {v u : Value} {dx dy : D} {b : Bool} {Q : VK} (I : Inv X pins σ H s) (hr : HRep (wc X) μ G H) (rdx : RepV (wc X) μ H dx x) (rdy : RepV (wc X) μ H dy y) (rx : RelV x v) (ry : RelV y u)
    (e : inB dx dy G = some b) :
    (Q (.bl b) H → wpAny (model X.prog X.w) X.A (compareOp .In v u) (EP X pins σ Q) X.xe s) ∧ (Q (.bl (!b)) H → wpAny (model X.prog X.w) X.A (compareOp .NotIn v u) (EP X pins σ Q) X.xe s) := by
  have seq : ∀ (p : Addr) (l : List D) (vs : List V), y = .ref p → (SqL X.K H p vs ∨ SqT X.K H p vs) → RepL (wc X) μ H l vs → (if (flatD dx && l.all flatD) = true then some (inV (toV dx) (l.map toV)) else none) = some b →
      (Q (.bl b) H → wpAny (model X.prog X.w) X.A (compareOp .In v u) (EP X pins σ Q) X.xe s) ∧ (Q (.bl (!b)) H → wpAny (model X.prog X.w) X.A (compareOp .NotIn v u) (EP X pins σ Q) X.xe s) := by
    intro p l vs hy hq rl e
    split at e
    · rename_i hf
      rw [Bool.and_eq_true] at hf
      cases e
      obtain ⟨e1, e2⟩ := flat_rep hf.1 rdx
      obtain ⟨e3, e4⟩ := flat_reps hf.2 rl
      rw [← e1, ← e3]
      exact ⟨fun q => op_in_seq pins s σ H x y v u Q I rx ry ⟨p, vs, hy, hq, e2, e4, q⟩, fun q => op_notIn_seq pins s σ H x y v u Q I rx ry ⟨p, vs, hy, hq, e2, e4, q⟩⟩
    · cases e
  cases dy with
  | str j =>
    cases dx with
    | str i =>
      cases e
      have e1 := repS rdx
      have e2 := repS rdy
      exact ⟨fun q => op_in_str pins s σ H x y v u Q I rx ry ⟨i, j, e1, e2, q⟩, fun q => op_notIn_str pins s σ H x y v u Q I rx ry ⟨i, j, e1, e2, q⟩⟩
    | _ => cases e
  | tup l =>
    unfold RepV at rdy
    obtain ⟨a, vs, hy, q, rl⟩ := rdy
    exact seq a l vs hy (.inr q) rl e
  | ref i =>
    unfold RepV at rdy
    obtain ⟨a, m, hy⟩ := rdy
    cases g : G[i]? with
    | none => unfold inB at e; simp only [g] at e; cases e
    | some o =>
      have ro := hr.obj i o a g m
      cases o with
      | lst l =>
        obtain ⟨vs, q, rl⟩ := ro
        unfold inB at e; simp only [g] at e
        exact seq a l vs hy (.inl (SqL.of q)) rl e
      | rol l =>
        obtain ⟨vs, q, rl⟩ := ro
        unfold inB at e; simp only [g] at e
        exact seq a l vs hy (.inl q.sq) rl e
      | dct l =>
        obtain ⟨kvs, q, rk⟩ := ro
        unfold inB at e; simp only [g] at e
        cases hk : keyD dx with
        | none => rw [hk] at e; cases e
        | some k =>
          rw [hk] at e
          cases e
          have ek := key_rep hk rdx
          have dg : DGet H a x (valV kvs k) := by rw [ek]; exact DGet.k q
          subst hy
          cases ry
          dsimp only
          rw [lookK_some rk]
          exact ⟨fun q => d_in (by omega) I dg rx fun s' I' => ⟨.bl _, H, I', rfl, q⟩, fun q => d_notIn (by omega) I dg rx fun s' I' => ⟨.bl _, H, I', rfl, q⟩⟩
      | rod l => unfold inB at e; simp only [g] at e; cases e
  | _ => cases e
theorem od_in (hu : X.A.units + 64 < cLine) : OpD X Z (compareOp .In) inD := ⟨by
  intro pins s σ H x y v u Q I rx ry ⟨dx, dy, μ, G, rdx, rdy, hr, p⟩
  unfold inD at p
  cases e : inB dx dy G with
  | none => rw [e] at p; exact p.elim
  | some b => rw [e] at p; exact (in_at hu I hr rdx rdy rx ry e).1 (Post.ok p hr _ ofB)⟩
theorem od_notin (hu : X.A.units + 64 < cLine) : OpD X Z (compareOp .NotIn) notInD := ⟨by
  intro pins s σ H x y v u Q I rx ry ⟨dx, dy, μ, G, rdx, rdy, hr, p⟩
  unfold notInD at p
  cases e : inB dx dy G with
  | none => rw [e] at p; exact p.elim
  | some b => rw [e] at p; exact (in_at hu I hr rdx rdy rx ry e).2 (Post.ok p hr _ ofB)⟩
inductive Ty where
  | int | bool | str | tuple | list | dict
  deriving DecidableEq
noncomputable def Ty.name : Ty → String
  | .int => "int" | .bool => "bool" | .str => "str" | .tuple => "tuple" | .list => "list" | .dict => "dict"
noncomputable def Ty.of (n : String) : Option Ty := if n = "int" then some .int else if n = "bool" then some .bool else if n = "str" then some .str else if n = "tuple" then some .tuple else if n = "list" then some .list else if n = "dict" then some .dict else none
theorem Ty.of_name {n : String} {T : Ty} (h : Ty.of n = some T) : n = T.name := by
  unfold Ty.of at h
  split at h
  · rename_i e; cases h; exact e
  split at h
  · rename_i e; cases h; exact e
  split at h
  · rename_i e; cases h; exact e
  split at h
  · rename_i e; cases h; exact e
  split at h
  · rename_i e; cases h; exact e
  split at h
  · rename_i e; cases h; exact e
  · cases h
inductive Kd where
  | non | bool | int | str | tuple | list | dict
noncomputable def Kd.is : Kd → Ty → Bool
  | .bool, .int => true
  | .bool, .bool => true
  | .int, .int => true
  | .str, .str => true
  | .tuple, .tuple => true
  | .list, .list => true
  | .dict, .dict => true
  | _, _ => false
noncomputable def Kd.name : Kd → String
  | .non => "NoneType" | .bool => "bool" | .int => "int" | .str => "str" | .tuple => "tuple" | .list => "list" | .dict => "dict"
noncomputable def kdOf (G : DH) : D → Option Kd
  | .non => some .non
  | .bl _ => some .bool
  | .int _ => some .int
  | .str _ => some .str
  | .tup _ => some .tuple
  | .ref i => match G[i]? with
    | some (.lst _) => some .list
    | some (.rol _) => some .list
    | some (.dct _) => some .dict
    | some (.rod _) => some .dict
    | none => none
  | _ => none
noncomputable def tysOf : List D → Option (List Ty)
  | [] => some []
  | .ty n :: r => match Ty.of n, tysOf r with
    | some T, some Ts => some (T :: Ts)
    | _, _ => none
  | _ => none
noncomputable def isinstF : List D → M D := fun ds G => match ds with
  | [d, .ty n] => match kdOf G d, Ty.of n with
    | some k, some T => some (.ok (.bl (k.is T)), G)
    | _, _ => none
  | [d, .tup l] => match kdOf G d, tysOf l with
    | some k, some Ts => some (.ok (.bl (Ts.any k.is)), G)
    | _, _ => none
  | _ => none
theorem kit_one (K : PySem.W.Frag) (k : Kd) (T : Ty) : PySem.W.kitOne K (.type k.name) (.type T.name) = some (k.is T) := by
  cases k <;> cases T <;> rfl
theorem kd_run {A : Around} {E : Value → Shared → Prop} {pins : List (Addr × Obj)} {σ : St} {s : Shared} {d : D} {x : V} {v : Value} {k : Kd} (I : Inv X pins σ H s) (hr : HRep (wc X) μ G H) (r : RepV (wc X) μ H d x) (rv : RelV x v) (e : kdOf G d = some k) :
    ∃ HH : Heap → Prop, PySem.W.KitX X.K v (.type k.name) HH ∧ HH s.heap ∧ v ≠ .builtin "__main__.__loader__#opaque" := by
  cases d with
  | non => cases e; unfold RepV at r; subst r; cases rv; exact ⟨_, PySem.W.kitx_none, True.intro, fun z => nomatch z⟩
  | bl b => cases e; unfold RepV at r; subst r; cases rv; exact ⟨_, PySem.W.kitx_bool, True.intro, fun z => nomatch z⟩
  | int b => cases e; unfold RepV at r; subst r; obtain ⟨t, rfl⟩ := rv; exact ⟨_, PySem.W.kitx_int, True.intro, fun z => nomatch z⟩
  | str b => cases e; unfold RepV at r; subst r; obtain ⟨t, rfl⟩ := rv; exact ⟨_, PySem.W.kitx_str, True.intro, fun z => nomatch z⟩
  | tup l =>
    cases e
    unfold RepV at r
    obtain ⟨a, vs, rfl, q, _⟩ := r
    cases rv
    obtain ⟨its, _, ⟨o, h1, h2, _⟩, _⟩ := I.tuple q
    exact ⟨_, PySem.W.kitx_tuple, ⟨o, h1, h2⟩, fun z => nomatch z⟩
  | ref i =>
    unfold RepV at r
    obtain ⟨a, m, rfl⟩ := r
    cases rv
    unfold kdOf at e
    cases g : G[i]? with
    | none => simp only [g] at e; cases e
    | some o =>
      have ro := hr.obj i o a g m
      simp only [g] at e
      cases o with
      | lst l =>
        cases e
        obtain ⟨vs, q, _⟩ := ro
        obtain ⟨its, _, ⟨o, n, h1, h2, _⟩, _⟩ := I.list (SqL.of q)
        exact ⟨_, PySem.W.kitx_list, ⟨o, h1, h2⟩, fun z => nomatch z⟩
      | rol l =>
        cases e
        obtain ⟨vs, q, _⟩ := ro
        obtain ⟨its, _, ⟨o, n, h1, h2, _⟩, _⟩ := I.list q.sq
        exact ⟨_, PySem.W.kitx_list, ⟨o, h1, h2⟩, fun z => nomatch z⟩
      | dct l =>
        cases e
        obtain ⟨kvs, q, _⟩ := ro
        obtain ⟨_, _, vs, _, o, es, ep, h1, h2, _⟩ := (show ObjOk X.prog X.w H s.heap a (.dK kvs) from I.hok a _ q)
        exact ⟨_, PySem.W.kitx_dict, ⟨o, h1, h2.1⟩, fun z => nomatch z⟩
      | rod l =>
        cases e
        obtain ⟨kvs, ob, q, _⟩ := ro
        obtain ⟨_, _, _, vs, _, o, es, ep, h1, h2, _⟩ := (show ObjOk X.prog X.w H s.heap a (.frz ob (.dK kvs)) from I.hok a _ q)
        exact ⟨_, PySem.W.kitx_dict, ⟨o, h1, h2.1⟩, fun z => nomatch z⟩
  | _ => cases e
theorem tys_rep : ∀ {l : List D} {vs : List V} {us : List Value} {Ts : List Ty}, tysOf l = some Ts → RepL c μ H l vs → Vals vs us → us = Ts.map fun T => .type T.name
  | [], _, _, _, e, r, q => by cases e; cases r; cases q; rfl
  | d :: ds, _, _, Ts, e, r, q => by
    obtain ⟨v, t, rfl, r0, rt⟩ := r
    cases q with
    | cons q0 qt =>
      cases d with
      | ty n =>
        unfold tysOf at e
        cases h1 : Ty.of n with
        | none => simp only [h1] at e; cases e
        | some T =>
          cases h2 : tysOf ds with
          | none => simp only [h1, h2] at e; cases e
          | some Ts' =>
            simp only [h1, h2] at e
            cases e
            unfold RepV at r0
            subst r0
            rw [tys_rep h2 rt qt, List.map_cons, show _ = Value.type n from q0, Ty.of_name h1]
      | _ => cases e
theorem kit_any (K : PySem.W.Frag) (k : Kd) : ∀ Ts : List Ty, PySem.W.kitAny K (.type k.name) (Ts.map fun T => .type T.name) = some (Ts.any k.is)
  | [] => rfl
  | T :: Ts => by
    have ih := kit_any K k Ts
    cases k <;> cases T <;> first
      | rfl
      | exact ih
theorem cd_isinst : CallD X Z (.builtin "isinstance") isinstF := ⟨by
  intro pins s σ H xs us Q I r ⟨ds, μ, G, rl, hr, p⟩
  unfold isinstF at p
  split at p
  · rename_i d n
    obtain ⟨v, t, rfl, r0, v1, t1, rfl, r1, e⟩ := rl
    cases e
    obtain ⟨u, u', rfl, ru, ru'⟩ := vals2 r
    unfold RepV at r1
    subst r1
    cases ru'
    cases hk : kdOf G d with
    | none => simp only [hk] at p; exact p.elim
    | some k =>
      cases hT : Ty.of n with
      | none => simp only [hk, hT] at p; exact p.elim
      | some T =>
        simp only [hk, hT] at p
        rw [Ty.of_name hT]
        obtain ⟨HH, kx, hh, hne⟩ := kd_run (A := X.A) (E := X.xe) I hr r0 ru hk
        exact PySem.W.kia_one kx I.kIn hh (kit_one X.K k T) hne fun tk => ⟨.bl _, H, I.tok tk, rfl, Post.ok p hr _ ofB⟩
  · rename_i d l
    obtain ⟨v, t, rfl, r0, v1, t1, rfl, r1, e⟩ := rl
    cases e
    obtain ⟨u, u', rfl, ru, ru'⟩ := vals2 r
    unfold RepV at r1
    obtain ⟨a, vs, rfl, q, rll⟩ := r1
    cases ru'
    cases hk : kdOf G d with
    | none => simp only [hk] at p; exact p.elim
    | some k =>
      cases hT : tysOf l with
      | none => simp only [hk, hT] at p; exact p.elim
      | some Ts =>
        simp only [hk, hT] at p
        obtain ⟨HH, kx, hh, hne⟩ := kd_run (A := X.A) (E := X.xe) I hr r0 ru hk
        obtain ⟨its, rr, ⟨⟨cls, dd, data, sl⟩, h1, h2, n, h3⟩, _⟩ := I.tuple q
        simp only at h2 h3
        subst h2 h3
        exact PySem.W.kia_tup kx I.kIn hh h1 (by rw [tys_rep hT rll rr]; exact kit_any X.K k Ts) hne fun tk => ⟨.bl _, H, I.tok tk, rfl, Post.ok p hr _ ofB⟩
  · exact p.elim⟩
end
end DL
set_option Elab.async false
set_option linter.all false
set_option maxRecDepth 100000
namespace DL
open PySem PySem.Spec L2
open PyProof.Rows hiding St
theorem atI_rep {c : Wc} {μ : List Addr} {H : Hp} {l : List D} {vs : List V} {i : Int} {d : D} (r : RepL c μ H l vs) (e : atI l i = some d) : ∃ v, atI vs i = some v ∧ RepV c μ H d v := by
  unfold atI at e ⊢
  rw [← r.length]
  cases h : ixN l.length i with
  | none => rw [h] at e; cases e
  | some j =>
    rw [h] at e
    obtain ⟨v, h1, h2⟩ := r.get e
    exact ⟨v, h1, h2⟩
noncomputable def ixD : D → D → M D := fun x y => match x, y with
  | .tup l, .int i => optM (atI l i)
  | .str z, .int i => if z.length ≤ sizeLine then do
      let c ← optM (atI z.cps.toList i)
      pure (.str ⟨#[c]⟩)
    else M.stuck
  | .ref r, .int i => do
    let l ← objM r >>= listOf
    optM (atI l i)
  | _, _ => M.stuck
section
variable {X : Cx} {Z : XC} {a b e : Expr} {fa fb : Fe} {pos : Pos}
noncomputable def IxD (X : Cx) (Z : XC) (o : D → D → M D) : Prop := IxR X (liftR2 (wc X) Z o)
theorem de_ix0 {o : D → D → M D} (ho : IxD X Z o) (ha : DE X Z a fa) (hb : DE X Z b fb) (hs : PlainIx b) : DE X Z (.Subscript a b pos) (binE o fa fb) := DE.of (pe_ix ho ha.h hb.h hs) bin_lift
theorem optM_end {c : Wc} {μ : List Addr} {H : Hp} {G : DH} {r : Option D} {K : D → List Addr → DH → Hp → Prop} (h : HRep c μ G H) (p : Post c Z μ H (optM r G) K) : ∃ d, r = some d ∧ K d μ G H := by
  cases r with
  | none => exact p.elim
  | some d => exact ⟨d, rfl, Post.ok p h⟩
theorem id_ix : IxD X Z ixD := IxR.mono (ix_list.or (ix_tup.or ix_str)) fun x y H Q ⟨dx, dy, μ, G, rx, ry, hr, p⟩ => by
  cases dx <;> cases dy <;> first
    | exact p.elim
    | skip
  · rename_i z i
    refine .inr (.inr ?_)
    unfold ixD at p
    dsimp only at p
    split at p
    · rename_i hz
      obtain ⟨c, ec, p2⟩ := optM_post p
      exact ⟨z, i, c, repS rx, repI ry, hz, ec, Post.ok p2 hr _ ofS⟩
    · exact p.elim
  · rename_i l i
    refine .inr (.inl ?_)
    unfold RepV at rx
    obtain ⟨a, vs, rfl, q, rl⟩ := rx
    obtain ⟨d, ed, k⟩ := optM_end hr p
    obtain ⟨v, ev, rv⟩ := atI_rep rl ed
    exact ⟨a, vs, i, v, rfl, repI ry, q, ev, k v rv⟩
  · rename_i r i
    refine .inl ?_
    obtain ⟨l, a, vs, rfl, rl, p2, hq⟩ := seqM_post (d := .ref r) (f := fun l => optM (atI l i)) hr rx p
    obtain ⟨d, ed, k⟩ := optM_end hr p2
    obtain ⟨v, ev, rv⟩ := atI_rep rl ed
    rcases hq with ⟨z, _⟩ | ⟨_, _, _, ⟨_, q⟩ | ⟨_, q⟩⟩
    · cases z
    · exact ⟨a, vs, i, v, rfl, repI ry, SqL.of q, ev, k v rv⟩
    · exact ⟨a, vs, i, v, rfl, repI ry, q.sq, ev, k v rv⟩
theorem de_ix (ha : DE X Z a fa) (hb : DE X Z b fb) (hs : PlainIx b) : DE X Z (.Subscript a b pos) (binE ixD fa fb) := de_ix0 id_ix ha hb hs
noncomputable def cutD (xs : List D) (lo hi : Option Int) : List D := (xs.drop (HT.sIx xs.length 0 lo)).take (HT.sIx xs.length xs.length hi - HT.sIx xs.length 0 lo)
noncomputable abbrev Fo := DSt → M (Option Int)
noncomputable def noPart : Fo := fun _ => pure none
noncomputable def partO (f : Fe) : Fo := fun σ => do
  match ← f σ with
  | .int i => pure (some i)
  | _ => M.stuck
noncomputable def liftO (c : Wc) (Z : XC) (f : Fo) : TO := fun σ H Q => ∃ dσ μ G, StRep c μ H dσ σ ∧ HRep c μ G H ∧ Post c Z μ H (f dσ G) fun o _ _ H' => Q o H'
structure DOp (X : Cx) (Z : XC) (e : Option Expr) (f : Fo) : Prop where
  h : PO X e (liftO (wc X) Z f)
theorem PO.mono {e : Option Expr} {t t' : TO} (h : PO X e t) (k : ∀ σ H Q, t' σ H Q → t σ H Q) : PO X e t' := fun pins s σ H Q I q => h pins s σ H Q I (k σ H Q q)
theorem DOp.of {e : Option Expr} {f : Fo} {t : TO} (h : PO X e t) (k : ∀ σ H Q, liftO (wc X) Z f σ H Q → t σ H Q) : DOp X Z e f := ⟨PO.mono h k⟩
theorem do_none : DOp X Z none noPart := DOp.of po_none fun σ H Q ⟨dσ, μ, G, s, h, p⟩ => Post.ok p h
theorem do_some (h : DE X Z e fa) : DOp X Z (some e) (partO fa) := DOp.of (po_some h.h) fun σ H Q ⟨dσ, μ, G, s, h, p⟩ => ⟨dσ, μ, G, s, h, (Post.bind p).mono fun d μ1 G1 H1 x1 h1 p1 v rv => by
  cases d with
  | int i => exact ⟨i, repI rv, Post.ok p1 h1⟩
  | _ => exact p1.elim⟩
noncomputable def slD : D → Option Int → Option Int → M D := fun x lo hi => match x with
  | .tup l => pure (.tup (cutD l lo hi))
  | .ref r => do
    let l ← objM r >>= listOf
    allocM (.lst (cutD l lo hi))
  | _ => M.stuck
noncomputable def SlD (X : Cx) (Z : XC) (o : D → Option Int → Option Int → M D) : Prop :=
  SlR X fun x lo hi H Q => ∃ dx μ G, RepV (wc X) μ H dx x ∧ HRep (wc X) μ G H ∧ Post (wc X) Z μ H (o dx lo hi G) fun d μ' _ H' => ∀ v, RepV (wc X) μ' H' d v → Q v H'
theorem SlR.mono {r r' : V → Option Int → Option Int → Hp → VK → Prop} (h : SlR X r) (k : ∀ x lo hi H Q, r' x lo hi H Q → r x lo hi H Q) : SlR X r' := fun pins s σ H x v vl vu lo hi sl Q I rx hs pl pu q => h pins s σ H x v vl vu lo hi sl Q I rx hs pl pu (k x lo hi H Q q)
theorem getItem_tuple_whole {prog : Program} {w : World} {A : Around} {E : Value → Shared → Prop} {s : Shared} {t sl : Addr} {items : Array Value} {vl vu : Value} {lo hi : Option Int} {Q : Value → Shared → Prop} (ht : IsTup s.heap t items) (hs : s.heap.IsSliceOf sl vl vu .none) (pl : IsPart vl lo) (pu : IsPart vu hi)
    (hw : HT.sIx items.size 0 lo = 0 ∧ HT.sIx items.size items.size hi = items.size) (h : Q (.ref t) s) : wpAny (model prog w) A (getItem (.ref t) (.ref sl)) Q E s := by
  obtain ⟨os, hos, hcs, hds⟩ := id hs
  have hTs : s.TypeIs (.ref sl) "slice" := ⟨os, hos, hcs⟩
  unfold getItem
  try with_reducible refine wpAny_holding ?_
  first | refine wpAny_bind (wpAny_pure ?_) | skip
  refine wpAny_bind (wpAny_sequenceKey ht.typeIs (by decide) ?_)
  refine wpAny_bind (wpAny_callSpecial?_slot (name := Str.ofString "__getitem__") ht.typeIs PyProof.Rows.slot_tuple_getitem
    (wpAny_call_entry PyProof.Rows.slot_tuple_getitem ht.typeIs entry_tuple_getitem ?_ (args_tuple_getitem _ _)))
  show wpAny _ _ (Builtin.Tuple.tupleItemsOf (.ref t) >>= _) _ _ s
  refine wpAny_bind (tupleItemsOf_ ht ?_)
  refine wpAny_bind (wpAny_typeOf hTs ?_)
  rw [if_pos (by decide)]
  refine wpAny_bind (HT.sliceApplied_gen hs pl pu ?_)
  have hyes : (((HT.sIx items.size 0 lo : Nat) : Int) == 0 && (1 : Int) == 1 && (HT.sIx items.size items.size hi - HT.sIx items.size 0 lo) == items.size) = true := by
    rw [hw.1, hw.2]; simp
  show wpAny _ _ (if (((HT.sIx items.size 0 lo : Nat) : Int) == 0 && (1 : Int) == 1 && (HT.sIx items.size items.size hi - HT.sIx items.size 0 lo) == items.size) = true then _ else _) _ _ s
  rw [if_pos hyes]
  unfold Builtin.Tuple.tupleIsExact
  refine wpAny_bind (wpAny_bind (wpAny_typeOf ht.typeIs (wpAny_pure ?_)))
  rw [if_pos (by decide)]
  exact wpAny_bind (wpAny_rule (wpAny_pure ⟨_, rfl, wpAny_pure h⟩))
noncomputable def rSlW (K : PySem.W.Frag) : V → Option Int → Option Int → Hp → VK → Prop := fun x lo hi H Q => ∃ a xs, x = .ref a ∧ SqT K H a xs ∧ (HT.sIx xs.length 0 lo = 0 ∧ HT.sIx xs.length xs.length hi = xs.length) ∧ Q (.ref a) H
theorem sl_tupW : SlR X (rSlW X.K) := by
  intro pins s σ H x v vl vu lo hi sl Q I rx hs pl pu h
  obtain ⟨a, xs, rfl, hx, hw, q⟩ := h
  cases rx
  obtain ⟨its, r, ht, hz⟩ := I.tuple hx
  have hlen : its.toArray.size = xs.length := by rw [List.size_toArray]; exact r.length.symm
  exact ⟨"tuple", _, PyProof.Rows.slot_tuple_getitem.lookup, ht.typeIs, getItem_tuple_whole ht hs pl pu (by rw [hlen]; exact hw) ⟨.ref a, H, I, rfl, q⟩⟩
theorem cut_rep {c : Wc} {μ : List Addr} {H : Hp} {l : List D} {vs : List V} (r : RepL c μ H l vs) (lo hi : Option Int) : RepL c μ H (cutD l lo hi) (cutV vs lo hi) := by
  unfold cutD cutV
  rw [r.length]
  exact (r.drop _).take _
theorem sd_sl : SlD X Z slD := SlR.mono (sl_tup.or (sl_tupW.or sl_list)) fun x lo hi H Q ⟨dx, μ, G, rx, hr, p⟩ => by
  cases dx with
  | tup l =>
    unfold RepV at rx
    obtain ⟨a, vs, rfl, q, rl⟩ := rx
    by_cases hw : HT.sIx vs.length 0 lo = 0 ∧ HT.sIx vs.length vs.length hi = vs.length
    · refine .inr (.inl ⟨a, vs, rfl, q, hw, post_tup2 hr q ?_ p⟩)
      have e : cutV vs lo hi = vs := by unfold cutV; rw [hw.1, hw.2]; simp
      have := cut_rep rl lo hi
      rw [e] at this
      exact this
    · exact .inl ⟨a, vs, rfl, q, hw, fun p' hp => post_tup hr (cut_rep rl lo hi) p p' hp⟩
  | ref r =>
    obtain ⟨l, a, vs, rfl, rl, p2, hq⟩ := seqM_post (d := .ref r) (f := fun l => allocM (.lst (cutD l lo hi))) hr rx p
    have hs : SqL (wc X).K H a vs := by
      rcases hq with ⟨z, _⟩ | ⟨_, _, _, ⟨_, q⟩ | ⟨_, q⟩⟩
      · cases z
      · exact SqL.of q
      · exact q.sq
    exact .inr (.inr ⟨a, vs, rfl, hs, fun p' hp => post_lst hr (cut_rep rl lo hi) p2 p' hp⟩)
  | _ => exact p.elim
variable {lo hi : Option Expr} {fl fh : Fo} {p2 : Pos}
end
end DL
set_option Elab.async false
set_option linter.all false
set_option maxRecDepth 100000
namespace DL
open PySem PySem.Spec L2
open PyProof.Rows hiding St
noncomputable def putM (r : Nat) (o : DO) : M Unit := fun G => some (.ok (), G.set r o)
noncomputable def putKD (l : List (Key × D)) (k : Key) (d : D) : List (Key × D) := if l.any (fun kv => decide (kv.1 = k)) then l.map (fun kv => if kv.1 = k then (kv.1, d) else kv) else l ++ [(k, d)]
noncomputable def setD : D → D → D → M Unit := fun o i d => match o with
  | .ref r => do
    match ← objM r with
    | .lst l => match i with
      | .int k => match ixN l.length k with
        | some j => putM r (.lst (l.set j d))
        | none => M.stuck
      | _ => M.stuck
    | .dct l => match keyD i with
      | some k => if l.length < sizeLine then putM r (.dct (putKD l k d)) else M.stuck
      | none => M.stuck
    | .rol _ => M.stuck
    | .rod _ => M.stuck
  | _ => M.stuck
noncomputable def subG (fo fi : Fe) : Fg := fun d σ => do
  let o ← fo σ
  let i ← fi σ
  let _ ← setD o i d
  pure σ
section
variable {X : Cx} {Z : XC} {c : Wc} {μ : List Addr} {H : Hp} {G : DH}
theorem repK_put {k : Key} {d : D} {v : V} (rv : RepV c μ H d v) : ∀ {l : List (Key × D)} {kvs : List (Key × V)}, RepK c μ H l kvs → RepK c μ H (putKD l k d) (putK kvs k v) := by
  have any_eq : ∀ {l : List (Key × D)} {kvs : List (Key × V)}, RepK c μ H l kvs → (l.any fun kv => decide (kv.1 = k)) = (kvs.any fun kv => decide (kv.1 = k)) := by
    intro l
    induction l with
    | nil => intro kvs r; cases r; rfl
    | cons p t ih =>
      intro kvs r
      obtain ⟨v', kt, rfl, _, rt⟩ := r
      rw [List.any_cons, List.any_cons, ih rt]
  have map_eq : ∀ {l : List (Key × D)} {kvs : List (Key × V)}, RepK c μ H l kvs → RepK c μ H (l.map fun kv => if kv.1 = k then (kv.1, d) else kv) (kvs.map fun kv => if kv.1 = k then (kv.1, v) else kv) := by
    intro l
    induction l with
    | nil => intro kvs r; cases r; rfl
    | cons p t ih =>
      intro kvs r
      obtain ⟨k', d'⟩ := p
      obtain ⟨v', kt, rfl, q, rt⟩ := r
      rw [List.map_cons, List.map_cons]
      by_cases e : k' = k
      · simp only [e, if_true]
        exact ⟨v, _, rfl, rv, ih rt⟩
      · simp only [e, if_false]
        exact ⟨v', _, rfl, q, ih rt⟩
  have app_eq : ∀ {l : List (Key × D)} {kvs : List (Key × V)}, RepK c μ H l kvs → RepK c μ H (l ++ [(k, d)]) (kvs ++ [(k, v)]) := by
    intro l
    induction l with
    | nil => intro kvs r; cases r; exact ⟨v, [], rfl, rv, rfl⟩
    | cons p t ih =>
      intro kvs r
      obtain ⟨v', kt, rfl, q, rt⟩ := r
      exact ⟨v', _, rfl, q, ih rt⟩
  intro l kvs r
  unfold putKD putK
  rw [any_eq r]
  split
  · exact map_eq r
  · exact app_eq r
theorem RepK.length : ∀ {l : List (Key × D)} {kvs : List (Key × V)}, RepK c μ H l kvs → l.length = kvs.length
  | [], _, r => by cases r; rfl
  | _ :: _, _, r => by obtain ⟨_, _, rfl, _, t⟩ := r; simp [RepK.length t]
theorem post_put {r : Nat} {a : Addr} {o o' : DO} {u : HO} {Q : List Addr → DH → Hp → Prop} (h : HRep c μ G H) (g : G[r]? = some o) (n : ¬ isRol (some o)) (m : μ[r]? = some a) (n' : ¬ isRol (some o')) (ho : ∀ x : Ext μ H μ (upd H a u), ObjRep c μ (upd H a u) a o')
    (p : Post c Z μ H (putM r o' G) fun _ μ' G' H' => Q μ' G' H') : Q μ (G.set r o') (upd H a u) := by
  obtain ⟨u', e, n1, n2⟩ := (h.obj r o a g m).some_of n
  have x : Ext μ H μ (upd H a u) := Ext.mut (List.mem_of_getElem? m) e n1 n2 u
  exact p μ _ x (h.set g n m x n' (ho x))
noncomputable def liftSet (c : Wc) (Z : XC) (f : D → D → D → M Unit) : TSet := fun o i v H Q => ∃ d1 d2 d3 μ G, RepV c μ H d1 o ∧ RepV c μ H d2 i ∧ RepV c μ H d3 v ∧ HRep c μ G H ∧ Post c Z μ H (f d1 d2 d3 G) fun _ _ _ H' => Q H'
theorem pset_d (hu : X.A.units + 64 < cLine) : PSet X (liftSet (wc X) Z setD) := by
  intro pins s σ H o i v ov iv u Q I ro ri rv ⟨d1, d2, d3, μ, G, r1, r2, r3, hr, p⟩
  cases d1 with
  | ref r =>
    unfold RepV at r1
    obtain ⟨a, m, rfl⟩ := r1
    obtain ⟨ob, g, p1⟩ := objM_post p
    have rob := hr.obj r ob a g m
    cases ob with
    | lst l =>
      obtain ⟨vs, ea, rl⟩ := rob
      cases d2 with
      | int k =>
        dsimp only at p1
        cases hk : ixN l.length k with
        | none => simp only [hk] at p1; exact p1.elim
        | some j =>
          simp only [hk] at p1
          exact set_list pins s σ H (.ref a) i v ov iv u Q I ro ri rv ⟨a, vs, k, j, rfl, repI r2, ea, by rw [← rl.length]; exact hk, post_put (o' := .lst (l.set j d3)) (Q := fun _ _ H' => Q H') hr g (fun z => z) m (fun z => z) (fun x => ⟨_, upd_same, (rl.mono x).set (r3.mono x) j⟩) p1⟩
      | _ => exact p1.elim
    | dct l =>
      obtain ⟨kvs, ea, rk⟩ := rob
      dsimp only at p1
      cases hk : keyD d2 with
      | none => simp only [hk] at p1; exact p1.elim
      | some k =>
        simp only [hk] at p1
        split at p1
        · rename_i hz
          have ei := key_rep hk r2
          subst ei
          cases ro
          refine d_setItem (by omega) I (DPut.k ea (by rw [← rk.length]; exact hz)) ri rv fun s' I' => ⟨_, I', ?_⟩
          exact post_put (o' := .dct (putKD l k d3)) (Q := fun _ _ H' => Q H') hr g (fun z => z) m (fun z => z) (fun x => ⟨_, upd_same, repK_put (r3.mono x) (rk.mono x)⟩) p1
        · exact p1.elim
    | rol l => exact p1.elim
    | rod l => exact p1.elim
  | _ => exact p.elim
variable {a b e o i : Expr} {fa fb fo fi : Fe} {pos : Pos}
theorem dg_sub (hu : X.A.units + 64 < cLine) (ho : DE X Z o fo) (hi : DE X Z i fi)
    (ha : ∀ v, assign (.Subscript o i pos) X.env v = (do
      let ov ← holding [v] (eval o X.env)
      let iv ← holding [v, ov] (eval i X.env)
      standAt pos
      holding [v, ov, iv] (setItem ov iv v)
      release [v, ov, iv] [])) : DG X Z (.Subscript o i pos) (subG fo fi) :=
  DG.of (pg_sub ho.h hi.h (pset_d hu) ha) fun v σ H Q ⟨d, dσ, μ, G, r, s, h, p⟩ => ⟨dσ, μ, G, s, h, (Post.bind p).mono fun d1 μ1 G1 H1 x1 h1 p1 v1 r1 =>
    ⟨dσ, μ1, G1, s.mono x1, h1, (Post.bind p1).mono fun d2 μ2 G2 H2 x2 h2 p2 v2 r2 => ⟨d1, d2, d, μ2, G2, r1.mono x2, r2, r.mono (x1.trans x2), h2, (Post.bind p2).mono fun _ μ3 G3 H3 x3 h3 p3 => Post.ok p3 h3 σ (s.mono (x1.trans (x2.trans x3)))⟩⟩⟩
noncomputable def isListM : D → M Unit := fun x => match x with
  | .ref r => do
    match ← objM r with
    | .lst _ => pure ()
    | _ => M.stuck
  | _ => M.stuck
noncomputable def mtE (t : D → M Unit) (m : D → List D → M D) (fo : Fe) (fs : DSt → M (List D)) : Fe := fun σ => do
  let x ← fo σ
  let _ ← t x
  let xs ← fs σ
  m x xs
noncomputable def lstM (r : Nat) : M (List D) := do
  match ← objM r with
  | .lst l => pure l
  | _ => M.stuck
noncomputable def appendD : D → List D → M D := fun x xs => match x, xs with
  | .ref r, [y] => do
    let l ← lstM r
    if l.length < sizeLine then do
      let _ ← putM r (.lst (l ++ [y]))
      pure .non
    else M.stuck
  | _, _ => M.stuck
noncomputable def extendD : D → List D → M D := fun x xs => match x, xs with
  | .ref r, [.ref q] => do
    let l ← lstM r
    let k ← lstM q
    if l.length + k.length ≤ sizeLine then do
      let _ ← putM r (.lst (l ++ k))
      pure .non
    else M.stuck
  | _, _ => M.stuck
noncomputable def popD : D → List D → M D := fun x xs => match x, xs with
  | .ref r, [] => do
    let l ← lstM r
    match l.getLast? with
    | some y => do
      let _ ← putM r (.lst l.dropLast)
      pure y
    | none => M.stuck
  | _, _ => M.stuck
theorem lstM_post {α : Type} {r : Nat} {a : Addr} {f : List D → M α} {K : α → List Addr → DH → Hp → Prop} (h : HRep c μ G H) (m : μ[r]? = some a) (p : Post c Z μ H ((lstM r >>= f) G) K) :
    ∃ l vs, G[r]? = some (.lst l) ∧ H a = some (.lst vs) ∧ RepL c μ H l vs ∧ Post c Z μ H (f l G) K := by
  have p' : Post c Z μ H ((objM r >>= fun o => (match o with | .lst l => pure l | _ => M.stuck : M (List D)) >>= f) G) K := by rw [← M.bind_assoc]; exact p
  obtain ⟨o, g, p2⟩ := objM_post p'
  have ro := h.obj r o a g m
  cases o with
  | lst l => obtain ⟨vs, e, rl⟩ := ro; exact ⟨l, vs, g, e, rl, p2⟩
  | _ => exact p2.elim
noncomputable def MtD (X : Cx) (Z : XC) (id : String) (m : D → List D → M D) : Prop :=
  MtR X id fun x xs H Q => ∃ d ds μ G, RepV (wc X) μ H d x ∧ RepL (wc X) μ H ds xs ∧ HRep (wc X) μ G H ∧ Post (wc X) Z μ H (m d ds G) fun d μ' _ H' => ∀ v, RepV (wc X) μ' H' d v → Q v H'
theorem put_then {α : Type} {r : Nat} {a : Addr} {l l' : List D} {vs' : List V} {f : M α} {K : α → List Addr → DH → Hp → Prop} (h : HRep c μ G H) (g : G[r]? = some (.lst l)) (m : μ[r]? = some a) (rl : ∀ x : Ext μ H μ (upd H a (.lst vs')), RepL c μ (upd H a (.lst vs')) l' vs')
    (p : Post c Z μ H ((putM r (.lst l') >>= fun _ => f) G) K) : Ext μ H μ (upd H a (.lst vs')) ∧ HRep c μ (G.set r (.lst l')) (upd H a (.lst vs')) ∧ Post c Z μ (upd H a (.lst vs')) (f (G.set r (.lst l'))) K := by
  obtain ⟨u', e, n1, n2⟩ := (h.obj r _ a g m).some_of (fun z => z)
  have x : Ext μ H μ (upd H a (.lst vs')) := Ext.mut (List.mem_of_getElem? m) e n1 n2 _
  have h' : HRep c μ (G.set r (.lst l')) (upd H a (.lst vs')) := h.set g (fun z => z) m x (fun z => z) ⟨vs', upd_same, rl x⟩
  exact ⟨x, h', Post.from p x⟩
theorem md_append : MtD X Z "list.append" appendD := by
  intro pins s σ H x xs v us Q I rx rs ⟨d, ds, μ, G, rd, rds, hr, p⟩
  cases d with
  | ref r =>
    unfold RepV at rd
    obtain ⟨a, m, rfl⟩ := rd
    cases ds with
    | nil => exact p.elim
    | cons y t =>
      cases t with
      | cons _ _ => exact p.elim
      | nil =>
        obtain ⟨yv, tv, rfl, ry, e⟩ := rds
        cases e
        obtain ⟨l, vs, g, ea, rl, p1⟩ := lstM_post hr m p
        split at p1
        · rename_i hz
          obtain ⟨x1, h1, p2⟩ := put_then (l' := l ++ [y]) (vs' := vs ++ [yv]) hr g m (fun x => (rl.mono x).append (RepL.cons (ry.mono x) RepL.nil)) p1
          exact mt_append pins s σ H (.ref a) [yv] v us Q I rx rs ⟨a, vs, yv, rfl, rfl, ea, by rw [← rl.length]; exact hz, Post.ok p2 h1 _ ofN⟩
        · exact p1.elim
  | _ => exact p.elim
theorem md_extend : MtD X Z "list.extend" extendD := by
  intro pins s σ H x xs v us Q I rx rs ⟨d, ds, μ, G, rd, rds, hr, p⟩
  cases d with
  | ref r =>
    unfold RepV at rd
    obtain ⟨a, m, rfl⟩ := rd
    cases ds with
    | nil => exact p.elim
    | cons y t =>
      cases t with
      | cons _ _ => cases y <;> exact p.elim
      | nil =>
        obtain ⟨yv, tv, rfl, ry, e⟩ := rds
        cases e
        cases y with
        | ref q =>
          unfold RepV at ry
          obtain ⟨b, m2, rfl⟩ := ry
          obtain ⟨l, vs, g, ea, rl, p1⟩ := lstM_post hr m p
          obtain ⟨k, ws, g2, eb, rk, p2⟩ := lstM_post hr m2 p1
          split at p2
          · rename_i hz
            obtain ⟨x1, h1, p3⟩ := put_then (vs' := vs ++ ws) hr g m (fun x => (rl.mono x).append (rk.mono x)) p2
            exact mt_extend pins s σ H (.ref a) [.ref b] v us Q I rx rs ⟨a, b, vs, ws, rfl, rfl, ea, eb, by rw [← rl.length, ← rk.length]; exact hz, Post.ok p3 h1 _ ofN⟩
          · exact p2.elim
        | _ => exact p.elim
  | _ => exact p.elim
theorem md_pop : MtD X Z "list.pop" popD := by
  intro pins s σ H x xs v us Q I rx rs ⟨d, ds, μ, G, rd, rds, hr, p⟩
  cases d with
  | ref r =>
    unfold RepV at rd
    obtain ⟨a, m, rfl⟩ := rd
    cases ds with
    | cons _ _ => exact p.elim
    | nil =>
      cases rds
      obtain ⟨l, vs, g, ea, rl, p1⟩ := lstM_post hr m p
      cases hy : l.getLast? with
      | none => simp only [hy] at p1; exact p1.elim
      | some y =>
        simp only [hy] at p1
        obtain ⟨x1, h1, p2⟩ := put_then (vs' := vs.dropLast) hr g m (fun x => (rl.mono x).dropLast) p1
        rw [List.getLast?_eq_getElem?] at hy
        obtain ⟨yv, e1, ry⟩ := rl.get hy
        rw [rl.length] at e1
        exact mt_pop pins s σ H (.ref a) [] v us Q I rx rs ⟨a, vs, yv, rfl, rfl, ea, e1, Post.ok p2 h1 _ (ry.mono x1)⟩
  | _ => exact p.elim
variable {es : List Expr} {fs : DSt → M (List D)} {name : Str} {apos cpos : Pos} {id : String} {mm : D → List D → M D}
theorem isList_post {α : Type} {d : D} {v : V} {f : Unit → M α} {K : α → List Addr → DH → Hp → Prop} (h : HRep c μ G H) (r : RepV c μ H d v) (p : Post c Z μ H ((isListM d >>= f) G) K) : tyV c.K "list" v H ∧ Post c Z μ H (f () G) K := by
  cases d with
  | ref i =>
    unfold RepV at r
    obtain ⟨a, m, rfl⟩ := r
    have p' : Post c Z μ H ((objM i >>= fun o => (match o with | .lst _ => pure () | _ => M.stuck : M Unit) >>= f) G) K := by rw [← M.bind_assoc]; exact p
    obtain ⟨o, g, p2⟩ := objM_post p'
    have ro := h.obj i o a g m
    cases o with
    | lst l => obtain ⟨vs, e, rl⟩ := ro; exact ⟨.inl ⟨rfl, vs, SqL.of e⟩, p2⟩
    | _ => exact p2.elim
  | _ => exact p.elim
theorem de_mt (slot : Slot "list" name id) (hty : typeOf (.builtin id) = pure (.type "method_descriptor")) (hm : MtD X Z id mm) (ho : DE X Z o fo) (ha : DA X Z (e :: es) fs)
    (hbase : attributeBase o name X.env (eval o X.env) = eval o X.env)
    (hfew : ((backTo cpos (starEach (e :: es) X.env)).all (fun x => !x.1) && (backToKw cpos (keywordEach [] X.env)).all (fun x => x.1.isSome)
      && decide ((e :: es).length + ([] : List Keyword).length + (if ([] : List Keyword).isEmpty then 0 else 1) < 30)) = true)
    (hline : (apos.endLine == cpos.line) = true) (hs : starEach (e :: es) X.env = (false, eval e X.env) :: starEach es X.env) (hplain : (backTo cpos (starEach es X.env)).any (·.1) = false) :
    DE X Z (.Call (.Attribute o name apos) (e :: es) [] cpos) (mtE isListM mm fo fs) :=
  DE.of (pe_bm PySem.F.plainAttrs_list slot hty hm ho.h ha.h hbase hfew hline hs hplain) fun σ H Q ⟨dσ, μ, G, s, h, p⟩ => ⟨dσ, μ, G, s, h, (Post.bind p).mono fun d μ1 G1 H1 x1 h1 p1 v rv => by
    obtain ⟨ty, p2⟩ := isList_post h1 rv p1
    exact ⟨ty, dσ, μ1, G1, s.mono x1, h1, (Post.bind p2).mono fun ds μ2 G2 H2 x2 h2 p3 vs rvs => ⟨d, ds, μ2, G2, rv.mono x2, rvs, h2, p3⟩⟩⟩
theorem de_mt0 (slot : Slot "list" name id) (hty : typeOf (.builtin id) = pure (.type "method_descriptor")) (hm : MtD X Z id mm) (ho : DE X Z o fo)
    (hbase : attributeBase o name X.env (eval o X.env) = eval o X.env) (hline : (apos.endLine == cpos.line) = true) : DE X Z (.Call (.Attribute o name apos) [] [] cpos) (mtE isListM mm fo q11) :=
  DE.of (pe_bm0 PySem.F.plainAttrs_list slot hty hm ho.h hbase hline) fun σ H Q ⟨dσ, μ, G, s, h, p⟩ => ⟨dσ, μ, G, s, h, (Post.bind p).mono fun d μ1 G1 H1 x1 h1 p1 v rv => by
    obtain ⟨ty, p2⟩ := isList_post h1 rv p1
    exact ⟨ty, d, [], μ1, G1, rv, rfl, h1, p2⟩⟩
end
end DL
set_option Elab.async false
set_option linter.all false
set_option maxRecDepth 100000
namespace DL
open PySem PySem.Spec L2
open PyProof.Rows hiding St
noncomputable def SI (k : Bool) (h : Heap) (it a : Addr) (i : Nat) : Prop := if k then h.IsTupleIter it a i else h.IsListIter it a i
noncomputable def SC (k : Bool) (h : Heap) (a : Addr) (items : Array Value) : Prop := if k then h.IsTuple a items else h.IsList a items
section
variable {prog : Program} {w : World} {A : Around} {E : Value → Shared → Prop} {s : Shared} {k : Bool}
theorem SI.keep {h h' : Heap} {it a : Addr} {i : Nat} (x : SI k h it a i) (q : ∀ o, h.get? it = some o → h'.get? it = some o) : SI k h' it a i := by
  cases k with
  | true => exact Heap.IsTupleIter.at (show h.IsTupleIter it a i from x) q
  | false => exact Heap.IsListIter.at (show h.IsListIter it a i from x) q
theorem SC.keep {h h' : Heap} {a : Addr} {its : Array Value} (x : SC k h a its) (q : ∀ o, h.get? a = some o → h'.get? a = some o) : SC k h' a its := by
  cases k with
  | true => obtain ⟨o, e, r⟩ := (show h.IsTuple a its from x); exact ⟨o, q o e, r⟩
  | false => obtain ⟨o, e, r⟩ := (show h.IsList a its from x); exact ⟨o, q o e, r⟩
theorem SI.there {h : Heap} {it a : Addr} {i : Nat} (x : SI k h it a i) : ∃ o, h.get? it = some o ∧ ∀ v, o.data ≠ .cell v := by
  cases k with
  | true => obtain ⟨o, e, c, d⟩ := (show h.IsTupleIter it a i from x); exact ⟨o, e, fun v z => by rw [d] at z; cases z⟩
  | false => obtain ⟨o, e, c, d⟩ := (show h.IsListIter it a i from x); exact ⟨o, e, fun v z => by rw [d] at z; cases z⟩
structure ZA (z TI TO i1 i2 : Addr) : Prop where
  TIz : TI ≠ z
  TOz : TO ≠ z
  i1z : i1 ≠ z
  i2z : i2 ≠ z
  TITO : TI ≠ TO
  TIi1 : TI ≠ i1
  TIi2 : TI ≠ i2
  TOi1 : TO ≠ i1
  TOi2 : TO ≠ i2
  i12 : i1 ≠ i2
variable {z TI TO i1 i2 l1 l2 : Addr} {xs ys : Array Value} {k1 k2 : Bool} {i : Nat}
end
end DL
set_option Elab.async false
set_option linter.all false
set_option maxRecDepth 100000
namespace DL
open PySem PySem.Spec L2
open PyProof.Rows hiding St
section
variable {X : Cx} {pins : List (Addr × Obj)} {σ : St} {H : Hp} {s : Shared}
theorem inv_turned {h' : Heap} {t' : Nat} {ch : List Addr} (I : Inv X pins σ H s) (hf : ∀ b ∈ ch, FpOk X pins H b) (k : ∀ b o, b ∉ ch → s.heap.get? b = some o → h'.get? b = some o) : Inv X pins σ H { s with heap := h', toks := t' } := by
  have nch : ∀ b u, H b = some u → b ∉ ch := fun b u e z => by rw [(hf b z).1] at e; cases e
  refine I.step (g' := s.gens) (d' := s.drawn) (ch := ch) (fun b hb => ⟨(hf b hb).2.2.2.1, (hf b hb).2.1, (hf b hb).2.2.2.2.1, (hf b hb).2.2.2.2.2⟩) (fun b o _ _ hc e _ => k b o hc e) (fun b o _ _ hc e _ => ⟨o.slots, k b o hc e⟩)
    (fun _ _ _ _ n => n) (fun b o hc e => ⟨o, k b o hc e⟩) (fun _ _ e => e) (fun _ _ _ e => e) (fun b ps e => ⟨#[], by rw [e]; simp⟩) (fun m hm => ?_) (fun b u e => ?_) I.bare
  · obtain ⟨o, es, ep, ho, r⟩ := hm
    exact ⟨o, es, ep, k _ o (fun z => (hf _ z).2.1 rfl) ho, r⟩
  · refine (I.hok b u e).stay (fun c v hc q => k c v ?_ q) (fun _ q => q) fun _ _ q => q
    rcases hc with z | z
    · rw [z]; exact nch b u e
    · exact nch c _ z
end
noncomputable def Sq (K : PySem.W.Frag) (k : Bool) (H : Hp) (a : Addr) (vs : List V) : Prop := if k then SqT K H a vs else SqL K H a vs
section
variable {X : Cx} {Z : XC}
end
end DL
set_option Elab.async false
set_option linter.all false
set_option maxRecDepth 100000
namespace DL
open PySem PySem.Spec L2
open PyProof.Rows hiding St
section
variable {X : Cx} {Z : XC}
variable {tg e : Expr}
open Classical in
noncomputable def ckO (r : Nat) (o : DO) : DH → Bool := fun G => decide (G[r]? = some o)
noncomputable def srcM : D → M Src := fun x => match x with
  | .tup l => pure ⟨l, fun _ => true⟩
  | .ref r => do
    let o ← objM r
    let l ← listOf o
    pure ⟨l, ckO r o⟩
  | _ => M.stuck
noncomputable def SrcIs (c : Wc) (μ : List Addr) (H : Hp) (k : Bool) (a : Addr) (s : Src) : Prop := ∀ μ' G' H', Ext μ H μ' H' → HRep c μ' G' H' → s.ck G' = true → ∃ vs, Sq c.K k H' a vs ∧ RepL c μ' H' s.items vs
theorem srcM_post {α : Type} {c : Wc} {μ : List Addr} {H : Hp} {G : DH} {d : D} {v : V} {f : Src → M α} {K : α → List Addr → DH → Hp → Prop} (h : HRep c μ G H) (r : RepV c μ H d v) (p : Post c Z μ H ((srcM d >>= f) G) K) :
    ∃ s k a vs, v = .ref a ∧ Sq c.K k H a vs ∧ RepL c μ H s.items vs ∧ SrcIs c μ H k a s ∧ s.ck G = true ∧ (∀ i, d = .ref i → k = false) ∧ Post c Z μ H (f s G) K := by
  cases d with
  | tup l =>
    unfold RepV at r
    obtain ⟨a, vs, rfl, q, rl⟩ := r
    exact ⟨⟨l, fun _ => true⟩, true, a, vs, rfl, q, rl, fun μ' G' H' x h' _ => ⟨vs, x.sqT q, rl.mono x⟩, rfl, (fun i z => nomatch z), p⟩
  | ref i =>
    unfold RepV at r
    obtain ⟨a, m, rfl⟩ := r
    have p' : Post c Z μ H ((objM i >>= fun o => (listOf o >>= fun l => (pure ⟨l, ckO i o⟩ : M Src)) >>= f) G) K := by rw [← M.bind_assoc]; exact p
    obtain ⟨o, g, p2⟩ := objM_post p'
    have ro := h.obj i o a g m
    have ck : ckO i o G = true := by unfold ckO; simp [g]
    cases o with
    | lst l =>
      obtain ⟨vs, q, rl⟩ := ro
      refine ⟨⟨l, ckO i (.lst l)⟩, false, a, vs, rfl, SqL.of q, rl, fun μ' G' H' x h' hck => ?_, ck, (fun _ _ => rfl), p2⟩
      have g' : G'[i]? = some (.lst l) := by unfold ckO at hck; simpa using hck
      obtain ⟨vs', q', rl'⟩ := h'.obj i _ a g' (pre_get x.pre m)
      exact ⟨vs', SqL.of q', rl'⟩
    | rol l =>
      obtain ⟨vs, q, rl⟩ := ro
      refine ⟨⟨l, ckO i (.rol l)⟩, false, a, vs, rfl, q.sq, rl, fun μ' G' H' x h' hck => ?_, ck, (fun _ _ => rfl), p2⟩
      have g' : G'[i]? = some (.rol l) := by unfold ckO at hck; simpa using hck
      obtain ⟨vs', q', rl'⟩ := h'.obj i _ a g' (pre_get x.pre m)
      exact ⟨vs', q'.sq, rl'⟩
    | dct l => exact p2.elim
    | rod l => exact p2.elim
  | _ => exact p.elim
theorem rep_get {c : Wc} {μ : List Addr} {H : Hp} {l : List D} {vs : List V} {i : Nat} {d : D} {x : V} (r : RepL c μ H l vs) (h : l[i]? = some d) (hx : vs[i]? = some x) : RepV c μ H d x := by
  obtain ⟨v, e, q⟩ := r.get h
  rw [hx] at e
  cases e
  exact q
noncomputable def rangeL (lo : Int) (n : Nat) : List D := (List.range n).map fun (i : Nat) => D.int (lo + (i : Int))
noncomputable def itRng1 (fs : DSt → M (List D)) : DSt → M Src := fun σ => do
  match ← fs σ with
  | [.int j] => if -(2 ^ 62) ≤ j ∧ j < 2 ^ 62 then pure ⟨rangeL 0 j.toNat, fun _ => true⟩ else M.stuck
  | _ => M.stuck
theorem itd_range {c : Wc} {μ : List Addr} {H : Hp} (lo : Int) (n : Nat) : ItD c μ H (Itr lo n) ⟨rangeL lo n, fun _ => true⟩ := fun μ' G' H' x' h' _ i => by
  refine ⟨fun d hd => ?_, fun hi => ?_⟩
  · have hi : i < n := by have := lt_of_get hd; simpa [rangeL] using this
    have e : d = .int (lo + i) := by
      unfold rangeL at hd
      rw [List.getElem?_map, List.getElem?_range hi] at hd
      simp at hd
      exact hd.symm
    subst e
    exact ⟨hi, fun x H2 ⟨e1, e2⟩ => by subst e1 e2; exact ⟨Ext.refl _ _, h', ofI⟩⟩
  · show n ≤ i
    simpa [rangeL] using hi
theorem di_rng1 {a : Expr} {fs : DSt → M (List D)} {p pos : Pos} (hg : Gl X "range") (hm : X.mg "range" = none) (ha : DA X Z [a] fs) (hs : starEach [a] X.env = [(false, eval a X.env)]) : DI X Z tg (.Call (.Name "range" p) [a] [] pos) (itRng1 fs) :=
  DI.of (pi_range1 hg hm ha.h hs) fun σ H R ⟨dσ, μ, G, s, h, p⟩ => ⟨dσ, μ, G, s, h, (Post.bind p).mono fun ds μ1 G1 H1 x1 h1 p1 vs rv => by
    split at p1
    · rename_i j
      split at p1
      · rename_i hj
        obtain ⟨v, t, rfl, r0, e⟩ := rv
        cases e
        exact ⟨j, by rw [repI r0], hj.1, hj.2, Post.ok p1 h1 _ (itd_range 0 _)⟩
      · exact p1.elim
    · exact p1.elim⟩
end
end DL
set_option Elab.async false
set_option linter.all false
set_option maxRecDepth 100000
namespace DL
open PySem PySem.Spec L2
open PyProof.Rows hiding St
noncomputable def lenF : List D → M D := fun ds => match ds with
  | [.str z] => if z.length ≤ sizeLine then pure (.int z.length) else M.stuck
  | [.tup l] => pure (.int l.length)
  | [.ref r] => do
    match ← objM r with
    | .lst l => pure (.int l.length)
    | .rol l => pure (.int l.length)
    | .dct l => pure (.int l.length)
    | .rod _ => M.stuck
  | _ => M.stuck
noncomputable def tupleF : List D → M D := fun ds => match ds with
  | [.tup l] => pure (.tup l)
  | [.ref r] => do
    let l ← objM r >>= listOf
    pure (.tup l)
  | _ => M.stuck
noncomputable def listF : List D → M D := fun ds => match ds with
  | [.tup l] => allocM (.lst l)
  | [.ref r] => do
    let l ← objM r >>= listOf
    allocM (.lst l)
  | _ => M.stuck
noncomputable def absF : List D → M D := fun ds => match ds with
  | [.int i] => pure (.int (if i < 0 then -i else i))
  | _ => M.stuck
noncomputable def intF : List D → M D := fun ds => match ds with
  | [.int i] => pure (.int i)
  | [.bl k] => pure (.int (if k then 1 else 0))
  | _ => M.stuck
noncomputable def intsOf : List D → Option (List Int)
  | [] => some []
  | .int i :: r => (intsOf r).map (i :: ·)
  | _ => none
noncomputable def blsOf : List D → Option (List Bool)
  | [] => some []
  | .bl b :: r => (blsOf r).map (b :: ·)
  | _ => none
noncomputable def sumF : List D → M D := fun ds => match ds with
  | [.ref r] => do
    let l ← objM r >>= listOf
    let ns ← optM (intsOf l)
    pure (.int ns.sum)
  | _ => M.stuck
noncomputable def anyF : List D → M D := fun ds => match ds with
  | [.ref r] => do
    let l ← objM r >>= listOf
    let bs ← optM (blsOf l)
    pure (.bl (bs.any id))
  | _ => M.stuck
section
variable {X : Cx} {Z : XC} {c : Wc} {μ : List Addr} {H : Hp} {G : DH}
theorem rep1 {d : D} {vs : List V} (r : RepL c μ H [d] vs) : ∃ v, vs = [v] ∧ RepV c μ H d v := by
  obtain ⟨v, t, rfl, q, e⟩ := r
  cases e
  exact ⟨v, rfl, q⟩
theorem cd_len : CallD X Z (.builtin "len") lenF := CallD.of (CallR.or call_len_seq (CallR.or call_len_str call_lenD)) fun xs H Q ⟨ds, μ, G, rl, hr, p⟩ => by
  unfold lenF at p
  split at p
  · rename_i z
    obtain ⟨v, rfl, r⟩ := rep1 rl
    split at p
    · rename_i hz
      exact .inr (.inl ⟨z, by rw [repS r], hz, Post.ok p hr _ ofI⟩)
    · exact p.elim
  · rename_i l
    obtain ⟨v, rfl, r⟩ := rep1 rl
    unfold RepV at r
    obtain ⟨a, vs, rfl, q, rl'⟩ := r
    exact .inl ⟨a, vs, rfl, .inr q, by rw [← rl'.length]; exact Post.ok p hr _ ofI⟩
  · rename_i i
    obtain ⟨v, rfl, r⟩ := rep1 rl
    unfold RepV at r
    obtain ⟨a, m, rfl⟩ := r
    obtain ⟨o, g, p1⟩ := objM_post p
    have ro := hr.obj i o a g m
    cases o with
    | lst l => obtain ⟨vs, q, rl'⟩ := ro; exact .inl ⟨a, vs, rfl, .inl (SqL.of q), by rw [← rl'.length]; exact Post.ok p1 hr _ ofI⟩
    | rol l => obtain ⟨vs, q, rl'⟩ := ro; exact .inl ⟨a, vs, rfl, .inl q.sq, by rw [← rl'.length]; exact Post.ok p1 hr _ ofI⟩
    | dct l => obtain ⟨kvs, q, rk⟩ := ro; exact .inr (.inr ⟨a, kvs, rfl, q, by rw [← rk.length]; exact Post.ok p1 hr _ ofI⟩)
    | rod l => exact p1.elim
  · exact p.elim
theorem seq_of_ref {α : Type} {r : Nat} {v : V} {f : List D → M α} {K : α → List Addr → DH → Hp → Prop} (h : HRep c μ G H) (rv : RepV c μ H (.ref r) v) (p : Post c Z μ H (((objM r >>= listOf) >>= f) G) K) :
    ∃ l a vs, v = .ref a ∧ RepL c μ H l vs ∧ SqL c.K H a vs ∧ Post c Z μ H (f l G) K := by
  obtain ⟨l, a, vs, rfl, rl, p2, hq⟩ := seqM_post (d := .ref r) (f := f) h rv p
  refine ⟨l, a, vs, rfl, rl, ?_, p2⟩
  rcases hq with ⟨z, _⟩ | ⟨_, _, _, ⟨_, q⟩ | ⟨_, q⟩⟩
  · cases z
  · exact SqL.of q
  · exact q.sq
theorem cd_tuple : CallD X Z (.type "tuple") tupleF := CallD.of call_tuple_of fun xs H Q ⟨ds, μ, G, rl, hr, p⟩ => by
  unfold tupleF at p
  split at p
  · rename_i l
    obtain ⟨v, rfl, r⟩ := rep1 rl
    have r' := r
    unfold RepV at r'
    obtain ⟨a, vs, rfl, q, rl'⟩ := r'
    exact ⟨a, vs, rfl, .inr ⟨q, Post.ok p hr _ r⟩⟩
  · rename_i i
    obtain ⟨v, rfl, r⟩ := rep1 rl
    obtain ⟨l, a, vs, rfl, rl', q, p2⟩ := seq_of_ref hr r p
    exact ⟨a, vs, rfl, .inl ⟨q, fun l' hl => post_tup hr rl' p2 l' hl⟩⟩
  · exact p.elim
theorem cd_list : CallD X Z (.type "list") listF := CallD.of call_list_of fun xs H Q ⟨ds, μ, G, rl, hr, p⟩ => by
  unfold listF at p
  split at p
  · rename_i l
    obtain ⟨v, rfl, r⟩ := rep1 rl
    unfold RepV at r
    obtain ⟨a, vs, rfl, q, rl'⟩ := r
    exact ⟨a, vs, rfl, .inr q, fun l' hl => post_lst hr rl' p l' hl⟩
  · rename_i i
    obtain ⟨v, rfl, r⟩ := rep1 rl
    obtain ⟨l, a, vs, rfl, rl', q, p2⟩ := seq_of_ref hr r p
    exact ⟨a, vs, rfl, .inl q, fun l' hl => post_lst hr rl' p2 l' hl⟩
  · exact p.elim
theorem cd_abs : CallD X Z (.builtin "abs") absF := CallD.of call_abs fun xs H Q ⟨ds, μ, G, rl, hr, p⟩ => by
  unfold absF at p
  split at p
  · obtain ⟨v, rfl, r⟩ := rep1 rl
    exact ⟨_, by rw [repI r], Post.ok p hr _ ofI⟩
  · exact p.elim
theorem cd_int : CallD X Z (.type "int") intF := CallD.of call_int1 fun xs H Q ⟨ds, μ, G, rl, hr, p⟩ => by
  unfold intF at p
  split at p
  · obtain ⟨v, rfl, r⟩ := rep1 rl
    exact .inl ⟨_, by rw [repI r], Post.ok p hr _ ofI⟩
  · obtain ⟨v, rfl, r⟩ := rep1 rl
    exact .inr ⟨_, by rw [repB r], Post.ok p hr _ ofI⟩
  · exact p.elim
theorem ints_vals : ∀ {l : List D} {ns : List Int} {vs : List V} {us : List Value}, intsOf l = some ns → RepL c μ H l vs → Vals vs us → us.length = ns.length ∧ ∀ (i : Nat) (u : Value), us[i]? = some u → ∃ t, u = Value.int (ns.getD i 0) t
  | [], _, _, _, e, r, q => by cases e; cases r; cases q; exact ⟨rfl, fun i u h => by simp at h⟩
  | d :: ds, ns, _, _, e, r, q => by
    obtain ⟨v, t, rfl, r0, rt⟩ := r
    cases q with
    | cons q0 qt =>
      cases d with
      | int n =>
        unfold intsOf at e
        cases h : intsOf ds with
        | none => rw [h] at e; cases e
        | some ms =>
          rw [h] at e
          cases e
          obtain ⟨h1, h2⟩ := ints_vals h rt qt
          refine ⟨by simp [h1], fun i u hu => ?_⟩
          cases i with
          | zero =>
            simp at hu; subst hu
            rw [repI r0] at q0
            exact q0
          | succ i => simpa using h2 i u (by simpa using hu)
      | _ => cases e
theorem bls_vals : ∀ {l : List D} {bs : List Bool} {vs : List V} {us : List Value}, blsOf l = some bs → RepL c μ H l vs → Vals vs us → us.length = bs.length ∧ ∀ (i : Nat) (u : Value), us[i]? = some u → u = Value.bool (bs.getD i false)
  | [], _, _, _, e, r, q => by cases e; cases r; cases q; exact ⟨rfl, fun i u h => by simp at h⟩
  | d :: ds, ns, _, _, e, r, q => by
    obtain ⟨v, t, rfl, r0, rt⟩ := r
    cases q with
    | cons q0 qt =>
      cases d with
      | bl n =>
        unfold blsOf at e
        cases h : blsOf ds with
        | none => rw [h] at e; cases e
        | some ms =>
          rw [h] at e
          cases e
          obtain ⟨h1, h2⟩ := bls_vals h rt qt
          refine ⟨by simp [h1], fun i u hu => ?_⟩
          cases i with
          | zero =>
            simp at hu; subst hu
            rw [repB r0] at q0
            exact q0
          | succ i => simpa using h2 i u (by simpa using hu)
      | _ => cases e
theorem range_any (bs : List Bool) : ((List.range bs.length).any fun i => bs.getD i false) = bs.any id := by
  induction bs with
  | nil => rfl
  | cons b t ih => rw [List.length_cons, List.range_succ_eq_map, List.any_cons, List.any_map, List.any_cons]; simp [Function.comp_def]; rw [← ih]; simp
theorem walk_list {pins : List (Addr × Obj)} {σ : St} {s : Shared} {a : Addr} {its : List Value} (hc : X.calm = true) (I : Inv X pins σ H s) (hl : s.heap.IsList a its.toArray) {Q : Value → Shared → Prop} {E : Value → Shared → Prop}
    (h : Walks X.prog X.w X.A.in1 s.heap.objs.size [s.heap.objs.size, a] [s.heap.objs.size] its.toArray.size (fun i v => its.toArray[i]? = some v) (fun i h => h.IsListIter s.heap.objs.size a i ∧ h.IsList a its.toArray) →
      ∀ h2 : Heap, (h2.IsListIter s.heap.objs.size a 0 ∧ h2.IsList a its.toArray) → (∀ b ∈ [s.heap.objs.size, a], b < h2.objs.size) → (∀ h' tk, (∀ b o, b ∉ [s.heap.objs.size] → h2.get? b = some o → h'.get? b = some o) → Inv X pins σ H { s with heap := h', toks := tk }) → Q (.ref s.heap.objs.size) { s with heap := h2 }) :
    wpAny (model X.prog X.w) X.A.in1 (pyIter (.ref a)) Q E s := by
  have hlt : a < s.heap.objs.size := by obtain ⟨_, e, _⟩ := hl; exact Heap.lt_size e
  refine wpAny_pyIter_list hl ?_
  have hh : X.A.in1.handled = none := I.ok.hd hc
  refine h (Walks.list hh s.heap.objs.size a (Nat.ne_of_lt hlt) its.toArray) _ ⟨⟨_, Heap.get?_push_size _ rfl, rfl, rfl⟩, hl.push _⟩ (fun b hb => ?_) fun h' tk k => ?_
  · rw [Heap.size_push]
    simp only [List.mem_cons, List.not_mem_nil, or_false] at hb
    rcases hb with rfl | rfl
    · exact Nat.lt_succ_self _
    · exact Nat.lt_succ_of_lt hlt
  · exact I.kept fun b o e => k b o (by simp only [List.mem_singleton]; exact Nat.ne_of_lt (Heap.lt_size e)) (Heap.get?_push_of_some _ e)
theorem cd_sum (hc : X.calm = true) : CallD X Z (.builtin "sum") sumF := ⟨by
  intro pins s σ H xs us Q I r ⟨ds, μ, G, rl, hr, p⟩
  unfold sumF at p
  split at p
  · rename_i i
    obtain ⟨v, rfl, rv⟩ := rep1 rl
    obtain ⟨u, rfl, ru⟩ := vals1 r
    obtain ⟨l, a, vs, rfl, rl', q, p2⟩ := seq_of_ref hr rv p
    cases ru
    obtain ⟨ns, en, p3⟩ := optM_post p2
    obtain ⟨its, rr, pl, hz⟩ := I.list q
    obtain ⟨h1, h2⟩ := ints_vals en rl' rr
    refine call_sum_walkG (walk_list hc I pl.isList fun W g hg hb hk => ⟨_, _, _, _, _, _, fun i => ns.getD i 0, rfl, W, hg, hb, fun i v hv => h2 i v (by simpa using hv), fun h' tk t' k => ?_⟩)
    refine ⟨.int ns.sum, H, hk h' tk k, ⟨t', ?_⟩, Post.ok p3 hr _ ofI⟩
    have e := preSum_getD ns its.toArray.size
    rw [e, List.take_of_length_le (by rw [List.size_toArray]; omega)]
  · exact p.elim⟩
theorem cd_any (hc : X.calm = true) : CallD X Z (.builtin "any") anyF := ⟨by
  intro pins s σ H xs us Q I r ⟨ds, μ, G, rl, hr, p⟩
  unfold anyF at p
  split at p
  · rename_i i
    obtain ⟨v, rfl, rv⟩ := rep1 rl
    obtain ⟨u, rfl, ru⟩ := vals1 r
    obtain ⟨l, a, vs, rfl, rl', q, p2⟩ := seq_of_ref hr rv p
    cases ru
    obtain ⟨bs, en, p3⟩ := optM_post p2
    obtain ⟨its, rr, pl, hz⟩ := I.list q
    obtain ⟨h1, h2⟩ := bls_vals en rl' rr
    refine call_any_walk (walk_list hc I pl.isList fun W g hg hb hk => ⟨_, _, _, _, _, _, fun i => bs.getD i false, rfl, W, hg, fun i v s' Q' E' hv hq => ?_, fun h' tk k => ?_⟩)
    · rw [h2 i v (by simpa using hv)]
      exact wpAny_truthy_bool hq
    · refine ⟨.bl (bs.any id), H, hk h' tk k, ?_, Post.ok p3 hr _ ofB⟩
      have e : its.toArray.size = bs.length := by rw [List.size_toArray]; exact h1
      rw [e, range_any]; rfl
  · exact p.elim⟩
theorem de_ty {x : Str} {n : String} {pos : Pos} (hg : Gl X x) (hm : X.mg x = none) (hv : bootBuiltins x = some (.type n)) (hn : x ≠ "__name__" := by decide) (hd : (x == ("__debug__" : Str)) = false := by decide) : DE X Z (.Name x pos) (cE (.ty n)) :=
  de_c (v := .ty n) (pe_bltn hg hm hv rfl hn hd) fun _ _ => by unfold RepV; rfl
end
end DL
set_option Elab.async false
set_option linter.all false
set_option maxRecDepth 100000
namespace DL
open PySem PySem.Spec L2
open PyProof.Rows hiding St
noncomputable def truthD : D → M Bool := fun x => match x with
  | .non => pure false
  | .bl b => pure b
  | .int i => pure (i != 0)
  | .str y => if y.length ≤ sizeLine then pure ((y.length : Int) != 0) else M.stuck
  | .tup l => pure (!l.isEmpty)
  | .ref r => do
    match ← objM r with
    | .lst l => pure (!l.isEmpty)
    | .rol l => pure (!l.isEmpty)
    | .dct l => pure (!l.isEmpty)
    | .rod _ => M.stuck
  | _ => M.stuck
noncomputable def truthE (f : Fe) : DSt → M Bool := fun σ => do truthD (← f σ)
section
variable {X : Cx} {Z : XC} {a b c e : Expr} {fa fb fc : Fe} {pos : Pos}
theorem repL_empty {cc : Wc} {μ : List Addr} {H : Hp} {l : List D} {vs : List V} (r : RepL cc μ H l vs) : vs.isEmpty = l.isEmpty := by
  cases l with
  | nil => cases r; rfl
  | cons _ _ => obtain ⟨_, _, rfl, _⟩ := r; rfl
theorem repK_empty {cc : Wc} {μ : List Addr} {H : Hp} {l : List (Key × D)} {vs : List (Key × V)} (r : RepK cc μ H l vs) : vs.isEmpty = l.isEmpty := by
  cases l with
  | nil => cases r; rfl
  | cons _ _ => obtain ⟨_, _, rfl, _⟩ := r; rfl
theorem dt_truth (ha : DE X Z a fa) (he : ∀ whole, isTrue a X.env whole = (do let v ← whole; standAt a.pos; holding [v] (truthy v))) : DT X Z a (truthE fa) :=
  DT.of (pt_truth ha.h he) fun σ H Q ⟨dσ, μ, G, s, h, p⟩ => ⟨dσ, μ, G, s, h, (Post.bind p).mono fun d μ1 G1 H1 x1 h1 p1 v rv => by
    cases d with
    | non => rw [repN rv]; exact ⟨false, rfl, Post.ok p1 h1⟩
    | bl b => rw [repB rv]; exact ⟨b, rfl, Post.ok p1 h1⟩
    | int b => rw [repI rv]; exact ⟨_, rfl, Post.ok p1 h1⟩
    | str y =>
      rw [repS rv]
      unfold truthD at p1
      dsimp only at p1
      split at p1
      · rename_i hz; exact ⟨_, ⟨hz, rfl⟩, Post.ok p1 h1⟩
      · exact p1.elim
    | tup l =>
      unfold RepV at rv
      obtain ⟨a, vs, rfl, q, rl⟩ := rv
      exact ⟨!vs.isEmpty, .inr (.inl ⟨vs, q, rfl⟩), by rw [repL_empty rl]; exact Post.ok p1 h1⟩
    | ref r =>
      unfold RepV at rv
      obtain ⟨a, m, rfl⟩ := rv
      obtain ⟨o, g, p2⟩ := objM_post p1
      have ro := h1.obj r o a g m
      cases o with
      | lst l => obtain ⟨vs, q, rl⟩ := ro; exact ⟨!vs.isEmpty, .inl ⟨vs, SqL.of q, rfl⟩, by rw [repL_empty rl]; exact Post.ok p2 h1⟩
      | rol l => obtain ⟨vs, q, rl⟩ := ro; exact ⟨!vs.isEmpty, .inl ⟨vs, q.sq, rfl⟩, by rw [repL_empty rl]; exact Post.ok p2 h1⟩
      | dct l => obtain ⟨vs, q, rl⟩ := ro; exact ⟨!vs.isEmpty, .inr (.inr ⟨vs, q, rfl⟩), by rw [repK_empty rl]; exact Post.ok p2 h1⟩
      | rod l => exact p2.elim
    | _ => exact p1.elim⟩
noncomputable def chainE (o o' : D → D → M D) (fa fb fc : Fe) : Fe := fun σ => do
  let x ← fa σ
  let y ← fb σ
  if ← isBl (← o x y) then o' y (← fc σ) else pure (.bl false)
end
noncomputable def compOkB (osc scope : Scope) (N XN : List Str) (caps : List (Option Nat)) : Bool :=
  decide (scope.kind = .function) && scope.names.all (fun y => decide (y.2 ≠ .cell)) && scope.names.all (fun y => decide (y.2 = .local → scope.names.lookup y.1 = some .local)) &&
  scope.names.all (fun y => decide (y.2 = .free → (osc.names.lookup y.1 = some .cell ∨ osc.names.lookup y.1 = some .free))) && scope.names.all (fun y => decide (y.2 = .free → scope.names.lookup y.1 = some .free)) &&
  decide (caps.length = N.length) && (List.range caps.length).all fun i => match caps[i]? with
    | some (some j) => match N[i]?, XN[j]? with
      | some x, some y => decide (x = y) && decide ((x, NameKind.free) ∈ scope.names)
      | _, _ => false
    | _ => true
theorem CompOk.of {X : Cx} {osc scope : Scope} {N XN : List Str} {caps : List (Option Nat)} (h : compOkB osc scope N XN caps = true) (hs : X.env.scope = osc) (hN : X.N = XN) : CompOk X scope N caps := by
  unfold compOkB at h
  simp only [Bool.and_eq_true, decide_eq_true_eq, List.all_eq_true] at h
  obtain ⟨⟨⟨⟨⟨⟨h1, h2⟩, h3⟩, h4⟩, h5⟩, h6⟩, h7⟩ := h
  refine ⟨h1, h2, h3, fun y hy e => ?_, h5, h6, fun i j e => ?_⟩
  · have := h4 y hy e
    show X.env.scope.names.lookup y.1 = _ ∨ X.env.scope.names.lookup y.1 = _
    rw [hs]; exact this
  · have hi : i ∈ List.range caps.length := by rw [List.mem_range]; exact lt_of_get e
    have q := h7 i hi
    simp only [e] at q
    rw [hN]
    split at q
    · rename_i x y e1 e2
      simp only [Bool.and_eq_true, decide_eq_true_eq] at q
      exact ⟨x, e1, by rw [e2, q.1], q.2⟩
    · cases q
noncomputable def bodyF (m : Nat) (fb : Fs) : List D → M D := fun ds => do
  match ← fb (ds.map some ++ List.replicate (m - ds.length) none) with
  | .nx _ => pure .non
  | .rt d => pure d
  | _ => M.stuck
structure FF (K : PySem.W.Frag) (mg : Str → Option Value) (x : Str) (st : Stmt) (ps : List Str) (f : Addr) (fd : FuncData) : Prop where
  F : Fun K x x st f fd
  b : Binds K fd ps []
  m : mg x = some (.ref f)
theorem start_rep {c : Wc} {μ : List Addr} {H : Hp} {N : List Str} {ds : List D} {vs : List V} (r : RepL c μ H ds vs) : StRep c μ H (ds.map some ++ List.replicate (N.length - ds.length) none) (L2.start N vs) := by
  unfold L2.start
  rw [r.length]
  refine ⟨by simp [r.length], fun i d e => ?_⟩
  by_cases hi : i < ds.length
  · rw [List.getElem?_append_left (by simpa using hi), List.getElem?_map] at e
    have hd : ds[i]? = some d := by
      cases h : ds[i]? with
      | none => rw [h] at e; cases e
      | some d' => rw [h] at e; simpa using e
    obtain ⟨v, hv, rv⟩ := r.get hd
    refine ⟨v, ?_, rv⟩
    rw [List.getElem?_append_left (by simp; rw [← r.length]; exact hi), List.getElem?_map, hv]
    rfl
  · rw [List.getElem?_append_right (by simpa using hi), List.getElem?_replicate] at e
    split at e <;> cases e
theorem fn_d {P : Program} {w : World} {K : PySem.W.Frag} {mg : Str → Option Value} {base : Heap} {x : Str} {st : Stmt} {f : Addr} {fd : FuncData} {N ps : List Str} {k n m : Nat} {fb : Fs} (F : FF K mg x st ps f fd) (S : FnScope N ps (defScope st)) (hn : ps.length = n) (hm : N.length = m)
    (hbody : ∀ (cdv : Value) (A : Around) (outer : List Env) (s : Shared) (H : Hp) (E : XK), Room k (A.deeper (envOfC x (defScope st) s.heap.objs.size f cdv)) → DB (cxOf CX0 P w K mg base N x (defScope st) f cdv A outer s H E).nox ZF (defBody st) fb) :
    FnOk P w K mg base CX0 (k + 1) f fd ps (spD ⟨K, mg⟩ n (bodyF m fb)) := by
  refine F.F.ok S (fun vs H Q E h => by rw [hn]; exact h.1) fun cdv A outer s H vs Q E hr h => ⟨_, (hbody cdv A outer s H E hr).h, ?_⟩
  obtain ⟨hl, ds, μ, G, rl, hG, p⟩ := h
  subst hm
  refine ⟨_, μ, G, start_rep rl, hG, (Post.bind p).mono fun fl μ1 G1 H1 x1 h1 p1 => ?_⟩
  cases fl with
  | nx dσ => exact fun σ _ => Post.ok p1 h1 _ ofN
  | rt d => exact fun v rv => Post.ok p1 h1 v rv
  | bk _ => exact p1.elim
  | ct _ => exact p1.elim
noncomputable def spLaw (K : PySem.W.Frag) : Sp := fun vs H Q _ => ∃ (a : Addr) (ns : List Int), vs = [.ref a] ∧ SqL K H a (ns.map V.int) ∧ Only H ∧ ns.length ≤ 63 ∧ ∀ H', Q (.bl true) H'
theorem rep_ints {c : Wc} {μ : List Addr} {H : Hp} : ∀ ns : List Int, RepL c μ H (ns.map D.int) (ns.map V.int)
  | [] => rfl
  | n :: t => ⟨.int n, _, rfl, ofI, rep_ints t⟩
theorem law_of {P : Program} {w : World} {K : PySem.W.Frag} {mg : Str → Option Value} {base : Heap} {f : Addr} {fd : FuncData} {k : Nat} {F : List D → M D} (hF : FnOk P w K mg base CX0 k f fd ["script"] (spD ⟨K, mg⟩ 1 F))
    (pure : ∀ ns : List Int, ns.length ≤ 63 → ∃ G', F [.ref 0] [.rol (ns.map D.int)] = some (.ok (.bl true), G')) : FnOk P w K mg base CX0 k f fd ["script"] (spLaw K) :=
  hF.imp fun vs H Q E h => by
    obtain ⟨a, ns, rfl, hS, hO, hl, q⟩ := h
    obtain ⟨G', e⟩ := pure ns hl
    refine ⟨rfl, [.ref 0], [a], [.rol (ns.map D.int)], ⟨.ref a, [], rfl, by unfold RepV; exact ⟨a, rfl, rfl⟩, rfl⟩, ⟨rfl, fun i j b e1 e2 => ?_, fun i o b e1 e2 => ?_⟩, ?_⟩
    · have h1 := lt_of_get e1
      have h2 := lt_of_get e2
      simp at h1 h2
      left; omega
    · have h1 := lt_of_get e2
      simp at h1
      subst h1
      have e1' : o = .rol (ns.map D.int) := by simpa using e1.symm
      have e2' : b = a := by simpa using e2.symm
      subst e1' e2'
      refine ⟨ns.map V.int, ?_, rep_ints ns⟩
      rcases hS with (hS | ⟨o, hS⟩) | hS
      · rcases hO b with z | ⟨o, xs, z⟩
        · rw [z] at hS; cases hS
        · rw [z] at hS; cases hS
      · exact .inl ⟨o, hS⟩
      · exact .inr (.inr hS)
    · rw [e]
      exact fun μ' H' _ _ v rv => by rw [repB rv]; exact q H'
end DL
set_option Elab.async false
namespace DL
open PySem PySem.Spec L2
open PyProof.Rows hiding St
theorem bt_len : bootBuiltins "len" = some (.builtin "len") := by decide +kernel
theorem bt_isinstance : bootBuiltins "isinstance" = some (.builtin "isinstance") := by decide +kernel
theorem bt_any : bootBuiltins "any" = some (.builtin "any") := by decide +kernel
theorem bt_sum : bootBuiltins "sum" = some (.builtin "sum") := by decide +kernel
theorem bt_abs : bootBuiltins "abs" = some (.builtin "abs") := by decide +kernel
theorem bt_sorted : bootBuiltins "sorted" = some (.builtin "sorted") := by decide +kernel
theorem bt_tuple : bootBuiltins "tuple" = some (.type "tuple") := by decide +kernel
theorem bt_list : bootBuiltins "list" = some (.type "list") := by decide +kernel
theorem bt_int : bootBuiltins "int" = some (.type "int") := by decide +kernel
end DL
set_option Elab.async false
set_option linter.all false
set_option maxRecDepth 100000
namespace DL
open PySem L2
noncomputable def Wp {α : Type} (m : M α) (G : DH) (Q : α → DH → Prop) : Prop := ∃ a G', m G = some (.ok a, G') ∧ Q a G'
section
variable {α β : Type} {G : DH} {Q Q' : α → DH → Prop}
theorem Wp.mono {m : M α} (h : Wp m G Q) (k : ∀ a G', Q a G' → Q' a G') : Wp m G Q' := let ⟨a, G', e, q⟩ := h; ⟨a, G', e, k a G' q⟩
theorem wp_pure {a : α} : Wp (pure a) G Q ↔ Q a G := by
  constructor
  · rintro ⟨b, G', e, q⟩
    cases e
    exact q
  · exact fun q => ⟨a, G, rfl, q⟩
theorem wp_stuck : Wp (M.stuck : M α) G Q ↔ False := by
  constructor
  · rintro ⟨b, G', e, q⟩
    cases e
  · exact False.elim
theorem wp_bind {m : M β} {f : β → M α} : Wp (m >>= f) G Q ↔ Wp m G fun a G1 => Wp (f a) G1 Q := by
  constructor
  · rintro ⟨a, G', e, q⟩
    rw [M.bind_eq] at e
    match h : m G, e with
    | some (.ok b, G1), e => exact ⟨b, G1, h, a, G', e, q⟩
  · rintro ⟨b, G1, e, a, G', e', q⟩
    exact ⟨a, G', by rw [M.bind_ok e]; exact e', q⟩
theorem wp_some {m : M α} {a : α} {G' : DH} (h : m G = some (.ok a, G')) : Wp m G Q ↔ Q a G' := ⟨fun ⟨b, G2, e, q⟩ => by rw [h] at e; cases e; exact q, fun q => ⟨a, G', h, q⟩⟩
theorem wp_opt {o : Option α} : Wp (optM o) G Q ↔ ∃ a, o = some a ∧ Q a G := by
  cases o with
  | none =>
    constructor
    · rintro ⟨_, _, e, _⟩
      cases e
    · rintro ⟨_, e, _⟩
      cases e
  | some a =>
    constructor
    · rintro ⟨_, _, e, q⟩
      cases e
      exact ⟨_, rfl, q⟩
    · rintro ⟨_, e, q⟩
      cases e
      exact ⟨_, _, rfl, q⟩
theorem wp_obj {r : Nat} {Q : DO → DH → Prop} : Wp (objM r) G Q ↔ ∃ o, G[r]? = some o ∧ Q o G := by
  constructor
  · rintro ⟨a, G', e, q⟩
    unfold objM at e
    split at e
    · rename_i o h
      cases e
      exact ⟨_, h, q⟩
    · cases e
  · rintro ⟨o, e, q⟩
    refine ⟨o, G, ?_, q⟩
    unfold objM
    simp only [e]
theorem wp_alloc {o : DO} {Q : D → DH → Prop} : Wp (allocM o) G Q ↔ Q (.ref G.length) (G ++ [o]) := wp_some rfl
theorem wp_put {r : Nat} {o : DO} {Q : Unit → DH → Prop} : Wp (putM r o) G Q ↔ Q () (G.set r o) := wp_some rfl
end
section
variable {G : DH} {σ : DSt} {Q : D → DH → Prop} {a b c : Fe} {t u : DSt → M Bool} {P : Fl → DH → Prop} {B : Bool → DH → Prop}
theorem wp_var {i : Nat} : Wp (varE i σ) G Q ↔ ∃ d, σ[i]? = some (some d) ∧ Q d G := by
  unfold varE
  constructor
  · rintro ⟨d, G', e, q⟩
    split at e
    · rename_i d' h; cases e; exact ⟨_, h, q⟩
    · cases e
  · rintro ⟨d, h, q⟩
    exact ⟨d, G, by simp only [h], q⟩
theorem wp_c {d : D} : Wp (cE d σ) G Q ↔ Q d G := wp_pure
theorem wp_bin {o : D → D → M D} : Wp (binE o a b σ) G Q ↔ Wp (a σ) G fun x G1 => Wp (b σ) G1 fun y G2 => Wp (o x y) G2 Q := by unfold binE; simp only [wp_bind]
theorem wp_un {o : D → M D} : Wp (unE o a σ) G Q ↔ Wp (a σ) G fun x G1 => Wp (o x) G1 Q := by unfold unE; simp only [wp_bind]
theorem wp_ite {α : Type} {k : Bool} {m n : M α} {R : α → DH → Prop} : Wp (if k = true then m else n) G R ↔ if k = true then Wp m G R else Wp n G R := by cases k <;> exact Iff.rfl
theorem wp_isBl {d : D} : Wp (isBl d) G B ↔ ∃ k, d = .bl k ∧ B k G := by
  constructor
  · rintro ⟨k, G', e, q⟩
    cases d with
    | bl b => cases e; exact ⟨_, rfl, q⟩
    | _ => cases e
  · rintro ⟨k, e, q⟩
    subst e
    exact ⟨k, G, rfl, q⟩
theorem wp_not : Wp (notE a σ) G Q ↔ Wp (a σ) G fun x G1 => ∃ k, x = .bl k ∧ Q (.bl (!k)) G1 := by unfold notE; simp only [wp_bind, wp_isBl, wp_pure]
theorem wp_ifE : Wp (ifE t a b σ) G Q ↔ Wp (t σ) G fun k G1 => if k = true then Wp (a σ) G1 Q else Wp (b σ) G1 Q := by unfold ifE; simp only [wp_bind, wp_ite]
theorem wp_test : Wp (testE a σ) G B ↔ Wp (a σ) G fun x G1 => ∃ k, x = .bl k ∧ B k G1 := by unfold testE; simp only [wp_bind, wp_isBl]
theorem wp_truth : Wp (truthE a σ) G B ↔ Wp (a σ) G fun x G1 => Wp (truthD x) G1 B := by unfold truthE; simp only [wp_bind]
theorem wp_andT : Wp (andT t u σ) G B ↔ Wp (t σ) G fun k G1 => if k = true then Wp (u σ) G1 B else B false G1 := by unfold andT; simp only [wp_bind, wp_ite, wp_pure]
theorem wp_orT : Wp (orT t u σ) G B ↔ Wp (t σ) G fun k G1 => if k = true then B true G1 else Wp (u σ) G1 B := by unfold orT; simp only [wp_bind, wp_ite, wp_pure]
variable {R : List D → DH → Prop} {fs : DSt → M (List D)}
theorem wp_nil : Wp (q11 σ) G R ↔ R [] G := wp_pure
theorem wp_cons : Wp (q10 a fs σ) G R ↔ Wp (a σ) G fun x G1 => Wp (fs σ) G1 fun xs G2 => R (x :: xs) G2 := by unfold q10; simp only [wp_bind, wp_pure]
theorem wp_call {F : List D → M D} : Wp (q13 F fs σ) G Q ↔ Wp (fs σ) G fun ds G1 => Wp (F ds) G1 Q := by unfold q13; simp only [wp_bind]
theorem wp_noX {α : Type} {m : M α} {R : α → DH → Prop} : Wp (noX m) G R ↔ Wp m G R := by
  unfold noX
  constructor
  · rintro ⟨x, G', e, q⟩
    dsimp only at e
    split at e
    · rename_i y G1 h; cases e; exact ⟨_, _, h, q⟩
    · cases e
  · rintro ⟨x, G', e, q⟩
    exact ⟨x, G', by simp only [e], q⟩
theorem wp_fnX {n : Nat} {F : List D → M D} {ds : List D} : Wp (fnX n F ds) G Q ↔ ds.length = n ∧ Wp (F ds) G Q := by
  unfold fnX
  by_cases h : ds.length = n
  · rw [if_pos h, wp_noX]; exact ⟨fun q => ⟨h, q⟩, fun q => q.2⟩
  · rw [if_neg h]; exact ⟨fun q => (wp_stuck.mp q).elim, fun q => (h q.1).elim⟩
theorem wp_tup : Wp (tupE fs σ) G Q ↔ Wp (fs σ) G fun xs G1 => xs.length ≤ sizeLine ∧ Q (.tup xs) G1 := by
  unfold tupE
  simp only [wp_bind]
  constructor
  · rintro ⟨xs, G1, e, q⟩
    refine ⟨xs, G1, e, ?_⟩
    by_cases h : xs.length ≤ sizeLine
    · rw [if_pos h] at q; exact ⟨h, wp_pure.mp q⟩
    · rw [if_neg h] at q; exact (wp_stuck.mp q).elim
  · rintro ⟨xs, G1, e, h, q⟩
    exact ⟨xs, G1, e, by dsimp only; rw [if_pos h]; exact wp_pure.mpr q⟩
theorem wp_lst : Wp (lstE fs σ) G Q ↔ Wp (fs σ) G fun xs G1 => xs.length ≤ sizeLine ∧ Q (.ref G1.length) (G1 ++ [.lst xs]) := by
  unfold lstE
  simp only [wp_bind]
  constructor
  · rintro ⟨xs, G1, e, q⟩
    refine ⟨xs, G1, e, ?_⟩
    by_cases h : xs.length ≤ sizeLine
    · rw [if_pos h] at q; exact ⟨h, wp_alloc.mp q⟩
    · rw [if_neg h] at q; exact (wp_stuck.mp q).elim
  · rintro ⟨xs, G1, e, h, q⟩
    exact ⟨xs, G1, e, by dsimp only; rw [if_pos h]; exact wp_alloc.mpr q⟩
variable {f g : Fs} {gg : Fg}
theorem wp_next : Wp (nextS σ) G P ↔ P (.nx σ) G := wp_pure
theorem wp_seq : Wp (seqS f g σ) G P ↔ Wp (f σ) G fun fl G1 => match fl with
    | .nx σ' => Wp (g σ') G1 P
    | r => P r G1 := by
  unfold seqS
  simp only [wp_bind]
  constructor
  · rintro ⟨fl, G1, e, q⟩
    refine ⟨fl, G1, e, ?_⟩
    cases fl <;> first
      | exact q
      | exact wp_pure.mp q
  · rintro ⟨fl, G1, e, q⟩
    refine ⟨fl, G1, e, ?_⟩
    cases fl <;> first
      | exact q
      | exact wp_pure.mpr q
theorem wp_ret : Wp (retS a σ) G P ↔ Wp (a σ) G fun d G1 => P (.rt d) G1 := by unfold retS; simp only [wp_bind, wp_pure]
theorem wp_drop : Wp (dropS a σ) G P ↔ Wp (a σ) G fun _ G1 => P (.nx σ) G1 := by unfold dropS; simp only [wp_bind, wp_pure]
theorem wp_if : Wp (ifS t f g σ) G P ↔ Wp (t σ) G fun k G1 => if k = true then Wp (f σ) G1 P else Wp (g σ) G1 P := by unfold ifS; simp only [wp_bind, wp_ite]
theorem wp_asg : Wp (asgS a gg σ) G P ↔ Wp (a σ) G fun d G1 => Wp (gg d σ) G1 fun σ' G2 => P (.nx σ') G2 := by unfold asgS; simp only [wp_bind, wp_pure]
theorem wp_name {i : Nat} {d : D} {S : DSt → DH → Prop} : Wp (q12 i d σ) G S ↔ S (σ.set i (some d)) G := wp_pure
theorem wp_body {m : Nat} {ds : List D} : Wp (bodyF m f ds) G Q ↔ Wp (f (ds.map some ++ List.replicate (m - ds.length) none)) G fun fl G1 => match fl with
    | .nx _ => Q .non G1
    | .rt d => Q d G1
    | _ => False := by
  unfold bodyF
  simp only [wp_bind]
  constructor
  · rintro ⟨fl, G1, e, q⟩
    refine ⟨fl, G1, e, ?_⟩
    cases fl <;> first
      | exact wp_pure.mp q
      | exact wp_stuck.mp q
  · rintro ⟨fl, G1, e, q⟩
    refine ⟨fl, G1, e, ?_⟩
    cases fl <;> first
      | exact wp_pure.mpr q
      | exact wp_stuck.mpr q
noncomputable def optB (o : Option Bool) (g : Bool → Bool) (G : DH) : Option (Except Str D × DH) := match o with
  | some b => some (.ok (.bl (g b)), G)
  | none => none
theorem optB_wp {m : M D} {o : Option Bool} {g : Bool → Bool} (h : m G = optB o g G) : Wp m G Q ↔ ∃ k, o = some k ∧ Q (.bl (g k)) G := by
  unfold Wp
  rw [h]
  cases o with
  | none =>
    constructor
    · rintro ⟨_, _, e, _⟩
      cases e
    · rintro ⟨_, e, _⟩
      cases e
  | some k =>
    constructor
    · rintro ⟨_, _, e, q⟩
      cases e
      exact ⟨_, rfl, q⟩
    · rintro ⟨_, e, q⟩
      cases e
      exact ⟨_, _, rfl, q⟩
theorem wp_eq {x y : D} : Wp (eqD x y) G Q ↔ ∃ k, eqN 40 G x y = some k ∧ Q (.bl k) G := optB_wp (g := id) rfl
theorem wp_ne {x y : D} : Wp (neD x y) G Q ↔ ∃ k, eqN 40 G x y = some k ∧ Q (.bl (!k)) G := optB_wp (g := not) rfl
theorem wp_lt {x y : D} : Wp (ltD x y) G Q ↔ ∃ k, ltN 40 G x y = some k ∧ Q (.bl k) G := optB_wp (g := id) rfl
theorem wp_isinst {d : D} {n : String} {T : Ty} (hT : Ty.of n = some T) : Wp (isinstF [d, .ty n]) G Q ↔ ∃ k, kdOf G d = some k ∧ Q (.bl (k.is T)) G := by
  have e : isinstF [d, .ty n] G = match kdOf G d with | some k => some (.ok (.bl (k.is T)), G) | none => none := by
    unfold isinstF
    simp only [hT]
    cases kdOf G d <;> rfl
  unfold Wp
  rw [e]
  cases kdOf G d with
  | none =>
    constructor
    · rintro ⟨_, _, e, _⟩
      cases e
    · rintro ⟨_, e, _⟩
      cases e
  | some k =>
    constructor
    · rintro ⟨_, _, e, q⟩
      cases e
      exact ⟨_, rfl, q⟩
    · rintro ⟨_, e, q⟩
      cases e
      exact ⟨_, _, rfl, q⟩
end
end DL
set_option Elab.async false
set_option linter.all false
set_option maxRecDepth 100000
namespace DL
open PySem PySem.Spec L2
open PyProof.Rows hiding St
section
variable {X : Cx} {Z : XC} {elt tg iter : Expr} {ifs : List Expr} {scope : Scope} {pos : Pos} {N : List Str} {caps : List (Option Nat)} {it : DSt → M Src} {gg : Fg} {tt : DSt → M Bool} {fe : Fe}
theorem ds_compN {y : Str} {py spos : Pos} {g2 : Fg} (hc : X.calm = true) (hi : DI X Z tg iter it) (k : CompOk X scope N caps)
    (hg : ∀ C s H ex, DG (compCx X scope N C s H ex) ZF tg gg) (ht : ∀ C s H ex, DTs (compCx X scope N C s H ex) ZF ifs tt) (he : ∀ C s H ex, DE (compCx X scope N C s H ex) ZF elt fe)
    (hs : ∀ x, foldedSetIterable iter X.env x = pure x) (hgo : DG X Z (.Name y py) g2) (hsw : swapsWith (.ListComp elt [⟨tg, iter, ifs, 0⟩] scope pos) (some (.Name y py)) spos.line X.env = pure true) :
    DS X Z (.Assign [.Name y py] (.ListComp elt [⟨tg, iter, ifs, 0⟩] scope pos) spos) (asgS (compE it caps gg tt fe) g2) := by
  refine ⟨?_⟩
  intro pins s σ H En I ⟨dσ, μ, G, sr, hr, p0⟩
  obtain ⟨Q, hQ, p⟩ : ∃ Q : VK, (∀ v H', Q v H' → liftG (wc X) Z g2 v σ H' En.nx) ∧ Post (wc X) Z μ H (compE it caps gg tt fe dσ G) fun d μ' _ H' => ∀ v, RepV (wc X) μ' H' d v → Q v H' :=
    ⟨fun v H' => liftG (wc X) Z g2 v σ H' En.nx, fun _ _ z => z, (Post.bind p0).mono fun d μ1 G1 H1 x' h1 p1 v rv => ⟨d, dσ, μ1, G1, rv, sr.mono x', h1, (Post.bind p1).mono fun dσ2 μ2 G2 H2 x2 h2 p2 σ2 s2 => Post.ok p2 h2 σ2 s2⟩⟩
  rw [exec_Assign_Name_used _ _ _ _ hsw]
  refine wpAny_bind (wpAny_standAt (wpAny_bind ?_))
  show wpAny _ X.A (do let _ ← comprehension (.ListComp elt [⟨tg, iter, ifs, 0⟩] scope pos) scope X.env _ (newList []) false (eval iter X.env) (some (assign (.Name y py) X.env))) _ _ s
  refine wpAny_bind (wpAny_mono (comp_core (use := some (assign (.Name y py) X.env)) (PQ := fun _ s' => SP X pins En .next s') hc hi k hg ht he hs I sr hr p fun DD C s4 H' m o hn fin hCn hf q9 => ?_) (fun _ s' hq => wpAny_pure (wpAny_pure hq)) fun _ _ e => e)
  have fC : ∀ {H9 : Hp}, H9 C = none → ∀ b ∈ [C], FpOk X pins H9 b := fun {H9} hn9 b hb => by
    rw [List.mem_singleton] at hb
    subst hb
    exact hf H9 hn9
  obtain ⟨oC, zC1, zC2, hoC, zC3⟩ := id hn
  have I5 := (fin s4.heap ⟨rfl, fun _ _ => rfl⟩).pinned (fp := [C]) (fC hCn) (fun b hb => by
    rw [List.mem_singleton] at hb
    subst hb
    exact ⟨oC, hoC, fun v z => by first | (rw [zC3.1] at z; cases z) | (rw [zC3.2.1] at z; cases z)⟩)
  refine thn (hgo.h _ s4 σ H' (.ref DD) (.ref DD) _ I5 rfl (hQ _ _ q9)) fun _ s5 ⟨σ5, H5, I6, q6⟩ => ?_
  obtain ⟨g5, g5n, _⟩ := I6.pin (C, oC) (List.mem_append_right _ (List.mem_append_right _ (mem_pinsAt (by simp) hoC)))
  refine ⟨m, hn.at' (fun o e => by rw [hoC] at e; cases e; exact g5), fun h'' sb => ⟨σ5, H5, inv_turned (t' := s5.toks) I6.unpinned (fC g5n) fun b o hb e => (sb.2 b (by simpa using hb)).trans e, q6⟩⟩
end
end DL
set_option Elab.async false
set_option linter.all false
set_option maxRecDepth 100000
namespace DL
open PySem PySem.Spec L2
open PyProof.Rows hiding St
noncomputable def strsOf : List D → Option (List Str)
  | [] => some []
  | .str x :: r => (strsOf r).map (x :: ·)
  | _ => none
noncomputable def keyStrs : List (Key × D) → Option (List Str)
  | [] => some []
  | (.inr x, _) :: r => (keyStrs r).map (x :: ·)
  | _ => none
noncomputable def leS (a b : Str) : Bool := !decide (b.cps.toList < a.cps.toList)
noncomputable def sortS (l : List Str) : List Str := l.mergeSort leS
theorem leS_iff {a b : Str} : leS a b = true ↔ a.cps.toList ≤ b.cps.toList := by unfold leS; simp
theorem leS_trans (a b c : Str) (h1 : leS a b = true) (h2 : leS b c = true) : leS a c = true := by
  rw [leS_iff] at *; exact List.le_trans h1 h2
theorem leS_total (a b : Str) : (leS a b || leS b a) = true := by
  rw [Bool.or_eq_true, leS_iff, leS_iff]; exact List.le_total _ _
theorem leS_antisymm {a b : Str} (h1 : leS a b = true) (h2 : leS b a = true) : a = b := by
  rw [leS_iff] at *
  have e : a.cps.toList = b.cps.toList := List.le_antisymm h1 h2
  cases a; cases b
  congr 1
  exact Array.toList_inj.mp e
theorem rising_pw : ∀ (l : List Str) (p : Str), risingS p l = true → (p :: l).Pairwise fun a b => leS a b = true
  | [], p, _ => by simp
  | x :: r, p, h => by
    unfold risingS at h
    rw [Bool.and_eq_true] at h
    have ih := rising_pw r x h.2
    have hpx : leS p x = true := by unfold leS; rw [← ltCps_eq]; exact h.1
    refine List.pairwise_cons.mpr ⟨fun y hy => ?_, ih⟩
    rcases List.mem_cons.mp hy with rfl | hy
    · exact hpx
    · exact leS_trans _ _ _ hpx ((List.pairwise_cons.mp ih).1 y hy)
theorem sortS_eq {l l' : List Str} (hp : l'.Perm l) (hs : sortedS l' = true) : l' = sortS l := by
  have h1 : l'.Pairwise fun a b => leS a b = true := by
    cases l' with
    | nil => simp
    | cons x r => exact rising_pw r x hs
  have h2 : (sortS l).Pairwise fun a b => leS a b = true := List.pairwise_mergeSort leS_trans leS_total l
  exact List.Perm.eq_of_pairwise (fun a b _ _ h1 h2 => leS_antisymm h1 h2) h1 h2 (hp.trans (List.mergeSort_perm l leS).symm)
section
variable {prog : Program} {w : World} {A : Around} {E : Value → Shared → Prop} {s : Shared} {T : String} {r d : Addr} {n : Nat} {P : Nat → Value → Prop} {OK : Heap → Prop} {Q : Value → Shared → Prop}
theorem sorted_src (K : PySem.W.KdlSrc prog w T r d n P OK) (hh : A.handled = none) (hok : OK s.heap) (hn : n < 64) {ss : List Str} (hP : ∀ vs : List Value, vs.length = n → (∀ (j : Nat) (v : Value), vs[j]? = some v → P j v) → StrsAre vs ss)
    (h : ∀ (h1 h' : Heap) (tk e : Nat) (out : List Value) (ss' : List Str), (∀ b o, s.heap.get? b = some o → h1.get? b = some o) → (∀ b o, h1.get? b = some o → h'.get? b = some o) → h'.get? h1.objs.size = some (seqObj "list" out.toArray e) → StrsAre out ss' → ss'.Perm ss → sortedS ss' = true → Q (.ref h1.objs.size) { s with heap := h', toks := tk }) :
    wpAny (model prog w) A (call (.builtin "sorted") [.ref r]) Q E s := by
  have hz : n ≤ sizeLine := Nat.le_trans (Nat.le_of_lt hn) (by decide)
  refine Calls.call_function_entry kind_sorted plain_sorted entry_sorted (args_sorted1 _) ?_
  unfold Builtin.«sorted»
  refine wpAny_bind (m := checkCount "sorted" 1 1 _) (wpAny_pure ?_)
  refine wpAny_bind (PySem.W.kdu_collect (A := A.in1) K hh hok hz fun h1 tk acc hk hacc => ?_)
  have hl : acc.toList.length = n := by rw [Array.length_toList]; exact hacc.1
  refine wpAny_bind (wpAny_newList ?_ (by rw [hl]; exact hz))
  have hS : StrsAre acc.toList ss := hP acc.toList hl fun j v e => hacc.2 j v (by rw [← Array.getElem?_toList]; exact e)
  have hoL : (h1.push (seqObj "list" acc.toList.toArray 0)).get? h1.objs.size = some (seqObj "list" acc.toList.toArray 0) := Heap.get?_push_size _ rfl
  refine wpAny_bind (wpAny_holding (wpAny_call_entry slot_list_sort ⟨_, hoL, rfl⟩ entry_list_sort (list_sort_treeK strKind_oneLt hoL hS.keysOf (fun v₁ v₂ rest e => keyKind_strs (by rw [← e]; exact hS)) (by rw [hl]; exact hn) fun st' a1 a2 => ⟨_, rfl, ?_⟩) (args_list_sort _)))
  obtain ⟨ss', b1, b2, b3⟩ := sorted_out_str hS a1 a2
  obtain ⟨e, he⟩ := sortedHeap_at (vs := acc.toList) (out := (arrOf st').map (·.2)) hoL
  refine wpAny_pure ⟨_, rfl, h h1 _ tk e ((arrOf st').map (·.2)).toList ss' hk (fun b o hb => ?_) (by rw [Array.toArray_toList]; exact he) b1 b2 b3⟩
  have hlt : b < h1.objs.size := Heap.lt_size hb
  rw [sortedHeap_old (Nat.ne_of_lt hlt) (by rw [size_push']; exact Nat.lt_succ_of_lt hlt), Heap.get?_push_ne _ _ _ (Nat.ne_of_lt hlt)]
  exact hb
end
noncomputable def sortedF : List D → M D := fun ds => match ds with
  | [.ref r] => do
    match ← objM r with
    | .dct l => do
      let ss ← optM (keyStrs l)
      if ss.length < 64 then allocM (.lst ((sortS ss).map .str)) else M.stuck
    | _ => M.stuck
  | _ => M.stuck
section
variable {X : Cx} {Z : XC} {c : Wc} {μ : List Addr} {H : Hp} {G : DH}
theorem keyStrs_len : ∀ {l : List (Key × D)} {ss : List Str}, keyStrs l = some ss → ss.length = l.length
  | [], _, e => by cases e; rfl
  | (.inr x, _) :: r, ss, e => by
    unfold keyStrs at e
    cases h : keyStrs r with
    | none => rw [h] at e; cases e
    | some t => rw [h] at e; cases e; simp [keyStrs_len h]
  | (.inl _, _) :: _, _, e => by cases e
theorem keyStrs_vals {P : Program} {w : World} : ∀ {l : List (Key × D)} {ss : List Str} {kvs : List (Key × V)} {xs : List (Key × Value)} {vs : List Value}, keyStrs l = some ss → RepK c μ H l kvs → KV kvs xs → vs.length = xs.length →
    (∀ (j : Nat) (v : Value), vs[j]? = some v → ∃ k x, xs[j]? = some (k, x) ∧ (mixKind P w).is k v = true) → StrsAre vs ss
  | [], _, _, xs, vs, e, r, kv, hl, hv => by
    cases e; cases r; cases kv
    cases vs with
    | nil => exact .nil
    | cons _ _ => simp at hl
  | (.inr x, d) :: t, ss, kvs, xs, vs, e, r, kv, hl, hv => by
    unfold keyStrs at e
    cases h : keyStrs t with
    | none => rw [h] at e; cases e
    | some q =>
      rw [h] at e
      cases e
      obtain ⟨v0, tl, rfl, r0, rt⟩ := r
      cases kv with
      | cons hk ht =>
        cases vs with
        | nil => simp at hl
        | cons u us =>
          obtain ⟨k, y, e1, e2⟩ := hv 0 u rfl
          simp only [List.getElem?_cons_zero, Option.some.injEq] at e1
          have hk1 : (Sum.inr x : Key) = _ := hk.1
          rw [e1] at hk1
          have e3 : keyIs (.inr x) u = true := by rw [hk1]; exact e2
          rcases keyIs_shape e3 with ⟨_, _, z, _⟩ | ⟨x', t', z, eu⟩
          · cases z
          · cases z
            subst eu
            exact .cons _ _ (keyStrs_vals (P := P) (w := w) h rt ht (by simpa using hl) fun j v hj => by simpa using hv (j + 1) v (by simpa using hj))
  | (.inl _, _) :: _, _, _, _, _, e, _, _, _, _ => by cases e
theorem strs_rep : ∀ {out : List Value} {ss : List Str}, StrsAre out ss → ∃ vs, vs = ss.map V.str ∧ Vals vs out ∧ RepL c μ H (ss.map D.str) vs
  | _, _, .nil => ⟨[], rfl, .nil, rfl⟩
  | _, _, .cons x t q => by
    obtain ⟨vs, e, h1, h2⟩ := strs_rep q
    subst e
    exact ⟨_, rfl, .cons ⟨t, rfl⟩ h1, _, _, rfl, by unfold RepV; rfl, h2⟩
theorem cd_sorted (hc : X.calm = true) : CallD X Z (.builtin "sorted") sortedF := ⟨by
  intro pins s σ H xs us Q I r ⟨ds, μ, G, rl, hr, p⟩
  unfold sortedF at p
  split at p
  · rename_i i
    obtain ⟨v, rfl, rv⟩ := rep1 rl
    obtain ⟨u, rfl, ru⟩ := vals1 r
    unfold RepV at rv
    obtain ⟨a, m, rfl⟩ := rv
    cases ru
    obtain ⟨o, g, p1⟩ := objM_post p
    have ro := hr.obj i o a g m
    cases o with
    | dct l =>
      obtain ⟨kvs, q, rk⟩ := ro
      obtain ⟨ss, es, p2⟩ := optM_post p1
      split at p2
      case isFalse => exact p2.elim
      rename_i h64
      obtain ⟨z, hd, vs, rel, dd⟩ := dk_of I.hok q
      obtain ⟨ep, hat⟩ := dd.dictAt
      have hn : vs.length = ss.length := by rw [keyStrs_len es, ← rel.length, ← rk.length]
      refine sorted_src (PySem.W.kdl_dict (knd := mixKind X.prog X.w) (kvs := vs) (ep := ep) hd) (I.ok.hd hc) hat (by omega) (ss := ss) (fun us hl hu => keyStrs_vals es rk rel (by omega) hu) fun h1 h' tk e out ss' k1 k2 he hS hp hs => ?_
      have e2 := sortS_eq hp hs
      subst e2
      obtain ⟨ws, ew, rv, rl2⟩ := strs_rep (c := wc X) (μ := μ) (H := H) hS
      have I1 : Inv X pins σ H { s with heap := h1, toks := tk } := I.kept k1
      have hf := I1.hok.fresh (Nat.le_refl _)
      have hlen : ws.length ≤ sizeLine := by
        rw [ew, List.length_map]
        have := (List.mergeSort_perm ss leS).length_eq
        have e3 : (sortS ss).length = ss.length := this
        have : (64 : Nat) ≤ sizeLine := by decide
        omega
      refine ⟨.ref h1.objs.size, upd H h1.objs.size (.lst ws), I1.laid (t' := tk) k2 (Nat.le_refl _) ⟨hlen, out, e, rv, he⟩, rfl, post_lst hr rl2 p2 _ hf⟩
    | lst l => exact p1.elim
    | rod l => exact p1.elim
    | rol l => exact p1.elim
  · exact p.elim⟩
end
end DL
set_option Elab.async false
set_option linter.all false
set_option maxRecDepth 100000
namespace DL
open PySem PySem.Spec L2
open PyProof.Rows hiding St
noncomputable def Its (z : Str) : It := ⟨fun i _ => ∃ c, z.cps[i]? = some c, fun i H x H' => H' = H ∧ ∃ c, z.cps[i]? = some c ∧ x = .str ⟨#[c]⟩, fun i _ => z.cps[i]? = none⟩
theorem turn_ascii {P : Program} {w : World} {K : PySem.W.Frag} {tg : Expr} (z : Str) (t : Tok) (it : Addr) : Turn P w K tg (Its z) [it] it (fun i h => h.IsStrIter it "str_ascii_iterator" z t i) where
  mem := by simp
  obj := fun i h st b hb => by
    have e : b = it := by simpa using hb
    subst e
    obtain ⟨o, e, c, d⟩ := st
    exact ⟨o, e, fun v z => by rw [d] at z; cases z⟩
  keep := fun i h h' st k => let ⟨o, ho, r⟩ := st; ⟨o, k it (by simp) o ho, r⟩
  item := by
    intro X hP hw hK hc i pins s σ H E I hf st hg
    subst hP hw hK
    obtain ⟨c, hx⟩ := hg
    obtain ⟨f0, f1, f2, f3, f4, f5⟩ := hf it (by simp)
    refine wpAny_pyNext_ascii_item st hx fun h' st' sb => ?_
    have I1 : Inv X pins σ H { s with heap := h', toks := s.toks + 1 } := I.turned (t' := s.toks + 1) (fun b o hb e => (sb.2 b hb).trans e) f0 f1 f3 f4 f5
    obtain ⟨o, e, cc, d⟩ := id st'
    exact ⟨_, rfl, go_of (s := { s with heap := h', toks := s.toks + 1 }) e cc d (by decide) ⟨.str ⟨#[c]⟩, H, I1, ⟨_, rfl⟩, ⟨rfl, c, hx, rfl⟩, st', fun b hb => (hf b hb).1⟩⟩
  done := by
    intro X hP hw hK hc i pins s σ H E I hf st hg
    subst hP hw hK
    obtain ⟨f0, f1, f2, f3, f4, f5⟩ := hf it (by simp)
    exact wpAny_pyNext_ascii_end (I.ok.hd hc) st hg fun h' eb => ⟨rfl, I.turned (t' := s.toks) (fun b o hb e => eb b o hb e) f0 f1 f3 f4 f5⟩
  self := fun _ _ _ _ _ st h => wpAny_pyIter_striter_ascii st h
theorem turn_wide {P : Program} {w : World} {K : PySem.W.Frag} {tg : Expr} (z : Str) (t : Tok) (it : Addr) : Turn P w K tg (Its z) [it] it (fun i h => h.IsStrIter it "str_iterator" z t i) where
  mem := by simp
  obj := fun i h st b hb => by
    have e : b = it := by simpa using hb
    subst e
    obtain ⟨o, e, c, d⟩ := st
    exact ⟨o, e, fun v z => by rw [d] at z; cases z⟩
  keep := fun i h h' st k => let ⟨o, ho, r⟩ := st; ⟨o, k it (by simp) o ho, r⟩
  item := by
    intro X hP hw hK hc i pins s σ H E I hf st hg
    subst hP hw hK
    obtain ⟨c, hx⟩ := hg
    obtain ⟨f0, f1, f2, f3, f4, f5⟩ := hf it (by simp)
    refine wpAny_pyNext_wide_item st hx fun h' st' sb => ?_
    have I1 : Inv X pins σ H { s with heap := h', toks := s.toks + 1 } := I.turned (t' := s.toks + 1) (fun b o hb e => (sb.2 b hb).trans e) f0 f1 f3 f4 f5
    obtain ⟨o, e, cc, d⟩ := id st'
    exact ⟨_, rfl, go_of (s := { s with heap := h', toks := s.toks + 1 }) e cc d (by decide) ⟨.str ⟨#[c]⟩, H, I1, ⟨_, rfl⟩, ⟨rfl, c, hx, rfl⟩, st', fun b hb => (hf b hb).1⟩⟩
  done := by
    intro X hP hw hK hc i pins s σ H E I hf st hg
    subst hP hw hK
    obtain ⟨f0, f1, f2, f3, f4, f5⟩ := hf it (by simp)
    exact wpAny_pyNext_wide_end (I.ok.hd hc) st hg fun h' eb => ⟨rfl, I.turned (t' := s.toks) (fun b o hb e => eb b o hb e) f0 f1 f3 f4 f5⟩
  self := fun _ _ _ _ _ st h => wpAny_pyIter_striter_wide st h
section
variable {X : Cx} {Z : XC} {tg e : Expr}
noncomputable def charsD (z : Str) : List D := z.cps.toList.map fun c => .str ⟨#[c]⟩
noncomputable def srcA : D → M Src := fun x => match x with
  | .str z => pure ⟨charsD z, fun _ => true⟩
  | .tup l => srcM (.tup l)
  | .ref r => srcM (.ref r)
  | _ => M.stuck
end
end DL
set_option Elab.async false
set_option linter.all false
set_option maxRecDepth 100000
namespace DL
open PySem PySem.Spec L2
open PyProof.Rows hiding St
section
variable {X : Cx} {Z : XC} {pos p q : Pos}
end
theorem fn_stuck {P : Program} {w : World} {K : PySem.W.Frag} {mg : Str → Option Value} {base : Heap} {CX : CXT} {k n : Nat} {f : Addr} {fd : FuncData} {ps : List Str} (hn : ps.length = n) : FnOk P w K mg base CX k f fd ps (spD ⟨K, mg⟩ n fun _ => M.stuck) :=
  ⟨fun vs H Q E h => by rw [hn]; exact h.1, fun A outer s H args us vs Q E hr => by
    intros
    rename_i h
    first
      | exact h.2.elim
      | (obtain ⟨_, _, _, _, _, _, z⟩ := h; exact z.elim)⟩
end DL
set_option Elab.async false
set_option linter.all false
set_option maxRecDepth 100000
namespace W
open PySem PySem.Spec L2 DL
open PyProof.Rows hiding St
theorem ty_int : Ty.of "int" = some .int := by rfl
theorem ty_bool : Ty.of "bool" = some .bool := by rfl
noncomputable def There (G : DH) (d : D) : Prop := ∃ k, kdOf G d = some k
theorem st1 {d : D} {n : Nat} : ([d].map some ++ List.replicate n none : DSt)[0]? = some (some d) := by rfl
theorem isBlI {b : Bool} {P : Bool → Prop} : (∃ k, D.bl b = .bl k ∧ P k) ↔ P b := ⟨fun ⟨k, e, p⟩ => by cases e; exact p, fun p => ⟨b, rfl, p⟩⟩
theorem someI {α : Type} {b : α} {P : α → Prop} : (∃ k, some b = some k ∧ P k) ↔ P b := ⟨fun ⟨k, e, p⟩ => by cases e; exact p, fun p => ⟨b, rfl, p⟩⟩
noncomputable def endD : Option Int → D
  | none => .non
  | some i => .int i
theorem gt_wp {i j : Int} {G : DH} {Q : D → DH → Prop} : Wp (gtD (.int i) (.int j)) G Q ↔ Q (.bl (decide (j < i))) G := wp_pure
theorem ix_tup {l : List D} {i : Int} {G : DH} {Q : D → DH → Prop} : Wp (ixD (.tup l) (.int i)) G Q ↔ ∃ d, atI l i = some d ∧ Q d G := wp_opt
noncomputable def ThereN : Nat → DH → D → Prop
  | 0, G, d => There G d
  | n+1, G, d => There G d ∧ ∀ l, d = .tup l → ∀ x ∈ l, ThereN n G x
theorem ThereN.there {n : Nat} {G : DH} {d : D} (h : ThereN n G d) : There G d := by cases n; exact h; exact h.1
theorem truth_bl {b : Bool} {G : DH} {B : Bool → DH → Prop} : Wp (truthD (.bl b)) G B ↔ B b G := wp_pure
theorem len_tup {l : List D} {G : DH} {Q : D → DH → Prop} : Wp (lenF [.tup l]) G Q ↔ Q (.int l.length) G := wp_pure
theorem eq_int {i j : Int} {G : DH} {Q : D → DH → Prop} : Wp (eqD (.int i) (.int j)) G Q ↔ Q (.bl (decide (i = j))) G := by
  have e : eqN 40 G (.int i) (.int j) = some (decide (i = j)) := by rfl
  rw [wp_eq, e]; exact someI
theorem wp_is {α : Type} {m : M α} {G : DH} {x : α} (h : Wp m G fun a G' => a = x ∧ G' = G) : m G = some (.ok x, G) := by
  obtain ⟨a, G', e, e1, e2⟩ := h
  subst e1 e2
  exact e
theorem compL_map {g : Fg} {t : DSt → M Bool} {e : Fe} {ck : DH → Bool} {f : D → D} {G : DH} {I : DSt → Prop} (hck : ck G = true) : ∀ (items : List D) (σ : DSt), I σ →
    (∀ d ∈ items, ∀ σ, I σ → ∃ σ1, g d σ G = some (.ok σ1, G) ∧ I σ1 ∧ t σ1 G = some (.ok true, G) ∧ e σ1 G = some (.ok (f d), G)) → compL g t e ck items σ G = some (.ok (items.map f), G)
  | [], σ, _, _ => by unfold compL; simp only [hck, if_true, List.map]
  | d :: r, σ, i, h => by
    obtain ⟨σ1, h1, i1, h2, h3⟩ := h d (by simp) σ i
    have h4 := compL_map hck r σ1 i1 fun d hd => h d (by simp [hd])
    unfold compL
    simp only [hck, if_true]
    rw [M.bind_ok h1, M.bind_ok h2, if_pos rfl, M.bind_ok h3, M.bind_ok h4]
    rfl
theorem comp_wp {it : DSt → M Src} {caps : List (Option Nat)} {g : Fg} {t : DSt → M Bool} {e : Fe} {f : D → D} {G : DH} {σ : DSt} {s : Src} {Q : D → DH → Prop} (I : DSt → Prop) (hs : it σ G = some (.ok s, G)) (hn : s.items.length ≤ sizeLine) (hck : s.ck G = true) (hi : I (capSt caps σ))
    (h : ∀ d ∈ s.items, ∀ σ, I σ → ∃ σ1, g d σ G = some (.ok σ1, G) ∧ I σ1 ∧ t σ1 G = some (.ok true, G) ∧ e σ1 G = some (.ok (f d), G)) :
    Wp (compE it caps g t e σ) G Q ↔ Q (.ref G.length) (G ++ [.lst (s.items.map f)]) := by
  unfold compE
  simp only [wp_bind]
  rw [wp_some hs, if_pos hn]
  simp only [wp_bind, wp_noX]
  rw [wp_some (compL_map hck s.items _ hi h), wp_alloc]
theorem bls_map {α : Type} {f : α → Bool} : ∀ l : List α, blsOf (l.map fun x => D.bl (f x)) = some (l.map f)
  | [] => rfl
  | a :: r => by simp only [List.map, blsOf, bls_map r, Option.map]
theorem lt_int {i j : Int} {G : DH} {Q : D → DH → Prop} : Wp (ltD (.int i) (.int j)) G Q ↔ Q (.bl (decide (i < j))) G := by
  have e : ltN 40 G (.int i) (.int j) = some (decide (i < j)) := by rfl
  rw [wp_lt, e]; exact someI
theorem add_int {i j : Int} {G : DH} {Q : D → DH → Prop} : Wp (addD (.int i) (.int j)) G Q ↔ Q (.int (i + j)) G := wp_pure
theorem at0 {a b : D} : atI [a, b] 0 = some a := by rfl
theorem at1 {a b : D} : atI [a, b] 1 = some b := by rfl
theorem cut_1 (l : List D) : DL.cutD l (some 1) none = l.drop 1 := by
  unfold DL.cutD
  rw [HT.sIx_none, show (some (1 : Int)) = some ((1 : Nat) : Int) from rfl, HT.sIx_nat]
  cases l with
  | nil => rfl
  | cons a r => simp [List.length_cons]
section
variable {G : DH} {σ : DSt} {P : Fl → DH → Prop} {g : Fg} {b : Fs} {ck : DH → Bool}
theorem wp_forN : Wp (forL g b ck [] σ) G P ↔ ck G = true ∧ P (.nx σ) G := by
  unfold forL
  constructor
  · rintro ⟨a, G', e, q⟩
    by_cases h : ck G = true
    · simp only [h, if_true] at e; cases e; exact ⟨h, q⟩
    · simp only [h] at e; cases e
  · rintro ⟨h, q⟩
    exact ⟨_, G, by simp only [h, if_true], q⟩
theorem wp_forC {d : D} {r : List D} : Wp (forL g b ck (d :: r) σ) G P ↔ ck G = true ∧ Wp (g d σ) G fun σ1 G1 => Wp (b σ1) G1 fun fl G2 => match fl with
    | .nx σ' => Wp (forL g b ck r σ') G2 P
    | .ct σ' => Wp (forL g b ck r σ') G2 P
    | .bk σ' => P (.nx σ') G2
    | .rt d => P (.rt d) G2 := by
  have e : Wp (forL g b ck (d :: r) σ) G P ↔ ck G = true ∧ Wp (do
      match ← b (← g d σ) with
      | .nx σ' => forL g b ck r σ'
      | .ct σ' => forL g b ck r σ'
      | .bk σ' => pure (.nx σ')
      | .rt d => pure (.rt d) : M Fl) G P := by
    rw [forL]
    constructor
    · rintro ⟨a, G', e, q⟩
      by_cases h : ck G = true
      · simp only [h, if_true] at e; exact ⟨h, a, G', e, q⟩
      · simp only [h] at e; cases e
    · rintro ⟨h, a, G', e, q⟩
      exact ⟨a, G', by simp only [h, if_true]; exact e, q⟩
  rw [e]
  simp only [wp_bind]
  refine and_congr_right fun _ => ?_
  constructor
  · rintro ⟨σ1, G1, e1, fl, G2, e2, q⟩
    refine ⟨σ1, G1, e1, fl, G2, e2, ?_⟩
    cases fl <;> first
      | exact q
      | exact wp_pure.mp q
  · rintro ⟨σ1, G1, e1, fl, G2, e2, q⟩
    refine ⟨σ1, G1, e1, fl, G2, e2, ?_⟩
    cases fl <;> first
      | exact q
      | exact wp_pure.mpr q
theorem wp_for {it : DSt → M Src} : Wp (forS it g b σ) G P ↔ Wp (it σ) G fun s G1 => Wp (forL g b s.ck s.items σ) G1 P := by unfold forS; simp only [wp_bind]
end
theorem sub_int {i j : Int} {G : DH} {Q : D → DH → Prop} : Wp (subD (.int i) (.int j)) G Q ↔ Q (.int (i - j)) G := wp_pure
theorem atI_nat {l : List D} {k : Nat} {s : D} (h : l[k]? = some s) : atI l (k : Int) = some s := by
  have hk : k < l.length := by
    by_cases hk : k < l.length
    · exact hk
    · rw [List.getElem?_eq_none (by omega)] at h; cases h
  unfold atI ixN
  rw [if_pos (by omega), if_pos (by omega)]
  simpa using h
section
variable {G : DH} {σ : DSt} {Q : D → DH → Prop}
theorem mod_int {i j : Int} (h : 0 < j) : Wp (modD (.int i) (.int j)) G Q ↔ Q (.int (i % j)) G := by
  have e : modD (.int i) (.int j) = if 0 < j then pure (.int (i % j)) else M.stuck := rfl
  rw [e, if_pos h]; exact wp_pure
theorem fdiv_int {i j : Int} (h : 0 < j ∧ j < 2 ^ 100) : Wp (fdivD (.int i) (.int j)) G Q ↔ Q (.int (i / j)) G := by
  have e : fdivD (.int i) (.int j) = if CDivB i j then pure (.int (i / j)) else M.stuck := rfl
  rw [e, if_pos (show CDivB i j from h)]; exact wp_pure
theorem mul_int {i j : Int} (h : CMul i j) : Wp (mulD (.int i) (.int j)) G Q ↔ Q (.int (i * j)) G := by
  have e : mulD (.int i) (.int j) = if CMul i j then pure (.int (i * j)) else M.stuck := rfl
  rw [e, if_pos h]; exact wp_pure
theorem ix_lst {r : Nat} {l : List D} {i : Int} (h : G[r]? = some (.lst l)) : Wp (ixD (.ref r) (.int i)) G Q ↔ ∃ d, atI l i = some d ∧ Q d G := by
  have e : ixD (.ref r) (.int i) = (do
    let l ← objM r >>= DL.listOf
    optM (atI l i)) := rfl
  rw [e]
  simp only [wp_bind, wp_obj, h, someI, DL.listOf, wp_pure, wp_opt]
theorem set_lst {r : Nat} {l : List D} {k : Int} {j : Nat} {d : D} {R : Unit → DH → Prop} (h : G[r]? = some (.lst l)) (hj : ixN l.length k = some j) : Wp (setD (.ref r) (.int k) d) G R ↔ R () (G.set r (.lst (l.set j d))) := by
  unfold setD
  simp only [wp_bind, wp_obj, h, someI, hj, wp_put]
theorem wp_sub {fo fi : Fe} {d : D} {S : DSt → DH → Prop} : Wp (subG fo fi d σ) G S ↔ Wp (fo σ) G fun o G1 => Wp (fi σ) G1 fun i G2 => Wp (setD o i d) G2 fun _ G3 => S σ G3 := by
  unfold subG; simp only [wp_bind, wp_pure]
end
noncomputable def Hand (G : DH) (r : Nat) : Prop := ∃ a b c e : Int, G[r]? = some (.lst [.int a, .int b, .int c, .int e]) ∧ 0 ≤ b ∧ b < 2 ^ 40
noncomputable def Fr (r : Nat) (G G' : DH) : Prop := G.length ≤ G'.length ∧ (∀ i, i ≠ r → i < G.length → G'[i]? = G[i]?) ∧ Hand G' r
theorem Hand.lt {G : DH} {r : Nat} (h : Hand G r) : r < G.length := by
  obtain ⟨a, b, c, e, hr, _⟩ := h
  by_cases hi : r < G.length
  · exact hi
  · rw [List.getElem?_eq_none (by omega)] at hr; cases hr
theorem Hand.app {G t : DH} {r : Nat} (h : Hand G r) : Hand (G ++ t) r := by
  have hl := h.lt
  obtain ⟨a, b, c, e, hr, hb⟩ := h
  exact ⟨a, b, c, e, by rw [List.getElem?_append_left hl]; exact hr, hb⟩
theorem Fr.refl {r : Nat} {G : DH} (h : Hand G r) : Fr r G G := ⟨Nat.le_refl _, fun _ _ _ => rfl, h⟩
theorem Fr.trans {r : Nat} {G G1 G2 : DH} (h : Fr r G G1) (k : Fr r G1 G2) : Fr r G G2 :=
  ⟨Nat.le_trans h.1 k.1, fun i hi hl => by rw [k.2.1 i hi (by have := h.1; omega), h.2.1 i hi hl], k.2.2⟩
theorem Fr.app {r : Nat} {G t : DH} (h : Hand G r) : Fr r G (G ++ t) := ⟨by simp, fun i _ hl => List.getElem?_append_left hl, h.app⟩
theorem Fr.set {r : Nat} {G : DH} {o : DO} (h : Hand (G.set r o) r) : Fr r G (G.set r o) := ⟨by simp, fun i hi hl => by rw [List.getElem?_set_ne (Ne.symm hi)], h⟩
theorem pow_int {i j : Int} {G : DH} {Q : D → DH → Prop} (h : CPow i j) : Wp (powD (.int i) (.int j)) G Q ↔ Q (.int (i ^ j.toNat)) G := by
  have e : powD (.int i) (.int j) = if CPow i j then pure (.int (i ^ j.toNat)) else M.stuck := rfl
  rw [e, if_pos h]; exact wp_pure
theorem p18 {G : DH} {Q : D → DH → Prop} : Wp (powD (.int 10) (.int 18)) G Q ↔ Q (.int 1000000000000000000) G := by
  rw [pow_int (by decide)]; exact Iff.rfl
theorem atI_some {l : List D} {k : Int} (h0 : 0 ≤ k) (h1 : k < l.length) : ∃ d, d ∈ l ∧ atI l k = some d := by
  obtain ⟨n, rfl⟩ := Int.eq_ofNat_of_zero_le h0
  have hn : n < l.length := by omega
  exact ⟨l[n], List.getElem_mem hn, atI_nat (List.getElem?_eq_getElem hn)⟩
theorem sz {l : List D} (h : Nat.ble l.length 100 = true := by rfl) : l.length ≤ sizeLine := Nat.le_trans (Nat.le_of_ble_eq_true h) (by decide)
theorem sz2 {a b : List D} (h : Nat.ble (a.length + b.length) 100 = true := by rfl) : a.length + b.length ≤ sizeLine := Nat.le_trans (Nat.le_of_ble_eq_true h) (by decide)
theorem Fr.lt {r : Nat} {G G' : DH} (h : Fr r G G') : r < G'.length := h.2.2.lt
theorem Fr.at {r p : Nat} {G G' : DH} {o : DO} (h : Fr r G G') (hp : p ≠ r) (e : G[p]? = some o) : G'[p]? = some o := by
  have hl : p < G.length := by
    by_cases hi : p < G.length
    · exact hi
    · rw [List.getElem?_eq_none (by omega)] at e; cases e
  rw [h.2.1 p hp hl]; exact e
theorem app_at {G t : DH} {k : Nat} : (G ++ t)[G.length + k]? = t[k]? := by
  rw [List.getElem?_append_right (by omega)]; congr 1; omega
theorem app_at0 {G t : DH} : (G ++ t)[G.length]? = t[0]? := app_at (k := 0)
section
variable {G : DH} {σ : DSt} {Q : D → DH → Prop}
theorem wp_mt {t : D → M Unit} {m : D → List D → M D} {fo : Fe} {fs : DSt → M (List D)} : Wp (mtE t m fo fs σ) G Q ↔ Wp (fo σ) G fun x G1 => Wp (t x) G1 fun _ G2 => Wp (fs σ) G2 fun xs G3 => Wp (m x xs) G3 Q := by
  unfold mtE; simp only [wp_bind]
theorem isList_lst {r : Nat} {l : List D} {R : Unit → DH → Prop} (h : G[r]? = some (.lst l)) : Wp (isListM (.ref r)) G R ↔ R () G := by
  unfold isListM; simp only [wp_bind, wp_obj, h, someI, wp_pure]
theorem append_lst {r : Nat} {l : List D} {y : D} (h : G[r]? = some (.lst l)) (hl : l.length < sizeLine) : Wp (appendD (.ref r) [y]) G Q ↔ Q .non (G.set r (.lst (l ++ [y]))) := by
  have e : appendD (.ref r) [y] = (do
    let l ← lstM r
    if l.length < sizeLine then do
      let _ ← putM r (.lst (l ++ [y]))
      pure .non
    else M.stuck) := rfl
  rw [e]
  unfold lstM
  simp only [wp_bind, wp_obj, h, someI, wp_pure, hl, if_true, wp_put]
theorem tuple_lst {r : Nat} {l : List D} (h : G[r]? = some (.lst l)) : Wp (tupleF [.ref r]) G Q ↔ Q (.tup l) G := by
  have e : tupleF [.ref r] = (do
    let l ← objM r >>= DL.listOf
    pure (.tup l)) := rfl
  rw [e]
  simp only [wp_bind, wp_obj, h, someI, DL.listOf, wp_pure]
theorem list_tup {l : List D} : Wp (listF [.tup l]) G Q ↔ Q (.ref G.length) (G ++ [.lst l]) := wp_alloc
theorem rng1 {fs : DSt → M (List D)} {R : Src → DH → Prop} : Wp (itRng1 fs σ) G R ↔ Wp (fs σ) G fun xs G1 => Wp (match xs with
    | [.int j] => if -(2 ^ 62) ≤ j ∧ j < 2 ^ 62 then pure ⟨rangeL 0 j.toNat, fun _ => true⟩ else M.stuck
    | _ => M.stuck : M Src) G1 R := by
  unfold itRng1; simp only [wp_bind] <;> rfl
theorem rng1_int {j : Int} {R : Src → DH → Prop} (h : -(2 ^ 62) ≤ j ∧ j < 2 ^ 62) : Wp (match [D.int j] with
    | [.int j] => if -(2 ^ 62) ≤ j ∧ j < 2 ^ 62 then pure ⟨rangeL 0 j.toNat, fun _ => true⟩ else M.stuck
    | _ => M.stuck : M Src) G R ↔ R ⟨rangeL 0 j.toNat, fun _ => true⟩ G := by
  show Wp (if -(2 ^ 62) ≤ j ∧ j < 2 ^ 62 then pure ⟨rangeL 0 j.toNat, fun _ => true⟩ else M.stuck : M Src) G R ↔ _
  rw [if_pos h]; exact wp_pure
theorem wp_tupG {n : Nat} {g : Fgs} {l : List D} {S : DSt → DH → Prop} (h : l.length = n) : Wp (tupG n g (.tup l) σ) G S ↔ Wp (g l σ) G S := by
  have e : tupG n g (.tup l) σ = if l.length = n then g l σ else M.stuck := rfl
  rw [e, if_pos h]
theorem wp_tup2 {g : Fgs} {a b : D} {S : DSt → DH → Prop} : Wp (tupG 2 g (.tup [a, b]) σ) G S ↔ Wp (g [a, b] σ) G S := wp_tupG rfl
theorem wp_consG {g : Fg} {t : Fgs} {d : D} {l : List D} {S : DSt → DH → Prop} : Wp (consG g t (d :: l) σ) G S ↔ Wp (g d σ) G fun σ1 G1 => Wp (t l σ1) G1 S := by
  have e : consG g t (d :: l) σ = (do t l (← g d σ)) := rfl
  rw [e]; simp only [wp_bind]
theorem wp_nilG {S : DSt → DH → Prop} : Wp (nilG [] σ) G S ↔ S σ G := wp_pure
theorem add_lst {i j : Nat} {a b : List D} (ha : G[i]? = some (.lst a)) (hb : G[j]? = some (.lst b)) (hl : a.length + b.length ≤ sizeLine) : Wp (addD (.ref i) (.ref j)) G Q ↔ Q (.ref G.length) (G ++ [.lst (a ++ b)]) := by
  have e : addD (.ref i) (.ref j) = (do
    match ← objM i, ← objM j with
    | .lst a, .lst b => if a.length + b.length ≤ sizeLine then allocM (.lst (a ++ b)) else M.stuck
    | _, _ => M.stuck) := rfl
  rw [e]
  simp only [wp_bind, wp_obj, ha, hb, someI, if_pos hl, wp_alloc]
theorem add_tup {a b : List D} (hl : a.length + b.length ≤ sizeLine) : Wp (addD (.tup a) (.tup b)) G Q ↔ Q (.tup (a ++ b)) G := by
  have e : addD (.tup a) (.tup b) = if a.length + b.length ≤ sizeLine then pure (.tup (a ++ b)) else M.stuck := rfl
  rw [e, if_pos hl]; exact wp_pure
theorem wp_noPart {R : Option Int → DH → Prop} : Wp (noPart σ) G R ↔ R none G := wp_pure
theorem wp_part {f : Fe} {R : Option Int → DH → Prop} : Wp (partO f σ) G R ↔ Wp (f σ) G fun x G1 => ∃ i, x = .int i ∧ R (some i) G1 := by
  unfold partO
  simp only [wp_bind]
  constructor
  · rintro ⟨x, G1, e, q⟩
    refine ⟨x, G1, e, ?_⟩
    cases x with
    | int i => exact ⟨i, rfl, wp_pure.mp q⟩
    | _ => exact (wp_stuck.mp q).elim
  · rintro ⟨x, G1, e, i, rfl, q⟩
    exact ⟨_, G1, e, wp_pure.mpr q⟩
theorem sl_tup {l : List D} {lo hi : Option Int} : Wp (slD (.tup l) lo hi) G Q ↔ Q (.tup (DL.cutD l lo hi)) G := wp_pure
theorem intI {i : Int} {P : Int → Prop} : (∃ k, D.int i = .int k ∧ P k) ↔ P i := ⟨fun ⟨k, e, p⟩ => by cases e; exact p, fun p => ⟨i, rfl, p⟩⟩
end
noncomputable def PairD (d : D) : Prop := ∃ x y : Option Int, d = .tup [endD x, endD y]
noncomputable def Fr2 (r p : Nat) (G G' : DH) : Prop := G.length ≤ G'.length ∧ (∀ i, i ≠ r → i ≠ p → i < G.length → G'[i]? = G[i]?) ∧ Hand G' r
theorem Fr2.trans {r p : Nat} {G G1 G2 : DH} (h : Fr2 r p G G1) (k : Fr2 r p G1 G2) : Fr2 r p G G2 :=
  ⟨Nat.le_trans h.1 k.1, fun i hi hp hl => by rw [k.2.1 i hi hp (by have := h.1; omega), h.2.1 i hi hp hl], k.2.2⟩
theorem Fr.two {r p : Nat} {G G1 : DH} (h : Fr r G G1) : Fr2 r p G G1 := ⟨h.1, fun i hi _ hl => h.2.1 i hi hl, h.2.2⟩
theorem Fr2.set {r p : Nat} {G : DH} {o : DO} (hp : p ≠ r) (h : Hand G r) : Fr2 r p G (G.set p o) := by
  refine ⟨by simp, fun i _ hi hl => by rw [List.getElem?_set_ne (Ne.symm hi)], ?_⟩
  obtain ⟨a, b, c, e, hr, hb⟩ := h
  exact ⟨a, b, c, e, by rw [List.getElem?_set_ne hp]; exact hr, hb⟩
theorem PairD.set {xs : List D} {j : Nat} {d : D} (h : ∀ d ∈ xs, PairD d) (hd : PairD d) : ∀ x ∈ xs.set j d, PairD x := fun x hx => by
  rcases List.mem_or_eq_of_mem_set hx with hx | rfl
  · exact h x hx
  · exact hd
theorem app_one {G : DH} {o : DO} : (G ++ [o])[G.length]? = some o := app_at0
theorem at_app {G t : DH} {p : Nat} {o : DO} (e : G[p]? = some o) : (G ++ t)[p]? = some o := by
  have hlt : p < G.length := by
    by_cases hi : p < G.length
    · exact hi
    · rw [List.getElem?_eq_none (by omega)] at e; cases e
  rw [List.getElem?_append_left hlt]; exact e
noncomputable def okD : D → Bool
  | .non => true
  | .bl _ => true
  | .int _ => true
  | .str _ => true
  | .tup _ => true
  | _ => false
theorem okD_end (x : Option Int) : okD (endD x) = true := by cases x <;> rfl
theorem There_ok {G : DH} {d : D} (h : okD d = true) : There G d := by
  cases d <;> first | exact ⟨_, rfl⟩ | cases h
theorem okT1 {G : DH} {l : List D} (h : ∀ x ∈ l, okD x = true) : ThereN 1 G (.tup l) := ⟨⟨_, rfl⟩, fun l' e x hx => by cases e; exact There_ok (h x hx)⟩
theorem PairD.there {G : DH} {d : D} (h : PairD d) : ThereN 1 G d := by
  obtain ⟨x, y, rfl⟩ := h
  exact okT1 fun z hz => by
    simp only [List.mem_cons, List.not_mem_nil, or_false] at hz
    rcases hz with rfl | rfl <;> exact okD_end _
noncomputable def Gr (G G' : DH) : Prop := G.length ≤ G'.length ∧ ∀ i, i < G.length → G'[i]? = G[i]?
theorem Gr.refl {G : DH} : Gr G G := ⟨Nat.le_refl _, fun _ _ => rfl⟩
theorem Gr.trans {G G1 G2 : DH} (h : Gr G G1) (k : Gr G1 G2) : Gr G G2 := ⟨Nat.le_trans h.1 k.1, fun i hi => by rw [k.2 i (by have := h.1; omega), h.2 i hi]⟩
theorem Gr.app {G t : DH} : Gr G (G ++ t) := ⟨by simp, fun i hi => List.getElem?_append_left hi⟩
theorem Gr.of {r : Nat} {G G1 G2 : DH} (h : Gr G G1) (f : Fr r G1 G2) (hr : G.length ≤ r) : Gr G G2 := ⟨Nat.le_trans h.1 f.1, fun i hi => by rw [f.2.1 i (by omega) (by have := h.1; omega), h.2 i hi]⟩
theorem Gr.at {p : Nat} {G G' : DH} {o : DO} (h : Gr G G') (e : G[p]? = some o) : G'[p]? = some o := by
  have hl : p < G.length := by
    by_cases hi : p < G.length
    · exact hi
    · rw [List.getElem?_eq_none (by omega)] at e; cases e
  rw [h.2 p hl]; exact e
theorem ints_map : ∀ ns : List Int, intsOf (ns.map D.int) = some ns
  | [] => rfl
  | a :: r => by simp only [List.map, intsOf, ints_map r, Option.map]
theorem seq_ref {G : DH} {σ : DSt} {p : Nat} {l : List D} {R : Src → DH → Prop} (e : G[p]? = some (.lst l)) : Wp (srcM (.ref p)) G R ↔ R ⟨l, ckO p (.lst l)⟩ G := by
  have h : srcM (.ref p) = (do
    let o ← objM p
    let l ← DL.listOf o
    pure ⟨l, ckO p o⟩) := rfl
  rw [h]
  simp only [wp_bind, wp_obj, e, someI, DL.listOf, wp_pure]
end W
set_option Elab.async false
set_option linter.all false
set_option maxRecDepth 100000
namespace W
open PySem PySem.Spec L2 DL
open PyProof.Rows hiding St
section
variable {G : DH} {σ : DSt} {Q : D → DH → Prop}
theorem wp_chain {o o' : D → D → M D} {a b c : Fe} : Wp (chainE o o' a b c σ) G Q ↔ Wp (a σ) G fun x G1 => Wp (b σ) G1 fun y G2 => Wp (o x y) G2 fun z G3 => ∃ k, z = .bl k ∧ if k = true then Wp (c σ) G3 fun w G4 => Wp (o' y w) G4 Q else Q (.bl false) G3 := by
  unfold chainE; simp only [wp_bind, wp_isBl, wp_ite, wp_pure]
theorem wp_trueT {B : Bool → DH → Prop} : Wp (trueT σ) G B ↔ B true G := wp_pure
variable {g : Fg} {t : DSt → M Bool} {e : Fe} {ck : DH → Bool} {R : List D → DH → Prop}
theorem wp_compN : Wp (compL g t e ck [] σ) G R ↔ ck G = true ∧ R [] G := by
  unfold compL
  constructor
  · rintro ⟨a, G', e, q⟩
    by_cases h : ck G = true
    · simp only [h, if_true] at e; cases e; exact ⟨h, q⟩
    · simp only [h] at e; cases e
  · rintro ⟨h, q⟩
    exact ⟨_, G, by simp only [h, if_true], q⟩
theorem wp_compC {d : D} {r : List D} : Wp (compL g t e ck (d :: r) σ) G R ↔ ck G = true ∧ Wp (g d σ) G fun σ1 G1 => Wp (t σ1) G1 fun b G2 => if b = true then Wp (e σ1) G2 fun y G3 => Wp (compL g t e ck r σ1) G3 fun ys G4 => R (y :: ys) G4 else Wp (compL g t e ck r σ1) G2 R := by
  have h0 : Wp (compL g t e ck (d :: r) σ) G R ↔ ck G = true ∧ Wp (do
      let σ1 ← g d σ
      if ← t σ1 then do
        let y ← e σ1
        let ys ← compL g t e ck r σ1
        pure (y :: ys)
      else compL g t e ck r σ1 : M (List D)) G R := by
    rw [compL]
    constructor
    · rintro ⟨a, G', e, q⟩
      by_cases h : ck G = true
      · simp only [h, if_true] at e; exact ⟨h, a, G', e, q⟩
      · simp only [h] at e; cases e
    · rintro ⟨h, a, G', e, q⟩
      exact ⟨a, G', by simp only [h, if_true]; exact e, q⟩
  rw [h0]
  simp only [wp_bind, wp_ite, wp_pure]
theorem wp_comp {it : DSt → M Src} {caps : List (Option Nat)} : Wp (compE it caps g t e σ) G Q ↔ Wp (it σ) G fun s G1 => s.items.length ≤ sizeLine ∧ Wp (compL g t e s.ck s.items (capSt caps σ)) G1 fun ys G2 => Q (.ref G2.length) (G2 ++ [.lst ys]) := by
  unfold compE
  simp only [wp_bind]
  constructor
  · rintro ⟨s, G1, e1, q⟩
    refine ⟨s, G1, e1, ?_⟩
    by_cases h : s.items.length ≤ sizeLine
    · rw [if_pos h] at q
      simp only [wp_bind, wp_noX, wp_alloc] at q
      exact ⟨h, q⟩
    · rw [if_neg h] at q; exact (wp_stuck.mp q).elim
  · rintro ⟨s, G1, e1, h, q⟩
    refine ⟨s, G1, e1, ?_⟩
    dsimp only
    rw [if_pos h]
    simp only [wp_bind, wp_noX, wp_alloc]
    exact q
theorem comp_loop (J : DH → Prop) (S : DSt → Prop) (P : D → Prop) (hck : ∀ G, J G → ck G = true) : ∀ (items : List D) (σ : DSt) (G : DH), S σ → J G →
    (∀ d ∈ items, ∀ σ G, S σ → J G → Wp (g d σ) G fun σ1 G1 => G1 = G ∧ S σ1 ∧ Wp (t σ1) G fun b G2 => b = true ∧ G2 = G ∧ Wp (e σ1) G fun y G3 => J G3 ∧ P y) →
    Wp (compL g t e ck items σ) G fun ys G' => J G' ∧ ys.length = items.length ∧ ∀ y ∈ ys, P y
  | [], σ, G, s, j, _ => by
    rw [wp_compN]
    exact ⟨hck G j, j, rfl, fun y hy => by cases hy⟩
  | d :: r, σ, G, s, j, step => by
    rw [wp_compC]
    refine ⟨hck G j, Wp.mono (step d (by simp) σ G s j) fun σ1 G1 ⟨e1, s1, w1⟩ => ?_⟩
    subst e1
    refine Wp.mono w1 fun b G2 ⟨eb, e2, w2⟩ => ?_
    subst eb e2
    rw [if_pos rfl]
    refine Wp.mono w2 fun y G3 ⟨j3, py⟩ => ?_
    refine Wp.mono (comp_loop J S P hck r σ1 G3 s1 j3 fun d hd => step d (by simp [hd])) fun ys G4 ⟨j4, l4, p4⟩ => ⟨j4, by simp [l4], fun z hz => ?_⟩
    rcases List.mem_cons.mp hz with rfl | hz
    · exact py
    · exact p4 z hz
theorem comp_filter {p : D → Bool} {G : DH} (hck : ck G = true) (S : DSt → Prop) : ∀ (items : List D) (σ : DSt), S σ →
    (∀ d ∈ items, ∀ σ, S σ → ∃ σ1, g d σ G = some (.ok σ1, G) ∧ S σ1 ∧ t σ1 G = some (.ok (p d), G) ∧ e σ1 G = some (.ok d, G)) → compL g t e ck items σ G = some (.ok (items.filter p), G)
  | [], σ, _, _ => by unfold compL; simp only [hck, if_true, List.filter_nil]
  | d :: r, σ, i, h => by
    obtain ⟨σ1, h1, i1, h2, h3⟩ := h d (by simp) σ i
    have h4 := comp_filter hck S r σ1 i1 fun d hd => h d (by simp [hd])
    unfold compL
    simp only [hck, if_true]
    rw [M.bind_ok h1, M.bind_ok h2]
    by_cases hp : p d = true
    · rw [if_pos hp, M.bind_ok h3, M.bind_ok h4, List.filter_cons_of_pos hp]
      rfl
    · rw [if_neg hp, h4, List.filter_cons_of_neg hp]
end
section
variable {G : DH} {σ : DSt} {Q : D → DH → Prop}
noncomputable def isIntB : D → Bool
  | .int _ => true
  | .bl _ => true
  | _ => false
theorem int_wp {d : D} (h : There G d) : Wp (isinstF [d, .ty "int"]) G Q ↔ Q (.bl (isIntB d)) G := by
  obtain ⟨k, h⟩ := h
  rw [wp_isinst ty_int]
  simp only [h, someI]
  cases d <;> simp only [kdOf] at h <;> first
    | (cases h; done)
    | (cases h; simp [Kd.is, isIntB]; done)
    | (split at h <;> first | (cases h; done) | (cases h; simp [Kd.is, isIntB]))
theorem eq_str {a b : Str} : Wp (eqD (.str a) (.str b)) G Q ↔ Q (.bl (a == b)) G := by
  have e : eqN 40 G (.str a) (.str b) = some (a == b) := by rfl
  rw [wp_eq, e]; exact someI
theorem len_str' {z : Str} (h : z.length ≤ sizeLine) : Wp (lenF [.str z]) G Q ↔ Q (.int z.length) G := by
  have e : lenF [.str z] = if z.length ≤ sizeLine then pure (.int z.length) else M.stuck := rfl
  rw [e, if_pos h]; exact wp_pure
theorem wp_notIn {x y : D} : Wp (notInD x y) G Q ↔ ∃ k, inB x y G = some k ∧ Q (.bl (!k)) G := optB_wp (g := not) (by unfold notInD optB; cases inB x y G <;> rfl)
theorem wp_in {x y : D} : Wp (inD x y) G Q ↔ ∃ k, inB x y G = some k ∧ Q (.bl k) G := optB_wp (g := id) (by unfold inD optB; cases inB x y G <;> rfl)
theorem srcA_ref {p : Nat} {l : List D} {R : Src → DH → Prop} (e : G[p]? = some (.lst l)) : Wp (srcA (.ref p)) G R ↔ R ⟨l, ckO p (.lst l)⟩ G := seq_ref (σ := []) e
end
end W
set_option Elab.async false
set_option linter.all false
set_option maxRecDepth 100000
namespace DL
open PySem PySem.Spec L2
open PyProof.Rows hiding St
theorem nolen_lri : typeLookup (.type "list_reverseiterator") "__len__" = pure none := by rw [typeLookup_type, builtinLookup_eq_fast]; kernel_rfl
theorem hint_lri : typeLookup (.type "list_reverseiterator") "__length_hint__" = pure (some (.builtin "list_reverseiterator.__length_hint__")) := by rw [typeLookup_type, builtinLookup_eq_fast]; kernel_rfl
section
variable {prog : Program} {w : World} {A : Around} {E : Value → Shared → Prop} {s : Shared} {I l : Addr} {items : Array Value}
theorem rev_hint {Q : Bool → Shared → Prop} (hT : s.TypeIs (.ref I) "list_reverseiterator") (h : Q false s) : wpAny (model prog w) A (Builtin.List.listLengthHint (.ref I)) Q E s := by
  unfold Builtin.List.listLengthHint
  refine wpAny_bind (wpAny_specialOf hT nolen_lri ?_)
  show wpAny _ A (specialOf (Value.ref I) (Str.ofString "__length_hint__") >>= _) _ _ _
  refine wpAny_bind (wpAny_specialOf hT hint_lri ?_)
  generalize hid : ("list_reverseiterator.__length_hint__" : String) = id0
  wp_delta
  rw [show splitId id0 = some ("list_reverseiterator", "__length_hint__") from by subst hid; decide +kernel]
  subst hid
  refine wpAny_bind (wpAny_isInstance (T := "list_reverseiterator") (b := true) hT (by rw [isSubtype_type]; kernel_rfl) ?_)
  refine wpAny_pure ?_
  exact h
theorem rev_extend {R : Result → Shared → Prop} (hh : A.handled = none) (hI : s.heap.IsRevIter I l ((items.size : Int) - 1)) (hl : s.heap.IsList l items) (hne : l ≠ I) (S : Addr) (hSI : S ≠ I) (hSl : S ≠ l) (res : Value) (c₀ : Nat) (hS : s.heap.get? S = some { cls := .type "list", data := .seq #[] c₀ })
    (hR : ∀ h' tk acc' c', (∀ b o, b ≠ S → b ≠ I → s.heap.get? b = some o → h'.get? b = some o) → h'.get? S = some { cls := .type "list", dict := none, data := .seq acc' c', slots := #[] } → ItemsOf (fun i v => items[items.size - 1 - i]? = some v) acc' items.size → R (.ok (.ret res)) { s with heap := h', toks := tk }) (hn : items.size ≤ sizeLine) :
    wpAny (model prog w) A.in1 (Builtin.List.listExtendWith (.ref S) (.ref I) res)
      (fun fin s' => match fin with | .done f => R (.ok f) s' | .again c' => c'.quiet = true ∧ codeAny (model prog w) A c' R s') (fun e s' => R (.error e) s') s := by
  have hSf : S ∉ [I, l] := by simp only [List.mem_cons, List.not_mem_nil, or_false, not_or]; exact ⟨hSI, hSl⟩
  have W := Walks.listRev (prog := prog) (w := w) (A := A.in1) hh I l hne items
  have st : (0 ≤ items.size ∧ s.heap.IsRevIter I l ((items.size : Int) - 1 - ((0 : Nat) : Int)) ∧ s.heap.IsList l items) := ⟨Nat.zero_le _, by simpa using hI, hl⟩
  unfold Builtin.List.listExtendWith
  refine wpAny_bind (wpAny_typeOf (T := "list_reverseiterator") hI.typeIs ?_)
  have h1 : Builtin.List.listSameRef (.ref S) (.ref I) = false := by simp [Builtin.List.listSameRef, hSI]
  rw [if_neg (by rw [h1]; decide)]
  refine wpAny_bind (wpAny_pyIter_revIter hI ?_)
  refine wpAny_bind (wpAny_holding (rev_hint hI.typeIs ?_))
  refine wpAny_ite_split (fun hab => absurd hab (by decide)) (fun _ => ?_)
  refine wpAny_pure ⟨plainId_quiet PySem.F.plain_extend_loop _, codeAny_extend_loopS W.toS hn S hSf res items.size 0 _ #[] c₀ rfl (Nat.zero_le _) st hS (ItemsOf.nil _) fun s' acc' c' hm hS' hacc => ?_⟩
  rw [Moved.eq_with hm]
  refine hR s'.heap s'.toks acc' c' (fun b o hb hbI e => hm.heap b o (fun hmem => ?_) e) hS' hacc
  rcases List.mem_cons.mp hmem with e' | hmem
  · exact hb e'
  · exact hbI (List.mem_singleton.mp hmem)
theorem rev_init {R : Result → Shared → Prop} (hh : A.handled = none) (hI : s.heap.IsRevIter I l ((items.size : Int) - 1)) (hl : s.heap.IsList l items) (hne : l ≠ I) (S : Addr) (hSI : S ≠ I) (hSl : S ≠ l) (hS : s.heap.get? S = some { cls := .type "list", data := .seq #[] })
    (hR : ∀ h' tk acc' c', (∀ b o, b ≠ S → b ≠ I → s.heap.get? b = some o → h'.get? b = some o) → h'.get? S = some { cls := .type "list", dict := none, data := .seq acc' c', slots := #[] } → ItemsOf (fun i v => items[items.size - 1 - i]? = some v) acc' items.size → R (.ok (.ret .none)) { s with heap := h', toks := tk }) (hn : items.size ≤ sizeLine) :
    wpAny (model prog w) A.in1 (Builtin.«list.__init__» ⟨[.ref S, .ref I], []⟩)
      (fun fin s' => match fin with | .done f => R (.ok f) s' | .again c' => c'.quiet = true ∧ codeAny (model prog w) A c' R s') (fun e s' => R (.error e) s') s := by
  show wpAny _ _ (do let old ← Builtin.List.listItems (.ref S); Builtin.List.listUpdate (.ref S) (fun _ => #[]); letGo old.toList.reverse; Builtin.List.listExtendWith (.ref S) (.ref I) .none) _ _ s
  refine wpAny_bind ?_
  unfold Builtin.List.listItems
  refine wpAny_bind (wpAny_seqItems hS rfl (wpAny_pure ?_))
  show wpAny _ _ (updateSeq S (fun _ => #[]) >>= fun _ => letGo (#[] : Array Value).toList.reverse >>= fun _ => Builtin.List.listExtendWith (.ref S) (.ref I) .none) _ _ s
  refine wpAny_bind (wpAny_updateSeq hS rfl ?_)
  have hS₂ := Heap.get?_update_self (Obj.mapSeq (fun _ => (#[] : Array Value))) hS rfl
  have oth : ∀ b o, b ≠ S → s.heap.get? b = some o → (s.heap.update S (Obj.mapSeq (fun _ => (#[] : Array Value)))).get? b = some o :=
    fun b o hb e => (Heap.get?_update_other _ _ (Ne.symm hb)).trans e
  refine wpAny_bind (wpAny_letGo ?_)
  refine rev_extend hh (hI.at fun o e => oth I o (Ne.symm hSI) e) (hl.at fun o e => oth l o (Ne.symm hSl) e) hne S hSI hSl .none _ hS₂ (fun h' tk acc' c' hk hS' hacc => ?_) hn
  exact hR h' tk acc' c' (fun b o hb hbI e => hk b o hb hbI (oth b o hb e)) hS' hacc
theorem rev_call {Q : Value → Shared → Prop} (hh : A.handled = none) (hI : s.heap.IsRevIter I l ((items.size : Int) - 1)) (hl : s.heap.IsList l items) (hne : l ≠ I) (hn : items.size ≤ sizeLine)
    (hQ : ∀ h' tk acc' c', (∀ b o, b ≠ I → s.heap.get? b = some o → h'.get? b = some o) → h'.get? s.heap.objs.size = some { cls := .type "list", dict := none, data := .seq acc' c', slots := #[] } → ItemsOf (fun i v => items[items.size - 1 - i]? = some v) acc' items.size → Q (.ref s.heap.objs.size) { s with heap := h', toks := tk }) :
    wpAny (model prog w) A (call (.type "list") [.ref I]) Q E s := by
  refine callType_codes (Q₁ := fun obj s₁ => obj = .ref s.heap.objs.size ∧ s₁ = { s with heap := s.heap.push { cls := .type "list", data := .seq #[] } }) PySem.F.called_list (PySem.F.typeCall_list_1 _) PySem.F.entry_list_init
    (code_list_new _ ⟨rfl, rfl⟩) fun obj s₁ h₁ => ?_
  obtain ⟨rfl, rfl⟩ := h₁
  have hS : (s.heap.push { cls := .type "list", data := .seq #[] }).get? s.heap.objs.size = some { cls := .type "list", data := .seq #[] } := Heap.get?_push_size _ rfl
  have hltI : I < s.heap.objs.size := by obtain ⟨_, e, _⟩ := hI; exact Heap.lt_size e
  have hltl : l < s.heap.objs.size := by obtain ⟨_, e, _⟩ := hl; exact Heap.lt_size e
  refine ⟨⟨_, hS, rfl⟩, PySem.F.args_list_init_2 _ _, rev_init (A := A.in1) hh (hI.at fun o e => Heap.get?_push_of_some _ e) (hl.at fun o e => Heap.get?_push_of_some _ e) hne _ (Nat.ne_of_gt hltI) (Nat.ne_of_gt hltl) hS (fun h' tk acc' c' hk hS' hacc => ?_) hn⟩
  exact ⟨rfl, hQ h' tk acc' c' (fun b o hbI e => hk b o (Nat.ne_of_lt (Heap.lt_size e)) hbI (Heap.get?_push_of_some _ e)) hS' hacc⟩
end
noncomputable def revlD : D → M D := fun x => match x with
  | .ref r => do
    let l ← objM r >>= listOf
    allocM (.lst l.reverse)
  | _ => M.stuck
section
variable {X : Cx} {Z : XC} {e : Expr} {fa : Fe} {p1 p2 pos1 pos2 : Pos}
theorem items_rev {its : List Value} {acc : Array Value} (h : ItemsOf (fun i v => its.toArray[its.toArray.size - 1 - i]? = some v) acc its.toArray.size) : acc.toList = its.reverse := by
  have hl : acc.toList.length = its.length := by rw [Array.length_toList, h.1]; simp
  apply List.ext_getElem?
  intro i
  by_cases hi : i < its.length
  · have hi' : i < acc.size := by rw [h.1]; simpa using hi
    have hv := h.2 i acc[i] (Array.getElem?_eq_getElem hi')
    rw [List.getElem?_reverse hi, Array.getElem?_toList, Array.getElem?_eq_getElem hi', ← hv]
    simp
  · rw [List.getElem?_eq_none (by omega), List.getElem?_eq_none (by rw [List.length_reverse]; omega)]
theorem de_revlist (he : DE X Z e fa) (hc : X.calm = true) (hg1 : Gl X "list") (hm1 : X.mg "list" = none) (hg2 : Gl X "reversed") (hm2 : X.mg "reversed" = none)
    (hs1 : starEach [Expr.Call (.Name "reversed" p2) [e] [] pos2] X.env = [(false, eval (.Call (.Name "reversed" p2) [e] [] pos2) X.env)]) (hs2 : starEach [e] X.env = [(false, eval e X.env)])
    (hb1 : bootBuiltins "list" = some (.type "list") := by first | rfl | decide +kernel) (hb2 : bootBuiltins "reversed" = some (.type "reversed") := by first | rfl | decide +kernel) :
    DE X Z (.Call (.Name "list" p1) [.Call (.Name "reversed" p2) [e] [] pos2] [] pos1) (unE revlD fa) := by
  refine ⟨?_⟩
  intro pins s σ H Q I ⟨dσ, μ, G, sr, h, p⟩
  refine Call_ (ld_blt I hg1 hm1 hb1 (PyProof.Rows.callWith_type1 ?_ hs1 rfl))
  rw [hs1]
  refine Calls.spliced_cons (Call_ (ld_blt I hg2 hm2 hb2 (PyProof.Rows.callWith_type1 ?_ hs2 rfl)))
  rw [hs2]
  refine Calls.spliced_cons (thn (he.h pins s σ H _ I ⟨dσ, μ, G, sr, h, (Post.bind p).mono fun d μ1 G1 H1 x1 h1 p1 v rv => (⟨d, μ1, G1, rv, h1, p1⟩ : liftR1 (wc X) Z revlD v H1 Q)⟩) fun v s1 ⟨x, H1, I1, r1, d, μ1, G1, rd, h1, p1⟩ => ?_)
  refine Calls.spliced_nil ?_
  cases d with
  | ref r =>
    obtain ⟨l, a, vs, rfl, rl, hq, p2⟩ := seq_of_ref (f := fun l => allocM (.lst l.reverse)) h1 rd p1
    cases r1
    obtain ⟨its, rr, ht, hz⟩ := I1.list hq
    refine call_reversed_list ht.isList ?_
    refine Calls.spliced_nil ?_
    have hlt : a < s1.heap.objs.size := by obtain ⟨_, e, _⟩ := ht.isList; exact Heap.lt_size e
    have hI : (s1.heap.push (revObj a ((its.toArray.size : Int) - 1))).IsRevIter s1.heap.objs.size a ((its.toArray.size : Int) - 1) := ⟨_, Heap.get?_push_size _ rfl, rfl, rfl⟩
    refine rev_call (s := { s1 with heap := s1.heap.push (revObj a ((its.toArray.size : Int) - 1)) }) (I.ok.hd hc) hI (ht.isList.push _) (Nat.ne_of_lt hlt) (by rw [List.size_toArray, ← rr.length]; exact hz) fun h' tk acc' c' hk hS' hacc => ?_
    have e2 := items_rev hacc
    have hD : s1.heap.objs.size ≤ (s1.heap.push (revObj a ((its.toArray.size : Int) - 1))).objs.size := by rw [Heap.size_push]; exact Nat.le_succ _
    have hf := I1.hok.fresh hD
    have hS2 : h'.get? (s1.heap.push (revObj a ((its.toArray.size : Int) - 1))).objs.size = some { cls := .type "list", data := .seq its.reverse.toArray c' } := by
      rw [hS', ← e2, Array.toArray_toList]
    exact ⟨.ref _, upd H1 _ (.lst vs.reverse), I1.laid (t' := tk) (fun b u q => hk b u (Nat.ne_of_lt (Heap.lt_size q)) (Heap.get?_push_of_some _ q)) hD ⟨by rw [List.length_reverse]; exact hz, its.reverse, c', rr.reverse, hS2⟩, rfl, post_lst h1 rl.reverse p2 _ hf⟩
  | _ => exact p1.elim
end
end DL
set_option Elab.async false
set_option linter.all false
set_option maxRecDepth 100000
namespace DL
open PySem PySem.Spec L2 Builtin Builtin.Str
open PyProof.Rows hiding St
section
variable {X : Cx} {Z : XC} {e : Expr} {fa : Fe} {p2 pos : Pos} {lo hi : Option Expr} {fl fh : Fo}
theorem part_of {v : Value} {o : Option Int} (p : IsPart v o) : ∃ l : Option (Int × Tok), v = partValue l ∧ l.map (·.1) = o := by
  cases p with
  | none => exact ⟨none, rfl, rfl⟩
  | int i t => exact ⟨some (i, t), rfl, rfl⟩
theorem sl_str : SlR X (fun x lo hi H Q => ∃ z, x = .str z ∧ z.length ≤ sizeLine ∧ Q (.str (Txt.slice z lo hi)) H) := by
  intro pins s σ H x v vl vu lo hi sl Q I rx hs pl pu h
  obtain ⟨z, rfl, hz, q⟩ := h
  obtain ⟨t, rfl⟩ := rx
  obtain ⟨l, el, eml⟩ := part_of pl
  obtain ⟨u, eu, emu⟩ := part_of pu
  subst el eu eml emu
  refine ⟨"str", _, PySem.F.slot_str_getitem.lookup, typeIs_str _ z t, ?_⟩
  refine wpAny_getItem_str_slice (l := l) (u := u) (st := none) (let ⟨o, h1, h2, h3⟩ := hs; ⟨o, h1, h2, h3⟩) rfl ?_
  unfold sliceMade
  unfold Txt.slice at q
  unfold slicePicked
  have e1 : ((Option.map (fun x : Int × Tok => x.1) none).getD 1) = (1 : Int) := rfl
  simp only [e1]
  by_cases hc : ((1 : Int) == 1 && (strSliceIndices (l.map (·.1)) (u.map (·.1)) 1 z.length).length == z.length) = true
  · rw [if_pos hc] at q
    rw [if_pos hc]
    exact ⟨.str z, H, I, ⟨t, rfl⟩, q⟩
  · rw [if_neg hc] at q
    rw [if_neg hc]
    refine ⟨?_, .str _, H, I.tok _, ⟨_, rfl⟩, q⟩
    have hle := Txt.slice_le z (l.map (·.1)) (u.map (·.1))
    unfold Txt.slice at hle
    rw [if_neg hc] at hle
    exact Nat.le_trans hle hz
noncomputable def slT : D → Option Int → Option Int → M D := fun x lo hi => match x with
  | .str z => if z.length ≤ sizeLine then pure (.str (Txt.slice z lo hi)) else M.stuck
  | .tup l => slD (.tup l) lo hi
  | .ref r => slD (.ref r) lo hi
  | _ => M.stuck
noncomputable def sliceT (f : Fe) (lo hi : Fo) : Fe := fun σ => do
  let x ← f σ
  let l ← lo σ
  let h ← hi σ
  slT x l h
theorem sd_slT : SlD X Z slT := SlR.mono (sl_str.or (sd_sl (Z := Z))) fun x lo hi H Q ⟨dx, μ, G, rx, hr, p⟩ => by
  cases dx with
  | str z =>
    unfold slT at p
    dsimp only at p
    split at p
    · rename_i hz
      exact .inl ⟨z, repS rx, hz, Post.ok p hr _ (by unfold RepV; rfl)⟩
    · exact p.elim
  | tup l => exact .inr ⟨.tup l, μ, G, rx, hr, p⟩
  | ref r => exact .inr ⟨.ref r, μ, G, rx, hr, p⟩
  | _ => exact p.elim
theorem de_sliceT (he : DE X Z e fa) (hl : DOp X Z lo fl) (hu : DOp X Z hi fh) : DE X Z (.Subscript e (.Slice lo hi none p2) pos) (sliceT fa fl fh) :=
  DE.of (pe_slice sd_slT he.h hl.h hu.h) fun σ H Q ⟨dσ, μ, G, s, h, p⟩ => ⟨dσ, μ, G, s, h, (Post.bind p).mono fun d μ1 G1 H1 x1 h1 p1 v rv =>
    ⟨dσ, μ1, G1, s.mono x1, h1, (Post.bind p1).mono fun l μ2 G2 H2 x2 h2 p2 => ⟨dσ, μ2, G2, s.mono (x1.trans x2), h2, (Post.bind p2).mono fun u μ3 G3 H3 x3 h3 p3 => ⟨d, μ3, G3, rv.mono (x2.trans x3), h3, p3⟩⟩⟩⟩
end
end DL
set_option Elab.async false
set_option linter.all false
set_option maxRecDepth 100000
namespace DL
open PySem PySem.Spec L2 Builtin Builtin.Str
open PyProof.Rows hiding St
section
variable {X : Cx} {Z : XC} {e : Expr} {fa : Fe} {p2 pos : Pos}
end
end DL
set_option Elab.async false
set_option linter.all false
set_option maxRecDepth 100000
namespace W
open PySem PySem.Spec L2 DL Builtin Builtin.Str
open PyProof.Rows hiding St
section
variable {G : DH} {σ : DSt} {Q : D → DH → Prop}
theorem wp_sliceT {f : Fe} {lo hi : Fo} : Wp (sliceT f lo hi σ) G Q ↔ Wp (f σ) G fun x G1 => Wp (lo σ) G1 fun l G2 => Wp (hi σ) G2 fun h G3 => Wp (slT x l h) G3 Q := by
  unfold sliceT; simp only [wp_bind]
theorem slT_tup {l : List D} {lo hi : Option Int} : Wp (slT (.tup l) lo hi) G Q ↔ Q (.tup (DL.cutD l lo hi)) G := wp_pure
theorem revl_lst {r : Nat} {l : List D} (e : G[r]? = some (.lst l)) : Wp (revlD (.ref r)) G Q ↔ Q (.ref G.length) (G ++ [.lst l.reverse]) := by
  have h : revlD (.ref r) = (do
    let l ← objM r >>= DL.listOf
    allocM (.lst l.reverse)) := rfl
  rw [h]
  simp only [wp_bind, wp_obj, e, someI, DL.listOf, wp_pure, wp_alloc]
end
end W
set_option Elab.async false
set_option linter.all false
set_option maxRecDepth 100000
namespace DL
open PySem PySem.Spec L2
open PyProof.Rows hiding St
noncomputable def isCD : D → D → M D := fun x y => match y with
  | .non => pure (.bl (isNonD x))
  | .bl c => match x with
    | .bl d => pure (.bl (d == c))
    | _ => M.stuck
  | _ => M.stuck
noncomputable def notCD : D → D → M D := fun x y => match y with
  | .non => pure (.bl (!isNonD x))
  | .bl c => match x with
    | .bl d => pure (.bl (d != c))
    | _ => M.stuck
  | _ => M.stuck
noncomputable def andVE (a b : Fe) : Fe := fun σ => do
  let x ← a σ
  if ← truthD x then b σ else pure x
section
variable {X : Cx} {Z : XC} {a b : Expr} {fa fb : Fe} {pos : Pos}
theorem op_isB : OpR X (compareOp .Is) (fun x y H Q => (y = .non ∧ Q (.bl (decide (x = .non))) H) ∨ ∃ c d, x = .bl c ∧ y = .bl d ∧ Q (.bl (c == d)) H) := by
  intro pins s σ H x y v u Q I rx ry h
  rcases h with h | ⟨c, d, rfl, rfl, q⟩
  · exact op_isN pins s σ H x y v u Q I rx ry h
  · cases rx
    cases ry
    exact is_bool ⟨.bl (c == d), H, I, rfl, q⟩
theorem op_isnotB : OpR X (compareOp .IsNot) (fun x y H Q => (y = .non ∧ Q (.bl (!decide (x = .non))) H) ∨ ∃ c d, x = .bl c ∧ y = .bl d ∧ Q (.bl (c != d)) H) := by
  intro pins s σ H x y v u Q I rx ry h
  rcases h with h | ⟨c, d, rfl, rfl, q⟩
  · exact op_notN pins s σ H x y v u Q I rx ry h
  · cases rx
    cases ry
    exact isnot_bool ⟨.bl (c != d), H, I, rfl, q⟩
theorem od_isC : OpD X Z (compareOp .Is) isCD := OpD.of op_isB fun x y H Q ⟨dx, dy, μ, G, rdx, rdy, hr, p⟩ => by
  cases dy with
  | non => exact .inl ⟨repN rdy, by rw [rep_non rdx]; exact Post.ok p hr _ ofB⟩
  | bl d =>
    cases dx with
    | bl c => exact .inr ⟨c, d, repB rdx, repB rdy, Post.ok p hr _ ofB⟩
    | _ => exact p.elim
  | _ => exact p.elim
theorem od_isnotC : OpD X Z (compareOp .IsNot) notCD := OpD.of op_isnotB fun x y H Q ⟨dx, dy, μ, G, rdx, rdy, hr, p⟩ => by
  cases dy with
  | non => exact .inl ⟨repN rdy, by rw [rep_non rdx]; exact Post.ok p hr _ ofB⟩
  | bl d =>
    cases dx with
    | bl c => exact .inr ⟨c, d, repB rdx, repB rdy, Post.ok p hr _ ofB⟩
    | _ => exact p.elim
  | _ => exact p.elim
theorem truthD_post {α : Type} {μ : List Addr} {H : Hp} {G : DH} {d : D} {v : V} {f : Bool → M α} {K : α → List Addr → DH → Hp → Prop} (h : HRep (wc X) μ G H) (rv : RepV (wc X) μ H d v) (p : Post (wc X) Z μ H ((truthD d >>= f) G) K) :
    ∃ k, TruV X.K v H k ∧ Post (wc X) Z μ H (f k G) K := by
  have p1 := Post.bind p
  cases d with
  | non => rw [repN rv]; exact ⟨false, rfl, Post.ok p1 h⟩
  | bl b => rw [repB rv]; exact ⟨b, rfl, Post.ok p1 h⟩
  | int b => rw [repI rv]; exact ⟨_, rfl, Post.ok p1 h⟩
  | str y =>
    rw [repS rv]
    unfold truthD at p1
    dsimp only at p1
    split at p1
    · rename_i hz; exact ⟨_, ⟨hz, rfl⟩, Post.ok p1 h⟩
    · exact p1.elim
  | tup l =>
    unfold RepV at rv
    obtain ⟨a, vs, rfl, q, rl⟩ := rv
    exact ⟨!vs.isEmpty, .inr (.inl ⟨vs, q, rfl⟩), by rw [repL_empty rl]; exact Post.ok p1 h⟩
  | ref r =>
    unfold RepV at rv
    obtain ⟨a, m, rfl⟩ := rv
    obtain ⟨o, g, p2⟩ := objM_post p1
    have ro := h.obj r o a g m
    cases o with
    | lst l => obtain ⟨vs, q, rl⟩ := ro; exact ⟨!vs.isEmpty, .inl ⟨vs, SqL.of q, rfl⟩, by rw [repL_empty rl]; exact Post.ok p2 h⟩
    | rol l => obtain ⟨vs, q, rl⟩ := ro; exact ⟨!vs.isEmpty, .inl ⟨vs, q.sq, rfl⟩, by rw [repL_empty rl]; exact Post.ok p2 h⟩
    | dct l => obtain ⟨vs, q, rl⟩ := ro; exact ⟨!vs.isEmpty, .inr (.inr ⟨vs, q, rfl⟩), by rw [repK_empty rl]; exact Post.ok p2 h⟩
    | rod l => exact p2.elim
  | _ => exact p1.elim
theorem de_andV {rest : List Expr} (ha : DE X Z a fa) (hb : DE X Z (.BoolOp .And (b :: rest) pos) fb) : DE X Z (.BoolOp .And (a :: b :: rest) pos) (andVE fa fb) := by
  refine ⟨?_⟩
  intro pins s σ H Q I ⟨dσ, μ, G, sr, h, p⟩
  refine BoolOp_and (thn (ha.h pins s σ H _ I ⟨dσ, μ, G, sr, h, (Post.bind p).mono fun d μ1 G1 H1 x1 h1 p1 v rv => (⟨d, μ1, G1, x1, rv, h1, p1⟩ : ∃ d μ1 G1, Ext μ H μ1 H1 ∧ RepV (wc X) μ1 H1 d v ∧ HRep (wc X) μ1 G1 H1 ∧ Post (wc X) Z μ1 H1 ((truthD d >>= fun k => if k = true then fb dσ else pure d) G1) fun d μ' _ H' => ∀ v, RepV (wc X) μ' H' d v → Q v H')⟩) fun v s1 ⟨x, H1, I1, r1, d, μ1, G1, x1, rd, h1, p1⟩ => ?_)
  obtain ⟨k, tk, p2⟩ := truthD_post h1 rd p1
  refine thn (tru_ok pins s1 σ H1 x v (fun c H' => c = k ∧ H' = H1) I1 r1 ⟨k, tk, rfl, rfl⟩) fun c s2 ⟨H2, I2, e1, e2⟩ => ?_
  subst e1 e2
  cases c with
  | false => exact ⟨x, H2, I2, r1, Post.ok p2 h1 _ rd⟩
  | true => exact hb.h pins s2 σ H2 Q I2 ⟨dσ, μ1, G1, sr.mono x1, h1, p2⟩
end
end DL
namespace W
open PySem PySem.Spec L2 DL
open PyProof.Rows hiding St
section
variable {G : DH} {σ : DSt} {Q : D → DH → Prop} {a b : Fe}
theorem wp_andV : Wp (andVE a b σ) G Q ↔ Wp (a σ) G fun x G1 => Wp (truthD x) G1 fun k G2 => if k = true then Wp (b σ) G2 Q else Q x G2 := by unfold andVE; simp only [wp_bind, wp_ite, wp_pure]
theorem isC_non {x : D} : Wp (isCD x .non) G Q ↔ Q (.bl (isNonD x)) G := wp_pure
theorem notC_non {x : D} : Wp (notCD x .non) G Q ↔ Q (.bl (!isNonD x)) G := wp_pure
end
end W
set_option Elab.async false
set_option linter.all false
set_option maxRecDepth 100000
namespace DL
open PySem PySem.Spec L2
open PyProof.Rows hiding St
structure CalleeOk (F : List D → M D) (n : Nat) (x : Str) (P : Program) (w : World) (K : PySem.W.Frag) (mg : Str → Option Value) (base : Heap) (k : Nat) : Prop where
  ex : ∃ f fd ps, FnOk P w K mg base CX0 k f fd ps (spD ⟨K, mg⟩ n F) ∧ mg x = some (.ref f) ∧ PySem.W.keepIn K (.ref f) = true ∧ Binds K fd ps []
theorem CalleeOk.of {P : Program} {w : World} {K : PySem.W.Frag} {mg : Str → Option Value} {base : Heap} {k n : Nat} {x : Str} {st : Stmt} {ps : List Str} {f : Addr} {fd : FuncData} {F : List D → M D} (c : FF K mg x st ps f fd) (h : FnOk P w K mg base CX0 k f fd ps (spD ⟨K, mg⟩ n F)) : CalleeOk F n x P w K mg base k :=
  ⟨f, fd, ps, h, c.m, c.F.kp, c.b⟩
noncomputable def bltL : List Str := ["len", "isinstance", "all", "any", "sum", "min", "max", "abs", "sorted", "tuple", "list", "int", "str", "bool", "dict", "zip", "enumerate", "range", "reversed"]
structure BLs (mg : Str → Option Value) : Prop where
  h : ∀ b ∈ bltL, mg b = none
theorem any_backTo {p : Pos} {l : List (Bool × Sem Value)} : (backTo p l).any (·.1) = l.any (·.1) := by
  unfold backTo
  rw [List.any_map]
  rfl
theorem star_all {env : Env} : ∀ {es : List Expr}, es.all notStar = true → (starEach es env).any (·.1) = false
  | [], _ => rfl
  | e :: es, h => by
    rw [List.all_cons, Bool.and_eq_true] at h
    rw [q14 h.1, List.any_cons, star_all h.2]
    rfl
section
variable {X : Cx} {Z : XC} {a b c e : Expr} {es : List Expr} {fa fb fc : Fe} {fs : DSt → M (List D)} {pos p : Pos} {x : Str}
theorem dg_nm {i : Nat} (hN : ∃ N ps sc, FnScope N ps sc ∧ X.N = N) (hi : X.N[i]? = some x) (hx : Loc X.env.scope x) (hf : X.fn x = true ∨ X.env.scope.names.lookup x = some .local) : DG X Z (.Name x pos) (q12 i) := by
  obtain ⟨N, ps, sc, S, e⟩ := hN
  exact dg_name (by rw [e]; exact S.nd) hi hx hf
theorem da_c (ha : DE X Z e fa) (hr : DA X Z es fs) (hs : notStar e = true) : DA X Z (e :: es) (q10 fa fs) := q15 ha hr (q14 hs)
theorem de_callC {F : List D → M D} {n : Nat} (hF : ∃ k kk, CalleeOk F n x X.prog X.w X.K X.mg X.base k ∧ Room kk X.A ∧ k ≤ kk) (hg : Gl X x) (ha : DA X Z (e :: es) fs) (hdb : (x == ("__debug__" : Str)) = false) (hs : (e :: es).all notStar = true) :
    DE X Z (.Call (.Name x p) (e :: es) [] pos) (q13 (fnX n F) fs) := by
  obtain ⟨k, kk, hF, hr, hk⟩ := hF
  obtain ⟨f, fd, ps, h1, h2, h3, h4⟩ := hF.ex
  rw [List.all_cons, Bool.and_eq_true] at hs
  exact de_call h1 (hr.mono hk) hg h2 h3 h4 ha hdb (q14 hs.1) (by rw [any_backTo]; exact star_all hs.2)
structure BD (F : List D → M D) (x : Str) (X : Cx) (Z : XC) : Prop where
  ex : (∃ id, CallD X Z (.builtin id) F ∧ bootBuiltins x = some (.builtin id)) ∨ (∃ T, CallD X Z (.type T) F ∧ bootBuiltins x = some (.type T))
theorem de_blt {F : List D → M D} (hc : X.calm = true) (hF : X.calm = true → BD F x X Z) (hb : BLs X.mg) (hx : bltL.elem x = true) (hg : Gl X x) (ha : DA X Z (e :: es) fs) (hn : x ≠ "__name__") (hdb : (x == ("__debug__" : Str)) = false) (hs : (e :: es).all notStar = true) :
    DE X Z (.Call (.Name x p) (e :: es) [] pos) (q13 F fs) := by
  have hm := hb.h x (List.elem_iff.mp hx)
  rw [List.all_cons, Bool.and_eq_true] at hs
  rcases (hF hc).ex with ⟨id, h1, h2⟩ | ⟨T, h1, h2⟩
  · exact de_callB h1 hg hm h2 ha hn hdb (q14 hs.1) (by rw [any_backTo]; exact star_all hs.2)
  · exact de_callTy h1 hg hm h2 ha hn hdb (q14 hs.1) (by rw [any_backTo]; exact star_all hs.2)
theorem bd_len (_ : X.calm = true) : BD lenF "len" X Z := ⟨.inl ⟨_, cd_len, bt_len⟩⟩
theorem bd_isinstance (_ : X.calm = true) : BD isinstF "isinstance" X Z := ⟨.inl ⟨_, cd_isinst, bt_isinstance⟩⟩
theorem bd_any (h : X.calm = true) : BD anyF "any" X Z := ⟨.inl ⟨_, cd_any h, bt_any⟩⟩
theorem bd_sum (h : X.calm = true) : BD sumF "sum" X Z := ⟨.inl ⟨_, cd_sum h, bt_sum⟩⟩
theorem bd_abs (_ : X.calm = true) : BD absF "abs" X Z := ⟨.inl ⟨_, cd_abs, bt_abs⟩⟩
theorem bd_tuple (_ : X.calm = true) : BD tupleF "tuple" X Z := ⟨.inr ⟨_, cd_tuple, bt_tuple⟩⟩
theorem bd_list (_ : X.calm = true) : BD listF "list" X Z := ⟨.inr ⟨_, cd_list, bt_list⟩⟩
theorem bd_int (_ : X.calm = true) : BD intF "int" X Z := ⟨.inr ⟨_, cd_int, bt_int⟩⟩
theorem bt_type : ∀ n ∈ ["int", "bool", "str", "tuple", "list", "dict"], bootBuiltins (Str.ofString n) = some (.type n) := by decide +kernel
theorem de_tyN {n : String} (hb : BLs X.mg) (hn : n ∈ ["int", "bool", "str", "tuple", "list", "dict"]) (hx : bltL.elem (Str.ofString n) = true) (hg : Gl X (Str.ofString n)) (hnn : Str.ofString n ≠ "__name__") (hd : (Str.ofString n == ("__debug__" : Str)) = false) : DE X Z (.Name (Str.ofString n) pos) (cE (.ty n)) :=
  de_ty hg (hb.h _ (List.elem_iff.mp hx)) (bt_type n hn) hnn hd
theorem de_revL (he : DE X Z e fa) (hc : X.calm = true) (hb : BLs X.mg) (hg1 : Gl X "list") (hg2 : Gl X "reversed") (hs : notStar e = true) {p1 p2 pos1 pos2 : Pos} : DE X Z (.Call (.Name "list" p1) [.Call (.Name "reversed" p2) [e] [] pos2] [] pos1) (unE revlD fa) :=
  de_revlist he hc hg1 (hb.h _ (by decide +kernel)) hg2 (hb.h _ (by decide +kernel)) (star_one rfl) (star_one hs)
variable {tg : Expr} {tp : Pos} {x1 : Nat} {es1 : List Expr}
theorem di_r1 (hb : BLs X.mg) (hg : Gl X "range") (ha : DA X Z [a] fs) (hs : notStar a = true) : DI X Z tg (.Call (.Name "range" p) [a] [] pos) (itRng1 fs) := di_rng1 hg (hb.h _ (by decide +kernel)) ha (star_one hs)
noncomputable def compNm (sc : Scope) : List Str := (sc.names.filterMap fun y => if y.2 == .local && y.1 != (".0" : Str) then some y.1 else none) ++ (sc.names.filterMap fun y => if y.2 == .free then some y.1 else none)
variable {elt iter : Expr} {ifs : List Expr} {scope : Scope} {caps : List (Option Nat)} {it : DSt → M Src} {gg : Fg} {tt : DSt → M Bool} {fe : Fe}
theorem de_cmpr (hc : X.calm = true) (hi : DI X Z tg iter it) (k : ∃ XN ps osc, FnScope XN ps osc ∧ X.env.scope = osc ∧ X.N = XN ∧ compOkB osc scope (compNm scope) XN caps = true) (nd : (compNm scope).Nodup)
    (hg : (compNm scope).Nodup → ∀ C s H ex, DG (compCx X scope (compNm scope) C s H ex) ZF tg gg) (ht : ∀ C s H ex, DTs (compCx X scope (compNm scope) C s H ex) ZF ifs tt) (he : ∀ C s H ex, DE (compCx X scope (compNm scope) C s H ex) ZF elt fe)
    (hf : ∀ x, foldedSetIterable iter X.env x = pure x) : DE X Z (.ListComp elt [⟨tg, iter, ifs, 0⟩] scope pos) (compE it caps gg tt fe) := let ⟨_, _, _, _, hs, hN, k⟩ := k; de_comp hc hi (CompOk.of k hs hN) (hg nd) ht he hf
theorem ds_cmprN {y : Str} {py spos : Pos} {g2 : Fg} (hc : X.calm = true) (hi : DI X Z tg iter it) (k : ∃ XN ps osc, FnScope XN ps osc ∧ X.env.scope = osc ∧ X.N = XN ∧ compOkB osc scope (compNm scope) XN caps = true) (nd : (compNm scope).Nodup)
    (hg : (compNm scope).Nodup → ∀ C s H ex, DG (compCx X scope (compNm scope) C s H ex) ZF tg gg) (ht : ∀ C s H ex, DTs (compCx X scope (compNm scope) C s H ex) ZF ifs tt) (he : ∀ C s H ex, DE (compCx X scope (compNm scope) C s H ex) ZF elt fe)
    (hf : ∀ x, foldedSetIterable iter X.env x = pure x) (hgo : DG X Z (.Name y py) g2) (hsw : swapsWith (.ListComp elt [⟨tg, iter, ifs, 0⟩] scope pos) (some (.Name y py)) spos.line X.env = pure true) :
    DS X Z (.Assign [.Name y py] (.ListComp elt [⟨tg, iter, ifs, 0⟩] scope pos) spos) (asgS (compE it caps gg tt fe) g2) := let ⟨_, _, _, _, hs, hN, k⟩ := k; ds_compN hc hi (CompOk.of k hs hN) (hg nd) ht he hf hgo hsw
end
end DL
set_option Elab.async false
set_option linter.all false
set_option maxRecDepth 100000
namespace DL
open PySem PySem.Spec L2
open PyProof.Rows hiding St
section
variable {X : Cx} {Z : XC}
end
end DL
namespace W
open PySem PySem.Spec L2 DL
open PyProof.Rows hiding St
section
variable {G : DH} {Q : D → DH → Prop}
end
end W
set_option Elab.async false
set_option linter.all false
set_option maxRecDepth 100000
namespace DL
open PySem PySem.Spec L2
open PyProof.Rows hiding St
noncomputable def Itd (a : Addr) (o : Obj) (kvs : List (Key × V)) : It :=
  ⟨fun i H => H a = some (.frz o (.dK kvs)) ∧ ∃ kv, kvs[i]? = some kv, fun i H x H' => H' = H ∧ ∃ kv, kvs[i]? = some kv ∧ x = kV kv.1, fun i H => H a = some (.frz o (.dK kvs)) ∧ kvs.length ≤ i⟩
theorem kv_get {κ : Type} : ∀ {kvs : List (κ × V)} {vs : List (κ × Value)} {i : Nat} {kv : κ × V}, KV kvs vs → kvs[i]? = some kv → ∃ v, vs[i]? = some (kv.1, v)
  | _, _, _, _, .nil, e => by simp at e
  | _, _, 0, _, .cons h t, e => by
    simp only [List.getElem?_cons_zero, Option.some.injEq] at e
    subst e
    exact ⟨_, by rw [List.getElem?_cons_zero, h.1]⟩
  | _, _, i + 1, _, .cons h t, e => by
    simp only [List.getElem?_cons_succ] at e ⊢
    exact kv_get t e
theorem kv_rel {P : Program} {w : World} {k : Key} {u : Value} (h : (mixKind P w).is k u = true) : RelV (kV k) u := by
  rcases keyIs_shape (k := k) (v := u) h with ⟨i, t, rfl, rfl⟩ | ⟨x, t, rfl, rfl⟩
  · exact ⟨t, rfl⟩
  · exact ⟨t, rfl⟩
theorem frz_at {X : Cx} {pins : List (Addr × Obj)} {s : Shared} {σ : St} {H : Hp} {a : Addr} {o : Obj} {es : Array DictEntry} {ep : Nat} {kvs : List (Key × V)} (I : Inv X pins σ H s) (ho : o.data = .dict es ep) (e : H a = some (.frz o (.dK kvs))) :
    (a == sysModules) = false ∧ ∃ vs, KV kvs vs ∧ s.heap.DictAt (mixKind X.prog X.w) a vs ep := by
  obtain ⟨hget, hz, hS, vs, r, m⟩ := (show ObjOk X.prog X.w H s.heap a (.frz o (.dK kvs)) from I.hok a _ e)
  obtain ⟨ep', dat⟩ := m.dictAt
  have hep : ep' = ep := by
    obtain ⟨o', es', h1, _, h3, _⟩ := id dat
    rw [hget] at h1
    cases h1
    rw [ho] at h3
    cases h3
    rfl
  subst hep
  exact ⟨hS, vs, r, dat⟩
theorem turn_dict {P : Program} {w : World} {K : PySem.W.Frag} {tg : Expr} {a : Addr} {o : Obj} {es : Array DictEntry} {ep : Nat} {kvs : List (Key × V)} (ho : o.data = .dict es ep) (it : Addr) : Turn P w K tg (Itd a o kvs) [it] it (fun i h => h.IsKeyIter it a i kvs.length ep) where
  mem := by simp
  obj := fun i h st b hb => by
    have e : b = it := by simpa using hb
    subst e
    obtain ⟨o, e, c, d⟩ := st
    exact ⟨o, e, fun v z => by rw [d] at z; cases z⟩
  keep := fun i h h' st k => let ⟨o, ho, r⟩ := st; ⟨o, k it (by simp) o ho, r⟩
  item := by
    intro X hP hw hK hc i pins s σ H E I hf st hg
    subst hP hw hK
    obtain ⟨hfr, kv, hx⟩ := hg
    obtain ⟨f0, f1, f2, f3, f4, f5⟩ := hf it (by simp)
    obtain ⟨hS, vs, rel, dat⟩ := frz_at I ho hfr
    obtain ⟨v, hv⟩ := kv_get rel hx
    have hlen : kvs.length = vs.length := Paired.length rel
    rw [hlen] at st
    refine wpAny_pyNext_dict_item st dat hv fun key h' hk st' sb => ?_
    have I1 : Inv X pins σ H { s with heap := h' } := I.turned (t' := s.toks) (fun b o hb e => (sb.2 b hb).trans e) f0 f1 f3 f4 f5
    obtain ⟨o', e, cc, d⟩ := id st'
    refine ⟨_, rfl, go_of (s := { s with heap := h' }) e cc d (by decide) ⟨kV kv.1, H, I1, kv_rel hk, ⟨rfl, kv, hx, rfl⟩, by rw [hlen]; exact st', fun b hb => (hf b hb).1⟩⟩
  done := by
    intro X hP hw hK hc i pins s σ H E I hf st hg
    subst hP hw hK
    obtain ⟨hfr, hi⟩ := hg
    obtain ⟨f0, f1, f2, f3, f4, f5⟩ := hf it (by simp)
    obtain ⟨hS, vs, rel, dat⟩ := frz_at I ho hfr
    have hlen : kvs.length = vs.length := Paired.length rel
    rw [hlen] at st hi
    exact wpAny_pyNext_dict_end (I.ok.hd hc) st dat (List.getElem?_eq_none hi) fun h' eb => ⟨rfl, I.turned (t' := s.toks) (fun b o hb e => eb b o hb e) f0 f1 f3 f4 f5⟩
  self := fun _ _ _ _ _ st h => wpAny_pyIter_keyiter st h
theorem HRep.setR {c : Wc} {μ : List Addr} {G : DH} {H : Hp} {i : Nat} {a : Addr} {o o' : DO} {u : HO} (h : HRep c μ G H) (g : G[i]? = some o) (n : ¬ isRol (some o)) (m : μ[i]? = some a) (k : Ext μ H μ (upd H a u)) (ho : ObjRep c μ (upd H a u) a o') : HRep c μ (G.set i o') (upd H a u) := by
  have hi : i < G.length := lt_of_get g
  have get : ∀ j, (G.set i o')[j]? = if i = j then some o' else G[j]? := fun j => by
    rw [List.getElem?_set]
    by_cases e : i = j
    · subst e; simp [hi]
    · simp [e]
  refine ⟨by simp [h.len], fun j l b ej el => ?_, fun j o2 b gj mj => ?_⟩
  · rcases h.inj j l b ej el with e | e | e
    · exact .inl e
    · by_cases ij : i = j
      · subst ij; rw [g] at e; exact (n e).elim
      · right; left; rw [get, if_neg ij]; exact e
    · by_cases ij : i = l
      · subst ij; rw [g] at e; exact (n e).elim
      · right; right; rw [get, if_neg ij]; exact e
  · rw [get] at gj
    by_cases ij : i = j
    · subst ij
      rw [if_pos rfl] at gj
      cases gj
      rw [m] at mj
      cases mj
      exact ho
    · rw [if_neg ij] at gj
      have q := h.obj j o2 b gj mj
      by_cases hr : isRol (some o2)
      · exact q.mono k (.inr hr)
      · have nb : b ≠ a := fun e => by
          subst e
          rcases h.inj i j b m mj with e | e | e
          · exact ij e
          · rw [g] at e; exact n e
          · rw [gj] at e; exact hr e
        exact q.mono k (.inl (upd_ne nb))
section
variable {X : Cx} {Z : XC} {tg e : Expr}
theorem Inv.freeze {pins : List (Addr × Obj)} {s : Shared} {σ : St} {H : Hp} {a : Addr} {o : Obj} {kvs : List (Key × V)} (I : Inv X pins σ H s) (e : H a = some (.dK kvs)) (ho : s.heap.get? a = some o) : Inv X pins σ (upd H a (.frz o (.dK kvs))) s := by
  have q : ObjOk X.prog X.w H s.heap a (.dK kvs) := I.hok a _ e
  exact I.write (x := a) (e := a) (t' := s.toks) (h' := s.heap) (by rw [e]; exact trivial) (.inl rfl) (fun b u _ z => z) ⟨o, ho⟩ ⟨ho, q⟩
noncomputable def iW (K : PySem.W.Frag) (tl : TE) : TI := fun σ H R => tl σ H fun x H1 => ((∃ z, x = .str z ∧ R (Its z) H1) ∨ (∃ k a xs, x = .ref a ∧ Sq K k H1 a xs ∧ R (if k = true then Itt K a else Itl K a) H1)) ∨
  (∃ a kvs, x = .ref a ∧ H1 a = some (.dK kvs) ∧ ∀ o, R (Itd a o kvs) (upd H1 a (.frz o (.dK kvs)))) ∨ (∃ a o kvs, x = .ref a ∧ H1 a = some (.frz o (.dK kvs)) ∧ R (Itd a o kvs) H1)
theorem pi_W {tl : TE} (hl : PE X e tl) : PI X tg e (iW X.K tl) := by
  intro pins s σ H R I h
  refine thn (hl pins s σ H _ I h) fun v s1 ⟨x, H1, I1, r1, q1⟩ => ?_
  have fpo : ∀ b ∈ [s1.heap.objs.size], FpOk X pins H1 b := fun b hb => by
    have z : b = s1.heap.objs.size := by simpa using hb
    subst z
    exact I1.fpOk (Nat.le_refl _) (I1.hok.fresh (Nat.le_refl _))
  rcases q1 with (⟨z, rfl, q⟩ | ⟨k, a, xs, rfl, hq, q⟩) | ⟨a, kvs, rfl, hq, q⟩ | ⟨a, o, kvs, rfl, hq, q⟩
  · obtain ⟨t, rfl⟩ := (show ∃ t, v = Value.str z t from r1)
    refine wpAny_pyIter_strU ?_
    have I2 : Inv X pins σ H1 { s1 with heap := s1.heap.push { cls := .type (strIterType z), data := .fields #[.str z t, .int 0 0] } } := I1.kept (t' := s1.toks) fun b o z => Heap.get?_push_of_some _ z
    have hg : (s1.heap.push { cls := .type (strIterType z), data := .fields #[.str z t, .int 0 0] }).get? s1.heap.objs.size = some { cls := .type (strIterType z), data := .fields #[.str z t, .int 0 0] } := Heap.get?_push_size _ rfl
    by_cases ha : z.cps.all (· < 128) = true
    · have e : strIterType z = "str_ascii_iterator" := by unfold strIterType; rw [if_pos ha]
      refine ⟨s1.heap.objs.size, [s1.heap.objs.size], _, _, H1, rfl, I2, turn_ascii z t _, ?_, fpo, q⟩
      rw [e] at hg ⊢
      exact ⟨_, hg, rfl, rfl⟩
    · have e : strIterType z = "str_iterator" := by unfold strIterType; rw [if_neg ha]
      refine ⟨s1.heap.objs.size, [s1.heap.objs.size], _, _, H1, rfl, I2, turn_wide z t _, ?_, fpo, q⟩
      rw [e] at hg ⊢
      exact ⟨_, hg, rfl, rfl⟩
  · cases r1
    cases k with
    | true =>
      obtain ⟨its, rv, p, hz⟩ := I1.tuple hq
      exact wpAny_pyIter_tuple (show s1.heap.IsTuple a its.toArray from p) ⟨s1.heap.objs.size, [s1.heap.objs.size], _, _, H1, rfl, I1.kept (t' := s1.toks) fun b o z => Heap.get?_push_of_some _ z, turn_tuple a _, ⟨_, Heap.get?_push_size _ rfl, rfl, rfl⟩, fpo, q⟩
    | false =>
      obtain ⟨its, rv, p, hz⟩ := I1.list hq
      exact wpAny_pyIter_list p.isList ⟨s1.heap.objs.size, [s1.heap.objs.size], _, _, H1, rfl, I1.kept (t' := s1.toks) fun b o z => Heap.get?_push_of_some _ z, turn_list a _, ⟨_, Heap.get?_push_size _ rfl, rfl, rfl⟩, fpo, q⟩
  · cases r1
    obtain ⟨hz, hS, vs, rel, dd⟩ := dk_of I1.hok hq
    obtain ⟨ep, dat⟩ := dd.dictAt
    obtain ⟨o, es, h1, h2, h3, h4⟩ := id dat
    have hlen : kvs.length = vs.length := Paired.length rel
    have I2 := DL.Inv.freeze I1 hq h1
    have fpo2 : ∀ b ∈ [s1.heap.objs.size], FpOk X pins (upd H1 a (.frz o (.dK kvs))) b := fun b hb => by
      have z : b = s1.heap.objs.size := by simpa using hb
      subst z
      exact I2.fpOk (Nat.le_refl _) (I2.hok.fresh (Nat.le_refl _))
    refine wpAny_pyIter_dict hS dat ⟨s1.heap.objs.size, [s1.heap.objs.size], _, _, upd H1 a (.frz o (.dK kvs)), rfl, I2.kept (t' := s1.toks) fun b o z => Heap.get?_push_of_some _ z, turn_dict (kvs := kvs) h3 _, ?_, fpo2, q o⟩
    rw [hlen]
    exact ⟨_, Heap.get?_push_size _ rfl, rfl, rfl⟩
  · cases r1
    obtain ⟨hget, hz, hS, vs, rel, dd⟩ := (show ObjOk X.prog X.w H1 s1.heap a (.frz o (.dK kvs)) from I1.hok a _ hq)
    obtain ⟨ep, dat⟩ := dd.dictAt
    obtain ⟨o', es, h1, h2, h3, h4⟩ := id dat
    rw [hget] at h1
    cases h1
    have hlen : kvs.length = vs.length := Paired.length rel
    refine wpAny_pyIter_dict hS dat ⟨s1.heap.objs.size, [s1.heap.objs.size], _, _, H1, rfl, I1.kept (t' := s1.toks) fun b o z => Heap.get?_push_of_some _ z, turn_dict (kvs := kvs) h3 _, ?_, fpo, q⟩
    rw [hlen]
    exact ⟨_, Heap.get?_push_size _ rfl, rfl, rfl⟩
noncomputable def keyOf : Key → D
  | .inl i => .int i
  | .inr x => .str x
noncomputable def keysD (l : List (Key × D)) : List D := l.map fun kv => keyOf kv.1
noncomputable def srcW : D → M Src := fun x => match x with
  | .ref r => do
    match ← objM r with
    | .dct l => do
      let _ ← putM r (.rod l)
      pure ⟨keysD l, fun _ => true⟩
    | .rod l => pure ⟨keysD l, fun _ => true⟩
    | _ => srcA (.ref r)
  | d => srcA d
noncomputable def itW (f : Fe) : DSt → M Src := fun σ => do srcW (← f σ)
theorem any_val {μ1 : List Addr} {G1 : DH} {H1 : Hp} {d : D} {v : V} {R : It → Hp → Prop} (h1 : HRep (wc X) μ1 G1 H1) (rv : RepV (wc X) μ1 H1 d v) (p1 : Post (wc X) Z μ1 H1 (srcA d G1) fun s μ' _ H' => ∀ J, ItD (wc X) μ' H' J s → R J H') :
    (∃ z, v = .str z ∧ R (Its z) H1) ∨ (∃ k a xs, v = .ref a ∧ Sq X.K k H1 a xs ∧ R (if k = true then Itt X.K a else Itl X.K a) H1) := by
  have main : ∀ dd : D, (∀ z, dd ≠ .str z) → RepV (wc X) μ1 H1 dd v → Post (wc X) Z μ1 H1 (srcM dd G1) (fun s μ' _ H' => ∀ J, ItD (wc X) μ' H' J s → R J H') → (∃ z, v = .str z ∧ R (Its z) H1) ∨ (∃ k a xs, v = .ref a ∧ Sq X.K k H1 a xs ∧ R (if k = true then Itt X.K a else Itl X.K a) H1) := by
    intro dd _ rv p1
    have p1' : Post (wc X) Z μ1 H1 ((srcM dd >>= fun s => (pure s : M Src)) G1) fun s μ' _ H' => ∀ J, ItD (wc X) μ' H' J s → R J H' := by
      have e : (srcM dd >>= fun s => (pure s : M Src)) = srcM dd := by
        funext G
        rw [M.bind_eq]
        cases srcM dd G with
        | none => rfl
        | some q => obtain ⟨r, G'⟩ := q; cases r <;> rfl
      rw [e]; exact p1
    obtain ⟨sr, k, a, vs, rfl, q, rl, is, ck, _, p2⟩ := srcM_post h1 rv p1'
    refine .inr ⟨k, a, vs, rfl, q, Post.ok p2 h1 _ fun μ' G' H' x' h' ck' i => ?_⟩
    obtain ⟨vs', q', rl'⟩ := is μ' G' H' x' h' ck'
    refine ⟨fun d hd => ?_, fun hi => ?_⟩
    · obtain ⟨y, hy, ry⟩ := rl'.get hd
      cases k with
      | true =>
        rw [if_pos rfl]
        exact ⟨⟨vs', y, q', hy⟩, fun x H2 ⟨e1, e2⟩ => by subst e1; exact ⟨Ext.refl _ _, h', rep_get rl' hd (e2 vs' q')⟩⟩
      | false =>
        rw [if_neg Bool.false_ne_true]
        exact ⟨⟨vs', y, q', hy⟩, fun x H2 ⟨e1, e2⟩ => by subst e1; exact ⟨Ext.refl _ _, h', rep_get rl' hd (e2 vs' q')⟩⟩
    · cases k with
      | true => rw [if_pos rfl]; exact ⟨vs', q', by rw [← rl'.length]; exact hi⟩
      | false => rw [if_neg Bool.false_ne_true]; exact ⟨vs', q', by rw [← rl'.length]; exact hi⟩
  cases d with
  | str z =>
    refine .inl ⟨z, repS rv, Post.ok p1 h1 _ fun μ' G' H' x' h' ck' i => ⟨fun d hd => ?_, fun hi => ?_⟩⟩
    · simp only [charsD, List.getElem?_map] at hd
      cases hc : z.cps.toList[i]? with
      | none => rw [hc] at hd; cases hd
      | some c =>
        rw [hc] at hd
        cases hd
        have hc' : z.cps[i]? = some c := by rw [← Array.getElem?_toList]; exact hc
        exact ⟨⟨c, hc'⟩, fun x H2 ⟨e1, c2, e2, e3⟩ => by
          subst e1
          rw [hc'] at e2
          cases e2
          exact ⟨Ext.refl _ _, h', by rw [e3]; unfold RepV; rfl⟩⟩
    · simp only [charsD, List.length_map] at hi
      show z.cps[i]? = none
      rw [← Array.getElem?_toList]
      exact List.getElem?_eq_none hi
  | tup l => exact main (.tup l) (fun z q => nomatch q) rv p1
  | ref r => exact main (.ref r) (fun z q => nomatch q) rv p1
  | _ => exact p1.elim
theorem repK_get {c : Wc} {μ : List Addr} {H : Hp} : ∀ {l : List (Key × D)} {kvs : List (Key × V)} {i : Nat} {kd : Key × D}, RepK c μ H l kvs → l[i]? = some kd → ∃ v, kvs[i]? = some (kd.1, v)
  | [], _, _, _, _, e => by simp at e
  | (k, d) :: r, _, 0, _, h, e => by
    obtain ⟨v, t, rfl, _, _⟩ := h
    simp only [List.getElem?_cons_zero, Option.some.injEq] at e
    subst e
    exact ⟨v, rfl⟩
  | (k, d) :: r, _, i + 1, _, h, e => by
    obtain ⟨v, t, rfl, _, ht⟩ := h
    simp only [List.getElem?_cons_succ] at e ⊢
    exact repK_get ht e
theorem key_val {c : Wc} {μ : List Addr} {H : Hp} (k : Key) : RepV c μ H (keyOf k) (kV k) := by
  cases k <;> (unfold keyOf RepV; rfl)
theorem itd_ok {c : Wc} {μ : List Addr} {H : Hp} {a : Addr} {o : Obj} {l : List (Key × D)} {kvs : List (Key × V)} (e : H a = some (.frz o (.dK kvs))) (rk : RepK c μ H l kvs) : ItD c μ H (Itd a o kvs) ⟨keysD l, fun _ => true⟩ := by
  intro μ' G' H' x h' _ i
  have e' := x.frz _ _ _ e
  refine ⟨fun d hd => ?_, fun hi => ⟨e', by rw [← rk.length]; simpa [keysD] using hi⟩⟩
  simp only [keysD, List.getElem?_map] at hd
  cases hl : l[i]? with
  | none => rw [hl] at hd; cases hd
  | some kd =>
    rw [hl] at hd
    cases hd
    obtain ⟨v, hv⟩ := repK_get rk hl
    exact ⟨⟨e', _, hv⟩, fun y H2 ⟨e1, kv, e2, e3⟩ => by
      subst e1
      rw [hv] at e2
      cases e2
      exact ⟨Ext.refl _ _, h', by rw [e3]; exact key_val _⟩⟩
theorem di_W {f : Fe} (he : DE X Z e f) : DI X Z tg e (itW f) :=
  DI.of (pi_W he.h) fun σ H R ⟨dσ, μ, G, s, h, p⟩ => ⟨dσ, μ, G, s, h, (Post.bind p).mono fun d μ1 G1 H1 x1 h1 p1 v rv => by
    cases d with
    | ref r =>
      have rv' := rv
      unfold RepV at rv'
      obtain ⟨a, m, rfl⟩ := rv'
      obtain ⟨o, g, p2⟩ := objM_post p1
      have ro := h1.obj r o a g m
      cases o with
      | dct l =>
        obtain ⟨kvs, q, rk⟩ := ro
        refine .inr (.inl ⟨a, kvs, rfl, q, fun o => ?_⟩)
        have x : Ext μ1 H1 μ1 (upd H1 a (.frz o (.dK kvs))) := Ext.mut (List.mem_of_getElem? m) q (fun _ z => nomatch z) (fun _ _ z => nomatch z) _
        have hk' := rk.mono x
        have h2 : HRep (wc X) μ1 (G1.set r (.rod l)) (upd H1 a (.frz o (.dK kvs))) := h1.setR g (fun z => z) m x ⟨kvs, o, upd_same, hk'⟩
        have p3 := Post.from p2 x
        exact Post.ok p3 h2 _ (itd_ok upd_same hk')
      | rod l =>
        obtain ⟨kvs, o, q, rk⟩ := ro
        exact .inr (.inr ⟨a, o, kvs, rfl, q, Post.ok p2 h1 _ (itd_ok q rk)⟩)
      | lst l => exact .inl (any_val h1 rv p2)
      | rol l => exact .inl (any_val h1 rv p2)
    | _ => exact .inl (any_val h1 rv p1)⟩
end
end DL
namespace W
open PySem PySem.Spec L2 DL
open PyProof.Rows hiding St
section
variable {G : DH} {σ : DSt} {R : Src → DH → Prop}
theorem wp_itW {f : Fe} : Wp (itW f σ) G R ↔ Wp (f σ) G fun x G1 => Wp (srcW x) G1 R := by
  unfold itW; simp only [wp_bind]
theorem srcW_tup {l : List D} : Wp (srcW (.tup l)) G R ↔ R ⟨l, fun _ => true⟩ G := wp_pure
theorem srcW_lst {p : Nat} {l : List D} (e : G[p]? = some (.lst l)) : Wp (srcW (.ref p)) G R ↔ R ⟨l, ckO p (.lst l)⟩ G := by
  unfold srcW
  simp only [wp_bind, wp_obj, e, someI]
  exact srcA_ref e
end
end W
set_option Elab.async false
set_option linter.all false
set_option maxRecDepth 100000
namespace DL
open PySem PySem.Spec L2
open PyProof.Rows hiding St
section
variable {prog : Program} {w : World} {A : Around} {E : Value → Shared → Prop} {s : Shared} {Q : Value → Shared → Prop}
theorem sorted_seq {a : Addr} {T : String} {o : Obj} {vs : List Value} {n : Nat} (hT : T = "list" ∨ T = "tuple") (ho : s.heap.get? a = some o) (hc : o.cls = .type T) (hd : o.data = .seq vs.toArray n) (h64 : vs.length < 64) {ss : List Str} (hS : StrsAre vs ss)
    (h : ∀ (h1 h' : Heap) (tk e : Nat) (out : List Value) (ss' : List Str), (∀ b o, s.heap.get? b = some o → h1.get? b = some o) → (∀ b o, h1.get? b = some o → h'.get? b = some o) → h'.get? h1.objs.size = some (seqObj "list" out.toArray e) → StrsAre out ss' → ss'.Perm ss → sortedS ss' = true → Q (.ref h1.objs.size) { s with heap := h', toks := tk }) :
    wpAny (model prog w) A (call (.builtin "sorted") [.ref a]) Q E s := by
  have hz : vs.length ≤ sizeLine := Nat.le_trans (Nat.le_of_lt h64) (by decide)
  refine Calls.call_function_entry kind_sorted plain_sorted entry_sorted (args_sorted1 _) ?_
  unfold Builtin.«sorted»
  refine wpAny_bind (m := checkCount "sorted" 1 1 _) (wpAny_pure ?_)
  refine wpAny_bind (wpAny_collect_seq (A := A.in1) a hT ho hc hd (fun h1 hk => ?_) (by rw [List.size_toArray]; exact hz))
  refine wpAny_bind (wpAny_newList ?_ hz)
  have hoL : (h1.push (seqObj "list" vs.toArray 0)).get? h1.objs.size = some (seqObj "list" vs.toArray 0) := Heap.get?_push_size _ rfl
  refine wpAny_bind (wpAny_holding (wpAny_call_entry slot_list_sort ⟨_, hoL, rfl⟩ entry_list_sort (list_sort_treeK strKind_oneLt hoL hS.keysOf (fun v₁ v₂ rest e => keyKind_strs (by rw [← e]; exact hS)) h64 fun st' a1 a2 => ⟨_, rfl, ?_⟩) (args_list_sort _)))
  obtain ⟨ss', b1, b2, b3⟩ := sorted_out_str hS a1 a2
  obtain ⟨e, he⟩ := sortedHeap_at (vs := vs) (out := (arrOf st').map (·.2)) hoL
  refine wpAny_pure ⟨_, rfl, h h1 _ s.toks e ((arrOf st').map (·.2)).toList ss' hk (fun b o hb => ?_) (by rw [Array.toArray_toList]; exact he) b1 b2 b3⟩
  have hlt : b < h1.objs.size := Heap.lt_size hb
  rw [sortedHeap_old (Nat.ne_of_lt hlt) (by rw [size_push']; exact Nat.lt_succ_of_lt hlt), Heap.get?_push_ne _ _ _ (Nat.ne_of_lt hlt)]
  exact hb
end
noncomputable def sortT (l : List D) : M D := do
  let ss ← optM (strsOf l)
  if ss.length < 64 then allocM (.lst ((sortS ss).map .str)) else M.stuck
noncomputable def sortedG : List D → M D := fun ds => match ds with
  | [.tup l] => sortT l
  | [.ref r] => do
    match ← objM r with
    | .lst l => sortT l
    | .dct l => do
      let ss ← optM (keyStrs l)
      if ss.length < 64 then allocM (.lst ((sortS ss).map .str)) else M.stuck
    | _ => M.stuck
  | _ => M.stuck
section
variable {X : Cx} {Z : XC}
theorem strs_are {c : Wc} {μ : List Addr} {H : Hp} : ∀ {l : List D} {ss : List Str} {vs : List V} {us : List Value}, strsOf l = some ss → RepL c μ H l vs → Vals vs us → StrsAre us ss
  | [], _, _, _, e, r, v => by cases e; cases r; cases v; exact .nil
  | .str x :: t, ss, _, _, e, r, v => by
    unfold strsOf at e
    cases h : strsOf t with
    | none => rw [h] at e; cases e
    | some q =>
      rw [h] at e
      cases e
      obtain ⟨v0, tl, rfl, r0, rt⟩ := r
      cases v with
      | cons ru rt2 =>
        rw [repS r0] at ru
        obtain ⟨tk, rfl⟩ := ru
        exact .cons _ _ (strs_are h rt rt2)
  | .non :: _, _, _, _, e, _, _ => by cases e
  | .bl _ :: _, _, _, _, e, _, _ => by cases e
  | .int _ :: _, _, _, _, e, _, _ => by cases e
  | .tup _ :: _, _, _, _, e, _, _ => by cases e
  | .ref _ :: _, _, _, _, e, _, _ => by cases e
  | .fn _ :: _, _, _, _, e, _, _ => by cases e
  | .ty _ :: _, _, _, _, e, _, _ => by cases e
theorem strs_len : ∀ {l : List D} {ss : List Str}, strsOf l = some ss → ss.length = l.length
  | [], _, e => by cases e; rfl
  | .str x :: t, ss, e => by
    unfold strsOf at e
    cases h : strsOf t with
    | none => rw [h] at e; cases e
    | some q => rw [h] at e; cases e; simp [strs_len h]
  | .non :: _, _, e => by cases e
  | .bl _ :: _, _, e => by cases e
  | .int _ :: _, _, e => by cases e
  | .tup _ :: _, _, e => by cases e
  | .ref _ :: _, _, e => by cases e
  | .fn _ :: _, _, e => by cases e
  | .ty _ :: _, _, e => by cases e
theorem sort_end {μ : List Addr} {G : DH} {pins : List (Addr × Obj)} {s : Shared} {σ : St} {H : Hp} {Q : VK} {a : Addr} {T : String} {o : Obj} {vs : List V} {us : List Value} {n : Nat} {l : List D} (I : Inv X pins σ H s) (hr : HRep (wc X) μ G H) (rl : RepL (wc X) μ H l vs) (rv : Vals vs us) (hT : T = "list" ∨ T = "tuple") (ho : s.heap.get? a = some o) (hc : o.cls = .type T) (hd : o.data = .seq us.toArray n)
    (p : Post (wc X) Z μ H (sortT l G) fun d μ' _ H' => ∀ v, RepV (wc X) μ' H' d v → Q v H') : wpAny (model X.prog X.w) X.A (call (.builtin "sorted") [.ref a]) (EP X pins σ Q) X.xe s := by
  obtain ⟨ss, es, p2⟩ := optM_post p
  split at p2
  case isFalse => exact p2.elim
  rename_i h64
  have hS := strs_are es rl rv
  have hlen0 : us.length = ss.length := by rw [strs_len es, rl.length, rv.length]
  refine sorted_seq hT ho hc hd (by omega) hS fun h1 h' tk e out ss' k1 k2 he hS' hp hs => ?_
  have e2 := sortS_eq hp hs
  subst e2
  obtain ⟨ws, ew, rv', rl2⟩ := strs_rep (c := wc X) (μ := μ) (H := H) hS'
  have I1 : Inv X pins σ H { s with heap := h1, toks := tk } := I.kept k1
  have hf := I1.hok.fresh (Nat.le_refl _)
  have hlen : ws.length ≤ sizeLine := by
    rw [ew, List.length_map]
    have e3 : (sortS ss).length = ss.length := (List.mergeSort_perm ss leS).length_eq
    have : (64 : Nat) ≤ sizeLine := by decide
    omega
  exact ⟨.ref h1.objs.size, upd H h1.objs.size (.lst ws), I1.laid (t' := tk) k2 (Nat.le_refl _) ⟨hlen, out, e, rv', he⟩, rfl, post_lst hr rl2 p2 _ hf⟩
theorem cd_sortedG (hc : X.calm = true) : CallD X Z (.builtin "sorted") sortedG := ⟨by
  intro pins s σ H xs us Q I r ⟨ds, μ, G, rl, hr, p⟩
  unfold sortedG at p
  split at p
  · rename_i l
    obtain ⟨v, rfl, rv⟩ := rep1 rl
    obtain ⟨u, rfl, ru⟩ := vals1 r
    unfold RepV at rv
    obtain ⟨a, vs, rfl, q, rl'⟩ := rv
    cases ru
    obtain ⟨its, rv, ⟨o, h1, h2, n, h3⟩, hz⟩ := I.tuple q
    exact sort_end I hr rl' rv (.inr rfl) h1 h2 h3 p
  · rename_i i
    obtain ⟨v, rfl, rv⟩ := rep1 rl
    obtain ⟨u, rfl, ru⟩ := vals1 r
    have rv' := rv
    unfold RepV at rv'
    obtain ⟨a, m, rfl⟩ := rv'
    cases ru
    obtain ⟨o, g, p1⟩ := objM_post p
    have ro := hr.obj i o a g m
    cases o with
    | lst l =>
      obtain ⟨vs, q, rl'⟩ := ro
      obtain ⟨its, rv, pl, hz⟩ := I.list (SqL.of q)
      obtain ⟨o, h1, h2, n, h3⟩ := pl.isList
      exact sort_end I hr rl' rv (.inl rfl) h1 h2 h3 p1
    | dct l =>
      refine (cd_sorted (Z := Z) hc).h pins s σ H [.ref a] [.ref a] Q I r ⟨[.ref i], μ, G, rl, hr, ?_⟩
      have eo : objM i G = some (.ok (.dct l), G) := by unfold objM; simp only [g]
      have e : sortedF [.ref i] G = ((do
        let ss ← optM (keyStrs l)
        if ss.length < 64 then allocM (.lst ((sortS ss).map .str)) else M.stuck : M D)) G := by
        show ((objM i >>= fun o => match o with
          | .dct l => (do
            let ss ← optM (keyStrs l)
            if ss.length < 64 then allocM (.lst ((sortS ss).map .str)) else M.stuck : M D)
          | _ => M.stuck) : M D) G = _
        rw [M.bind_ok eo]
      rw [e]
      exact p1
    | rol l => exact p1.elim
    | rod l => exact p1.elim
  · exact p.elim⟩
theorem bd_sortedG (h : X.calm = true) : BD sortedG "sorted" X Z := ⟨.inl ⟨_, cd_sortedG h, bt_sorted⟩⟩
end
end DL
namespace W
open PySem PySem.Spec L2 DL
open PyProof.Rows hiding St
section
variable {G : DH} {Q : D → DH → Prop}
theorem sortT_wp {l : List D} {ss : List Str} (hs : strsOf l = some ss) (h64 : ss.length < 64) : Wp (sortT l) G Q ↔ Q (.ref G.length) (G ++ [.lst ((sortS ss).map .str)]) := by
  unfold sortT
  simp only [wp_bind, wp_opt, hs, someI, if_pos h64, wp_alloc]
theorem sortG_lst {r : Nat} {l : List D} {ss : List Str} (e : G[r]? = some (.lst l)) (hs : strsOf l = some ss) (h64 : ss.length < 64) : Wp (sortedG [.ref r]) G Q ↔ Q (.ref G.length) (G ++ [.lst ((sortS ss).map .str)]) := by
  unfold sortedG
  simp only [wp_bind, wp_obj, e, someI]
  exact sortT_wp hs h64
end
end W
set_option Elab.async false
set_option linter.all false
set_option maxRecDepth 100000
namespace DL
open PySem
section
variable {prog : Program} {w : World} {A : Around} {E : Value → Shared → Prop}
end
end DL
namespace DL
open PySem
open PyProof.Rows (IsTup)
section
variable {prog : Program} {w : World} {A : Around} {R : Result → Shared → Prop} {I : Addr} {fp wr : List Addr} {n : Nat} {P : Nat → Value → Prop} {St : Nat → Heap → Prop} {K : Type} [DecidableEq K] {knd : KeyKind prog w K}
end
end DL
namespace DL
open PySem
open PyProof.Rows (IsTup)
section
variable {prog : Program} {w : World} {A : Around} {E : Value → Shared → Prop} {s : Shared} {K : Type} [DecidableEq K] {knd : KeyKind prog w K}
end
end DL
namespace DL
open PySem PySem.Spec L2
open PyProof.Rows hiding St
section
variable {X : Cx} {Z : XC} {c : Wc} {μ : List Addr} {H : Hp} {G : DH}
end
end DL
namespace W
open PySem PySem.Spec L2 DL
open PyProof.Rows hiding St
end W
set_option Elab.async false
set_option linter.all false
set_option maxRecDepth 100000
namespace DL
open PySem PySem.Spec L2
open PyProof.Rows hiding St
section
variable {X : Cx} {Z : XC} {c : Wc} {μ : List Addr} {H : Hp}
theorem RepL.eraseIdx {l : List D} {vs : List V} (n : Nat) (h : RepL c μ H l vs) : RepL c μ H (l.eraseIdx n) (vs.eraseIdx n) := by
  rw [List.eraseIdx_eq_take_drop_succ, List.eraseIdx_eq_take_drop_succ]
  exact (RepL.take _ h).append (RepL.drop _ h)
end
end DL
namespace W
open PySem PySem.Spec L2 DL
open PyProof.Rows hiding St
end W
set_option Elab.async false
set_option linter.all false
set_option maxRecDepth 100000
namespace DL
open PySem PySem.Spec L2
open PyProof.Rows hiding St
section
variable {X : Cx} {Z : XC} {a b e : Expr} {fa fb : Fe} {pos : Pos}
end
end DL
namespace W
open PySem PySem.Spec L2 DL
open PyProof.Rows hiding St
end W
set_option Elab.async false
set_option linter.all false
set_option maxRecDepth 100000
namespace DL
open PySem PySem.W
open PyProof.Rows hiding St
noncomputable def tOk {α : Type} (lt : Nat → Nat → Bool) (n : Nat) : KasT α → (α → Prop) → Prop
  | .ret a, Q => Q a
  | .ask i j k, Q => i < n ∧ j < n ∧ tOk lt n (k (lt i j)) Q
section
variable {α β : Type} {lt : Nat → Nat → Bool} {n : Nat}
theorem tOk.bind {f : α → KasT β} {Q : β → Prop} : ∀ (t : KasT α), tOk lt n t (fun a => tOk lt n (f a) Q) → tOk lt n (t.bind f) Q
  | .ret _, h => h
  | .ask i j k, h => ⟨h.1, h.2.1, tOk.bind (k (lt i j)) h.2.2⟩
theorem tOk.mono {Q Q' : α → Prop} (hq : ∀ a, Q a → Q' a) : ∀ (t : KasT α), tOk lt n t Q → tOk lt n t Q'
  | .ret a, h => hq a h
  | .ask i j k, h => ⟨h.1, h.2.1, tOk.mono hq (k (lt i j)) h.2.2⟩
theorem tOk.wp {cmp : Nat → Nat → (Bool → Shared → Prop) → Shared → Prop} {s : Shared} {Q : α → Prop} (hc : ∀ i j (C : Bool → Shared → Prop), i < n → j < n → C (lt i j) s → cmp i j C s) : ∀ (t : KasT α), tOk lt n t Q → t.kasWp cmp (fun a s' => s' = s ∧ Q a) s
  | .ret a, h => ⟨rfl, h⟩
  | .ask i j k, h => hc i j _ h.1 h.2.1 (tOk.wp hc (k (lt i j)) h.2.2)
end
structure OrdN (lt : Nat → Nat → Bool) (n : Nat) : Prop where
  tr : ∀ i j k, lt i j = true → lt j k = true → lt i k = true
  tot : ∀ i j, i < n → j < n → i ≠ j → lt i j = false → lt j i = true
structure PermN (p : Array Nat) (n : Nat) : Prop where
  pm : p.toList.Perm (List.range n)
section
variable {lt : Nat → Nat → Bool} {n : Nat} {p : Array Nat}
theorem PermN.size (h : PermN p n) : p.size = n := by have := h.pm.length_eq; simpa using this
theorem PermN.bd (h : PermN p n) {k : Nat} (hk : k < n) : p.getD k 0 < n := by
  have hs := h.size
  have e : p.getD k 0 = p[k]'(by omega) := by simp [Array.getD, hs, hk]
  rw [e]
  have : p[k]'(by omega) ∈ p.toList := by simp
  have := h.pm.mem_iff.mp this
  simpa using this
theorem PermN.ne (h : PermN p n) {i j : Nat} (hi : i < n) (hj : j < n) (hij : i ≠ j) : p.getD i 0 ≠ p.getD j 0 := by
  have hs := h.size
  have nd : p.toList.Nodup := h.pm.nodup_iff.mpr List.nodup_range
  have e1 : p.getD i 0 = p.toList[i]'(by simp; omega) := by simp [Array.getD, hs, hi]
  have e2 : p.getD j 0 = p.toList[j]'(by simp; omega) := by simp [Array.getD, hs, hj]
  rw [e1, e2]
  intro e
  exact hij ((List.getElem_inj nd).mp e)
noncomputable def upTo (lt : Nat → Nat → Bool) (p : Array Nat) (m : Nat) : Prop := ∀ i j, i < j → j < m → lt (p.getD i 0) (p.getD j 0) = true
noncomputable def dnTo (lt : Nat → Nat → Bool) (p : Array Nat) (m : Nat) : Prop := ∀ i j, i < j → j < m → lt (p.getD j 0) (p.getD i 0) = true
theorem up_snoc (O : OrdN lt n) {k : Nat} (hk : 1 ≤ k) (h : upTo lt p k) (hl : lt (p.getD (k - 1) 0) (p.getD k 0) = true) : upTo lt p (k + 1) := by
  intro i j hij hj
  by_cases hj' : j < k
  · exact h i j hij hj'
  · have ej : j = k := by omega
    subst ej
    by_cases hi : i = j - 1
    · rw [hi]; exact hl
    · exact O.tr _ _ _ (h i (j - 1) (by omega) (by omega)) hl
theorem dn_snoc (O : OrdN lt n) {k : Nat} (hk : 1 ≤ k) (h : dnTo lt p k) (hl : lt (p.getD k 0) (p.getD (k - 1) 0) = true) : dnTo lt p (k + 1) := by
  intro i j hij hj
  by_cases hj' : j < k
  · exact h i j hij hj'
  · have ej : j = k := by omega
    subst ej
    by_cases hi : i = j - 1
    · rw [hi]; exact hl
    · exact O.tr _ _ _ hl (h i (j - 1) (by omega) (by omega))
theorem asc_ok (O : OrdN lt n) (P : PermN p n) : ∀ (f k : Nat), 1 ≤ k → k + f ≤ n → upTo lt p k → tOk lt n (kas_asc p f k) (fun m => k ≤ m ∧ m ≤ k + f ∧ upTo lt p m ∧ (m < k + f → lt (p.getD m 0) (p.getD (m - 1) 0) = true))
  | 0, k, h1, h2, u => ⟨Nat.le_refl _, Nat.le_refl _, u, fun z => by omega⟩
  | f + 1, k, h1, h2, u => by
    unfold kas_asc
    refine ⟨P.bd (by omega), P.bd (by omega), ?_⟩
    cases e : lt (p.getD k 0) (p.getD (k - 1) 0) with
    | true => exact ⟨Nat.le_refl _, by omega, u, fun _ => e⟩
    | false =>
      have hl := O.tot _ _ (P.bd (show k < n by omega)) (P.bd (show k - 1 < n by omega)) (P.ne (by omega) (by omega) (by omega)) e
      simp only [Bool.false_eq_true, if_false]
      exact (asc_ok O P f (k + 1) (by omega) (by omega) (up_snoc O h1 u hl)).mono fun m ⟨a, b, c, d⟩ => ⟨by omega, by omega, c, fun z => d (by omega)⟩
theorem desc_ok (O : OrdN lt n) (P : PermN p n) : ∀ (f k : Nat), 1 ≤ k → k + f ≤ n → dnTo lt p k → tOk lt n (kas_desc f p k 0) (fun r => r.1 = p ∧ r.2.2 = 0 ∧ k ≤ r.2.1 ∧ r.2.1 ≤ k + f ∧ dnTo lt p r.2.1)
  | 0, k, h1, h2, u => ⟨rfl, rfl, Nat.le_refl _, Nat.le_refl _, u⟩
  | f + 1, k, h1, h2, u => by
    unfold kas_desc
    refine ⟨P.bd (by omega), P.bd (by omega), ?_⟩
    cases e : lt (p.getD k 0) (p.getD (k - 1) 0) with
    | true =>
      simp only [if_true, Nat.lt_irrefl, if_false, gt_iff_lt]
      exact (desc_ok O P f (k + 1) (by omega) (by omega) (dn_snoc O h1 u e)).mono fun r ⟨a, b, c, d, g⟩ => ⟨a, b, by omega, by omega, g⟩
    | false =>
      have hl := O.tot _ _ (P.bd (show k < n by omega)) (P.bd (show k - 1 < n by omega)) (P.ne (by omega) (by omega) (by omega)) e
      simp only [Bool.false_eq_true, if_false]
      refine ⟨P.bd (by omega), P.bd (by omega), ?_⟩
      rw [hl]
      exact ⟨rfl, rfl, Nat.le_refl _, Nat.le_add_right _ _, u⟩
theorem getD_opt (p : Array Nat) (k : Nat) : p.getD k 0 = (p[k]?).getD 0 := by
  by_cases h : k < p.size <;> simp [Array.getD, h]
theorem rev_perm {i j : Nat} (P : PermN p n) : PermN (kas_rev p i j) n := ⟨(Array.perm_iff_toList_perm.mp (mirror_perm p i j _)).trans P.pm⟩
theorem rev_up (P : PermN p n) {m : Nat} (hm : m ≤ n) (d : dnTo lt p m) : upTo lt (kas_rev p 0 m) m := by
  intro i j hij hj
  have hs := P.size
  have e : ∀ k, k < m → (kas_rev p 0 m).getD k 0 = p.getD (m - 1 - k) 0 := fun k hk => by
    rw [getD_opt, getD_opt]
    unfold kas_rev
    rw [getElem?_mirror_all (by omega), if_pos ⟨Nat.zero_le _, hk⟩, Nat.zero_add]
  rw [e i (by omega), e j hj]
  exact d (m - 1 - j) (m - 1 - i) (by omega) (by omega)
theorem descPart_ok (O : OrdN lt n) (P : PermN p n) (h2 : 2 ≤ n) (d : dnTo lt p 2) : tOk lt n (kas_descPart 1 n p) (fun r => PermN r.2 n ∧ 1 ≤ r.1 ∧ r.1 ≤ n ∧ upTo lt r.2 r.1) := by
  unfold kas_descPart
  refine tOk.bind _ ((desc_ok O P (n - (1 + 1)) (1 + 1) (by omega) (by omega) d).mono fun r ⟨a, b, c, e, g⟩ => ?_)
  obtain ⟨r1, r2, r3⟩ := r
  dsimp only at a b c e g ⊢
  subst a b
  rw [if_neg (Nat.lt_irrefl 0)]
  unfold kas_tail3
  refine tOk.bind _ ((asc_ok O (rev_perm P) (n - r2) r2 (by omega) (by omega) (rev_up P (by omega) g)).mono fun m ⟨a1, a2, a3, _⟩ => ?_)
  exact ⟨rev_perm P, by omega, by omega, a3⟩
theorem count_ok (O : OrdN lt n) (P : PermN p n) (h2 : 2 ≤ n) : tOk lt n (kas_count n p) (fun r => PermN r.2 n ∧ 1 ≤ r.1 ∧ r.1 ≤ n ∧ upTo lt r.2 r.1) := by
  unfold kas_count
  refine tOk.bind _ ((asc_ok O P (n - 1) 1 (Nat.le_refl _) (by omega) (fun i j _ _ => by omega)).mono fun m ⟨a1, a2, a3, a4⟩ => ?_)
  by_cases hm : m = n
  · rw [if_pos (by simpa using hm)]
    exact ⟨P, a1, by omega, a3⟩
  · rw [if_neg (by simpa using hm)]
    by_cases h1 : m > 1
    · rw [if_pos h1]
      refine ⟨P.bd (by omega), P.bd (by omega), ?_⟩
      rw [a3 0 (m - 1) (by omega) (by omega)]
      exact ⟨P, a1, by omega, a3⟩
    · rw [if_neg h1]
      have em : m = 1 := by omega
      subst em
      refine descPart_ok O P h2 fun i j hij hj => ?_
      have e1 : i = 0 := by omega
      have e2 : j = 1 := by omega
      subst e1 e2
      exact a4 (by omega)
theorem place_ok (O : OrdN lt n) (P : PermN p n) {k : Nat} (hk : k < n) (u : upTo lt p k) : ∀ (f l r : Nat), l ≤ r → r ≤ k → r - l ≤ f → (∀ i, i < l → lt (p.getD i 0) (p.getD k 0) = true) → (∀ i, r ≤ i → i < k → lt (p.getD k 0) (p.getD i 0) = true) →
    tOk lt n (kas_place p k f l r) (fun L => L ≤ k ∧ (∀ i, i < L → lt (p.getD i 0) (p.getD k 0) = true) ∧ ∀ i, L ≤ i → i < k → lt (p.getD k 0) (p.getD i 0) = true)
  | 0, l, r, h1, h2, h3, a, b => ⟨by omega, a, fun i hi => b i (by omega)⟩
  | f + 1, l, r, h1, h2, h3, a, b => by
    unfold kas_place
    by_cases h : l ≥ r
    · rw [if_pos h]
      exact ⟨by omega, a, fun i hi => b i (by omega)⟩
    · rw [if_neg h]
      have hm1 : l ≤ (l + r) / 2 := by omega
      have hm2 : (l + r) / 2 < r := by omega
      refine ⟨P.bd hk, P.bd (by omega), ?_⟩
      cases e : lt (p.getD k 0) (p.getD ((l + r) / 2) 0) with
      | true =>
        simp only [if_true]
        refine place_ok O P hk u f l _ hm1 (by omega) (by omega) a fun i hi hik => ?_
        by_cases ei : i = (l + r) / 2
        · rw [ei]; exact e
        · exact O.tr _ _ _ e (u _ i (by omega) hik)
      | false =>
        simp only [Bool.false_eq_true, if_false]
        have hl := O.tot _ _ (P.bd hk) (P.bd (show (l + r) / 2 < n by omega)) (P.ne hk (by omega) (by omega)) e
        refine place_ok O P hk u f _ r (by omega) h2 (by omega) (fun i hi => ?_) b
        by_cases ei : i = (l + r) / 2
        · rw [ei]; exact hl
        · exact O.tr _ _ _ (u i ((l + r) / 2) (by omega) (by omega)) hl
theorem bin_ok (O : OrdN lt n) : ∀ (f k : Nat) (p : Array Nat), PermN p n → k + f = n → upTo lt p k → tOk lt n (kas_bin f p k) (fun q => PermN q n ∧ upTo lt q n)
  | 0, k, p, P, h, u => ⟨P, by rw [← h]; exact u⟩
  | f + 1, k, p, P, h, u => by
    unfold kas_bin
    refine tOk.bind _ ((place_ok O P (show k < n by omega) u k 0 k (Nat.zero_le _) (Nat.le_refl _) (by omega) (fun i hi => by omega) (fun i h1 h2 => by omega)).mono fun L ⟨hL, a, b⟩ => ?_)
    have hs := P.size
    refine bin_ok O f (k + 1) _ ⟨(Array.perm_iff_toList_perm.mp (bubble_perm p k (k - L))).trans P.pm⟩ (by omega) ?_
    have e : ∀ i, (bubble p k (k - L)).getD i 0 = if i = L then p.getD k 0 else if L < i ∧ i ≤ k then p.getD (i - 1) 0 else p.getD i 0 := fun i => by
      rw [getD_opt, getElem?_bubble (by omega) _ (by omega), show k - (k - L) = L by omega]
      split
      · rw [← getD_opt]
      · split <;> rw [← getD_opt]
    intro i j hij hj
    rw [e i, e j]
    by_cases h1 : i = L
    · rw [if_pos h1, if_neg (by omega), if_pos (by omega)]
      exact b (j - 1) (by omega) (by omega)
    · rw [if_neg h1]
      by_cases h2 : j = L
      · rw [if_pos h2, if_neg (by omega)]
        exact a i (by omega)
      · rw [if_neg h2]
        by_cases h3 : L < i
        · rw [if_pos (by omega), if_pos (by omega)]
          exact u _ _ (by omega) (by omega)
        · rw [if_neg (by omega)]
          by_cases h4 : L < j
          · rw [if_pos (by omega)]
            by_cases h5 : i < j - 1
            · exact u _ _ h5 (by omega)
            · omega
          · rw [if_neg (by omega)]
            exact u _ _ hij (by omega)
theorem sort_ok (O : OrdN lt n) (h2 : 2 ≤ n) : tOk lt n (kas_sort n) (fun q => PermN q n ∧ upTo lt q n) := by
  unfold kas_sort
  refine tOk.bind _ ((count_ok O ⟨by simp⟩ h2).mono fun r ⟨a, b, c, d⟩ => ?_)
  by_cases h : r.1 < n
  · rw [if_pos h, show max r.1 1 = r.1 by omega]
    exact bin_ok O _ _ _ a (by omega) d
  · rw [if_neg h]
    exact ⟨a, by rw [show n = r.1 by omega]; exact d⟩
end
end DL
set_option Elab.async false
set_option linter.all false
set_option maxRecDepth 100000
namespace DL
open PySem PySem.Spec L2
open PyProof.Rows hiding St
noncomputable def keysM (F : List D → M D) : List D → M (List D)
  | [] => pure []
  | d :: r => do
    let k ← noX (F [d])
    let ks ← keysM F r
    pure (k :: ks)
noncomputable def keyIS : D → Option (Int × Str)
  | .tup [.int a, .str x] => some (a, x)
  | _ => none
noncomputable def keysIS : List D → Option (List (Int × Str))
  | [] => some []
  | d :: r => match keyIS d, keysIS r with
    | some a, some b => some (a :: b)
    | _, _ => none
noncomputable def ltIS (p q : Int × Str) : Bool := if p.1 = q.1 then decide (p.2.cps.toList < q.2.cps.toList) else decide (p.1 < q.1)
noncomputable def leIS (p q : (Int × Str) × D) : Bool := !ltIS q.1 p.1
noncomputable def sortIS (qs : List (Int × Str)) (l : List D) : List D := ((qs.zip l).mergeSort leIS).map (·.2)
noncomputable def sortKs (F : List D → M D) (l : List D) : M D := do
  let ks ← keysM F l
  let qs ← optM (keysIS ks)
  if qs.Nodup then allocM (.lst (sortIS qs l)) else M.stuck
noncomputable def sortKD (F : List D → M D) : D → M D
  | .tup l => if l.length < 64 then sortKs F l else M.stuck
  | .ref r => do
    match ← objM r with
    | .lst l => if l.length < 64 then sortKs F l else M.stuck
    | .dct l => do
      let ss ← optM (keyStrs l)
      if ss.length < 64 then sortKs F (ss.map .str) else M.stuck
    | _ => M.stuck
  | _ => M.stuck
noncomputable def sortKE (F : List D → M D) (f : Fe) : Fe := fun σ => do
  let x ← f σ
  sortKD F x
theorem ltIS_irr (p : Int × Str) : ltIS p p = false := by
  unfold ltIS
  rw [if_pos rfl, decide_eq_false]
  exact List.lt_irrefl _
theorem ltIS_tr {p q r : Int × Str} (h1 : ltIS p q = true) (h2 : ltIS q r = true) : ltIS p r = true := by
  unfold ltIS at *
  by_cases e1 : p.1 = q.1
  · rw [if_pos e1] at h1
    by_cases e2 : q.1 = r.1
    · rw [if_pos e2] at h2
      rw [if_pos (e1.trans e2)]
      simp only [decide_eq_true_eq] at *
      exact List.lt_trans h1 h2
    · rw [if_neg e2] at h2
      rw [if_neg (by rw [e1]; exact e2), e1]
      exact h2
  · rw [if_neg e1] at h1
    simp only [decide_eq_true_eq] at h1
    by_cases e2 : q.1 = r.1
    · rw [if_pos e2] at h2
      rw [if_neg (by rw [← e2]; exact e1), ← e2]
      exact decide_eq_true h1
    · rw [if_neg e2] at h2
      simp only [decide_eq_true_eq] at h2
      rw [if_neg (by omega)]
      exact decide_eq_true (by omega)
theorem ltIS_tot {p q : Int × Str} (h : p ≠ q) (h1 : ltIS p q = false) : ltIS q p = true := by
  unfold ltIS at *
  by_cases e1 : p.1 = q.1
  · rw [if_pos e1] at h1
    rw [if_pos e1.symm]
    simp only [decide_eq_false_iff_not, decide_eq_true_eq] at *
    have hle : q.2.cps.toList ≤ p.2.cps.toList := h1
    refine Classical.byContradiction fun n => h ?_
    have hle2 : p.2.cps.toList ≤ q.2.cps.toList := n
    have e := List.le_antisymm hle2 hle
    cases p with | mk a x => cases q with | mk b y =>
    dsimp only at e1 e
    subst e1
    congr 1
    cases x; cases y
    congr 1
    exact Array.toList_inj.mp e
  · rw [if_neg e1] at h1
    rw [if_neg (fun e => e1 e.symm)]
    simp only [decide_eq_false_iff_not, decide_eq_true_eq] at *
    omega
theorem zip_key_inj {qs : List (Int × Str)} {l : List D} (nd : qs.Nodup) : ∀ a ∈ qs.zip l, ∀ b ∈ qs.zip l, a.1 = b.1 → a = b := by
  intro a ha b hb e
  obtain ⟨i, hi, rfl⟩ := List.mem_iff_getElem.mp ha
  obtain ⟨j, hj, rfl⟩ := List.mem_iff_getElem.mp hb
  simp only [List.getElem_zip] at e ⊢
  have := (List.getElem_inj nd).mp e
  subst this
  rfl
theorem sortIS_eq {qs : List (Int × Str)} {l : List D} (nd : qs.Nodup) {z : List ((Int × Str) × D)} (hp : z.Perm (qs.zip l)) (hs : z.Pairwise fun a b => leIS a b = true) : z.map (·.2) = sortIS qs l := by
  unfold sortIS
  congr 1
  have h2 : ((qs.zip l).mergeSort leIS).Pairwise fun a b => leIS a b = true := List.pairwise_mergeSort (fun a b c h1 h2 => by
    unfold leIS at *
    simp only [Bool.not_eq_true'] at *
    refine Bool.eq_false_iff.mpr fun h => ?_
    by_cases e : a.1 = b.1
    · rw [e] at h; rw [h] at h2; cases h2
    · have := ltIS_tr h (ltIS_tot (fun z => e z.symm) h1)
      rw [this] at h2; cases h2) (fun a b => by
    unfold leIS
    by_cases e : a.1 = b.1
    · rw [e, ltIS_irr]; rfl
    · cases q : ltIS b.1 a.1 with
      | false => rfl
      | true =>
        have : ltIS a.1 b.1 = false := by
          refine Bool.eq_false_iff.mpr fun h => ?_
          have := ltIS_tr q h
          rw [ltIS_irr] at this; cases this
        rw [this]; rfl) _
  refine List.Perm.eq_of_pairwise (fun a b ha hb h1 h2 => ?_) hs h2 (hp.trans (List.mergeSort_perm _ _).symm)
  refine zip_key_inj nd a (hp.mem_iff.mp ha) b ((List.mergeSort_perm _ _).mem_iff.mp hb) (Classical.byContradiction fun n => ?_)
  unfold leIS at *
  simp only [Bool.not_eq_true'] at *
  have := ltIS_tot (fun z => n z.symm) h1
  rw [this] at h2; cases h2
noncomputable def Cx.rm (X : Cx) (A : Around) : Cx := { X with A := A, xe := fun _ _ => False }
section
variable {X : Cx} {pins : List (Addr × Obj)} {σ : St} {H : Hp} {s : Shared} {A : Around}
theorem inv_rm (I : Inv X pins σ H s) (h1 : A.handled = X.A.handled) (h2 : A.frames = X.A.frames) : Inv (Cx.rm X A) pins σ H s :=
  ⟨⟨I.ok.mod, I.ok.kind, I.ok.glob, I.ok.blt, I.ok.above, I.ok.inj, I.ok.has, I.ok.cab, fun c => h1.trans (I.ok.hd c), h2.trans I.ok.frames, I.ok.stk, I.ok.exf, I.ok.bs, I.ok.bsz, I.ok.noex, I.ok.exfs, I.ok.funs, I.ok.frf⟩, I.os, I.bare, I.base, I.loc, I.cell, I.free, I.freeC, I.pin, I.hok, I.len⟩
theorem inv_unrm (I : Inv (Cx.rm X A) pins σ H s) (h1 : A.handled = X.A.handled) (h2 : A.frames = X.A.frames) : Inv X pins σ H s :=
  ⟨⟨I.ok.mod, I.ok.kind, I.ok.glob, I.ok.blt, I.ok.above, I.ok.inj, I.ok.has, I.ok.cab, fun c => h1.symm.trans (I.ok.hd c), h2.symm.trans I.ok.frames, I.ok.stk, I.ok.exf, I.ok.bs, I.ok.bsz, I.ok.noex, I.ok.exfs, I.ok.funs, I.ok.frf⟩, I.os, I.bare, I.base, I.loc, I.cell, I.free, I.freeC, I.pin, I.hok, I.len⟩
end
section
variable {X : Cx} {pins : List (Addr × Obj)} {σ : St} {A : Around} {F : List D → M D} {k : Nat} {f : Addr} {fd : FuncData} {ps : List Str}
theorem sk_fold (hF : FnOk X.prog X.w X.K X.mg X.base CX0 k f fd ps (spD (wc X) 1 F)) (hb : Binds X.K fd ps []) (hA : Room k A) (h1 : A.handled = X.A.handled) (h2 : A.frames = X.A.frames) {a kS : Addr} {e1 : Nat}
    (fa : ∀ H' : Hp, H' a = none → FpOk X pins H' a) (fk : ∀ H' : Hp, H' kS = none → FpOk X pins H' kS) (ne : a ≠ kS) {E : Value → Shared → Prop} {R : Shared → Prop} {body : Value → PUnit → Sem (ForInStep PUnit)}
    (hbd : ∀ x s (R : Shared → Prop), wpAny (model X.prog X.w) A (call (.ref f) [x]) (fun k s' => ∃ ks e, List.length ks < 64 ∧ s'.heap.get? kS = some (seqObj "list" (List.toArray ks) e) ∧ R { s' with heap := s'.heap.update kS (Obj.mapSeq (·.push k)) }) (fun _ _ => False) s →
      wpAny (model X.prog X.w) A (body x ⟨⟩) (fun r s' => r = .yield ⟨⟩ ∧ R s') E s) : ∀ (r : List D) (rv : List V) (ru : List Value) (dn : List D) (dv : List V) (du : List Value) (e : Nat) (μ : List Addr) (G : DH) (H : Hp) (s : Shared),
      RepL (wc X) μ H r rv → Vals rv ru → RepL (wc X) μ H dn dv → Vals dv du → HRep (wc X) μ G H → Inv X pins σ H s → s.heap.get? kS = some (seqObj "list" (List.toArray du) e) → s.heap.get? a = some (seqObj "list" #[] e1) → H a = none → H kS = none → du.length + ru.length < 64 →
      Post (wc X) ZF μ H (keysM F r G) (fun ks μ' G' H' => ∀ (s' : Shared) (kv : List V) (ku : List Value) (e' : Nat), Ext μ H μ' H' → HRep (wc X) μ' G' H' → RepL (wc X) μ' H' (dn ++ ks) kv → Vals kv ku → Inv X pins σ H' s' → s'.heap.get? kS = some (seqObj "list" (List.toArray ku) e') → s'.heap.get? a = some (seqObj "list" #[] e1) → H' a = none → H' kS = none → R s') →
      wpAny (model X.prog X.w) A (forIn ru PUnit.unit body) (fun _ s' => R s') E s
  | [], _, _, dn, dv, du, e, μ, G, H, s, r1, r2, q1, q2, hr, I, g1, g2, n1, n2, hl, p => by
    cases r1; cases r2
    rw [List.forIn_nil]
    exact wpAny_pure (Post.ok p hr s dv du e (Ext.refl _ _) hr (by rw [List.append_nil]; exact q1) q2 I g1 g2 n1 n2)
  | d :: r, _, _, dn, dv, du, e, μ, G, H, s, r1, r2, q1, q2, hr, I, g1, g2, n1, n2, hl, p => by
    obtain ⟨v, rv, rfl, rd, rr⟩ := r1
    cases r2 with
    | cons ru rur =>
    rename_i u ur
    rw [List.forIn_cons]
    have hfp : ∀ b ∈ [a, kS], FpOk X pins H b := fun b hb => by
      rcases List.mem_cons.mp hb with rfl | hb
      · exact fa H n1
      · rw [List.mem_singleton] at hb; subst hb; exact fk H n2
    have IX := inv_rm (A := A) (I.pinned (fp := [a, kS]) hfp (fun b hb => by
      rcases List.mem_cons.mp hb with rfl | hb
      · exact ⟨_, g2, fun v z => by cases z⟩
      · rw [List.mem_singleton] at hb; subst hb; exact ⟨_, g1, fun v z => by cases z⟩)) h1 h2
    have pb := noX_post (Post.bind p)
    have call := run_fn (X := Cx.rm X A) (dvs := []) (ds := []) (Q := fun v' H' => ∃ k μ1 G1, Ext μ H μ1 H' ∧ HRep (wc X) μ1 G1 H' ∧ RepV (wc X) μ1 H' k v' ∧ Post (wc X) ZF μ1 H' ((keysM F r >>= fun ks => pure (k :: ks)) G1) _) hF hA hb .nil pass0 IX (show Vals [v] [u] from .cons ru .nil)
      (⟨rfl, [d], μ, G, ⟨v, [], rfl, rd, rfl⟩, hr, pb.mono fun k μ1 G1 H1 x1 hr1 p1 v' rv' => ⟨k, μ1, G1, x1, hr1, rv', p1⟩⟩)
    refine wpAny_bind (wpAny_mono (hbd u s (fun s' => wpAny (model X.prog X.w) A (forIn ur PUnit.unit body) (fun _ s' => R s') E s') (wpAny_mono call (fun kv s' hk => ?_) fun _ _ z => z)) (fun q s' hq => ?_) fun _ _ z => z)
    · obtain ⟨v', H', I', rv', k0, μ1, G1, x1, hr1, rk, p1⟩ := hk
      have I2 := inv_unrm I' h1 h2
      obtain ⟨g1', n2', _⟩ := I2.pin (kS, seqObj "list" (List.toArray du) e) (List.mem_append_right _ (List.mem_append_right _ (mem_pinsAt (by simp) g1)))
      obtain ⟨g2', n1', _⟩ := I2.pin (a, seqObj "list" #[] e1) (List.mem_append_right _ (List.mem_append_right _ (mem_pinsAt (by simp) g2)))
      rw [List.length_cons] at hl
      refine ⟨du, e, by omega, g1', ?_⟩
      have ea : (List.toArray du).push kv = List.toArray (du ++ [kv]) := by simp
      obtain ⟨c2, hc2⟩ : ∃ c2, (s'.heap.update kS (Obj.mapSeq (·.push kv))).get? kS = some (seqObj "list" (List.toArray (du ++ [kv])) c2) := ⟨_, by rw [← ea]; exact get?_update_seq g1' (·.push kv)⟩
      have I3 := inv_turned (h' := s'.heap.update kS (Obj.mapSeq (·.push kv))) (t' := s'.toks) (ch := [kS]) I2.unpinned (fun b hb => by rw [List.mem_singleton] at hb; subst hb; exact fk H' n2') (fun b o hb e => by
        rw [List.mem_singleton] at hb
        rw [Heap.get?_update_ne _ _ _ _ hb]; exact e)
      refine sk_fold hF hb hA h1 h2 fa fk ne hbd r rv ur (dn ++ [k0]) (dv ++ [v']) (du ++ [kv]) c2 μ1 G1 H' _ (rr.mono x1) rur (RepL.append (q1.mono x1) ⟨v', [], rfl, rk, rfl⟩) (q2.append (show Vals [v'] [kv] from .cons rv' .nil)) hr1 I3 hc2 (by rw [Heap.get?_update_ne _ _ _ _ ne]; exact g2') n1' n2' (by rw [List.length_append, List.length_singleton]; omega) ?_
      refine (Post.bind p1).mono fun ks μ2 G2 H2 x2 hr2 p2 s3 kv2 ku2 e2 x2' hr2' a1 a2 a3 a4 a5 a6 a7 => ?_
      exact Post.ok p2 hr2 s3 kv2 ku2 e2 (x1.trans x2) hr2 (by rw [List.append_assoc] at a1; exact a1) a2 a3 a4 a5 a6 a7
    · obtain ⟨rfl, hq⟩ := hq
      exact hq
end
end DL
set_option Elab.async false
set_option linter.all false
set_option maxRecDepth 100000
namespace DL
open PySem PySem.Spec L2
open PyProof.Rows hiding St
section
variable {X : Cx} {pins : List (Addr × Obj)} {σ : St} {H : Hp} {s : Shared}
theorem inv_adopt {h' : Heap} {t' : Nat} {ch : List Addr} {a : Addr} {ws : List V} (I : Inv X pins σ H s) (hf : ∀ b ∈ ch, FpOk X pins H b) (ha : a ∈ ch) (k : ∀ b o, b ∉ ch → s.heap.get? b = some o → h'.get? b = some o)
    (new : ObjOk X.prog X.w (upd H a (.lst ws)) h' a (.lst ws)) : Inv X pins σ (upd H a (.lst ws)) { s with heap := h', toks := t' } := by
  have hq : H a = none := (hf a ha).1
  have nch : ∀ b u, H b = some u → b ∉ ch := fun b u e z => by rw [(hf b z).1] at e; cases e
  refine I.step (g' := s.gens) (d' := s.drawn) (ch := ch) (fun b hb => ⟨(hf b hb).2.2.2.1, (hf b hb).2.1, (hf b hb).2.2.2.2.1, (hf b hb).2.2.2.2.2⟩) (fun b o _ _ hc e _ => k b o hc e) (fun b o _ _ hc e _ => ⟨o.slots, k b o hc e⟩)
    (fun b o hc e n => by rw [upd_ne (fun z => hc (by rw [z]; exact ha))]; exact n) (fun b o hc e => ⟨o, k b o hc e⟩) (fun b xs e => by rw [upd_ne (ne_of_none e hq)]; exact e) (fun b o u e => by rw [upd_ne (ne_of_none e hq)]; exact e)
    (fun b ps e => ⟨#[], by rw [upd_ne (ne_of_none e hq), e]; simp⟩) (fun m hm => ?_) (fun b u e => ?_) I.bare
  · obtain ⟨o, es, ep, ho, r⟩ := hm
    exact ⟨o, es, ep, k _ o (fun z => (hf _ z).2.1 rfl) ho, r⟩
  · by_cases hb : b = a
    · subst hb
      rw [upd_same] at e
      cases e
      exact new
    · rw [upd_ne hb] at e
      refine (I.hok b u e).stay (fun c v hc q => k c v ?_ q) (fun c q => by rw [upd_ne (ne_of_none q hq)]; exact q) fun c xs q => by rw [upd_ne (ne_of_none q hq)]; exact q
      rcases hc with z | z
      · rw [z]; exact nch b u e
      · exact nch c _ z
noncomputable def KeyAt (h : Heap) (u : Value) (q : Int × Str) : Prop := ∃ a t t', u = .ref a ∧ IsTup h a #[.int q.1 t, .str q.2 t']
theorem keys_at {μ : List Addr} (I : Inv X pins σ H s) : ∀ {ks : List D} {qs : List (Int × Str)} {kv : List V} {ku : List Value}, keysIS ks = some qs → RepL (wc X) μ H ks kv → Vals kv ku → qs.length = ku.length ∧ ∀ (i : Nat) (q : Int × Str), qs[i]? = some q → ∃ u, ku[i]? = some u ∧ KeyAt s.heap u q
  | [], qs, kv, ku, e, r, rv => by
    cases e; cases r; cases rv
    exact ⟨rfl, fun i q z => by simp at z⟩
  | d :: r, qs, kv, ku, e, rr, rv => by
    obtain ⟨v, tl, rfl, rd, rt⟩ := rr
    cases rv with
    | cons ru rur =>
    rename_i u ur
    unfold keysIS at e
    cases h1 : keyIS d with
    | none => rw [h1] at e; cases e
    | some a =>
      cases h2 : keysIS r with
      | none => rw [h1, h2] at e; cases e
      | some b =>
        rw [h1, h2] at e
        cases e
        obtain ⟨hl, hk⟩ := keys_at I h2 rt rur
        refine ⟨by simp [hl], fun i q z => ?_⟩
        cases i with
        | succ i => simpa using hk i q (by simpa using z)
        | zero =>
          simp at z
          subst z
          refine ⟨u, rfl, ?_⟩
          unfold keyIS at h1
          split at h1
          · rename_i n x
            cases h1
            unfold RepV at rd
            obtain ⟨ad, vs, rfl, q, rl⟩ := rd
            obtain ⟨v1, t1, rfl, e1, v2, t2, rfl, e2, e3⟩ := rl
            cases e3
            rw [repI e1, repS e2] at q
            cases ru
            obtain ⟨its, rvs, tp, _⟩ := I.tuple q
            cases rvs with
            | cons r1 rr1 =>
              cases rr1 with
              | cons r2 rr2 =>
                cases rr2
                obtain ⟨t, rfl⟩ := r1
                obtain ⟨t', rfl⟩ := r2
                exact ⟨ad, t, t', rfl, tp⟩
          · cases h1
end
section
variable {prog : Program} {w : World} {A : Around} {E : Value → Shared → Prop} {s : Shared} {C : Bool → Shared → Prop}
theorem key_lt {u u' : Value} {q q' : Int × Str} (hx : KeyAt s.heap u q) (hy : KeyAt s.heap u' q') (h : C (ltIS q q') s) : wpAny (model prog w) A (keyLt' (tuples' true) u u') C E s := by
  obtain ⟨a, t, t', rfl, o, ho, hc, n, hd⟩ := hx
  obtain ⟨b, v, v', rfl, o2, ho2, hc2, n2, hd2⟩ := hy
  refine PySem.W.kat_lt ho hd ho2 hd2 ?_
  show PySem.W.KatLex prog w A true _ C [(.int q.1 t, .int q'.1 v), (.str q.2 t', .str q'.2 v')] 0 s
  refine PySem.W.kat_cons (PySem.wpAny_eqBool_int (PySem.W.kat_go (fun e => ?_) fun e => ?_))
  · have e1 : q.1 = q'.1 := by simpa using e
    refine PySem.W.kat_yes (PySem.W.kat_cons (eqBool_str (PySem.W.kat_go (fun e => ?_) fun e => ?_)))
    · have e2 : q.2 = q'.2 := by simpa using e
      have eq : q = q' := Prod.ext e1 e2
      refine PySem.W.kat_yes (PySem.W.kat_nil ?_)
      rw [eq, ltIS_irr] at h
      exact h
    · refine PySem.W.kat_no (PySem.W.kat_one _ _ (PySem.P.lt_str ?_))
      unfold ltIS at h
      rw [if_pos e1] at h
      exact h
  · have e1 : ¬ q.1 = q'.1 := by simpa using e
    refine PySem.W.kat_no ?_
    show wpAny (model prog w) A (oneLt' true _ _) C _ s
    rw [← keyLt'_oneType]
    refine PySem.W.kat_lt_int ?_
    unfold ltIS at h
    rw [if_neg e1] at h
    exact h
theorem sk_tail {st : SortSt} {a kS : Addr} {e e1 : Nat} {ku out : List Value} {P : PySem.Fin → Shared → Prop} (hout : (arrOf st).map (·.2) = List.toArray out) (hz : out.length < 64) (hkz : ku.length < 64) (hf : failedOf st = none) (ho1 : s.heap.get? kS = some (seqObj "list" (List.toArray ku) e)) (ho2 : s.heap.get? a = some (seqObj "list" #[] e1)) (ne : a ≠ kS)
    (h : ∀ (h' : Heap) (e' : Nat), (∀ b o, b ∉ [a, kS] → s.heap.get? b = some o → h'.get? b = some o) → h'.get? a = some (seqObj "list" (List.toArray out) e') → P (.done (.ret .none)) { s with heap := h' }) : wpAny (model prog w) A (ksk_tail a false e1 (.ref kS) st) P E s := by
  have na : (s.heap.update kS (Obj.mapSeq fun _ => (#[] : Array Value))).get? a = some (seqObj "list" #[] e1) := by rw [Heap.get?_update_ne _ _ _ _ ne]; exact ho2
  obtain ⟨c2, hc2⟩ : ∃ c2, ((s.heap.update kS (Obj.mapSeq fun _ => (#[] : Array Value))).update a (Obj.mapSeq fun _ => List.toArray out)).get? a = some (seqObj "list" (List.toArray out) c2) := ⟨_, get?_update_seq na fun _ => List.toArray out⟩
  unfold ksk_tail
  try dsimp only
  rw [hout]
  refine wpAny_bind (listUpdate_at ho1 rfl ?_ (by rw [List.size_toArray, sizeLine_eq]; omega) (Nat.zero_le _))
  refine wpAny_bind (wpAny_letGo ?_)
  refine wpAny_bind (seqEpoch_at na rfl ?_)
  refine wpAny_bind (listUpdate_at na rfl ?_ (Nat.zero_le _) (Nat.le_trans (Nat.le_of_eq (List.size_toArray ..)) (by rw [sizeLine_eq]; omega)))
  rw [hf]
  simp only [bne_self_eq_false, Bool.false_eq_true, if_false]
  refine wpAny_pure (h _ c2 (fun b o hb eo => ?_) hc2)
  have hb' : b ≠ a ∧ b ≠ kS := by simpa using hb
  rw [Heap.get?_update_ne _ _ _ _ hb'.1, Heap.get?_update_ne _ _ _ _ hb'.2]
  exact eo
theorem sk_end {a kS : Addr} {e e1 : Nat} {ku vs : List Value} {qs : List (Int × Str)} {P : PySem.Fin → Shared → Prop} (hl : ku.length = vs.length) (h64 : vs.length < 64) (hq : qs.length = ku.length) (hk : ∀ (i : Nat) (q : Int × Str), qs[i]? = some q → ∃ u, ku[i]? = some u ∧ KeyAt s.heap u q) (nd : qs.Nodup)
    (ho1 : s.heap.get? kS = some (seqObj "list" (List.toArray ku) e)) (ho2 : s.heap.get? a = some (seqObj "list" #[] e1)) (ne : a ≠ kS)
    (h : ∀ (h' : Heap) (e' : Nat) (p : List Nat), p.Perm (List.range vs.length) → p.Pairwise (fun i j => ltIS (qs.getD i (0, "")) (qs.getD j (0, "")) = true) → (∀ b o, b ∉ [a, kS] → s.heap.get? b = some o → h'.get? b = some o) → h'.get? a = some (seqObj "list" (List.toArray (p.map fun i => vs.getD i Value.none)) e') → P (.done (.ret .none)) { s with heap := h' }) :
    wpAny (model prog w) A (ksk_end a false vs.toArray e1 (.ref kS) (List.toArray ku)) P E s := by
  unfold ksk_end
  try dsimp only
  simp only [Bool.false_eq_true, if_false]
  by_cases h2 : vs.toArray.size < 2
  · rw [if_pos h2, if_pos h2]
    refine wpAny_bind (wpAny_pure ?_)
    rw [StateT.run_pure]
    refine wpAny_bind (wpAny_pure ?_)
    dsimp only
    have hv : (arrOf (SortSt.mk' general' ((List.toArray ku).zip vs.toArray) #[] 7 none)).map (·.2) = List.toArray ((List.range vs.length).map fun i => vs.getD i Value.none) := by
      show ((List.toArray ku).zip vs.toArray).map (·.2) = _
      apply Array.toList_inj.mp
      rw [Array.toList_map]
      apply List.ext_getElem
      · simp [hl]
      · intro i hi hj
        simp at hi hj ⊢
        simp [hj]
    refine sk_tail hv (by simp; omega) (by omega) rfl ho1 ho2 ne fun h' e' k1 k2 => h h' e' _ (List.Perm.refl _) ?_ k1 k2
    have : vs.length < 2 := by simpa using h2
    match hn : vs.length, this with
    | 0, _ => simp
    | 1, _ => simp [List.range_succ]
  · rw [if_neg h2, if_neg h2]
    have hn2 : 2 ≤ vs.length := by simpa using h2
    let lt : Nat → Nat → Bool := fun i j => ltIS (qs.getD i (0, "")) (qs.getD j (0, ""))
    have gq : ∀ i, i < vs.length → qs[i]? = some (qs.getD i (0, "")) := fun i hi => by
      rw [List.getD_eq_getElem?_getD, List.getElem?_eq_getElem (by omega)]; rfl
    have O : OrdN lt vs.length := ⟨fun i j k h1 h2 => ltIS_tr h1 h2, fun i j hi hj hij h => ltIS_tot (fun ee => hij ?_) h⟩
    case refine_1 =>
      have e1 := gq i hi
      have e2 := gq j hj
      rw [ee] at e1
      have li : i < qs.length := by omega
      exact (List.getElem?_inj li nd).mp (e1.trans e2.symm)
    obtain ⟨fs, T, hfs, hT⟩ : ∃ fs : List Value, PySem.W.KatTups s.heap ku fs ∧ 0 < fs.length ∧ ∀ v ∈ fs, ∃ n t, v = .int n t := by
      have gen : ∀ (ku : List Value) (qs : List (Int × Str)), qs.length = ku.length → (∀ (i : Nat) (q : Int × Str), qs[i]? = some q → ∃ u, ku[i]? = some u ∧ KeyAt s.heap u q) → ∃ fs : List Value, PySem.W.KatTups s.heap ku fs ∧ fs.length = ku.length ∧ ∀ v ∈ fs, ∃ n t, v = .int n t := by
        intro ku
        induction ku with
        | nil => exact fun qs _ _ => ⟨[], trivial, rfl, fun v hv => by cases hv⟩
        | cons u r ih =>
          intro qs hl hk
          cases qs with
          | nil => simp at hl
          | cons q qr =>
            obtain ⟨u', e1, ad, t, t', rfl, o, ho, hc, n, hd⟩ := hk 0 q rfl
            simp at e1
            subst e1
            obtain ⟨fs, f1, f2, f3⟩ := ih qr (by simpa using hl) fun i q hq => by simpa using hk (i + 1) q (by simpa using hq)
            refine ⟨.int q.1 t :: fs, PySem.W.KatTups.cons ho hc hd rfl f1, by simp [f2], fun v hv => ?_⟩
            rcases List.mem_cons.mp hv with rfl | hv
            · exact ⟨_, _, rfl⟩
            · exact f3 v hv
      obtain ⟨fs, f1, f2, f3⟩ := gen ku qs hq hk
      exact ⟨fs, f1, by omega, f3⟩
    refine wpAny_bind (PySem.W.kat_kind (T := .type "int") T hfs (fun v hv => ?_) (by decide) ?_)
    · obtain ⟨n, t, rfl⟩ := hT v hv
      exact PySem.W.Looks.of_pure rfl
    · have run := tOk.wp (s := s) (cmp := PySem.W.kas_ask prog w A (tuples' (Value.type "int" != Value.type "tuple")) ku) (fun i j C hi hj hC => by
        obtain ⟨u, u1, u2⟩ := hk i _ (gq i hi)
        obtain ⟨v, v1, v2⟩ := hk j _ (gq j hj)
        unfold PySem.W.kas_ask
        rw [List.getD_eq_getElem?_getD, List.getD_eq_getElem?_getD, u1, v1]
        exact key_lt u2 v2 hC) _ (sort_ok O hn2)
      refine wpAny_bind (wpAny_mono (PySem.W.kat_run (Q := fun st' s' => ∃ p : Array Nat, p.size = vs.length ∧ arrOf st' = p.map (PySem.W.kas_item ((List.toArray ku).zip vs.toArray)) ∧ failedOf st' = none ∧ s' = s ∧ PermN p vs.length ∧ upTo lt p vs.length) hl hn2 h64 (fun p st' s' a1 a2 a3 a4 => ⟨p, a1, a2, a3, a4⟩) run) ?_ fun _ _ x => x)
      rintro ⟨⟨⟩, st'⟩ s' ⟨p, hp, har, hf, rfl, P1, U⟩
      try dsimp only
      refine sk_tail (PySem.W.kat_snds hl har) (by rw [List.length_map, Array.length_toList, hp]; exact h64) (by omega) hf ho1 ho2 ne fun h' e' k1 k2 => h h' e' p.toList P1.pm ?_ k1 k2
      rw [List.pairwise_iff_getElem]
      intro i j hi hj hij
      have hi' : i < p.size := by simpa using hi
      have hj' : j < p.size := by simpa using hj
      have := U i j hij (by omega)
      simpa [Array.getD, hi', hj', lt] using this
end
end DL
set_option Elab.async false
set_option linter.all false
set_option maxRecDepth 100000
namespace DL
open PySem PySem.Spec L2
open PyProof.Rows hiding St
section
variable {X : Cx} {Z : XC} {pins : List (Addr × Obj)} {σ : St} {H : Hp} {s : Shared} {F : List D → M D} {k : Nat} {f : Addr} {fd : FuncData} {ps : List Str} {μ : List Addr} {G : DH}
theorem perm_range {α : Type} {p : List Nat} {n : Nat} {l : List α} {d : α} (h : p.Perm (List.range n)) (hn : l.length = n) : (p.map fun i => l.getD i d).Perm l := by
  have e : (List.range n).map (fun i => l.getD i d) = l := by
    apply List.ext_getElem
    · simp [hn]
    · intro i hi hj
      simp [hj]
  have := h.map fun i => l.getD i d
  rw [e] at this
  exact this
theorem zip_at {qs : List (Int × Str)} {l : List D} {i : Nat} (h1 : i < qs.length) (h2 : i < l.length) : (qs.zip l).getD i ((0, ""), .non) = (qs[i], l[i]) := by
  rw [List.getD_eq_getElem?_getD, List.getElem?_eq_getElem (by simp; omega), List.getElem_zip]; rfl
theorem sorted_rep {qs : List (Int × Str)} {l : List D} {ws : List V} {vs : List Value} {p : List Nat} (hl : qs.length = l.length) (rl : RepL (wc X) μ H l ws) (rv : Vals ws vs) (nd : qs.Nodup) (hp : p.Perm (List.range vs.length)) (hs : p.Pairwise (fun i j => ltIS (qs.getD i (0, "")) (qs.getD j (0, "")) = true)) :
    ∃ ws', Vals ws' (p.map fun i => vs.getD i Value.none) ∧ RepL (wc X) μ H (sortIS qs l) ws' ∧ ws'.length = vs.length := by
  have hlv : l.length = vs.length := by rw [rl.length, rv.length]
  have hz : (qs.zip l).length = vs.length := by simp [hl, hlv]
  have e := sortIS_eq (l := l) nd (z := p.map fun i => (qs.zip l).getD i ((0, ""), .non)) (perm_range hp hz) (by
    rw [List.pairwise_map]
    refine hs.imp_of_mem fun {i j} hi hj h => ?_
    have li : i < vs.length := by simpa using hp.mem_iff.mp hi
    have lj : j < vs.length := by simpa using hp.mem_iff.mp hj
    have ei : ((qs.zip l).getD i ((0, ""), .non)).1 = qs.getD i (0, "") := by rw [zip_at (by omega) (by omega), List.getD_eq_getElem?_getD, List.getElem?_eq_getElem (by omega)]; rfl
    have ej : ((qs.zip l).getD j ((0, ""), .non)).1 = qs.getD j (0, "") := by rw [zip_at (by omega) (by omega), List.getD_eq_getElem?_getD, List.getElem?_eq_getElem (by omega)]; rfl
    unfold leIS
    rw [ei, ej]
    simp only [Bool.not_eq_true']
    refine Bool.eq_false_iff.mpr fun h2 => ?_
    have := ltIS_tr h h2
    rw [ltIS_irr] at this; cases this)
  rw [List.map_map] at e
  have main : ∀ p : List Nat, (∀ i ∈ p, i < vs.length) → ∃ ws', Vals ws' (p.map fun i => vs.getD i Value.none) ∧ RepL (wc X) μ H (p.map fun i => ((qs.zip l).getD i ((0, ""), .non)).2) ws' ∧ ws'.length = p.length := by
    intro p
    induction p with
    | nil => exact fun _ => ⟨[], .nil, rfl, rfl⟩
    | cons i r ih =>
      intro hi
      obtain ⟨ws', a1, a2, a3⟩ := ih fun j hj => hi j (List.mem_cons_of_mem _ hj)
      have li := hi i (by simp)
      obtain ⟨v, e1, r1⟩ := rl.get (i := i) (d := l[i]'(by omega)) (List.getElem?_eq_getElem (by omega))
      obtain ⟨u, e2, r2⟩ := rv.get e1
      refine ⟨v :: ws', ?_, ⟨v, ws', rfl, ?_, a2⟩, by simp [a3]⟩
      · have : vs.getD i Value.none = u := by rw [List.getD_eq_getElem?_getD, e2]; rfl
        rw [List.map_cons, this]
        exact .cons r2 a1
      · have : ((qs.zip l).getD i ((0, ""), .non)).2 = l[i]'(by omega) := by rw [zip_at (by omega) (by omega)]
        show RepV (wc X) μ H (((qs.zip l).getD i ((0, ""), .non)).2) v
        rw [this]
        exact r1
  obtain ⟨ws', a1, a2, a3⟩ := main p fun i hi => by simpa using hp.mem_iff.mp hi
  exact ⟨ws', a1, by rw [← e]; exact a2, by rw [a3, hp.length_eq]; simp⟩
theorem sk_call {u : Value} {l : List D} {Q : VK} (hF : FnOk X.prog X.w X.K X.mg X.base CX0 k f fd ps (spD (wc X) 1 F)) (hb : Binds X.K fd ps []) (hrm : Room (k + 2) X.A) (I : Inv X pins σ H s) (hr : HRep (wc X) μ G H) (h64 : l.length < 64)
    (hcol : ∀ (Q' : List Value → Shared → Prop), (∀ (h1 : Heap) (tk : Nat) (vs : List Value) (ws : List V), (∀ b o, s.heap.get? b = some o → h1.get? b = some o) → Vals ws vs → RepL (wc X) μ H l ws → Q' vs { s with heap := h1, toks := tk }) → wpAny (model X.prog X.w) X.A.in1 (collect u) Q' X.xe s)
    (p : Post (wc X) Z μ H (sortKs F l G) (fun d μ' _ H' => ∀ v, RepV (wc X) μ' H' d v → Q v H')) : wpAny (model X.prog X.w) X.A (call (.builtin "sorted") [u] [(Str.ofString "key", .ref f)]) (EP X pins σ Q) X.xe s := by
  refine call_function_entry_kw kind_sorted plain_sorted entry_sorted (ksk_s1 _ _) ?_
  unfold Builtin.«sorted»
  refine wpAny_bind (m := checkCount "sorted" 1 1 _) (wpAny_pure ?_)
  refine wpAny_bind (hcol _ fun h1 tk vs ws k1 rv rl => ?_)
  have hlv : l.length = vs.length := by rw [rl.length, rv.length]
  refine wpAny_bind (wpAny_newList ?_ (by rw [sizeLine_eq]; omega))
  have I1 : Inv X pins σ H { s with heap := h1, toks := tk } := I.kept k1
  have hoL : (h1.push (seqObj "list" vs.toArray 0)).get? h1.objs.size = some (seqObj "list" vs.toArray 0) := Heap.get?_push_size _ rfl
  refine wpAny_bind (wpAny_holding (wpAny_call_entry_kw slot_list_sort ⟨_, hoL, rfl⟩ entry_list_sort ?_ (ksk_l1 _ _)))
  show wpAny (model X.prog X.w) X.A.in1.in1 (Builtin.«list.sort» ⟨[.ref h1.objs.size], [(Str.ofString "key", .ref f)]⟩) _ _ _
  rw [ksk_t1]
  unfold ksk_tree
  refine wpAny_bind (listItems_at hoL rfl ?_)
  refine wpAny_bind (listUpdate_at hoL rfl ?_ (by rw [List.size_toArray, sizeLine_eq]; omega) (Nat.zero_le _))
  obtain ⟨e1, ho1⟩ : ∃ e1, ((h1.push (seqObj "list" vs.toArray 0)).update h1.objs.size (Obj.mapSeq fun _ => (#[] : Array Value))).get? h1.objs.size = some (seqObj "list" #[] e1) := ⟨_, get?_update_seq hoL fun _ => #[]⟩
  refine wpAny_bind (seqEpoch_at ho1 rfl ?_)
  refine wpAny_bind (wpAny_newTuple ?_ (by show vs.length ≤ _; rw [sizeLine_eq]; omega))
  refine wpAny_bind (wpAny_newList ?_ (Nat.zero_le _))
  refine wpAny_holding ?_
  have hsz : ((h1.push (seqObj "list" vs.toArray 0)).update h1.objs.size (Obj.mapSeq fun _ => (#[] : Array Value))).objs.size = h1.objs.size + 1 := by rw [Heap.size_update, size_push']
  have hkS : (((h1.push (seqObj "list" vs.toArray 0)).update h1.objs.size (Obj.mapSeq fun _ => (#[] : Array Value))).push (seqObj "tuple" vs.toArray 0)).objs.size = h1.objs.size + 2 := by rw [size_push', hsz]
  have keep : ∀ b o, h1.get? b = some o → ((((h1.push (seqObj "list" vs.toArray 0)).update h1.objs.size (Obj.mapSeq fun _ => (#[] : Array Value))).push (seqObj "tuple" vs.toArray 0)).push (seqObj "list" #[] 0)).get? b = some o := fun b o q => by
    have hlt : b < h1.objs.size := Heap.lt_size q
    rw [Heap.get?_push_ne _ _ _ (by rw [hkS]; exact Nat.ne_of_lt (Nat.lt_succ_of_lt (Nat.lt_succ_of_lt hlt))), Heap.get?_push_ne _ _ _ (by rw [hsz]; exact Nat.ne_of_lt (Nat.lt_succ_of_lt hlt)), Heap.get?_update_ne _ _ _ _ (Nat.ne_of_lt hlt), Heap.get?_push_ne _ _ _ (Nat.ne_of_lt hlt)]
    exact q
  have I2 : Inv X pins σ H { s with heap := (((h1.push (seqObj "list" vs.toArray 0)).update h1.objs.size (Obj.mapSeq fun _ => (#[] : Array Value))).push (seqObj "tuple" vs.toArray 0)).push (seqObj "list" #[] 0), toks := tk } := I1.kept keep
  have na : H h1.objs.size = none := I1.hok.fresh (Nat.le_refl _)
  have nk : H (h1.objs.size + 2) = none := I1.hok.fresh (Nat.le_add_right _ _)
  have ga : ((((h1.push (seqObj "list" vs.toArray 0)).update h1.objs.size (Obj.mapSeq fun _ => (#[] : Array Value))).push (seqObj "tuple" vs.toArray 0)).push (seqObj "list" #[] 0)).get? h1.objs.size = some (seqObj "list" #[] e1) := Heap.get?_push_of_some _ (Heap.get?_push_of_some _ ho1)
  have gk : ((((h1.push (seqObj "list" vs.toArray 0)).update h1.objs.size (Obj.mapSeq fun _ => (#[] : Array Value))).push (seqObj "tuple" vs.toArray 0)).push (seqObj "list" #[] 0)).get? (h1.objs.size + 2) = some (seqObj "list" (List.toArray []) 0) := by
    rw [← hkS]; exact Heap.get?_push_size _ rfl
  have fa : ∀ H' : Hp, H' h1.objs.size = none → FpOk X pins H' h1.objs.size := fun H' hn => I1.fpOk (Nat.le_refl _) hn
  have fk : ∀ H' : Hp, H' (h1.objs.size + 2) = none → FpOk X pins H' (h1.objs.size + 2) := fun H' hn => I1.fpOk (Nat.le_add_right _ _) hn
  have ne : h1.objs.size ≠ h1.objs.size + 2 := by omega
  unfold sortKs at p
  have pk : Post (wc X) ZF μ H (keysM F l G) (fun ks μ' G' H' => ks.length = l.length ∧ Post (wc X) Z μ' H' ((optM (keysIS ks) >>= fun qs => if qs.Nodup then allocM (.lst (sortIS qs l)) else M.stuck) G') (fun d μ' _ H' => ∀ v, RepV (wc X) μ' H' d v → Q v H')) := by
    have q := Post.bind p
    have hkl : ∀ (l : List D) (G : DH) (ks : List D) (G' : DH), keysM F l G = some (.ok ks, G') → ks.length = l.length := by
      intro l
      induction l with
      | nil => intro G ks G' z; cases z; rfl
      | cons d r ih =>
        intro G ks G' z
        unfold keysM at z
        rw [M.bind_eq] at z
        match h : noX (F [d]) G, z with
        | some (.ok kk, G1), z =>
          dsimp only at z
          rw [M.bind_eq] at z
          match h2 : keysM F r G1, z with
          | some (.ok ks, G2), z =>
            cases z
            simp [ih _ _ _ h2]
    have kne : ∀ (l : List D) (G : DH) (x : Str) (G' : DH), keysM F l G ≠ some (.error x, G') := by
      intro l
      induction l with
      | nil => intro G x G' z; cases z
      | cons d r ih =>
        intro G x G' z
        unfold keysM at z
        rw [M.bind_eq] at z
        have nx : ∀ x G', noX (F [d]) G ≠ some (.error x, G') := fun x G' z => by
          unfold noX at z
          try dsimp only at z
          split at z <;> cases z
        match h : noX (F [d]) G, z with
        | some (.error y, G1), z => exact nx _ _ h
        | some (.ok kk, G1), z =>
          dsimp only at z
          rw [M.bind_eq] at z
          match h2 : keysM F r G1, z with
          | some (.error y, G2), z => exact ih _ _ _ h2
          | some (.ok ks, G2), z => cases z
    match hh : keysM F l G, q with
    | some (.ok ks, G1), q => exact fun μ' H' x h => ⟨hkl _ _ _ _ hh, q μ' H' x h⟩
    | some (.error x, G1), q => exact (kne _ _ _ _ hh).elim
  rw [hkS]
  show wpAny (model X.prog X.w) X.A.in1.in1 (ksk_rest h1.objs.size (.ref f) false vs.toArray e1 (.ref (h1.objs.size + 2))) _ _ _
  unfold ksk_rest
  refine wpAny_bind (wpAny_rule ?_)
  first
    | rw [List.forIn_toArray]
    | (rw [← Array.forIn_toList]; simp only [List.toList_toArray])
    | rw [← Array.forIn_toList]
  refine wpAny_bind (sk_fold (X := X) (pins := pins) (σ := σ) (A := X.A.in1.in1) hF hb hrm.in1.in1 rfl rfl fa fk ne (fun x s0 R hx => ?_) l ws vs [] [] [] 0 μ G H _ rl rv rfl .nil hr I2 gk ga na nk (by simp; omega) ?_)
  · refine wpAny_bind (wpAny_attempt (wpAny_mono hx (fun kv s'' hk => ?_) fun _ _ hF => hF.elim))
    obtain ⟨ks, e, hks, g, hR⟩ := hk
    try dsimp only
    refine wpAny_bind (listUpdate_at g rfl ?_ (by rw [List.size_toArray, sizeLine_eq]; omega) (Nat.le_trans (Nat.le_of_eq (Array.size_push ..)) (by rw [List.size_toArray, sizeLine_eq]; omega)))
    exact wpAny_pure ⟨rfl, hR⟩
  · refine pk.mono fun ks μ' G' H' x1 hr1 ⟨hks, p1⟩ s' kv ku e' _ _ q1 q2 I' g1 g2 n1 n2 => ?_
    rw [List.nil_append] at q1
    obtain ⟨qs, eq, p2⟩ := optM_post p1
    split at p2
    case isFalse => exact p2.elim
    rename_i nd
    obtain ⟨hl1, hk1⟩ := keys_at I' eq q1 q2
    try dsimp only
    refine wpAny_bind (listItems_at g1 rfl ?_)
    have hkv : ku.length = vs.length := by
      rw [← q2.length, ← q1.length, hks, hlv]
    refine sk_end hkv (by omega) hl1 hk1 nd g1 g2 ne fun h' e2 pp hp hs keep2 gg => ?_
    have rl' : RepL (wc X) μ' H' l ws := rl.mono x1
    obtain ⟨ws', a1, a2, a3⟩ := sorted_rep (by rw [hl1, hkv, hlv]) rl' rv nd hp hs
    refine ⟨_, rfl, wpAny_pure ⟨_, rfl, .ref h1.objs.size, upd H' h1.objs.size (.lst ws'), inv_adopt (t' := s'.toks) (ch := [h1.objs.size, h1.objs.size + 2]) I' (fun b hb => ?_) (by simp) keep2 ⟨by rw [a3, sizeLine_eq]; omega, _, e2, a1, gg⟩, rfl, post_lst hr1 a2 p2 _ n1⟩⟩
    rcases List.mem_cons.mp hb with rfl | hb
    · exact fa _ n1
    · rw [List.mem_singleton] at hb; subst hb; exact fk _ n2
theorem sk_src {v : V} {u : Value} {d : D} {Q : VK} (hc : X.calm = true) (hF : FnOk X.prog X.w X.K X.mg X.base CX0 k f fd ps (spD (wc X) 1 F)) (hb : Binds X.K fd ps []) (hrm : Room (k + 2) X.A) (I : Inv X pins σ H s) (hr : HRep (wc X) μ G H) (rd : RepV (wc X) μ H d v) (ru : RelV v u)
    (p : Post (wc X) Z μ H (sortKD F d G) (fun d μ' _ H' => ∀ v, RepV (wc X) μ' H' d v → Q v H')) : wpAny (model X.prog X.w) X.A (call (.builtin "sorted") [u] [(Str.ofString "key", .ref f)]) (EP X pins σ Q) X.xe s := by
  have seq : ∀ {a : Addr} {T : String} {o : Obj} {its : List Value} {vs : List V} {n : Nat} {l : List D}, (T = "list" ∨ T = "tuple") → s.heap.get? a = some o → o.cls = .type T → o.data = .seq its.toArray n → Vals vs its → RepL (wc X) μ H l vs → vs.length ≤ sizeLine →
      Post (wc X) Z μ H ((if l.length < 64 then sortKs F l else M.stuck : M D) G) (fun d μ' _ H' => ∀ v, RepV (wc X) μ' H' d v → Q v H') → wpAny (model X.prog X.w) X.A (call (.builtin "sorted") [.ref a] [(Str.ofString "key", .ref f)]) (EP X pins σ Q) X.xe s := by
    intro a T o its vs n l hT h1 h2 h3 rv rl hz p
    split at p
    case isFalse => exact p.elim
    rename_i h64
    refine sk_call hF hb hrm I hr h64 (fun Q' hQ => wpAny_collect_seq a hT h1 h2 h3 (fun h' kk => ?_) (by rw [List.size_toArray, ← rv.length]; exact hz)) p
    exact hQ h' s.toks its vs kk rv rl
  unfold sortKD at p
  split at p
  · rename_i l
    unfold RepV at rd
    obtain ⟨a, vs, rfl, q, rl⟩ := rd
    cases ru
    obtain ⟨its, rv, ⟨o, h1, h2, n, h3⟩, hz⟩ := I.tuple q
    exact seq (.inr rfl) h1 h2 h3 rv rl hz p
  · rename_i i
    unfold RepV at rd
    obtain ⟨a, m, rfl⟩ := rd
    cases ru
    obtain ⟨o, g, p1⟩ := objM_post p
    have ro := hr.obj i o a g m
    cases o with
    | lst l =>
      obtain ⟨vs, q, rl⟩ := ro
      obtain ⟨its, rv, pl, hz⟩ := I.list (SqL.of q)
      obtain ⟨o, h1, h2, n, h3⟩ := pl.isList
      exact seq (.inl rfl) h1 h2 h3 rv rl hz p1
    | dct l =>
      obtain ⟨kvs, q, rk⟩ := ro
      obtain ⟨ss, es, p2⟩ := optM_post p1
      split at p2
      case isFalse => exact p2.elim
      rename_i h64
      obtain ⟨z, hd, vs, rel, dd⟩ := dk_of I.hok q
      obtain ⟨ep, hat⟩ := dd.dictAt
      have hn : vs.length = ss.length := by rw [keyStrs_len es, ← rel.length, ← rk.length]
      refine sk_call hF hb hrm I hr (l := ss.map .str) (by simpa using h64) (fun Q' hQ => PySem.W.kdu_collect (PySem.W.kdl_dict (knd := mixKind X.prog X.w) (kvs := vs) (ep := ep) hd) (I.ok.hd hc) hat (by rw [sizeLine_eq]; omega) fun h1 tk acc hk hacc => ?_) p2
      have hS : StrsAre acc.toList ss := keyStrs_vals es rk rel (by rw [Array.length_toList]; exact hacc.1) fun j v e => hacc.2 j v (by rw [← Array.getElem?_toList]; exact e)
      obtain ⟨ws, ew, rv, rl2⟩ := strs_rep (c := wc X) (μ := μ) (H := H) hS
      exact hQ h1 tk acc.toList ws hk rv rl2
    | rol l => exact p1.elim
    | rod l => exact p1.elim
  · exact p.elim
end
section
variable {X : Cx} {Z : XC} {e : Expr} {fe : Fe} {p pf kp pos : Pos} {x : Str} {F : List D → M D}
theorem de_sortK (hc : X.calm = true) (hF : ∃ k kk, CalleeOk F 1 x X.prog X.w X.K X.mg X.base k ∧ Room kk X.A ∧ k + 2 ≤ kk) (hbl : BLs X.mg) (hgs : Gl X "sorted") (hg : Gl X x) (he : DE X Z e fe) (hs : notStar e = true) (hdb : (x == ("__debug__" : Str)) = false) :
    DE X Z (.Call (.Name "sorted" p) [e] [⟨some "key", .Name x pf, kp⟩] pos) (sortKE F fe) := ⟨by
  intro pins s σ H Q I h
  obtain ⟨k, kk, hF, hrm, hk⟩ := hF
  obtain ⟨f, fd, ps, f1, f2, f3, f4⟩ := hF.ex
  have hbs : bootBuiltins ("sorted" : Str) = some (.builtin "sorted") := bt_sorted
  refine wpAny_Call_Name_kw (ld_blt I hgs (hbl.h _ (by decide +kernel)) hbs ?_ (by decide) (by decide))
  obtain ⟨dσ, μ, G, sr, hr, pp⟩ := h
  unfold sortKE at pp
  have pa := Post.bind pp
  have hst : starEach [e] X.env = (false, eval e X.env) :: starEach [] X.env := star_one hs
  refine callWith_builtin_kwB (by rw [any_backTo]; exact star_all (by rw [List.all_cons, hs]; rfl)) rfl (evalArgs_kw2 rfl ?_ hst)
  have ha : DA X Z [e] (q10 fe q11) := q15 he q16 hst
  refine thn (ha.h pos pins s σ H (fun vs H1 => ∃ v d μ1 G1, vs = [v] ∧ RepV (wc X) μ1 H1 d v ∧ HRep (wc X) μ1 G1 H1 ∧ Post (wc X) Z μ1 H1 (sortKD F d G1) (fun d μ' _ H' => ∀ v, RepV (wc X) μ' H' d v → Q v H')) I ?_) fun us s1 ⟨vs, H1, I1, r1, v, d, μ1, G1, e1, rd, hr1, p1⟩ => ?_
  · refine ⟨dσ, μ, G, sr, hr, ?_⟩
    show Post (wc X) Z μ H ((fe dσ >>= fun y => (pure [y] : M (List D))) G) _
    match hm : fe dσ G, pa with
    | some (.ok y, G1), pa =>
      rw [M.bind_ok hm]
      intro μ' H' x1 h1 vs rv
      obtain ⟨v, ev, rv2⟩ := rep1 rv
      subst ev
      exact ⟨v, y, μ', G1, rfl, rv2, h1, pa μ' H' x1 h1⟩
    | some (.error y, G1), pa =>
      rw [M.bind_eq, hm]
      exact pa
  · subst e1
    obtain ⟨u, rfl, ru⟩ := vals1 r1
    show wpAny _ _ (evalAll [(do let v ← eval (.Name x pf) X.env; standAt pos; pure v)]) _ _ s1
    refine wpAny_evalAll_cons (wpAny_bind (ld_glob I1 hg f2 (wpAny_bind (wpAny_standAt (wpAny_pure (wpAny_evalAll_nil ?_)))) hdb))
    exact sk_src hc f1 f4 (hrm.mono hk) I1 hr1 rd ru p1⟩
end
end DL
set_option Elab.async false
set_option linter.all false
set_option maxRecDepth 100000
namespace DL
open PySem PySem.Spec L2
open PyProof.Rows hiding St
noncomputable def CR (K : PySem.W.Frag) (mg : Str → Option Value) (d : D) (u : Value) : Prop := ∃ v, RelV v u ∧ ∀ μ H, RepV ⟨K, mg⟩ μ H d v
noncomputable def CRL (K : PySem.W.Frag) (mg : Str → Option Value) (l : List D) (us : List Value) : Prop := ∃ vs, Vals vs us ∧ ∀ μ H, RepL ⟨K, mg⟩ μ H l vs
section
variable {K : PySem.W.Frag} {mg : Str → Option Value}
theorem cr_str {x : Str} {t : Tok} : CR K mg (.str x) (.str x t) := ⟨.str x, ⟨t, rfl⟩, fun μ H => by unfold RepV; rfl⟩
theorem cr_non : CR K mg .non .none := ⟨.non, rfl, fun μ H => by unfold RepV; rfl⟩
theorem crl_nil : CRL K mg [] [] := ⟨[], .nil, fun _ _ => rfl⟩
theorem crl_cons {d : D} {l : List D} {u : Value} {us : List Value} (h : CR K mg d u) (t : CRL K mg l us) : CRL K mg (d :: l) (u :: us) := by
  obtain ⟨v, r, h⟩ := h
  obtain ⟨vs, rs, t⟩ := t
  exact ⟨v :: vs, .cons r rs, fun μ H => ⟨v, vs, rfl, h μ H, t μ H⟩⟩
theorem cr_tup {a : Addr} {l : List D} {us : List Value} {n : Nat} {sl : Array (Option Value)} (hl : K.lookup a = some ⟨.type "tuple", none, .seq us.toArray n, sl⟩) (hz : Nat.ble us.length 100 = true) (h : CRL K mg l us) : CR K mg (.tup l) (.ref a) := by
  obtain ⟨vs, rs, t⟩ := h
  refine ⟨.ref a, rfl, fun μ H => ?_⟩
  unfold RepV
  refine ⟨a, vs, rfl, .inr ⟨_, us.toArray, n, hl, rfl, rfl, ?_, rs⟩, t μ H⟩
  rw [List.size_toArray]
  exact Nat.le_trans (Nat.le_of_ble_eq_true hz) (by decide)
end
structure CstOk (K : PySem.W.Frag) (mg : Str → Option Value) (x : Str) (d : D) : Prop where
  ex : ∃ u, mg x = some u ∧ CR K mg d u
section
variable {X : Cx} {Z : XC} {pos : Pos} {x : Str} {d : D}
theorem de_cst (hc : CstOk X.K X.mg x d) (hg : Gl X x) (hdb : (x == ("__debug__" : Str)) = false) : DE X Z (.Name x pos) (cE d) := ⟨by
  intro pins s σ H Q I ⟨dσ, μ, G, sr, hr, p⟩
  obtain ⟨u, hm, v, ru, rv⟩ := hc.ex
  exact ld_glob I hg hm ⟨v, H, I, ru, Post.ok p hr v (rv μ H)⟩ hdb⟩
end
noncomputable def isStrM : D → M Unit := fun x => match x with
  | .str _ => pure ()
  | _ => M.stuck
section
variable {X : Cx} {Z : XC} {o e : Expr} {es : List Expr} {fo : Fe} {fs : DSt → M (List D)} {name : Str} {id : String} {mm : D → List D → M D} {apos cpos : Pos}
theorem isStr_post {α : Type} {c : Wc} {μ : List Addr} {H : Hp} {G : DH} {d : D} {v : V} {f : Unit → M α} {K : α → List Addr → DH → Hp → Prop} (r : RepV c μ H d v) (p : Post c Z μ H ((isStrM d >>= f) G) K) : tyV c.K "str" v H ∧ Post c Z μ H (f () G) K := by
  cases d with
  | str x => rw [repS r]; exact ⟨rfl, p⟩
  | _ => exact p.elim
theorem de_mtS (slot : Slot "str" name id) (hty : typeOf (.builtin id) = pure (.type "method_descriptor")) (hm : MtD X Z id mm) (ho : DE X Z o fo) (ha : DA X Z (e :: es) fs)
    (hbase : attributeBase o name X.env (eval o X.env) = eval o X.env)
    (hfew : ((backTo cpos (starEach (e :: es) X.env)).all (fun x => !x.1) && (backToKw cpos (keywordEach [] X.env)).all (fun x => x.1.isSome)
      && decide ((e :: es).length + ([] : List Keyword).length + (if ([] : List Keyword).isEmpty then 0 else 1) < 30)) = true)
    (hline : (apos.endLine == cpos.line) = true) (hs : starEach (e :: es) X.env = (false, eval e X.env) :: starEach es X.env) (hplain : (backTo cpos (starEach es X.env)).any (·.1) = false) :
    DE X Z (.Call (.Attribute o name apos) (e :: es) [] cpos) (mtE isStrM mm fo fs) :=
  DE.of (pe_bm PySem.F.plainAttrs_str slot hty hm ho.h ha.h hbase hfew hline hs hplain) fun σ H Q ⟨dσ, μ, G, s, h, p⟩ => ⟨dσ, μ, G, s, h, (Post.bind p).mono fun d μ1 G1 H1 x1 h1 p1 v rv => by
    obtain ⟨ty, p2⟩ := isStr_post rv p1
    exact ⟨ty, dσ, μ1, G1, s.mono x1, h1, (Post.bind p2).mono fun ds μ2 G2 H2 x2 h2 p3 vs rvs => ⟨d, ds, μ2, G2, rv.mono x2, rvs, h2, p3⟩⟩⟩
end
noncomputable def joinL (sep : Str) (l : List D) : M D := do
  let ss ← optM (strsOf l)
  if (ss.map (·.length)).sum + ss.length * sep.length ≤ 16777216 then pure (.str (Txt.join sep ss)) else M.stuck
noncomputable def joinD : D → List D → M D := fun x ds => match x, ds with
  | .str sep, [.tup l] => joinL sep l
  | .str sep, [.ref r] => do
    match ← objM r with
    | .lst l => joinL sep l
    | _ => M.stuck
  | _, _ => M.stuck
section
variable {X : Cx} {Z : XC}
theorem md_join : MtD X Z "str.join" joinD := by
  intro pins s σ H x xs v us Q I rx rvs ⟨d, ds, μ, G, rd, rl, hr, p⟩
  unfold joinD at p
  split at p
  · rename_i sep l
    rw [repS rd] at rx
    obtain ⟨t, rfl⟩ := rx
    obtain ⟨v1, rfl, rv1⟩ := rep1 rl
    obtain ⟨u, rfl, ru⟩ := vals1 rvs
    unfold RepV at rv1
    obtain ⟨a, vs, rfl, q, rl'⟩ := rv1
    cases ru
    obtain ⟨its, rv, tp, hz⟩ := I.tuple q
    unfold joinL at p
    obtain ⟨ss, es, p2⟩ := optM_post p
    split at p2
    case isFalse => exact p2.elim
    rename_i hok
    exact join_tuple tp (strs_are es rl' rv) hok fun t' k => ⟨.str (Txt.join sep ss), H, I.tok k, ⟨t', rfl⟩, Post.ok p2 hr _ (by unfold RepV; rfl)⟩
  · rename_i sep r
    rw [repS rd] at rx
    obtain ⟨t, rfl⟩ := rx
    obtain ⟨v1, rfl, rv1⟩ := rep1 rl
    obtain ⟨u, rfl, ru⟩ := vals1 rvs
    unfold RepV at rv1
    obtain ⟨a, m, rfl⟩ := rv1
    cases ru
    obtain ⟨o, g, p1⟩ := objM_post p
    have ro := hr.obj r o a g m
    cases o with
    | lst l =>
      obtain ⟨vs, q, rl'⟩ := ro
      obtain ⟨its, rv, pl, hz⟩ := I.list (SqL.of q)
      unfold joinL at p1
      obtain ⟨ss, es, p2⟩ := optM_post p1
      split at p2
      case isFalse => exact p2.elim
      rename_i hok
      exact join_list pl.isList (strs_are es rl' rv) hok fun t' k => ⟨.str (Txt.join sep ss), H, I.tok k, ⟨t', rfl⟩, Post.ok p2 hr _ (by unfold RepV; rfl)⟩
    | dct l => exact p1.elim
    | rol l => exact p1.elim
    | rod l => exact p1.elim
  · exact p.elim
end
end DL
namespace W
open PySem PySem.Spec L2 DL
open PyProof.Rows hiding St
section
variable {G : DH} {σ : DSt} {Q : D → DH → Prop}
theorem isStr_wp {z : Str} {R : Unit → DH → Prop} : Wp (isStrM (.str z)) G R ↔ R () G := wp_pure
theorem join_lst {sep : Str} {r : Nat} {l : List D} {ss : List Str} (e : G[r]? = some (.lst l)) (hs : strsOf l = some ss) (hok : (ss.map (·.length)).sum + ss.length * sep.length ≤ 16777216) : Wp (joinD (.str sep) [.ref r]) G Q ↔ Q (.str (Txt.join sep ss)) G := by
  have h : joinD (.str sep) [.ref r] = (do
    match ← objM r with
    | .lst l => joinL sep l
    | _ => M.stuck) := rfl
  rw [h]
  simp only [wp_bind, wp_obj, e, someI, joinL, wp_opt, hs, if_pos hok, wp_pure]
end
end W
set_option Elab.async false
set_option linter.all false
set_option maxRecDepth 100000
namespace DL
open PySem PySem.Spec L2
open PyProof.Rows hiding St
noncomputable def pickI (n : Nat) (lo hi st : Option Int) : List Nat := sliceRange (sliceBounds lo hi st n).1 (sliceBounds lo hi st n).2.1 (sliceBounds lo hi st n).2.2
noncomputable def pickD (l : List D) (lo hi st : Option Int) : List D := (pickI l.length lo hi st).filterMap (l[·]?)
noncomputable def sl3D : D → Option Int → Option Int → Option Int → M D := fun x lo hi st => match x with
  | .ref r => do
    let l ← objM r >>= listOf
    if st = some 0 then M.stuck else allocM (.lst (pickD l lo hi st))
  | _ => M.stuck
noncomputable def slice3E (f : Fe) (lo hi st : Fo) : Fe := fun σ => do
  let x ← f σ
  let l ← lo σ
  let h ← hi σ
  let s ← st σ
  sl3D x l h s
section
variable {X : Cx} {Z : XC} {c : Wc} {μ : List Addr} {H : Hp}
theorem RepL.pick {l : List D} {vs : List V} (h : RepL c μ H l vs) : ∀ is : List Nat, RepL c μ H (is.filterMap (l[·]?)) (is.filterMap (vs[·]?))
  | [] => rfl
  | i :: r => by
    have ih := RepL.pick h r
    rw [List.filterMap_cons, List.filterMap_cons]
    by_cases hi : i < l.length
    · have e : l[i]? = some l[i] := List.getElem?_eq_getElem hi
      obtain ⟨v, e2, r2⟩ := h.get e
      rw [e, e2]
      exact ⟨v, _, rfl, r2, ih⟩
    · have hi2 : vs.length ≤ i := by rw [← h.length]; omega
      rw [List.getElem?_eq_none (by omega), List.getElem?_eq_none hi2]
      exact ih
theorem vals_pick {vs : List V} {us : List Value} (h : Vals vs us) : ∀ is : List Nat, Vals (is.filterMap (vs[·]?)) (is.filterMap (us[·]?))
  | [] => .nil
  | i :: r => by
    have ih := vals_pick h r
    rw [List.filterMap_cons, List.filterMap_cons]
    by_cases hi : i < vs.length
    · have e : vs[i]? = some vs[i] := List.getElem?_eq_getElem hi
      obtain ⟨v, e2, r2⟩ := h.get e
      rw [e, e2]
      exact .cons r2 ih
    · have hi2 : us.length ≤ i := by rw [← h.length]; omega
      rw [List.getElem?_eq_none (by omega), List.getElem?_eq_none hi2]
      exact ih
variable {e t : Expr} {lo hi : Option Expr} {fa : Fe} {fl fh ft : Fo} {p2 pos : Pos}
theorem de_slice3 (he : DE X Z e fa) (hl : DOp X Z lo fl) (hu : DOp X Z hi fh) (ht : DOp X Z (some t) ft) : DE X Z (.Subscript e (.Slice lo hi (some t) p2) pos) (slice3E fa fl fh ft) := ⟨by
  intro pins s σ H Q I ⟨dσ, μ, G, sr, h, p⟩
  have p0 := Post.bind p
  refine Subscript_ (thn (he.h pins s σ H (fun v H1 => ∃ d μ1 G1, RepV (wc X) μ1 H1 d v ∧ HRep (wc X) μ1 G1 H1 ∧ StRep (wc X) μ1 H1 dσ σ ∧ Post (wc X) Z μ1 H1 ((fl dσ >>= fun l => fh dσ >>= fun h => ft dσ >>= fun s => sl3D d l h s) G1) (fun d μ' _ H' => ∀ v, RepV (wc X) μ' H' d v → Q v H')) I ⟨dσ, μ, G, sr, h, p0.mono fun d μ1 G1 H1 x1 h1 p1 v rv => ⟨d, μ1, G1, rv, h1, sr.mono x1, p1⟩⟩) fun v s1 ⟨x, H1, I1, r1, d, μ1, G1, rd, h1, sr1, p1⟩ => ?_)
  refine wpAny_Slice ?_
  refine thn (hl.h pins s1 σ H1 (fun l H2 => ∃ μ2 G2, RepV (wc X) μ2 H2 d x ∧ HRep (wc X) μ2 G2 H2 ∧ StRep (wc X) μ2 H2 dσ σ ∧ Post (wc X) Z μ2 H2 ((fh dσ >>= fun h => ft dσ >>= fun s => sl3D d l h s) G2) (fun d μ' _ H' => ∀ v, RepV (wc X) μ' H' d v → Q v H')) I1 ⟨dσ, μ1, G1, sr1, h1, (Post.bind p1).mono fun l μ2 G2 H2 x2 h2 p2 => ⟨μ2, G2, rd.mono x2, h2, sr1.mono x2, p2⟩⟩) fun vl s2 ⟨l, H2, I2, pl, μ2, G2, rd2, h2, sr2, p2⟩ => ?_
  refine thn (hu.h pins s2 σ H2 (fun u H3 => ∃ μ3 G3, RepV (wc X) μ3 H3 d x ∧ HRep (wc X) μ3 G3 H3 ∧ StRep (wc X) μ3 H3 dσ σ ∧ Post (wc X) Z μ3 H3 ((ft dσ >>= fun s => sl3D d l u s) G3) (fun d μ' _ H' => ∀ v, RepV (wc X) μ' H' d v → Q v H')) I2 ⟨dσ, μ2, G2, sr2, h2, (Post.bind p2).mono fun u μ3 G3 H3 x3 h3 p3 => ⟨μ3, G3, rd2.mono x3, h3, sr2.mono x3, p3⟩⟩) fun vu s3 ⟨u, H3, I3, pu, μ3, G3, rd3, h3, sr3, p3⟩ => ?_
  refine thn (ht.h pins s3 σ H3 (fun k H4 => ∃ μ4 G4, RepV (wc X) μ4 H4 d x ∧ HRep (wc X) μ4 G4 H4 ∧ Post (wc X) Z μ4 H4 (sl3D d l u k G4) (fun d μ' _ H' => ∀ v, RepV (wc X) μ' H' d v → Q v H')) I3 ⟨dσ, μ3, G3, sr3, h3, (Post.bind p3).mono fun k μ4 G4 H4 x4 h4 p4 => ⟨μ4, G4, rd3.mono x4, h4, p4⟩⟩) fun vk s4 ⟨k, H4, I4, pk, μ4, G4, rd4, h4, p4⟩ => ?_
  have I5 : Inv X pins σ H4 { s4 with heap := s4.heap.push { cls := .type "slice", data := .fields #[vl, vu, vk] } } := I4.kept (t' := s4.toks) fun b ob q => Heap.get?_push_of_some _ q
  have hsl : Heap.IsSliceOf (s4.heap.push { cls := .type "slice", data := .fields #[vl, vu, vk] }) s4.heap.objs.size vl vu vk := Heap.IsSliceOf.new ..
  cases d with
  | ref r =>
    obtain ⟨ls, a, vs, rfl, rl, p5, hq⟩ := seqM_post (d := .ref r) (f := fun ls => if k = some 0 then M.stuck else allocM (.lst (pickD ls l u k))) h4 rd4 p4
    cases r1
    split at p5
    case isTrue => exact p5.elim
    rename_i hk0
    have hs : SqL X.K H4 a vs := by
      rcases hq with ⟨z, _⟩ | ⟨_, _, _, ⟨_, q⟩ | ⟨_, q⟩⟩
      · cases z
      · exact SqL.of q
      · exact q.sq
    obtain ⟨its, rr, ht, hz⟩ := I5.list hs
    refine tail_any (ops := [.ref a, .ref s4.heap.objs.size]) ht.isList.typeIs slot_list_getitem.lookup (wpAny_getItem_list_slice ht.isList hsl pl pu pk hk0 ?_ (by rw [List.size_toArray, ← rr.length]; exact hz)) (by with_unfolding_all rfl)
    have hf := I5.hok.fresh (Nat.le_refl _)
    have en : its.toArray.size = vs.length := by rw [List.size_toArray, rr.length]
    have ep : slicePick its.toArray l u k = List.toArray ((pickI ls.length l u k).filterMap (its[·]?)) := by
      unfold slicePick pickI
      rw [rl.length, en]
      congr 1
      congr 1
      funext i
      simp
    have hlen : ((pickI ls.length l u k).filterMap (vs[·]?)).length ≤ sizeLine := by
      have h1 := slicePick_size_le its.toArray l u k
      rw [ep, List.size_toArray, List.size_toArray] at h1
      have h2 := (vals_pick rr (pickI ls.length l u k)).length
      have h3 := rr.length
      omega
    rw [ep]
    refine ⟨.ref _, upd H4 _ (.lst ((pickI ls.length l u k).filterMap (vs[·]?))), I5.laid (t' := s4.toks) (fun b u e => Heap.get?_push_of_some _ e) (Nat.le_refl _) ?_, rfl, post_lst h4 (rl.pick _) p5 _ hf⟩
    exact ⟨hlen, _, 0, vals_pick rr _, Heap.get?_push_size _ rfl⟩
  | _ => exact p4.elim⟩
end
end DL
namespace W
open PySem PySem.Spec L2 DL
open PyProof.Rows hiding St
section
variable {G : DH} {σ : DSt} {Q : D → DH → Prop}
theorem wp_slice3 {f : Fe} {lo hi st : Fo} : Wp (slice3E f lo hi st σ) G Q ↔ Wp (f σ) G fun x G1 => Wp (lo σ) G1 fun l G2 => Wp (hi σ) G2 fun h G3 => Wp (st σ) G3 fun k G4 => Wp (sl3D x l h k) G4 Q := by
  unfold slice3E; simp only [wp_bind]
theorem sl3_rol {p : Nat} {l : List D} {lo hi st : Option Int} (e : G[p]? = some (.rol l)) (h : st ≠ some 0) : Wp (sl3D (.ref p) lo hi st) G Q ↔ Q (.ref G.length) (G ++ [.lst (pickD l lo hi st)]) := by
  have h0 : sl3D (.ref p) lo hi st = (do
    let l ← objM p >>= DL.listOf
    if st = some 0 then M.stuck else allocM (.lst (pickD l lo hi st))) := rfl
  rw [h0]
  simp only [wp_bind, wp_obj, e, someI, DL.listOf, wp_pure, if_neg h, wp_alloc]
end
end W
set_option Elab.async false
set_option linter.all false
set_option maxRecDepth 100000
namespace DL
open PySem PySem.Spec L2
open PyProof.Rows hiding St
section
variable {X : Cx} {Z : XC} {a b c : Expr} {fa fb fc : Fe} {pos p : Pos} {x : Str}
theorem chain_lift {o o' : D → D → M D} (σ : St) (H : Hp) (Q : VK) (h : liftE (wc X) Z (chainE o o' fa fb fc) σ H Q) : tChain (liftR2 (wc X) Z o) (liftR2 (wc X) Z o') (liftE (wc X) Z fa) (liftE (wc X) Z fb) (liftE (wc X) Z fc) σ H Q := by
  obtain ⟨dσ, μ, G, s, h, p⟩ := h
  exact ⟨dσ, μ, G, s, h, (Post.bind p).mono fun x μ1 G1 H1 x1 h1 p1 v rv =>
    ⟨dσ, μ1, G1, s.mono x1, h1, (Post.bind p1).mono fun y μ2 G2 H2 x2 h2 p2 u ru => ⟨x, y, μ2, G2, rv.mono x2, ru, h2, (Post.bind p2).mono fun z μ3 G3 H3 x3 h3 p3 w rw' => by
      obtain ⟨k, rfl, p4⟩ := isBl_post p3
      refine ⟨k, repB rw', ?_⟩
      cases k with
      | true => exact ⟨dσ, μ3, G3, s.mono (x1.trans (x2.trans x3)), h3, (Post.bind p4).mono fun t μ4 G4 H4 x4 h4 p5 q rq => ⟨y, t, μ4, G4, ru.mono (x3.trans x4), rq, h4, p5⟩⟩
      | false => exact Post.ok p4 h3 _ ofB⟩⟩⟩
theorem dt_chain {op op' : CmpOp} {o o' : D → D → M D} (ho : OpD X Z (compareOp op) o) (ho' : OpD X Z (compareOp op') o') (ha : DE X Z a fa) (hb : DE X Z b fb) (hc : DE X Z c fc)
    (hm : lastMarks [op, op'] [b, c] = false) : DT X Z (.Compare a [op, op'] [b, c] pos) (testE (chainE o o' fa fb fc)) :=
  DT.of (pt_chain ho.h ho'.h ha.h hb.h hc.h hm) fun σ H Q ⟨dσ, μ, G, s, h, p⟩ => chain_lift σ H _ ⟨dσ, μ, G, s, h, (Post.bind p).mono fun x μ1 G1 H1 x' h1 p1 v rv => by
    cases x with
    | bl k' => unfold RepV at rv; exact ⟨k', rv, Post.ok p1 h1⟩
    | _ => exact p1.elim⟩
theorem de_callC0 {F : List D → M D} (hF : ∃ k kk, CalleeOk F 0 x X.prog X.w X.K X.mg X.base k ∧ Room kk X.A ∧ k ≤ kk) (hg : Gl X x) (hdb : (x == ("__debug__" : Str)) = false) :
    DE X Z (.Call (.Name x p) [] [] pos) (q13 (fnX 0 F) q11) := by
  obtain ⟨k, kk, hF, hr, hk⟩ := hF
  obtain ⟨f, fd, ps, h1, h2, h3, h4⟩ := hF.ex
  exact DE.of (pe_call0 h1 (hr.mono hk) hg h2 h3 h4 .nil pass0 hdb) fun σ H Q ⟨dσ, μ, G, s, h, p⟩ => by
    obtain ⟨hl, p2⟩ := fnX_post (show Post (wc X) Z μ H (fnX 0 F [] G) _ from p)
    exact ⟨rfl, [], μ, G, rfl, h, p2⟩
end
end DL
set_option Elab.async false
set_option linter.all false
set_option maxRecDepth 100000
namespace DL
open PySem PySem.Spec L2
open PyProof.Rows hiding St
noncomputable def parS (i j : Nat) (fs : DSt → M (List D)) : Fs := fun σ => do
  match ← fs σ with
  | [v, w] => pure (.nx ((σ.set i (some v)).set j (some w)))
  | _ => M.stuck
section
variable {X : Cx} {Z : XC} {pos : Pos}
theorem ds_par {i j : Nat} {x y : Str} {a b : Expr} {fs : DSt → M (List D)} {px py pt : Pos} {kt k2 pt2} (hc : X.calm = true) (hN : ∃ N ps sc, FnScope N ps sc ∧ X.N = N) (hi : X.N[i]? = some x) (hj : X.N[j]? = some y) (hij : i ≠ j)
    (hx : X.env.scope.names.lookup x = some .local) (hy : X.env.scope.names.lookup y = some .local) (ha : DA X Z [a, b] fs)
    (hw : swappedStores [.Tuple [.Name x px, .Name y py] kt pt] (.Tuple [a, b] k2 pt2) X.env = pure (some [x, y]))
    (hs : swapsWithSole [.Tuple [.Name x px, .Name y py] kt pt] (.Tuple [a, b] k2 pt2) pos.line X.env = pure false) :
    DS X Z (.Assign [.Tuple [.Name x px, .Name y py] kt pt] (.Tuple [a, b] k2 pt2) pos) (parS i j fs) := by
  obtain ⟨N, ps, sc, S, e⟩ := hN
  exact DS.of (ps_par hc (by rw [e]; exact S.nd) hi hj hij hx hy ha.h hw hs) fun E σ H ⟨dσ, μ, G, s, h, p⟩ => ⟨dσ, μ, G, s, h, (Post.bind p).mono fun ds μ1 G1 H1 x' h1 p1 vs rv => by
    match ds, p1, rv with
    | [v, w], p1, rv =>
      obtain ⟨v1, r1, rfl, rv1, w1, r2, rfl, rw1, e2⟩ := rv
      cases e2
      refine ⟨v1, w1, rfl, ?_⟩
      exact Post.ok p1 h1 _ (((s.mono x').put rv1 i).put rw1 j)
    | [], p1, _ => exact p1.elim
    | [_], p1, _ => exact p1.elim
    | _ :: _ :: _ :: _, p1, _ => exact p1.elim⟩
end
end DL
namespace W
open PySem PySem.Spec L2 DL
open PyProof.Rows hiding St
theorem wp_par {i j : Nat} {fs : DSt → M (List D)} {σ : DSt} {G : DH} {P : Fl → DH → Prop} : Wp (parS i j fs σ) G P ↔ Wp (fs σ) G fun ds G1 => ∃ v w, ds = [v, w] ∧ P (.nx ((σ.set i (some v)).set j (some w))) G1 := by
  unfold parS
  simp only [wp_bind]
  constructor
  · rintro ⟨ds, G1, e, q⟩
    refine ⟨ds, G1, e, ?_⟩
    match ds, q with
    | [v, w], q => exact ⟨v, w, rfl, wp_pure.mp q⟩
    | [], q => exact (wp_stuck.mp q).elim
    | [_], q => exact (wp_stuck.mp q).elim
    | _ :: _ :: _ :: _, q => exact (wp_stuck.mp q).elim
  · rintro ⟨ds, G1, e, v, w, rfl, q⟩
    exact ⟨_, G1, e, wp_pure.mpr q⟩
end W
namespace W
open PySem PySem.Spec L2 DL
open PyProof.Rows hiding St
noncomputable def B__law_mixed : Fs := seqS (asgS (binE modD (binE addD (binE modD (varE 0) (cE (.int 2147483647))) (binE mulD (cE (.int 40692)) (binE addD (varE 1) (cE (.int 1))))) (cE (.int 2147483647))) (q12 2)) (seqS (asgS (binE modD (binE addD (binE addD (binE mulD (varE 2) (varE 2)) (binE mulD (cE (.int 48271)) (varE 2))) (varE 1)) (cE (.int 2147483647))) (q12 2)) (seqS (asgS (binE modD (binE mulD (varE 2) (varE 2)) (cE (.int 2147483629))) (q12 2)) (retS (binE fdivD (binE modD (binE mulD (varE 2) (cE (.int 69621))) (cE (.int 2147483629))) (cE (.int 8))))))
noncomputable def F__law_mixed : List D → M D := bodyF 3 B__law_mixed
noncomputable def B__law_purse : Fs := seqS (asgS (slice3E (varE 0) (partO (varE 1)) (partO (cE (.int 126))) (partO (varE 2))) (q12 4)) (seqS (ifS (testE (binE eqD (varE 4) (lstE (q11)))) (asgS (lstE (q10 (varE 1) (q11))) (q12 4)) (nextS)) (seqS (asgS (compE (itW (varE 4)) [none] (q12 0) (trueT) (binE mulD (q13 absF (q10 (varE 0) (q11))) (q13 intF (q10 (binE geD (q13 absF (q10 (varE 0) (q11))) (binE powD (cE (.int 10)) (cE (.int 18)))) (q11))))) (q12 5)) (seqS (asgS (lstE (q11)) (q12 6)) (seqS (forS (itRng1 (q10 (varE 3) (q11))) (q12 7) (seqS (asgS (binE modD (varE 7) (q13 lenF (q10 (varE 4) (q11)))) (q12 8)) (ifS (testE (binE gtD (binE ixD (varE 5) (varE 8)) (cE (.int 0)))) (seqS (dropS (mtE isListM appendD (varE 6) (q10 (binE modD (binE ixD (varE 5) (varE 8)) (cE (.int 1000003))) (q11)))) (asgS (binE fdivD (binE ixD (varE 5) (varE 8)) (cE (.int 1000003))) (subG (varE 5) (varE 8)))) (dropS (mtE isListM appendD (varE 6) (q10 (q13 (fnX 2 F__law_mixed) (q10 (binE ixD (varE 4) (varE 8)) (q10 (binE fdivD (varE 7) (q13 lenF (q10 (varE 4) (q11)))) (q11)))) (q11))))))) (retS (unE revlD (varE 6)))))))
noncomputable def F__law_purse : List D → M D := bodyF 9 B__law_purse
noncomputable def B__law_next : Fs := seqS (ifS (testE (binE eqD (varE 0) (lstE (q11)))) (retS (cE (.int 0))) (nextS)) (retS (mtE isListM popD (varE 0) q11))
noncomputable def F__law_next : List D → M D := bodyF 1 B__law_next
noncomputable def B__law_few : Fs := seqS (asgS (q13 (fnX 1 F__law_next) (q10 (varE 0) (q11))) (q12 1)) (seqS (ifS (testE (binE eqD (binE modD (varE 1) (cE (.int 8))) (cE (.int 7)))) (retS (binE modD (binE fdivD (varE 1) (cE (.int 8))) (cE (.int 7)))) (nextS)) (retS (binE modD (binE fdivD (varE 1) (cE (.int 8))) (cE (.int 4)))))
noncomputable def F__law_few : List D → M D := bodyF 2 B__law_few
noncomputable def B__law_word : Fs := seqS (asgS (q13 (fnX 1 F__law_next) (q10 (varE 0) (q11))) (q12 1)) (seqS (ifS (testE (binE eqD (binE modD (varE 1) (cE (.int 9))) (cE (.int 8)))) (retS (mtE isStrM joinD (cE (.str ("" : Str))) (q10 (compE (itRng1 (q10 (binE modD (binE fdivD (varE 1) (cE (.int 9))) (cE (.int 21))) (q11))) [none, some 0] (q12 0) (trueT) (binE ixD (cE (.str ("abcdefghijklmnopqrstuvwxyz" : Str))) (binE modD (q13 (fnX 1 F__law_next) (q10 (varE 1) (q11))) (cE (.int 26))))) (q11)))) (nextS)) (retS (binE ixD (lstE (q10 (cE (.str ("" : Str))) (q10 (cE (.str ("a" : Str))) (q10 (cE (.str ("b" : Str))) (q10 (cE (.str ("aa" : Str))) (q10 (cE (.str ("ab" : Str))) (q10 (cE (.str ("ca" : Str))) (q11)))))))) (binE modD (binE fdivD (varE 1) (cE (.int 9))) (cE (.int 6))))))
noncomputable def F__law_word : List D → M D := bodyF 2 B__law_word
noncomputable def B__law_rank : Fs := retS (tupE (q10 (q13 lenF (q10 (varE 0) (q11))) (q10 (varE 0) (q11))))
noncomputable def F__law_rank : List D → M D := bodyF 1 B__law_rank
noncomputable def B__law_words : Fs := seqS (asgS (lstE (q11)) (q12 1)) (seqS (forS (itRng1 (q10 (q13 (fnX 1 F__law_few) (q10 (varE 0) (q11))) (q11))) (q12 2) (seqS (asgS (q13 (fnX 1 F__law_word) (q10 (varE 0) (q11))) (q12 3)) (ifS (testE (binE notInD (varE 3) (varE 1))) (dropS (mtE isListM appendD (varE 1) (q10 (varE 3) (q11)))) (nextS)))) (retS (q13 tupleF (q10 (sortKE F__law_rank (varE 1)) (q11)))))
noncomputable def F__law_words : List D → M D := bodyF 4 B__law_words
noncomputable def B__law_plain : Fs := seqS (asgS (q13 (fnX 1 F__law_next) (q10 (varE 0) (q11))) (q12 2)) (seqS (asgS (binE subD (binE modD (varE 2) (cE (.int 9))) (cE (.int 4))) (q12 3)) (seqS (asgS (binE modD (binE fdivD (varE 2) (cE (.int 9))) (cE (.int 3))) (q12 4)) (seqS (asgS (sliceT (q13 (fnX 1 F__law_words) (q10 (varE 0) (q11))) (noPart) (partO (cE (.int 2)))) (q12 5)) (seqS (asgS (binE ixD (lstE (q10 (tupE (q11)) (q10 (tupE (q10 (cE (.bl false)) (q11))) (q10 (tupE (q10 (cE (.bl true)) (q11))) (q10 (tupE (q10 (cE (.bl false)) (q10 (cE (.bl true)) (q11)))) (q11)))))) (binE modD (binE fdivD (varE 2) (cE (.int 27))) (cE (.int 4)))) (q12 6)) (seqS (asgS (binE addD (binE addD (compE (itRng1 (q10 (varE 4) (q11))) [none, some 3] (q12 0) (trueT) (binE addD (varE 1) (varE 0))) (q13 listF (q10 (varE 5) (q11)))) (q13 listF (q10 (varE 6) (q11)))) (q12 7)) (seqS (asgS (tupE (q11)) (q12 8)) (seqS (ifS (testE (binE gtD (varE 4) (cE (.int 0)))) (asgS (tupE (q10 (tupE (q10 (varE 3) (q10 (binE subD (binE addD (varE 3) (varE 4)) (cE (.int 1))) (q11)))) (q11))) (q12 8)) (nextS)) (seqS (ifS (testE (binE eqD (binE modD (binE fdivD (varE 2) (cE (.int 108))) (cE (.int 5))) (cE (.int 0)))) (seqS (asgS (binE addD (varE 8) (tupE (q10 (tupE (q10 (binE addD (varE 3) (cE (.int 9))) (q10 (binE addD (varE 3) (cE (.int 9))) (q11)))) (q11)))) (q12 8)) (dropS (mtE isListM appendD (varE 7) (q10 (binE addD (varE 3) (cE (.int 9))) (q11))))) (nextS)) (seqS (asgS (tupE (q10 (cE (.str ("of" : Str))) (q10 (varE 5) (q11)))) (q12 9)) (seqS (ifS (andT (truthE (varE 1)) (testE (binE eqD (binE modD (binE fdivD (varE 2) (cE (.int 540))) (cE (.int 2))) (cE (.int 0))))) (retS (tupE (q10 (tupE (q10 (binE addD (tupE (q10 (tupE (q10 (cE .non) (q10 (varE 3) (q11)))) (q11))) (sliceT (varE 8) (partO (cE (.int 1))) (noPart))) (q10 (varE 9) (q10 (varE 6) (q10 (cE .non) (q10 (cE .non) (q11))))))) (q10 (cE .non) (q11))))) (nextS)) (seqS (ifS (truthE (varE 1)) (retS (tupE (q10 (tupE (q10 (varE 8) (q10 (tupE (q10 (cE (.str ("but" : Str))) (q10 (varE 5) (q11)))) (q10 (varE 6) (q10 (cE .non) (q10 (cE .non) (q11))))))) (q10 (cE .non) (q11))))) (nextS)) (retS (tupE (q10 (tupE (q10 (varE 8) (q10 (varE 9) (q10 (varE 6) (q10 (cE .non) (q10 (cE .non) (q11))))))) (q10 (varE 7) (q11))))))))))))))))
noncomputable def F__law_plain : List D → M D := bodyF 10 B__law_plain
noncomputable def B__law_none : Fs := retS (tupE (q10 (tupE (q11)) (q10 (tupE (q10 (cE (.str ("of" : Str))) (q10 (tupE (q11)) (q11)))) (q10 (tupE (q11)) (q10 (cE .non) (q10 (cE .non) (q11)))))))
noncomputable def F__law_none : List D → M D := bodyF 0 B__law_none
noncomputable def B__law_times : Fs := seqS (asgS (lstE (q11)) (q12 2)) (seqS (forS (itW (varE 0)) (q12 3) (dropS (mtE isListM extendD (varE 2) (q10 (compE (itW (varE 1)) [none, some 3] (q12 0) (trueT) (binE addD (varE 1) (tupE (q10 (varE 0) (q11))))) (q11))))) (retS (varE 2)))
noncomputable def F__law_times : List D → M D := bodyF 4 B__law_times
noncomputable def B__law_names : Fs := retS (q13 sortedG (q10 (compE (itW (q13 (fnX 1 F__law_words) (q10 (varE 0) (q11)))) [none] (q12 0) (testE (chainE ltD ltD (cE (.int 0)) (q13 lenF (q10 (varE 0) (q11))) (cE (.int 9)))) (varE 0)) (q11)))
noncomputable def F__law_names : List D → M D := bodyF 1 B__law_names
noncomputable def B__law_listed (R : List D → M D) : Fs := seqS (asgS (lstE (q11)) (q12 3)) (seqS (asgS (lstE (q10 (tupE (q11)) (q11))) (q12 4)) (seqS (forS (itRng1 (q10 (binE modD (q13 (fnX 1 F__law_few) (q10 (varE 0) (q11))) (cE (.int 4))) (q11))) (q12 5) (seqS (asgS (q13 (fnX 3 R) (q10 (varE 0) (q10 (binE subD (varE 1) (cE (.int 1))) (q10 (varE 2) (q11))))) (tupG 2 (consG (q12 6) (consG (q12 7) (nilG))))) (ifS (andT (testE (binE neD (varE 6) (q13 (fnX 0 F__law_none) (q11)))) (orT (testE (binE isCD (varE 7) (cE .non))) (orT (testE (binE isCD (varE 4) (cE .non))) (testE (binE leD (binE mulD (q13 lenF (q10 (varE 7) (q11))) (q13 lenF (q10 (varE 4) (q11)))) (cE (.int 200))))))) (seqS (dropS (mtE isListM appendD (varE 3) (q10 (varE 6) (q11)))) (ifS (andT (testE (binE notCD (varE 4) (cE .non))) (testE (binE notCD (varE 7) (cE .non)))) (asgS (q13 (fnX 2 F__law_times) (q10 (varE 4) (q10 (varE 7) (q11)))) (q12 4)) (asgS (cE .non) (q12 4)))) (nextS)))) (seqS (ifS (andT (truthE (varE 2)) (testE (binE eqD (binE modD (q13 (fnX 1 F__law_next) (q10 (varE 0) (q11))) (cE (.int 3))) (cE (.int 0))))) (seqS (asgS (binE ixD (q13 (fnX 2 F__law_plain) (q10 (varE 0) (q10 (binE eqD (binE modD (q13 (fnX 1 F__law_next) (q10 (varE 0) (q11))) (cE (.int 3))) (cE (.int 0))) (q11)))) (cE (.int 0))) (q12 8)) (ifS (testE (binE neD (varE 8) (q13 (fnX 0 F__law_none) (q11)))) (retS (tupE (q10 (tupE (q10 (q13 tupleF (q10 (varE 3) (q11))) (q10 (varE 8) (q11)))) (q10 (cE .non) (q11))))) (nextS))) (nextS)) (seqS (ifS (testE (binE isCD (varE 4) (cE .non))) (retS (tupE (q10 (tupE (q10 (q13 tupleF (q10 (varE 3) (q11))) (q10 (q13 (fnX 0 F__law_none) (q11)) (q11)))) (q10 (cE .non) (q11))))) (nextS)) (retS (tupE (q10 (tupE (q10 (q13 tupleF (q10 (varE 3) (q11))) (q10 (q13 (fnX 0 F__law_none) (q11)) (q11)))) (q10 (compE (itW (varE 4)) [none] (q12 0) (trueT) (tupE (q10 (cE (.str ("list" : Str))) (q10 (varE 0) (q11))))) (q11)))))))))
noncomputable def H__law_listed (R : List D → M D) : List D → M D := bodyF 9 (B__law_listed R)
noncomputable def B__law_recorded (R : List D → M D) : Fs := seqS (asgS (lstE (q11)) (q12 3)) (seqS (asgS (lstE (q10 (tupE (q11)) (q11))) (q12 4)) (seqS (forS (itW (sliceT (q13 (fnX 1 F__law_names) (q10 (varE 0) (q11))) (noPart) (partO (cE (.int 3))))) (q12 5) (seqS (asgS (q13 (fnX 3 R) (q10 (varE 0) (q10 (binE subD (varE 1) (cE (.int 1))) (q10 (varE 2) (q11))))) (tupG 2 (consG (q12 6) (consG (q12 7) (nilG))))) (seqS (asgS (binE eqD (binE modD (q13 (fnX 1 F__law_next) (q10 (varE 0) (q11))) (cE (.int 2))) (cE (.int 0))) (q12 8)) (ifS (andT (testE (binE neD (varE 6) (q13 (fnX 0 F__law_none) (q11)))) (orT (testE (binE isCD (varE 7) (cE .non))) (orT (testE (binE isCD (varE 4) (cE .non))) (testE (binE leD (binE mulD (binE addD (q13 lenF (q10 (varE 7) (q11))) (cE (.int 1))) (q13 lenF (q10 (varE 4) (q11)))) (cE (.int 200))))))) (seqS (dropS (mtE isListM appendD (varE 3) (q10 (tupE (q10 (varE 5) (q10 (varE 8) (q10 (varE 6) (q11))))) (q11)))) (ifS (orT (testE (binE isCD (varE 4) (cE .non))) (testE (binE isCD (varE 7) (cE .non)))) (asgS (cE .non) (q12 4)) (ifS (truthE (varE 8)) (asgS (q13 (fnX 2 F__law_times) (q10 (varE 4) (q10 (compE (itW (varE 7)) [none, some 5] (q12 0) (trueT) (tupE (q10 (varE 1) (q10 (varE 0) (q11))))) (q11)))) (q12 4)) (asgS (binE addD (varE 4) (q13 (fnX 2 F__law_times) (q10 (varE 4) (q10 (compE (itW (varE 7)) [none, some 5] (q12 0) (trueT) (tupE (q10 (varE 1) (q10 (varE 0) (q11))))) (q11))))) (q12 4))))) (nextS))))) (seqS (ifS (andT (truthE (varE 2)) (testE (binE eqD (binE modD (q13 (fnX 1 F__law_next) (q10 (varE 0) (q11))) (cE (.int 3))) (cE (.int 0))))) (retS (tupE (q10 (tupE (q10 (q13 tupleF (q10 (varE 3) (q11))) (q10 (tupE (q10 (tupE (q10 (tupE (q10 (binE powD (cE (.int 10)) (cE (.int 12))) (q10 (binE powD (cE (.int 10)) (cE (.int 12))) (q11)))) (q11))) (q10 (tupE (q10 (cE (.str ("of" : Str))) (q10 (tupE (q11)) (q11)))) (q10 (tupE (q11)) (q10 (cE .non) (q10 (cE .non) (q11))))))) (q11)))) (q10 (cE .non) (q11))))) (nextS)) (seqS (ifS (testE (binE isCD (varE 4) (cE .non))) (retS (tupE (q10 (tupE (q10 (q13 tupleF (q10 (varE 3) (q11))) (q10 (q13 (fnX 0 F__law_none) (q11)) (q11)))) (q10 (cE .non) (q11))))) (nextS)) (retS (tupE (q10 (tupE (q10 (q13 tupleF (q10 (varE 3) (q11))) (q10 (q13 (fnX 0 F__law_none) (q11)) (q11)))) (q10 (compE (itW (varE 4)) [none] (q12 0) (trueT) (tupE (q10 (cE (.str ("record" : Str))) (q10 (varE 0) (q11))))) (q11)))))))))
noncomputable def H__law_recorded (R : List D → M D) : List D → M D := bodyF 9 (B__law_recorded R)
noncomputable def B__law_small (R : List D → M D) : Fs := seqS (asgS (q13 (fnX 1 F__law_next) (q10 (varE 0) (q11))) (q12 3)) (seqS (ifS (andT (truthE (varE 2)) (testE (binE eqD (binE modD (varE 3) (cE (.int 7))) (cE (.int 0))))) (retS (tupE (q10 (cE (.str ("any" : Str))) (q10 (cE .non) (q11))))) (nextS)) (seqS (asgS (q13 (fnX 2 F__law_plain) (q10 (varE 0) (q10 (andVE (varE 2) (binE eqD (binE modD (binE fdivD (varE 3) (cE (.int 7))) (cE (.int 4))) (cE (.int 0)))) (q11)))) (tupG 2 (consG (q12 4) (consG (q12 5) (nilG))))) (seqS (ifS (orT (testE (binE eqD (varE 1) (cE (.int 0)))) (testE (binE eqD (binE modD (binE fdivD (varE 3) (cE (.int 28))) (cE (.int 4))) (cE (.int 0))))) (retS (tupE (q10 (varE 4) (q10 (varE 5) (q11))))) (nextS)) (seqS (parS 6 7 (q10 (cE .non) (q10 (lstE (q11)) (q11)))) (seqS (parS 8 9 (q10 (cE .non) (q10 (lstE (q11)) (q11)))) (seqS (ifS (testE (binE ltD (binE modD (binE fdivD (varE 3) (cE (.int 112))) (cE (.int 3))) (cE (.int 2)))) (asgS (q13 (fnX 3 (H__law_listed R)) (q10 (varE 0) (q10 (varE 1) (q10 (varE 2) (q11))))) (tupG 2 (consG (q12 6) (consG (q12 7) (nilG))))) (nextS)) (seqS (ifS (testE (binE gtD (binE modD (binE fdivD (varE 3) (cE (.int 112))) (cE (.int 3))) (cE (.int 0)))) (asgS (q13 (fnX 3 (H__law_recorded R)) (q10 (varE 0) (q10 (varE 1) (q10 (varE 2) (q11))))) (tupG 2 (consG (q12 8) (consG (q12 9) (nilG))))) (nextS)) (seqS (asgS (binE addD (sliceT (varE 4) (noPart) (partO (cE (.int 3)))) (tupE (q10 (varE 6) (q10 (varE 8) (q11))))) (q12 4)) (seqS (ifS (orT (testE (binE isCD (varE 5) (cE .non))) (orT (testE (binE isCD (varE 7) (cE .non))) (testE (binE isCD (varE 9) (cE .non))))) (retS (tupE (q10 (varE 4) (q10 (cE .non) (q11))))) (nextS)) (retS (tupE (q10 (varE 4) (q10 (binE addD (binE addD (varE 5) (varE 7)) (varE 9)) (q11))))))))))))))
noncomputable def R__law_small : Nat → List D → M D
  | 0 => fun _ => M.stuck
  | n + 1 => bodyF 10 (B__law_small (R__law_small n))
noncomputable def F__law_small : List D → M D := R__law_small 3
noncomputable def F__law_listed : List D → M D := H__law_listed F__law_small
noncomputable def F__law_recorded : List D → M D := H__law_recorded F__law_small
noncomputable def B_numbers_count : Fs := seqS (ifS (truthE (q13 anyF (q10 (compE (itW (varE 0)) [none] (q12 0) (trueT) (binE inD (cE .non) (varE 0))) (q11)))) (retS (cE .non)) (nextS)) (retS (q13 sumF (q10 (compE (itW (varE 0)) [none, none] (tupG 2 (consG (q12 0) (consG (q12 1) (nilG)))) (trueT) (binE addD (binE subD (varE 1) (varE 0)) (cE (.int 1)))) (q11))))
noncomputable def F_numbers_count : List D → M D := bodyF 1 B_numbers_count
noncomputable def B_texts_count : Fs := retS (ifE (testE (binE eqD (binE ixD (varE 0) (cE (.int 0))) (cE (.str ("of" : Str))))) (q13 lenF (q10 (binE ixD (varE 0) (cE (.int 1))) (q11))) (cE .non))
noncomputable def F_texts_count : List D → M D := bodyF 1 B_texts_count
noncomputable def B_product : Fs := seqS (asgS (cE (.int 1)) (q12 1)) (seqS (forS (itW (varE 0)) (q12 2) (seqS (ifS (testE (binE isCD (varE 2) (cE .non))) (retS (cE .non)) (nextS)) (asgS (binE mulD (varE 1) (varE 2)) (q12 1)))) (retS (varE 1)))
noncomputable def F_product : List D → M D := bodyF 3 B_product
noncomputable def B_lists_count (R : List D → M D) : Fs := seqS (ifS (testE (binE isCD (varE 0) (cE .non))) (retS (cE (.int 0))) (nextS)) (retS (ifE (testE (binE eqD (binE ixD (varE 0) (cE (.int 1))) (cE (.tup [.tup [], .tup [.str ("of" : Str), .tup []], .tup [], .non, .non])))) (q13 (fnX 1 F_product) (q10 (compE (itW (binE ixD (varE 0) (cE (.int 0)))) [none] (q12 0) (trueT) (q13 (fnX 1 R) (q10 (varE 0) (q11)))) (q11))) (cE .non)))
noncomputable def H_lists_count (R : List D → M D) : List D → M D := bodyF 1 (B_lists_count R)
noncomputable def B_field_count (R : List D → M D) : Fs := seqS (asgS (q13 (fnX 1 R) (q10 (binE ixD (varE 0) (cE (.int 2))) (q11))) (q12 1)) (retS (ifE (orT (truthE (binE ixD (varE 0) (cE (.int 1)))) (testE (binE isCD (varE 1) (cE .non)))) (varE 1) (binE addD (varE 1) (cE (.int 1)))))
noncomputable def H_field_count (R : List D → M D) : List D → M D := bodyF 2 (B_field_count R)
noncomputable def B_records_count (R : List D → M D) : Fs := seqS (ifS (testE (binE isCD (varE 0) (cE .non))) (retS (cE (.int 0))) (nextS)) (retS (ifE (testE (binE eqD (binE ixD (varE 0) (cE (.int 1))) (cE (.tup [.tup [], .tup [.str ("of" : Str), .tup []], .tup [], .non, .non])))) (q13 (fnX 1 F_product) (q10 (compE (itW (binE ixD (varE 0) (cE (.int 0)))) [none] (q12 0) (trueT) (q13 (fnX 1 (H_field_count R)) (q10 (varE 0) (q11)))) (q11))) (cE .non)))
noncomputable def H_records_count (R : List D → M D) : List D → M D := bodyF 1 (B_records_count R)
noncomputable def B_how_many (R : List D → M D) : Fs := seqS (ifS (testE (binE eqD (varE 0) (cE (.str ("any" : Str))))) (retS (cE .non)) (nextS)) (seqS (asgS (lstE (q10 (q13 (fnX 1 F_numbers_count) (q10 (binE ixD (varE 0) (cE (.int 0))) (q11))) (q10 (q13 (fnX 1 F_texts_count) (q10 (binE ixD (varE 0) (cE (.int 1))) (q11))) (q10 (q13 lenF (q10 (binE ixD (varE 0) (cE (.int 2))) (q11))) (q10 (q13 (fnX 1 (H_lists_count R)) (q10 (binE ixD (varE 0) (cE (.int 3))) (q11))) (q10 (q13 (fnX 1 (H_records_count R)) (q10 (binE ixD (varE 0) (cE (.int 4))) (q11))) (q11))))))) (q12 1)) (retS (ifE (testE (binE inD (cE .non) (varE 1))) (cE .non) (q13 sumF (q10 (varE 1) (q11))))))
noncomputable def R_how_many : Nat → List D → M D
  | 0 => fun _ => M.stuck
  | n + 1 => bodyF 2 (B_how_many (R_how_many n))
noncomputable def F_how_many : List D → M D := R_how_many 3
noncomputable def F_lists_count : List D → M D := H_lists_count F_how_many
noncomputable def F_field_count : List D → M D := H_field_count F_how_many
noncomputable def F_records_count : List D → M D := H_records_count F_how_many
noncomputable def B_law : Fs := seqS (asgS (q13 (fnX 4 F__law_purse) (q10 (varE 0) (q10 (cE (.int 0)) (q10 (cE (.int 1)) (q10 (cE (.int 60)) (q11)))))) (q12 1)) (seqS (asgS (q13 (fnX 3 F__law_small) (q10 (varE 1) (q10 (cE (.int 2)) (q10 (binE eqD (binE modD (q13 (fnX 1 F__law_next) (q10 (varE 1) (q11))) (cE (.int 3))) (cE (.int 0))) (q11))))) (tupG 2 (consG (q12 2) (consG (q12 3) (nilG))))) (seqS (asgS (q13 (fnX 1 F_how_many) (q10 (varE 2) (q11))) (q12 4)) (seqS (ifS (testE (binE isCD (varE 3) (cE .non))) (retS (binE isCD (varE 4) (cE .non))) (nextS)) (retS (andVE (q13 isinstF (q10 (varE 4) (q10 (cE (.ty "int")) (q11)))) (andVE (notE (q13 isinstF (q10 (varE 4) (q10 (cE (.ty "bool")) (q11))))) (binE eqD (varE 4) (q13 lenF (q10 (varE 3) (q11))))))))))
noncomputable def F_law : List D → M D := bodyF 5 B_law
end W
namespace W
open PySem PySem.Spec L2 DL
open PyProof.Rows hiding St
local macro_rules | `(tactic| walk_at "cl") => `(tactic| (refine ⟨?k, ?kk, ?a, ?b, ?c⟩; (case a => assumption); (case b => assumption); (case c => first | decide | omega)))
local macro_rules | `(tactic| walk_at "ck") => `(tactic| (refine ⟨?k, ?kk, ?kkk, ?a, ?b, ?c, ?d⟩; (case a => assumption); (case b => rfl); (case c => rfl); (case d => decide +kernel)))
local macro_rules | `(tactic| walk_at "od") => `(tactic| first
  | with_reducible exact od_add
  | with_reducible exact od_sub
  | with_reducible exact od_mul
  | with_reducible exact od_fdiv
  | with_reducible exact od_mod
  | with_reducible exact od_pow
  | with_reducible exact od_le
  | with_reducible exact od_gt
  | with_reducible exact od_ge
  | with_reducible exact od_isC
  | with_reducible exact od_isnotC
  | ((with_reducible refine od_eq ?_); exact Room.units (by assumption))
  | ((with_reducible refine od_ne ?_); exact Room.units (by assumption))
  | ((with_reducible refine od_lt ?_); exact Room.units (by assumption))
  | ((with_reducible refine od_in ?_); exact Room.units (by assumption))
  | ((with_reducible refine od_notin ?_); exact Room.units (by assumption)))
local macro_rules | `(tactic| walk_at "bd") => `(tactic| first
  | with_reducible exact bd_len
  | with_reducible exact bd_isinstance
  | with_reducible exact bd_any
  | with_reducible exact bd_sum
  | with_reducible exact bd_tuple
  | with_reducible exact bd_list
  | with_reducible exact bd_int
  | with_reducible exact bd_abs
  | with_reducible exact bd_sortedG)
local macro_rules | `(tactic| walk_at "da") => `(tactic| first
  | with_reducible exact q16
  | ((with_reducible refine da_c ?_ ?_ ?_); walk_at "de"; walk_at "da"; rfl))
local macro_rules | `(tactic| walk_at "do") => `(tactic| first
  | with_reducible exact do_none
  | ((with_reducible refine do_some ?_); walk_at "de"))
local macro_rules | `(tactic| walk_at "de") => `(tactic| first
  | with_reducible exact q17
  | with_reducible exact de_bl
  | with_reducible exact de_str
  | with_reducible exact de_non
  | ((with_reducible refine de_v _ ?_ ?_ ?_ ?_); rfl; (first | exact Or.inl rfl | exact Or.inr (Or.inl rfl) | exact Or.inr (Or.inr rfl)); decide; decide)
  | ((with_reducible refine de_tyN ?_ ?_ ?_ ?_ ?_ ?_); assumption; decide; decide +kernel; rfl; decide; decide)
  | ((with_reducible refine de_cst ?_ ?_ ?_); assumption; rfl; decide)
  | ((with_reducible refine de_op ?_ ?_ ?_); walk_at "od"; walk_at "de"; walk_at "de")
  | ((with_reducible refine de_not ?_); walk_at "de")
  | ((with_reducible refine de_cmp ?_ ?_ ?_ ?_); walk_at "od"; walk_at "de"; walk_at "de"; with_unfolding_all rfl)
  | ((with_reducible refine de_one ?_); walk_at "de")
  | ((with_reducible refine de_andV ?_ ?_); walk_at "de"; walk_at "de")
  | ((with_reducible refine de_if ?_ ?_ ?_); walk_at "dt"; walk_at "de"; walk_at "de")
  | ((with_reducible refine de_tup ?_); walk_at "da")
  | ((with_reducible refine de_lst ?_); walk_at "da")
  | ((with_reducible refine de_sliceT ?_ ?_ ?_); walk_at "de"; walk_at "do"; walk_at "do")
  | ((with_reducible refine de_slice3 ?_ ?_ ?_ ?_); walk_at "de"; walk_at "do"; walk_at "do"; walk_at "do")
  | ((with_reducible refine de_ix ?_ ?_ ?_); walk_at "de"; walk_at "de"; exact fun _ _ => rfl)
  | ((with_reducible refine de_revL ?_ ?_ ?_ ?_ ?_ ?_); walk_at "de"; rfl; assumption; rfl; rfl; rfl)
  | ((with_reducible refine de_callC ?_ ?_ ?_ ?_ ?_); walk_at "cl"; rfl; walk_at "da"; decide; rfl)
  | ((with_reducible refine de_callC0 ?_ ?_ ?_); walk_at "cl"; rfl; decide)
  | ((with_reducible refine de_sortK ?_ ?_ ?_ ?_ ?_ ?_ ?_ ?_); rfl; walk_at "cl"; assumption; rfl; rfl; walk_at "de"; rfl; decide)
  | ((with_reducible refine de_blt ?_ ?_ ?_ ?_ ?_ ?_ ?_ ?_ ?_); rfl; walk_at "bd"; assumption; decide +kernel; rfl; walk_at "da"; decide; decide; rfl)
  | ((with_reducible refine de_mt PySem.F.slot_list_append PySem.F.type_list_append md_append ?_ ?_ ?_ ?_ ?_ ?_ ?_); walk_at "de"; walk_at "da"; rfl; rfl; rfl; exact q14 rfl; rfl)
  | ((with_reducible refine de_mt PySem.F.slot_list_extend PySem.F.type_list_extend md_extend ?_ ?_ ?_ ?_ ?_ ?_ ?_); walk_at "de"; walk_at "da"; rfl; rfl; rfl; exact q14 rfl; rfl)
  | ((with_reducible refine de_mtS PySem.F.slot_str_join PySem.F.type_str_join md_join ?_ ?_ ?_ ?_ ?_ ?_ ?_); walk_at "de"; walk_at "da"; rfl; rfl; rfl; exact q14 rfl; rfl)
  | ((with_reducible refine de_mt0 PySem.F.slot_list_pop PySem.F.type_list_pop md_pop ?_ ?_ ?_); walk_at "de"; rfl; rfl)
  | ((with_reducible refine de_cmpr ?_ ?_ ?_ ?_ ?_ ?_ ?_ ?_); rfl; walk_at "di"; walk_at "ck"; decide +kernel; (intro _ _ _ _ _; walk_at "dg"); (intro _ _ _ _; walk_at "dts"); (intro _ _ _ _; walk_at "de"); exact fun _ => rfl))
local macro_rules | `(tactic| walk_at "dt") => `(tactic| first
  | ((with_reducible refine DW.dt ?_); walk_at "dw")
  | ((with_reducible refine dt_cmp ?_ ?_ ?_ ?_); walk_at "od"; walk_at "de"; walk_at "de"; with_unfolding_all rfl)
  | ((with_reducible refine dt_chain ?_ ?_ ?_ ?_ ?_ ?_); walk_at "od"; walk_at "od"; walk_at "de"; walk_at "de"; walk_at "de"; with_unfolding_all rfl)
  | ((with_reducible refine dt_truth ?_ ?_); walk_at "de"; exact fun _ => rfl))
local macro_rules | `(tactic| walk_at "dw") => `(tactic| first
  | ((with_reducible refine dw_and1 ?_); walk_at "dt")
  | ((with_reducible refine dw_or1 ?_); walk_at "dt")
  | ((with_reducible refine dw_and ?_ ?_); walk_at "dt"; walk_at "dw")
  | ((with_reducible refine dw_or ?_ ?_); walk_at "dt"; walk_at "dw"))
local macro_rules | `(tactic| walk_at "dts") => `(tactic| first
  | with_reducible exact dts_nil
  | ((with_reducible refine dts_one ?_); walk_at "dt"))
local macro_rules | `(tactic| walk_at "di") => `(tactic| first
  | ((with_reducible refine di_r1 ?_ ?_ ?_ ?_); assumption; rfl; walk_at "da"; rfl)
  | ((with_reducible refine di_W ?_); walk_at "de"))
local macro_rules | `(tactic| walk_at "dg") => `(tactic| first
  | ((with_reducible refine dg_nm ?_ ?_ ?_ ?_); exact ⟨_, _, _, ‹FnScope _ _ _›, rfl⟩; rfl; (first | exact Or.inl rfl | exact Or.inr rfl); (first | exact .inl rfl | exact .inr rfl))
  | ((with_reducible refine dg_name ?_ ?_ ?_ ?_); assumption; rfl; (first | exact Or.inl rfl | exact Or.inr rfl); (first | exact .inl rfl | exact .inr rfl))
  | ((with_reducible refine dg_tup ?_ ?_ ?_ ?_); rfl; walk_at "dgs"; rfl; rfl)
  | ((with_reducible refine dg_sub ?_ ?_ ?_ ?_); exact Room.units (by assumption); walk_at "de"; walk_at "de"; exact fun _ => rfl))
local macro_rules | `(tactic| walk_at "dgs") => `(tactic| first
  | with_reducible exact dgs_nil
  | ((with_reducible refine dgs_cons ?_ ?_ ?_); walk_at "dg"; walk_at "dgs"; rfl))
local macro_rules | `(tactic| walk_at "ds") => `(tactic| first
  | ((with_reducible refine ds_ret ?_); walk_at "de")
  | ((with_reducible refine ds_if ?_ ?_ ?_); walk_at "dt"; walk_at "db"; walk_at "db")
  | ((with_reducible refine ds_cmprN ?_ ?_ ?_ ?_ ?_ ?_ ?_ ?_ ?_ ?_); rfl; walk_at "di"; walk_at "ck"; decide +kernel; (intro _ _ _ _ _; walk_at "dg"); (intro _ _ _ _; walk_at "dts"); (intro _ _ _ _; walk_at "de"); (exact fun _ => rfl); walk_at "dg"; rfl)
  | ((with_reducible refine ds_par ?_ ?_ ?_ ?_ ?_ ?_ ?_ ?_ ?_ ?_); rfl; exact ⟨_, _, _, ‹FnScope _ _ _›, rfl⟩; rfl; rfl; decide; rfl; rfl; walk_at "da"; rfl; rfl)
  | ((with_reducible refine ds_asg ?_ ?_ ?_ ?_ ?_); walk_at "de"; walk_at "dg"; rfl; rfl; rfl)
  | ((with_reducible refine ds_expr ?_ ?_); walk_at "de"; rfl)
  | ((with_reducible refine ds_for ?_ ?_ ?_ ?_ ?_ ?_); exact PassesOwn.never; rfl; walk_at "di"; walk_at "dg"; walk_at "db"; exact fun _ => rfl))
local macro_rules | `(tactic| walk_at "db") => `(tactic| first
  | with_reducible exact db_nil
  | ((with_reducible refine db_one ?_); walk_at "ds")
  | ((with_reducible refine db_cons ?_ ?_); walk_at "ds"; walk_at "db"))
local macro_rules | `(tactic| walk_at "db0") => `(tactic| first
  | (refine db_one ?_; walk_at "ds")
  | (refine db_cons ?_ ?_; walk_at "ds"; walk_at "db"))
structure BC (K : PySem.W.Frag) (mg : Str → Option Value) : Prop where
  b : BLs mg
  c_NOTHING : CstOk K mg "NOTHING" (.tup [.tup [], .tup [.str ("of" : Str), .tup []], .tup [], .non, .non])
  c_ANY : CstOk K mg "ANY" (.str ("any" : Str))
noncomputable def top (i : Nat) : Stmt := PySem.Challenge.pw_allmeet_k34_whole_counts_by_lists_of_val.main.body.getD i (.Pass ⟨0, 0, 0, 0⟩)
noncomputable abbrev s__law_mixed : Stmt := top 11
noncomputable abbrev s__law_purse : Stmt := top 12
noncomputable abbrev s__law_next : Stmt := top 13
noncomputable abbrev s__law_few : Stmt := top 14
noncomputable abbrev s__law_word : Stmt := top 17
noncomputable abbrev s__law_rank : Stmt := top 18
noncomputable abbrev s__law_words : Stmt := top 19
noncomputable abbrev s__law_plain : Stmt := top 27
noncomputable abbrev s__law_none : Stmt := top 21
noncomputable abbrev s__law_times : Stmt := top 29
noncomputable abbrev s__law_names : Stmt := top 20
noncomputable abbrev s__law_small : Stmt := top 31
noncomputable abbrev s__law_listed : Stmt := top 28
noncomputable abbrev s__law_recorded : Stmt := top 30
noncomputable abbrev s_numbers_count : Stmt := top 4
noncomputable abbrev s_texts_count : Stmt := top 5
noncomputable abbrev s_product : Stmt := top 9
noncomputable abbrev s_how_many : Stmt := top 3
noncomputable abbrev s_lists_count : Stmt := top 6
noncomputable abbrev s_field_count : Stmt := top 8
noncomputable abbrev s_records_count : Stmt := top 7
noncomputable abbrev s_law : Stmt := top 32
theorem sc__law_mixed : FnScope ["cell", "k", "number"] ["cell", "k"] (defScope s__law_mixed) := ⟨rfl, rfl, rfl, by decide +kernel, rfl, by decide +kernel, by decide +kernel⟩
theorem sc__law_purse : FnScope ["script", "at", "step", "many", "cells", "rests", "purse", "k", "place"] ["script", "at", "step", "many"] (defScope s__law_purse) := ⟨rfl, rfl, rfl, by decide +kernel, rfl, by decide +kernel, by decide +kernel⟩
theorem sc__law_next : FnScope ["purse"] ["purse"] (defScope s__law_next) := ⟨rfl, rfl, rfl, by decide +kernel, rfl, by decide +kernel, by decide +kernel⟩
theorem sc__law_few : FnScope ["purse", "number"] ["purse"] (defScope s__law_few) := ⟨rfl, rfl, rfl, by decide +kernel, rfl, by decide +kernel, by decide +kernel⟩
theorem sc__law_word : FnScope ["purse", "number"] ["purse"] (defScope s__law_word) := ⟨rfl, rfl, rfl, by decide +kernel, rfl, by decide +kernel, by decide +kernel⟩
theorem sc__law_rank : FnScope ["word"] ["word"] (defScope s__law_rank) := ⟨rfl, rfl, rfl, by decide +kernel, rfl, by decide +kernel, by decide +kernel⟩
theorem sc__law_words : FnScope ["purse", "words", "k", "word"] ["purse"] (defScope s__law_words) := ⟨rfl, rfl, rfl, by decide +kernel, rfl, by decide +kernel, by decide +kernel⟩
theorem sc__law_plain : FnScope ["purse", "endless", "pick", "at", "many", "words", "truths", "values", "numbers", "texts"] ["purse", "endless"] (defScope s__law_plain) := ⟨rfl, rfl, rfl, by decide +kernel, rfl, by decide +kernel, by decide +kernel⟩
theorem sc__law_none : FnScope [] [] (defScope s__law_none) := ⟨rfl, rfl, rfl, by decide +kernel, rfl, by decide +kernel, by decide +kernel⟩
theorem sc__law_times : FnScope ["rows", "values", "found", "row"] ["rows", "values"] (defScope s__law_times) := ⟨rfl, rfl, rfl, by decide +kernel, rfl, by decide +kernel, by decide +kernel⟩
theorem sc__law_names : FnScope ["purse"] ["purse"] (defScope s__law_names) := ⟨rfl, rfl, rfl, by decide +kernel, rfl, by decide +kernel, by decide +kernel⟩
theorem sc__law_small : FnScope ["purse", "deep", "endless", "pick", "some", "values", "lists", "rows", "records", "others"] ["purse", "deep", "endless"] (defScope s__law_small) := ⟨rfl, rfl, rfl, by decide +kernel, rfl, by decide +kernel, by decide +kernel⟩
theorem sc__law_listed : FnScope ["purse", "deep", "endless", "fronts", "rows", "k", "front", "values", "more"] ["purse", "deep", "endless"] (defScope s__law_listed) := ⟨rfl, rfl, rfl, by decide +kernel, rfl, by decide +kernel, by decide +kernel⟩
theorem sc__law_recorded : FnScope ["purse", "deep", "endless", "fields", "rows", "name", "inner", "values", "must"] ["purse", "deep", "endless"] (defScope s__law_recorded) := ⟨rfl, rfl, rfl, by decide +kernel, rfl, by decide +kernel, by decide +kernel⟩
theorem sc_numbers_count : FnScope ["numbers"] ["numbers"] (defScope s_numbers_count) := ⟨rfl, rfl, rfl, by decide +kernel, rfl, by decide +kernel, by decide +kernel⟩
theorem sc_texts_count : FnScope ["texts"] ["texts"] (defScope s_texts_count) := ⟨rfl, rfl, rfl, by decide +kernel, rfl, by decide +kernel, by decide +kernel⟩
theorem sc_product : FnScope ["counts", "whole", "count"] ["counts"] (defScope s_product) := ⟨rfl, rfl, rfl, by decide +kernel, rfl, by decide +kernel, by decide +kernel⟩
theorem sc_how_many : FnScope ["some", "counts"] ["some"] (defScope s_how_many) := ⟨rfl, rfl, rfl, by decide +kernel, rfl, by decide +kernel, by decide +kernel⟩
theorem sc_lists_count : FnScope ["lists"] ["lists"] (defScope s_lists_count) := ⟨rfl, rfl, rfl, by decide +kernel, rfl, by decide +kernel, by decide +kernel⟩
theorem sc_field_count : FnScope ["field", "count"] ["field"] (defScope s_field_count) := ⟨rfl, rfl, rfl, by decide +kernel, rfl, by decide +kernel, by decide +kernel⟩
theorem sc_records_count : FnScope ["records"] ["records"] (defScope s_records_count) := ⟨rfl, rfl, rfl, by decide +kernel, rfl, by decide +kernel, by decide +kernel⟩
theorem sc_law : FnScope ["script", "purse", "some", "values", "found"] ["script"] (defScope s_law) := ⟨rfl, rfl, rfl, by decide +kernel, rfl, by decide +kernel, by decide +kernel⟩
section
variable {P : Program} {w : World} {K : PySem.W.Frag} {mg : Str → Option Value} {base : Heap} (zb : BC K mg)
include zb
theorem ok__law_mixed {a : Addr} {d : FuncData} (c : FF K mg "_law_mixed" s__law_mixed ["cell", "k"] a d) : FnOk P w K mg base CX0 1 a d ["cell", "k"] (spD ⟨K, mg⟩ 2 F__law_mixed) := by
  unfold F__law_mixed
  exact fn_d c sc__law_mixed rfl rfl fun cdv A outer s H E hr => by have hq_b := zb.b; have hq_c_NOTHING := zb.c_NOTHING; have hq_c_ANY := zb.c_ANY; have hnd := sc__law_mixed; unfold B__law_mixed; walk_at "db0"
theorem ok__law_purse {a : Addr} {d : FuncData} (c : FF K mg "_law_purse" s__law_purse ["script", "at", "step", "many"] a d) (k__law_mixed : CalleeOk F__law_mixed 2 "_law_mixed" P w K mg base 1) : FnOk P w K mg base CX0 2 a d ["script", "at", "step", "many"] (spD ⟨K, mg⟩ 4 F__law_purse) := by
  unfold F__law_purse
  exact fn_d c sc__law_purse rfl rfl fun cdv A outer s H E hr => by have hq_b := zb.b; have hq_c_NOTHING := zb.c_NOTHING; have hq_c_ANY := zb.c_ANY; have hnd := sc__law_purse; unfold B__law_purse; walk_at "db0"
theorem ok__law_next {a : Addr} {d : FuncData} (c : FF K mg "_law_next" s__law_next ["purse"] a d) : FnOk P w K mg base CX0 1 a d ["purse"] (spD ⟨K, mg⟩ 1 F__law_next) := by
  unfold F__law_next
  exact fn_d c sc__law_next rfl rfl fun cdv A outer s H E hr => by have hq_b := zb.b; have hq_c_NOTHING := zb.c_NOTHING; have hq_c_ANY := zb.c_ANY; have hnd := sc__law_next; unfold B__law_next; walk_at "db0"
theorem ok__law_few {a : Addr} {d : FuncData} (c : FF K mg "_law_few" s__law_few ["purse"] a d) (k__law_next : CalleeOk F__law_next 1 "_law_next" P w K mg base 1) : FnOk P w K mg base CX0 2 a d ["purse"] (spD ⟨K, mg⟩ 1 F__law_few) := by
  unfold F__law_few
  exact fn_d c sc__law_few rfl rfl fun cdv A outer s H E hr => by have hq_b := zb.b; have hq_c_NOTHING := zb.c_NOTHING; have hq_c_ANY := zb.c_ANY; have hnd := sc__law_few; unfold B__law_few; walk_at "db0"
theorem ok__law_word {a : Addr} {d : FuncData} (c : FF K mg "_law_word" s__law_word ["purse"] a d) (k__law_next : CalleeOk F__law_next 1 "_law_next" P w K mg base 1) : FnOk P w K mg base CX0 2 a d ["purse"] (spD ⟨K, mg⟩ 1 F__law_word) := by
  unfold F__law_word
  exact fn_d c sc__law_word rfl rfl fun cdv A outer s H E hr => by have hq_b := zb.b; have hq_c_NOTHING := zb.c_NOTHING; have hq_c_ANY := zb.c_ANY; have hnd := sc__law_word; unfold B__law_word; walk_at "db0"
theorem ok__law_rank {a : Addr} {d : FuncData} (c : FF K mg "_law_rank" s__law_rank ["word"] a d) : FnOk P w K mg base CX0 1 a d ["word"] (spD ⟨K, mg⟩ 1 F__law_rank) := by
  unfold F__law_rank
  exact fn_d c sc__law_rank rfl rfl fun cdv A outer s H E hr => by have hq_b := zb.b; have hq_c_NOTHING := zb.c_NOTHING; have hq_c_ANY := zb.c_ANY; have hnd := sc__law_rank; unfold B__law_rank; walk_at "db0"
theorem ok__law_words {a : Addr} {d : FuncData} (c : FF K mg "_law_words" s__law_words ["purse"] a d) (k__law_few : CalleeOk F__law_few 1 "_law_few" P w K mg base 2) (k__law_word : CalleeOk F__law_word 1 "_law_word" P w K mg base 2) (k__law_rank : CalleeOk F__law_rank 1 "_law_rank" P w K mg base 1) : FnOk P w K mg base CX0 4 a d ["purse"] (spD ⟨K, mg⟩ 1 F__law_words) := by
  unfold F__law_words
  exact fn_d c sc__law_words rfl rfl fun cdv A outer s H E hr => by have hq_b := zb.b; have hq_c_NOTHING := zb.c_NOTHING; have hq_c_ANY := zb.c_ANY; have hnd := sc__law_words; unfold B__law_words; walk_at "db0"
theorem ok__law_plain {a : Addr} {d : FuncData} (c : FF K mg "_law_plain" s__law_plain ["purse", "endless"] a d) (k__law_next : CalleeOk F__law_next 1 "_law_next" P w K mg base 1) (k__law_words : CalleeOk F__law_words 1 "_law_words" P w K mg base 4) : FnOk P w K mg base CX0 5 a d ["purse", "endless"] (spD ⟨K, mg⟩ 2 F__law_plain) := by
  unfold F__law_plain
  exact fn_d c sc__law_plain rfl rfl fun cdv A outer s H E hr => by have hq_b := zb.b; have hq_c_NOTHING := zb.c_NOTHING; have hq_c_ANY := zb.c_ANY; have hnd := sc__law_plain; unfold B__law_plain; walk_at "db0"
theorem ok__law_none {a : Addr} {d : FuncData} (c : FF K mg "_law_none" s__law_none [] a d) : FnOk P w K mg base CX0 1 a d [] (spD ⟨K, mg⟩ 0 F__law_none) := by
  unfold F__law_none
  exact fn_d c sc__law_none rfl rfl fun cdv A outer s H E hr => by have hq_b := zb.b; have hq_c_NOTHING := zb.c_NOTHING; have hq_c_ANY := zb.c_ANY; have hnd := sc__law_none; unfold B__law_none; walk_at "db0"
theorem ok__law_times {a : Addr} {d : FuncData} (c : FF K mg "_law_times" s__law_times ["rows", "values"] a d) : FnOk P w K mg base CX0 1 a d ["rows", "values"] (spD ⟨K, mg⟩ 2 F__law_times) := by
  unfold F__law_times
  exact fn_d c sc__law_times rfl rfl fun cdv A outer s H E hr => by have hq_b := zb.b; have hq_c_NOTHING := zb.c_NOTHING; have hq_c_ANY := zb.c_ANY; have hnd := sc__law_times; unfold B__law_times; walk_at "db0"
theorem ok__law_names {a : Addr} {d : FuncData} (c : FF K mg "_law_names" s__law_names ["purse"] a d) (k__law_words : CalleeOk F__law_words 1 "_law_words" P w K mg base 4) : FnOk P w K mg base CX0 5 a d ["purse"] (spD ⟨K, mg⟩ 1 F__law_names) := by
  unfold F__law_names
  exact fn_d c sc__law_names rfl rfl fun cdv A outer s H E hr => by have hq_b := zb.b; have hq_c_NOTHING := zb.c_NOTHING; have hq_c_ANY := zb.c_ANY; have hnd := sc__law_names; unfold B__law_names; walk_at "db0"
theorem hlp__law_listed {a : Addr} {d : FuncData} (c : FF K mg "_law_listed" s__law_listed ["purse", "deep", "endless"] a d) (k__law_few : CalleeOk F__law_few 1 "_law_few" P w K mg base 2) (k__law_plain : CalleeOk F__law_plain 2 "_law_plain" P w K mg base 5) (k__law_none : CalleeOk F__law_none 0 "_law_none" P w K mg base 1) (k__law_times : CalleeOk F__law_times 2 "_law_times" P w K mg base 1) (k__law_next : CalleeOk F__law_next 1 "_law_next" P w K mg base 1) {R : List D → M D} {lv : Nat} (k_R : CalleeOk R 3 "_law_small" P w K mg base lv) (h2 : 5 ≤ lv) : FnOk P w K mg base CX0 (lv + 1) a d ["purse", "deep", "endless"] (spD ⟨K, mg⟩ 3 (H__law_listed R)) := by
  unfold H__law_listed
  exact fn_d c sc__law_listed rfl rfl fun cdv A outer s H E hr => by have hq_b := zb.b; have hq_c_NOTHING := zb.c_NOTHING; have hq_c_ANY := zb.c_ANY; have hnd := sc__law_listed; unfold B__law_listed; walk_at "db0"
theorem hlp__law_recorded {a : Addr} {d : FuncData} (c : FF K mg "_law_recorded" s__law_recorded ["purse", "deep", "endless"] a d) (k__law_names : CalleeOk F__law_names 1 "_law_names" P w K mg base 5) (k__law_none : CalleeOk F__law_none 0 "_law_none" P w K mg base 1) (k__law_next : CalleeOk F__law_next 1 "_law_next" P w K mg base 1) (k__law_times : CalleeOk F__law_times 2 "_law_times" P w K mg base 1) {R : List D → M D} {lv : Nat} (k_R : CalleeOk R 3 "_law_small" P w K mg base lv) (h2 : 5 ≤ lv) : FnOk P w K mg base CX0 (lv + 1) a d ["purse", "deep", "endless"] (spD ⟨K, mg⟩ 3 (H__law_recorded R)) := by
  unfold H__law_recorded
  exact fn_d c sc__law_recorded rfl rfl fun cdv A outer s H E hr => by have hq_b := zb.b; have hq_c_NOTHING := zb.c_NOTHING; have hq_c_ANY := zb.c_ANY; have hnd := sc__law_recorded; unfold B__law_recorded; walk_at "db0"
theorem step__law_small {a : Addr} {d : FuncData} (c : FF K mg "_law_small" s__law_small ["purse", "deep", "endless"] a d) (k__law_plain : CalleeOk F__law_plain 2 "_law_plain" P w K mg base 5) (k__law_next : CalleeOk F__law_next 1 "_law_next" P w K mg base 1) {R : List D → M D} {lv : Nat} (k_R : CalleeOk R 3 "_law_small" P w K mg base lv) (k__law_listed : CalleeOk (H__law_listed R) 3 "_law_listed" P w K mg base (lv + 1)) (k__law_recorded : CalleeOk (H__law_recorded R) 3 "_law_recorded" P w K mg base (lv + 1)) (h2 : 5 ≤ lv) : FnOk P w K mg base CX0 (lv + 2) a d ["purse", "deep", "endless"] (spD ⟨K, mg⟩ 3 (bodyF 10 (B__law_small R))) :=
  fn_d c sc__law_small rfl rfl fun cdv A outer s H E hr => by have hq_b := zb.b; have hq_c_NOTHING := zb.c_NOTHING; have hq_c_ANY := zb.c_ANY; have hnd := sc__law_small; unfold B__law_small; walk_at "db0"
theorem rec__law_small {a : Addr} {d : FuncData} (c : FF K mg "_law_small" s__law_small ["purse", "deep", "endless"] a d) {a__law_listed : Addr} {d__law_listed : FuncData} (c__law_listed : FF K mg "_law_listed" s__law_listed ["purse", "deep", "endless"] a__law_listed d__law_listed) {a__law_recorded : Addr} {d__law_recorded : FuncData} (c__law_recorded : FF K mg "_law_recorded" s__law_recorded ["purse", "deep", "endless"] a__law_recorded d__law_recorded) (k__law_few : CalleeOk F__law_few 1 "_law_few" P w K mg base 2) (k__law_plain : CalleeOk F__law_plain 2 "_law_plain" P w K mg base 5) (k__law_none : CalleeOk F__law_none 0 "_law_none" P w K mg base 1) (k__law_times : CalleeOk F__law_times 2 "_law_times" P w K mg base 1) (k__law_next : CalleeOk F__law_next 1 "_law_next" P w K mg base 1) (k__law_names : CalleeOk F__law_names 1 "_law_names" P w K mg base 5) : ∀ n, FnOk P w K mg base CX0 (5 + 2 * n) a d ["purse", "deep", "endless"] (spD ⟨K, mg⟩ 3 (R__law_small n))
  | 0 => fn_stuck rfl
  | n + 1 => by
    have kR := CalleeOk.of c (rec__law_small c c__law_listed c__law_recorded k__law_few k__law_plain k__law_none k__law_times k__law_next k__law_names n)
    have h__law_listed := CalleeOk.of c__law_listed (hlp__law_listed zb c__law_listed k__law_few k__law_plain k__law_none k__law_times k__law_next kR (Nat.le_add_right _ _))
    have h__law_recorded := CalleeOk.of c__law_recorded (hlp__law_recorded zb c__law_recorded k__law_names k__law_none k__law_next k__law_times kR (Nat.le_add_right _ _))
    exact step__law_small zb c k__law_plain k__law_next kR h__law_listed h__law_recorded (Nat.le_add_right _ _)
theorem ok__law_small {a : Addr} {d : FuncData} (c : FF K mg "_law_small" s__law_small ["purse", "deep", "endless"] a d) {a__law_listed : Addr} {d__law_listed : FuncData} (c__law_listed : FF K mg "_law_listed" s__law_listed ["purse", "deep", "endless"] a__law_listed d__law_listed) {a__law_recorded : Addr} {d__law_recorded : FuncData} (c__law_recorded : FF K mg "_law_recorded" s__law_recorded ["purse", "deep", "endless"] a__law_recorded d__law_recorded) (k__law_few : CalleeOk F__law_few 1 "_law_few" P w K mg base 2) (k__law_plain : CalleeOk F__law_plain 2 "_law_plain" P w K mg base 5) (k__law_none : CalleeOk F__law_none 0 "_law_none" P w K mg base 1) (k__law_times : CalleeOk F__law_times 2 "_law_times" P w K mg base 1) (k__law_next : CalleeOk F__law_next 1 "_law_next" P w K mg base 1) (k__law_names : CalleeOk F__law_names 1 "_law_names" P w K mg base 5) : FnOk P w K mg base CX0 11 a d ["purse", "deep", "endless"] (spD ⟨K, mg⟩ 3 F__law_small) := rec__law_small zb c c__law_listed c__law_recorded k__law_few k__law_plain k__law_none k__law_times k__law_next k__law_names 3
theorem ok__law_listed {a : Addr} {d : FuncData} (c : FF K mg "_law_listed" s__law_listed ["purse", "deep", "endless"] a d) (k__law_few : CalleeOk F__law_few 1 "_law_few" P w K mg base 2) (k__law_plain : CalleeOk F__law_plain 2 "_law_plain" P w K mg base 5) (k__law_none : CalleeOk F__law_none 0 "_law_none" P w K mg base 1) (k__law_times : CalleeOk F__law_times 2 "_law_times" P w K mg base 1) (k__law_next : CalleeOk F__law_next 1 "_law_next" P w K mg base 1) (k__law_small : CalleeOk F__law_small 3 "_law_small" P w K mg base 11) : FnOk P w K mg base CX0 12 a d ["purse", "deep", "endless"] (spD ⟨K, mg⟩ 3 F__law_listed) := hlp__law_listed zb c k__law_few k__law_plain k__law_none k__law_times k__law_next k__law_small (by decide)
theorem ok__law_recorded {a : Addr} {d : FuncData} (c : FF K mg "_law_recorded" s__law_recorded ["purse", "deep", "endless"] a d) (k__law_names : CalleeOk F__law_names 1 "_law_names" P w K mg base 5) (k__law_none : CalleeOk F__law_none 0 "_law_none" P w K mg base 1) (k__law_next : CalleeOk F__law_next 1 "_law_next" P w K mg base 1) (k__law_times : CalleeOk F__law_times 2 "_law_times" P w K mg base 1) (k__law_small : CalleeOk F__law_small 3 "_law_small" P w K mg base 11) : FnOk P w K mg base CX0 12 a d ["purse", "deep", "endless"] (spD ⟨K, mg⟩ 3 F__law_recorded) := hlp__law_recorded zb c k__law_names k__law_none k__law_next k__law_times k__law_small (by decide)
theorem ok_numbers_count {a : Addr} {d : FuncData} (c : FF K mg "numbers_count" s_numbers_count ["numbers"] a d) : FnOk P w K mg base CX0 1 a d ["numbers"] (spD ⟨K, mg⟩ 1 F_numbers_count) := by
  unfold F_numbers_count
  exact fn_d c sc_numbers_count rfl rfl fun cdv A outer s H E hr => by have hq_b := zb.b; have hq_c_NOTHING := zb.c_NOTHING; have hq_c_ANY := zb.c_ANY; have hnd := sc_numbers_count; unfold B_numbers_count; walk_at "db0"
theorem ok_texts_count {a : Addr} {d : FuncData} (c : FF K mg "texts_count" s_texts_count ["texts"] a d) : FnOk P w K mg base CX0 1 a d ["texts"] (spD ⟨K, mg⟩ 1 F_texts_count) := by
  unfold F_texts_count
  exact fn_d c sc_texts_count rfl rfl fun cdv A outer s H E hr => by have hq_b := zb.b; have hq_c_NOTHING := zb.c_NOTHING; have hq_c_ANY := zb.c_ANY; have hnd := sc_texts_count; unfold B_texts_count; walk_at "db0"
theorem ok_product {a : Addr} {d : FuncData} (c : FF K mg "product" s_product ["counts"] a d) : FnOk P w K mg base CX0 1 a d ["counts"] (spD ⟨K, mg⟩ 1 F_product) := by
  unfold F_product
  exact fn_d c sc_product rfl rfl fun cdv A outer s H E hr => by have hq_b := zb.b; have hq_c_NOTHING := zb.c_NOTHING; have hq_c_ANY := zb.c_ANY; have hnd := sc_product; unfold B_product; walk_at "db0"
theorem hlp_lists_count {a : Addr} {d : FuncData} (c : FF K mg "lists_count" s_lists_count ["lists"] a d) (k_product : CalleeOk F_product 1 "product" P w K mg base 1) {R : List D → M D} {lv : Nat} (k_R : CalleeOk R 1 "how_many" P w K mg base lv) (h2 : 1 ≤ lv) : FnOk P w K mg base CX0 (lv + 1) a d ["lists"] (spD ⟨K, mg⟩ 1 (H_lists_count R)) := by
  unfold H_lists_count
  exact fn_d c sc_lists_count rfl rfl fun cdv A outer s H E hr => by have hq_b := zb.b; have hq_c_NOTHING := zb.c_NOTHING; have hq_c_ANY := zb.c_ANY; have hnd := sc_lists_count; unfold B_lists_count; walk_at "db0"
theorem hlp_field_count {a : Addr} {d : FuncData} (c : FF K mg "field_count" s_field_count ["field"] a d) {R : List D → M D} {lv : Nat} (k_R : CalleeOk R 1 "how_many" P w K mg base lv) (h2 : 1 ≤ lv) : FnOk P w K mg base CX0 (lv + 1) a d ["field"] (spD ⟨K, mg⟩ 1 (H_field_count R)) := by
  unfold H_field_count
  exact fn_d c sc_field_count rfl rfl fun cdv A outer s H E hr => by have hq_b := zb.b; have hq_c_NOTHING := zb.c_NOTHING; have hq_c_ANY := zb.c_ANY; have hnd := sc_field_count; unfold B_field_count; walk_at "db0"
theorem hlp_records_count {a : Addr} {d : FuncData} (c : FF K mg "records_count" s_records_count ["records"] a d) (k_product : CalleeOk F_product 1 "product" P w K mg base 1) {R : List D → M D} {lv : Nat} (k_R : CalleeOk R 1 "how_many" P w K mg base lv) (k_field_count : CalleeOk (H_field_count R) 1 "field_count" P w K mg base (lv + 1)) (h2 : 1 ≤ lv) : FnOk P w K mg base CX0 (lv + 2) a d ["records"] (spD ⟨K, mg⟩ 1 (H_records_count R)) := by
  unfold H_records_count
  exact fn_d c sc_records_count rfl rfl fun cdv A outer s H E hr => by have hq_b := zb.b; have hq_c_NOTHING := zb.c_NOTHING; have hq_c_ANY := zb.c_ANY; have hnd := sc_records_count; unfold B_records_count; walk_at "db0"
theorem step_how_many {a : Addr} {d : FuncData} (c : FF K mg "how_many" s_how_many ["some"] a d) (k_numbers_count : CalleeOk F_numbers_count 1 "numbers_count" P w K mg base 1) (k_texts_count : CalleeOk F_texts_count 1 "texts_count" P w K mg base 1) {R : List D → M D} {lv : Nat} (k_R : CalleeOk R 1 "how_many" P w K mg base lv) (k_lists_count : CalleeOk (H_lists_count R) 1 "lists_count" P w K mg base (lv + 1)) (k_records_count : CalleeOk (H_records_count R) 1 "records_count" P w K mg base (lv + 2)) (h2 : 1 ≤ lv) : FnOk P w K mg base CX0 (lv + 3) a d ["some"] (spD ⟨K, mg⟩ 1 (bodyF 2 (B_how_many R))) :=
  fn_d c sc_how_many rfl rfl fun cdv A outer s H E hr => by have hq_b := zb.b; have hq_c_NOTHING := zb.c_NOTHING; have hq_c_ANY := zb.c_ANY; have hnd := sc_how_many; unfold B_how_many; walk_at "db0"
theorem rec_how_many {a : Addr} {d : FuncData} (c : FF K mg "how_many" s_how_many ["some"] a d) {a_lists_count : Addr} {d_lists_count : FuncData} (c_lists_count : FF K mg "lists_count" s_lists_count ["lists"] a_lists_count d_lists_count) {a_field_count : Addr} {d_field_count : FuncData} (c_field_count : FF K mg "field_count" s_field_count ["field"] a_field_count d_field_count) {a_records_count : Addr} {d_records_count : FuncData} (c_records_count : FF K mg "records_count" s_records_count ["records"] a_records_count d_records_count) (k_numbers_count : CalleeOk F_numbers_count 1 "numbers_count" P w K mg base 1) (k_texts_count : CalleeOk F_texts_count 1 "texts_count" P w K mg base 1) (k_product : CalleeOk F_product 1 "product" P w K mg base 1) : ∀ n, FnOk P w K mg base CX0 (1 + 3 * n) a d ["some"] (spD ⟨K, mg⟩ 1 (R_how_many n))
  | 0 => fn_stuck rfl
  | n + 1 => by
    have kR := CalleeOk.of c (rec_how_many c c_lists_count c_field_count c_records_count k_numbers_count k_texts_count k_product n)
    have h_lists_count := CalleeOk.of c_lists_count (hlp_lists_count zb c_lists_count k_product kR (Nat.le_add_right _ _))
    have h_field_count := CalleeOk.of c_field_count (hlp_field_count zb c_field_count kR (Nat.le_add_right _ _))
    have h_records_count := CalleeOk.of c_records_count (hlp_records_count zb c_records_count k_product kR h_field_count (Nat.le_add_right _ _))
    exact step_how_many zb c k_numbers_count k_texts_count kR h_lists_count h_records_count (Nat.le_add_right _ _)
theorem ok_how_many {a : Addr} {d : FuncData} (c : FF K mg "how_many" s_how_many ["some"] a d) {a_lists_count : Addr} {d_lists_count : FuncData} (c_lists_count : FF K mg "lists_count" s_lists_count ["lists"] a_lists_count d_lists_count) {a_field_count : Addr} {d_field_count : FuncData} (c_field_count : FF K mg "field_count" s_field_count ["field"] a_field_count d_field_count) {a_records_count : Addr} {d_records_count : FuncData} (c_records_count : FF K mg "records_count" s_records_count ["records"] a_records_count d_records_count) (k_numbers_count : CalleeOk F_numbers_count 1 "numbers_count" P w K mg base 1) (k_texts_count : CalleeOk F_texts_count 1 "texts_count" P w K mg base 1) (k_product : CalleeOk F_product 1 "product" P w K mg base 1) : FnOk P w K mg base CX0 10 a d ["some"] (spD ⟨K, mg⟩ 1 F_how_many) := rec_how_many zb c c_lists_count c_field_count c_records_count k_numbers_count k_texts_count k_product 3
theorem ok_lists_count {a : Addr} {d : FuncData} (c : FF K mg "lists_count" s_lists_count ["lists"] a d) (k_product : CalleeOk F_product 1 "product" P w K mg base 1) (k_how_many : CalleeOk F_how_many 1 "how_many" P w K mg base 10) : FnOk P w K mg base CX0 11 a d ["lists"] (spD ⟨K, mg⟩ 1 F_lists_count) := hlp_lists_count zb c k_product k_how_many (by decide)
theorem ok_field_count {a : Addr} {d : FuncData} (c : FF K mg "field_count" s_field_count ["field"] a d) (k_how_many : CalleeOk F_how_many 1 "how_many" P w K mg base 10) : FnOk P w K mg base CX0 11 a d ["field"] (spD ⟨K, mg⟩ 1 F_field_count) := hlp_field_count zb c k_how_many (by decide)
theorem ok_records_count {a : Addr} {d : FuncData} (c : FF K mg "records_count" s_records_count ["records"] a d) (k_product : CalleeOk F_product 1 "product" P w K mg base 1) (k_how_many : CalleeOk F_how_many 1 "how_many" P w K mg base 10) (k_field_count : CalleeOk F_field_count 1 "field_count" P w K mg base 11) : FnOk P w K mg base CX0 12 a d ["records"] (spD ⟨K, mg⟩ 1 F_records_count) := hlp_records_count zb c k_product k_how_many k_field_count (by decide)
theorem ok_law {a : Addr} {d : FuncData} (c : FF K mg "law" s_law ["script"] a d) (k__law_purse : CalleeOk F__law_purse 4 "_law_purse" P w K mg base 2) (k__law_small : CalleeOk F__law_small 3 "_law_small" P w K mg base 11) (k_how_many : CalleeOk F_how_many 1 "how_many" P w K mg base 10) (k__law_next : CalleeOk F__law_next 1 "_law_next" P w K mg base 1) : FnOk P w K mg base CX0 12 a d ["script"] (spD ⟨K, mg⟩ 1 F_law) := by
  unfold F_law
  exact fn_d c sc_law rfl rfl fun cdv A outer s H E hr => by have hq_b := zb.b; have hq_c_NOTHING := zb.c_NOTHING; have hq_c_ANY := zb.c_ANY; have hnd := sc_law; unfold B_law; walk_at "db0"
end
set_option maxHeartbeats 4000000 in
theorem all_mk {l : PySem.W.OpenLaw} {w : World} {K : PySem.W.Frag} {h : Heap} {mg : Str → Option Value} {fa : Addr} (X : K.In h) (G : h.Ns mainGlobals mg) (hfa : mg "law" = some (.ref fa))
    {f__law_mixed : Addr} {od__law_mixed an__law_mixed : Option Addr} {sl__law_mixed : Array (Option Value)} {oc__law_mixed kV__law_mixed dc__law_mixed pm__law_mixed cd__law_mixed ct__law_mixed : Value}
    (a__law_mixed : PySem.W.nsIn K mainGlobals "_law_mixed" = some (some (.ref f__law_mixed))) (l__law_mixed : K.lookup f__law_mixed = some ⟨oc__law_mixed, od__law_mixed, .func (PySem.W.fnOf "_law_mixed" "_law_mixed" (defArgs s__law_mixed) (defBody s__law_mixed) (defScope s__law_mixed) .none kV__law_mixed dc__law_mixed pm__law_mixed an__law_mixed cd__law_mixed ct__law_mixed), sl__law_mixed⟩) (e__law_mixed : PySem.W.codeIn K cd__law_mixed "_law_mixed" = true) (k__law_mixed : PySem.W.keepIn K (.ref f__law_mixed) = true)
    {f__law_purse : Addr} {od__law_purse an__law_purse : Option Addr} {sl__law_purse : Array (Option Value)} {oc__law_purse kV__law_purse dc__law_purse pm__law_purse cd__law_purse ct__law_purse : Value}
    (a__law_purse : PySem.W.nsIn K mainGlobals "_law_purse" = some (some (.ref f__law_purse))) (l__law_purse : K.lookup f__law_purse = some ⟨oc__law_purse, od__law_purse, .func (PySem.W.fnOf "_law_purse" "_law_purse" (defArgs s__law_purse) (defBody s__law_purse) (defScope s__law_purse) .none kV__law_purse dc__law_purse pm__law_purse an__law_purse cd__law_purse ct__law_purse), sl__law_purse⟩) (e__law_purse : PySem.W.codeIn K cd__law_purse "_law_purse" = true) (k__law_purse : PySem.W.keepIn K (.ref f__law_purse) = true)
    {f__law_next : Addr} {od__law_next an__law_next : Option Addr} {sl__law_next : Array (Option Value)} {oc__law_next kV__law_next dc__law_next pm__law_next cd__law_next ct__law_next : Value}
    (a__law_next : PySem.W.nsIn K mainGlobals "_law_next" = some (some (.ref f__law_next))) (l__law_next : K.lookup f__law_next = some ⟨oc__law_next, od__law_next, .func (PySem.W.fnOf "_law_next" "_law_next" (defArgs s__law_next) (defBody s__law_next) (defScope s__law_next) .none kV__law_next dc__law_next pm__law_next an__law_next cd__law_next ct__law_next), sl__law_next⟩) (e__law_next : PySem.W.codeIn K cd__law_next "_law_next" = true) (k__law_next : PySem.W.keepIn K (.ref f__law_next) = true)
    {f__law_few : Addr} {od__law_few an__law_few : Option Addr} {sl__law_few : Array (Option Value)} {oc__law_few kV__law_few dc__law_few pm__law_few cd__law_few ct__law_few : Value}
    (a__law_few : PySem.W.nsIn K mainGlobals "_law_few" = some (some (.ref f__law_few))) (l__law_few : K.lookup f__law_few = some ⟨oc__law_few, od__law_few, .func (PySem.W.fnOf "_law_few" "_law_few" (defArgs s__law_few) (defBody s__law_few) (defScope s__law_few) .none kV__law_few dc__law_few pm__law_few an__law_few cd__law_few ct__law_few), sl__law_few⟩) (e__law_few : PySem.W.codeIn K cd__law_few "_law_few" = true) (k__law_few : PySem.W.keepIn K (.ref f__law_few) = true)
    {f__law_word : Addr} {od__law_word an__law_word : Option Addr} {sl__law_word : Array (Option Value)} {oc__law_word kV__law_word dc__law_word pm__law_word cd__law_word ct__law_word : Value}
    (a__law_word : PySem.W.nsIn K mainGlobals "_law_word" = some (some (.ref f__law_word))) (l__law_word : K.lookup f__law_word = some ⟨oc__law_word, od__law_word, .func (PySem.W.fnOf "_law_word" "_law_word" (defArgs s__law_word) (defBody s__law_word) (defScope s__law_word) .none kV__law_word dc__law_word pm__law_word an__law_word cd__law_word ct__law_word), sl__law_word⟩) (e__law_word : PySem.W.codeIn K cd__law_word "_law_word" = true) (k__law_word : PySem.W.keepIn K (.ref f__law_word) = true)
    {f__law_rank : Addr} {od__law_rank an__law_rank : Option Addr} {sl__law_rank : Array (Option Value)} {oc__law_rank kV__law_rank dc__law_rank pm__law_rank cd__law_rank ct__law_rank : Value}
    (a__law_rank : PySem.W.nsIn K mainGlobals "_law_rank" = some (some (.ref f__law_rank))) (l__law_rank : K.lookup f__law_rank = some ⟨oc__law_rank, od__law_rank, .func (PySem.W.fnOf "_law_rank" "_law_rank" (defArgs s__law_rank) (defBody s__law_rank) (defScope s__law_rank) .none kV__law_rank dc__law_rank pm__law_rank an__law_rank cd__law_rank ct__law_rank), sl__law_rank⟩) (e__law_rank : PySem.W.codeIn K cd__law_rank "_law_rank" = true) (k__law_rank : PySem.W.keepIn K (.ref f__law_rank) = true)
    {f__law_words : Addr} {od__law_words an__law_words : Option Addr} {sl__law_words : Array (Option Value)} {oc__law_words kV__law_words dc__law_words pm__law_words cd__law_words ct__law_words : Value}
    (a__law_words : PySem.W.nsIn K mainGlobals "_law_words" = some (some (.ref f__law_words))) (l__law_words : K.lookup f__law_words = some ⟨oc__law_words, od__law_words, .func (PySem.W.fnOf "_law_words" "_law_words" (defArgs s__law_words) (defBody s__law_words) (defScope s__law_words) .none kV__law_words dc__law_words pm__law_words an__law_words cd__law_words ct__law_words), sl__law_words⟩) (e__law_words : PySem.W.codeIn K cd__law_words "_law_words" = true) (k__law_words : PySem.W.keepIn K (.ref f__law_words) = true)
    {f__law_plain : Addr} {od__law_plain an__law_plain : Option Addr} {sl__law_plain : Array (Option Value)} {oc__law_plain kV__law_plain dc__law_plain pm__law_plain cd__law_plain ct__law_plain : Value}
    (a__law_plain : PySem.W.nsIn K mainGlobals "_law_plain" = some (some (.ref f__law_plain))) (l__law_plain : K.lookup f__law_plain = some ⟨oc__law_plain, od__law_plain, .func (PySem.W.fnOf "_law_plain" "_law_plain" (defArgs s__law_plain) (defBody s__law_plain) (defScope s__law_plain) .none kV__law_plain dc__law_plain pm__law_plain an__law_plain cd__law_plain ct__law_plain), sl__law_plain⟩) (e__law_plain : PySem.W.codeIn K cd__law_plain "_law_plain" = true) (k__law_plain : PySem.W.keepIn K (.ref f__law_plain) = true)
    {f__law_none : Addr} {od__law_none an__law_none : Option Addr} {sl__law_none : Array (Option Value)} {oc__law_none kV__law_none dc__law_none pm__law_none cd__law_none ct__law_none : Value}
    (a__law_none : PySem.W.nsIn K mainGlobals "_law_none" = some (some (.ref f__law_none))) (l__law_none : K.lookup f__law_none = some ⟨oc__law_none, od__law_none, .func (PySem.W.fnOf "_law_none" "_law_none" (defArgs s__law_none) (defBody s__law_none) (defScope s__law_none) .none kV__law_none dc__law_none pm__law_none an__law_none cd__law_none ct__law_none), sl__law_none⟩) (e__law_none : PySem.W.codeIn K cd__law_none "_law_none" = true) (k__law_none : PySem.W.keepIn K (.ref f__law_none) = true)
    {f__law_times : Addr} {od__law_times an__law_times : Option Addr} {sl__law_times : Array (Option Value)} {oc__law_times kV__law_times dc__law_times pm__law_times cd__law_times ct__law_times : Value}
    (a__law_times : PySem.W.nsIn K mainGlobals "_law_times" = some (some (.ref f__law_times))) (l__law_times : K.lookup f__law_times = some ⟨oc__law_times, od__law_times, .func (PySem.W.fnOf "_law_times" "_law_times" (defArgs s__law_times) (defBody s__law_times) (defScope s__law_times) .none kV__law_times dc__law_times pm__law_times an__law_times cd__law_times ct__law_times), sl__law_times⟩) (e__law_times : PySem.W.codeIn K cd__law_times "_law_times" = true) (k__law_times : PySem.W.keepIn K (.ref f__law_times) = true)
    {f__law_names : Addr} {od__law_names an__law_names : Option Addr} {sl__law_names : Array (Option Value)} {oc__law_names kV__law_names dc__law_names pm__law_names cd__law_names ct__law_names : Value}
    (a__law_names : PySem.W.nsIn K mainGlobals "_law_names" = some (some (.ref f__law_names))) (l__law_names : K.lookup f__law_names = some ⟨oc__law_names, od__law_names, .func (PySem.W.fnOf "_law_names" "_law_names" (defArgs s__law_names) (defBody s__law_names) (defScope s__law_names) .none kV__law_names dc__law_names pm__law_names an__law_names cd__law_names ct__law_names), sl__law_names⟩) (e__law_names : PySem.W.codeIn K cd__law_names "_law_names" = true) (k__law_names : PySem.W.keepIn K (.ref f__law_names) = true)
    {f__law_small : Addr} {od__law_small an__law_small : Option Addr} {sl__law_small : Array (Option Value)} {oc__law_small kV__law_small dc__law_small pm__law_small cd__law_small ct__law_small : Value}
    (a__law_small : PySem.W.nsIn K mainGlobals "_law_small" = some (some (.ref f__law_small))) (l__law_small : K.lookup f__law_small = some ⟨oc__law_small, od__law_small, .func (PySem.W.fnOf "_law_small" "_law_small" (defArgs s__law_small) (defBody s__law_small) (defScope s__law_small) .none kV__law_small dc__law_small pm__law_small an__law_small cd__law_small ct__law_small), sl__law_small⟩) (e__law_small : PySem.W.codeIn K cd__law_small "_law_small" = true) (k__law_small : PySem.W.keepIn K (.ref f__law_small) = true)
    {f__law_listed : Addr} {od__law_listed an__law_listed : Option Addr} {sl__law_listed : Array (Option Value)} {oc__law_listed kV__law_listed dc__law_listed pm__law_listed cd__law_listed ct__law_listed : Value}
    (a__law_listed : PySem.W.nsIn K mainGlobals "_law_listed" = some (some (.ref f__law_listed))) (l__law_listed : K.lookup f__law_listed = some ⟨oc__law_listed, od__law_listed, .func (PySem.W.fnOf "_law_listed" "_law_listed" (defArgs s__law_listed) (defBody s__law_listed) (defScope s__law_listed) .none kV__law_listed dc__law_listed pm__law_listed an__law_listed cd__law_listed ct__law_listed), sl__law_listed⟩) (e__law_listed : PySem.W.codeIn K cd__law_listed "_law_listed" = true) (k__law_listed : PySem.W.keepIn K (.ref f__law_listed) = true)
    {f__law_recorded : Addr} {od__law_recorded an__law_recorded : Option Addr} {sl__law_recorded : Array (Option Value)} {oc__law_recorded kV__law_recorded dc__law_recorded pm__law_recorded cd__law_recorded ct__law_recorded : Value}
    (a__law_recorded : PySem.W.nsIn K mainGlobals "_law_recorded" = some (some (.ref f__law_recorded))) (l__law_recorded : K.lookup f__law_recorded = some ⟨oc__law_recorded, od__law_recorded, .func (PySem.W.fnOf "_law_recorded" "_law_recorded" (defArgs s__law_recorded) (defBody s__law_recorded) (defScope s__law_recorded) .none kV__law_recorded dc__law_recorded pm__law_recorded an__law_recorded cd__law_recorded ct__law_recorded), sl__law_recorded⟩) (e__law_recorded : PySem.W.codeIn K cd__law_recorded "_law_recorded" = true) (k__law_recorded : PySem.W.keepIn K (.ref f__law_recorded) = true)
    {f_numbers_count : Addr} {od_numbers_count an_numbers_count : Option Addr} {sl_numbers_count : Array (Option Value)} {oc_numbers_count kV_numbers_count dc_numbers_count pm_numbers_count cd_numbers_count ct_numbers_count : Value}
    (a_numbers_count : PySem.W.nsIn K mainGlobals "numbers_count" = some (some (.ref f_numbers_count))) (l_numbers_count : K.lookup f_numbers_count = some ⟨oc_numbers_count, od_numbers_count, .func (PySem.W.fnOf "numbers_count" "numbers_count" (defArgs s_numbers_count) (defBody s_numbers_count) (defScope s_numbers_count) .none kV_numbers_count dc_numbers_count pm_numbers_count an_numbers_count cd_numbers_count ct_numbers_count), sl_numbers_count⟩) (e_numbers_count : PySem.W.codeIn K cd_numbers_count "numbers_count" = true) (k_numbers_count : PySem.W.keepIn K (.ref f_numbers_count) = true)
    {f_texts_count : Addr} {od_texts_count an_texts_count : Option Addr} {sl_texts_count : Array (Option Value)} {oc_texts_count kV_texts_count dc_texts_count pm_texts_count cd_texts_count ct_texts_count : Value}
    (a_texts_count : PySem.W.nsIn K mainGlobals "texts_count" = some (some (.ref f_texts_count))) (l_texts_count : K.lookup f_texts_count = some ⟨oc_texts_count, od_texts_count, .func (PySem.W.fnOf "texts_count" "texts_count" (defArgs s_texts_count) (defBody s_texts_count) (defScope s_texts_count) .none kV_texts_count dc_texts_count pm_texts_count an_texts_count cd_texts_count ct_texts_count), sl_texts_count⟩) (e_texts_count : PySem.W.codeIn K cd_texts_count "texts_count" = true) (k_texts_count : PySem.W.keepIn K (.ref f_texts_count) = true)
    {f_product : Addr} {od_product an_product : Option Addr} {sl_product : Array (Option Value)} {oc_product kV_product dc_product pm_product cd_product ct_product : Value}
    (a_product : PySem.W.nsIn K mainGlobals "product" = some (some (.ref f_product))) (l_product : K.lookup f_product = some ⟨oc_product, od_product, .func (PySem.W.fnOf "product" "product" (defArgs s_product) (defBody s_product) (defScope s_product) .none kV_product dc_product pm_product an_product cd_product ct_product), sl_product⟩) (e_product : PySem.W.codeIn K cd_product "product" = true) (k_product : PySem.W.keepIn K (.ref f_product) = true)
    {f_how_many : Addr} {od_how_many an_how_many : Option Addr} {sl_how_many : Array (Option Value)} {oc_how_many kV_how_many dc_how_many pm_how_many cd_how_many ct_how_many : Value}
    (a_how_many : PySem.W.nsIn K mainGlobals "how_many" = some (some (.ref f_how_many))) (l_how_many : K.lookup f_how_many = some ⟨oc_how_many, od_how_many, .func (PySem.W.fnOf "how_many" "how_many" (defArgs s_how_many) (defBody s_how_many) (defScope s_how_many) .none kV_how_many dc_how_many pm_how_many an_how_many cd_how_many ct_how_many), sl_how_many⟩) (e_how_many : PySem.W.codeIn K cd_how_many "how_many" = true) (k_how_many : PySem.W.keepIn K (.ref f_how_many) = true)
    {f_lists_count : Addr} {od_lists_count an_lists_count : Option Addr} {sl_lists_count : Array (Option Value)} {oc_lists_count kV_lists_count dc_lists_count pm_lists_count cd_lists_count ct_lists_count : Value}
    (a_lists_count : PySem.W.nsIn K mainGlobals "lists_count" = some (some (.ref f_lists_count))) (l_lists_count : K.lookup f_lists_count = some ⟨oc_lists_count, od_lists_count, .func (PySem.W.fnOf "lists_count" "lists_count" (defArgs s_lists_count) (defBody s_lists_count) (defScope s_lists_count) .none kV_lists_count dc_lists_count pm_lists_count an_lists_count cd_lists_count ct_lists_count), sl_lists_count⟩) (e_lists_count : PySem.W.codeIn K cd_lists_count "lists_count" = true) (k_lists_count : PySem.W.keepIn K (.ref f_lists_count) = true)
    {f_field_count : Addr} {od_field_count an_field_count : Option Addr} {sl_field_count : Array (Option Value)} {oc_field_count kV_field_count dc_field_count pm_field_count cd_field_count ct_field_count : Value}
    (a_field_count : PySem.W.nsIn K mainGlobals "field_count" = some (some (.ref f_field_count))) (l_field_count : K.lookup f_field_count = some ⟨oc_field_count, od_field_count, .func (PySem.W.fnOf "field_count" "field_count" (defArgs s_field_count) (defBody s_field_count) (defScope s_field_count) .none kV_field_count dc_field_count pm_field_count an_field_count cd_field_count ct_field_count), sl_field_count⟩) (e_field_count : PySem.W.codeIn K cd_field_count "field_count" = true) (k_field_count : PySem.W.keepIn K (.ref f_field_count) = true)
    {f_records_count : Addr} {od_records_count an_records_count : Option Addr} {sl_records_count : Array (Option Value)} {oc_records_count kV_records_count dc_records_count pm_records_count cd_records_count ct_records_count : Value}
    (a_records_count : PySem.W.nsIn K mainGlobals "records_count" = some (some (.ref f_records_count))) (l_records_count : K.lookup f_records_count = some ⟨oc_records_count, od_records_count, .func (PySem.W.fnOf "records_count" "records_count" (defArgs s_records_count) (defBody s_records_count) (defScope s_records_count) .none kV_records_count dc_records_count pm_records_count an_records_count cd_records_count ct_records_count), sl_records_count⟩) (e_records_count : PySem.W.codeIn K cd_records_count "records_count" = true) (k_records_count : PySem.W.keepIn K (.ref f_records_count) = true)
    {f_law : Addr} {od_law an_law : Option Addr} {sl_law : Array (Option Value)} {oc_law kV_law dc_law pm_law cd_law ct_law : Value}
    (a_law : PySem.W.nsIn K mainGlobals "law" = some (some (.ref f_law))) (l_law : K.lookup f_law = some ⟨oc_law, od_law, .func (PySem.W.fnOf "law" "law" (defArgs s_law) (defBody s_law) (defScope s_law) .none kV_law dc_law pm_law an_law cd_law ct_law), sl_law⟩) (e_law : PySem.W.codeIn K cd_law "law" = true) (k_law : PySem.W.keepIn K (.ref f_law) = true)
    {a_NOTHING : Addr} {n_NOTHING : Nat} {sl_NOTHING : Array (Option Value)} {a_NOTHING_0 : Addr} {n_NOTHING_0 : Nat} {sl_NOTHING_0 : Array (Option Value)} {a_NOTHING_1 : Addr} {n_NOTHING_1 : Nat} {sl_NOTHING_1 : Array (Option Value)} {t_NOTHING_1_0 : Tok} {a_NOTHING_1_1 : Addr} {n_NOTHING_1_1 : Nat} {sl_NOTHING_1_1 : Array (Option Value)} {a_NOTHING_2 : Addr} {n_NOTHING_2 : Nat} {sl_NOTHING_2 : Array (Option Value)}
    (g_NOTHING : PySem.W.nsIn K mainGlobals "NOTHING" = some (some (.ref a_NOTHING))) (l_NOTHING : K.lookup a_NOTHING = some ⟨.type "tuple", none, .seq #[.ref a_NOTHING_0, .ref a_NOTHING_1, .ref a_NOTHING_2, .none, .none] n_NOTHING, sl_NOTHING⟩) (l_NOTHING_0 : K.lookup a_NOTHING_0 = some ⟨.type "tuple", none, .seq #[] n_NOTHING_0, sl_NOTHING_0⟩) (l_NOTHING_1 : K.lookup a_NOTHING_1 = some ⟨.type "tuple", none, .seq #[.str "of" t_NOTHING_1_0, .ref a_NOTHING_1_1] n_NOTHING_1, sl_NOTHING_1⟩) (l_NOTHING_1_1 : K.lookup a_NOTHING_1_1 = some ⟨.type "tuple", none, .seq #[] n_NOTHING_1_1, sl_NOTHING_1_1⟩) (l_NOTHING_2 : K.lookup a_NOTHING_2 = some ⟨.type "tuple", none, .seq #[] n_NOTHING_2, sl_NOTHING_2⟩)
    {t_ANY : Tok}
    (g_ANY : PySem.W.nsIn K mainGlobals "ANY" = some (some (.str "any" t_ANY)))
    (y_len : PySem.W.nsIn K mainGlobals "len" = some none)
    (y_isinstance : PySem.W.nsIn K mainGlobals "isinstance" = some none)
    (y_all : PySem.W.nsIn K mainGlobals "all" = some none)
    (y_any : PySem.W.nsIn K mainGlobals "any" = some none)
    (y_sum : PySem.W.nsIn K mainGlobals "sum" = some none)
    (y_min : PySem.W.nsIn K mainGlobals "min" = some none)
    (y_max : PySem.W.nsIn K mainGlobals "max" = some none)
    (y_abs : PySem.W.nsIn K mainGlobals "abs" = some none)
    (y_sorted : PySem.W.nsIn K mainGlobals "sorted" = some none)
    (y_tuple : PySem.W.nsIn K mainGlobals "tuple" = some none)
    (y_list : PySem.W.nsIn K mainGlobals "list" = some none)
    (y_int : PySem.W.nsIn K mainGlobals "int" = some none)
    (y_str : PySem.W.nsIn K mainGlobals "str" = some none)
    (y_bool : PySem.W.nsIn K mainGlobals "bool" = some none)
    (y_dict : PySem.W.nsIn K mainGlobals "dict" = some none)
    (y_zip : PySem.W.nsIn K mainGlobals "zip" = some none)
    (y_enumerate : PySem.W.nsIn K mainGlobals "enumerate" = some none)
    (y_range : PySem.W.nsIn K mainGlobals "range" = some none)
    (y_reversed : PySem.W.nsIn K mainGlobals "reversed" = some none)
    (pure : ∀ ns : List Int, ns.length ≤ 63 → ∃ G', F_law [.ref 0] [.rol (ns.map D.int)] = some (.ok (.bl true), G')) :
    ∃ fd : FuncData, (∀ (s : Shared) (v : Value), BindsTo s fd ⟨[v], []⟩ [("script", v)]) ∧ ∀ base : Heap, K.In base → base.Ns mainGlobals mg → FnOk l.prog w K mg base CX0 12 fa fd ["script"] (spLaw K) := by
  have e := hfa.symm.trans (PySem.W.mg_of X G a_law)
  cases e
  have C__law_mixed : FF K mg "_law_mixed" s__law_mixed ["cell", "k"] _ _ := ⟨fun_mk (st := s__law_mixed) l__law_mixed e__law_mixed k__law_mixed, (fun_mk (st := s__law_mixed) l__law_mixed e__law_mixed k__law_mixed).binds (ps := ["cell", "k"]) (fun _ _ _ _ _ _ us hl => match us, hl with | [_, _], _ => rfl), PySem.W.mg_of X G a__law_mixed⟩
  have C__law_purse : FF K mg "_law_purse" s__law_purse ["script", "at", "step", "many"] _ _ := ⟨fun_mk (st := s__law_purse) l__law_purse e__law_purse k__law_purse, (fun_mk (st := s__law_purse) l__law_purse e__law_purse k__law_purse).binds (ps := ["script", "at", "step", "many"]) (fun _ _ _ _ _ _ us hl => match us, hl with | [_, _, _, _], _ => rfl), PySem.W.mg_of X G a__law_purse⟩
  have C__law_next : FF K mg "_law_next" s__law_next ["purse"] _ _ := ⟨fun_mk (st := s__law_next) l__law_next e__law_next k__law_next, (fun_mk (st := s__law_next) l__law_next e__law_next k__law_next).binds (ps := ["purse"]) (fun _ _ _ _ _ _ us hl => match us, hl with | [_], _ => rfl), PySem.W.mg_of X G a__law_next⟩
  have C__law_few : FF K mg "_law_few" s__law_few ["purse"] _ _ := ⟨fun_mk (st := s__law_few) l__law_few e__law_few k__law_few, (fun_mk (st := s__law_few) l__law_few e__law_few k__law_few).binds (ps := ["purse"]) (fun _ _ _ _ _ _ us hl => match us, hl with | [_], _ => rfl), PySem.W.mg_of X G a__law_few⟩
  have C__law_word : FF K mg "_law_word" s__law_word ["purse"] _ _ := ⟨fun_mk (st := s__law_word) l__law_word e__law_word k__law_word, (fun_mk (st := s__law_word) l__law_word e__law_word k__law_word).binds (ps := ["purse"]) (fun _ _ _ _ _ _ us hl => match us, hl with | [_], _ => rfl), PySem.W.mg_of X G a__law_word⟩
  have C__law_rank : FF K mg "_law_rank" s__law_rank ["word"] _ _ := ⟨fun_mk (st := s__law_rank) l__law_rank e__law_rank k__law_rank, (fun_mk (st := s__law_rank) l__law_rank e__law_rank k__law_rank).binds (ps := ["word"]) (fun _ _ _ _ _ _ us hl => match us, hl with | [_], _ => rfl), PySem.W.mg_of X G a__law_rank⟩
  have C__law_words : FF K mg "_law_words" s__law_words ["purse"] _ _ := ⟨fun_mk (st := s__law_words) l__law_words e__law_words k__law_words, (fun_mk (st := s__law_words) l__law_words e__law_words k__law_words).binds (ps := ["purse"]) (fun _ _ _ _ _ _ us hl => match us, hl with | [_], _ => rfl), PySem.W.mg_of X G a__law_words⟩
  have C__law_plain : FF K mg "_law_plain" s__law_plain ["purse", "endless"] _ _ := ⟨fun_mk (st := s__law_plain) l__law_plain e__law_plain k__law_plain, (fun_mk (st := s__law_plain) l__law_plain e__law_plain k__law_plain).binds (ps := ["purse", "endless"]) (fun _ _ _ _ _ _ us hl => match us, hl with | [_, _], _ => rfl), PySem.W.mg_of X G a__law_plain⟩
  have C__law_none : FF K mg "_law_none" s__law_none [] _ _ := ⟨fun_mk (st := s__law_none) l__law_none e__law_none k__law_none, (fun_mk (st := s__law_none) l__law_none e__law_none k__law_none).binds (ps := []) (fun _ _ _ _ _ _ us hl => match us, hl with | [], _ => rfl), PySem.W.mg_of X G a__law_none⟩
  have C__law_times : FF K mg "_law_times" s__law_times ["rows", "values"] _ _ := ⟨fun_mk (st := s__law_times) l__law_times e__law_times k__law_times, (fun_mk (st := s__law_times) l__law_times e__law_times k__law_times).binds (ps := ["rows", "values"]) (fun _ _ _ _ _ _ us hl => match us, hl with | [_, _], _ => rfl), PySem.W.mg_of X G a__law_times⟩
  have C__law_names : FF K mg "_law_names" s__law_names ["purse"] _ _ := ⟨fun_mk (st := s__law_names) l__law_names e__law_names k__law_names, (fun_mk (st := s__law_names) l__law_names e__law_names k__law_names).binds (ps := ["purse"]) (fun _ _ _ _ _ _ us hl => match us, hl with | [_], _ => rfl), PySem.W.mg_of X G a__law_names⟩
  have C__law_small : FF K mg "_law_small" s__law_small ["purse", "deep", "endless"] _ _ := ⟨fun_mk (st := s__law_small) l__law_small e__law_small k__law_small, (fun_mk (st := s__law_small) l__law_small e__law_small k__law_small).binds (ps := ["purse", "deep", "endless"]) (fun _ _ _ _ _ _ us hl => match us, hl with | [_, _, _], _ => rfl), PySem.W.mg_of X G a__law_small⟩
  have C__law_listed : FF K mg "_law_listed" s__law_listed ["purse", "deep", "endless"] _ _ := ⟨fun_mk (st := s__law_listed) l__law_listed e__law_listed k__law_listed, (fun_mk (st := s__law_listed) l__law_listed e__law_listed k__law_listed).binds (ps := ["purse", "deep", "endless"]) (fun _ _ _ _ _ _ us hl => match us, hl with | [_, _, _], _ => rfl), PySem.W.mg_of X G a__law_listed⟩
  have C__law_recorded : FF K mg "_law_recorded" s__law_recorded ["purse", "deep", "endless"] _ _ := ⟨fun_mk (st := s__law_recorded) l__law_recorded e__law_recorded k__law_recorded, (fun_mk (st := s__law_recorded) l__law_recorded e__law_recorded k__law_recorded).binds (ps := ["purse", "deep", "endless"]) (fun _ _ _ _ _ _ us hl => match us, hl with | [_, _, _], _ => rfl), PySem.W.mg_of X G a__law_recorded⟩
  have C_numbers_count : FF K mg "numbers_count" s_numbers_count ["numbers"] _ _ := ⟨fun_mk (st := s_numbers_count) l_numbers_count e_numbers_count k_numbers_count, (fun_mk (st := s_numbers_count) l_numbers_count e_numbers_count k_numbers_count).binds (ps := ["numbers"]) (fun _ _ _ _ _ _ us hl => match us, hl with | [_], _ => rfl), PySem.W.mg_of X G a_numbers_count⟩
  have C_texts_count : FF K mg "texts_count" s_texts_count ["texts"] _ _ := ⟨fun_mk (st := s_texts_count) l_texts_count e_texts_count k_texts_count, (fun_mk (st := s_texts_count) l_texts_count e_texts_count k_texts_count).binds (ps := ["texts"]) (fun _ _ _ _ _ _ us hl => match us, hl with | [_], _ => rfl), PySem.W.mg_of X G a_texts_count⟩
  have C_product : FF K mg "product" s_product ["counts"] _ _ := ⟨fun_mk (st := s_product) l_product e_product k_product, (fun_mk (st := s_product) l_product e_product k_product).binds (ps := ["counts"]) (fun _ _ _ _ _ _ us hl => match us, hl with | [_], _ => rfl), PySem.W.mg_of X G a_product⟩
  have C_how_many : FF K mg "how_many" s_how_many ["some"] _ _ := ⟨fun_mk (st := s_how_many) l_how_many e_how_many k_how_many, (fun_mk (st := s_how_many) l_how_many e_how_many k_how_many).binds (ps := ["some"]) (fun _ _ _ _ _ _ us hl => match us, hl with | [_], _ => rfl), PySem.W.mg_of X G a_how_many⟩
  have C_lists_count : FF K mg "lists_count" s_lists_count ["lists"] _ _ := ⟨fun_mk (st := s_lists_count) l_lists_count e_lists_count k_lists_count, (fun_mk (st := s_lists_count) l_lists_count e_lists_count k_lists_count).binds (ps := ["lists"]) (fun _ _ _ _ _ _ us hl => match us, hl with | [_], _ => rfl), PySem.W.mg_of X G a_lists_count⟩
  have C_field_count : FF K mg "field_count" s_field_count ["field"] _ _ := ⟨fun_mk (st := s_field_count) l_field_count e_field_count k_field_count, (fun_mk (st := s_field_count) l_field_count e_field_count k_field_count).binds (ps := ["field"]) (fun _ _ _ _ _ _ us hl => match us, hl with | [_], _ => rfl), PySem.W.mg_of X G a_field_count⟩
  have C_records_count : FF K mg "records_count" s_records_count ["records"] _ _ := ⟨fun_mk (st := s_records_count) l_records_count e_records_count k_records_count, (fun_mk (st := s_records_count) l_records_count e_records_count k_records_count).binds (ps := ["records"]) (fun _ _ _ _ _ _ us hl => match us, hl with | [_], _ => rfl), PySem.W.mg_of X G a_records_count⟩
  have C_law : FF K mg "law" s_law ["script"] _ _ := ⟨fun_mk (st := s_law) l_law e_law k_law, (fun_mk (st := s_law) l_law e_law k_law).binds (ps := ["script"]) (fun _ _ _ _ _ _ us hl => match us, hl with | [_], _ => rfl), PySem.W.mg_of X G a_law⟩
  have zb0 : BLs mg := ⟨fun b hb => by
    simp only [bltL, List.mem_cons, List.not_mem_nil, or_false] at hb
    rcases hb with rfl | rfl | rfl | rfl | rfl | rfl | rfl | rfl | rfl | rfl | rfl | rfl | rfl | rfl | rfl | rfl | rfl | rfl | rfl
    all_goals first
      | exact PySem.W.mg_none_of X G y_len
      | exact PySem.W.mg_none_of X G y_isinstance
      | exact PySem.W.mg_none_of X G y_all
      | exact PySem.W.mg_none_of X G y_any
      | exact PySem.W.mg_none_of X G y_sum
      | exact PySem.W.mg_none_of X G y_min
      | exact PySem.W.mg_none_of X G y_max
      | exact PySem.W.mg_none_of X G y_abs
      | exact PySem.W.mg_none_of X G y_sorted
      | exact PySem.W.mg_none_of X G y_tuple
      | exact PySem.W.mg_none_of X G y_list
      | exact PySem.W.mg_none_of X G y_int
      | exact PySem.W.mg_none_of X G y_str
      | exact PySem.W.mg_none_of X G y_bool
      | exact PySem.W.mg_none_of X G y_dict
      | exact PySem.W.mg_none_of X G y_zip
      | exact PySem.W.mg_none_of X G y_enumerate
      | exact PySem.W.mg_none_of X G y_range
      | exact PySem.W.mg_none_of X G y_reversed⟩
  have zb : BC K mg := ⟨zb0, ⟨_, PySem.W.mg_of X G g_NOTHING, cr_tup (us := [.ref a_NOTHING_0, .ref a_NOTHING_1, .ref a_NOTHING_2, .none, .none]) l_NOTHING rfl (crl_cons (cr_tup (us := []) l_NOTHING_0 rfl (crl_nil)) (crl_cons (cr_tup (us := [.str "of" t_NOTHING_1_0, .ref a_NOTHING_1_1]) l_NOTHING_1 rfl (crl_cons (cr_str) (crl_cons (cr_tup (us := []) l_NOTHING_1_1 rfl (crl_nil)) (crl_nil)))) (crl_cons (cr_tup (us := []) l_NOTHING_2 rfl (crl_nil)) (crl_cons (cr_non) (crl_cons (cr_non) (crl_nil))))))⟩, ⟨_, PySem.W.mg_of X G g_ANY, cr_str⟩⟩
  refine ⟨PySem.W.fnOf "law" "law" (defArgs s_law) (defBody s_law) (defScope s_law) .none kV_law dc_law pm_law an_law cd_law ct_law, fun s v => .of_eq rfl, fun base _ _ => law_of ?_ pure⟩
  have O__law_mixed := ok__law_mixed (P := l.prog) (w := w) (base := base) zb C__law_mixed
  have O__law_purse := ok__law_purse (P := l.prog) (w := w) (base := base) zb C__law_purse (CalleeOk.of C__law_mixed O__law_mixed)
  have O__law_next := ok__law_next (P := l.prog) (w := w) (base := base) zb C__law_next
  have O__law_few := ok__law_few (P := l.prog) (w := w) (base := base) zb C__law_few (CalleeOk.of C__law_next O__law_next)
  have O__law_word := ok__law_word (P := l.prog) (w := w) (base := base) zb C__law_word (CalleeOk.of C__law_next O__law_next)
  have O__law_rank := ok__law_rank (P := l.prog) (w := w) (base := base) zb C__law_rank
  have O__law_words := ok__law_words (P := l.prog) (w := w) (base := base) zb C__law_words (CalleeOk.of C__law_few O__law_few) (CalleeOk.of C__law_word O__law_word) (CalleeOk.of C__law_rank O__law_rank)
  have O__law_plain := ok__law_plain (P := l.prog) (w := w) (base := base) zb C__law_plain (CalleeOk.of C__law_next O__law_next) (CalleeOk.of C__law_words O__law_words)
  have O__law_none := ok__law_none (P := l.prog) (w := w) (base := base) zb C__law_none
  have O__law_times := ok__law_times (P := l.prog) (w := w) (base := base) zb C__law_times
  have O__law_names := ok__law_names (P := l.prog) (w := w) (base := base) zb C__law_names (CalleeOk.of C__law_words O__law_words)
  have O__law_small := ok__law_small (P := l.prog) (w := w) (base := base) zb C__law_small C__law_listed C__law_recorded (CalleeOk.of C__law_few O__law_few) (CalleeOk.of C__law_plain O__law_plain) (CalleeOk.of C__law_none O__law_none) (CalleeOk.of C__law_times O__law_times) (CalleeOk.of C__law_next O__law_next) (CalleeOk.of C__law_names O__law_names)
  have O__law_listed := ok__law_listed (P := l.prog) (w := w) (base := base) zb C__law_listed (CalleeOk.of C__law_few O__law_few) (CalleeOk.of C__law_plain O__law_plain) (CalleeOk.of C__law_none O__law_none) (CalleeOk.of C__law_times O__law_times) (CalleeOk.of C__law_next O__law_next) (CalleeOk.of C__law_small O__law_small)
  have O__law_recorded := ok__law_recorded (P := l.prog) (w := w) (base := base) zb C__law_recorded (CalleeOk.of C__law_names O__law_names) (CalleeOk.of C__law_none O__law_none) (CalleeOk.of C__law_next O__law_next) (CalleeOk.of C__law_times O__law_times) (CalleeOk.of C__law_small O__law_small)
  have O_numbers_count := ok_numbers_count (P := l.prog) (w := w) (base := base) zb C_numbers_count
  have O_texts_count := ok_texts_count (P := l.prog) (w := w) (base := base) zb C_texts_count
  have O_product := ok_product (P := l.prog) (w := w) (base := base) zb C_product
  have O_how_many := ok_how_many (P := l.prog) (w := w) (base := base) zb C_how_many C_lists_count C_field_count C_records_count (CalleeOk.of C_numbers_count O_numbers_count) (CalleeOk.of C_texts_count O_texts_count) (CalleeOk.of C_product O_product)
  have O_lists_count := ok_lists_count (P := l.prog) (w := w) (base := base) zb C_lists_count (CalleeOk.of C_product O_product) (CalleeOk.of C_how_many O_how_many)
  have O_field_count := ok_field_count (P := l.prog) (w := w) (base := base) zb C_field_count (CalleeOk.of C_how_many O_how_many)
  have O_records_count := ok_records_count (P := l.prog) (w := w) (base := base) zb C_records_count (CalleeOk.of C_product O_product) (CalleeOk.of C_how_many O_how_many) (CalleeOk.of C_field_count O_field_count)
  have O_law := ok_law (P := l.prog) (w := w) (base := base) zb C_law (CalleeOk.of C__law_purse O__law_purse) (CalleeOk.of C__law_small O__law_small) (CalleeOk.of C_how_many O_how_many) (CalleeOk.of C__law_next O__law_next)
  exact O_law
theorem walk {l : PySem.W.OpenLaw} {q : Program} {loose : List Str} {XP : (Str → Option Value) → Heap → Prop} {YP : World → Heap → Prop} {d : DefRec} {K : Params → PySem.W.Frag} (hn : l.most = some 63) (hdf : d.params.defaults = [])
    (hY : ∀ (w : World) (h : Heap), YP w h → (K w.params).In h)
    (F : ∀ (w : World) (mg : Str → Option Value) (fa : Addr) (h : Heap), (K w.params).In h → h.Ns mainGlobals mg → mg d.name = some (.ref fa) →
      ∃ fd : FuncData, (∀ (s : Shared) (u : Value), BindsTo s fd ⟨[u], []⟩ [("script", u)]) ∧ ∀ base : Heap, (K w.params).In base → base.Ns mainGlobals mg → FnOk l.prog w (K w.params) mg base CX0 12 fa fd ["script"] (spLaw (K w.params))) :
    PySem.W.WalkO q loose XP YP l.row.toRowW d [] (fun f vs => PySem.call f vs) :=
  L2.walk_of (n := 63) (k := 12) (x := "script") (CX := fun _ => CX0) (sp := fun w => spLaw (K w.params)) hn (by decide) hdf ⟨rfl, by decide, by decide⟩ hY F (fun _ _ a ns hl hO hS => ⟨a, ns, rfl, hS, hO, hl, fun _ => rfl⟩) fun _ _ _ _ _ z => z
end W
set_option Elab.async false
set_option linter.all false
set_option maxRecDepth 100000
namespace W
open PySem PySem.Spec L2 DL
open PyProof.Rows hiding St
mutual
noncomputable def szD : D → Nat
  | .tup l => 1 + szL l
  | .str _ => 1
  | .ref _ => 1
  | .fn _ => 1
  | .ty _ => 1
  | .non => 1
  | .bl _ => 1
  | .int _ => 1
noncomputable def szL : List D → Nat
  | [] => 0
  | d :: r => szD d + szL r
end
noncomputable abbrev wList : Str := "list"
noncomputable abbrev wRec : Str := "record"
noncomputable def Ap (G G' : DH) : Prop := ∃ t, G' = G ++ t
theorem Ap.refl {G : DH} : Ap G G := ⟨[], by simp⟩
theorem Ap.trans {G G1 G2 : DH} (h : Ap G G1) (k : Ap G1 G2) : Ap G G2 := by
  obtain ⟨t, rfl⟩ := h
  obtain ⟨u, rfl⟩ := k
  exact ⟨t ++ u, by simp⟩
theorem Ap.one {G : DH} {o : DO} : Ap G (G ++ [o]) := ⟨_, rfl⟩
theorem Ap.at {G G' : DH} {p : Nat} {o : DO} (h : Ap G G') (e : G[p]? = some o) : G'[p]? = some o := by
  obtain ⟨t, rfl⟩ := h
  exact at_app e
theorem Ap.len {G G' : DH} (h : Ap G G') : G.length ≤ G'.length := by
  obtain ⟨t, rfl⟩ := h
  simp
section
variable {g : Fg} {t : DSt → M Bool} {e : Fe} {ck : DH → Bool}
end
theorem eq_nil' {G : DH} {p q : Nat} {xs : List D} {Q : D → DH → Prop} (e : G[p]? = some (.lst xs)) (eq : G[q]? = some (.lst [])) : Wp (eqD (.ref p) (.ref q)) G Q ↔ Q (.bl xs.isEmpty) G := by
  have h : eqN 40 G (.ref p) (.ref q) = some xs.isEmpty := by
    have h1 : seqK G (.ref p) = some (false, xs) := by simp only [seqK, e]
    have h2 : seqK G (.ref q) = some (false, []) := by simp only [seqK, eq]
    rw [eqN, h1, h2]
    cases xs <;> rfl
  rw [wp_eq, h]; exact someI
theorem sl_lst {G : DH} {p : Nat} {l : List D} {lo hi : Option Int} {Q : D → DH → Prop} (e : G[p]? = some (.lst l)) : Wp (slD (.ref p) lo hi) G Q ↔ Q (.ref G.length) (G ++ [.lst (DL.cutD l lo hi)]) := by
  have h : slD (.ref p) lo hi = (do
    let l ← objM p >>= DL.listOf
    allocM (.lst (DL.cutD l lo hi))) := rfl
  rw [h]
  simp only [wp_bind, wp_obj, e, someI, DL.listOf, wp_pure, wp_alloc]
theorem big : 1000000 < sizeLine := by decide
section
variable {t : DSt → M Bool} {b : Fs} {σ : DSt} {G : DH} {P : Fl → DH → Prop}
end
theorem pop_lst {r : Nat} {l : List D} {y : D} {G : DH} {Q : D → DH → Prop} (h : G[r]? = some (.lst (l ++ [y]))) : Wp (popD (.ref r) []) G Q ↔ Q y (G.set r (.lst l)) := by
  have e : popD (.ref r) [] = (do
    let l ← lstM r
    match l.getLast? with
    | some y => do
      let _ ← putM r (.lst l.dropLast)
      pure y
    | none => M.stuck) := rfl
  rw [e]
  unfold lstM
  simp only [wp_bind, wp_obj, h, someI, wp_pure, List.getLast?_append, List.getLast?_singleton, Option.some_or, List.dropLast_concat, wp_put]
theorem extend_lst {r q : Nat} {l k : List D} {G : DH} {Q : D → DH → Prop} (h : G[r]? = some (.lst l)) (hq : G[q]? = some (.lst k)) (hl : l.length + k.length ≤ sizeLine) : Wp (extendD (.ref r) [.ref q]) G Q ↔ Q .non (G.set r (.lst (l ++ k))) := by
  have e : extendD (.ref r) [.ref q] = (do
    let l ← lstM r
    let k ← lstM q
    if l.length + k.length ≤ sizeLine then do
      let _ ← putM r (.lst (l ++ k))
      pure .non
    else M.stuck) := rfl
  rw [e]
  unfold lstM
  simp only [wp_bind, wp_obj, h, hq, someI, wp_pure, if_pos hl, wp_put]
theorem Gr.set {G0 G : DH} {p : Nat} {o : DO} (h : Gr G0 G) (hp : G0.length ≤ p) : Gr G0 (G.set p o) := ⟨by rw [List.length_set]; exact h.1, fun i hi => by rw [List.getElem?_set_ne (by omega)]; exact h.2 i hi⟩
theorem lt_of_get {G : DH} {p : Nat} {o : DO} (e : G[p]? = some o) : p < G.length := by
  by_cases hi : p < G.length
  · exact hi
  · rw [List.getElem?_eq_none (by omega)] at e; cases e
end W
set_option Elab.async false
set_option linter.all false
set_option maxRecDepth 100000
namespace W
open PySem PySem.Spec L2 DL
open PyProof.Rows hiding St
noncomputable def VB (b : Nat) : Nat → D → Prop
  | 0, _ => False
  | n + 1, d => (∃ i, d = .int i) ∨ (∃ k, d = .bl k) ∨ (∃ z, d = .str z ∧ z.length ≤ b) ∨ (∃ l, d = .tup [.str wList, .tup l] ∧ ∀ x ∈ l, VB b n x) ∨ (∃ l, d = .tup [.str wRec, .tup l] ∧ ∀ x ∈ l, ∃ nm v, x = .tup [.str nm, v] ∧ nm.length ≤ 1000 ∧ VB b n v)
section
variable {bd n : Nat}
theorem VB.b {i : Bool} : VB bd (n + 1) (.bl i) := .inr (.inl ⟨i, rfl⟩)
theorem VB.l {l : List D} (h : ∀ x ∈ l, VB bd n x) : VB bd (n + 1) (.tup [.str wList, .tup l]) := .inr (.inr (.inr (.inl ⟨l, rfl, h⟩)))
theorem VB.r {l : List D} (h : ∀ x ∈ l, ∃ nm v, x = .tup [.str nm, v] ∧ nm.length ≤ 1000 ∧ VB bd n v) : VB bd (n + 1) (.tup [.str wRec, .tup l]) := .inr (.inr (.inr (.inr ⟨l, rfl, h⟩)))
end
theorem VB.pos {b n : Nat} {d : D} (h : VB b n d) : 0 < n := by
  cases n with
  | zero => exact h.elim
  | succ n => omega
theorem VB.there {b n : Nat} {d : D} {G : DH} (h : VB b n d) : There G d := by
  cases n with
  | zero => exact h.elim
  | succ n => rcases h with ⟨i, rfl⟩ | ⟨k, rfl⟩ | ⟨z, rfl, hz⟩ | ⟨l, rfl, hl⟩ | ⟨l, rfl, hl⟩ <;> exact ⟨_, rfl⟩
theorem cut_take (l : List D) (n : Nat) : DL.cutD l none (some (n : Int)) = l.take n := by
  unfold DL.cutD
  rw [HT.sIx_none, HT.sIx_nat, List.drop_zero, Nat.sub_zero]
  by_cases h : n ≤ l.length
  · rw [Nat.min_eq_left h]
  · rw [Nat.min_eq_right (by omega), List.take_of_length_le (Nat.le_refl _), List.take_of_length_le (by omega)]
section
variable {G : DH} {Q : D → DH → Prop}
noncomputable def isBlD : D → Bool
  | .bl _ => true
  | _ => false
theorem bool_wp {d : D} (h : There G d) : Wp (isinstF [d, .ty "bool"]) G Q ↔ Q (.bl (isBlD d)) G := by
  obtain ⟨k, h⟩ := h
  rw [wp_isinst ty_bool]
  simp only [h, someI]
  cases d <;> simp only [kdOf] at h <;> first
    | (cases h; done)
    | (cases h; simp [Kd.is, isBlD]; done)
    | (split at h <;> first | (cases h; done) | (cases h; simp [Kd.is, isBlD]))
theorem int_bl {k : Bool} : Wp (intF [.bl k]) G Q ↔ Q (.int (if k then 1 else 0)) G := wp_pure
theorem abs_int {i : Int} : Wp (absF [.int i]) G Q ↔ Q (.int (if i < 0 then -i else i)) G := wp_pure
end
noncomputable def All2 {α β : Type} (R : α → β → Prop) : List α → List β → Prop
  | [], [] => True
  | a :: r, b :: s => R a b ∧ All2 R r s
  | _, _ => False
section
variable {α β : Type} {R S : α → β → Prop}
theorem All2.len : ∀ {a : List α} {b : List β}, All2 R a b → a.length = b.length
  | [], [], _ => rfl
  | _ :: _, _ :: _, h => by simp [All2.len h.2]
  | [], _ :: _, h => h.elim
  | _ :: _, [], h => h.elim
theorem All2.mono (k : ∀ a b, R a b → S a b) : ∀ {a : List α} {b : List β}, All2 R a b → All2 S a b
  | [], [], _ => trivial
  | _ :: _, _ :: _, h => ⟨k _ _ h.1, All2.mono k h.2⟩
  | [], _ :: _, h => h.elim
  | _ :: _, [], h => h.elim
theorem All2.app : ∀ {a c : List α} {b d : List β}, All2 R a b → All2 R c d → All2 R (a ++ c) (b ++ d)
  | [], _, [], _, _, h => h
  | _ :: _, _, _ :: _, _, h, k => ⟨h.1, All2.app h.2 k⟩
  | [], _, _ :: _, _, h, _ => h.elim
  | _ :: _, _, [], _, h, _ => h.elim
end
end W
set_option Elab.async false
set_option linter.all false
set_option maxRecDepth 100000
namespace W
open PySem PySem.Spec L2 DL
open PyProof.Rows hiding St
noncomputable def Dr (G : DH) (r : Nat) : Prop := ∃ ns : List Nat, G[r]? = some (.lst (ns.map fun n : Nat => D.int (n : Int)))
noncomputable def Fd (r : Nat) (G G' : DH) : Prop := G.length ≤ G'.length ∧ (∀ i, i ≠ r → i < G.length → G'[i]? = G[i]?) ∧ Dr G' r
theorem Dr.lt {G : DH} {r : Nat} (h : Dr G r) : r < G.length := by
  obtain ⟨ns, hr⟩ := h
  exact lt_of_get hr
theorem Dr.app {G t : DH} {r : Nat} (h : Dr G r) : Dr (G ++ t) r := by
  obtain ⟨ns, hr⟩ := h
  exact ⟨ns, at_app hr⟩
theorem Fd.refl {r : Nat} {G : DH} (h : Dr G r) : Fd r G G := ⟨Nat.le_refl _, fun _ _ _ => rfl, h⟩
theorem Fd.trans {r : Nat} {G G1 G2 : DH} (h : Fd r G G1) (k : Fd r G1 G2) : Fd r G G2 :=
  ⟨Nat.le_trans h.1 k.1, fun i hi hl => by rw [k.2.1 i hi (by have := h.1; omega), h.2.1 i hi hl], k.2.2⟩
theorem Fd.app {r : Nat} {G t : DH} (h : Dr G r) : Fd r G (G ++ t) := ⟨by simp, fun i _ hl => List.getElem?_append_left hl, h.app⟩
theorem Fd.at {r p : Nat} {G G' : DH} {o : DO} (h : Fd r G G') (hp : p ≠ r) (e : G[p]? = some o) : G'[p]? = some o := by
  rw [h.2.1 p hp (lt_of_get e)]; exact e
theorem Dr.set {G : DH} {r p : Nat} {o : DO} (h : Dr G r) (hp : p ≠ r) : Dr (G.set p o) r := by
  obtain ⟨ns, hr⟩ := h
  exact ⟨ns, by rw [List.getElem?_set_ne hp]; exact hr⟩
theorem Fd.put {r p : Nat} {G G' : DH} {o : DO} (h : Fd r G G') (hp : G.length ≤ p) (hr : p ≠ r) : Fd r G (G'.set p o) :=
  ⟨by rw [List.length_set]; exact h.1, fun i hi hl => by rw [List.getElem?_set_ne (by omega)]; exact h.2.1 i hi hl, h.2.2.set hr⟩
section
variable {G : DH} {Q : D → DH → Prop}
end
theorem strs_map : ∀ ss : List Str, strsOf (ss.map D.str) = some ss
  | [] => rfl
  | z :: r => by simp only [List.map_cons, strsOf, strs_map r, Option.map_some]
noncomputable def ordD : D → D
  | .str z => .tup [.int z.length, .str z]
  | _ => .non
noncomputable def txB (a b : Str) : Bool := if a.length = b.length then decide (a.cps.toList < b.cps.toList) else decide (a.length < b.length)
noncomputable def Ris (s : List Str) : Prop := s.Pairwise fun a b => txB a b = true
theorem txB_tr {a b c : Str} (h1 : txB a b = true) (h2 : txB b c = true) : txB a c = true := by
  have := @ltIS_tr ((a.length : Int), a) ((b.length : Int), b) ((c.length : Int), c)
  unfold ltIS at this
  unfold txB at *
  simp only [Int.ofNat_inj, Int.ofNat_lt] at this
  exact this h1 h2
theorem txB_irr (a : Str) : txB a a = false := by
  unfold txB
  rw [if_pos rfl, decide_eq_false (List.lt_irrefl _)]
theorem txB_is (a b : Str) : txB a b = ltIS ((a.length : Int), a) ((b.length : Int), b) := by
  unfold txB ltIS
  simp only [Int.ofNat_inj, Int.ofNat_lt]
theorem eqV_str (a b : Str) : L2.eqV (.str a) (.str b) = (a == b) := by rfl
theorem in_strs {z : Str} {s : List Str} {G : DH} : inB (.str z) (.tup (s.map D.str)) G = some (decide (z ∈ s)) := by
  have hf : (flatD (.str z) && (s.map D.str).all flatD) = true := by simp [flatD, List.all_map]
  unfold inB
  simp only [hf, if_true]
  congr 1
  unfold L2.inV
  rw [List.map_map, List.any_map]
  induction s with
  | nil => rfl
  | cons a r ih =>
    rw [List.any_cons, ih (by simp [flatD, List.all_map])]
    have e : ((fun y => L2.eqV y (toV (.str z))) ∘ (toV ∘ D.str)) a = (a == z) := eqV_str a z
    rw [e]
    by_cases h : a = z
    · simp [h]
    · have : ¬ z = a := fun e => h e.symm
      simp [h, this]
theorem keysIS_ord : ∀ s : List Str, keysIS (s.map fun z => ordD (.str z)) = some (s.map fun z => ((z.length : Int), z))
  | [] => rfl
  | a :: r => by simp only [List.map_cons, keysIS, keysIS_ord r]; rfl
theorem sortIS_ord {s : List Str} (nd : s.Nodup) : ∃ m, sortIS (s.map fun z => ((z.length : Int), z)) (s.map D.str) = m.map D.str ∧ Ris m ∧ m.Perm s := by
  have hz : (s.map fun z => (((z.length : Int), z) : Int × Str)).zip (s.map D.str) = s.map fun z => (((z.length : Int), z), D.str z) := by
    rw [List.zip_map']
  have nd2 : (s.map fun z => (((z.length : Int), z) : Int × Str)).Nodup := by
    rw [List.Nodup, List.pairwise_map]
    exact nd.imp fun {a b} h e => h (Prod.mk.inj e).2
  let m := s.mergeSort fun a b => !txB b a
  have hp : m.Perm s := List.mergeSort_perm _ _
  have hs : m.Pairwise fun a b => (!txB b a) = true := List.pairwise_mergeSort (fun a b c h1 h2 => by
    simp only [Bool.not_eq_true'] at *
    refine Bool.eq_false_iff.mpr fun h => ?_
    by_cases e : a = b
    · subst e; rw [h] at h2; cases h2
    · rw [txB_is] at h h1 h2
      have := ltIS_tr h (ltIS_tot (fun z => e (Prod.mk.inj z).2.symm) h1)
      rw [this] at h2; cases h2) (fun a b => by
    by_cases e : a = b
    · subst e; rw [txB_irr]; rfl
    · cases q : txB b a with
      | false => rfl
      | true =>
        have : txB a b = false := by
          refine Bool.eq_false_iff.mpr fun h => ?_
          have := txB_tr q h
          rw [txB_irr] at this; cases this
        rw [this]; rfl) _
  refine ⟨m, ?_, ?_, hp⟩
  · have e := sortIS_eq (l := s.map D.str) nd2 (z := m.map fun z => (((z.length : Int), z), D.str z)) (by rw [hz]; exact hp.map _) (by
      rw [List.pairwise_map]
      refine hs.imp fun {a b} h => ?_
      unfold leIS
      rw [← txB_is]; exact h)
    rw [← e, List.map_map]
    rfl
  · have ndm : m.Nodup := hp.nodup_iff.mpr nd
    have : m.Pairwise fun a b => (!txB b a) = true ∧ a ≠ b := List.Pairwise.and hs ndm
    refine this.imp fun {a b} h => ?_
    have h1 := h.1
    simp only [Bool.not_eq_true'] at h1
    rw [txB_is] at h1 ⊢
    exact ltIS_tot (fun z => h.2 (Prod.mk.inj z).2.symm) h1
theorem wp_sortK {F : List D → M D} {fe : Fe} {σ : DSt} {G : DH} {Q : D → DH → Prop} : Wp (sortKE F fe σ) G Q ↔ Wp (fe σ) G fun x G1 => Wp (sortKD F x) G1 Q := by unfold sortKE; simp only [wp_bind]
section
variable {G : DH} {Q : D → DH → Prop}
theorem ix_strM {z : Str} {k : Int} (hz : z.length ≤ sizeLine) (h0 : 0 ≤ k) (h1 : k < z.length) (q : ∀ c ∈ z.cps.toList, Q (.str ⟨#[c]⟩) G) : Wp (ixD (.str z) (.int k)) G Q := by
  have e : ixD (.str z) (.int k) = if z.length ≤ sizeLine then (do
      let c ← optM (atI z.cps.toList k)
      pure (.str ⟨#[c]⟩) : M D) else M.stuck := rfl
  rw [e, if_pos hz]
  simp only [wp_bind, wp_opt, wp_pure]
  have hl : z.length = z.cps.toList.length := rfl
  obtain ⟨n, rfl⟩ := Int.eq_ofNat_of_zero_le h0
  have hn : n < z.cps.toList.length := by omega
  refine ⟨z.cps.toList[n], ?_, q _ (List.getElem_mem hn)⟩
  unfold atI ixN
  rw [if_pos (by omega), if_pos (by omega)]
  simp only [Int.toNat_natCast, Option.bind_some, List.getElem?_eq_getElem hn]
end
theorem next_q {r : Nat} {G : DH} {Q : D → DH → Prop} (h : Dr G r) (q : ∀ k : Nat, ∀ G', Fd r G G' → Q (.int (k : Int)) G') : Wp (F__law_next [.ref r]) G Q := by
  have h' := h
  obtain ⟨ns, hr⟩ := h'
  have s0 : ([D.ref r].map some ++ List.replicate (1 - [D.ref r].length) none : DSt) = [some (.ref r)] := rfl
  unfold F__law_next B__law_next
  simp only [wp_body, s0, wp_seq, wp_if, wp_test, wp_ret, wp_bin, wp_lst, wp_mt, wp_cons, wp_nil, wp_c, wp_var, wp_next, Option.some.injEq, exists_eq_left', List.getElem?_cons_zero]
  refine ⟨sz, ?_⟩
  have e1 := at_app (t := [DO.lst []]) hr
  rw [eq_nil' e1 app_one]
  refine ⟨_, rfl, ?_⟩
  rcases List.eq_nil_or_concat ns with rfl | ⟨t, n, rfl⟩
  · simp only [List.map_nil, List.isEmpty_nil, if_true]
    exact q 0 _ (Fd.app h)
  · have hne : ((t.concat n).map fun n : Nat => D.int (n : Int)).isEmpty = false := by simp
    simp only [hne, Bool.false_eq_true, if_false]
    rw [List.concat_eq_append, List.map_append] at e1
    rw [isList_lst e1, pop_lst e1]
    refine q n _ ⟨by simp, fun i hi hl => ?_, t, ?_⟩
    · rw [List.getElem?_set_ne (Ne.symm hi), List.getElem?_append_left hl]
    · rw [List.getElem?_set_self (lt_of_get e1)]
theorem few_q {r : Nat} {G : DH} {Q : D → DH → Prop} (h : Dr G r) (q : ∀ k : Nat, k < 7 → ∀ G', Fd r G G' → Q (.int (k : Int)) G') : Wp (F__law_few [.ref r]) G Q := by
  have s0 : ([D.ref r].map some ++ List.replicate (2 - [D.ref r].length) none : DSt) = [some (.ref r), none] := rfl
  unfold F__law_few B__law_few
  simp only [wp_body, s0, wp_seq, wp_asg, wp_name, wp_if, wp_test, wp_ret, wp_bin, wp_call, wp_cons, wp_nil, wp_c, wp_var, wp_fnX, wp_next, Option.some.injEq, exists_eq_left', List.getElem?_cons_zero, List.getElem?_cons_succ, List.set_cons_zero, List.set_cons_succ]
  refine ⟨rfl, next_q h fun k G1 f1 => ?_⟩
  simp only [mod_int (show (0 : Int) < 8 by decide), mod_int (show (0 : Int) < 7 by decide), mod_int (show (0 : Int) < 4 by decide), fdiv_int (show (0 : Int) < 8 ∧ (8 : Int) < 2 ^ 100 by decide), eq_int, isBlI]
  have n1 : ∀ m : Int, 0 < m → m ≤ 7 → ∃ j : Nat, j < 7 ∧ (k : Int) / 8 % m = (j : Int) := fun m hm h7 => by
    have a1 : 0 ≤ (k : Int) / 8 % m := Int.emod_nonneg _ (by omega)
    have a2 : (k : Int) / 8 % m < m := Int.emod_lt_of_pos _ hm
    exact ⟨((k : Int) / 8 % m).toNat, by omega, by omega⟩
  by_cases hk : (k : Int) % 8 = 7
  · simp only [hk, decide_true, if_true]
    obtain ⟨j, hj, e⟩ := n1 7 (by decide) (by decide)
    rw [e]; exact q j hj G1 f1
  · simp only [hk, decide_false, Bool.false_eq_true, if_false]
    obtain ⟨j, hj, e⟩ := n1 4 (by decide) (by decide)
    rw [e]; exact q j hj G1 f1
end W
set_option Elab.async false
set_option linter.all false
set_option maxRecDepth 100000
namespace W
open PySem PySem.Spec L2 DL
open PyProof.Rows hiding St
noncomputable def Fd2 (r p : Nat) (G G' : DH) : Prop := G.length ≤ G'.length ∧ (∀ i, i ≠ r → i ≠ p → i < G.length → G'[i]? = G[i]?) ∧ Dr G' r
theorem Fd2.trans {r p : Nat} {G G1 G2 : DH} (h : Fd2 r p G G1) (k : Fd2 r p G1 G2) : Fd2 r p G G2 :=
  ⟨Nat.le_trans h.1 k.1, fun i hi hp hl => by rw [k.2.1 i hi hp (by have := h.1; omega), h.2.1 i hi hp hl], k.2.2⟩
theorem Fd.two {r p : Nat} {G G1 : DH} (h : Fd r G G1) : Fd2 r p G G1 := ⟨h.1, fun i hi _ hl => h.2.1 i hi hl, h.2.2⟩
theorem Fd2.set {r p : Nat} {G : DH} {o : DO} (hp : p ≠ r) (h : Dr G r) : Fd2 r p G (G.set p o) :=
  ⟨by rw [List.length_set]; exact Nat.le_refl _, fun i _ hi hl => by rw [List.getElem?_set_ne (Ne.symm hi)], h.set hp⟩
theorem Fd.thru {r p : Nat} {G G1 G2 : DH} (h : Fd r G G1) (k : Fd2 r p G1 G2) (hp : G.length ≤ p) : Fd r G G2 :=
  ⟨Nat.le_trans h.1 k.1, fun i hi hl => by rw [k.2.1 i hi (by omega) (by have := h.1; omega), h.2.1 i hi hl], k.2.2⟩
noncomputable def StrD (d : D) : Prop := ∃ z : Str, d = .str z ∧ z.length ≤ 100
noncomputable def WC : Fe := (compE (itRng1 (q10 (binE modD (binE fdivD (varE 1) (cE (.int 9))) (cE (.int 21))) (q11))) [none, some 0] (q12 0) (trueT) (binE ixD (cE (.str ("abcdefghijklmnopqrstuvwxyz" : Str))) (binE modD (q13 (fnX 1 F__law_next) (q10 (varE 1) (q11))) (cE (.int 26)))))
theorem is_W : B__law_word = seqS (asgS (q13 (fnX 1 F__law_next) (q10 (varE 0) (q11))) (q12 1)) (seqS (ifS (testE (binE eqD (binE modD (varE 1) (cE (.int 9))) (cE (.int 8)))) (retS (mtE isStrM joinD (cE (.str ("" : Str))) (q10 WC (q11)))) (nextS)) (retS (binE ixD (lstE (q10 (cE (.str ("" : Str))) (q10 (cE (.str ("a" : Str))) (q10 (cE (.str ("b" : Str))) (q10 (cE (.str ("aa" : Str))) (q10 (cE (.str ("ab" : Str))) (q10 (cE (.str ("ca" : Str))) (q11)))))))) (binE modD (binE fdivD (varE 1) (cE (.int 9))) (cE (.int 6)))))) := rfl
theorem ones_of : ∀ {l : List D}, (∀ d ∈ l, ∃ c : Nat, d = .str ⟨#[c]⟩) → ∃ ss : List Str, l = ss.map D.str ∧ ∀ z ∈ ss, z.length = 1
  | [], _ => ⟨[], rfl, fun z hz => by cases hz⟩
  | d :: r, h => by
    obtain ⟨c, rfl⟩ := h d (by simp)
    obtain ⟨ss, e, hs⟩ := ones_of fun x hx => h x (List.mem_cons_of_mem _ hx)
    refine ⟨⟨#[c]⟩ :: ss, by rw [e]; rfl, fun y hy => ?_⟩
    rcases List.mem_cons.mp hy with rfl | hy
    · rfl
    · exact hs y hy
theorem sum_ones : ∀ {ss : List Str}, (∀ z ∈ ss, z.length = 1) → (ss.map (·.length)).sum = ss.length
  | [], _ => rfl
  | a :: r, h => by
    rw [List.map_cons, List.sum_cons, sum_ones fun z hz => h z (List.mem_cons_of_mem _ hz), h a (by simp), List.length_cons]
    omega
theorem word_wp {r : Nat} {G : DH} (h : Dr G r) : Wp (F__law_word [.ref r]) G fun x G' => StrD x ∧ Fd r G G' := by
  have bg := big
  unfold F__law_word
  rw [is_W]
  have s0 : ([D.ref r].map some ++ List.replicate (2 - [D.ref r].length) none : DSt) = [some (.ref r), none] := rfl
  simp only [wp_body, s0, wp_seq, wp_asg, wp_name, wp_if, wp_test, wp_ret, wp_bin, wp_mt, wp_lst, wp_call, wp_cons, wp_nil, wp_c, wp_var, wp_fnX, wp_next, Option.some.injEq, exists_eq_left', List.getElem?_cons_zero, List.getElem?_cons_succ, List.set_cons_zero, List.set_cons_succ, isStr_wp]
  refine ⟨rfl, next_q h fun k G1 f1 => ?_⟩
  simp only [mod_int (show (0 : Int) < 9 by decide), mod_int (show (0 : Int) < 6 by decide), fdiv_int (show (0 : Int) < 9 ∧ (9 : Int) < 2 ^ 100 by decide), eq_int, isBlI]
  by_cases hk : (k : Int) % 9 = 8
  · simp only [hk, decide_true, if_true]
    unfold WC
    simp only [wp_comp, rng1, wp_cons, wp_nil, wp_bin, wp_var, wp_c, Option.some.injEq, exists_eq_left', List.getElem?_cons_zero, List.getElem?_cons_succ, mod_int (show (0 : Int) < 21 by decide), fdiv_int (show (0 : Int) < 9 ∧ (9 : Int) < 2 ^ 100 by decide)]
    have b1 : 0 ≤ (k : Int) / 9 % 21 := Int.emod_nonneg _ (by decide)
    have b2 : (k : Int) / 9 % 21 < 21 := Int.emod_lt_of_pos _ (by decide)
    rw [rng1_int ⟨by omega, by omega⟩]
    have hlen : (rangeL 0 ((k : Int) / 9 % 21).toNat).length = ((k : Int) / 9 % 21).toNat := by unfold rangeL; rw [List.length_map, List.length_range]
    refine ⟨by show (rangeL 0 ((k : Int) / 9 % 21).toNat).length ≤ _; rw [hlen]; omega, ?_⟩
    refine Wp.mono (comp_loop (Fd r G1) (fun σ => ∃ u, σ = [u, some (.ref r)]) (fun d => ∃ c : Nat, d = .str ⟨#[c]⟩) (fun _ _ => rfl) _ _ G1 ⟨none, rfl⟩ (Fd.refl f1.2.2) fun d hd σ G2 hσ j2 => ?_) fun ys G2 ⟨j2, hl2, hy⟩ => ?_
    · obtain ⟨u, rfl⟩ := hσ
      simp only [wp_name, List.set_cons_zero, wp_trueT, wp_bin, wp_call, wp_cons, wp_nil, wp_c, wp_var, wp_fnX, List.getElem?_cons_zero, List.getElem?_cons_succ, Option.some.injEq, exists_eq_left']
      refine ⟨trivial, ⟨_, rfl⟩, trivial, trivial, rfl, next_q j2.2.2 fun j G3 f3 => ?_⟩
      rw [mod_int (by decide)]
      have hA : ("abcdefghijklmnopqrstuvwxyz" : Str).length = 26 := by rfl
      refine ix_strM (by omega) (Int.emod_nonneg _ (by decide)) (by rw [hA]; exact Int.emod_lt_of_pos _ (by decide)) fun c hc => ?_
      exact ⟨j2.trans f3, c, rfl⟩
    · obtain ⟨ss, es, h1⟩ := ones_of hy
      have hsl : ss.length = ((k : Int) / 9 % 21).toNat := by
        have : ys.length = ss.length := by rw [es, List.length_map]
        rw [← this, hl2]; exact hlen
      rw [join_lst app_one (by rw [es]; exact strs_map ss) (by rw [sum_ones h1, show ("" : Str).length = 0 from rfl]; omega)]
      refine ⟨⟨_, rfl, ?_⟩, f1.trans (j2.trans (Fd.app j2.2.2))⟩
      rw [PySem.W.KT.join_ones ss h1]; omega
  · simp only [hk, decide_false, Bool.false_eq_true, if_false]
    refine ⟨sz, ?_⟩
    rw [ix_lst app_one]
    obtain ⟨d, hd, e⟩ := atI_some (l := [D.str ("" : Str), .str ("a" : Str), .str ("b" : Str), .str ("aa" : Str), .str ("ab" : Str), .str ("ca" : Str)]) (k := (k : Int) / 9 % 6) (Int.emod_nonneg _ (by decide)) (Int.emod_lt_of_pos _ (by decide))
    refine ⟨d, e, ?_, f1.trans (Fd.app f1.2.2)⟩
    simp only [List.mem_cons, List.not_mem_nil, or_false] at hd
    rcases hd with rfl | rfl | rfl | rfl | rfl | rfl <;> exact ⟨_, rfl, by decide⟩
theorem rank_wp {z : Str} {G : DH} {Q : D → DH → Prop} (h : z.length ≤ sizeLine) : Wp (F__law_rank [.str z]) G Q ↔ Q (ordD (.str z)) G := by
  unfold F__law_rank B__law_rank
  have s0 : ([D.str z].map some ++ List.replicate (1 - [D.str z].length) none : DSt) = [some (.str z)] := rfl
  simp only [wp_body, s0, wp_ret, wp_tup, wp_call, wp_cons, wp_nil, wp_var, Option.some.injEq, exists_eq_left', List.getElem?_cons_zero, len_str' h]
  exact ⟨fun q => q.2, fun q => ⟨sz, q⟩⟩
theorem keysM_rank : ∀ (s : List Str) (G : DH), (∀ z ∈ s, z.length ≤ sizeLine) → keysM F__law_rank (s.map D.str) G = some (.ok (s.map fun z => ordD (.str z)), G)
  | [], G, _ => rfl
  | a :: r, G, h => by
    have h1 : noX (F__law_rank [.str a]) G = some (.ok (ordD (.str a)), G) := wp_is (wp_noX.mpr ((rank_wp (h a (by simp))).mpr ⟨rfl, rfl⟩))
    have h2 := keysM_rank r G fun z hz => h z (by simp [hz])
    show (noX (F__law_rank [.str a]) >>= fun k => keysM F__law_rank (r.map D.str) >>= fun ks => pure (k :: ks)) G = _
    rw [M.bind_ok h1, M.bind_ok h2]
    rfl
theorem sortKD_lst {q : Nat} {ks : List Str} {G : DH} {Q : D → DH → Prop} (e : G[q]? = some (.lst (ks.map D.str))) (nd : ks.Nodup) (h64 : ks.length < 64) (hz : ∀ z ∈ ks, z.length ≤ sizeLine) (hq : ∀ m, Ris m → m.Perm ks → Q (.ref G.length) (G ++ [.lst (m.map D.str)])) : Wp (sortKD F__law_rank (.ref q)) G Q := by
  obtain ⟨m, e1, e2, e3⟩ := sortIS_ord nd
  have nd2 : (ks.map fun z => (((z.length : Int), z) : Int × Str)).Nodup := by
    rw [List.Nodup, List.pairwise_map]
    exact nd.imp fun {a b} h e => h (Prod.mk.inj e).2
  have hl : (ks.map D.str).length < 64 := by rw [List.length_map]; exact h64
  unfold sortKD
  simp only [wp_bind, wp_obj, e, someI, if_pos hl, sortKs]
  refine (wp_some (keysM_rank ks G hz)).mpr ?_
  rw [wp_opt, keysIS_ord]
  refine ⟨_, rfl, ?_⟩
  rw [if_pos nd2, wp_alloc, e1]
  exact hq m e2 e3
noncomputable def WB : Fs := (seqS (asgS (q13 (fnX 1 F__law_word) (q10 (varE 0) (q11))) (q12 3)) (ifS (testE (binE notInD (varE 3) (varE 1))) (dropS (mtE isListM appendD (varE 1) (q10 (varE 3) (q11)))) (nextS)))
theorem is_WS : B__law_words = seqS (asgS (lstE (q11)) (q12 1)) (seqS (forS (itRng1 (q10 (q13 (fnX 1 F__law_few) (q10 (varE 0) (q11))) (q11))) (q12 2) WB) (retS (q13 tupleF (q10 (sortKE F__law_rank (varE 1)) (q11))))) := rfl
theorem inB_lst {z : Str} {s : List Str} {q : Nat} {G : DH} (e : G[q]? = some (.lst (s.map D.str))) : inB (.str z) (.ref q) G = some (decide (z ∈ s)) := by
  have h := in_strs (z := z) (s := s) (G := G)
  have e2 : inB (.str z) (.ref q) G = inB (.str z) (.tup (s.map D.str)) G := by
    simp only [inB, e]
  rw [e2, h]
noncomputable def Wd (ss : List Str) : Prop := ss.Nodup ∧ ∀ z ∈ ss, z.length ≤ 100
theorem WB_wp {r p : Nat} {u v : Option D} {ss : List Str} {G : DH} (hp : p ≠ r) (h : Dr G r) (e : G[p]? = some (.lst (ss.map D.str))) (hs : Wd ss) (hl : ss.length ≤ 1000) :
    Wp (WB [some (.ref r), some (.ref p), u, v]) G fun fl G' => Fd2 r p G G' ∧ ∃ v' ss', fl = .nx [some (.ref r), some (.ref p), u, v'] ∧ G'[p]? = some (.lst (ss'.map D.str)) ∧ Wd ss' ∧ ss'.length ≤ ss.length + 1 := by
  have bg := big
  unfold WB
  simp only [wp_seq, wp_asg, wp_name, wp_if, wp_test, wp_drop, wp_mt, wp_bin, wp_call, wp_cons, wp_nil, wp_var, wp_fnX, wp_next, Option.some.injEq, exists_eq_left', List.getElem?_cons_zero, List.getElem?_cons_succ, List.set_cons_zero, List.set_cons_succ]
  refine ⟨rfl, Wp.mono (word_wp h) fun x G1 ⟨⟨z, ex, hz⟩, f1⟩ => ?_⟩
  subst ex
  have e1 := f1.at hp e
  rw [wp_notIn]
  refine ⟨_, inB_lst e1, _, rfl, ?_⟩
  by_cases hm : z ∈ ss
  · simp only [hm, decide_true, Bool.not_true, Bool.false_eq_true, if_false]
    exact ⟨f1.two, _, ss, rfl, e1, hs, by omega⟩
  · simp only [hm, decide_false, Bool.not_false, if_true]
    rw [isList_lst e1, append_lst e1 (by rw [List.length_map]; omega)]
    refine ⟨f1.two.trans (Fd2.set hp f1.2.2), _, ss ++ [z], rfl, by rw [List.getElem?_set_self (lt_of_get e1), List.map_append]; rfl, ⟨?_, fun y hy => ?_⟩, by simp⟩
    · rw [List.nodup_append]
      exact ⟨hs.1, by simp, fun a ha b hb => by rw [List.mem_singleton] at hb; subst hb; exact fun e => hm (by rw [← e]; exact ha)⟩
    · rcases List.mem_append.mp hy with hy | hy
      · exact hs.2 y hy
      · rw [List.mem_singleton] at hy; subst hy; exact hz
theorem WB_loop {r p : Nat} (hp : p ≠ r) : ∀ (items : List D) (u v : Option D) (ss : List Str) (G : DH), Dr G r → G[p]? = some (.lst (ss.map D.str)) → Wd ss → ss.length + items.length ≤ 50 →
    Wp (forL (q12 2) WB (fun _ => true) items [some (.ref r), some (.ref p), u, v]) G fun fl G' => Fd2 r p G G' ∧ ∃ u' v' ss', fl = .nx [some (.ref r), some (.ref p), u', v'] ∧ G'[p]? = some (.lst (ss'.map D.str)) ∧ Wd ss' ∧ ss'.length ≤ 50
  | [], u, v, ss, G, h, e, hs, hl => by
    rw [wp_forN]
    exact ⟨rfl, (Fd.refl h).two, u, v, ss, rfl, e, hs, by simpa using hl⟩
  | d :: t, u, v, ss, G, h, e, hs, hl => by
    simp only [List.length_cons] at hl
    rw [wp_forC, wp_name]
    refine ⟨rfl, ?_⟩
    simp only [List.set_cons_succ, List.set_cons_zero]
    refine Wp.mono (WB_wp hp h e hs (by omega)) fun fl G1 ⟨f1, v1, ss1, q1, q2, q3, q4⟩ => ?_
    subst q1
    exact Wp.mono (WB_loop hp t (some d) v1 ss1 G1 f1.2.2 q2 q3 (by omega)) fun fl G2 ⟨f2, h2⟩ => ⟨f1.trans f2, h2⟩
theorem words_wp {r : Nat} {G : DH} (h : Dr G r) : Wp (F__law_words [.ref r]) G fun x G' => ∃ ss, x = .tup (ss.map D.str) ∧ Wd ss ∧ Ris ss ∧ ss.length ≤ 50 ∧ Fd r G G' := by
  have bg := big
  unfold F__law_words
  rw [is_WS]
  have s0 : ([D.ref r].map some ++ List.replicate (4 - [D.ref r].length) none : DSt) = [some (.ref r), none, none, none] := rfl
  simp only [wp_body, s0, wp_seq, wp_asg, wp_name, wp_for, rng1, wp_lst, wp_call, wp_cons, wp_nil, wp_var, wp_fnX, wp_ret, wp_sortK, List.getElem?_cons_zero, List.getElem?_cons_succ, List.set_cons_succ, List.set_cons_zero, Option.some.injEq, exists_eq_left']
  have fd : Fd r G (G ++ [DO.lst []]) := Fd.app h
  have hp : G.length ≠ r := by have := h.lt; omega
  refine ⟨sz, rfl, few_q fd.2.2 fun m hm G2 f2 => ?_⟩
  rw [rng1_int ⟨by omega, by omega⟩]
  have e2 : G2[G.length]? = some (.lst []) := f2.at hp app_one
  have hlen : (rangeL 0 (m : Int).toNat).length = m := by unfold rangeL; rw [List.length_map, List.length_range]; rfl
  refine Wp.mono (WB_loop hp (rangeL 0 (m : Int).toNat) none none [] G2 f2.2.2 e2 ⟨by simp, fun z hz => by cases hz⟩ (by rw [hlen]; simp; omega)) fun fl G3 ⟨f3, u', v', ss, q1, q2, q3, q4⟩ => ?_
  subst q1
  simp only [List.getElem?_cons_zero, List.getElem?_cons_succ, Option.some.injEq, exists_eq_left']
  refine sortKD_lst q2 q3.1 (by omega) (fun z hz => Nat.le_trans (q3.2 z hz) (by omega)) fun m' rm pm => ?_
  rw [tuple_lst app_one]
  have fr := (fd.trans f2).thru f3 (Nat.le_refl _)
  exact ⟨m', rfl, ⟨pm.nodup_iff.mpr q3.1, fun z hz => q3.2 z (pm.mem_iff.mp hz)⟩, rm, by rw [pm.length_eq]; exact q4, fr.trans (Fd.app fr.2.2)⟩
noncomputable abbrev wAny : Str := "any"
noncomputable abbrev wOf : Str := "of"
noncomputable abbrev wBut : Str := "but"
theorem none_wp {G : DH} {Q : D → DH → Prop} : Wp (F__law_none []) G Q ↔ Q (.tup [.tup [], .tup [.str wOf, .tup []], .tup [], .non, .non]) G := by
  unfold F__law_none B__law_none
  have s0 : (([] : List D).map some ++ List.replicate (0 - ([] : List D).length) none : DSt) = [] := rfl
  simp only [wp_body, s0, wp_ret, wp_tup, wp_cons, wp_nil, wp_c]
  exact ⟨fun h => h.2.2.2.2.2, fun h => ⟨sz, sz, sz, sz, sz, h⟩⟩
noncomputable def dataN : Nat → D → Bool
  | _, .non => true
  | _, .bl _ => true
  | _, .int _ => true
  | _, .str _ => true
  | n + 1, .tup l => l.all (dataN n)
  | _, _ => false
theorem eqL_def {f : D → D → Option Bool} : ∀ (a b : List D), (∀ x ∈ a, ∀ y ∈ b, ∃ k, f x y = some k) → ∃ k, eqL f a b = some k
  | [], [], _ => ⟨_, rfl⟩
  | [], _ :: _, _ => ⟨_, rfl⟩
  | _ :: _, [], _ => ⟨_, rfl⟩
  | x :: xs, y :: ys, h => by
    obtain ⟨k, e⟩ := h x (by simp) y (by simp)
    obtain ⟨k', e'⟩ := eqL_def xs ys fun a ha b hb => h a (by simp [ha]) b (by simp [hb])
    exact ⟨k && k', by simp only [eqL, e, e']⟩
theorem eqS_def {x y : D} (hx : scalD x = true) (hy : scalD y = true) : ∃ k, eqS x y = some k := by
  cases x <;> cases y <;> first | cases hx; done | cases hy; done | exact ⟨_, rfl⟩
theorem eqN_def {G : DH} : ∀ (n m : Nat) (x y : D), n < m → dataN n x = true → dataN n y = true → ∃ k, eqN m G x y = some k
  | n, 0, x, y, h, _, _ => by omega
  | n, m + 1, x, y, h, hx, hy => by
    have sc : ∀ {d : D}, dataN n d = true → (∃ l, d = .tup l ∧ ∃ k, n = k + 1 ∧ ∀ z ∈ l, dataN k z = true) ∨ (scalD d = true ∧ seqK G d = none) := fun {d} hd => by
      cases d with
      | tup l =>
        cases n with
        | zero => simp [dataN] at hd
        | succ k => exact .inl ⟨l, rfl, k, rfl, fun z hz => List.all_eq_true.mp (by simpa [dataN] using hd) z hz⟩
      | ref i => cases n <;> simp [dataN] at hd
      | fn i => cases n <;> simp [dataN] at hd
      | ty i => cases n <;> simp [dataN] at hd
      | _ => exact .inr ⟨rfl, rfl⟩
    rcases sc hx with ⟨l, rfl, k, rfl, hl⟩ | ⟨s1, q1⟩
    · rcases sc hy with ⟨l', rfl, k', e', hl'⟩ | ⟨s2, q2⟩
      · have ek : k = k' := by omega
        subst ek
        obtain ⟨b, e⟩ := eqL_def (f := eqN m G) l l' fun a ha b hb => eqN_def k m a b (by omega) (hl a ha) (hl' b hb)
        refine ⟨b, ?_⟩
        show (if true = true then (if true = false ∧ l.length ≠ l'.length then some false else eqL (eqN m G) l l') else some false) = some b
        simp [e]
      · exact ⟨false, by unfold eqN; rw [q2]; simp only [seqK, s2, if_true]⟩
    · rcases sc hy with ⟨l', rfl, k', e', hl'⟩ | ⟨s2, q2⟩
      · exact ⟨false, by unfold eqN; rw [q1]; simp only [seqK, s1, if_true]⟩
      · obtain ⟨b, e⟩ := eqS_def s1 s2
        exact ⟨b, by unfold eqN; rw [q1, q2]; exact e⟩
theorem data_end (x : Option Int) (n : Nat) : dataN n (endD x) = true := by cases x <;> cases n <;> rfl
section
variable {r p s : Nat} {u : Option D} {a : Int} {o : Bool} {G : DH} {l : List D}
end
theorem mixed_q {c : Int} {k : Nat} {G : DH} {Q : D → DH → Prop} (hk : k ≤ 1000) (q : ∀ m : Nat, Q (.int (m : Int)) G) : Wp (F__law_mixed [.int c, .int (k : Int)]) G Q := by
  have s0 : ([D.int c, D.int (k : Int)].map some ++ List.replicate (3 - [D.int c, D.int (k : Int)].length) none : DSt) = [some (.int c), some (.int (k : Int)), none] := rfl
  have b : ∀ x : Int, 0 ≤ x % 2147483647 ∧ x % 2147483647 < 2147483647 := fun x => ⟨Int.emod_nonneg _ (by decide), Int.emod_lt_of_pos _ (by decide)⟩
  have b' : ∀ x : Int, 0 ≤ x % 2147483629 ∧ x % 2147483629 < 2147483629 := fun x => ⟨Int.emod_nonneg _ (by decide), Int.emod_lt_of_pos _ (by decide)⟩
  have m1 : CMul 40692 ((k : Int) + 1) := Or.inl ⟨by decide, by decide⟩
  have mm : ∀ x : Int, 0 ≤ x → x < 2147483647 → CMul x x := fun x h1 h2 => Or.inl ⟨by omega, by omega⟩
  have m3 : ∀ x : Int, CMul 48271 x := fun x => Or.inl ⟨by decide, by decide⟩
  have m4 : ∀ x : Int, CMul x 69621 := fun x => Or.inr ⟨by decide, by decide⟩
  unfold F__law_mixed B__law_mixed
  simp only [wp_body, s0, wp_seq, wp_asg, wp_name, wp_ret, wp_bin, wp_c, wp_var, Option.some.injEq, exists_eq_left', List.getElem?_cons_zero, List.getElem?_cons_succ, List.set_cons_zero, List.set_cons_succ, mod_int (show (0 : Int) < 2147483647 by decide), mod_int (show (0 : Int) < 2147483629 by decide), add_int, mul_int m1]
  generalize hx : (c % 2147483647 + 40692 * ((k : Int) + 1)) % 2147483647 = x
  have hb := b (c % 2147483647 + 40692 * ((k : Int) + 1))
  rw [hx] at hb
  simp only [mul_int (mm x hb.1 hb.2), mul_int (m3 x), add_int]
  generalize hy : (x * x + 48271 * x + (k : Int)) % 2147483647 = y
  have hb2 := b (x * x + 48271 * x + (k : Int))
  rw [hy] at hb2
  simp only [mod_int (show (0 : Int) < 2147483647 by decide), hy, mul_int (mm y hb2.1 hb2.2), mod_int (show (0 : Int) < 2147483629 by decide), mul_int (m4 _), fdiv_int (show (0 : Int) < 8 ∧ (8 : Int) < 2 ^ 100 by decide)]
  obtain ⟨n, hn⟩ := Int.eq_ofNat_of_zero_le (b' (y * y % 2147483629 * 69621)).1
  rw [hn]
  have := q (n / 8)
  simpa using this
theorem mod_natQ {a b : Nat} {G : DH} {Q : D → DH → Prop} (h : 0 < b) : Wp (modD (.int (a : Int)) (.int (b : Int))) G Q ↔ Q (.int ((a % b : Nat) : Int)) G := by rw [mod_int (by omega)]; simp
theorem fdiv_natQ {a b : Nat} {G : DH} {Q : D → DH → Prop} (h : 0 < b) (h2 : b < 1000) : Wp (fdivD (.int (a : Int)) (.int (b : Int))) G Q ↔ Q (.int ((a / b : Nat) : Int)) G := by rw [fdiv_int ⟨by omega, by omega⟩]; simp
theorem ix_nat {p k : Nat} {l : List D} {d : D} {G : DH} {Q : D → DH → Prop} (e : G[p]? = some (.lst l)) (h : l[k]? = some d) : Wp (ixD (.ref p) (.int (k : Int))) G Q ↔ Q d G := by
  rw [ix_lst e, atI_nat h]; exact someI
theorem len_lst {p : Nat} {l : List D} {G : DH} {Q : D → DH → Prop} (e : G[p]? = some (.lst l)) : Wp (lenF [.ref p]) G Q ↔ Q (.int (l.length : Int)) G := by
  unfold lenF
  simp only [wp_bind, wp_obj, e, someI, wp_pure]
noncomputable def natL (ns : List Nat) : List D := ns.map fun n : Nat => D.int (n : Int)
noncomputable def PB : Fs := (seqS (asgS (binE modD (varE 7) (q13 lenF (q10 (varE 4) (q11)))) (q12 8)) (ifS (testE (binE gtD (binE ixD (varE 5) (varE 8)) (cE (.int 0)))) (seqS (dropS (mtE isListM appendD (varE 6) (q10 (binE modD (binE ixD (varE 5) (varE 8)) (cE (.int 1000003))) (q11)))) (asgS (binE fdivD (binE ixD (varE 5) (varE 8)) (cE (.int 1000003))) (subG (varE 5) (varE 8)))) (dropS (mtE isListM appendD (varE 6) (q10 (q13 (fnX 2 F__law_mixed) (q10 (binE ixD (varE 4) (varE 8)) (q10 (binE fdivD (varE 7) (q13 lenF (q10 (varE 4) (q11)))) (q11)))) (q11))))))
structure PuI (pc pr pp : Nat) (cs : List Int) (rs ns : List Nat) (G : DH) : Prop where
  c : G[pc]? = some (.lst (cs.map D.int))
  r : G[pr]? = some (.lst (natL rs))
  p : G[pp]? = some (.lst (natL ns))
  n0 : 0 < cs.length
  nl : cs.length ≤ 100
  eq : rs.length = cs.length
  ne : pc ≠ pr ∧ pc ≠ pp ∧ pr ≠ pp
theorem PuI.at {pc pr pp : Nat} {cs : List Int} {rs ns : List Nat} {G : DH} (I : PuI pc pr pp cs rs ns G) {k : Nat} (hk : k < cs.length) : (∃ n : Nat, rs[k]? = some n) ∧ ∃ c : Int, cs[k]? = some c := by
  refine ⟨⟨rs[k]'(by rw [I.eq]; exact hk), List.getElem?_eq_getElem _⟩, ⟨cs[k], List.getElem?_eq_getElem _⟩⟩
noncomputable def Gr3 (pr pp : Nat) (G G' : DH) : Prop := G'.length = G.length ∧ ∀ i, i ≠ pr → i ≠ pp → G'[i]? = G[i]?
theorem PB_wp {pc pr pp k : Nat} {o0 o1 o2 o3 u : Option D} {cs : List Int} {rs ns : List Nat} {G : DH} (I : PuI pc pr pp cs rs ns G) (hn : ns.length ≤ 1000) (hk : k ≤ 1000) :
    Wp (PB [o0, o1, o2, o3, some (.ref pc), some (.ref pr), some (.ref pp), some (.int (k : Int)), u]) G fun fl G' => Gr3 pr pp G G' ∧ ∃ u' rs' ns', fl = .nx [o0, o1, o2, o3, some (.ref pc), some (.ref pr), some (.ref pp), some (.int (k : Int)), u'] ∧ PuI pc pr pp cs rs' ns' G' ∧ ns'.length = ns.length + 1 := by
  have bg := big
  unfold PB
  have hlc : (cs.map D.int).length = cs.length := List.length_map _
  simp only [wp_seq, wp_asg, wp_name, wp_if, wp_test, wp_drop, wp_mt, wp_sub, wp_bin, wp_call, wp_cons, wp_nil, wp_c, wp_var, wp_fnX, Option.some.injEq, exists_eq_left', List.getElem?_cons_zero, List.getElem?_cons_succ, List.set_cons_zero, List.set_cons_succ, len_lst I.c, hlc, mod_natQ I.n0]
  have hm : k % cs.length < cs.length := Nat.mod_lt _ I.n0
  generalize hj : k % cs.length = j at hm ⊢
  obtain ⟨⟨n, en⟩, c, ec⟩ := I.at hm
  have en' : (natL rs)[j]? = some (.int (n : Int)) := by unfold natL; rw [List.getElem?_map, en]; rfl
  have ec' : (cs.map D.int)[j]? = some (.int c) := by rw [List.getElem?_map, ec]; rfl
  have hjr : j < rs.length := by rw [I.eq]; exact hm
  have hnl : (natL ns).length = ns.length := List.length_map _
  rw [ix_nat I.r en', gt_wp]
  simp only [isBlI]
  by_cases h0 : (0 : Int) < (n : Int)
  · simp only [h0, decide_true, if_true]
    rw [isList_lst I.p, ix_nat I.r en', mod_int (by decide), append_lst I.p (by omega)]
    have lp := lt_of_get I.p
    have lr := lt_of_get I.r
    have r1 : (G.set pp (.lst (natL ns ++ [.int ((n : Int) % 1000003)])))[pr]? = some (.lst (natL rs)) := by rw [List.getElem?_set_ne (Ne.symm I.ne.2.2)]; exact I.r
    rw [ix_nat r1 en', fdiv_int (by decide), set_lst r1 (j := j) (by unfold ixN natL; simp; omega)]
    refine ⟨⟨by simp, fun i h1 h2 => by rw [List.getElem?_set_ne (Ne.symm h1), List.getElem?_set_ne (Ne.symm h2)]⟩, _, rs.set j (n / 1000003), ns ++ [n % 1000003], rfl, ⟨?_, ?_, ?_, I.n0, I.nl, by rw [List.length_set]; exact I.eq, I.ne⟩, by simp⟩
    · rw [List.getElem?_set_ne (Ne.symm I.ne.1), List.getElem?_set_ne (Ne.symm I.ne.2.1)]; exact I.c
    · rw [List.getElem?_set_self (lt_of_get r1)]
      unfold natL
      rw [List.map_set]
      simp
    · rw [List.getElem?_set_ne I.ne.2.2, List.getElem?_set_self lp]
      unfold natL
      rw [List.map_append]
      simp
  · simp only [h0, decide_false, Bool.false_eq_true, if_false]
    rw [isList_lst I.p, ix_nat I.c ec', len_lst I.c, hlc, fdiv_natQ I.n0 (by have := I.nl; omega)]
    refine ⟨rfl, mixed_q (Nat.le_trans (Nat.div_le_self _ _) hk) fun m => ?_⟩
    rw [append_lst I.p (by omega)]
    refine ⟨⟨by simp, fun i h1 h2 => by rw [List.getElem?_set_ne (Ne.symm h2)]⟩, _, rs, ns ++ [m], rfl, ⟨?_, ?_, ?_, I.n0, I.nl, I.eq, I.ne⟩, by simp⟩
    · rw [List.getElem?_set_ne (Ne.symm I.ne.2.1)]; exact I.c
    · rw [List.getElem?_set_ne (Ne.symm I.ne.2.2)]; exact I.r
    · rw [List.getElem?_set_self (lt_of_get I.p)]
      unfold natL
      rw [List.map_append]
      simp
theorem PB_loop {pc pr pp : Nat} {o0 o1 o2 o3 : Option D} {cs : List Int} : ∀ (m j : Nat) (v u : Option D) (rs ns : List Nat) (G : DH), PuI pc pr pp cs rs ns G → ns.length + m ≤ 1000 → j + m ≤ 1000 →
    Wp (forL (q12 7) PB (fun _ => true) ((List.range' j m).map fun (i : Nat) => D.int (0 + (i : Int))) [o0, o1, o2, o3, some (.ref pc), some (.ref pr), some (.ref pp), v, u]) G fun fl G' => Gr3 pr pp G G' ∧ ∃ v' u' rs' ns', fl = .nx [o0, o1, o2, o3, some (.ref pc), some (.ref pr), some (.ref pp), v', u'] ∧ PuI pc pr pp cs rs' ns' G'
  | 0, j, v, u, rs, ns, G, I, hn, hj => by
    simp only [List.range'_zero, List.map_nil, wp_forN]
    exact ⟨trivial, ⟨rfl, fun _ _ _ => rfl⟩, _, _, rs, ns, rfl, I⟩
  | m + 1, j, v, u, rs, ns, G, I, hn, hj => by
    simp only [List.range'_succ, List.map_cons, wp_forC, wp_name, List.set_cons_succ, List.set_cons_zero]
    refine ⟨trivial, ?_⟩
    rw [show (0 + (j : Int)) = (j : Int) by omega]
    refine Wp.mono (PB_wp I (by omega) (by omega)) fun fl G1 ⟨g1, u1, rs1, ns1, e1, I1, hl1⟩ => ?_
    subst e1
    exact Wp.mono (PB_loop m (j + 1) _ _ rs1 ns1 G1 I1 (by omega) (by omega)) fun fl G2 ⟨g2, h2⟩ => ⟨⟨g2.1.trans g1.1, fun i a b => (g2.2 i a b).trans (g1.2 i a b)⟩, h2⟩
noncomputable def PR : Fe := (compE (itW (varE 4)) [none] (q12 0) (trueT) (binE mulD (q13 absF (q10 (varE 0) (q11))) (q13 intF (q10 (binE geD (q13 absF (q10 (varE 0) (q11))) (binE powD (cE (.int 10)) (cE (.int 18)))) (q11)))))
noncomputable def PT : Fs := (seqS (asgS PR (q12 5)) (seqS (asgS (lstE (q11)) (q12 6)) (seqS (forS (itRng1 (q10 (varE 3) (q11))) (q12 7) PB) (retS (unE revlD (varE 6))))))
theorem is_P : B__law_purse = seqS (asgS (slice3E (varE 0) (partO (varE 1)) (partO (cE (.int 126))) (partO (varE 2))) (q12 4)) (seqS (ifS (testE (binE eqD (varE 4) (lstE (q11)))) (asgS (lstE (q10 (varE 1) (q11))) (q12 4)) (nextS)) PT) := rfl
theorem ge_int {i j : Int} {G : DH} {Q : D → DH → Prop} : Wp (geD (.int i) (.int j)) G Q ↔ Q (.bl (decide (j ≤ i))) G := wp_pure
noncomputable def restN (c : Int) : Nat := if 1000000000000000000 ≤ c.natAbs then c.natAbs else 0
theorem PR_wp {p : Nat} {o0 o1 o2 o3 o5 o6 o7 o8 : Option D} {cs : List Int} {G : DH} {Q : D → DH → Prop} (e : G[p]? = some (.lst (cs.map D.int))) (hl : cs.length ≤ 100) (q : Q (.ref G.length) (G ++ [.lst (natL (cs.map restN))])) : Wp (PR [o0, o1, o2, o3, some (.ref p), o5, o6, o7, o8]) G Q := by
  have bg := big
  unfold PR
  have hs : itW (varE 4) [o0, o1, o2, o3, some (.ref p), o5, o6, o7, o8] G = some (.ok ⟨cs.map D.int, ckO p (.lst (cs.map D.int))⟩, G) := by
    obtain ⟨a, G', e1, e2⟩ := (show Wp (itW (varE 4) [o0, o1, o2, o3, some (.ref p), o5, o6, o7, o8]) G fun a G' => a = ⟨cs.map D.int, ckO p (.lst (cs.map D.int))⟩ ∧ G' = G by
      simp only [wp_itW, wp_var, List.getElem?_cons_zero, List.getElem?_cons_succ, Option.some.injEq, exists_eq_left']
      rw [srcW_lst e]
      exact ⟨rfl, rfl⟩)
    rw [e2.1, e2.2] at e1
    exact e1
  rw [comp_wp (s := ⟨cs.map D.int, ckO p (.lst (cs.map D.int))⟩) (f := fun x => match x with | .int c => .int (restN c : Int) | _ => .non) (fun σ => σ.length = 1) hs (by show (cs.map D.int).length ≤ _; rw [List.length_map]; omega) (by simp only [ckO, e]; simp) rfl (fun x hx σ hσ => ?_)]
  · have em : (cs.map D.int).map (fun x => match x with | .int c => D.int (restN c : Int) | _ => .non) = natL (cs.map restN) := by
      unfold natL
      rw [List.map_map, List.map_map]
      rfl
    show Q (.ref G.length) (G ++ [.lst ((cs.map D.int).map fun x => match x with | .int c => D.int (restN c : Int) | _ => .non)])
    rw [em]
    exact q
  · obtain ⟨c, hc, rfl⟩ := List.mem_map.mp hx
    match σ, hσ with
    | [u], _ =>
      refine ⟨[some (.int c)], rfl, rfl, rfl, wp_is ?_⟩
      simp only [wp_bin, wp_call, wp_cons, wp_nil, wp_c, wp_var, List.getElem?_cons_zero, Option.some.injEq, exists_eq_left', abs_int, p18, ge_int, int_bl]
      have ea : (if c < 0 then -c else c) = (c.natAbs : Int) := by split <;> omega
      rw [ea]
      by_cases h1 : 1000000000000000000 ≤ c.natAbs
      · have h1' : decide ((1000000000000000000 : Int) ≤ (c.natAbs : Int)) = true := decide_eq_true (by omega)
        rw [h1', if_pos rfl, mul_int (Or.inr ⟨by decide, by decide⟩)]
        unfold restN
        rw [if_pos h1]
        exact ⟨by simp, rfl⟩
      · have h1' : decide ((1000000000000000000 : Int) ≤ (c.natAbs : Int)) = false := decide_eq_false (by omega)
        rw [h1', if_neg (by decide), mul_int (Or.inr ⟨by decide, by decide⟩)]
        unfold restN
        rw [if_neg h1]
        exact ⟨by simp, rfl⟩
theorem pick_ints {ns : List Int} {lo hi st : Option Int} : ∃ cs : List Int, pickD (ns.map D.int) lo hi st = cs.map D.int ∧ cs.length ≤ ns.length := by
  refine ⟨(pickI ns.length lo hi st).filterMap (ns[·]?), ?_, ?_⟩
  · unfold pickD
    rw [List.length_map, List.map_filterMap]
    congr 1
    funext i
    rw [List.getElem?_map]
  · have h := slicePick_size_le (ns.map fun i => Value.none).toArray lo hi st
    unfold slicePick at h
    rw [List.size_toArray, List.size_toArray, List.length_map] at h
    refine Nat.le_trans (Nat.le_of_eq ?_) h
    unfold pickI
    generalize sliceRange _ _ _ = is
    induction is with
    | nil => rfl
    | cons i r ih =>
      rw [List.filterMap_cons, List.filterMap_cons]
      by_cases hi : i < ns.length
      · simp [hi, ih]
      · simp [hi, ih]
theorem PT_wp {p0 pc : Nat} {a st : Int} {cs : List Int} {G G1 : DH} (g1 : Gr G G1) (e1 : G1[pc]? = some (.lst (cs.map D.int))) (h0 : 0 < cs.length) (hl : cs.length ≤ 63) (hpc : G.length ≤ pc) :
    Wp (PT [some (.ref p0), some (.int a), some (.int st), some (.int 60), some (.ref pc), none, none, none, none]) G1 fun fl G' => ∃ r, fl = .rt (.ref r) ∧ Dr G' r ∧ Gr G G' ∧ G.length ≤ r := by
  unfold PT
  simp only [wp_seq, wp_asg, wp_name, wp_lst, wp_nil, List.set_cons_zero, List.set_cons_succ]
  refine PR_wp e1 (by omega) ⟨sz, ?_⟩
  have l1 := lt_of_get e1
  rw [wp_for]
  simp only [rng1, wp_cons, wp_nil, wp_var, Option.some.injEq, exists_eq_left', List.getElem?_cons_zero, List.getElem?_cons_succ]
  rw [rng1_int ⟨by decide, by decide⟩]
  have er : rangeL 0 (60 : Int).toNat = (List.range' 0 60).map fun (i : Nat) => D.int (0 + (i : Int)) := by
    unfold rangeL
    rw [List.range_eq_range']
    rfl
  show Wp (forL (q12 7) PB (fun _ => true) (rangeL 0 (60 : Int).toNat) _) _ _
  rw [er]
  have I : PuI pc G1.length (G1 ++ [DO.lst (natL (cs.map restN))]).length cs (cs.map restN) [] (G1 ++ [DO.lst (natL (cs.map restN))] ++ [DO.lst []]) := ⟨at_app (at_app e1), at_app app_one, app_one, h0, by omega, by simp, by simp; omega⟩
  refine Wp.mono (PB_loop 60 0 none none _ _ _ I (by simp) (by omega)) fun fl G3 ⟨g3, v', u', rs', ns', e3, I3⟩ => ?_
  subst e3
  simp only [wp_ret, wp_un, wp_var, Option.some.injEq, exists_eq_left', List.getElem?_cons_zero, List.getElem?_cons_succ]
  rw [revl_lst I3.p]
  have hlen := g3.1
  simp only [List.length_append, List.length_singleton] at hlen
  refine ⟨_, rfl, ⟨ns'.reverse, by rw [app_one]; unfold natL; rw [List.map_reverse]⟩, ?_, ?_⟩
  · refine ⟨?_, fun i hi => ?_⟩
    · have := g1.1
      simp only [List.length_append, List.length_singleton]; omega
    · have := g1.1
      rw [List.getElem?_append_left (by omega), g3.2 i (by omega) (by simp; omega), List.getElem?_append_left (by simp; omega), List.getElem?_append_left (by omega), g1.2 i hi]
  · have := g1.1
    omega
theorem purse_wp {p0 : Nat} {a : Nat} {st : Int} (hst : st ≠ 0) {ns : List Int} {G : DH} (e : G[p0]? = some (.rol (ns.map D.int))) (hn : ns.length ≤ 63) : Wp (F__law_purse [.ref p0, .int (a : Int), .int st, .int 60]) G fun x G' => ∃ r, x = .ref r ∧ Dr G' r ∧ Gr G G' ∧ G.length ≤ r := by
  have bg := big
  unfold F__law_purse
  rw [is_P]
  have s0 : ([D.ref p0, .int (a : Int), .int st, .int 60].map some ++ List.replicate (9 - [D.ref p0, .int (a : Int), .int st, .int 60].length) none : DSt) = [some (.ref p0), some (.int (a : Int)), some (.int st), some (.int 60), none, none, none, none, none] := rfl
  simp only [wp_body, s0, wp_seq, wp_asg, wp_name, wp_if, wp_test, wp_bin, wp_lst, wp_cons, wp_nil, wp_c, wp_var, wp_next, wp_slice3, wp_part, intI, Option.some.injEq, exists_eq_left', List.getElem?_cons_zero, List.getElem?_cons_succ, List.set_cons_zero, List.set_cons_succ]
  rw [sl3_rol e (by simpa using hst)]
  obtain ⟨cs, ec, hc⟩ := pick_ints (ns := ns) (lo := some (a : Int)) (hi := some 126) (st := some st)
  rw [ec]
  refine ⟨sz, ?_⟩
  rw [eq_nil' (at_app app_one) app_one]
  simp only [isBlI]
  cases cs with
  | nil =>
    simp only [List.map_nil, List.isEmpty_nil, if_true]
    refine ⟨sz, ?_⟩
    refine Wp.mono (PT_wp (cs := [(a : Int)]) (Gr.app.trans (Gr.app.trans Gr.app)) app_one (by simp) (by simp) (by simp)) fun fl G' ⟨r, e1, h1⟩ => ?_
    subst e1
    exact ⟨r, rfl, h1⟩
  | cons c0 cr =>
    simp only [List.map_cons, List.isEmpty_cons, Bool.false_eq_true, if_false]
    refine Wp.mono (PT_wp (cs := c0 :: cr) (Gr.app.trans Gr.app) (at_app app_one) (by simp) (by omega) (Nat.le_refl _)) fun fl G' ⟨r, e1, h1⟩ => ?_
    subst e1
    exact ⟨r, rfl, h1⟩
noncomputable abbrev OI := Option Int
noncomputable def pairD (p : OI × OI) : D := .tup [endD p.1, endD p.2]
noncomputable def sumP : List (OI × OI) → OI
  | [] => some 0
  | (some a, some b) :: r => (sumP r).map fun s => (b - a + 1) + s
  | _ => none
noncomputable def optD : OI → D := endD
noncomputable def hasN (p : OI × OI) : Bool := p.1.isNone || p.2.isNone
theorem sum_none : ∀ {ps : List (OI × OI)}, ps.any hasN = true → sumP ps = none
  | [], h => by cases h
  | (none, y) :: r, _ => rfl
  | (some a, none) :: r, _ => rfl
  | (some a, some b) :: r, h => by
    rw [List.any_cons] at h
    have h' : r.any hasN = true := by simpa [hasN] using h
    simp only [sumP, sum_none h', Option.map_none]
noncomputable def difP (p : OI × OI) : Int := p.2.getD 0 - p.1.getD 0 + 1
theorem sum_some : ∀ {ps : List (OI × OI)}, ps.any hasN = false → sumP ps = some (ps.map difP).sum
  | [], _ => rfl
  | (none, y) :: r, h => by simp [hasN] at h
  | (some a, none) :: r, h => by simp [hasN] at h
  | (some a, some b) :: r, h => by
    rw [List.any_cons] at h
    have h' : r.any hasN = false := by simpa [hasN] using h
    simp only [sumP, sum_some h', Option.map_some, List.map_cons, List.sum_cons]
    rfl
theorem any_wp {G : DH} {r : Nat} {l : List D} {f : D → Bool} {Q : D → DH → Prop} (h : G[r]? = some (.lst (l.map fun x => .bl (f x)))) : Wp (anyF [.ref r]) G Q ↔ Q (.bl (l.any f)) G := by
  have h0 : anyF [.ref r] = (do
    let l ← objM r >>= DL.listOf
    let bs ← optM (blsOf l)
    pure (.bl (bs.any id))) := rfl
  rw [h0]
  simp only [wp_bind, wp_obj, h, someI, DL.listOf, wp_pure, wp_opt, bls_map, List.any_map]
  rfl
theorem sum_lst {G : DH} {p : Nat} {ns : List Int} {Q : D → DH → Prop} (e : G[p]? = some (.lst (ns.map D.int))) : Wp (sumF [.ref p]) G Q ↔ Q (.int ns.sum) G := by
  have h : sumF [.ref p] = (do
    let l ← objM p >>= DL.listOf
    let ns ← optM (intsOf l)
    pure (.int ns.sum)) := rfl
  rw [h]
  simp only [wp_bind, wp_obj, e, someI, DL.listOf, wp_pure, wp_opt, ints_map]
noncomputable def hasD : D → Bool
  | .tup [a, b] => isNonD a || isNonD b
  | _ => false
theorem in_pair {x y : OI} {G : DH} : inB .non (pairD (x, y)) G = some (hasD (pairD (x, y))) := by
  cases x <;> cases y <;> rfl
theorem has_pair (p : OI × OI) : hasD (pairD p) = hasN p := by
  obtain ⟨x, y⟩ := p
  cases x <;> cases y <;> rfl
noncomputable def difD : D → D
  | .tup [.int a, .int b] => .int (b - a + 1)
  | _ => .non
theorem numbers_count_wp {ps : List (OI × OI)} {G : DH} (hl : ps.length ≤ 100) : Wp (F_numbers_count [.tup (ps.map pairD)]) G fun x G' => x = optD (sumP ps) ∧ Ap G G' := by
  have bg := big
  unfold F_numbers_count B_numbers_count
  have s0 : ([D.tup (ps.map pairD)].map some ++ List.replicate (1 - [D.tup (ps.map pairD)].length) none : DSt) = [some (.tup (ps.map pairD))] := rfl
  simp only [wp_body, s0, wp_seq, wp_if, wp_truth, wp_ret, wp_call, wp_cons, wp_nil, wp_c, wp_next]
  rw [comp_wp (s := ⟨ps.map pairD, fun _ => true⟩) (f := fun x => .bl (hasD x)) (fun σ => σ.length = 1) rfl (by show (ps.map pairD).length ≤ _; rw [List.length_map]; omega) rfl rfl (fun x hx σ hσ => ?_)]
  · show Wp (anyF [.ref G.length]) (G ++ [.lst ((ps.map pairD).map fun x => .bl (hasD x))]) _
    rw [any_wp (l := ps.map pairD) (f := hasD) app_one, truth_bl]
    have ea : (ps.map pairD).any hasD = ps.any hasN := by
      rw [List.any_map]
      congr 1
      funext p
      exact has_pair p
    rw [ea]
    by_cases ha : ps.any hasN = true
    · simp only [ha, if_true]
      exact ⟨by rw [sum_none ha]; rfl, Ap.one⟩
    · have ha' : ps.any hasN = false := by simpa using ha
      simp only [ha', Bool.false_eq_true, if_false]
      have hno : ∀ p ∈ ps, ∃ a b, p = (some a, some b) := fun p hp => by
        have : hasN p = false := by
          have := List.any_eq_false.mp ha' p hp
          simpa using this
        obtain ⟨x, y⟩ := p
        cases x with
        | none => cases this
        | some a =>
          cases y with
          | none => cases this
          | some b => exact ⟨a, b, rfl⟩
      rw [comp_wp (s := ⟨ps.map pairD, fun _ => true⟩) (f := difD) (fun σ => σ.length = 2) rfl (by show (ps.map pairD).length ≤ _; rw [List.length_map]; omega) rfl rfl (fun x hx σ hσ => ?_)]
      · have em : (ps.map pairD).map difD = (ps.map difP).map D.int := by
          rw [List.map_map, List.map_map]
          refine List.map_congr_left fun p hp => ?_
          obtain ⟨a, b, rfl⟩ := hno p hp
          rfl
        show Wp (sumF [.ref _]) (_ ++ [.lst ((ps.map pairD).map difD)]) _
        rw [em, sum_lst app_one]
        exact ⟨by rw [sum_some ha']; rfl, Ap.one.trans Ap.one⟩
      · obtain ⟨p, hp, rfl⟩ := List.mem_map.mp hx
        obtain ⟨a, b, rfl⟩ := hno p hp
        match σ, hσ with
        | [u, v], _ =>
          refine ⟨[some (.int a), some (.int b)], rfl, rfl, rfl, wp_is ?_⟩
          simp only [wp_bin, wp_c, wp_var, List.getElem?_cons_zero, List.getElem?_cons_succ, Option.some.injEq, exists_eq_left', sub_int, add_int]
          exact ⟨rfl, trivial⟩
  · obtain ⟨p, hp, rfl⟩ := List.mem_map.mp hx
    match σ, hσ with
    | [u], _ =>
      refine ⟨[some (pairD p)], rfl, rfl, rfl, wp_is ?_⟩
      simp only [wp_bin, wp_c, wp_var, List.getElem?_cons_zero, Option.some.injEq, exists_eq_left', wp_in]
      exact ⟨_, in_pair, rfl, trivial⟩
theorem texts_count_wp {w : Str} {ss : List Str} {G : DH} {Q : D → DH → Prop} : Wp (F_texts_count [.tup [.str w, .tup (ss.map D.str)]]) G Q ↔ Q (optD (if w == wOf then some (ss.length : Int) else none)) G := by
  unfold F_texts_count B_texts_count
  have s0 : ([D.tup [.str w, .tup (ss.map D.str)]].map some ++ List.replicate (1 - [D.tup [.str w, .tup (ss.map D.str)]].length) none : DSt) = [some (.tup [.str w, .tup (ss.map D.str)])] := rfl
  simp only [wp_body, s0, wp_ret, wp_ifE, wp_test, wp_bin, wp_call, wp_cons, wp_nil, wp_c, wp_var, Option.some.injEq, exists_eq_left', List.getElem?_cons_zero, ix_tup, at0, at1, eq_str, isBlI, len_tup, List.length_map]
  cases (w == wOf) <;> rfl
theorem eq_tup_any {l : List D} {G : DH} {Q : D → DH → Prop} : Wp (eqD (.tup l) (.str wAny)) G Q ↔ Q (.bl false) G := by
  have e : eqN 40 G (.tup l) (.str wAny) = some false := rfl
  rw [wp_eq, e]; exact someI
noncomputable def cnt5 (a b c d e : OI) : OI := match a, b, c, d, e with
  | some a, some b, some c, some d, some e => some (a + b + c + d + e)
  | _, _, _, _, _ => none
theorem in_five {a b c d e : OI} {p : Nat} {G : DH} (h : G[p]? = some (.lst [optD a, optD b, optD c, optD d, optD e])) : inB .non (.ref p) G = some (a.isNone || b.isNone || c.isNone || d.isNone || e.isNone) := by
  simp only [inB, h]
  cases a <;> cases b <;> cases c <;> cases d <;> cases e <;> rfl
theorem at5 {a b c d e : D} : atI [a, b, c, d, e] 0 = some a ∧ atI [a, b, c, d, e] 1 = some b ∧ atI [a, b, c, d, e] 2 = some c ∧ atI [a, b, c, d, e] 3 = some d ∧ atI [a, b, c, d, e] 4 = some e := ⟨rfl, rfl, rfl, rfl, rfl⟩
end W
set_option Elab.async false
set_option linter.all false
set_option maxRecDepth 100000
namespace W
open PySem PySem.Spec L2 DL
open PyProof.Rows hiding St
theorem comp_rel {g : Fg} {t : DSt → M Bool} {e : Fe} {ck : DH → Bool} (J : DH → Prop) (S : DSt → Prop) (R : D → D → Prop) (hck : ∀ G, J G → ck G = true) : ∀ (items : List D) (σ : DSt) (G : DH), S σ → J G →
    (∀ d ∈ items, ∀ σ G, S σ → J G → Wp (g d σ) G fun σ1 G1 => G1 = G ∧ S σ1 ∧ Wp (t σ1) G fun b G2 => b = true ∧ G2 = G ∧ Wp (e σ1) G fun y G3 => J G3 ∧ R d y) →
    Wp (compL g t e ck items σ) G fun ys G' => J G' ∧ All2 R items ys
  | [], σ, G, s, j, _ => by
    rw [wp_compN]
    exact ⟨hck G j, j, trivial⟩
  | d :: r, σ, G, s, j, step => by
    rw [wp_compC]
    refine ⟨hck G j, Wp.mono (step d (by simp) σ G s j) fun σ1 G1 ⟨e1, s1, w1⟩ => ?_⟩
    subst e1
    refine Wp.mono w1 fun b G2 ⟨eb, e2, w2⟩ => ?_
    subst eb e2
    rw [if_pos rfl]
    refine Wp.mono w2 fun y G3 ⟨j3, py⟩ => ?_
    exact Wp.mono (comp_rel J S R hck r σ1 G3 s1 j3 fun d hd => step d (by simp [hd])) fun ys G4 ⟨j4, l4⟩ => ⟨j4, py, l4⟩
noncomputable def prodO (w : Int) : List OI → OI
  | [] => some w
  | none :: _ => none
  | some c :: r => prodO (w * c) r
noncomputable def okP (w : Int) : List OI → Prop
  | [] => True
  | none :: _ => True
  | some c :: r => (0 ≤ w ∧ w ≤ 1000) ∧ okP (w * c) r
noncomputable def mulO : OI → OI → OI
  | some a, some c => some (a * c)
  | _, _ => none
theorem prod_snoc : ∀ (os : List OI) (w : Int) (o : OI), prodO w (os ++ [o]) = mulO (prodO w os) o
  | [], w, none => rfl
  | [], w, some c => rfl
  | none :: r, w, o => by simp only [List.cons_append, prodO, mulO]
  | some c :: r, w, o => by simp only [List.cons_append, prodO]; exact prod_snoc r (w * c) o
theorem ok_snoc : ∀ (os : List OI) (w : Int) (o : OI), okP w os → (∀ a, prodO w os = some a → 0 ≤ a ∧ a ≤ 1000) → okP w (os ++ [o])
  | [], w, none, _, _ => trivial
  | [], w, some c, _, h => ⟨h w rfl, trivial⟩
  | none :: r, w, o, _, _ => trivial
  | some c :: r, w, o, h, k => ⟨h.1, ok_snoc r (w * c) o h.2 k⟩
noncomputable def QB : Fs := (seqS (ifS (testE (binE isCD (varE 2) (cE .non))) (retS (cE .non)) (nextS)) (asgS (binE mulD (varE 1) (varE 2)) (q12 1)))
theorem is_Q : B_product = seqS (asgS (cE (.int 1)) (q12 1)) (seqS (forS (itW (varE 0)) (q12 2) QB) (retS (varE 1))) := rfl
theorem QB_loop {p : Nat} {L : List D} {G : DH} (e : G[p]? = some (.lst L)) : ∀ (os : List OI) (w : Int) (u : Option D), okP w os →
    Wp (forL (q12 2) QB (ckO p (.lst L)) (os.map optD) [some (.ref p), some (.int w), u]) G fun fl G' => G' = G ∧ match prodO w os with
      | some s => ∃ u', fl = .nx [some (.ref p), some (.int s), u']
      | none => fl = .rt .non
  | [], w, u, _ => by
    rw [List.map_nil, wp_forN]
    exact ⟨by simp only [ckO, e]; simp, rfl, u, rfl⟩
  | o :: r, w, u, h => by
    rw [List.map_cons, wp_forC, wp_name]
    refine ⟨by simp only [ckO, e]; simp, ?_⟩
    unfold QB
    simp only [wp_seq, wp_asg, wp_name, wp_if, wp_test, wp_ret, wp_bin, wp_c, wp_var, wp_next, Option.some.injEq, exists_eq_left', List.getElem?_cons_zero, List.getElem?_cons_succ, List.set_cons_zero, List.set_cons_succ, isC_non, isBlI]
    cases o with
    | none => simp only [optD, endD, isNonD, if_true]; exact ⟨by first | rfl | trivial, by first | rfl | trivial⟩
    | some c =>
      simp only [optD, endD, isNonD, Bool.false_eq_true, if_false]
      have hw := h.1
      rw [mul_int (Or.inl ⟨by omega, by omega⟩)]
      exact QB_loop e r (w * c) _ h.2
theorem product_wp {p : Nat} {os : List OI} {G : DH} {Q : D → DH → Prop} (e : G[p]? = some (.lst (os.map optD))) (h : okP 1 os) (q : Q (optD (prodO 1 os)) G) : Wp (F_product [.ref p]) G Q := by
  unfold F_product
  rw [is_Q]
  have s0 : ([D.ref p].map some ++ List.replicate (3 - [D.ref p].length) none : DSt) = [some (.ref p), none, none] := rfl
  simp only [wp_body, s0, wp_seq, wp_asg, wp_name, wp_for, wp_itW, wp_c, wp_var, Option.some.injEq, exists_eq_left', List.getElem?_cons_zero, List.set_cons_zero, List.set_cons_succ]
  rw [srcW_lst e]
  refine Wp.mono (QB_loop e os 1 none h) fun fl G2 ⟨e2, h2⟩ => ?_
  subst e2
  cases hs : prodO 1 os with
  | none =>
    rw [hs] at h2 q
    subst h2
    exact q
  | some s =>
    rw [hs] at h2 q
    obtain ⟨u', e3⟩ := h2
    subst e3
    simp only [wp_ret, wp_var, Option.some.injEq, exists_eq_left', List.getElem?_cons_zero, List.getElem?_cons_succ]
    exact q
noncomputable abbrev noD : D := .tup [.tup [], .tup [.str wOf, .tup []], .tup [], .non, .non]
noncomputable def Mo (more : D) (x y : OI) : Prop := (more = noD ∧ y = x) ∨ ((∀ G : DH, eqN 40 G more noD = some false) ∧ y = none)
noncomputable def fcO (m : Bool) (o : OI) : OI := if m then o else o.map (· + 1)
noncomputable def Cn : Nat → D → OI → Prop
  | n, d, o => (d = .str wAny ∧ o = none) ∨ ∃ (ps : List (OI × OI)) (w : Str) (ss : List Str) (bs : List Bool) (a b : D) (x y : OI), d = .tup [.tup (ps.map pairD), .tup [.str w, .tup (ss.map D.str)], .tup (bs.map D.bl), a, b] ∧ ps.length ≤ 100 ∧ o = cnt5 (sumP ps) (if w == wOf then some (ss.length : Int) else none) (some (bs.length : Int)) x y ∧
      ((a = .non ∧ x = some 0) ∨ (match n with
        | 0 => False
        | n + 1 => ∃ fs os more, a = .tup [.tup fs, more] ∧ fs.length ≤ 100 ∧ All2 (Cn n) fs os ∧ okP 1 os ∧ Mo more (prodO 1 os) x)) ∧
      ((b = .non ∧ y = some 0) ∨ (match n with
        | 0 => False
        | n + 1 => ∃ fs os more, b = .tup [.tup fs, more] ∧ fs.length ≤ 100 ∧ All2 (fun f o => ∃ z m d o', f = .tup [.str z, .bl m, d] ∧ Cn n d o' ∧ o = fcO m o') fs os ∧ okP 1 os ∧ Mo more (prodO 1 os) y))
theorem eq_no {G : DH} {Q : D → DH → Prop} : Wp (eqD noD noD) G Q ↔ Q (.bl true) G := by
  have e : eqN 40 G noD noD = some true := rfl
  rw [wp_eq, e]; exact someI
theorem All2.optD : ∀ {fs : List D} {os : List OI} {ys : List D} {P : D → OI → Prop}, All2 P fs os → All2 (fun d y => ∀ o, P d o → y = W.optD o) fs ys → ys = os.map W.optD
  | [], [], [], _, _, _ => rfl
  | _ :: _, _ :: _, _ :: _, _, h, k => by rw [k.1 _ h.1, All2.optD h.2 k.2]; rfl
  | [], [], _ :: _, _, _, k => by cases k
  | [], _ :: _, _, _, h, _ => by cases h
  | _ :: _, [], _, _, h, _ => by cases h
  | _ :: _, _ :: _, [], _, _, k => by cases k
theorem part_wp {p : D → OI → Prop} {Fc : List D → M D} {F : Fe} {fs : List D} {os : List OI} {more : D} {x : OI} {G : DH} {σ : DSt} (hF : F = q13 (fnX 1 Fc) (q10 (varE 0) (q11))) (hl : fs.length ≤ 100) (ha : All2 p fs os) (ok : okP 1 os) (hm : Mo more (prodO 1 os) x) (hσ : σ = [some (.tup [.tup fs, more])]) (step : ∀ d o G, p d o → Wp (Fc [d]) G fun y G' => y = optD o ∧ Ap G G') :
    Wp (ifE (testE (binE eqD (binE ixD (varE 0) (cE (.int 1))) (cE noD))) (q13 (fnX 1 F_product) (q10 (compE (itW (binE ixD (varE 0) (cE (.int 0)))) [none] (q12 0) (trueT) F) (q11))) (cE .non) σ) G fun y G' => y = optD x ∧ Ap G G' := by
  have bg := big
  have uniq : ∀ d o o', p d o → p d o' → o = o' := fun d o o' h1 h2 => by
    obtain ⟨a, G1, e1, q1, _⟩ := step d o [] h1
    obtain ⟨b, G2, e2, q2, _⟩ := step d o' [] h2
    rw [e1] at e2
    cases e2
    rw [q1] at q2
    cases o <;> cases o' <;> first | rfl | cases q2; done | (cases q2; rfl)
  subst hF hσ
  simp only [wp_ifE, wp_test, wp_bin, wp_call, wp_cons, wp_nil, wp_c, wp_var, wp_fnX, wp_comp, wp_itW, Option.some.injEq, exists_eq_left', List.getElem?_cons_zero, ix_tup, at0, at1]
  rcases hm with ⟨rfl, rfl⟩ | ⟨he, rfl⟩
  · rw [eq_no]
    refine ⟨true, rfl, ?_⟩
    simp only [if_true, srcW_tup]
    refine ⟨by omega, ?_⟩
    refine Wp.mono (comp_rel (Ap G) (fun σ => σ.length = 1) (fun d y => ∀ o, p d o → y = optD o) (fun _ _ => rfl) fs _ G rfl Ap.refl fun d hd σ G1 hσ j => ?_) fun ys G2 ⟨j2, h2⟩ => ?_
    · match σ, hσ with
      | [u], _ =>
        simp only [wp_name, List.set_cons_zero, wp_trueT, wp_call, wp_cons, wp_nil, wp_var, wp_fnX, List.getElem?_cons_zero, Option.some.injEq, exists_eq_left']
        obtain ⟨o, po⟩ : ∃ o, p d o := by
          have : ∀ {fs : List D} {os : List OI}, All2 p fs os → d ∈ fs → ∃ o, p d o := by
            intro fs
            induction fs with
            | nil => intro os _ h; cases h
            | cons a r ih =>
              intro os ha hd
              cases os with
              | nil => cases ha
              | cons o os =>
                rcases List.mem_cons.mp hd with rfl | hd
                · exact ⟨o, ha.1⟩
                · exact ih ha.2 hd
          exact this ha hd
        exact ⟨trivial, rfl, trivial, trivial, rfl, Wp.mono (step d o G1 po) fun y G3 ⟨e, a⟩ => ⟨j.trans a, fun o' po' => by rw [e, uniq d o o' po po']⟩⟩
    · have ey := All2.optD ha h2
      subst ey
      refine ⟨rfl, product_wp app_one ok ⟨rfl, j2.trans Ap.one⟩⟩
  · rw [wp_eq, he G]
    refine ⟨false, rfl, false, rfl, ?_⟩
    simp only [Bool.false_eq_true, if_false]
    exact ⟨rfl, Ap.refl⟩
theorem lc_wp {R : List D → M D} {d : D} {x : OI} {G : DH} (n : Nat) (h : (d = .non ∧ x = some 0) ∨ ∃ fs os more, d = .tup [.tup fs, more] ∧ fs.length ≤ 100 ∧ All2 (Cn n) fs os ∧ okP 1 os ∧ Mo more (prodO 1 os) x) (ih : ∀ d o G, Cn n d o → Wp (R [d]) G fun y G' => y = optD o ∧ Ap G G') : Wp (H_lists_count R [d]) G fun y G' => y = optD x ∧ Ap G G' := by
  unfold H_lists_count B_lists_count
  have s0 : ([d].map some ++ List.replicate (1 - [d].length) none : DSt) = [some d] := rfl
  rw [wp_body, s0]
  rcases h with ⟨rfl, rfl⟩ | ⟨fs, os, more, rfl, hl, ha, ok, hm⟩
  · simp only [wp_seq, wp_if, wp_ret, wp_test, wp_bin, wp_c, wp_var, Option.some.injEq, exists_eq_left', List.getElem?_cons_zero, isC_non, isBlI, isNonD, if_true]
    exact ⟨rfl, Ap.refl⟩
  · rw [wp_seq]
    simp only [wp_if, wp_test, wp_bin, wp_c, wp_var, wp_next, Option.some.injEq, exists_eq_left', List.getElem?_cons_zero, isC_non, isBlI, isNonD, Bool.false_eq_true, if_false]
    rw [wp_ret]
    exact part_wp rfl hl ha ok hm rfl ih
theorem fc_wp {R : List D → M D} {z : Str} {m : Bool} {d : D} {o : OI} {G : DH} (h : Wp (R [d]) G fun y G' => y = optD o ∧ Ap G G') : Wp (H_field_count R [.tup [.str z, .bl m, d]]) G fun y G' => y = optD (fcO m o) ∧ Ap G G' := by
  unfold H_field_count B_field_count
  have s0 : ([D.tup [.str z, .bl m, d]].map some ++ List.replicate (2 - [D.tup [.str z, .bl m, d]].length) none : DSt) = [some (.tup [.str z, .bl m, d]), none] := rfl
  have a3 : ∀ {a b c : D}, atI [a, b, c] 1 = some b ∧ atI [a, b, c] 2 = some c := ⟨rfl, rfl⟩
  simp only [wp_body, s0, wp_seq, wp_asg, wp_name, wp_ret, wp_ifE, wp_orT, wp_truth, wp_test, wp_bin, wp_call, wp_cons, wp_nil, wp_c, wp_var, wp_fnX, Option.some.injEq, exists_eq_left', List.getElem?_cons_zero, List.getElem?_cons_succ, List.set_cons_zero, List.set_cons_succ, ix_tup, a3.1, a3.2, truth_bl, isC_non, isBlI]
  refine ⟨rfl, Wp.mono h fun y G1 ⟨e, a⟩ => ?_⟩
  subst e
  cases m with
  | true => simp only [if_true]; exact ⟨rfl, a⟩
  | false =>
    cases o with
    | none => simp only [Bool.false_eq_true, if_false, optD, endD, isNonD, if_true]; exact ⟨rfl, a⟩
    | some i =>
      simp only [Bool.false_eq_true, if_false, optD, endD, isNonD, add_int]
      exact ⟨rfl, a⟩
theorem rc_wp {R : List D → M D} {d : D} {x : OI} {G : DH} (n : Nat) (h : (d = .non ∧ x = some 0) ∨ ∃ fs os more, d = .tup [.tup fs, more] ∧ fs.length ≤ 100 ∧ All2 (fun f o => ∃ z m d o', f = .tup [.str z, .bl m, d] ∧ Cn n d o' ∧ o = fcO m o') fs os ∧ okP 1 os ∧ Mo more (prodO 1 os) x) (ih : ∀ d o G, Cn n d o → Wp (R [d]) G fun y G' => y = optD o ∧ Ap G G') : Wp (H_records_count R [d]) G fun y G' => y = optD x ∧ Ap G G' := by
  unfold H_records_count B_records_count
  have s0 : ([d].map some ++ List.replicate (1 - [d].length) none : DSt) = [some d] := rfl
  rw [wp_body, s0]
  rcases h with ⟨rfl, rfl⟩ | ⟨fs, os, more, rfl, hl, ha, ok, hm⟩
  · simp only [wp_seq, wp_if, wp_ret, wp_test, wp_bin, wp_c, wp_var, Option.some.injEq, exists_eq_left', List.getElem?_cons_zero, isC_non, isBlI, isNonD, if_true]
    exact ⟨rfl, Ap.refl⟩
  · rw [wp_seq]
    simp only [wp_if, wp_test, wp_bin, wp_c, wp_var, wp_next, Option.some.injEq, exists_eq_left', List.getElem?_cons_zero, isC_non, isBlI, isNonD, Bool.false_eq_true, if_false]
    rw [wp_ret]
    refine part_wp rfl hl ha ok hm rfl fun f o G hf => ?_
    obtain ⟨z, m, d, o', rfl, hc, rfl⟩ := hf
    exact fc_wp (ih d o' G hc)
theorem lc0 {R : List D → M D} {G : DH} : Wp (H_lists_count R [.non]) G fun y G' => y = optD (some 0) ∧ Ap G G' := by
  unfold H_lists_count B_lists_count
  have s0 : ([D.non].map some ++ List.replicate (1 - [D.non].length) none : DSt) = [some .non] := rfl
  rw [wp_body, s0]
  simp only [wp_seq, wp_if, wp_ret, wp_test, wp_bin, wp_c, wp_var, Option.some.injEq, exists_eq_left', List.getElem?_cons_zero, isC_non, isBlI, isNonD, if_true]
  exact ⟨rfl, Ap.refl⟩
theorem rc0 {R : List D → M D} {G : DH} : Wp (H_records_count R [.non]) G fun y G' => y = optD (some 0) ∧ Ap G G' := by
  unfold H_records_count B_records_count
  have s0 : ([D.non].map some ++ List.replicate (1 - [D.non].length) none : DSt) = [some .non] := rfl
  rw [wp_body, s0]
  simp only [wp_seq, wp_if, wp_ret, wp_test, wp_bin, wp_c, wp_var, Option.some.injEq, exists_eq_left', List.getElem?_cons_zero, isC_non, isBlI, isNonD, if_true]
  exact ⟨rfl, Ap.refl⟩
theorem hb_any {R : List D → M D} {G : DH} : Wp (bodyF 2 (B_how_many R) [.str wAny]) G fun x G' => x = optD none ∧ Ap G G' := by
  unfold B_how_many
  have s0 : ([D.str wAny].map some ++ List.replicate (2 - [D.str wAny].length) none : DSt) = [some (.str wAny), none] := rfl
  simp only [wp_body, s0, wp_seq, wp_if, wp_test, wp_ret, wp_bin, wp_c, wp_var, Option.some.injEq, exists_eq_left', List.getElem?_cons_zero, eq_str, isBlI, show (wAny == ("any" : Str)) = true by decide, if_true]
  exact ⟨rfl, Ap.refl⟩
theorem hb_wp {R : List D → M D} {ps : List (OI × OI)} {w : Str} {ss : List Str} {bs : List Bool} {a b : D} {x y : OI} {G : DH} (hl : ps.length ≤ 100) (ha : ∀ G, Wp (H_lists_count R [a]) G fun v G' => v = optD x ∧ Ap G G') (hb : ∀ G, Wp (H_records_count R [b]) G fun v G' => v = optD y ∧ Ap G G') :
    Wp (bodyF 2 (B_how_many R) [.tup [.tup (ps.map pairD), .tup [.str w, .tup (ss.map D.str)], .tup (bs.map D.bl), a, b]]) G fun v G' => v = optD (cnt5 (sumP ps) (if w == wOf then some (ss.length : Int) else none) (some (bs.length : Int)) x y) ∧ Ap G G' := by
  unfold B_how_many
  have s0 : ([D.tup [.tup (ps.map pairD), .tup [.str w, .tup (ss.map D.str)], .tup (bs.map D.bl), a, b]].map some ++ List.replicate (2 - [D.tup [.tup (ps.map pairD), .tup [.str w, .tup (ss.map D.str)], .tup (bs.map D.bl), a, b]].length) none : DSt) = [some (.tup [.tup (ps.map pairD), .tup [.str w, .tup (ss.map D.str)], .tup (bs.map D.bl), a, b]), none] := rfl
  simp only [wp_body, s0, wp_seq, wp_asg, wp_name, wp_if, wp_ifE, wp_test, wp_ret, wp_bin, wp_lst, wp_call, wp_cons, wp_nil, wp_c, wp_var, wp_fnX, wp_next, Option.some.injEq, exists_eq_left', List.getElem?_cons_zero, List.getElem?_cons_succ, List.set_cons_zero, List.set_cons_succ, eq_tup_any, isBlI, Bool.false_eq_true, if_false, ix_tup, at5.1, at5.2.1, at5.2.2.1, at5.2.2.2.1, at5.2.2.2.2, texts_count_wp, len_tup, List.length_map]
  refine ⟨rfl, Wp.mono (numbers_count_wp hl) fun v G1 ⟨ex, a1⟩ => ?_⟩
  subst ex
  refine ⟨rfl, rfl, Wp.mono (ha G1) fun v G2 ⟨ex, a2⟩ => ?_⟩
  subst ex
  refine ⟨rfl, Wp.mono (hb G2) fun v G3 ⟨ex, a3⟩ => ?_⟩
  subst ex
  refine ⟨sz, ?_⟩
  have a4 : Ap G (G3 ++ [DO.lst [optD (sumP ps), optD (if w == wOf then some (ss.length : Int) else none), D.int (bs.length : Int), optD x, optD y]]) := a1.trans (a2.trans (a3.trans Ap.one))
  rw [wp_in]
  have e5 : (G3 ++ [DO.lst [optD (sumP ps), optD (if w == wOf then some (ss.length : Int) else none), D.int (bs.length : Int), optD x, optD y]])[G3.length]? = some (.lst [optD (sumP ps), optD (if w == wOf then some (ss.length : Int) else none), optD (some (bs.length : Int)), optD x, optD y]) := app_one
  refine ⟨_, in_five e5, ?_⟩
  simp only [isBlI]
  generalize hx1 : sumP ps = y1 at e5 a4 ⊢
  generalize hx2 : (if w == wOf then some (ss.length : Int) else none) = y2 at e5 a4 ⊢
  cases y1 with
  | none => simp only [Option.isNone_none, Bool.true_or, if_true]; exact ⟨rfl, a4⟩
  | some i1 =>
  cases y2 with
  | none => simp only [Option.isNone_none, Bool.true_or, Bool.or_true, if_true]; exact ⟨rfl, a4⟩
  | some i2 =>
  cases x with
  | none => simp only [Option.isNone_none, Bool.true_or, Bool.or_true, if_true]; exact ⟨rfl, a4⟩
  | some i3 =>
  cases y with
  | none => simp only [Option.isNone_none, Bool.true_or, Bool.or_true, if_true]; exact ⟨rfl, a4⟩
  | some i4 =>
    simp only [Option.isNone_some, Bool.or_self, Bool.false_eq_true, if_false]
    have e6 : (G3 ++ [DO.lst [optD (some i1), optD (some i2), D.int (bs.length : Int), optD (some i3), optD (some i4)]])[G3.length]? = some (.lst ([i1, i2, (bs.length : Int), i3, i4].map D.int)) := app_one
    rw [sum_lst e6]
    refine ⟨?_, a4⟩
    simp only [cnt5, optD, endD, List.sum_cons, List.sum_nil]
    congr 1
    omega
theorem hm_wp : ∀ (n : Nat) (d : D) (o : OI) (G : DH), Cn n d o → Wp (R_how_many (n + 1) [d]) G fun y G' => y = optD o ∧ Ap G G' := by
  intro n
  induction n with
  | zero =>
    intro d o G h
    unfold Cn at h
    show Wp (bodyF 2 (B_how_many (R_how_many 0)) [d]) G _
    rcases h with ⟨rfl, rfl⟩ | ⟨ps, w, ss, bs, a, b, x, y, rfl, hl, rfl, ha, hb⟩
    · exact hb_any
    · have ha' : a = .non ∧ x = some 0 := ha.elim id False.elim
      have hb' : b = .non ∧ y = some 0 := hb.elim id False.elim
      obtain ⟨rfl, rfl⟩ := ha'
      obtain ⟨rfl, rfl⟩ := hb'
      exact hb_wp hl (fun _ => lc0) (fun _ => rc0)
  | succ n ih =>
    intro d o G h
    unfold Cn at h
    show Wp (bodyF 2 (B_how_many (R_how_many (n + 1))) [d]) G _
    rcases h with ⟨rfl, rfl⟩ | ⟨ps, w, ss, bs, a, b, x, y, rfl, hl, rfl, ha, hb⟩
    · exact hb_any
    · exact hb_wp hl (fun G => lc_wp n ha ih) (fun G => rc_wp n hb ih)
end W
set_option Elab.async false
set_option linter.all false
set_option maxRecDepth 100000
namespace W
open PySem PySem.Spec L2 DL
open PyProof.Rows hiding St
theorem data_le : ∀ {n m : Nat} {d : D}, n ≤ m → dataN n d = true → dataN m d = true
  | n, m, .non, _, _ => by cases m <;> rfl
  | n, m, .bl _, _, _ => by cases m <;> rfl
  | n, m, .int _, _, _ => by cases m <;> rfl
  | n, m, .str _, _, _ => by cases m <;> rfl
  | 0, m, .tup l, _, h => by simp [dataN] at h
  | n + 1, 0, .tup l, h, _ => by omega
  | n + 1, m + 1, .tup l, h, k => by
    simp only [dataN, List.all_eq_true] at k ⊢
    exact fun x hx => data_le (by omega) (k x hx)
  | n, m, .ref _, _, h => by cases n <;> simp [dataN] at h
  | n, m, .fn _, _, h => by cases n <;> simp [dataN] at h
  | n, m, .ty _, _, h => by cases n <;> simp [dataN] at h
noncomputable def Sn (n : Nat) (d : D) (o : OI) : Prop := Cn n d o ∧ dataN (4 + 4 * n) d = true
noncomputable def Vl (B r : Nat) (G : DH) (v : D) (o : OI) : Prop := (v = .non ∧ o = none) ∨ ∃ q l, v = .ref q ∧ q ≠ r ∧ G[q]? = some (.lst l) ∧ o = some (l.length : Int) ∧ l.length ≤ B
theorem Vl.up {B B' r : Nat} {G : DH} {v : D} {o : OI} (h : Vl B r G v o) (hb : B ≤ B') : Vl B' r G v o := by
  rcases h with h | ⟨q, l, h1, h2, h3, h4, h5⟩
  · exact .inl h
  · exact .inr ⟨q, l, h1, h2, h3, h4, by omega⟩
theorem Vl.fd {B r : Nat} {G G' : DH} {v : D} {o : OI} (h : Vl B r G v o) (f : Fd r G G') : Vl B r G' v o := by
  rcases h with h | ⟨q, l, h1, h2, h3, h4⟩
  · exact .inl h
  · exact .inr ⟨q, l, h1, h2, f.at h2 h3, h4⟩
theorem data_strs (n : Nat) (ss : List Str) : dataN (n + 1) (.tup (ss.map D.str)) = true := by
  simp only [dataN, List.all_map, List.all_eq_true]
  intro x _
  cases n <;> rfl
theorem data_bls (n : Nat) (bs : List Bool) : dataN (n + 1) (.tup (bs.map D.bl)) = true := by
  simp only [dataN, List.all_map, List.all_eq_true]
  intro x _
  cases n <;> rfl
theorem data_pairs (n : Nat) (ps : List (OI × OI)) : dataN (n + 2) (.tup (ps.map pairD)) = true := by
  simp only [dataN, List.all_map, List.all_eq_true]
  intro p _
  simp [pairD, dataN, data_end]
theorem data_set {n : Nat} {ps : List (OI × OI)} {w : Str} {ss : List Str} {bs : List Bool} {a b : D} (ha : dataN (n + 3) a = true) (hb : dataN (n + 3) b = true) : dataN (n + 4) (.tup [.tup (ps.map pairD), .tup [.str w, .tup (ss.map D.str)], .tup (bs.map D.bl), a, b]) = true := by
  have h1 := data_pairs (n + 1) ps
  have h2 : dataN (n + 3) (.tup [.str w, .tup (ss.map D.str)]) = true := by
    have := data_strs (n + 1) ss
    show ([D.str w, .tup (ss.map D.str)].all (dataN (n + 2))) = true
    simp [this, dataN]
  have h3 := data_bls (n + 2) bs
  show ([D.tup (ps.map pairD), .tup [.str w, .tup (ss.map D.str)], .tup (bs.map D.bl), a, b].all (dataN (n + 3))) = true
  simp [h1, h2, h3, ha, hb]
theorem sn_plain {ps : List (OI × OI)} {w : Str} {ss : List Str} {bs : List Bool} {n : Nat} {o : OI} (hl : ps.length ≤ 100) (ho : o = cnt5 (sumP ps) (if w == wOf then some (ss.length : Int) else none) (some (bs.length : Int)) (some 0) (some 0)) : Sn n (.tup [.tup (ps.map pairD), .tup [.str w, .tup (ss.map D.str)], .tup (bs.map D.bl), .non, .non]) o := by
  refine ⟨?_, ?_⟩
  · unfold Cn
    exact .inr ⟨ps, w, ss, bs, .non, .non, some 0, some 0, rfl, hl, ho, .inl ⟨rfl, rfl⟩, .inl ⟨rfl, rfl⟩⟩
  · exact data_le (by omega) (data_set (n := 0) rfl rfl)
noncomputable def Pl (d : D) (o : OI) : Prop := ∃ (ps : List (OI × OI)) (w : Str) (ss : List Str) (bs : List Bool), d = .tup [.tup (ps.map pairD), .tup [.str w, .tup (ss.map D.str)], .tup (bs.map D.bl), .non, .non] ∧ ps.length ≤ 100 ∧ o = cnt5 (sumP ps) (if w == wOf then some (ss.length : Int) else none) (some (bs.length : Int)) (some 0) (some 0)
theorem Pl.sn {d : D} {o : OI} (h : Pl d o) (n : Nat) : Sn n d o := by
  obtain ⟨ps, w, ss, bs, rfl, hl, ho⟩ := h
  exact sn_plain hl ho
theorem pl_plain {ps : List (OI × OI)} {w : Str} {ss : List Str} {bs : List Bool} {o : OI} (hl : ps.length ≤ 100) (ho : o = cnt5 (sumP ps) (if w == wOf then some (ss.length : Int) else none) (some (bs.length : Int)) (some 0) (some 0)) : Pl (.tup [.tup (ps.map pairD), .tup [.str w, .tup (ss.map D.str)], .tup (bs.map D.bl), .non, .non]) o := ⟨ps, w, ss, bs, rfl, hl, ho⟩
noncomputable def PLb : Fs := (seqS (ifS (andT (truthE (varE 1)) (testE (binE eqD (binE modD (binE fdivD (varE 2) (cE (.int 540))) (cE (.int 2))) (cE (.int 0))))) (retS (tupE (q10 (tupE (q10 (binE addD (tupE (q10 (tupE (q10 (cE .non) (q10 (varE 3) (q11)))) (q11))) (sliceT (varE 8) (partO (cE (.int 1))) (noPart))) (q10 (varE 9) (q10 (varE 6) (q10 (cE .non) (q10 (cE .non) (q11))))))) (q10 (cE .non) (q11))))) (nextS)) (seqS (ifS (truthE (varE 1)) (retS (tupE (q10 (tupE (q10 (varE 8) (q10 (tupE (q10 (cE (.str ("but" : Str))) (q10 (varE 5) (q11)))) (q10 (varE 6) (q10 (cE .non) (q10 (cE .non) (q11))))))) (q10 (cE .non) (q11))))) (nextS)) (retS (tupE (q10 (tupE (q10 (varE 8) (q10 (varE 9) (q10 (varE 6) (q10 (cE .non) (q10 (cE .non) (q11))))))) (q10 (varE 7) (q11)))))))
noncomputable def PLc : Fs := (ifS (testE (binE eqD (binE modD (binE fdivD (varE 2) (cE (.int 108))) (cE (.int 5))) (cE (.int 0)))) (seqS (asgS (binE addD (varE 8) (tupE (q10 (tupE (q10 (binE addD (varE 3) (cE (.int 9))) (q10 (binE addD (varE 3) (cE (.int 9))) (q11)))) (q11)))) (q12 8)) (dropS (mtE isListM appendD (varE 7) (q10 (binE addD (varE 3) (cE (.int 9))) (q11))))) (nextS))
noncomputable def PLv : Fe := (binE addD (binE addD (compE (itRng1 (q10 (varE 4) (q11))) [none, some 3] (q12 0) (trueT) (binE addD (varE 1) (varE 0))) (q13 listF (q10 (varE 5) (q11)))) (q13 listF (q10 (varE 6) (q11))))
noncomputable def PLd : Fs := (ifS (testE (binE gtD (varE 4) (cE (.int 0)))) (asgS (tupE (q10 (tupE (q10 (varE 3) (q10 (binE subD (binE addD (varE 3) (varE 4)) (cE (.int 1))) (q11)))) (q11))) (q12 8)) (nextS))
theorem is_PL : B__law_plain = seqS (asgS (q13 (fnX 1 F__law_next) (q10 (varE 0) (q11))) (q12 2)) (seqS (asgS (binE subD (binE modD (varE 2) (cE (.int 9))) (cE (.int 4))) (q12 3)) (seqS (asgS (binE modD (binE fdivD (varE 2) (cE (.int 9))) (cE (.int 3))) (q12 4)) (seqS (asgS (sliceT (q13 (fnX 1 F__law_words) (q10 (varE 0) (q11))) (noPart) (partO (cE (.int 2)))) (q12 5)) (seqS (asgS (binE ixD (lstE (q10 (tupE (q11)) (q10 (tupE (q10 (cE (.bl false)) (q11))) (q10 (tupE (q10 (cE (.bl true)) (q11))) (q10 (tupE (q10 (cE (.bl false)) (q10 (cE (.bl true)) (q11)))) (q11)))))) (binE modD (binE fdivD (varE 2) (cE (.int 27))) (cE (.int 4)))) (q12 6)) (seqS (asgS PLv (q12 7)) (seqS (asgS (tupE (q11)) (q12 8)) (seqS PLd (seqS PLc (seqS (asgS (tupE (q10 (cE (.str ("of" : Str))) (q10 (varE 5) (q11)))) (q12 9)) PLb))))))))) := rfl
theorem PLb_wp {r q : Nat} {e : Bool} {k : Nat} {a : Int} {o4 : Option D} {ss : List Str} {bs : List Bool} {ps : List (OI × OI)} {l : List D} {G : DH} (hq : q ≠ r) (h : Dr G r) (el : G[q]? = some (.lst l)) (hl : l.length ≤ 20) (hps : ps.length ≤ 50) (hc : cnt5 (sumP ps) (some (ss.length : Int)) (some (bs.length : Int)) (some 0) (some 0) = some (l.length : Int)) :
    Wp (PLb [some (.ref r), some (.bl e), some (.int (k : Int)), some (.int a), o4, some (.tup (ss.map D.str)), some (.tup (bs.map D.bl)), some (.ref q), some (.tup (ps.map pairD)), some (.tup [.str wOf, .tup (ss.map D.str)])]) G fun fl G' => G' = G ∧ ∃ d v o, fl = .rt (.tup [d, v]) ∧ Pl d o ∧ Vl 20 r G v o ∧ (v = .non ∨ v = .ref q) := by
  have bg := big
  unfold PLb
  simp only [wp_seq, wp_if, wp_andT, wp_truth, wp_test, wp_ret, wp_tup, wp_bin, wp_sliceT, wp_noPart, wp_part, intI, wp_cons, wp_nil, wp_c, wp_var, wp_next, Option.some.injEq, exists_eq_left', List.getElem?_cons_zero, List.getElem?_cons_succ, truth_bl, fdiv_int (show (0 : Int) < 540 ∧ (540 : Int) < 2 ^ 100 by decide), mod_int (show (0 : Int) < 2 by decide), eq_int, isBlI]
  cases e with
  | false =>
    simp only [Bool.false_eq_true, if_false]
    refine ⟨sz, sz, by first | rfl | trivial, _, _, _, rfl, pl_plain (by omega) rfl, .inr ⟨q, l, rfl, hq, el, ?_, hl⟩, .inr rfl⟩
    exact hc
  | true =>
    simp only [if_true]
    split
    · refine ⟨sz, sz, ?_⟩
      rw [slT_tup, cut_1, add_tup (by rw [List.length_drop, List.length_map]; simp only [List.length_cons, List.length_nil]; omega)]
      refine ⟨sz, sz, by first | rfl | trivial, _, _, none, rfl, ?_, .inl ⟨rfl, rfl⟩, .inl rfl⟩
      have ed : ([D.tup [.non, .int a]] ++ (ps.map pairD).drop 1) = ((none, some a) :: ps.drop 1).map pairD := by rw [← List.map_drop]; rfl
      rw [ed]
      exact pl_plain (by simp; omega) rfl
    · refine ⟨sz, sz, sz, by first | rfl | trivial, _, _, none, rfl, pl_plain (w := wBut) (by omega) ?_, .inl ⟨rfl, rfl⟩, .inl rfl⟩
      cases sumP ps <;> rfl
theorem PLv_wp {r : Nat} {o0 o1 o2 o7 o8 o9 : Option D} {a : Int} {m : Nat} {ss : List Str} {bs : List Bool} {G : DH} {Q : D → DH → Prop} (hm : m < 3) (hs : ss.length ≤ 2) (hb : bs.length ≤ 2) (q : ∀ (t : DH) (l : List D), l.length = m + ss.length + bs.length → (G ++ t)[(G ++ t).length - 1]? = some (.lst l) → 0 < t.length → Q (.ref ((G ++ t).length - 1)) (G ++ t)) :
    Wp (PLv [o0, o1, o2, some (.int a), some (.int (m : Int)), some (.tup (ss.map D.str)), some (.tup (bs.map D.bl)), o7, o8, o9]) G Q := by
  have bg := big
  unfold PLv
  simp only [wp_bin, wp_call, wp_cons, wp_nil, wp_var, Option.some.injEq, exists_eq_left', List.getElem?_cons_zero, List.getElem?_cons_succ, list_tup]
  have hlen : (rangeL 0 (m : Int).toNat).length = m := by unfold rangeL; rw [List.length_map, List.length_range]; rfl
  have hsrc : itRng1 (q10 (varE 4) q11) [o0, o1, o2, some (.int a), some (.int (m : Int)), some (.tup (ss.map D.str)), some (.tup (bs.map D.bl)), o7, o8, o9] G = some (.ok ⟨rangeL 0 (m : Int).toNat, fun _ => true⟩, G) := by
    obtain ⟨x, G', e1, e2⟩ := (show Wp (itRng1 (q10 (varE 4) q11) [o0, o1, o2, some (.int a), some (.int (m : Int)), some (.tup (ss.map D.str)), some (.tup (bs.map D.bl)), o7, o8, o9]) G fun x G' => x = ⟨rangeL 0 (m : Int).toNat, fun _ => true⟩ ∧ G' = G by
      simp only [rng1, wp_cons, wp_nil, wp_var, Option.some.injEq, exists_eq_left', List.getElem?_cons_zero, List.getElem?_cons_succ]
      rw [rng1_int ⟨by omega, by omega⟩]
      exact ⟨rfl, rfl⟩)
    rw [e2.1, e2.2] at e1
    exact e1
  rw [comp_wp (s := ⟨rangeL 0 (m : Int).toNat, fun _ => true⟩) (f := fun x => match x with | .int i => .int (a + i) | _ => .non) (fun σ => ∃ u, σ = [u, some (.int a)]) hsrc (by show (rangeL 0 (m : Int).toNat).length ≤ _; rw [hlen]; omega) rfl ⟨none, rfl⟩ (fun x hx σ hσ => ?_)]
  · generalize hL : ((rangeL 0 (m : Int).toNat).map fun x => match x with | .int i => D.int (a + i) | _ => .non) = L
    have hLl : L.length = m := by rw [← hL, List.length_map, hlen]
    rw [add_lst (at_app app_one) app_one (by rw [List.length_map]; omega), add_lst (at_app app_one) app_one (by simp only [List.length_append, List.length_map]; omega)]
    have := q [.lst L, .lst (ss.map D.str), .lst (L ++ ss.map D.str), .lst (bs.map D.bl), .lst (L ++ ss.map D.str ++ bs.map D.bl)] (L ++ ss.map D.str ++ bs.map D.bl) (by simp only [List.length_append, List.length_map]; omega) (by
      rw [List.length_append]
      show (G ++ _)[G.length + 5 - 1]? = _
      rw [show G.length + 5 - 1 = G.length + 4 by omega, app_at]; rfl) (by simp)
    simp only [List.append_assoc, List.cons_append, List.nil_append, List.length_append, List.length_cons, List.length_nil] at this ⊢
    exact this
  · unfold rangeL at hx
    obtain ⟨i, hi, rfl⟩ := List.mem_map.mp hx
    obtain ⟨u, rfl⟩ := hσ
    refine ⟨[some (.int (0 + (i : Int))), some (.int a)], rfl, ⟨_, rfl⟩, rfl, wp_is ?_⟩
    simp only [wp_bin, wp_var, List.getElem?_cons_zero, List.getElem?_cons_succ, Option.some.injEq, exists_eq_left', add_int]
    exact ⟨trivial, trivial⟩
theorem PLd_wp {o0 o1 o2 o5 o6 o7 o9 : Option D} {a : Int} {m : Nat} {G : DH} : Wp (PLd [o0, o1, o2, some (.int a), some (.int (m : Int)), o5, o6, o7, some (.tup []), o9]) G fun fl G' => G' = G ∧ ∃ ps : List (OI × OI), fl = .nx [o0, o1, o2, some (.int a), some (.int (m : Int)), o5, o6, o7, some (.tup (ps.map pairD)), o9] ∧ ps.length ≤ 1 ∧ sumP ps = some (m : Int) := by
  unfold PLd
  simp only [wp_if, wp_test, wp_asg, wp_name, wp_tup, wp_bin, wp_cons, wp_nil, wp_c, wp_var, wp_next, Option.some.injEq, exists_eq_left', List.getElem?_cons_zero, List.getElem?_cons_succ, List.set_cons_zero, List.set_cons_succ, gt_wp, isBlI, add_int, sub_int]
  by_cases hm : (0 : Int) < (m : Int)
  · simp only [hm, decide_true, if_true]
    refine ⟨sz, sz, by first | rfl | trivial, [(some a, some (a + (m : Int) - 1))], rfl, by simp, ?_⟩
    simp only [sumP, Option.map_some]
    congr 1
    omega
  · simp only [hm, decide_false, Bool.false_eq_true, if_false]
    have : m = 0 := by omega
    subst this
    exact ⟨by first | rfl | trivial, [], rfl, by simp, rfl⟩
theorem sum_snoc : ∀ (ps : List (OI × OI)) (a b s : Int), sumP ps = some s → sumP (ps ++ [(some a, some b)]) = some (s + (b - a + 1))
  | [], a, b, s, h => by
    simp only [sumP, Option.some.injEq] at h
    subst h
    simp only [List.nil_append, sumP, Option.map_some, Option.some.injEq]
    omega
  | (none, y) :: r, a, b, s, h => by simp [sumP] at h
  | (some x, none) :: r, a, b, s, h => by simp [sumP] at h
  | (some x, some y) :: r, a, b, s, h => by
    simp only [sumP] at h
    cases hs : sumP r with
    | none => rw [hs] at h; cases h
    | some t =>
      rw [hs] at h
      simp only [Option.map_some, Option.some.injEq] at h
      simp only [List.cons_append, sumP, sum_snoc r a b t hs, Option.map_some, Option.some.injEq]
      omega
theorem PLc_wp {r q : Nat} {o1 o4 o5 o6 o9 : Option D} {a s : Int} {k : Nat} {ps : List (OI × OI)} {l : List D} {G G0 : DH} (hq : q ≠ r) (f : Fd r G0 G) (hq0 : G0.length ≤ q) (el : G[q]? = some (.lst l)) (hl : l.length ≤ 100) (hps : ps.length ≤ 1) (hs : sumP ps = some s) :
    Wp (PLc [some (.ref r), o1, some (.int (k : Int)), some (.int a), o4, o5, o6, some (.ref q), some (.tup (ps.map pairD)), o9]) G fun fl G' => Fd r G0 G' ∧ ∃ (ps' : List (OI × OI)) (l' : List D) (c : Nat), fl = .nx [some (.ref r), o1, some (.int (k : Int)), some (.int a), o4, o5, o6, some (.ref q), some (.tup (ps'.map pairD)), o9] ∧ ps'.length ≤ 2 ∧ sumP ps' = some (s + c) ∧ G'[q]? = some (.lst l') ∧ l'.length = l.length + c ∧ c ≤ 1 := by
  have bg := big
  unfold PLc
  simp only [wp_seq, wp_if, wp_test, wp_asg, wp_name, wp_drop, wp_mt, wp_tup, wp_bin, wp_cons, wp_nil, wp_c, wp_var, wp_next, Option.some.injEq, exists_eq_left', List.getElem?_cons_zero, List.getElem?_cons_succ, List.set_cons_zero, List.set_cons_succ, add_int, fdiv_int (show (0 : Int) < 108 ∧ (108 : Int) < 2 ^ 100 by decide), mod_int (show (0 : Int) < 5 by decide), eq_int, isBlI]
  split
  · refine ⟨sz, sz, ?_⟩
    rw [add_tup (by rw [List.length_map]; simp only [List.length_cons, List.length_nil]; omega), isList_lst el, append_lst el (by omega)]
    refine ⟨f.put hq0 hq, ps ++ [(some (a + 9), some (a + 9))], l ++ [.int (a + 9)], 1, by rw [List.map_append]; rfl, by simp; omega, ?_, by rw [List.getElem?_set_self (lt_of_get el)], by simp, by omega⟩
    rw [sum_snoc ps _ _ s hs]
    congr 1
    omega
  · exact ⟨f, ps, l, 0, rfl, by omega, by rw [hs]; simp, el, by simp, by omega⟩
theorem plain_wp {r : Nat} {e : Bool} {G : DH} (h : Dr G r) : Wp (F__law_plain [.ref r, .bl e]) G fun x G' => Fd r G G' ∧ ∃ d v o, x = .tup [d, v] ∧ Pl d o ∧ Vl 20 r G' v o ∧ ∀ q, v = .ref q → G.length ≤ q := by
  have bg := big
  unfold F__law_plain
  rw [is_PL]
  have s0 : ([D.ref r, .bl e].map some ++ List.replicate (10 - [D.ref r, .bl e].length) none : DSt) = [some (.ref r), some (.bl e), none, none, none, none, none, none, none, none] := rfl
  simp only [wp_body, s0, wp_seq, wp_asg, wp_name, wp_tup, wp_bin, wp_lst, wp_sliceT, wp_noPart, wp_part, intI, wp_call, wp_cons, wp_nil, wp_c, wp_var, wp_fnX, Option.some.injEq, exists_eq_left', List.getElem?_cons_zero, List.getElem?_cons_succ, List.set_cons_zero, List.set_cons_succ]
  refine ⟨rfl, next_q h fun k G1 f1 => ?_⟩
  simp only [mod_int (show (0 : Int) < 9 by decide), sub_int, fdiv_int (show (0 : Int) < 9 ∧ (9 : Int) < 2 ^ 100 by decide), fdiv_int (show (0 : Int) < 27 ∧ (27 : Int) < 2 ^ 100 by decide), mod_int (show (0 : Int) < 3 by decide), mod_int (show (0 : Int) < 4 by decide)]
  refine ⟨rfl, Wp.mono (words_wp f1.2.2) fun x G2 ⟨ss, ex, hw, _, hsl, f2⟩ => ?_⟩
  subst ex
  rw [slT_tup, show (2 : Int) = ((2 : Nat) : Int) from rfl, cut_take, ← List.map_take]
  have f12 := f1.trans f2
  refine ⟨sz, sz, sz, sz, sz, ?_⟩
  rw [ix_lst app_one]
  obtain ⟨t, ht, et⟩ := atI_some (l := [D.tup [], .tup [.bl false], .tup [.bl true], .tup [.bl false, .bl true]]) (k := (k : Int) / 27 % 4) (Int.emod_nonneg _ (by decide)) (Int.emod_lt_of_pos _ (by decide))
  refine ⟨t, et, ?_⟩
  obtain ⟨bs, rfl, hbs⟩ : ∃ bs : List Bool, t = .tup (bs.map D.bl) ∧ bs.length ≤ 2 := by
    simp only [List.mem_cons, List.not_mem_nil, or_false] at ht
    rcases ht with rfl | rfl | rfl | rfl
    · exact ⟨[], rfl, by simp⟩
    · exact ⟨[false], rfl, by simp⟩
    · exact ⟨[true], rfl, by simp⟩
    · exact ⟨[false, true], rfl, by simp⟩
  have f3 : Fd r G (G2 ++ [DO.lst [D.tup [], .tup [.bl false], .tup [.bl true], .tup [.bl false, .bl true]]]) := f12.trans (Fd.app f12.2.2)
  generalize (G2 ++ [DO.lst [D.tup [], .tup [.bl false], .tup [.bl true], .tup [.bl false, .bl true]]]) = G3 at f3 ⊢
  have m0 : 0 ≤ (k : Int) / 9 % 3 := Int.emod_nonneg _ (by decide)
  have m1 : (k : Int) / 9 % 3 < 3 := Int.emod_lt_of_pos _ (by decide)
  obtain ⟨m, hm⟩ := Int.eq_ofNat_of_zero_le m0
  rw [hm] at m1
  rw [hm]
  have hss : (ss.take 2).length ≤ 2 := by rw [List.length_take]; omega
  refine PLv_wp (r := r) (by omega) hss hbs fun tl l hl hat htl => ?_
  have f4 : Fd r G (G3 ++ tl) := f3.trans (Fd.app f3.2.2)
  have hG3 : G.length ≤ G3.length := f3.1
  have hq : (G3 ++ tl).length - 1 ≠ r := by have := f3.2.2.lt; rw [List.length_append]; omega
  have hq0 : G.length ≤ (G3 ++ tl).length - 1 := by rw [List.length_append]; omega
  generalize (G3 ++ tl).length - 1 = q at hat hq hq0 ⊢
  generalize G3 ++ tl = G4 at f4 hat ⊢
  refine ⟨sz, Wp.mono PLd_wp fun fl G5 ⟨e5, ps, ef, hp1, hs1⟩ => ?_⟩
  subst e5 ef
  refine Wp.mono (PLc_wp hq f4 hq0 hat (by omega) hp1 hs1) fun fl G6 ⟨f6, ps', l', c, ef, hp2, hs2, hat2, hl2, hc⟩ => ?_
  subst ef
  simp only [Option.some.injEq, exists_eq_left', List.getElem?_cons_zero, List.getElem?_cons_succ, List.set_cons_zero, List.set_cons_succ]
  refine ⟨sz, Wp.mono (PLb_wp hq f6.2.2 hat2 (by omega) (by omega) ?_) fun fl G7 ⟨e7, d, v, o, ef, hsn, hv, hvq⟩ => ?_⟩
  · rw [hs2]
    simp only [cnt5, Option.some.injEq]
    omega
  · subst e7 ef
    refine ⟨f6, d, v, o, rfl, hsn, hv, fun q' eq => ?_⟩
    rcases hvq with hvq | hvq
    · rw [hvq] at eq; cases eq
    · rw [hvq] at eq; cases eq; exact hq0
noncomputable def Rws (n : Nat) (l : List D) : Prop := ∀ d ∈ l, ∃ x, d = .tup x ∧ x.length ≤ n
noncomputable def TM : Fs := (dropS (mtE isListM extendD (varE 2) (q10 (compE (itW (varE 1)) [none, some 3] (q12 0) (trueT) (binE addD (varE 1) (tupE (q10 (varE 0) (q11))))) (q11))))
theorem is_TM : B__law_times = seqS (asgS (lstE (q11)) (q12 2)) (seqS (forS (itW (varE 0)) (q12 3) TM) (retS (varE 2))) := rfl
noncomputable def snocD (x : List D) (d : D) : D := .tup (x ++ [d])
theorem TM_wp {q p : Nat} {o0 : Option D} {vs fs x : List D} {n : Nat} {G G0 : DH} (hq : G[q]? = some (.lst vs)) (hp : G[p]? = some (.lst fs)) (hqp : q < G0.length) (hp0 : G0.length ≤ p) (g : Gr G0 G) (hx : x.length ≤ n) (hn : n ≤ 10) (hv : vs.length ≤ 700) (hf : fs.length ≤ 10000) (hr : Rws (n + 1) fs) :
    Wp (TM [o0, some (.ref q), some (.ref p), some (.tup x)]) G fun fl G' => Gr G0 G' ∧ fl = .nx [o0, some (.ref q), some (.ref p), some (.tup x)] ∧ ∃ fs', G'[p]? = some (.lst fs') ∧ fs'.length = fs.length + vs.length ∧ Rws (n + 1) fs' := by
  have bg := big
  unfold TM
  simp only [wp_drop, wp_mt, wp_cons, wp_nil, wp_var, wp_comp, wp_itW, Option.some.injEq, exists_eq_left', List.getElem?_cons_zero, List.getElem?_cons_succ]
  rw [isList_lst hp, srcW_lst hq]
  refine ⟨by show vs.length ≤ _; omega, ?_⟩
  have hc : compL (q12 0) trueT (binE addD (varE 1) (tupE (q10 (varE 0) q11))) (ckO q (.lst vs)) vs (capSt [none, some 3] [o0, some (.ref q), some (.ref p), some (.tup x)]) G = some (.ok (vs.map (snocD x)), G) := by
    refine compL_map (I := fun σ => ∃ u, σ = [u, some (.tup x)]) (by simp only [ckO, hq]; simp) _ _ ⟨none, rfl⟩ fun d hd σ hσ => ?_
    obtain ⟨u, rfl⟩ := hσ
    refine ⟨[some d, some (.tup x)], rfl, ⟨_, rfl⟩, rfl, wp_is ?_⟩
    simp only [wp_bin, wp_tup, wp_cons, wp_nil, wp_var, List.getElem?_cons_zero, List.getElem?_cons_succ, Option.some.injEq, exists_eq_left']
    refine ⟨sz, ?_⟩
    rw [add_tup (by simp only [List.length_cons, List.length_nil]; omega)]
    exact ⟨rfl, rfl⟩
  refine (wp_some hc).mpr ?_
  rw [extend_lst (at_app hp) app_one (by rw [List.length_map]; omega)]
  refine ⟨(g.trans Gr.app).set hp0, by first | rfl | trivial, _, by rw [List.getElem?_set_self (by rw [List.length_append]; have := lt_of_get hp; omega)], by simp, fun d hd => ?_⟩
  rcases List.mem_append.mp hd with hd | hd
  · exact hr d hd
  · obtain ⟨v, hv, rfl⟩ := List.mem_map.mp hd
    exact ⟨x ++ [v], rfl, by simp; omega⟩
theorem TM_loop {q0 q p : Nat} {vs L : List D} {n : Nat} {G0 : DH} (hqp : q < G0.length) (hq0 : q0 < G0.length) (hp0 : G0.length ≤ p) (hq : G0[q]? = some (.lst vs)) (hL : G0[q0]? = some (.lst L)) (hn : n ≤ 10) (hv : vs.length ≤ 700) : ∀ (rows : List D) (u : Option D) (fs : List D) (G : DH), Gr G0 G → G[p]? = some (.lst fs) → Rws n rows → Rws (n + 1) fs → fs.length + rows.length * vs.length ≤ 10000 →
    Wp (forL (q12 3) TM (ckO q0 (.lst L)) rows [some (.ref q0), some (.ref q), some (.ref p), u]) G fun fl G' => Gr G0 G' ∧ ∃ u' fs', fl = .nx [some (.ref q0), some (.ref q), some (.ref p), u'] ∧ G'[p]? = some (.lst fs') ∧ fs'.length = fs.length + rows.length * vs.length ∧ Rws (n + 1) fs'
  | [], u, fs, G, g, hp, hr, hf, hl => by
    rw [wp_forN]
    exact ⟨by simp only [ckO, g.at hL]; simp, g, u, fs, rfl, hp, by simp, hf⟩
  | d :: r, u, fs, G, g, hp, hr, hf, hl => by
    rw [wp_forC, wp_name]
    refine ⟨by simp only [ckO, g.at hL]; simp, ?_⟩
    obtain ⟨x, rfl, hx⟩ := hr d (by simp)
    simp only [List.set_cons_succ, List.set_cons_zero]
    have hmul : (D.tup x :: r).length * vs.length = vs.length + r.length * vs.length := by rw [List.length_cons, Nat.succ_mul]; omega
    rw [hmul] at hl
    refine Wp.mono (TM_wp (g.at hq) hp hqp hp0 g hx hn hv (by omega) hf) fun fl G1 ⟨g1, e1, fs1, hp1, hl1, hr1⟩ => ?_
    subst e1
    refine Wp.mono (TM_loop hqp hq0 hp0 hq hL hn hv r _ fs1 G1 g1 hp1 (fun d hd => hr d (by simp [hd])) hr1 (by omega)) fun fl G2 ⟨g2, u', fs', e2, h2, l2, r2⟩ => ⟨g2, u', fs', e2, h2, by rw [hmul]; omega, r2⟩
theorem times_wp {q0 q : Nat} {rows vs : List D} {n : Nat} {G : DH} (h0 : G[q0]? = some (.lst rows)) (hq : G[q]? = some (.lst vs)) (hr : Rws n rows) (hn : n ≤ 10) (hv : vs.length ≤ 700) (hl : rows.length * vs.length ≤ 1000) :
    Wp (F__law_times [.ref q0, .ref q]) G fun x G' => Gr G G' ∧ ∃ p fs, x = .ref p ∧ G.length ≤ p ∧ G'[p]? = some (.lst fs) ∧ fs.length = rows.length * vs.length ∧ Rws (n + 1) fs := by
  unfold F__law_times
  rw [is_TM]
  have s0 : ([D.ref q0, .ref q].map some ++ List.replicate (4 - [D.ref q0, .ref q].length) none : DSt) = [some (.ref q0), some (.ref q), none, none] := rfl
  simp only [wp_body, s0, wp_seq, wp_asg, wp_name, wp_lst, wp_for, wp_itW, wp_nil, wp_var, Option.some.injEq, exists_eq_left', List.getElem?_cons_zero, List.getElem?_cons_succ, List.set_cons_zero, List.set_cons_succ]
  refine ⟨sz, ?_⟩
  rw [srcW_lst (at_app h0)]
  have l0 := lt_of_get h0
  have l1 := lt_of_get hq
  refine Wp.mono (TM_loop (G0 := G) (L := rows) l1 l0 (Nat.le_refl _) hq h0 hn hv rows none [] (G ++ [DO.lst []]) Gr.app app_one hr (fun d hd => by cases hd) (by simp; omega)) fun fl G1 ⟨g1, u', fs, e1, h1, l1, r1⟩ => ?_
  subst e1
  simp only [wp_ret, wp_var, Option.some.injEq, exists_eq_left', List.getElem?_cons_zero, List.getElem?_cons_succ]
  exact ⟨g1, G.length, fs, rfl, Nat.le_refl _, h1, by simpa using l1, r1⟩
end W
set_option Elab.async false
set_option linter.all false
set_option maxRecDepth 100000
namespace W
open PySem PySem.Spec L2 DL
open PyProof.Rows hiding St
theorem eqL_G {f g : D → D → Option Bool} : ∀ (a b : List D), (∀ x ∈ a, ∀ y ∈ b, f x y = g x y) → eqL f a b = eqL g a b
  | [], [], _ => rfl
  | [], _ :: _, _ => rfl
  | _ :: _, [], _ => rfl
  | x :: xs, y :: ys, h => by
    simp only [eqL, h x (by simp) y (by simp), eqL_G xs ys fun a ha b hb => h a (by simp [ha]) b (by simp [hb])]
theorem eqN_G {G G' : DH} : ∀ (m n : Nat) (x y : D), dataN n x = true → dataN n y = true → eqN m G x y = eqN m G' x y
  | 0, n, x, y, _, _ => rfl
  | m + 1, n, x, y, hx, hy => by
    have sq : ∀ {d : D}, dataN n d = true → seqK G d = seqK G' d ∧ ∀ k l, seqK G d = some (k, l) → ∃ j, n = j + 1 ∧ ∀ z ∈ l, dataN j z = true := fun {d} hd => by
      cases d with
      | tup l =>
        refine ⟨rfl, fun k l' e => ?_⟩
        cases e
        cases n with
        | zero => simp [dataN] at hd
        | succ j => exact ⟨j, rfl, fun z hz => List.all_eq_true.mp (by simpa [dataN] using hd) z hz⟩
      | ref i => cases n <;> simp [dataN] at hd
      | fn i => cases n <;> simp [dataN] at hd
      | ty i => cases n <;> simp [dataN] at hd
      | _ => exact ⟨rfl, fun k l e => by cases e⟩
    obtain ⟨e1, k1⟩ := sq hx
    obtain ⟨e2, k2⟩ := sq hy
    unfold eqN
    rw [← e1, ← e2]
    cases h1 : seqK G x with
    | none => cases h2 : seqK G y <;> rfl
    | some p =>
      cases h2 : seqK G y with
      | none => rfl
      | some q =>
        obtain ⟨b1, l1⟩ := p
        obtain ⟨b2, l2⟩ := q
        obtain ⟨j, rfl, d1⟩ := k1 b1 l1 h1
        obtain ⟨j', ej, d2⟩ := k2 b2 l2 h2
        have : j = j' := by omega
        subst this
        dsimp only
        rw [eqL_G l1 l2 fun a ha b hb => eqN_G m j a b (d1 a ha) (d2 b hb)]
theorem ne_no {d : D} {n : Nat} {G : DH} {Q : D → DH → Prop} (hn : n < 40) (hd : dataN n d = true) (h4 : 4 ≤ n) (h1 : Q (.bl false) G) (h2 : (∀ G : DH, eqN 40 G d noD = some false) → Q (.bl true) G) : Wp (neD d noD) G Q := by
  have hno : dataN n noD = true := data_le h4 (by rfl : dataN 4 noD = true)
  obtain ⟨k, e⟩ := eqN_def (G := G) n 40 d noD hn hd hno
  rw [wp_ne, e]
  refine ⟨k, rfl, ?_⟩
  cases k with
  | true => exact h1
  | false => exact h2 fun G' => by rw [eqN_G (G := G') (G' := G) 40 n d noD hd hno]; exact e
theorem Gr.fd' {r : Nat} {G G' : DH} (g : Gr G G') (h : Dr G r) : Fd r G G' := ⟨g.1, fun i _ hl => g.2 i hl, by obtain ⟨ns, e⟩ := h; exact ⟨ns, g.at e⟩⟩
noncomputable def Sm (n : Nat) (r : Nat) (G : DH) (x : D) (G' : DH) : Prop := Fd r G G' ∧ ∃ d v o, x = .tup [d, v] ∧ Sn n d o ∧ Vl 600 r G' v o ∧ ∀ q, v = .ref q → G.length ≤ q
noncomputable def Rw (r pf m : Nat) (G : DH) (v : D) (o : OI) : Prop := (v = .non ∧ o = none) ∨ ∃ q rows, v = .ref q ∧ q ≠ r ∧ q ≠ pf ∧ G[q]? = some (.lst rows) ∧ Rws m rows ∧ o = some (rows.length : Int) ∧ rows.length ≤ 200
theorem Rw.fd2 {r pf m : Nat} {G G' : DH} {v : D} {o : OI} (h : Rw r pf m G v o) (f : Fd2 r pf G G') : Rw r pf m G' v o := by
  rcases h with h | ⟨q, rows, h1, h2, h3, h4, h5⟩
  · exact .inl h
  · exact .inr ⟨q, rows, h1, h2, h3, by rw [f.2.1 q h2 h3 (lt_of_get h4)]; exact h4, h5⟩
theorem Rw.up {r pf m m' : Nat} {G : DH} {v : D} {o : OI} (h : Rw r pf m G v o) (hm : m ≤ m') : Rw r pf m' G v o := by
  rcases h with h | ⟨q, rows, h1, h2, h3, h4, h5, h6⟩
  · exact .inl h
  · exact .inr ⟨q, rows, h1, h2, h3, h4, fun d hd => by obtain ⟨x, e, hx⟩ := h5 d hd; exact ⟨x, e, by omega⟩, h6⟩
structure Li (P : D → OI → Prop) (r pf m : Nat) (fs : List D) (os : List OI) (v : D) (G : DH) : Prop where
  f : G[pf]? = some (.lst fs)
  l : fs.length ≤ m
  a : All2 P fs os
  ok : okP 1 os
  rw : Rw r pf m G v (prodO 1 os)
theorem Li.fd {P : D → OI → Prop} {r pf m : Nat} {fs : List D} {os : List OI} {v : D} {G G' : DH} (h : Li P r pf m fs os v G) (f : Fd r G G') (hp : pf ≠ r) : Li P r pf m fs os v G' := ⟨f.at hp h.f, h.l, h.a, h.ok, h.rw.fd2 f.two⟩
theorem Li.ups {P : D → OI → Prop} {r pf m m' : Nat} {fs : List D} {os : List OI} {v : D} {G : DH} (h : Li P r pf m fs os v G) (hm : m ≤ m') : Li P r pf m' fs os v G := ⟨h.f, by have := h.l; omega, h.a, h.ok, h.rw.up hm⟩
theorem Li.bd {P : D → OI → Prop} {r pf m : Nat} {fs : List D} {os : List OI} {v : D} {G : DH} (h : Li P r pf m fs os v G) : ∀ a, prodO 1 os = some a → 0 ≤ a ∧ a ≤ 1000 := fun a e => by
  rcases h.rw with ⟨_, e2⟩ | ⟨q, rows, _, _, _, _, _, e2, hl⟩
  · rw [e] at e2; cases e2
  · rw [e] at e2; cases e2; omega
theorem All2.snoc {α β : Type} {P : α → β → Prop} {x : α} {y : β} : ∀ {a : List α} {b : List β}, All2 P a b → P x y → All2 P (a ++ [x]) (b ++ [y])
  | [], [], _, h => ⟨h, trivial⟩
  | _ :: _, _ :: _, h, k => ⟨h.1, All2.snoc h.2 k⟩
  | [], _ :: _, h, _ => by cases h
  | _ :: _, [], h, _ => by cases h
theorem Li.more {P : D → OI → Prop} {r pf m : Nat} {fs : List D} {os : List OI} {v v' d : D} {o : OI} {G G' : DH} (h : Li P r pf m fs os v G) (hd : P d o) (hf : G'[pf]? = some (.lst (fs ++ [d]))) (hr : Rw r pf (m + 1) G' v' (mulO (prodO 1 os) o)) : Li P r pf (m + 1) (fs ++ [d]) (os ++ [o]) v' G' := ⟨hf, by have := h.l; simp; omega, h.a.snoc hd, ok_snoc os 1 o h.ok h.bd, by rw [prod_snoc]; exact hr⟩
noncomputable def LC1 : Fs := (asgS (q13 (fnX 2 F__law_times) (q10 (varE 4) (q10 (varE 7) (q11)))) (q12 4))
noncomputable def LC : Fs := (seqS (dropS (mtE isListM appendD (varE 3) (q10 (varE 6) (q11)))) (ifS (andT (testE (binE notCD (varE 4) (cE .non))) (testE (binE notCD (varE 7) (cE .non)))) LC1 (asgS (cE .non) (q12 4))))
noncomputable def LX : DSt → M Bool := (andT (testE (binE neD (varE 6) (q13 (fnX 0 F__law_none) (q11)))) (orT (testE (binE isCD (varE 7) (cE .non))) (orT (testE (binE isCD (varE 4) (cE .non))) (testE (binE leD (binE mulD (q13 lenF (q10 (varE 7) (q11))) (q13 lenF (q10 (varE 4) (q11)))) (cE (.int 200)))))))
noncomputable def LB (R : List D → M D) : Fs := (seqS (asgS (q13 (fnX 3 R) (q10 (varE 0) (q10 (binE subD (varE 1) (cE (.int 1))) (q10 (varE 2) (q11))))) (tupG 2 (consG (q12 6) (consG (q12 7) (nilG))))) (ifS LX LC (nextS)))
noncomputable def LY : Fs := (ifS (andT (truthE (varE 2)) (testE (binE eqD (binE modD (q13 (fnX 1 F__law_next) (q10 (varE 0) (q11))) (cE (.int 3))) (cE (.int 0))))) (seqS (asgS (binE ixD (q13 (fnX 2 F__law_plain) (q10 (varE 0) (q10 (binE eqD (binE modD (q13 (fnX 1 F__law_next) (q10 (varE 0) (q11))) (cE (.int 3))) (cE (.int 0))) (q11)))) (cE (.int 0))) (q12 8)) (ifS (testE (binE neD (varE 8) (q13 (fnX 0 F__law_none) (q11)))) (retS (tupE (q10 (tupE (q10 (q13 tupleF (q10 (varE 3) (q11))) (q10 (varE 8) (q11)))) (q10 (cE .non) (q11))))) (nextS))) (nextS))
noncomputable def LZ (w : Str) : Fs := (seqS (ifS (testE (binE isCD (varE 4) (cE .non))) (retS (tupE (q10 (tupE (q10 (q13 tupleF (q10 (varE 3) (q11))) (q10 (q13 (fnX 0 F__law_none) (q11)) (q11)))) (q10 (cE .non) (q11))))) (nextS)) (retS (tupE (q10 (tupE (q10 (q13 tupleF (q10 (varE 3) (q11))) (q10 (q13 (fnX 0 F__law_none) (q11)) (q11)))) (q10 (compE (itW (varE 4)) [none] (q12 0) (trueT) (tupE (q10 (cE (.str w)) (q10 (varE 0) (q11))))) (q11))))))
theorem is_L {R : List D → M D} : B__law_listed R = seqS (asgS (lstE (q11)) (q12 3)) (seqS (asgS (lstE (q10 (tupE (q11)) (q11))) (q12 4)) (seqS (forS (itRng1 (q10 (binE modD (q13 (fnX 1 F__law_few) (q10 (varE 0) (q11))) (cE (.int 4))) (q11))) (q12 5) (LB R)) (seqS LY (LZ ("list" : Str))))) := rfl
theorem le_int {i j : Int} {G : DH} {Q : D → DH → Prop} : Wp (leD (.int i) (.int j)) G Q ↔ Q (.bl (decide (i ≤ j))) G := wp_pure
theorem LX_wp {o0 o1 o2 o3 o5 o8 : Option D} {r pf m n : Nat} {v d u : D} {x y : OI} {G : DH} {B : Bool → DH → Prop} (hd : dataN n d = true) (hn : 4 ≤ n ∧ n < 40) (hr : Rw r pf m G v x) (hv : Vl 600 r G u y) (h1 : B false G) (h2 : (x = none ∨ y = none ∨ ∃ a b : Nat, x = some (a : Int) ∧ y = some (b : Int) ∧ b * a ≤ 200) → B true G) :
    Wp (LX [o0, o1, o2, o3, some v, o5, some d, some u, o8]) G B := by
  unfold LX
  simp only [wp_andT, wp_orT, wp_test, wp_bin, wp_call, wp_cons, wp_nil, wp_c, wp_var, wp_fnX, none_wp, Option.some.injEq, exists_eq_left', List.getElem?_cons_zero, List.getElem?_cons_succ, isC_non, isBlI]
  refine ⟨rfl, ne_no hn.2 hd hn.1 ⟨false, rfl, ?_⟩ fun _ => ⟨true, rfl, ?_⟩⟩
  · simp only [Bool.false_eq_true, if_false]; exact h1
  · simp only [if_true]
    rcases hv with ⟨rfl, rfl⟩ | ⟨q, l, rfl, hq1, hq2, rfl, hl⟩
    · simp only [isNonD, if_true]; exact h2 (.inr (.inl rfl))
    · simp only [isNonD, Bool.false_eq_true, if_false]
      rcases hr with ⟨rfl, rfl⟩ | ⟨q', rows, rfl, h3, h4, h5, h6, rfl, h7⟩
      · simp only [isNonD, if_true]; exact h2 (.inl rfl)
      · simp only [isNonD, Bool.false_eq_true, if_false]
        rw [len_lst hq2, len_lst h5, mul_int (Or.inl ⟨by omega, by omega⟩), le_int]
        refine ⟨_, rfl, ?_⟩
        by_cases hle : (l.length : Int) * (rows.length : Int) ≤ 200
        · rw [decide_eq_true hle]
          refine h2 (.inr (.inr ⟨rows.length, l.length, rfl, rfl, ?_⟩))
          have : ((l.length * rows.length : Nat) : Int) ≤ 200 := by simpa using hle
          omega
        · rw [decide_eq_false hle]; exact h1
theorem LC_wp {r pf m : Nat} {o1 o2 o5 o8 : Option D} {fs : List D} {os : List OI} {v d u : D} {o : OI} {P : D → OI → Prop} {G : DH} (hp : pf ≠ r) (h : Dr G r) (I : Li P r pf m fs os v G) (hm : m ≤ 9) (hd : P d o) (hv : Vl 600 r G u o) (hupf : ∀ q, u = .ref q → q ≠ pf)
    (hc : prodO 1 os = none ∨ o = none ∨ ∃ a b : Nat, prodO 1 os = some (a : Int) ∧ o = some (b : Int) ∧ b * a ≤ 200) :
    Wp (LC [some (.ref r), o1, o2, some (.ref pf), some v, o5, some d, some u, o8]) G fun fl G' => Fd2 r pf G G' ∧ ∃ v', fl = .nx [some (.ref r), o1, o2, some (.ref pf), some v', o5, some d, some u, o8] ∧ Li P r pf (m + 1) (fs ++ [d]) (os ++ [o]) v' G' := by
  have bg := big
  have hfl := I.l
  unfold LC
  simp only [wp_seq, wp_drop, wp_mt, wp_if, wp_andT, wp_test, wp_asg, wp_name, wp_bin, wp_cons, wp_nil, wp_c, wp_var, Option.some.injEq, exists_eq_left', List.getElem?_cons_zero, List.getElem?_cons_succ, List.set_cons_zero, List.set_cons_succ, notC_non, isBlI]
  rw [isList_lst I.f, append_lst I.f (by omega)]
  have f1 : Fd2 r pf G (G.set pf (.lst (fs ++ [d]))) := Fd2.set hp h
  have e1 : (G.set pf (.lst (fs ++ [d])))[pf]? = some (.lst (fs ++ [d])) := by rw [List.getElem?_set_self (lt_of_get I.f)]
  have hr1 := I.rw.fd2 f1
  have hv1 : Vl 600 r (G.set pf (.lst (fs ++ [d]))) u o := by
    rcases hv with h | ⟨q, l, h1, h2, h3, h4⟩
    · exact .inl h
    · exact .inr ⟨q, l, h1, h2, by rw [List.getElem?_set_ne (Ne.symm (hupf q h1))]; exact h3, h4⟩
  generalize G.set pf (.lst (fs ++ [d])) = G1 at f1 e1 hr1 hv1 ⊢
  have none_case : mulO (prodO 1 os) o = none → Fd2 r pf G G1 ∧ ∃ v', Fl.nx [some (.ref r), o1, o2, some (.ref pf), some .non, o5, some d, some u, o8] = .nx [some (.ref r), o1, o2, some (.ref pf), some v', o5, some d, some u, o8] ∧ Li P r pf (m + 1) (fs ++ [d]) (os ++ [o]) v' G1 := fun he =>
    ⟨f1, .non, rfl, I.more hd e1 (by rw [he]; exact .inl ⟨rfl, rfl⟩)⟩
  rcases hr1 with ⟨rfl, ex⟩ | ⟨q, rows, rfl, h2, h3, h4, h5, ex, h6⟩
  · simp only [isNonD, Bool.not_true, Bool.false_eq_true, if_false]
    exact none_case (by rw [ex]; rfl)
  · simp only [isNonD, Bool.not_false, if_true]
    rcases hv1 with ⟨rfl, rfl⟩ | ⟨qv, l, rfl, k2, k3, rfl, k5⟩
    · simp only [isNonD, Bool.not_true, Bool.false_eq_true, if_false]
      exact none_case (by cases prodO 1 os <;> rfl)
    · simp only [isNonD, Bool.not_false, if_true]
      unfold LC1
      simp only [wp_asg, wp_name, wp_call, wp_cons, wp_nil, wp_var, wp_fnX, Option.some.injEq, exists_eq_left', List.getElem?_cons_zero, List.getElem?_cons_succ, List.set_cons_zero, List.set_cons_succ]
      have hmul : rows.length * l.length ≤ 200 := by
        rcases hc with hc | hc | ⟨a, b, ha, hb, hab⟩
        · rw [ex] at hc; cases hc
        · cases hc
        · rw [ex] at ha
          have e1 : rows.length = a := by have := Option.some.inj ha; omega
          have e2 : l.length = b := by have := Option.some.inj hb; omega
          rw [e1, e2, Nat.mul_comm]; exact hab
      refine ⟨rfl, Wp.mono (times_wp h4 k3 h5 (by omega) (by omega) (by omega)) fun x G2 ⟨g2, p, fs2, ep, hp2, hat, hl2, hr2⟩ => ?_⟩
      subst ep
      have f2 := g2.fd' (r := r) f1.2.2
      refine ⟨f1.trans f2.two, _, rfl, I.more hd (g2.at e1) (.inr ⟨p, fs2, rfl, ?_, ?_, hat, hr2, ?_, by omega⟩)⟩
      · have := f1.2.2.lt; omega
      · have := lt_of_get e1; omega
      · rw [ex, hl2]; simp [mulO]
end W
set_option Elab.async false
set_option linter.all false
set_option maxRecDepth 100000
namespace W
open PySem PySem.Spec L2 DL
open PyProof.Rows hiding St
noncomputable def Dn (n : Nat) (fs : List D) : Prop := ∀ d ∈ fs, dataN n d = true
theorem Dn.snoc {n : Nat} {fs : List D} {d : D} (h : Dn n fs) (hd : dataN n d = true) : Dn n (fs ++ [d]) := fun x hx => by
  rcases List.mem_append.mp hx with hx | hx
  · exact h x hx
  · rw [List.mem_singleton] at hx; subst hx; exact hd
noncomputable def Small (R : List D → M D) (n r : Nat) (e : Bool) : Prop := ∀ G, Dr G r → Wp (R [.ref r, .int (n : Int), .bl e]) G (Sm n r G)
theorem LB_wp {R : List D → M D} {n r pf m : Nat} {e : Bool} {o5 o6 o7 o8 : Option D} {fs : List D} {os : List OI} {v : D} {G : DH} (hR : Small R n r e) (hn : n ≤ 3) (hp : pf ≠ r) (h : Dr G r) (I : Li (Cn n) r pf m fs os v G) (hm : m ≤ 9) (hD : Dn (4 + 4 * n) fs) :
    Wp (LB R [some (.ref r), some (.int ((n + 1 : Nat) : Int)), some (.bl e), some (.ref pf), some v, o5, o6, o7, o8]) G fun fl G' => Fd2 r pf G G' ∧ ∃ v' o6 o7 fs' os', fl = .nx [some (.ref r), some (.int ((n + 1 : Nat) : Int)), some (.bl e), some (.ref pf), some v', o5, o6, o7, o8] ∧ Li (Cn n) r pf (m + 1) fs' os' v' G' ∧ Dn (4 + 4 * n) fs' := by
  unfold LB
  simp only [wp_seq, wp_asg, wp_bin, wp_call, wp_cons, wp_nil, wp_c, wp_var, wp_fnX, Option.some.injEq, exists_eq_left', List.getElem?_cons_zero, List.getElem?_cons_succ, sub_int]
  rw [show ((n + 1 : Nat) : Int) - 1 = (n : Int) by omega]
  refine ⟨rfl, Wp.mono (hR G h) fun x G1 ⟨f1, d, u, o, ex, hs, hv, hq⟩ => ?_⟩
  subst ex
  rw [wp_tup2]
  simp only [wp_consG, wp_nilG, wp_name, List.set_cons_succ, List.set_cons_zero]
  rw [wp_if]
  have I1 := I.fd f1 hp
  refine LX_wp hs.2 ⟨by omega, by omega⟩ I1.rw hv ?_ fun hc => ?_
  · simp only [Bool.false_eq_true, if_false, wp_next]
    exact ⟨f1.two, v, _, _, fs, os, rfl, I1.ups (by omega), hD⟩
  · simp only [if_true]
    have hupf : ∀ q, u = .ref q → q ≠ pf := fun q eq e => by
      have := hq q eq
      have := lt_of_get I.f
      omega
    exact Wp.mono (LC_wp hp f1.2.2 I1 hm hs.1 hv hupf hc) fun fl G2 ⟨f2, v', e2, I2⟩ => ⟨f1.two.trans f2, v', _, _, _, _, e2, I2, hD.snoc hs.2⟩
theorem LB_loop {R : List D → M D} {n r pf : Nat} {e : Bool} {o8 : Option D} (hR : Small R n r e) (hn : n ≤ 3) (hp : pf ≠ r) : ∀ (items : List D) (m : Nat) (o5 o6 o7 : Option D) (fs : List D) (os : List OI) (v : D) (G : DH), Dr G r → Li (Cn n) r pf m fs os v G → m + items.length ≤ 9 → Dn (4 + 4 * n) fs →
    Wp (forL (q12 5) (LB R) (fun _ => true) items [some (.ref r), some (.int ((n + 1 : Nat) : Int)), some (.bl e), some (.ref pf), some v, o5, o6, o7, o8]) G fun fl G' => Fd2 r pf G G' ∧ ∃ v' o5 o6 o7 fs' os', fl = .nx [some (.ref r), some (.int ((n + 1 : Nat) : Int)), some (.bl e), some (.ref pf), some v', o5, o6, o7, o8] ∧ Li (Cn n) r pf 9 fs' os' v' G' ∧ Dn (4 + 4 * n) fs'
  | [], m, o5, o6, o7, fs, os, v, G, h, I, hm, hD => by
    rw [wp_forN]
    simp only [List.length_nil] at hm
    exact ⟨rfl, (Fd.refl h).two, v, o5, o6, o7, fs, os, rfl, I.ups (by omega), hD⟩
  | d :: t, m, o5, o6, o7, fs, os, v, G, h, I, hm, hD => by
    simp only [List.length_cons] at hm
    rw [wp_forC, wp_name]
    refine ⟨rfl, ?_⟩
    simp only [List.set_cons_succ, List.set_cons_zero]
    refine Wp.mono (LB_wp hR hn hp h I (by omega) hD) fun fl G1 ⟨f1, v1, o6', o7', fs1, os1, e1, I1, hD1⟩ => ?_
    subst e1
    exact Wp.mono (LB_loop hR hn hp t (m + 1) _ _ _ fs1 os1 v1 G1 f1.2.2 I1 (by omega) hD1) fun fl G2 ⟨f2, h2⟩ => ⟨f1.trans f2, h2⟩
noncomputable def Pa (P : D → OI → Prop) (n r : Nat) (G : DH) (x : D) (G' : DH) : Prop := Fd r G G' ∧ ∃ fs os more v o, x = .tup [.tup [.tup fs, more], v] ∧ fs.length ≤ 100 ∧ All2 P fs os ∧ okP 1 os ∧ Mo more (prodO 1 os) o ∧ dataN (4 * n + 7) (.tup [.tup fs, more]) = true ∧ Vl 200 r G' v o ∧ ∀ q, v = .ref q → G.length ≤ q
theorem data_part {n : Nat} {fs : List D} {more : D} (h : Dn (4 * n + 5) fs) (hm : dataN 4 more = true) : dataN (4 * n + 7) (.tup [.tup fs, more]) = true := by
  have h1 : dataN (4 * n + 6) (.tup fs) = true := by
    simp only [dataN, List.all_eq_true]
    exact h
  have h2 : dataN (4 * n + 6) more = true := data_le (by omega) hm
  show [D.tup fs, more].all (dataN (4 * n + 6)) = true
  simp [h1, h2]
theorem LY_wp {P : D → OI → Prop} {n r pf m : Nat} {e : Bool} {o1 o5 o6 o7 o8 : Option D} {fs : List D} {os : List OI} {v : D} {G G0 : DH} (hp : pf ≠ r) (hpf : G0.length ≤ pf) (f0 : Fd r G0 G) (I : Li P r pf m fs os v G) (hm : m ≤ 100) (hD : Dn (4 * n + 5) fs) :
    Wp (LY [some (.ref r), o1, some (.bl e), some (.ref pf), some v, o5, o6, o7, o8]) G fun fl G' => (∃ x, fl = .rt x ∧ Pa P n r G0 x G') ∨ (Fd r G0 G' ∧ Li P r pf m fs os v G' ∧ ∃ o8, fl = .nx [some (.ref r), o1, some (.bl e), some (.ref pf), some v, o5, o6, o7, o8]) := by
  have hfl := I.l
  unfold LY
  simp only [wp_if, wp_andT, wp_truth, wp_test, wp_bin, wp_call, wp_cons, wp_nil, wp_c, wp_var, wp_fnX, wp_next, wp_seq, wp_asg, wp_name, Option.some.injEq, exists_eq_left', List.getElem?_cons_zero, List.getElem?_cons_succ, truth_bl]
  cases e with
  | false =>
    simp only [Bool.false_eq_true, if_false]
    exact .inr ⟨f0, I, _, rfl⟩
  | true =>
    simp only [if_true]
    refine ⟨rfl, next_q f0.2.2 fun k G1 f1 => ?_⟩
    rw [mod_int (by decide), eq_int]
    refine ⟨_, rfl, ?_⟩
    by_cases hk : (k : Int) % 3 = 0
    · simp only [hk, decide_true, if_true]
      refine ⟨rfl, next_q f1.2.2 fun j G2 f2 => ?_⟩
      rw [mod_int (by decide), eq_int]
      refine ⟨rfl, Wp.mono (plain_wp f2.2.2) fun x G3 ⟨f3, d, w, o, ex, hs, hv, _⟩ => ?_⟩
      subst ex
      rw [ix_tup]
      refine ⟨d, rfl, ?_⟩
      have f13 := f1.trans (f2.trans f3)
      have I3 := I.fd f13 hp
      simp only [List.set_cons_succ, List.set_cons_zero, wp_if, wp_test, wp_bin, wp_call, wp_cons, wp_nil, wp_var, wp_c, wp_fnX, wp_next, wp_ret, wp_tup, none_wp, Option.some.injEq, exists_eq_left', List.getElem?_cons_zero, List.getElem?_cons_succ]
      refine ⟨rfl, ne_no (n := 4) (by decide) (hs.sn 0).2 (by decide) ⟨false, rfl, ?_⟩ fun hne => ⟨true, rfl, ?_⟩⟩
      · simp only [Bool.false_eq_true, if_false]
        exact .inr ⟨f0.trans f13, I3, _, rfl⟩
      · simp only [if_true]
        rw [tuple_lst I3.f]
        exact ⟨sz, sz, .inl ⟨_, rfl, f0.trans f13, fs, os, d, .non, none, rfl, by omega, I3.a, I3.ok, .inr ⟨hne, rfl⟩, data_part hD (hs.sn 0).2, .inl ⟨rfl, rfl⟩, fun q e => by cases e⟩⟩
    · simp only [hk, decide_false, Bool.false_eq_true, if_false]
      exact .inr ⟨f0.trans f1, I.fd f1 hp, _, rfl⟩
theorem LZ_wp {P : D → OI → Prop} {w : Str} {n r pf m : Nat} {o0 o1 o2 o5 o6 o7 o8 : Option D} {t : List (Option D)} {fs : List D} {os : List OI} {v : D} {G G0 : DH} (f0 : Fd r G0 G) (I : Li P r pf m fs os v G) (hm : m ≤ 100) (hD : Dn (4 * n + 5) fs) :
    Wp (LZ w (o0 :: o1 :: o2 :: some (.ref pf) :: some v :: o5 :: t)) G fun fl G' => ∃ x, fl = .rt x ∧ Pa P n r G0 x G' := by
  have bg := big
  have hfl := I.l
  unfold LZ
  simp only [wp_seq, wp_if, wp_test, wp_ret, wp_tup, wp_bin, wp_call, wp_cons, wp_nil, wp_c, wp_var, wp_fnX, wp_next, wp_comp, wp_itW, none_wp, Option.some.injEq, exists_eq_left', List.getElem?_cons_zero, List.getElem?_cons_succ, isC_non, isBlI, tuple_lst I.f]
  have hno : dataN 4 noD = true := rfl
  rcases I.rw with ⟨rfl, ex⟩ | ⟨q, rows, rfl, h2, h3, h4, h5, ex, h6⟩
  · simp only [isNonD, if_true]
    exact ⟨rfl, sz, sz, _, rfl, f0, fs, os, noD, .non, none, rfl, by omega, I.a, I.ok, .inl ⟨rfl, ex.symm⟩, data_part hD hno, .inl ⟨rfl, rfl⟩, fun q e => by cases e⟩
  · simp only [isNonD, Bool.false_eq_true, if_false]
    rw [srcW_lst h4]
    refine ⟨rfl, sz, by show rows.length ≤ _; omega, ?_⟩
    have hc : compL (q12 0) trueT (tupE (q10 (cE (.str w)) (q10 (varE 0) q11))) (ckO q (.lst rows)) rows (capSt [none] (o0 :: o1 :: o2 :: some (.ref pf) :: some (.ref q) :: o5 :: t)) G = some (.ok (rows.map fun d => .tup [.str w, d]), G) := by
      refine compL_map (I := fun σ => σ.length = 1) (by simp only [ckO, h4]; simp) _ _ rfl fun d hd σ hσ => ?_
      match σ, hσ with
      | [u], _ =>
        refine ⟨[some d], rfl, rfl, rfl, wp_is ?_⟩
        simp only [wp_tup, wp_cons, wp_nil, wp_c, wp_var, List.getElem?_cons_zero, Option.some.injEq, exists_eq_left']
        exact ⟨sz, by first | rfl | trivial, trivial⟩
    refine (wp_some hc).mpr ⟨sz, _, rfl, f0.trans (Fd.app f0.2.2), fs, os, noD, _, some (rows.length : Int), rfl, by omega, I.a, I.ok, .inl ⟨rfl, ex.symm⟩, data_part hD hno, .inr ⟨_, _, rfl, ?_, app_one, by simp, by simp; omega⟩, fun q e => by cases e; exact f0.1⟩
    have := f0.2.2.lt
    omega
theorem listed_wp {R : List D → M D} {n r : Nat} {e : Bool} {G : DH} (hR : Small R n r e) (hn : n ≤ 3) (h : Dr G r) : Wp (H__law_listed R [.ref r, .int ((n + 1 : Nat) : Int), .bl e]) G (Pa (Cn n) n r G) := by
  unfold H__law_listed
  rw [is_L]
  have s0 : ([D.ref r, .int ((n + 1 : Nat) : Int), .bl e].map some ++ List.replicate (9 - [D.ref r, .int ((n + 1 : Nat) : Int), .bl e].length) none : DSt) = [some (.ref r), some (.int ((n + 1 : Nat) : Int)), some (.bl e), none, none, none, none, none, none] := rfl
  simp only [wp_body, s0, wp_seq, wp_asg, wp_name, wp_for, rng1, wp_lst, wp_tup, wp_bin, wp_call, wp_cons, wp_nil, wp_c, wp_var, wp_fnX, List.getElem?_cons_zero, List.getElem?_cons_succ, List.set_cons_succ, List.set_cons_zero, Option.some.injEq, exists_eq_left']
  have hp : G.length ≠ r := by have := h.lt; omega
  have f1 : Fd r G (G ++ [DO.lst []] ++ [DO.lst [.tup []]]) := (Fd.app h).trans (Fd.app (Fd.app h).2.2)
  refine ⟨sz, sz, sz, rfl, few_q f1.2.2 fun k hk G2 f2 => ?_⟩
  rw [mod_int (by decide)]
  have b1 : 0 ≤ (k : Int) % 4 := Int.emod_nonneg _ (by decide)
  have b2 : (k : Int) % 4 < 4 := Int.emod_lt_of_pos _ (by decide)
  rw [rng1_int ⟨by omega, by omega⟩]
  have hlen : (rangeL 0 ((k : Int) % 4).toNat).length = ((k : Int) % 4).toNat := by unfold rangeL; rw [List.length_map, List.length_range]
  have hq : (G ++ [DO.lst []]).length ≠ r := by have := h.lt; rw [List.length_append]; simp; omega
  have I : Li (Cn n) r G.length 0 [] [] (.ref (G ++ [DO.lst []]).length) (G ++ [DO.lst []] ++ [DO.lst [.tup []]]) := ⟨at_app app_one, by simp, trivial, trivial, .inr ⟨_, [.tup []], rfl, hq, by simp, app_one, fun d hd => by rw [List.mem_singleton] at hd; exact ⟨[], hd, by simp⟩, rfl, by simp⟩⟩
  refine Wp.mono (LB_loop hR hn hp (rangeL 0 ((k : Int) % 4).toNat) 0 none none none [] [] _ G2 f2.2.2 (I.fd f2 hp) (by rw [hlen]; omega) (fun d hd => by cases hd)) fun fl G3 ⟨f3, v', o5, o6, o7, fs', os', e3, I3, hD3⟩ => ?_
  subst e3
  have fa : Fd r G G3 := (f1.trans f2).thru f3 (Nat.le_refl _)
  have hD3' : Dn (4 * n + 5) fs' := fun d hd => data_le (by omega) (hD3 d hd)
  refine Wp.mono (LY_wp hp (Nat.le_refl _) fa I3 (by omega) hD3') fun fl G4 h4 => ?_
  rcases h4 with ⟨x, e4, h4⟩ | ⟨f4, I4, o8, e4⟩
  · subst e4
    exact h4
  · subst e4
    exact Wp.mono (LZ_wp (o6 := none) (o7 := none) (o8 := none) f4 I4 (by omega) hD3') fun fl G5 ⟨x, e5, h5⟩ => by subst e5; exact h5
end W
set_option Elab.async false
set_option linter.all false
set_option maxRecDepth 100000
namespace W
open PySem PySem.Spec L2 DL
open PyProof.Rows hiding St
theorem names_wp {r : Nat} {G : DH} (h : Dr G r) : Wp (F__law_names [.ref r]) G fun x G' => ∃ (q : Nat) (ss : List Str), x = .ref q ∧ q ≠ r ∧ G'[q]? = some (.lst (ss.map D.str)) ∧ ss.length ≤ 50 ∧ Fd r G G' := by
  have bg := big
  unfold F__law_names B__law_names
  have s0 : ([D.ref r].map some ++ List.replicate (1 - [D.ref r].length) none : DSt) = [some (.ref r)] := rfl
  simp only [wp_body, s0, wp_ret, wp_call, wp_cons, wp_nil, wp_var, wp_fnX, wp_comp, wp_itW, Option.some.injEq, exists_eq_left', List.getElem?_cons_zero]
  refine ⟨rfl, Wp.mono (words_wp h) fun x G1 ⟨ss, ex, hw, _, hl, f1⟩ => ?_⟩
  subst ex
  rw [srcW_tup]
  refine ⟨by rw [List.length_map]; omega, ?_⟩
  have hc : compL (q12 0) (testE (chainE ltD ltD (cE (.int 0)) (q13 lenF (q10 (varE 0) q11)) (cE (.int 9)))) (varE 0) (fun _ => true) (ss.map D.str) (capSt [none] [some (.ref r)]) G1 = some (.ok ((ss.map D.str).filter fun x => match x with | .str z => decide ((0 : Int) < z.length) && decide ((z.length : Int) < 9) | _ => false), G1) := by
    refine comp_filter rfl (fun σ => σ.length = 1) _ _ rfl fun x hx σ hσ => ?_
    obtain ⟨z, hz, rfl⟩ := List.mem_map.mp hx
    have hz1 := hw.2 z hz
    match σ, hσ with
    | [u], _ =>
      refine ⟨[some (.str z)], rfl, rfl, wp_is ?_, rfl⟩
      simp only [wp_test, wp_chain, wp_call, wp_cons, wp_nil, wp_c, wp_var, List.getElem?_cons_zero, Option.some.injEq, exists_eq_left', len_str' (show z.length ≤ sizeLine by omega), lt_int, isBlI]
      by_cases h1 : (0 : Int) < z.length
      · simp only [h1, decide_true, if_true, Bool.true_and, isBlI]; exact ⟨trivial, trivial⟩
      · simp only [h1, decide_false, Bool.false_eq_true, if_false, Bool.false_and, isBlI]; exact ⟨trivial, trivial⟩
  refine (wp_some hc).mpr ?_
  have ef : ((ss.map D.str).filter fun x => match x with | .str z => decide ((0 : Int) < z.length) && decide ((z.length : Int) < 9) | _ => false) = (ss.filter fun z => decide ((0 : Int) < z.length) && decide ((z.length : Int) < 9)).map D.str := by
    rw [List.filter_map]; rfl
  rw [ef]
  have hle := List.length_filter_le (fun z : Str => decide ((0 : Int) < z.length) && decide ((z.length : Int) < 9)) ss
  generalize (ss.filter fun z => decide ((0 : Int) < z.length) && decide ((z.length : Int) < 9)) = ts at hle ⊢
  rw [sortG_lst app_one (strs_map ts) (by omega)]
  have hlen : (sortS ts).length = ts.length := (List.mergeSort_perm ts leS).length_eq
  refine ⟨_, sortS ts, rfl, ?_, app_one, by omega, f1.trans ((Fd.app f1.2.2).trans (Fd.app (Fd.app f1.2.2).2.2))⟩
  have := f1.2.2.lt
  rw [List.length_append]; omega
noncomputable def Fn (n : Nat) (f : D) (o : OI) : Prop := ∃ z m d o', f = .tup [.str z, .bl m, d] ∧ Cn n d o' ∧ o = fcO m o'
noncomputable def RP : Fe := (compE (itW (varE 7)) [none, some 5] (q12 0) (trueT) (tupE (q10 (varE 1) (q10 (varE 0) (q11)))))
noncomputable def RC1 : Fs := (asgS (q13 (fnX 2 F__law_times) (q10 (varE 4) (q10 RP (q11)))) (q12 4))
noncomputable def RC2 : Fs := (asgS (binE addD (varE 4) (q13 (fnX 2 F__law_times) (q10 (varE 4) (q10 RP (q11))))) (q12 4))
noncomputable def RC : Fs := (seqS (dropS (mtE isListM appendD (varE 3) (q10 (tupE (q10 (varE 5) (q10 (varE 8) (q10 (varE 6) (q11))))) (q11)))) (ifS (orT (testE (binE isCD (varE 4) (cE .non))) (testE (binE isCD (varE 7) (cE .non)))) (asgS (cE .non) (q12 4)) (ifS (truthE (varE 8)) RC1 RC2)))
noncomputable def RX : DSt → M Bool := (andT (testE (binE neD (varE 6) (q13 (fnX 0 F__law_none) (q11)))) (orT (testE (binE isCD (varE 7) (cE .non))) (orT (testE (binE isCD (varE 4) (cE .non))) (testE (binE leD (binE mulD (binE addD (q13 lenF (q10 (varE 7) (q11))) (cE (.int 1))) (q13 lenF (q10 (varE 4) (q11)))) (cE (.int 200)))))))
noncomputable def RB (R : List D → M D) : Fs := (seqS (asgS (q13 (fnX 3 R) (q10 (varE 0) (q10 (binE subD (varE 1) (cE (.int 1))) (q10 (varE 2) (q11))))) (tupG 2 (consG (q12 6) (consG (q12 7) (nilG))))) (seqS (asgS (binE eqD (binE modD (q13 (fnX 1 F__law_next) (q10 (varE 0) (q11))) (cE (.int 2))) (cE (.int 0))) (q12 8)) (ifS RX RC (nextS))))
noncomputable def RY : Fs := (ifS (andT (truthE (varE 2)) (testE (binE eqD (binE modD (q13 (fnX 1 F__law_next) (q10 (varE 0) (q11))) (cE (.int 3))) (cE (.int 0))))) (retS (tupE (q10 (tupE (q10 (q13 tupleF (q10 (varE 3) (q11))) (q10 (tupE (q10 (tupE (q10 (tupE (q10 (binE powD (cE (.int 10)) (cE (.int 12))) (q10 (binE powD (cE (.int 10)) (cE (.int 12))) (q11)))) (q11))) (q10 (tupE (q10 (cE (.str ("of" : Str))) (q10 (tupE (q11)) (q11)))) (q10 (tupE (q11)) (q10 (cE .non) (q10 (cE .non) (q11))))))) (q11)))) (q10 (cE .non) (q11))))) (nextS))
theorem is_R {R : List D → M D} : B__law_recorded R = seqS (asgS (lstE (q11)) (q12 3)) (seqS (asgS (lstE (q10 (tupE (q11)) (q11))) (q12 4)) (seqS (forS (itW (sliceT (q13 (fnX 1 F__law_names) (q10 (varE 0) (q11))) (noPart) (partO (cE (.int 3))))) (q12 5) (RB R)) (seqS RY (LZ ("record" : Str))))) := rfl
theorem RX_wp {o0 o1 o2 o3 o5 o8 : Option D} {r pf m n : Nat} {v d u : D} {x y : OI} {G : DH} {B : Bool → DH → Prop} (hd : dataN n d = true) (hn : 4 ≤ n ∧ n < 40) (hr : Rw r pf m G v x) (hv : Vl 600 r G u y) (h1 : B false G) (h2 : (x = none ∨ y = none ∨ ∃ a b : Nat, x = some (a : Int) ∧ y = some (b : Int) ∧ (b + 1) * a ≤ 200) → B true G) :
    Wp (RX [o0, o1, o2, o3, some v, o5, some d, some u, o8]) G B := by
  unfold RX
  simp only [wp_andT, wp_orT, wp_test, wp_bin, wp_call, wp_cons, wp_nil, wp_c, wp_var, wp_fnX, none_wp, Option.some.injEq, exists_eq_left', List.getElem?_cons_zero, List.getElem?_cons_succ, isC_non, isBlI]
  refine ⟨rfl, ne_no hn.2 hd hn.1 ⟨false, rfl, ?_⟩ fun _ => ⟨true, rfl, ?_⟩⟩
  · simp only [Bool.false_eq_true, if_false]; exact h1
  · simp only [if_true]
    rcases hv with ⟨rfl, rfl⟩ | ⟨q, l, rfl, hq1, hq2, rfl, hl⟩
    · simp only [isNonD, if_true]; exact h2 (.inr (.inl rfl))
    · simp only [isNonD, Bool.false_eq_true, if_false]
      rcases hr with ⟨rfl, rfl⟩ | ⟨q', rows, rfl, h3, h4, h5, h6, rfl, h7⟩
      · simp only [isNonD, if_true]; exact h2 (.inl rfl)
      · simp only [isNonD, Bool.false_eq_true, if_false]
        rw [len_lst hq2, add_int, len_lst h5, mul_int (Or.inl ⟨by omega, by omega⟩), le_int]
        refine ⟨_, rfl, ?_⟩
        by_cases hle : ((l.length : Int) + 1) * (rows.length : Int) ≤ 200
        · rw [decide_eq_true hle]
          refine h2 (.inr (.inr ⟨rows.length, l.length, rfl, rfl, ?_⟩))
          have : (((l.length + 1) * rows.length : Nat) : Int) ≤ 200 := by simpa using hle
          omega
        · rw [decide_eq_false hle]; exact h1
theorem RP_wp {o0 o1 o2 o3 o4 o6 o8 : Option D} {nm : D} {q : Nat} {l : List D} {G : DH} {Q : D → DH → Prop} (e : G[q]? = some (.lst l)) (hl : l.length ≤ 700) (h : Q (.ref G.length) (G ++ [.lst (l.map fun d => .tup [nm, d])])) : Wp (RP [o0, o1, o2, o3, o4, some nm, o6, some (.ref q), o8]) G Q := by
  have bg := big
  unfold RP
  simp only [wp_comp, wp_itW, wp_var, Option.some.injEq, exists_eq_left', List.getElem?_cons_zero, List.getElem?_cons_succ]
  rw [srcW_lst e]
  refine ⟨by show l.length ≤ _; omega, ?_⟩
  have hc : compL (q12 0) trueT (tupE (q10 (varE 1) (q10 (varE 0) q11))) (ckO q (.lst l)) l (capSt [none, some 5] [o0, o1, o2, o3, o4, some nm, o6, some (.ref q), o8]) G = some (.ok (l.map fun d => .tup [nm, d]), G) := by
    refine compL_map (I := fun σ => ∃ u, σ = [u, some nm]) (by simp only [ckO, e]; simp) _ _ ⟨none, rfl⟩ fun d hd σ hσ => ?_
    obtain ⟨u, rfl⟩ := hσ
    refine ⟨[some d, some nm], rfl, ⟨_, rfl⟩, rfl, wp_is ?_⟩
    simp only [wp_tup, wp_cons, wp_nil, wp_var, List.getElem?_cons_zero, List.getElem?_cons_succ, Option.some.injEq, exists_eq_left']
    exact ⟨sz, by first | rfl | trivial, trivial⟩
  exact (wp_some hc).mpr h
theorem Rws.up {n m : Nat} {l : List D} (h : Rws n l) (hm : n ≤ m) : Rws m l := fun d hd => by obtain ⟨x, e, hx⟩ := h d hd; exact ⟨x, e, by omega⟩
theorem RC_wp {n r pf m : Nat} {o1 o2 : Option D} {z : Str} {b : Bool} {fs : List D} {os : List OI} {v d u : D} {o : OI} {G : DH} (hp : pf ≠ r) (h : Dr G r) (I : Li (Fn n) r pf m fs os v G) (hm : m ≤ 9) (hd : Cn n d o) (hv : Vl 600 r G u o) (hupf : ∀ q, u = .ref q → q ≠ pf)
    (hc : prodO 1 os = none ∨ o = none ∨ ∃ a b : Nat, prodO 1 os = some (a : Int) ∧ o = some (b : Int) ∧ (b + 1) * a ≤ 200) :
    Wp (RC [some (.ref r), o1, o2, some (.ref pf), some v, some (.str z), some d, some u, some (.bl b)]) G fun fl G' => Fd2 r pf G G' ∧ ∃ v', fl = .nx [some (.ref r), o1, o2, some (.ref pf), some v', some (.str z), some d, some u, some (.bl b)] ∧ Li (Fn n) r pf (m + 1) (fs ++ [.tup [.str z, .bl b, d]]) (os ++ [fcO b o]) v' G' := by
  have bg := big
  have hfl := I.l
  have hd' : Fn n (.tup [.str z, .bl b, d]) (fcO b o) := ⟨z, b, d, o, rfl, hd, rfl⟩
  unfold RC
  simp only [wp_seq, wp_drop, wp_mt, wp_if, wp_orT, wp_truth, wp_test, wp_asg, wp_name, wp_tup, wp_bin, wp_cons, wp_nil, wp_c, wp_var, Option.some.injEq, exists_eq_left', List.getElem?_cons_zero, List.getElem?_cons_succ, List.set_cons_zero, List.set_cons_succ, isC_non, isBlI, truth_bl]
  rw [isList_lst I.f]
  refine ⟨sz, ?_⟩
  rw [append_lst I.f (by omega)]
  have f1 : Fd2 r pf G (G.set pf (.lst (fs ++ [.tup [.str z, .bl b, d]]))) := Fd2.set hp h
  have e1 : (G.set pf (.lst (fs ++ [.tup [.str z, .bl b, d]])))[pf]? = some (.lst (fs ++ [.tup [.str z, .bl b, d]])) := by rw [List.getElem?_set_self (lt_of_get I.f)]
  have hr1 := I.rw.fd2 f1
  have hv1 : Vl 600 r (G.set pf (.lst (fs ++ [.tup [.str z, .bl b, d]]))) u o := by
    rcases hv with h | ⟨q, l, h1, h2, h3, h4⟩
    · exact .inl h
    · exact .inr ⟨q, l, h1, h2, by rw [List.getElem?_set_ne (Ne.symm (hupf q h1))]; exact h3, h4⟩
  generalize G.set pf (.lst (fs ++ [.tup [.str z, .bl b, d]])) = G1 at f1 e1 hr1 hv1 ⊢
  have none_case : mulO (prodO 1 os) (fcO b o) = none → Fd2 r pf G G1 ∧ ∃ v', Fl.nx [some (.ref r), o1, o2, some (.ref pf), some .non, some (.str z), some d, some u, some (.bl b)] = .nx [some (.ref r), o1, o2, some (.ref pf), some v', some (.str z), some d, some u, some (.bl b)] ∧ Li (Fn n) r pf (m + 1) (fs ++ [.tup [.str z, .bl b, d]]) (os ++ [fcO b o]) v' G1 := fun he =>
    ⟨f1, .non, rfl, I.more hd' e1 (by rw [he]; exact .inl ⟨rfl, rfl⟩)⟩
  rcases hr1 with ⟨rfl, ex⟩ | ⟨q, rows, rfl, h2, h3, h4, h5, ex, h6⟩
  · simp only [isNonD, if_true]
    exact none_case (by rw [ex]; rfl)
  · simp only [isNonD, Bool.false_eq_true, if_false]
    rcases hv1 with ⟨rfl, rfl⟩ | ⟨qv, l, rfl, k2, k3, rfl, k5⟩
    · simp only [isNonD, if_true]
      exact none_case (by cases b <;> cases prodO 1 os <;> rfl)
    · simp only [isNonD, Bool.false_eq_true, if_false]
      have hmul : (l.length + 1) * rows.length ≤ 200 := by
        rcases hc with hc | hc | ⟨a, b', ha, hb, hab⟩
        · rw [ex] at hc; cases hc
        · cases hc
        · rw [ex] at ha
          have e1 : rows.length = a := by have := Option.some.inj ha; omega
          have e2 : l.length = b' := by have := Option.some.inj hb; omega
          rw [e1, e2]; exact hab
      have hmul2 : rows.length * l.length + rows.length ≤ 200 := by rw [Nat.add_mul, Nat.one_mul, Nat.mul_comm] at hmul; exact hmul
      have lpf := lt_of_get e1
      have lq := lt_of_get h4
      have lr := f1.2.2.lt
      have step : ∀ {Q : D → DH → Prop}, (∀ G3 p fs2, Gr G1 G3 → G1.length ≤ p → G3[p]? = some (.lst fs2) → fs2.length = rows.length * l.length → Rws (m + 1) fs2 → Q (.ref p) G3) → Wp (RP [some (.ref r), o1, o2, some (.ref pf), some (.ref q), some (.str z), some d, some (.ref qv), some (.bl b)]) G1 fun y G2 => [D.ref q, y].length = 2 ∧ Wp (F__law_times [.ref q, y]) G2 Q := fun {Q} hQ => by
        refine RP_wp k3 (by omega) ⟨rfl, ?_⟩
        refine Wp.mono (times_wp (at_app h4) app_one h5 (by omega) (by rw [List.length_map]; omega) (by rw [List.length_map]; omega)) fun x G3 ⟨g3, p, fs2, ep, hp2, hat, hl2, hr2⟩ => ?_
        subst ep
        rw [List.length_map] at hl2
        exact hQ G3 p fs2 (Gr.app.trans g3) (by rw [List.length_append] at hp2; omega) hat hl2 hr2
      cases b with
      | true =>
        simp only [if_true]
        unfold RC1
        simp only [wp_asg, wp_name, wp_call, wp_cons, wp_nil, wp_var, wp_fnX, Option.some.injEq, exists_eq_left', List.getElem?_cons_zero, List.getElem?_cons_succ, List.set_cons_zero, List.set_cons_succ]
        refine step fun G3 p fs2 g3 hp2 hat hl2 hr2 => ?_
        have f2 := g3.fd' (r := r) f1.2.2
        refine ⟨f1.trans f2.two, _, rfl, I.more hd' (g3.at e1) (.inr ⟨p, fs2, rfl, by omega, by omega, hat, hr2, ?_, by omega⟩)⟩
        rw [ex, hl2]; simp [mulO, fcO]
      | false =>
        simp only [Bool.false_eq_true, if_false]
        unfold RC2
        simp only [wp_asg, wp_name, wp_bin, wp_call, wp_cons, wp_nil, wp_var, wp_fnX, Option.some.injEq, exists_eq_left', List.getElem?_cons_zero, List.getElem?_cons_succ, List.set_cons_zero, List.set_cons_succ]
        refine step fun G3 p fs2 g3 hp2 hat hl2 hr2 => ?_
        rw [add_lst (g3.at h4) hat (by omega)]
        have f2 := (g3.trans (Gr.app (t := [DO.lst (rows ++ fs2)]))).fd' (r := r) f1.2.2
        have l3 := g3.1
        refine ⟨f1.trans f2.two, _, rfl, I.more hd' (at_app (g3.at e1)) (.inr ⟨_, rows ++ fs2, rfl, by omega, by omega, app_one, fun x hx => ?_, ?_, by rw [List.length_append]; omega⟩)⟩
        · rcases List.mem_append.mp hx with hx | hx
          · exact h5.up (by omega) x hx
          · exact hr2 x hx
        · rw [ex, List.length_append, hl2]
          simp only [mulO, fcO, Bool.false_eq_true, if_false, Option.map_some]
          congr 1
          rw [Int.mul_add]
          simp
          omega
theorem RB_wp {R : List D → M D} {n r pf m : Nat} {e : Bool} {z : Str} {o6 o7 o8 : Option D} {fs : List D} {os : List OI} {v : D} {G : DH} (hR : Small R n r e) (hn : n ≤ 3) (hp : pf ≠ r) (h : Dr G r) (I : Li (Fn n) r pf m fs os v G) (hm : m ≤ 9) (hD : Dn (4 * n + 5) fs) :
    Wp (RB R [some (.ref r), some (.int ((n + 1 : Nat) : Int)), some (.bl e), some (.ref pf), some v, some (.str z), o6, o7, o8]) G fun fl G' => Fd2 r pf G G' ∧ ∃ v' o6 o7 o8 fs' os', fl = .nx [some (.ref r), some (.int ((n + 1 : Nat) : Int)), some (.bl e), some (.ref pf), some v', some (.str z), o6, o7, o8] ∧ Li (Fn n) r pf (m + 1) fs' os' v' G' ∧ Dn (4 * n + 5) fs' := by
  unfold RB
  simp only [wp_seq, wp_asg, wp_bin, wp_call, wp_cons, wp_nil, wp_c, wp_var, wp_fnX, Option.some.injEq, exists_eq_left', List.getElem?_cons_zero, List.getElem?_cons_succ, sub_int]
  rw [show ((n + 1 : Nat) : Int) - 1 = (n : Int) by omega]
  refine ⟨rfl, Wp.mono (hR G h) fun x G1 ⟨f1, d, u, o, ex, hs, hv, hq⟩ => ?_⟩
  subst ex
  rw [wp_tup2]
  simp only [wp_consG, wp_nilG, wp_name, List.set_cons_succ, List.set_cons_zero, Option.some.injEq, exists_eq_left', List.getElem?_cons_zero, List.getElem?_cons_succ]
  refine ⟨rfl, next_q f1.2.2 fun k G2 f2 => ?_⟩
  rw [mod_int (by decide), eq_int, wp_if]
  have f12 := f1.trans f2
  have I1 := I.fd f12 hp
  refine RX_wp hs.2 ⟨by omega, by omega⟩ I1.rw (hv.fd f2) ?_ fun hc => ?_
  · simp only [Bool.false_eq_true, if_false, wp_next]
    exact ⟨f12.two, v, _, _, _, fs, os, rfl, I1.ups (by omega), hD⟩
  · simp only [if_true]
    have hupf : ∀ q, u = .ref q → q ≠ pf := fun q eq e => by
      have := hq q eq
      have := lt_of_get I.f
      omega
    refine Wp.mono (RC_wp hp f12.2.2 I1 hm hs.1 (hv.fd f2) hupf hc) fun fl G3 ⟨f3, v', e3, I3⟩ => ⟨f12.two.trans f3, v', _, _, _, _, _, e3, I3, hD.snoc ?_⟩
    have h1 : dataN (4 * n + 4) d = true := data_le (by omega) hs.2
    show [D.str z, .bl (decide ((k : Int) % 2 = 0)), d].all (dataN (4 * n + 4)) = true
    simp [h1, dataN]
theorem RB_loop {R : List D → M D} {n r pf p0 : Nat} {L : List D} {e : Bool} (hR : Small R n r e) (hn : n ≤ 3) (hp : pf ≠ r) (hp0 : p0 ≠ r ∧ p0 ≠ pf) : ∀ (items : List Str) (m : Nat) (o5 o6 o7 o8 : Option D) (fs : List D) (os : List OI) (v : D) (G : DH), Dr G r → G[p0]? = some (.lst L) → Li (Fn n) r pf m fs os v G → m + items.length ≤ 9 → Dn (4 * n + 5) fs →
    Wp (forL (q12 5) (RB R) (ckO p0 (.lst L)) (items.map D.str) [some (.ref r), some (.int ((n + 1 : Nat) : Int)), some (.bl e), some (.ref pf), some v, o5, o6, o7, o8]) G fun fl G' => Fd2 r pf G G' ∧ ∃ v' o5 o6 o7 o8 fs' os', fl = .nx [some (.ref r), some (.int ((n + 1 : Nat) : Int)), some (.bl e), some (.ref pf), some v', o5, o6, o7, o8] ∧ Li (Fn n) r pf 9 fs' os' v' G' ∧ Dn (4 * n + 5) fs'
  | [], m, o5, o6, o7, o8, fs, os, v, G, h, e0, I, hm, hD => by
    rw [List.map_nil, wp_forN]
    simp only [List.length_nil] at hm
    exact ⟨by simp only [ckO, e0]; simp, (Fd.refl h).two, v, o5, o6, o7, o8, fs, os, rfl, I.ups (by omega), hD⟩
  | z :: t, m, o5, o6, o7, o8, fs, os, v, G, h, e0, I, hm, hD => by
    simp only [List.length_cons] at hm
    rw [List.map_cons, wp_forC, wp_name]
    refine ⟨by simp only [ckO, e0]; simp, ?_⟩
    simp only [List.set_cons_succ, List.set_cons_zero]
    refine Wp.mono (RB_wp hR hn hp h I (by omega) hD) fun fl G1 ⟨f1, v1, o6', o7', o8', fs1, os1, e1, I1, hD1⟩ => ?_
    subst e1
    exact Wp.mono (RB_loop hR hn hp hp0 t (m + 1) _ _ _ _ fs1 os1 v1 G1 f1.2.2 (by rw [f1.2.1 p0 hp0.1 hp0.2 (lt_of_get e0)]; exact e0) I1 (by omega) hD1) fun fl G2 ⟨f2, h2⟩ => ⟨f1.trans f2, h2⟩
theorem p12 {G : DH} {Q : D → DH → Prop} : Wp (powD (.int 10) (.int 12)) G Q ↔ Q (.int 1000000000000) G := by
  rw [pow_int (by decide)]; rfl
noncomputable abbrev bigD : D := .tup [.tup [.tup [.int 1000000000000, .int 1000000000000]], .tup [.str wOf, .tup []], .tup [], .non, .non]
theorem RY_wp {n r pf m : Nat} {e : Bool} {o1 o5 o6 o7 o8 : Option D} {fs : List D} {os : List OI} {v : D} {P : D → OI → Prop} {G G0 : DH} (hp : pf ≠ r) (f0 : Fd r G0 G) (I : Li P r pf m fs os v G) (hm : m ≤ 100) (hD : Dn (4 * n + 5) fs) :
    Wp (RY [some (.ref r), o1, some (.bl e), some (.ref pf), some v, o5, o6, o7, o8]) G fun fl G' => (∃ x, fl = .rt x ∧ Pa P n r G0 x G') ∨ (Fd r G0 G' ∧ Li P r pf m fs os v G' ∧ fl = .nx [some (.ref r), o1, some (.bl e), some (.ref pf), some v, o5, o6, o7, o8]) := by
  have hfl := I.l
  unfold RY
  simp only [wp_if, wp_andT, wp_truth, wp_test, wp_bin, wp_ret, wp_tup, wp_call, wp_cons, wp_nil, wp_c, wp_var, wp_fnX, wp_next, Option.some.injEq, exists_eq_left', List.getElem?_cons_zero, List.getElem?_cons_succ, truth_bl, p12]
  cases e with
  | false =>
    simp only [Bool.false_eq_true, if_false]
    exact .inr ⟨f0, I, by first | rfl | trivial⟩
  | true =>
    simp only [if_true]
    refine ⟨rfl, next_q f0.2.2 fun k G1 f1 => ?_⟩
    rw [mod_int (by decide), eq_int]
    refine ⟨_, rfl, ?_⟩
    have I1 := I.fd f1 hp
    by_cases hk : (k : Int) % 3 = 0
    · simp only [hk, decide_true, if_true]
      rw [tuple_lst I1.f]
      refine ⟨sz, sz, sz, sz, sz, sz, sz, sz, .inl ⟨_, rfl, f0.trans f1, fs, os, bigD, .non, none, rfl, by omega, I1.a, I1.ok, .inr ⟨fun G => rfl, rfl⟩, data_part hD rfl, .inl ⟨rfl, rfl⟩, fun q e => by cases e⟩⟩
    · simp only [hk, decide_false, Bool.false_eq_true, if_false]
      exact .inr ⟨f0.trans f1, I1, by first | rfl | trivial⟩
theorem recorded_wp {R : List D → M D} {n r : Nat} {e : Bool} {G : DH} (hR : Small R n r e) (hn : n ≤ 3) (h : Dr G r) : Wp (H__law_recorded R [.ref r, .int ((n + 1 : Nat) : Int), .bl e]) G (Pa (Fn n) n r G) := by
  unfold H__law_recorded
  rw [is_R]
  have s0 : ([D.ref r, .int ((n + 1 : Nat) : Int), .bl e].map some ++ List.replicate (9 - [D.ref r, .int ((n + 1 : Nat) : Int), .bl e].length) none : DSt) = [some (.ref r), some (.int ((n + 1 : Nat) : Int)), some (.bl e), none, none, none, none, none, none] := rfl
  simp only [wp_body, s0, wp_seq, wp_asg, wp_name, wp_for, wp_itW, wp_sliceT, wp_noPart, wp_part, intI, wp_lst, wp_tup, wp_call, wp_cons, wp_nil, wp_c, wp_var, wp_fnX, List.getElem?_cons_zero, List.getElem?_cons_succ, List.set_cons_succ, List.set_cons_zero, Option.some.injEq, exists_eq_left']
  have hp : G.length ≠ r := by have := h.lt; omega
  have f1 : Fd r G (G ++ [DO.lst []] ++ [DO.lst [.tup []]]) := (Fd.app h).trans (Fd.app (Fd.app h).2.2)
  refine ⟨sz, sz, sz, rfl, Wp.mono (names_wp f1.2.2) fun x G2 ⟨q, ss, ex, hqr, hat, hl, f2⟩ => ?_⟩
  subst ex
  have esl : ∀ {Q : D → DH → Prop}, Wp (slT (.ref q) none (some 3)) G2 Q ↔ Q (.ref G2.length) (G2 ++ [.lst ((ss.take 3).map D.str)]) := fun {Q} => by
    have := sl_lst (lo := none) (hi := some ((3 : Nat) : Int)) (Q := Q) hat
    rw [cut_take, ← List.map_take] at this
    exact this
  rw [esl, srcW_lst app_one]
  have f3 : Fd r G2 (G2 ++ [DO.lst ((ss.take 3).map D.str)]) := Fd.app f2.2.2
  have f13 := f1.trans (f2.trans f3)
  have hq : (G ++ [DO.lst []]).length ≠ r := by have := h.lt; rw [List.length_append]; simp; omega
  have I : Li (Fn n) r G.length 0 [] [] (.ref (G ++ [DO.lst []]).length) (G ++ [DO.lst []] ++ [DO.lst [.tup []]]) := ⟨at_app app_one, by simp, trivial, trivial, .inr ⟨_, [.tup []], rfl, hq, by simp, app_one, fun d hd => by rw [List.mem_singleton] at hd; exact ⟨[], hd, by simp⟩, rfl, by simp⟩⟩
  have hg2 : G.length < G2.length := by
    have := f2.1
    simp only [List.length_append, List.length_singleton] at this
    omega
  have htk : (ss.take 3).length ≤ 3 := by rw [List.length_take]; omega
  have hr2 := f2.2.2.lt
  refine Wp.mono (RB_loop (p0 := G2.length) hR hn hp ⟨by omega, by omega⟩ (ss.take 3) 0 none none none none [] [] _ _ f3.2.2 app_one (I.fd (f2.trans f3) hp) (by omega) (fun d hd => by cases hd)) fun fl G3 ⟨g3, v', o5, o6, o7, o8, fs', os', e3, I3, hD3⟩ => ?_
  subst e3
  have fa : Fd r G G3 := f13.thru g3 (Nat.le_refl _)
  refine Wp.mono (RY_wp hp fa I3 (by omega) hD3) fun fl G4 h4 => ?_
  rcases h4 with ⟨x, e4, h4⟩ | ⟨f4, I4, e4⟩
  · subst e4
    exact h4
  · subst e4
    exact Wp.mono (LZ_wp (o6 := none) (o7 := none) (o8 := none) f4 I4 (by omega) hD3) fun fl G5 ⟨x, e5, h5⟩ => by subst e5; exact h5
end W
set_option Elab.async false
set_option linter.all false
set_option maxRecDepth 100000
namespace W
open PySem PySem.Spec L2 DL
open PyProof.Rows hiding St
noncomputable def addO : OI → OI → OI → OI
  | some a, some x, some y => some (a + x + y)
  | _, _, _ => none
theorem cnt5_add {a b c x y : OI} : cnt5 a b c x y = addO (cnt5 a b c (some 0) (some 0)) x y := by
  cases a <;> cases b <;> cases c <;> cases x <;> cases y <;> simp [cnt5, addO]
noncomputable def Pz (P : D → OI → Prop) (n r : Nat) (G : DH) (a v : D) (o : OI) : Prop := ((a = .non ∧ o = some 0) ∨ ∃ fs os more, a = .tup [.tup fs, more] ∧ fs.length ≤ 100 ∧ All2 P fs os ∧ okP 1 os ∧ Mo more (prodO 1 os) o) ∧ dataN (4 * n + 7) a = true ∧ Vl 200 r G v o
theorem Pz.fd {P : D → OI → Prop} {n r : Nat} {G G' : DH} {a v : D} {o : OI} (h : Pz P n r G a v o) (f : Fd r G G') : Pz P n r G' a v o := ⟨h.1, h.2.1, h.2.2.fd f⟩
theorem pz_none {P : D → OI → Prop} {n r q : Nat} {G : DH} (hq : q ≠ r) (e : G[q]? = some (.lst [])) : Pz P n r G .non (.ref q) (some 0) := ⟨.inl ⟨rfl, rfl⟩, by simp [dataN], .inr ⟨q, [], rfl, hq, e, rfl, by simp⟩⟩
noncomputable abbrev S10 (r n : Nat) (e : Bool) (k : Nat) (d u a v b w : D) : DSt := [some (.ref r), some (.int ((n + 1 : Nat) : Int)), some (.bl e), some (.int (k : Int)), some d, some u, some a, some v, some b, some w]
noncomputable def M1 (R : List D → M D) : Fs := (ifS (testE (binE ltD (binE modD (binE fdivD (varE 3) (cE (.int 112))) (cE (.int 3))) (cE (.int 2)))) (asgS (q13 (fnX 3 (H__law_listed R)) (q10 (varE 0) (q10 (varE 1) (q10 (varE 2) (q11))))) (tupG 2 (consG (q12 6) (consG (q12 7) (nilG))))) (nextS))
noncomputable def M2 (R : List D → M D) : Fs := (ifS (testE (binE gtD (binE modD (binE fdivD (varE 3) (cE (.int 112))) (cE (.int 3))) (cE (.int 0)))) (asgS (q13 (fnX 3 (H__law_recorded R)) (q10 (varE 0) (q10 (varE 1) (q10 (varE 2) (q11))))) (tupG 2 (consG (q12 8) (consG (q12 9) (nilG))))) (nextS))
noncomputable def M3 : Fs := (seqS (asgS (binE addD (sliceT (varE 4) (noPart) (partO (cE (.int 3)))) (tupE (q10 (varE 6) (q10 (varE 8) (q11))))) (q12 4)) (seqS (ifS (orT (testE (binE isCD (varE 5) (cE .non))) (orT (testE (binE isCD (varE 7) (cE .non))) (testE (binE isCD (varE 9) (cE .non))))) (retS (tupE (q10 (varE 4) (q10 (cE .non) (q11))))) (nextS)) (retS (tupE (q10 (varE 4) (q10 (binE addD (binE addD (varE 5) (varE 7)) (varE 9)) (q11)))))))
noncomputable def M0 (R : List D → M D) : Fs := (seqS (parS 6 7 (q10 (cE .non) (q10 (lstE (q11)) (q11)))) (seqS (parS 8 9 (q10 (cE .non) (q10 (lstE (q11)) (q11)))) (seqS (M1 R) (seqS (M2 R) M3))))
theorem is_M {R : List D → M D} : B__law_small R = seqS (asgS (q13 (fnX 1 F__law_next) (q10 (varE 0) (q11))) (q12 3)) (seqS (ifS (andT (truthE (varE 2)) (testE (binE eqD (binE modD (varE 3) (cE (.int 7))) (cE (.int 0))))) (retS (tupE (q10 (cE (.str ("any" : Str))) (q10 (cE .non) (q11))))) (nextS)) (seqS (asgS (q13 (fnX 2 F__law_plain) (q10 (varE 0) (q10 (andVE (varE 2) (binE eqD (binE modD (binE fdivD (varE 3) (cE (.int 7))) (cE (.int 4))) (cE (.int 0)))) (q11)))) (tupG 2 (consG (q12 4) (consG (q12 5) (nilG))))) (seqS (ifS (orT (testE (binE eqD (varE 1) (cE (.int 0)))) (testE (binE eqD (binE modD (binE fdivD (varE 3) (cE (.int 28))) (cE (.int 4))) (cE (.int 0))))) (retS (tupE (q10 (varE 4) (q10 (varE 5) (q11))))) (nextS)) (M0 R)))) := rfl
theorem M1_wp {R : List D → M D} {n r k : Nat} {e : Bool} {d u a v b w : D} {o : OI} {G : DH} (hR : Small R n r e) (hn : n ≤ 3) (h : Dr G r) (hz : Pz (Cn n) n r G a v o) : Wp (M1 R (S10 r n e k d u a v b w)) G fun fl G' => Fd r G G' ∧ ∃ a' v' o', fl = .nx (S10 r n e k d u a' v' b w) ∧ Pz (Cn n) n r G' a' v' o' := by
  unfold M1 S10
  simp only [wp_if, wp_test, wp_asg, wp_bin, wp_call, wp_cons, wp_nil, wp_c, wp_var, wp_fnX, wp_next, Option.some.injEq, exists_eq_left', List.getElem?_cons_zero, List.getElem?_cons_succ, fdiv_int (show (0 : Int) < 112 ∧ (112 : Int) < 2 ^ 100 by decide), mod_int (show (0 : Int) < 3 by decide), lt_int, isBlI]
  split
  · refine ⟨rfl, Wp.mono (listed_wp hR hn h) fun x G1 ⟨f1, fs, os, more, v', o', ex, h1, h2, h3, h4, h5, h6, _⟩ => ?_⟩
    subst ex
    rw [wp_tup2]
    simp only [wp_consG, wp_nilG, wp_name, List.set_cons_succ, List.set_cons_zero]
    exact ⟨f1, _, v', o', rfl, .inr ⟨fs, os, more, rfl, h1, h2, h3, h4⟩, h5, h6⟩
  · exact ⟨Fd.refl h, a, v, o, rfl, hz⟩
theorem M2_wp {R : List D → M D} {n r k : Nat} {e : Bool} {d u a v b w : D} {o : OI} {G : DH} (hR : Small R n r e) (hn : n ≤ 3) (h : Dr G r) (hz : Pz (Fn n) n r G b w o) : Wp (M2 R (S10 r n e k d u a v b w)) G fun fl G' => Fd r G G' ∧ ∃ b' w' o', fl = .nx (S10 r n e k d u a v b' w') ∧ Pz (Fn n) n r G' b' w' o' := by
  unfold M2 S10
  simp only [wp_if, wp_test, wp_asg, wp_bin, wp_call, wp_cons, wp_nil, wp_c, wp_var, wp_fnX, wp_next, Option.some.injEq, exists_eq_left', List.getElem?_cons_zero, List.getElem?_cons_succ, fdiv_int (show (0 : Int) < 112 ∧ (112 : Int) < 2 ^ 100 by decide), mod_int (show (0 : Int) < 3 by decide), gt_wp, isBlI]
  split
  · refine ⟨rfl, Wp.mono (recorded_wp hR hn h) fun x G1 ⟨f1, fs, os, more, v', o', ex, h1, h2, h3, h4, h5, h6, _⟩ => ?_⟩
    subst ex
    rw [wp_tup2]
    simp only [wp_consG, wp_nilG, wp_name, List.set_cons_succ, List.set_cons_zero]
    exact ⟨f1, _, v', o', rfl, .inr ⟨fs, os, more, rfl, h1, h2, h3, h4⟩, h5, h6⟩
  · exact ⟨Fd.refl h, b, w, o, rfl, hz⟩
theorem M3_wp {n r k : Nat} {e : Bool} {d u a v b w : D} {o x y : OI} {G G0 : DH} (f0 : Fd r G0 G) (hd : Pl d o) (hu : Vl 20 r G u o) (ha : Pz (Cn n) n r G a v x) (hb : Pz (Fn n) n r G b w y) : Wp (M3 (S10 r n e k d u a v b w)) G fun fl G' => ∃ z, fl = .rt z ∧ Sm (n + 1) r G0 z G' := by
  have bg := big
  obtain ⟨ps, wd, ss, bs, rfl, hl, ho⟩ := hd
  unfold M3 S10
  simp only [wp_seq, wp_asg, wp_name, wp_if, wp_orT, wp_test, wp_ret, wp_tup, wp_bin, wp_sliceT, wp_noPart, wp_part, intI, wp_cons, wp_nil, wp_c, wp_var, wp_next, Option.some.injEq, exists_eq_left', List.getElem?_cons_zero, List.getElem?_cons_succ, List.set_cons_zero, List.set_cons_succ, slT_tup, isC_non, isBlI]
  refine ⟨sz, ?_⟩
  have ec : DL.cutD [D.tup (ps.map pairD), .tup [.str wd, .tup (ss.map D.str)], .tup (bs.map D.bl), .non, .non] none (some 3) = [D.tup (ps.map pairD), .tup [.str wd, .tup (ss.map D.str)], .tup (bs.map D.bl)] := rfl
  rw [ec, add_tup sz2]
  have hs : Sn (n + 1) (.tup [.tup (ps.map pairD), .tup [.str wd, .tup (ss.map D.str)], .tup (bs.map D.bl), a, b]) (addO o x y) := by
    refine ⟨?_, data_le (by omega) (data_set (n := 4 * n + 4) ha.2.1 hb.2.1)⟩
    unfold Cn
    refine .inr ⟨ps, wd, ss, bs, a, b, x, y, rfl, hl, ?_, ha.1, hb.1⟩
    rw [ho, cnt5_add (x := x) (y := y)]
  have nn : ∀ {z : OI}, addO o x y = none → Sm (n + 1) r G0 (.tup [.tup [.tup (ps.map pairD), .tup [.str wd, .tup (ss.map D.str)], .tup (bs.map D.bl), a, b], .non]) G := fun {z} he => ⟨f0, _, _, none, rfl, by rw [he] at hs; exact hs, .inl ⟨rfl, rfl⟩, fun q e => by cases e⟩
  show if _ then _ else _
  rcases hu with ⟨rfl, rfl⟩ | ⟨q1, l1, rfl, a1, b1, rfl, c1⟩
  · simp only [isNonD, if_true]
    exact ⟨sz, _, rfl, nn (z := none) rfl⟩
  · simp only [isNonD, Bool.false_eq_true, if_false]
    rcases ha.2.2 with ⟨rfl, rfl⟩ | ⟨q2, l2, rfl, a2, b2, rfl, c2⟩
    · simp only [isNonD, if_true]
      exact ⟨sz, _, rfl, nn (z := none) rfl⟩
    · simp only [isNonD, Bool.false_eq_true, if_false]
      rcases hb.2.2 with ⟨rfl, rfl⟩ | ⟨q3, l3, rfl, a3, b3, rfl, c3⟩
      · simp only [isNonD, if_true]
        exact ⟨sz, _, rfl, nn (z := none) rfl⟩
      · simp only [isNonD, Bool.false_eq_true, if_false]
        rw [add_lst b1 b2 (by omega), add_lst app_one (at_app b3) (by rw [List.length_append]; omega)]
        have f2 : Fd r G (G ++ [DO.lst (l1 ++ l2)] ++ [DO.lst (l1 ++ l2 ++ l3)]) := (Fd.app f0.2.2).trans (Fd.app (Fd.app f0.2.2).2.2)
        have lr := f0.2.2.lt
        have lg := f0.1
        refine ⟨sz, _, rfl, f0.trans f2, _, _, _, rfl, hs, .inr ⟨_, _, rfl, by rw [List.length_append]; omega, app_one, ?_, by simp only [List.length_append]; omega⟩, fun q e => by cases e; rw [List.length_append]; omega⟩
        simp only [addO, List.length_append]
        first | rfl | (congr 1; omega) | (simp)
theorem M0_wp {R : List D → M D} {n r k : Nat} {e : Bool} {d u : D} {o : OI} {G G0 : DH} (hR : Small R n r e) (hn : n ≤ 3) (f0 : Fd r G0 G) (hd : Pl d o) (hu : Vl 20 r G u o) : Wp (M0 R [some (.ref r), some (.int ((n + 1 : Nat) : Int)), some (.bl e), some (.int (k : Int)), some d, some u, none, none, none, none]) G fun fl G' => ∃ z, fl = .rt z ∧ Sm (n + 1) r G0 z G' := by
  unfold M0
  simp only [wp_seq, wp_par, wp_lst, wp_cons, wp_nil, wp_c]
  have lr := f0.2.2.lt
  refine ⟨sz, _, _, rfl, sz, _, _, rfl, ?_⟩
  have f1 : Fd r G (G ++ [DO.lst []] ++ [DO.lst []]) := (Fd.app f0.2.2).trans (Fd.app (Fd.app f0.2.2).2.2)
  have z1 : Pz (Cn n) n r (G ++ [DO.lst []] ++ [DO.lst []]) .non (.ref G.length) (some 0) := pz_none (by omega) (at_app app_one)
  have z2 : Pz (Fn n) n r (G ++ [DO.lst []] ++ [DO.lst []]) .non (.ref (G ++ [DO.lst []]).length) (some 0) := pz_none (by rw [List.length_append]; omega) app_one
  show Wp (M1 R (S10 r n e k d u .non (.ref G.length) .non (.ref (G ++ [DO.lst []]).length))) _ _
  refine Wp.mono (M1_wp hR hn f1.2.2 z1) fun fl G2 ⟨f2, a', v', o', e2, z3⟩ => ?_
  subst e2
  refine Wp.mono (M2_wp hR hn f2.2.2 (z2.fd f2)) fun fl G3 ⟨f3, b', w', o'', e3, z4⟩ => ?_
  subst e3
  exact M3_wp (f0.trans (f1.trans (f2.trans f3))) hd (hu.fd (f1.trans (f2.trans f3))) (z3.fd f3) z4
theorem small_body {R : List D → M D} {r : Nat} {e : Bool} {i : Int} {G : DH} {Q : D → DH → Prop} (h : Dr G r) (h1 : ∀ G', Fd r G G' → Q (.tup [.str wAny, .non]) G') (h2 : ∀ d u o G', Fd r G G' → Pl d o → Vl 20 r G' u o → (∀ q, u = .ref q → G.length ≤ q) → Q (.tup [d, u]) G')
    (h3 : i ≠ 0 → ∀ (k : Nat) d u o G', Fd r G G' → Pl d o → Vl 20 r G' u o → Wp (M0 R [some (.ref r), some (.int i), some (.bl e), some (.int (k : Int)), some d, some u, none, none, none, none]) G' fun fl G'' => ∃ z, fl = .rt z ∧ Q z G'') :
    Wp (bodyF 10 (B__law_small R) [.ref r, .int i, .bl e]) G Q := by
  rw [is_M]
  have s0 : ([D.ref r, .int i, .bl e].map some ++ List.replicate (10 - [D.ref r, .int i, .bl e].length) none : DSt) = [some (.ref r), some (.int i), some (.bl e), none, none, none, none, none, none, none] := rfl
  rw [wp_body, s0, wp_seq, wp_asg]
  simp only [wp_name, wp_call, wp_cons, wp_nil, wp_var, wp_fnX, Option.some.injEq, exists_eq_left', List.getElem?_cons_zero, List.set_cons_zero, List.set_cons_succ]
  refine ⟨rfl, next_q h fun k G1 f1 => ?_⟩
  have rest : ∀ b : Bool, [D.ref r, .bl b].length = 2 ∧ Wp (F__law_plain [.ref r, .bl b]) G1 fun x G2 => Wp (tupG 2 (consG (q12 4) (consG (q12 5) nilG)) x [some (.ref r), some (.int i), some (.bl e), some (.int (k : Int)), none, none, none, none, none, none]) G2 fun σ' G3 => Wp ((seqS (ifS (orT (testE (binE eqD (varE 1) (cE (.int 0)))) (testE (binE eqD (binE modD (binE fdivD (varE 3) (cE (.int 28))) (cE (.int 4))) (cE (.int 0))))) (retS (tupE (q10 (varE 4) (q10 (varE 5) (q11))))) (nextS)) (M0 R)) σ') G3 fun fl G4 => match fl with | .nx _ => Q .non G4 | .rt d => Q d G4 | _ => False := by
    intro b
    refine ⟨rfl, Wp.mono (plain_wp f1.2.2) fun x G2 ⟨f2, d, u, o, ex, hp, hv, hq⟩ => ?_⟩
    subst ex
    rw [wp_tup2]
    have f12 := f1.trans f2
    simp only [wp_consG, wp_nilG, wp_name, List.set_cons_succ, List.set_cons_zero, wp_seq, wp_if, wp_orT, wp_test, wp_ret, wp_tup, wp_bin, wp_cons, wp_nil, wp_c, wp_var, wp_next, Option.some.injEq, exists_eq_left', List.getElem?_cons_zero, List.getElem?_cons_succ, fdiv_int (show (0 : Int) < 28 ∧ (28 : Int) < 2 ^ 100 by decide), mod_int (show (0 : Int) < 4 by decide), eq_int, isBlI]
    have hq' : ∀ q, u = .ref q → G.length ≤ q := fun q eq => Nat.le_trans f1.1 (hq q eq)
    by_cases hi : i = 0
    · simp only [hi, decide_true, if_true]
      exact ⟨sz, h2 d u o G2 f12 hp hv hq'⟩
    · simp only [hi, decide_false, Bool.false_eq_true, if_false]
      split
      · exact ⟨sz, h2 d u o G2 f12 hp hv hq'⟩
      · refine Wp.mono (h3 hi k d u o G2 f12 hp hv) fun fl G4 ⟨z, ez, hz⟩ => ?_
        subst ez
        exact hz
  rw [wp_seq, wp_if]
  have tl : ∀ b : Bool, (∀ {Q' : D → DH → Prop}, Wp ((andVE (varE 2) (binE eqD (binE modD (binE fdivD (varE 3) (cE (.int 7))) (cE (.int 4))) (cE (.int 0)))) [some (.ref r), some (.int i), some (.bl e), some (.int (k : Int)), none, none, none, none, none, none]) G1 Q' ↔ Q' (.bl b) G1) → Wp ((seqS (asgS (q13 (fnX 2 F__law_plain) (q10 (varE 0) (q10 (andVE (varE 2) (binE eqD (binE modD (binE fdivD (varE 3) (cE (.int 7))) (cE (.int 4))) (cE (.int 0)))) (q11)))) (tupG 2 (consG (q12 4) (consG (q12 5) (nilG))))) (seqS (ifS (orT (testE (binE eqD (varE 1) (cE (.int 0)))) (testE (binE eqD (binE modD (binE fdivD (varE 3) (cE (.int 28))) (cE (.int 4))) (cE (.int 0))))) (retS (tupE (q10 (varE 4) (q10 (varE 5) (q11))))) (nextS)) (M0 R))) [some (.ref r), some (.int i), some (.bl e), some (.int (k : Int)), none, none, none, none, none, none]) G1 fun fl G4 => match fl with | .nx _ => Q .non G4 | .rt d => Q d G4 | _ => False := by
    intro b hb
    rw [wp_seq, wp_asg]
    simp only [wp_call, wp_cons, wp_nil, wp_var, wp_fnX, hb, Option.some.injEq, exists_eq_left', List.getElem?_cons_zero]
    exact rest b
  simp only [wp_andT, wp_truth, wp_test, wp_bin, wp_c, wp_var, Option.some.injEq, exists_eq_left', List.getElem?_cons_zero, List.getElem?_cons_succ, truth_bl, mod_int (show (0 : Int) < 7 by decide), eq_int, isBlI]
  have hav : ∀ {Q' : D → DH → Prop}, Wp ((andVE (varE 2) (binE eqD (binE modD (binE fdivD (varE 3) (cE (.int 7))) (cE (.int 4))) (cE (.int 0)))) [some (.ref r), some (.int i), some (.bl e), some (.int (k : Int)), none, none, none, none, none, none]) G1 Q' ↔ Q' (.bl (e && decide ((k : Int) / 7 % 4 = 0))) G1 := fun {Q'} => by
    simp only [wp_andV, wp_bin, wp_c, wp_var, Option.some.injEq, exists_eq_left', List.getElem?_cons_zero, List.getElem?_cons_succ, truth_bl, fdiv_int (show (0 : Int) < 7 ∧ (7 : Int) < 2 ^ 100 by decide), mod_int (show (0 : Int) < 4 by decide), eq_int]
    cases e <;> simp
  cases e with
  | false =>
    simp only [Bool.false_eq_true, if_false, wp_next]
    exact tl _ hav
  | true =>
    simp only [if_true]
    split
    · simp only [wp_ret, wp_tup, wp_cons, wp_nil, wp_c]
      exact ⟨sz, h1 G1 f1⟩
    · simp only [wp_next]
      exact tl _ hav
theorem small_wp {r : Nat} {e : Bool} : ∀ n : Nat, n ≤ 3 → Small (R__law_small (n + 1)) n r e := by
  intro n
  induction n with
  | zero =>
    intro _ G h
    show Wp (bodyF 10 (B__law_small (R__law_small 0)) [.ref r, .int ((0 : Nat) : Int), .bl e]) G _
    refine small_body h (fun G' f => ⟨f, _, _, none, rfl, ⟨by unfold Cn; exact .inl ⟨rfl, rfl⟩, rfl⟩, .inl ⟨rfl, rfl⟩, fun q e => by cases e⟩) (fun d u o G' f hp hv hq => ⟨f, d, u, o, rfl, hp.sn 0, hv.up (by decide), hq⟩) fun hi => ?_
    exact (hi rfl).elim
  | succ n ih =>
    intro hn G h
    show Wp (bodyF 10 (B__law_small (R__law_small (n + 1))) [.ref r, .int ((n + 1 : Nat) : Int), .bl e]) G _
    refine small_body h (fun G' f => ⟨f, _, _, none, rfl, ⟨by unfold Cn; exact .inl ⟨rfl, rfl⟩, by simp [dataN]⟩, .inl ⟨rfl, rfl⟩, fun q e => by cases e⟩) (fun d u o G' f hp hv hq => ⟨f, d, u, o, rfl, hp.sn (n + 1), hv.up (by decide), hq⟩) fun hi k d u o G' f hp hv => ?_
    exact M0_wp (ih (by omega)) (by omega) f hp hv
theorem hm_any {d : D} {o : OI} {G : DH} (h : Cn 2 d o) : Wp (F_how_many [d]) G fun y G' => y = optD o ∧ Ap G G' := hm_wp 2 d o G h
theorem pure_wp (ns : List Int) (hn : ns.length ≤ 63) : Wp (F_law [.ref 0]) [.rol (ns.map D.int)] fun d _ => d = .bl true := by
  unfold F_law B_law
  have e0 : ([DO.rol (ns.map D.int)] : DH)[0]? = some (.rol (ns.map D.int)) := rfl
  generalize hG : ([DO.rol (ns.map D.int)] : DH) = G at *
  have s0 : ([D.ref 0].map some ++ List.replicate (5 - [D.ref 0].length) none : DSt) = [some (.ref 0), none, none, none, none] := rfl
  simp only [wp_body, s0, wp_seq, wp_asg, wp_name, wp_call, wp_cons, wp_nil, wp_c, wp_var, wp_bin, wp_fnX, Option.some.injEq, exists_eq_left', List.set_cons_succ, List.set_cons_zero, List.getElem?_cons_zero, List.getElem?_cons_succ]
  refine ⟨rfl, Wp.mono (purse_wp (a := 0) (by decide) e0 hn) fun x G1 ⟨r, ex, d1, g1, l1⟩ => ?_⟩
  subst ex
  refine ⟨rfl, next_q d1 fun k G2 f2 => ?_⟩
  rw [mod_int (by decide), eq_int]
  refine ⟨rfl, Wp.mono (small_wp 2 (by decide) G2 f2.2.2) fun x G3 ⟨f3, d, v, o, ex, hs, hv, _⟩ => ?_⟩
  subst ex
  rw [wp_tup2]
  simp only [wp_consG, wp_nilG, wp_name, List.set_cons_succ, List.set_cons_zero, Option.some.injEq, exists_eq_left', List.getElem?_cons_zero, List.getElem?_cons_succ]
  refine ⟨rfl, Wp.mono (show Wp (F_how_many [d]) G3 fun y G' => y = optD o ∧ Ap G3 G' from hm_any hs.1) fun y G4 ⟨ey, a4⟩ => ?_⟩
  subst ey
  simp only [wp_if, wp_test, wp_ret, wp_andV, wp_not, wp_bin, wp_call, wp_cons, wp_nil, wp_c, wp_var, wp_next, Option.some.injEq, exists_eq_left', List.getElem?_cons_zero, List.getElem?_cons_succ, isC_non, isBlI]
  rcases hv with ⟨rfl, rfl⟩ | ⟨q, l, rfl, h1, h2, rfl, h3⟩
  · simp only [isNonD, if_true, optD, endD]
  · have ht : There G4 (.int (l.length : Int)) := ⟨_, rfl⟩
    simp only [isNonD, Bool.false_eq_true, if_false, optD, endD, int_wp ht, isIntB, truth_bl, if_true, bool_wp ht, isBlD, isBlI, Bool.not_false]
    rw [len_lst (a4.at h2), eq_int]
    simp
theorem pure_law : ∀ ns : List Int, ns.length ≤ 63 → ∃ G', F_law [.ref 0] [.rol (ns.map D.int)] = some (.ok (.bl true), G') := fun ns hn => by
  obtain ⟨d, G', e, rfl⟩ := pure_wp ns hn
  exact ⟨G', e⟩
end W
set_option maxRecDepth 100000 in
set_option maxHeartbeats 0 in
theorem PySem.Challenge.cw_allmeet_k34_whole_counts_by_lists_of_val_holds : PySem.Challenge.rw_allmeet_k34_whole_counts_by_lists_of_val.Holds := by
  w_on; o_law; k_head; (case hw => w_witness2)
  k_fill
  refine W.walk (l := PySem.Challenge.rw_allmeet_k34_whole_counts_by_lists_of_val) rfl rfl (fun w h Y => PySem.W.kIn_of Y) ?F
  case F =>
    intro w mg fa h KX G hmg
    refine' W.all_mk KX G hmg ?a__law_mixed ?l__law_mixed ?e__law_mixed ?k__law_mixed ?a__law_purse ?l__law_purse ?e__law_purse ?k__law_purse ?a__law_next ?l__law_next ?e__law_next ?k__law_next ?a__law_few ?l__law_few ?e__law_few ?k__law_few ?a__law_word ?l__law_word ?e__law_word ?k__law_word ?a__law_rank ?l__law_rank ?e__law_rank ?k__law_rank ?a__law_words ?l__law_words ?e__law_words ?k__law_words ?a__law_plain ?l__law_plain ?e__law_plain ?k__law_plain ?a__law_none ?l__law_none ?e__law_none ?k__law_none ?a__law_times ?l__law_times ?e__law_times ?k__law_times ?a__law_names ?l__law_names ?e__law_names ?k__law_names ?a__law_small ?l__law_small ?e__law_small ?k__law_small ?a__law_listed ?l__law_listed ?e__law_listed ?k__law_listed ?a__law_recorded ?l__law_recorded ?e__law_recorded ?k__law_recorded ?a_numbers_count ?l_numbers_count ?e_numbers_count ?k_numbers_count ?a_texts_count ?l_texts_count ?e_texts_count ?k_texts_count ?a_product ?l_product ?e_product ?k_product ?a_how_many ?l_how_many ?e_how_many ?k_how_many ?a_lists_count ?l_lists_count ?e_lists_count ?k_lists_count ?a_field_count ?l_field_count ?e_field_count ?k_field_count ?a_records_count ?l_records_count ?e_records_count ?k_records_count ?a_law ?l_law ?e_law ?k_law ?g_NOTHING ?l_NOTHING ?l_NOTHING_0 ?l_NOTHING_1 ?l_NOTHING_1_1 ?l_NOTHING_2 ?g_ANY ?y_len ?y_isinstance ?y_all ?y_any ?y_sum ?y_min ?y_max ?y_abs ?y_sorted ?y_tuple ?y_list ?y_int ?y_str ?y_bool ?y_dict ?y_zip ?y_enumerate ?y_range ?y_reversed W.pure_law
    (case a__law_mixed => k_is)
    (case l__law_mixed => k_is)
    (case e__law_mixed => k_is)
    (case k__law_mixed => k_is)
    (case a__law_purse => k_is)
    (case l__law_purse => k_is)
    (case e__law_purse => k_is)
    (case k__law_purse => k_is)
    (case a__law_next => k_is)
    (case l__law_next => k_is)
    (case e__law_next => k_is)
    (case k__law_next => k_is)
    (case a__law_few => k_is)
    (case l__law_few => k_is)
    (case e__law_few => k_is)
    (case k__law_few => k_is)
    (case a__law_word => k_is)
    (case l__law_word => k_is)
    (case e__law_word => k_is)
    (case k__law_word => k_is)
    (case a__law_rank => k_is)
    (case l__law_rank => k_is)
    (case e__law_rank => k_is)
    (case k__law_rank => k_is)
    (case a__law_words => k_is)
    (case l__law_words => k_is)
    (case e__law_words => k_is)
    (case k__law_words => k_is)
    (case a__law_plain => k_is)
    (case l__law_plain => k_is)
    (case e__law_plain => k_is)
    (case k__law_plain => k_is)
    (case a__law_none => k_is)
    (case l__law_none => k_is)
    (case e__law_none => k_is)
    (case k__law_none => k_is)
    (case a__law_times => k_is)
    (case l__law_times => k_is)
    (case e__law_times => k_is)
    (case k__law_times => k_is)
    (case a__law_names => k_is)
    (case l__law_names => k_is)
    (case e__law_names => k_is)
    (case k__law_names => k_is)
    (case a__law_small => k_is)
    (case l__law_small => k_is)
    (case e__law_small => k_is)
    (case k__law_small => k_is)
    (case a__law_listed => k_is)
    (case l__law_listed => k_is)
    (case e__law_listed => k_is)
    (case k__law_listed => k_is)
    (case a__law_recorded => k_is)
    (case l__law_recorded => k_is)
    (case e__law_recorded => k_is)
    (case k__law_recorded => k_is)
    (case a_numbers_count => k_is)
    (case l_numbers_count => k_is)
    (case e_numbers_count => k_is)
    (case k_numbers_count => k_is)
    (case a_texts_count => k_is)
    (case l_texts_count => k_is)
    (case e_texts_count => k_is)
    (case k_texts_count => k_is)
    (case a_product => k_is)
    (case l_product => k_is)
    (case e_product => k_is)
    (case k_product => k_is)
    (case a_how_many => k_is)
    (case l_how_many => k_is)
    (case e_how_many => k_is)
    (case k_how_many => k_is)
    (case a_lists_count => k_is)
    (case l_lists_count => k_is)
    (case e_lists_count => k_is)
    (case k_lists_count => k_is)
    (case a_field_count => k_is)
    (case l_field_count => k_is)
    (case e_field_count => k_is)
    (case k_field_count => k_is)
    (case a_records_count => k_is)
    (case l_records_count => k_is)
    (case e_records_count => k_is)
    (case k_records_count => k_is)
    (case a_law => k_is)
    (case l_law => k_is)
    (case e_law => k_is)
    (case k_law => k_is)
    (case g_NOTHING => k_is)
    (case l_NOTHING => k_is)
    (case l_NOTHING_0 => k_is)
    (case l_NOTHING_1 => k_is)
    (case l_NOTHING_1_1 => k_is)
    (case l_NOTHING_2 => k_is)
    (case g_ANY => k_is)
    (case y_len => k_is)
    (case y_isinstance => k_is)
    (case y_all => k_is)
    (case y_any => k_is)
    (case y_sum => k_is)
    (case y_min => k_is)
    (case y_max => k_is)
    (case y_abs => k_is)
    (case y_sorted => k_is)
    (case y_tuple => k_is)
    (case y_list => k_is)
    (case y_int => k_is)
    (case y_str => k_is)
    (case y_bool => k_is)
    (case y_dict => k_is)
    (case y_zip => k_is)
    (case y_enumerate => k_is)
    (case y_range => k_is)
    (case y_reversed => k_is)
