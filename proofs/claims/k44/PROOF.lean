import PyProof.Rows.All
import Wide.All
import OpenK.AllK
import Wide.FinOn
import Lean
import PyProof.EqAt
import PyProof.EqKinds
import PyProof.TupleCall
import KE.KSortTup
import PyProof.CollectWalk
import PyProof.DictWalks
import PyProof.Rows.SortWalk
import KE.KItemsList
import PyProof.ReprText
import PyProof.Rows.StrIntSpec
import PySem.Challenge.RW_fourpoints_k44_dots_by_fours
-- CHANGE: your row's module here, as the last of these rows
set_option Elab.async false
set_option linter.all false
set_option maxRecDepth 100000
/-! THE HAND LAYER, for ints, bools, texts, own classes, LISTS and tuples (index, slices, in, append, pop ..), calls, loops. Paste it whole ahead of your own text; what your proof does not reach may be deleted. -/
namespace L2
open PySem PySem.Spec PyProof.Rows

/-- a key: an int or a str -/
abbrev Key := Sum Int Str
def keyIs : Key → Value → Bool
  | .inl k, v => Value.isInt k v
  | .inr x, v => Value.isStrOf x v
def keyH (w : World) : Key → Int
  | .inl k => hashInt k
  | .inr x => hashStr w x
theorem keyIs_shape : ∀ {k : Key} {v : Value}, keyIs k v = true → (∃ i t, k = Sum.inl i ∧ v = Value.int i t) ∨ (∃ x t, k = Sum.inr x ∧ v = Value.str x t)
  | .inl i, v, h => by
    obtain ⟨t, e⟩ := Value.isInt_shape (k := i) (v := v) h
    exact .inl ⟨i, t, rfl, e⟩
  | .inr x, v, h => by
    obtain ⟨t, e⟩ := Value.isStrOf_shape (x := x) (v := v) h
    exact .inr ⟨x, t, rfl, e⟩
theorem keyIs_int (i : Int) (t : Tok) : keyIs (.inl i) (.int i t) = true := by simp [keyIs, Value.isInt]
theorem keyIs_str (x : Str) (t : Tok) : keyIs (.inr x) (.str x t) = true := by simp [keyIs, Value.isStrOf]
theorem key_ll (a b : Int) : decide ((Sum.inl a : Key) = Sum.inl b) = (a == b) := by
  by_cases e : a = b
  · subst e; simp
  · have h : ¬ (Sum.inl a : Key) = Sum.inl b := fun q => e (Sum.inl.inj q)
    rw [decide_eq_false h]
    exact (beq_eq_false_iff_ne.mpr e).symm
theorem key_rr (a b : Str) : decide ((Sum.inr a : Key) = Sum.inr b) = decide (a = b) := by
  by_cases e : a = b
  · subst e; simp
  · have h : ¬ (Sum.inr a : Key) = Sum.inr b := fun q => e (Sum.inr.inj q)
    rw [decide_eq_false h, decide_eq_false e]
theorem key_lr (a : Int) (b : Str) : decide ((Sum.inl a : Key) = Sum.inr b) = false := decide_eq_false (fun q => nomatch q)
theorem key_rl (a : Str) (b : Int) : decide ((Sum.inr a : Key) = Sum.inl b) = false := decide_eq_false (fun q => nomatch q)

def mixKind (prog : Program) (w : World) : PySem.KeyKind prog w Key where
  is := keyIs
  hash := keyH w
  inj := fun v a b ha hb => by
    rcases keyIs_shape ha with ⟨i, t, rfl, rfl⟩ | ⟨x, t, rfl, rfl⟩
    · rcases keyIs_shape hb with ⟨j, u, rfl, e⟩ | ⟨y, u, rfl, e⟩
      · injection e with e1 _; rw [e1]
      · exact nomatch e
    · rcases keyIs_shape hb with ⟨j, u, rfl, e⟩ | ⟨y, u, rfl, e⟩
      · exact nomatch e
      · injection e with e1 _; rw [e1]
  byValue := fun k v h => by
    rcases keyIs_shape h with ⟨i, t, rfl, rfl⟩ | ⟨x, t, rfl, rfl⟩ <;> rfl
  pyHash := fun hv h => by
    rcases keyIs_shape hv with ⟨i, t, rfl, rfl⟩ | ⟨x, t, rfl, rfl⟩
    · exact wpAny_pyHash_int h
    · exact wpAny_pyHash_str h
  eqBool := fun hu hv h => by
    rcases keyIs_shape hu with ⟨i, t, rfl, rfl⟩ | ⟨x, t, rfl, rfl⟩
    · rcases keyIs_shape hv with ⟨j, u, rfl, rfl⟩ | ⟨y, u, rfl, rfl⟩
      · rw [key_ll] at h; exact wpAny_eqBool_int h
      · rw [key_lr] at h; exact SeqAt.EqAt.int_str i t y u _ _ _ _ h
    · rcases keyIs_shape hv with ⟨j, u, rfl, rfl⟩ | ⟨y, u, rfl, rfl⟩
      · rw [key_rl] at h; exact SeqAt.EqAt.str_int x t j u _ _ _ _ h
      · rw [key_rr] at h; exact wpAny_eqBool_str h
  «strs» := fun k x t v h => by
    rcases keyIs_shape h with ⟨i, u, rfl, e⟩ | ⟨y, u, rfl, e⟩
    · exact nomatch e
    · injection e with e1 _
      subst e1
      cases v <;> rfl

theorem mixKind_int (prog : Program) (w : World) (i : Int) (t : Tok) : (mixKind prog w).is (.inl i) (.int i t) = true := keyIs_int i t
theorem mixKind_str (prog : Program) (w : World) (x : Str) (t : Tok) : (mixKind prog w).is (.inr x) (.str x t) = true := keyIs_str x t
end L2

namespace L2
open PySem PySem.Spec PyProof.Rows

/-- a value, without the heap -/
inductive V where
  | non | bl (b : Bool) | int (i : Int) | str (x : Str) | byt (b : Array UInt8) | flt (b : UInt64) | ref (a : Addr) | ty (n : String)
  deriving DecidableEq

def RelV : V → Value → Prop
  | .non, u => u = Value.none
  | .bl b, u => u = Value.bool b
  | .int i, u => ∃ t, u = Value.int i t
  | .str x, u => ∃ t, u = Value.str x t
  | .byt b, u => ∃ t, u = Value.bytes b t
  | .flt b, u => ∃ t, u = Value.float b t
  | .ref a, u => u = Value.ref a
  | .ty n, u => u = Value.type n

abbrev Vals : List V → List Value → Prop := Paired RelV
theorem Vals.length {xs : List V} {us : List Value} (r : Vals xs us) : xs.length = us.length := Paired.length r
theorem Vals.get : ∀ {xs : List V} {us : List Value} {i : Nat} {x : V}, Vals xs us → xs[i]? = some x → ∃ u, us[i]? = some u ∧ RelV x u
  | _, _, _, _, .nil, e => by simp at e
  | _, _, 0, _, .cons r _, e => by simp at e; subst e; exact ⟨_, rfl, r⟩
  | _, _, i + 1, x, .cons _ t, e => by
    obtain ⟨u, h1, h2⟩ := Vals.get (i := i) (x := x) t (by simpa using e)
    exact ⟨u, by simpa using h1, h2⟩
theorem Vals.set {x : V} {u : Value} (r : RelV x u) : ∀ {xs : List V} {us : List Value} (i : Nat), Vals xs us → Vals (xs.set i x) (us.set i u)
  | _, _, _, .nil => .nil
  | _, _, 0, .cons _ t => .cons r t
  | _, _, i + 1, .cons q t => .cons q (Vals.set r i t)
theorem Vals.append : ∀ {xs ys : List V} {us ws : List Value}, Vals xs us → Vals ys ws → Vals (xs ++ ys) (us ++ ws)
  | _, _, _, _, .nil, s => s
  | _, _, _, _, .cons r t, s => .cons r (Vals.append t s)
theorem Vals.take : ∀ {xs : List V} {us : List Value} (n : Nat), Vals xs us → Vals (xs.take n) (us.take n)
  | _, _, 0, _ => .nil
  | _, _, _ + 1, .nil => .nil
  | _, _, n + 1, .cons r t => .cons r (Vals.take n t)
theorem Vals.drop : ∀ {xs : List V} {us : List Value} (n : Nat), Vals xs us → Vals (xs.drop n) (us.drop n)
  | _, _, 0, r => r
  | _, _, _ + 1, .nil => .nil
  | _, _, n + 1, .cons _ t => Vals.drop n t
def RelO : Option V → Option Value → Prop
  | some v, some u => RelV v u
  | none, none => True
  | _, _ => False
def KV {κ : Type} : List (κ × V) → List (κ × Value) → Prop := Paired fun (p : κ × V) (q : κ × Value) => p.1 = q.1 ∧ RelV p.2 q.2

/-- a key of a dict (00_mix): an int or a text -/
def kV : Key → V
  | .inl i => .int i
  | .inr x => .str x

/-- what stands at a tracked address -/
inductive HO where
  /-- a list -/
  | lst (xs : List V)
  /-- a tuple (never changes) -/
  | tup (xs : List V)
  /-- a dict whose keys are ints and texts; one whose keys are tuples of ints and texts (the empty one is both) -/
  | dK (kvs : List (Key × V)) | dT (kvs : List (List Key × V))
  /-- a set of ints: its members, its size -/
  | set (S : Int → Bool) (n : Nat)
  /-- an instance of the class at C, its dict at dx, its attributes -/
  | ins (C dx : Addr) (fs : List (Str × V))
  /-- the dict of the instance at x -/
  | own (x : Addr)
  /-- the dict of an exception -/
  | xd (fs : List (Str × V))
  /-- a bound method, f of x -/
  | met (f x : Addr)
  /-- a range object lo, lo + 1, .. below hi -/
  | rng (lo hi : Int)
  /-- a thing that is known to the object (the script; a dict while a loop walks it): read, never written while it is so -/
  | frz (o : Obj) (u : HO)
  /-- a code object's table -/
  | tbl (ps : Array Value)
  /-- any other thing, by what is true of its one object (a def of one's own: SetO a S n := HO.ext fun h => ..) -/
  | ext (φ : Heap → Prop)

abbrev Hp := Addr → Option HO
def upd (H : Hp) (a : Addr) (o : HO) : Hp := fun b => if b = a then some o else H b
theorem upd_same {H : Hp} {a : Addr} {o : HO} : upd H a o a = some o := by unfold upd; rw [if_pos rfl]
theorem upd_ne {H : Hp} {a b : Addr} {o : HO} (h : b ≠ a) : upd H a o b = H b := by unfold upd; rw [if_neg h]
/-- two objects of different content stand apart -/
theorem ne_of {H : Hp} {a b : Addr} {o u : HO} (h : H a = some o) (h' : H b = some u) (d : o ≠ u) : a ≠ b := by
  intro e; subst e; rw [h] at h'; exact d (Option.some.inj h')
theorem ne_of_none {H : Hp} {a b : Addr} {o : HO} (h : H a = some o) (h' : H b = none) : a ≠ b := by
  intro e; subst e; rw [h] at h'; cases h'

section
variable (P : Program) (w : World)
def ObjOk (H : Hp) (h : Heap) (a : Addr) : HO → Prop
  | .lst xs => xs.length ≤ sizeLine ∧ ∃ (its : List Value) (n : Nat), Vals xs its ∧ h.get? a = some { cls := .type "list", data := .seq its.toArray n }
  | .tup xs => (xs.length ≤ sizeLine ∧ ((∀ i : Int, xs.head? ≠ some (.int i)) → ∃ o, h.get? a = some o ∧ o.dict = none ∧ o.slots = #[])) ∧ ∃ its : List Value, Vals xs its ∧ IsTup h a its.toArray
  | .dK kvs => kvs.length ≤ sizeLine ∧ (a == sysModules) = false ∧ ∃ vs, KV kvs vs ∧ h.DictOf (mixKind P w) a vs
  | .dT kvs => kvs.length ≤ sizeLine ∧ (a == sysModules) = false ∧ ∃ xs : List (List Key × Addr × Value),
      Paired (fun (p : List Key × V) (q : List Key × Addr × Value) => p.1 = q.1 ∧ H q.2.1 = some (.tup (p.1.map kV)) ∧ RelV p.2 q.2.2) kvs xs ∧
      ∃ o es ep, h.get? a = some o ∧ o.ExactDict ∧ o.data = .dict es ep ∧ es.toList = xs.map (entryOfKey (tupleKind (mixKind P w))) ∧ (xs.map (·.1)).Nodup
  | .set S n => h.SetOf (intKind P w) a S n
  | .ins C dx fs => H dx = some (.own a) ∧ fs.length ≤ 1000 ∧ dx ≠ a ∧ h.get? a = some (PySem.W.instObj C dx) ∧
      ∃ mA, h.Ns1 dx mA ∧ (∀ f, RelO (fs.lookup f) (mA f)) ∧ PySem.Within mA (fs.map (·.1))
  | .own _ => ∃ o, h.get? a = some o
  | .xd fs => ∃ mA, h.Ns1 a mA ∧ ∀ f, RelO (fs.lookup f) (mA f)
  | .rng lo hi => ∃ t u v, h.get? a = some { cls := .type "range", data := .fields #[.int lo t, .int hi u, .int 1 v] }
  | .frz o u => h.get? a = some o ∧ ObjOk H h a u
  | .tbl ps => h.get? a = some { cls := .none, data := .fields ps }
  | .met f x => h.get? a = some (PySem.W.methodObj (.ref f) (.ref x))
  | .ext φ => φ h ∧ (∃ o, h.get? a = some o) ∧ ∀ h1 h2 : Heap, φ h1 → (∀ o, h1.get? a = some o → h2.get? a = some o) → φ h2
/-- the abstract heap is held -/
def HOk (H : Hp) (h : Heap) : Prop := ∀ a o, H a = some o → ObjOk P w H h a o
end

section
variable {P : Program} {w : World} {H H' : Hp} {h h' : Heap} {a : Addr} {o : HO}
theorem ObjOk.lt (x : ObjOk P w H h a o) : a < h.objs.size := by
  cases o with
  | lst xs => obtain ⟨_, _, _, _, e⟩ := x; exact Heap.lt_size e
  | tup xs => obtain ⟨_, _, _, p⟩ := x; exact p.lt
  | dK kvs => obtain ⟨_, _, _, _, o, _, _, e, _⟩ := x; exact Heap.lt_size e
  | dT kvs => obtain ⟨_, _, _, _, o, _, _, e, _⟩ := x; exact Heap.lt_size e
  | set S n => obtain ⟨o, _, _, _, e, _⟩ := x; exact Heap.lt_size e
  | ins C dx fs => obtain ⟨_, _, _, e, _⟩ := x; exact Heap.lt_size e
  | own y => obtain ⟨_, e⟩ := x; exact Heap.lt_size e
  | xd fs => obtain ⟨_, ⟨_, _, _, e, _⟩, _⟩ := x; exact Heap.lt_size e
  | rng lo hi => obtain ⟨_, _, _, e⟩ := x; exact Heap.lt_size e
  | frz ob u => obtain ⟨e, _⟩ := x; exact Heap.lt_size e
  | tbl ps => exact Heap.lt_size (show h.get? a = some _ from x)
  | met f y => exact Heap.lt_size (show h.get? a = some _ from x)
  | ext φ => obtain ⟨_, ⟨_, e⟩, _⟩ := x; exact Heap.lt_size e
theorem Paired.mapP {α β : Type} {F G : α → β → Prop} : ∀ {l₁ : List α} {l₂ : List β}, Paired F l₁ l₂ → (∀ a b, F a b → G a b) → Paired G l₁ l₂
  | _, _, .nil, _ => .nil
  | _, _, .cons r t, f => .cons (f _ _ r) (Paired.mapP t f)
/-- what an object's description leans on: its own object, its own dict, the tuples -/
theorem ObjOk.stay (x : ObjOk P w H h a o) (k : ∀ b u, (b = a ∨ H b = some (.own a)) → h.get? b = some u → h'.get? b = some u)
    (ho : ∀ b, H b = some (.own a) → H' b = some (.own a)) (ht : ∀ b xs, H b = some (.tup xs) → H' b = some (.tup xs)) : ObjOk P w H' h' a o := by
  induction o with
  | lst xs => obtain ⟨z, its, n, r, e⟩ := x; exact ⟨z, its, n, r, k _ _ (.inl rfl) e⟩
  | tup xs =>
    obtain ⟨⟨z, pd⟩, its, r, ob, e, c⟩ := x
    exact ⟨⟨z, fun q => let ⟨od, ed, cd⟩ := pd q; ⟨od, k _ _ (.inl rfl) ed, cd⟩⟩, its, r, ob, k _ _ (.inl rfl) e, c⟩
  | dK kvs => obtain ⟨z, y, vs, r, ob, es, ep, e, c⟩ := x; exact ⟨z, y, vs, r, ob, es, ep, k _ _ (.inl rfl) e, c⟩
  | dT kvs =>
    obtain ⟨z, y, xs, r, ob, es, ep, e, c⟩ := x
    exact ⟨z, y, xs, Paired.mapP r fun p q z => ⟨z.1, ht _ _ z.2.1, z.2.2⟩, ob, es, ep, k _ _ (.inl rfl) e, c⟩
  | set S n => obtain ⟨ob, es, ep, t, e, c⟩ := x; exact ⟨ob, es, ep, t, k _ _ (.inl rfl) e, c⟩
  | ins C dx fs =>
    obtain ⟨d, z, ne, e, mA, ⟨od, es, ep, e2, c⟩, r⟩ := x
    exact ⟨ho _ d, z, ne, k _ _ (.inl rfl) e, mA, ⟨od, es, ep, k _ _ (.inr d) e2, c⟩, r⟩
  | own y => obtain ⟨ob, e⟩ := x; exact ⟨ob, k _ _ (.inl rfl) e⟩
  | xd fs => obtain ⟨mA, ⟨od, es, ep, e, c⟩, r⟩ := x; exact ⟨mA, ⟨od, es, ep, k _ _ (.inl rfl) e, c⟩, r⟩
  | rng lo hi => obtain ⟨t, u, v, e⟩ := x; exact ⟨t, u, v, k _ _ (.inl rfl) e⟩
  | frz ob u ih => obtain ⟨e, q⟩ := x; exact ⟨k _ _ (.inl rfl) e, ih q⟩
  | tbl ps =>
    have e : h.get? a = some { cls := .none, data := .fields ps } := x
    show h'.get? a = some { cls := .none, data := .fields ps }
    exact k a _ (.inl rfl) e
  | met f y =>
    have e : h.get? a = some (PySem.W.methodObj (.ref f) (.ref y)) := x
    show h'.get? a = some (PySem.W.methodObj (.ref f) (.ref y))
    exact k a _ (.inl rfl) e
  | ext φ => obtain ⟨p, ⟨o, e⟩, st⟩ := x; exact ⟨st _ _ p fun o q => k _ _ (.inl rfl) q, ⟨o, k _ _ (.inl rfl) e⟩, st⟩
theorem HOk.lt (x : HOk P w H h) (e : H a = some o) : a < h.objs.size := (x a o e).lt
theorem HOk.fresh (x : HOk P w H h) (e : h.objs.size ≤ a) : H a = none := by
  cases q : H a with
  | none => rfl
  | some u => exact absurd (Nat.lt_of_lt_of_le (x.lt q) e) (Nat.lt_irrefl _)
/-- every object of the heap is kept -/
theorem HOk.kept (x : HOk P w H h) (k : ∀ b u, h.get? b = some u → h'.get? b = some u) : HOk P w H h' := fun a o e =>
  (x a o e).stay (fun b u _ q => k b u q) (fun _ q => q) fun _ _ q => q
/-- a new object is laid and tracked -/
theorem HOk.laid (x : HOk P w H h) (k : ∀ b u, h.get? b = some u → h'.get? b = some u) (hp : h.objs.size ≤ a) (new : ObjOk P w (upd H a o) h' a o) : HOk P w (upd H a o) h' := fun b u e => by
  have hn := x.fresh hp
  by_cases hb : b = a
  · subst hb; rw [upd_same] at e; cases e; exact new
  · rw [upd_ne hb] at e
    exact (x b u e).stay (fun c v _ q => k c v q) (fun c q => by rw [upd_ne (ne_of_none q hn)]; exact q) fun c xs q => by rw [upd_ne (ne_of_none q hn)]; exact q
end

/-- what may be read as u: it is u, or a known u -/
def Rd (H : Hp) (a : Addr) (u : HO) : Prop := H a = some u ∨ ∃ o, H a = some (.frz o u)
theorem Rd.of {H : Hp} {a : Addr} {u : HO} (h : H a = some u) : Rd H a u := .inl h
theorem Rd.ok {P : Program} {w : World} {H : Hp} {h : Heap} {a : Addr} {u : HO} (r : Rd H a u) (x : HOk P w H h) : ObjOk P w H h a u := by
  rcases r with r | ⟨o, r⟩
  · exact x a u r
  · obtain ⟨_, q⟩ := x a _ r
    exact q
/-- what may be written -/
def Mut : Option HO → Prop
  | some (.lst _) => True
  | some (.dK _) => True
  | some (.dT _) => True
  | some (.set _ _) => True
  | some (.ins _ _ _) => True
  | some (.ext _) => True
  | _ => False
section
variable {P : Program} {w : World} {H : Hp} {h h' : Heap} {x e : Addr} {o' : HO}
/-- the object at e is changed: x itself, or the dict of the instance x -/
theorem HOk.write (ok : HOk P w H h) (mu : Mut (H x)) (he : e = x ∨ H e = some (.own x)) (k : ∀ b u, b ≠ e → h.get? b = some u → h'.get? b = some u) (heo : ∃ u, h'.get? e = some u)
    (new : ObjOk P w (upd H x o') h' x o') : HOk P w (upd H x o') h' := fun b u q => by
  have nown : ∀ c y, H c = some (.own y) → c ≠ x := fun c y r z => by subst z; rw [r] at mu; exact mu
  have ntup : ∀ c xs, H c = some (.tup xs) → c ≠ x := fun c xs r z => by subst z; rw [r] at mu; exact mu
  by_cases hb : b = x
  · subst hb; rw [upd_same] at q; cases q; exact new
  · rw [upd_ne hb] at q
    by_cases hbe : b = e
    · have q' : H b = some (.own x) := by
        rcases he with z | z
        · exact absurd (hbe.trans z) hb
        · rw [hbe]; exact z
      rw [q] at q'; cases q'
      obtain ⟨v, hv⟩ := heo
      exact ⟨v, by rw [hbe]; exact hv⟩
    · refine (ok b u q).stay (fun c v hc r => k c v ?_ r) (fun c r => by rw [upd_ne (nown c b r)]; exact r) fun c xs r => by rw [upd_ne (ntup c xs r)]; exact r
      rcases hc with rfl | hc
      · exact hbe
      · rintro rfl
        rcases he with z | z
        · exact nown c b hc z
        · rw [hc] at z; cases z; exact hb rfl
end

/-! ### kept unless tracked; of the frames at fs (the callers') the slots may change (an exception that passes writes there); of the records at ex (iterators) nothing is said -/
structure Un (fs ex : List Addr) (H H' : Hp) (h h' : Heap) : Prop where
  keep : ∀ b o, h.get? b = some o → H b = none → b ∉ fs → b ∉ ex → h'.get? b = some o
  slot : ∀ b o, h.get? b = some o → H b = none → b ∈ fs → b ∉ ex → ∃ sl, h'.get? b = some { o with slots := sl }
  free : ∀ b o, h.get? b = some o → H b = none → b ∉ ex → H' b = none
  there : ∀ b o, h.get? b = some o → b ∉ ex → ∃ o', h'.get? b = some o'
  tups : ∀ b xs, H b = some (.tup xs) → H' b = some (.tup xs)
  frzs : ∀ b o u, H b = some (.frz o u) → H' b = some (.frz o u)
  tbls : ∀ b ps, H b = some (.tbl ps) → ∃ more, H' b = some (.tbl (ps ++ more))
section
variable {fs fs' ex ex' : List Addr} {H H1 H2 : Hp} {h h1 h2 h' : Heap} {a x e : Addr} {o : HO}
theorem Un.any (u : Un fs ex H H1 h h1) {b : Addr} {ob : Obj} (q : h.get? b = some ob) (n : H b = none) (hx : b ∉ ex) : ∃ sl, h1.get? b = some { ob with slots := sl } := by
  by_cases hb : b ∈ fs
  · exact u.slot b ob q n hb hx
  · exact ⟨ob.slots, u.keep b ob q n hb hx⟩
theorem Un.trans (a : Un fs ex H H1 h h1) (b : Un fs ex H1 H2 h1 h2) : Un fs ex H H2 h h2 where
  keep := fun c ob q n hc hx => b.keep c ob (a.keep c ob q n hc hx) (a.free c ob q n hx) hc hx
  slot := fun c ob q n hc hx => by
    obtain ⟨sl, e1⟩ := a.slot c ob q n hc hx
    obtain ⟨sl', e2⟩ := b.slot c _ e1 (a.free c ob q n hx) hc hx
    exact ⟨sl', e2⟩
  free := fun c ob q n hx => by
    obtain ⟨o', e1⟩ := a.there c ob q hx
    exact b.free c o' e1 (a.free c ob q n hx) hx
  there := fun c ob q hx => by
    obtain ⟨o', e1⟩ := a.there c ob q hx
    exact b.there c o' e1 hx
  tups := fun c xs q => b.tups c xs (a.tups c xs q)
  frzs := fun c ob xs q => b.frzs c ob xs (a.frzs c ob xs q)
  tbls := fun c ps q => by
    obtain ⟨m1, e1⟩ := a.tbls c ps q
    obtain ⟨m2, e2⟩ := b.tbls c _ e1
    exact ⟨m1 ++ m2, by rw [e2, Array.append_assoc]⟩
theorem Un.kept (k : ∀ b u, h.get? b = some u → h'.get? b = some u) : Un fs ex H H h h' :=
  ⟨fun b ob q _ _ _ => k b ob q, fun b ob q _ _ _ => ⟨ob.slots, k b ob q⟩, fun _ _ _ n _ => n, fun b ob q _ => ⟨ob, k b ob q⟩, fun _ _ q => q, fun _ _ _ q => q, fun _ ps q => ⟨#[], by rw [q]; simp⟩⟩
theorem Un.refl : Un fs ex H H h h := Un.kept fun _ _ q => q
theorem Un.laid (k : ∀ b u, h.get? b = some u → h'.get? b = some u) (hp : h.objs.size ≤ a) (hn : H a = none) : Un fs ex H (upd H a o) h h' where
  keep := fun b u q _ _ _ => k b u q
  slot := fun b u q _ _ _ => ⟨u.slots, k b u q⟩
  free := fun b u q n _ => by rw [upd_ne (Nat.ne_of_lt (Nat.lt_of_lt_of_le (Heap.lt_size q) hp))]; exact n
  there := fun b u q _ => ⟨u, k b u q⟩
  tups := fun b xs q => by rw [upd_ne (ne_of_none q hn)]; exact q
  frzs := fun b u xs q => by rw [upd_ne (ne_of_none q hn)]; exact q
  tbls := fun b ps q => ⟨#[], by rw [upd_ne (ne_of_none q hn), q]; simp⟩
theorem Un.write (mu : Mut (H x)) (he : e = x ∨ H e = some (.own x)) (k : ∀ b u, b ≠ e → h.get? b = some u → h'.get? b = some u) (heo : ∃ u, h'.get? e = some u) : Un fs ex H (upd H x o) h h' := by
  have hx : ∀ b, H b = none → b ≠ x := fun b n z => by subst z; rw [n] at mu; exact mu
  have hb : ∀ b, H b = none → b ≠ e := fun b n z => by
    subst z
    rcases he with r | r
    · exact hx b n r
    · rw [n] at r; cases r
  have hm : ∀ b u, H b = some u → ¬ Mut (some u) → b ≠ x := fun b u q nm z => by subst z; rw [q] at mu; exact nm mu
  refine ⟨fun b u q n _ _ => k b u (hb b n) q, fun b u q n _ _ => ⟨u.slots, k b u (hb b n) q⟩, fun b u q n _ => by rw [upd_ne (hx b n)]; exact n, fun b u q _ => ?_,
    fun b xs q => by rw [upd_ne (hm b _ q fun z => z)]; exact q, fun b u xs q => by rw [upd_ne (hm b _ q fun z => z)]; exact q, fun b ps q => ⟨#[], by rw [upd_ne (hm b _ q fun z => z), q]; simp⟩⟩
  by_cases hbe : b = e
  · subst hbe; exact heo
  · exact ⟨u, k b u hbe q⟩
theorem Un.mono (u : Un fs ex H H1 h h1) (hs : ∀ b ∈ fs, b ∈ fs') (hx : ∀ b ∈ ex, b ∈ ex') : Un fs' ex' H H1 h h1 :=
  ⟨fun b ob q n hb he => u.keep b ob q n (fun z => hb (hs b z)) fun z => he (hx b z), fun _ _ q n _ he => u.any q n fun z => he (hx _ z), fun b ob q n he => u.free b ob q n fun z => he (hx b z), fun b ob q he => u.there b ob q fun z => he (hx b z), u.tups, u.frzs, u.tbls⟩
end

/-! ### the heap without what is tracked -/
def trk (h : Heap) (H : Hp) : List Addr := (List.range h.objs.size).filter fun a => (H a).isSome
def hidT (h : Heap) (H : Hp) : Heap := PySem.W.hideAll h (trk h H)
theorem hidT_size (h : Heap) (H : Hp) : (hidT h H).objs.size = h.objs.size := PySem.W.hideAll_size _ _
theorem hidT_get {h : Heap} {H : Hp} {b : Addr} {o : Obj} (e : h.get? b = some o) (n : H b = none) : (hidT h H).get? b = some o :=
  PySem.W.hideAll_get _ e fun hm => by
    have q : (H b).isSome = true := (List.mem_filter.mp hm).2
    rw [n] at q; simp at q
theorem of_hidT {h : Heap} {H : Hp} {b : Addr} {o : Obj} (e : (hidT h H).get? b = some o) : h.get? b = some o ∧ H b = none := by
  have e' : h.get? b = some o := PySem.W.of_hideAll (trk h H) e
  refine ⟨e', ?_⟩
  cases q : H b with
  | none => rfl
  | some x =>
    have hm : b ∈ trk h H := List.mem_filter.mpr ⟨List.mem_range.mpr (Heap.lt_size e'), by simp [q]⟩
    have z : (hidT h H).get? b = none := PySem.W.hideAll_none (trk h H) hm
    rw [z] at e; cases e

/-! ### OpenK's ledger, filled with every new object but one -/
def allNews (g h : Heap) (L : Addr) : List (Addr × Obj) := (List.range h.objs.size).filterMap fun a => if a = L ∨ (g.get? a).isSome = true then none else (h.get? a).map fun o => (a, o)
def rest (g h : Heap) (L d : Addr) : List (Addr × Obj) := (allNews g h L).filter fun p => decide (p.1 ≠ d)
end L2

namespace L2
open PySem PySem.Spec PyProof.Rows

/-- the module's facts, over the base: the heap at the law's entry without what is tracked there -/
structure Mod (K : PySem.W.Frag) (mg : Str → Option Value) (base : Heap) : Prop where
  kin : K.In base
  glob : base.Ns mainGlobals mg
  blt : ∃ mb, base.Ns builtinsNs mb ∧ ∀ x : Str, x ≠ "__name__" → mb x = bootBuiltins x
  nolimit : base.NoLimit

/-- the context: a def's body (or a comprehension's block) running. base: fixed through the whole law; s₀, H₀: the entry; outer: the frames whose slots others may change (a def's callers); stack: all frames that run;
   ex: iterators that were made ahead of the entry and are walked here (a comprehension's); fn: the names whose cells were made at the entry (a def: all; a comprehension's block: its own); calm: not within an except suite; pn: pins that every state bears; xe: what is wanted of an exception that leaves the code -/
structure Cx where
  prog : Program
  w : World
  K : PySem.W.Frag
  mg : Str → Option Value
  base : Heap
  A : Around
  N : List Str
  s₀ : Shared
  H₀ : Hp
  env : Env
  outer : List Env
  stack : List Env
  ex : List Addr
  fn : Str → Bool
  calm : Bool
  pn : List (Addr × Obj)
  xe : Value → Shared → Prop
/-- the callers' frames -/
def frs (l : List Env) : List Addr := l.filterMap (·.frame)
abbrev Cx.fs (X : Cx) : List Addr := frs X.outer

def Vis (sc : Scope) (x : Str) : Prop := sc.names.lookup x = some .local ∨ sc.names.lookup x = some .cell ∨ sc.names.lookup x = some .free
def Loc (sc : Scope) (x : Str) : Prop := sc.names.lookup x = some .local ∨ sc.names.lookup x = some .cell
def Look (env : Env) (h : Heap) (m : Str → Option Value) (x : Str) (u : Value) : Prop :=
  (env.kindOf x = some .local ∧ m x = some u) ∨ ((env.kindOf x = some .cell ∨ env.kindOf x = some .free) ∧ ∃ c, env.cells.lookup x = some c ∧ h.IsCell c (some u))

structure Cx.Ok (X : Cx) : Prop where
  mod : Mod X.K X.mg X.base
  kind : X.env.scope.kind = .function
  glob : X.env.globals = mainGlobals
  blt : X.env.builtins = builtinsNs
  above : X.s₀.heap.objs.size ≤ X.env.locals
  inj : ∀ x y c, X.env.cells.lookup x = some c → X.env.cells.lookup y = some c → x = y
  has : ∀ x, (X.env.kindOf x = some .cell ∨ X.env.kindOf x = some .free) → ∃ c, X.env.cells.lookup x = some c
  cab : ∀ x c, X.fn x = true → X.env.cells.lookup x = some c → X.s₀.heap.objs.size ≤ c
  hd : X.calm = true → X.A.handled = none
  frames : X.A.frames = some X.stack
  stk : X.stack = X.outer ∨ (X.stack = X.env :: X.outer ∧ X.env.frame = some X.env.locals)
  exf : ∀ b ∈ X.ex, b ≠ X.env.locals ∧ ∀ x c, X.env.cells.lookup x = some c → c ≠ b
  bs : ∀ b o, X.base.get? b = some o → X.s₀.heap.get? b = some o ∧ X.H₀ b = none
  bsz : X.base.objs.size ≤ X.s₀.heap.objs.size
  noex : ∀ b o, X.base.get? b = some o → b ∉ X.ex
  exfs : ∀ b ∈ X.ex, b ∉ X.fs
  funs : X.s₀.heap.FunFrames X.base X.outer
  frf : ∀ b ∈ X.fs, X.H₀ b = none

structure Inv (X : Cx) (pins : List (Addr × Obj)) (σ : List (Option V)) (H : Hp) (s : Shared) : Prop where
  ok : X.Ok
  os : s.os = X.s₀.os
  bare : AllBare s.gens
  base : Un X.fs X.ex X.H₀ H X.s₀.heap s.heap
  loc : ∃ m, s.heap.Ns X.env.locals m ∧ ∀ (i : Nat) (x : Str) (v : V), X.N[i]? = some x → σ[i]? = some (some v) → Vis X.env.scope x → ∃ u, RelV v u ∧ Look X.env s.heap m x u
  cell : ∀ x c, X.env.cells.lookup x = some c → ∃ v, s.heap.IsCell c v
  free : H X.env.locals = none
  freeC : ∀ x c, X.env.cells.lookup x = some c → H c = none
  pin : ∀ p ∈ X.pn ++ pins, s.heap.get? p.1 = some p.2 ∧ H p.1 = none ∧ p.1 ≠ X.env.locals ∧ p.1 ∉ X.fs ∧ ∀ v, p.2.data ≠ .cell v
  hok : HOk X.prog X.w H s.heap
  len : σ.length = X.N.length

section
variable {X : Cx} {pins : List (Addr × Obj)} {σ : List (Option V)} {H H' : Hp} {s : Shared} {h' : Heap}

theorem Cx.Ok.nofr (ok : X.Ok) {b : Addr} {o : Obj} (e : X.base.get? b = some o) : b ∉ X.fs := fun hb => by
  have := (ok.funs.mem hb).1
  rw [e] at this; cases this
theorem Inv.bs (I : Inv X pins σ H s) : ∀ b o, X.base.get? b = some o → s.heap.get? b = some o ∧ H b = none := fun b o e =>
  ⟨I.base.keep b o (I.ok.bs b o e).1 (I.ok.bs b o e).2 (I.ok.nofr e) (I.ok.noex b o e), I.base.free b o (I.ok.bs b o e).1 (I.ok.bs b o e).2 (I.ok.noex b o e)⟩
theorem Inv.bk (I : Inv X pins σ H s) : ∀ b o, X.base.get? b = some o → s.heap.get? b = some o := fun b o e => (I.bs b o e).1
theorem Inv.mod (I : Inv X pins σ H s) : Mod X.K X.mg X.base := I.ok.mod
theorem Inv.kIn (I : Inv X pins σ H s) : X.K.In s.heap := I.ok.mod.kin.keeps I.bk
theorem Inv.nolimit (I : Inv X pins σ H s) : s.heap.NoLimit := I.ok.mod.nolimit.keeps I.bk
/-- the frame over the base: for OpenK's rules (K.In X.base is I.mod.kin) -/
theorem Inv.fr (I : Inv X pins σ H s) : ∃ m, Fr X.base X.env.locals s.heap m :=
  let ⟨m, hn, _⟩ := I.loc
  ⟨m, hn, I.bk, Nat.le_trans I.ok.bsz I.ok.above⟩
theorem Inv.lt (I : Inv X pins σ H s) : X.env.locals < s.heap.objs.size := let ⟨_, hn, _⟩ := I.loc; hn.lt
theorem Inv.sz (I : Inv X pins σ H s) : X.s₀.heap.objs.size ≤ s.heap.objs.size := Nat.le_trans I.ok.above (Nat.le_of_lt I.lt)
theorem Inv.nofs (I : Inv X pins σ H s) {a : Addr} (h : s.heap.objs.size ≤ a) : a ∉ X.fs := fun hb => by
  obtain ⟨_, o, ho, _⟩ := I.ok.funs.mem hb
  exact absurd (Nat.lt_of_lt_of_le (Heap.lt_size ho) (Nat.le_trans I.sz h)) (Nat.lt_irrefl _)
theorem Inv.cne (I : Inv X pins σ H s) : ∀ x c, X.env.cells.lookup x = some c → c ≠ X.env.locals := fun x c e z => by
  obtain ⟨v, o, ho, hd⟩ := I.cell x c e
  obtain ⟨m, ⟨o', es, ep, ho', hd', _⟩, _⟩ := I.loc
  rw [z, ho'] at ho; cases ho; rw [hd'] at hd; cases hd
theorem Inv.funs (I : Inv X pins σ H s) : s.heap.FunFrames X.base X.outer := by
  have all : ∀ (l : List Env), (∀ b ∈ frs l, b ∈ X.fs) → X.s₀.heap.FunFrames X.base l → s.heap.FunFrames X.base l := by
    intro l
    induction l with
    | nil => intro _ _; trivial
    | cons env r ih =>
      intro hs hl
      obtain ⟨hk, ⟨L, o, hf, hn, ho, hd⟩, hr⟩ := hl
      have hL : L ∈ X.fs := hs L (by unfold frs; rw [List.filterMap_cons, hf]; exact List.mem_cons_self)
      obtain ⟨sl, e⟩ := I.base.slot L o ho (I.ok.frf L hL) hL fun z => I.ok.exfs L z hL
      exact ⟨hk, ⟨L, _, hf, hn, e, hd⟩, ih (fun b hb => hs b (by unfold frs; rw [List.filterMap_cons, hf]; exact List.mem_cons_of_mem _ hb)) hr⟩
  exact all X.outer (fun _ hb => hb) I.ok.funs

/-- the frames that run, for a call -/
theorem Inv.stack (I : Inv X pins σ H s) : s.heap.FunFrames X.base X.stack := by
  rcases I.ok.stk with e | ⟨e, hf⟩
  · rw [e]; exact I.funs
  · rw [e]
    obtain ⟨m, hn, _⟩ := I.loc
    refine .cons (by rw [I.ok.kind]; decide) hf hn ?_ I.funs
    exact Heap.get?_none_of_le (Nat.le_trans I.ok.bsz I.ok.above)
theorem Inv.stkSub (I : Inv X pins σ H s) : ∀ b ∈ frs X.stack, b ∈ X.env.locals :: X.fs := fun b hb => by
  rcases I.ok.stk with e | ⟨e, hf⟩
  · rw [e] at hb; exact List.mem_cons_of_mem _ hb
  · rw [e] at hb
    unfold frs at hb
    rw [List.filterMap_cons, hf] at hb
    exact hb
theorem Inv.stkFree (I : Inv X pins σ H s) : ∀ b ∈ frs X.stack, H b = none := fun b hb => by
  rcases List.mem_cons.mp (I.stkSub b hb) with e | hb
  · rw [e]; exact I.free
  · obtain ⟨_, o, ho, _⟩ := I.ok.funs.mem hb
    exact I.base.free b o ho (I.ok.frf b hb) fun z => I.ok.exfs b z hb

/-- THE STEP: the untracked objects but the frame and the records at ch are kept (the callers' frames up to slots), the frame's map is kept, the new abstract heap is held -/
theorem Inv.step {g' : Array GenState} {t' : Nat} {d' : Drawn} {ch : List Addr} (I : Inv X pins σ H s)
    (hch : ∀ b ∈ ch, (b ∈ X.ex ∨ X.s₀.heap.objs.size ≤ b) ∧ b ≠ X.env.locals ∧ (∀ x c, X.env.cells.lookup x = some c → c ≠ b) ∧ ∀ p ∈ X.pn ++ pins, p.1 ≠ b)
    (keep : ∀ b o, b ≠ X.env.locals → b ∉ X.fs → b ∉ ch → s.heap.get? b = some o → H b = none → h'.get? b = some o)
    (slot : ∀ b o, b ≠ X.env.locals → b ∈ X.fs → b ∉ ch → s.heap.get? b = some o → H b = none → ∃ sl, h'.get? b = some { o with slots := sl }) (free : ∀ b o, b ∉ ch → s.heap.get? b = some o → H b = none → H' b = none)
    (there : ∀ b o, b ∉ ch → s.heap.get? b = some o → ∃ o', h'.get? b = some o')
    (tups : ∀ b xs, H b = some (.tup xs) → H' b = some (.tup xs)) (frzs : ∀ b o u, H b = some (.frz o u) → H' b = some (.frz o u)) (tbls : ∀ b ps, H b = some (.tbl ps) → ∃ more, H' b = some (.tbl (ps ++ more)))
    (ns : ∀ m, s.heap.Ns X.env.locals m → h'.Ns X.env.locals m) (hok : HOk X.prog X.w H' h') (hg : AllBare g') :
    Inv X pins σ H' { s with heap := h', gens := g', drawn := d', toks := t' } := by
  have neL : ∀ b o, X.s₀.heap.get? b = some o → b ≠ X.env.locals := fun b o e => Nat.ne_of_lt (Nat.lt_of_lt_of_le (Heap.lt_size e) I.ok.above)
  have neC : ∀ b o, X.s₀.heap.get? b = some o → b ∉ X.ex → b ∉ ch := fun b o e hx hb => by
    rcases (hch b hb).1 with z | z
    · exact hx z
    · exact absurd (Nat.lt_of_lt_of_le (Heap.lt_size e) z) (Nat.lt_irrefl _)
  have cellK : ∀ x c, X.env.cells.lookup x = some c → ∀ v, s.heap.IsCell c v → h'.IsCell c v := fun x c e v ⟨o, ho, hd⟩ => by
    have nch : c ∉ ch := fun z => (hch c z).2.2.1 x c e rfl
    by_cases hc : c ∈ X.fs
    · obtain ⟨sl, q⟩ := slot c o (I.cne x c e) hc nch ho (I.freeC x c e)
      exact ⟨_, q, hd⟩
    · exact ⟨o, keep c o (I.cne x c e) hc nch ho (I.freeC x c e), hd⟩
  refine ⟨I.ok, I.os, hg, ⟨fun b o e n hb hx => ?_, fun b o e n hb hx => ?_, fun b o e n hx => ?_, fun b o e hx => ?_, fun b xs e => tups b xs (I.base.tups b xs e), fun b o xs e => frzs b o xs (I.base.frzs b o xs e), fun b ps e => ?_⟩, ?_, fun x c e => ?_, ?_, fun x c e => ?_, fun p hp => ?_, hok, I.len⟩
  · exact keep b o (neL b o e) hb (neC b o e hx) (I.base.keep b o e n hb hx) (I.base.free b o e n hx)
  · obtain ⟨sl, e1⟩ := I.base.slot b o e n hb hx
    obtain ⟨sl', e2⟩ := slot b _ (neL b o e) hb (neC b o e hx) e1 (I.base.free b o e n hx)
    exact ⟨sl', e2⟩
  · obtain ⟨o', e1⟩ := I.base.there b o e hx
    exact free b o' (neC b o e hx) e1 (I.base.free b o e n hx)
  · obtain ⟨o', e1⟩ := I.base.there b o e hx
    exact there b o' (neC b o e hx) e1
  · obtain ⟨m1, e1⟩ := I.base.tbls b ps e
    obtain ⟨m2, e2⟩ := tbls b _ e1
    exact ⟨m1 ++ m2, by rw [e2, Array.append_assoc]⟩
  · obtain ⟨m, hn, hl⟩ := I.loc
    refine ⟨m, ns m hn, fun i x v e1 e2 e3 => ?_⟩
    obtain ⟨u, r, l⟩ := hl i x v e1 e2 e3
    refine ⟨u, r, ?_⟩
    rcases l with l | ⟨k, c, e, z⟩
    · exact .inl l
    · exact .inr ⟨k, c, e, cellK x c e _ z⟩
  · obtain ⟨v, z⟩ := I.cell x c e
    exact ⟨v, cellK x c e v z⟩
  · obtain ⟨m, ⟨o, _, _, ho, _⟩, _⟩ := I.loc
    exact free _ o (fun z => (hch _ z).2.1 rfl) ho I.free
  · obtain ⟨v, o, ho, hd⟩ := I.cell x c e
    exact free c o (fun z => (hch c z).2.2.1 x c e rfl) ho (I.freeC x c e)
  · obtain ⟨e, n, ne, nf, d⟩ := I.pin p hp
    have nch : p.1 ∉ ch := fun z => (hch p.1 z).2.2.2 p hp rfl
    exact ⟨keep p.1 p.2 ne nf nch e n, free p.1 p.2 nch e n, ne, nf, d⟩
/-- .. where the frame's own object is kept too -/
theorem Inv.un {t' : Nat} (I : Inv X pins σ H s) (u : Un X.fs [] H H' s.heap h') (hok : HOk X.prog X.w H' h') : Inv X pins σ H' { s with heap := h', toks := t' } := by
  obtain ⟨m, ⟨o, es, ep, ho, r⟩, _⟩ := id I.loc
  obtain ⟨sl, hL⟩ := u.any ho I.free (by simp)
  exact I.step (g' := s.gens) (d' := s.drawn) (ch := []) (fun _ z => nomatch z) (fun b o _ hb _ e n => u.keep b o e n hb (by simp)) (fun b o _ hb _ e n => u.slot b o e n hb (by simp)) (fun b o _ e n => u.free b o e n (by simp)) (fun b o _ e => u.there b o e (by simp)) u.tups u.frzs u.tbls (fun m' hm => by
    obtain ⟨o', es', ep', ho', r'⟩ := hm
    rw [ho] at ho'; cases ho'
    exact ⟨_, es', ep', hL, r'⟩) hok I.bare
/-- behind a call (or a comprehension's block): the slots of this frame may have changed too, the records at ch may have turned -/
theorem Inv.call {g' : Array GenState} {t' : Nat} {d' : Drawn} {ch : List Addr} (I : Inv X pins σ H s) (u : Un (frs X.stack) ch H H' s.heap h') (hok : HOk X.prog X.w H' h') (hg : AllBare g')
    (hch : ∀ b ∈ ch, (b ∈ X.ex ∨ X.s₀.heap.objs.size ≤ b) ∧ b ≠ X.env.locals ∧ (∀ x c, X.env.cells.lookup x = some c → c ≠ b) ∧ ∀ p ∈ X.pn ++ pins, p.1 ≠ b) :
    Inv X pins σ H' { s with heap := h', gens := g', drawn := d', toks := t' } := by
  obtain ⟨m, ⟨o, es, ep, ho, r⟩, _⟩ := id I.loc
  obtain ⟨sl, hL⟩ := u.any ho I.free fun z => (hch _ z).2.1 rfl
  exact I.step (ch := ch) hch (fun b o hL hb hc e n => u.keep b o e n (fun z => (List.mem_cons.mp (I.stkSub b z)).elim hL hb) hc) (fun b o _ _ hc e n => u.any e n hc) (fun b o hc e n => u.free b o e n hc) (fun b o hc e => u.there b o e hc) u.tups u.frzs u.tbls (fun m' hm => by
    obtain ⟨o', es', ep', ho', r'⟩ := hm
    rw [ho] at ho'; cases ho'
    exact ⟨_, es', ep', hL, r'⟩) hok hg
/-- an untracked record of ours (an iterator) has turned -/
theorem Inv.turned {t' : Nat} {it : Addr} (I : Inv X pins σ H s) (k : ∀ b o, b ≠ it → s.heap.get? b = some o → h'.get? b = some o) (hn : H it = none) (hL : it ≠ X.env.locals)
    (h1 : it ∈ X.ex ∨ X.s₀.heap.objs.size ≤ it) (h2 : ∀ x c, X.env.cells.lookup x = some c → c ≠ it) (h3 : ∀ p ∈ X.pn ++ pins, p.1 ≠ it) : Inv X pins σ H { s with heap := h', toks := t' } := by
  have nit : ∀ b u, H b = some u → b ≠ it := fun b u e z => by rw [z, hn] at e; cases e
  refine I.step (g' := s.gens) (d' := s.drawn) (ch := [it]) (fun b hb => ?_) (fun b o _ _ hc e _ => k b o (fun z => hc (by simp [z])) e) (fun b o _ _ hc e _ => ⟨o.slots, k b o (fun z => hc (by simp [z])) e⟩) (fun _ _ _ _ n => n)
    (fun b o hc e => ⟨o, k b o (fun z => hc (by simp [z])) e⟩) (fun _ _ e => e) (fun _ _ _ e => e) (fun b ps e => ⟨#[], by rw [e]; simp⟩) (fun m hm => ?_) (fun b u e => ?_) I.bare
  · have e : b = it := by simpa using hb
    subst e
    exact ⟨h1, hL, h2, h3⟩
  · obtain ⟨o, es, ep, ho, r⟩ := hm
    exact ⟨o, es, ep, k _ o (Ne.symm hL) ho, r⟩
  · refine (I.hok b u e).stay (fun c v hc q => k c v ?_ q) (fun _ q => q) fun _ _ q => q
    rcases hc with z | z
    · rw [z]; exact nit b u e
    · exact nit c _ z
theorem Inv.tok (I : Inv X pins σ H s) (t : Nat) : Inv X pins σ H { s with toks := t } := I.un (h' := s.heap) (t' := t) Un.refl I.hok
/-- all objects kept -/
theorem Inv.kept {t' : Nat} (I : Inv X pins σ H s) (k : ∀ b u, s.heap.get? b = some u → h'.get? b = some u) : Inv X pins σ H { s with heap := h', toks := t' } := I.un (Un.kept k) (I.hok.kept k)
/-- a new object laid and tracked -/
theorem Inv.laid {a : Addr} {o : HO} {t' : Nat} (I : Inv X pins σ H s) (k : ∀ b u, s.heap.get? b = some u → h'.get? b = some u) (hp : s.heap.objs.size ≤ a) (new : ObjOk X.prog X.w (upd H a o) h' a o) :
    Inv X pins σ (upd H a o) { s with heap := h', toks := t' } := I.un (Un.laid k hp (I.hok.fresh hp)) (I.hok.laid k hp new)
/-- an object written -/
theorem Inv.write {x e : Addr} {o : HO} {t' : Nat} (I : Inv X pins σ H s) (mu : Mut (H x)) (he : e = x ∨ H e = some (.own x)) (k : ∀ b u, b ≠ e → s.heap.get? b = some u → h'.get? b = some u) (heo : ∃ u, h'.get? e = some u)
    (new : ObjOk X.prog X.w (upd H x o) h' x o) : Inv X pins σ (upd H x o) { s with heap := h', toks := t' } := I.un (Un.write mu he k heo) (I.hok.write mu he k heo new)
theorem Inv.pins_of {pins' : List (Addr × Obj)} (I : Inv X pins σ H s) (h : ∀ p ∈ pins', s.heap.get? p.1 = some p.2 ∧ H p.1 = none ∧ p.1 ≠ X.env.locals ∧ p.1 ∉ X.fs ∧ ∀ v, p.2.data ≠ .cell v) : Inv X pins' σ H s :=
  ⟨I.ok, I.os, I.bare, I.base, I.loc, I.cell, I.free, I.freeC, fun p hp => (List.mem_append.mp hp).elim (fun z => I.pin p (List.mem_append_left _ z)) (h p), I.hok, I.len⟩

theorem nodup_ix {N : List Str} (hN : N.Nodup) {i j : Nat} {x : Str} (a : N[i]? = some x) (b : N[j]? = some x) : i = j := by
  obtain ⟨h1, e1⟩ := List.getElem?_eq_some_iff.mp a
  obtain ⟨h2, e2⟩ := List.getElem?_eq_some_iff.mp b
  exact (List.getElem_inj hN).mp (e1.trans e2.symm)

/-- a name is stored; what changed -/
theorem store_ok2 {M : Model} {A : Around} {E : Value → Shared → Prop} {i : Nat} {x : Str} {v : V} {u : Value} {Q : Unit → Shared → Prop} (I : Inv X pins σ H s) (hN : X.N.Nodup) (hi : X.N[i]? = some x) (hx : Loc X.env.scope x) (r : RelV v u)
    (h : ∀ s', Inv X pins (σ.set i (some v)) H s' → (∃ a, Heap.SameBut a s.heap s'.heap ∧ (a = X.env.locals ∨ X.env.cells.lookup x = some a)) → Q () s') (hf : X.fn x = true ∨ X.env.scope.names.lookup x = some .local := by first | exact .inl rfl | exact .inr rfl | assumption) : wpAny M A (storeName X.env x u) Q E s := by
  obtain ⟨m, hn, hl⟩ := id I.loc
  have hcls : (X.env.scope.kind == .class || (X.env.scope.kind == .module && X.env.locals != X.env.globals)) = false := by rw [I.ok.kind]; rfl
  have hiσ : i < σ.length := by rw [I.len]; exact (List.getElem?_eq_some_iff.mp hi).1
  have cne := I.cne
  have tracked : ∀ {a : Addr} {h' : Heap}, (∃ o, s.heap.get? a = some o ∧ H a = none) → Heap.SameBut a s.heap h' → HOk X.prog X.w H h' := fun {a h'} ha hs b ob e => by
    obtain ⟨_, _, hfree⟩ := ha
    refine (I.hok b ob e).stay (fun c w' hc q => (hs.2 c ?_).trans q) (fun _ q => q) fun _ _ q => q
    rintro rfl
    rcases hc with rfl | hc
    · rw [hfree] at e; cases e
    · rw [hfree] at hc; cases hc
  rcases hx with hk | hk
  · refine wpAny_storeName_local hk hn (fun h' hn' hs => ?_) hcls
    obtain ⟨oL, _, _, hoL, _⟩ := id hn
    refine h _ ⟨I.ok, I.os, I.bare, ⟨fun b o e n hb hx => ?_, fun b o e n hb hx => ?_, I.base.free, fun b o e hx => ?_, I.base.tups, I.base.frzs, I.base.tbls⟩, ⟨_, hn', fun j y v' e1 e2 e3 => ?_⟩, fun y c e => ?_, I.free, I.freeC, fun p hp => ?_, tracked ⟨oL, hoL, I.free⟩ hs, by simpa using I.len⟩ ⟨_, hs, .inl rfl⟩
    · exact (hs.2 b (Nat.ne_of_lt (Nat.lt_of_lt_of_le (Heap.lt_size e) I.ok.above))).trans (I.base.keep b o e n hb hx)
    · obtain ⟨sl, e1⟩ := I.base.slot b o e n hb hx
      exact ⟨sl, (hs.2 b (Nat.ne_of_lt (Nat.lt_of_lt_of_le (Heap.lt_size e) I.ok.above))).trans e1⟩
    · obtain ⟨o', e1⟩ := I.base.there b o e hx
      exact ⟨o', (hs.2 b (Nat.ne_of_lt (Nat.lt_of_lt_of_le (Heap.lt_size e) I.ok.above))).trans e1⟩
    · by_cases hj : j = i
      · subst hj
        rw [hi] at e1; cases e1
        rw [List.getElem?_set_self hiσ] at e2
        cases e2
        exact ⟨u, r, .inl ⟨hk, by simp⟩⟩
      · rw [List.getElem?_set_ne (Ne.symm hj)] at e2
        obtain ⟨u', r', q⟩ := hl j y v' e1 e2 e3
        refine ⟨u', r', ?_⟩
        rcases q with ⟨k, e⟩ | ⟨k, c, e, z⟩
        · refine .inl ⟨k, ?_⟩
          have : y ≠ x := fun e => hj (nodup_ix hN e1 (e ▸ hi))
          simp [this, e]
        · exact .inr ⟨k, c, e, z.sameBut hs (cne y c e)⟩
    · obtain ⟨w', z⟩ := I.cell y c e
      exact ⟨w', z.sameBut hs (cne y c e)⟩
    · obtain ⟨e, n, ne, nf, d⟩ := I.pin p hp
      exact ⟨(hs.2 p.1 ne).trans e, n, ne, nf, d⟩
  · have hfn : X.fn x = true := by
      rcases hf with z | z
      · exact z
      · rw [z] at hk; cases hk
    obtain ⟨c, hc⟩ := I.ok.has x (.inl hk)
    obtain ⟨w', z⟩ := I.cell x c hc
    refine wpAny_storeName_cell I.ok.kind hk hc z (fun h' hc' hs => ?_)
    obtain ⟨oc, hoc, hocd⟩ := id z
    refine h { s with heap := h' } ⟨I.ok, I.os, I.bare, ⟨fun b o e n hb hx => ?_, fun b o e n hb hx => ?_, I.base.free, fun b o e hx => ?_, I.base.tups, I.base.frzs, I.base.tbls⟩, ⟨m, hn.sameBut hs (Ne.symm (cne x c hc)), fun j y v' e1 e2 e3 => ?_⟩, fun y c' e => ?_, I.free, I.freeC, fun p hp => ?_, tracked ⟨oc, hoc, I.freeC x c hc⟩ hs, by simpa using I.len⟩ ⟨c, hs, .inr hc⟩
    · exact (hs.2 b (Nat.ne_of_lt (Nat.lt_of_lt_of_le (Heap.lt_size e) (I.ok.cab x c hfn hc)))).trans (I.base.keep b o e n hb hx)
    · obtain ⟨sl, e1⟩ := I.base.slot b o e n hb hx
      exact ⟨sl, (hs.2 b (Nat.ne_of_lt (Nat.lt_of_lt_of_le (Heap.lt_size e) (I.ok.cab x c hfn hc)))).trans e1⟩
    · obtain ⟨o', e1⟩ := I.base.there b o e hx
      exact ⟨o', (hs.2 b (Nat.ne_of_lt (Nat.lt_of_lt_of_le (Heap.lt_size e) (I.ok.cab x c hfn hc)))).trans e1⟩
    · by_cases hj : j = i
      · subst hj
        rw [hi] at e1; cases e1
        rw [List.getElem?_set_self hiσ] at e2
        cases e2
        exact ⟨u, r, .inr ⟨.inl hk, c, hc, hc'⟩⟩
      · rw [List.getElem?_set_ne (Ne.symm hj)] at e2
        obtain ⟨u', r', q⟩ := hl j y v' e1 e2 e3
        refine ⟨u', r', ?_⟩
        rcases q with q | ⟨k, c', e, z'⟩
        · exact .inl q
        · refine .inr ⟨k, c', e, z'.sameBut hs ?_⟩
          rintro rfl
          exact hj (nodup_ix hN e1 (I.ok.inj _ _ _ e hc ▸ hi))
    · by_cases hcc : c' = c
      · subst hcc; exact ⟨_, hc'⟩
      · obtain ⟨w2, z2⟩ := I.cell y c' e
        exact ⟨w2, z2.sameBut hs hcc⟩
    · obtain ⟨e, n, ne, nf, d⟩ := I.pin p hp
      refine ⟨(hs.2 p.1 ?_).trans e, n, ne, nf, d⟩
      intro q
      rw [q, hoc] at e
      have q' : oc = p.2 := Option.some.inj e
      exact d w' (by rw [← q']; exact hocd)
theorem store_ok {M : Model} {A : Around} {E : Value → Shared → Prop} {i : Nat} {x : Str} {v : V} {u : Value} {Q : Unit → Shared → Prop} (I : Inv X pins σ H s) (hN : X.N.Nodup) (hi : X.N[i]? = some x) (hx : Loc X.env.scope x) (r : RelV v u)
    (h : ∀ s', Inv X pins (σ.set i (some v)) H s' → Q () s') (hf : X.fn x = true ∨ X.env.scope.names.lookup x = some .local := by first | exact .inl rfl | exact .inr rfl | assumption) : wpAny M A (storeName X.env x u) Q E s :=
  store_ok2 I hN hi hx r (fun s' I' _ => h s' I') hf
/-- behind a call or a block, the state as it is -/
theorem Inv.call' {s' : Shared} {ch : List Addr} (I : Inv X pins σ H s) (ho : s'.os = s.os) (u : Un (frs X.stack) ch H H' s.heap s'.heap) (hok : HOk X.prog X.w H' s'.heap) (hg : AllBare s'.gens)
    (hch : ∀ b ∈ ch, (b ∈ X.ex ∨ X.s₀.heap.objs.size ≤ b) ∧ b ≠ X.env.locals ∧ (∀ x c, X.env.cells.lookup x = some c → c ≠ b) ∧ ∀ p ∈ X.pn ++ pins, p.1 ≠ b) : Inv X pins σ H' s' := by
  obtain ⟨h', g', d', t', o'⟩ := s'
  have e : o' = s.os := ho
  subst e
  exact I.call (g' := g') (t' := t') (d' := d') u hok hg hch
end

/-! ### the judgements -/
/-- an exception: its class, its own dict's address (where it has one), the abstract heap behind it -/
abbrev XK := Value → Option Addr → Hp → Prop
abbrev St := List (Option V)
abbrev VK := V → Hp → Prop
/-- an expression's reading; a test's; an argument list's -/
abbrev TE := St → Hp → VK → Prop
abbrev TT := St → Hp → (Bool → Hp → Prop) → Prop
abbrev TA := St → Hp → (List V → Hp → Prop) → Prop
/-- what is wanted behind a statement -/
structure Ends where
  nx : St → Hp → Prop
  rt : VK
  bk : St → Hp → Prop := fun _ _ => False
  ct : St → Hp → Prop := fun _ _ => False
abbrev TS := Ends → St → Hp → Prop

def EP (X : Cx) (pins : List (Addr × Obj)) (σ : St) (Q : VK) (u : Value) (s' : Shared) : Prop := ∃ v H', Inv X pins σ H' s' ∧ RelV v u ∧ Q v H'
def TP (X : Cx) (pins : List (Addr × Obj)) (σ : St) (Q : Bool → Hp → Prop) (b : Bool) (s' : Shared) : Prop := ∃ H', Inv X pins σ H' s' ∧ Q b H'
def AP (X : Cx) (pins : List (Addr × Obj)) (σ : St) (Q : List V → Hp → Prop) (us : List Value) (s' : Shared) : Prop := ∃ vs H', Inv X pins σ H' s' ∧ Vals vs us ∧ Q vs H'
def SP (X : Cx) (pins : List (Addr × Obj)) (D : Ends) (f : Flow) (s' : Shared) : Prop :=
  match f with
  | .next => ∃ σ' H', Inv X pins σ' H' s' ∧ D.nx σ' H'
  | .brk => ∃ σ' H', Inv X pins σ' H' s' ∧ D.bk σ' H'
  | .cont => ∃ σ' H', Inv X pins σ' H' s' ∧ D.ct σ' H'
  | .ret u => ∃ v σ' H', Inv X pins σ' H' s' ∧ RelV v u ∧ D.rt v H'

def PE (X : Cx) (e : Expr) (t : TE) : Prop :=
  ∀ (pins : List (Addr × Obj)) (s : Shared) (σ : St) (H : Hp) (Q : VK), Inv X pins σ H s → t σ H Q → wpAny (model X.prog X.w) X.A (eval e X.env) (EP X pins σ Q) X.xe s
def PT (X : Cx) (e : Expr) (t : TT) : Prop :=
  ∀ (pins : List (Addr × Obj)) (s : Shared) (σ : St) (H : Hp) (Q : Bool → Hp → Prop), Inv X pins σ H s → t σ H Q → wpAny (model X.prog X.w) X.A (isTrue e X.env (eval e X.env)) (TP X pins σ Q) X.xe s
/-- a test whatever its 'whole' is (and, or) -/
def PW (X : Cx) (e : Expr) (t : TT) : Prop :=
  ∀ (whole : Sem Value) (pins : List (Addr × Obj)) (s : Shared) (σ : St) (H : Hp) (Q : Bool → Hp → Prop), Inv X pins σ H s → t σ H Q → wpAny (model X.prog X.w) X.A (isTrue e X.env whole) (TP X pins σ Q) X.xe s
theorem PW.pt {X : Cx} {e : Expr} {t : TT} (h : PW X e t) : PT X e t := h _
/-- an argument list (no star), from the left -/
def PA (X : Cx) (es : List Expr) (t : TA) : Prop :=
  ∀ (pos : Pos) (pins : List (Addr × Obj)) (s : Shared) (σ : St) (H : Hp) (Q : List V → Hp → Prop), Inv X pins σ H s → t σ H Q → wpAny (model X.prog X.w) X.A (spliced (backTo pos (starEach es X.env))) (AP X pins σ Q) X.xe s
def PS (X : Cx) (st : Stmt) (t : TS) : Prop :=
  ∀ (pins : List (Addr × Obj)) (s : Shared) (σ : St) (H : Hp) (D : Ends), Inv X pins σ H s → t D σ H → wpAny (model X.prog X.w) X.A (exec st X.env) (SP X pins D) X.xe s
def PSs (X : Cx) (st : List Stmt) (t : TS) : Prop :=
  ∀ (pins : List (Addr × Obj)) (s : Shared) (σ : St) (H : Hp) (D : Ends), Inv X pins σ H s → t D σ H → wpAny (model X.prog X.w) X.A (execs st X.env) (SP X pins D) X.xe s
/-- weaken the end -/
theorem thn {α : Type} {t : Sem α} {Q Q' : α → Shared → Prop} {M : Model} {A : Around} {E : Value → Shared → Prop} {s : Shared} (h : wpAny M A t Q E s) (hQ : ∀ a s, Q a s → Q' a s) : wpAny M A t Q' E s := wpAny_mono h hQ fun _ _ x => x
end L2

namespace L2
open PySem PySem.Spec PyProof.Rows
section
variable {X : Cx}

/-! ### names and constants -/
def tVar (i : Nat) : TE := fun σ H Q => ∃ v, σ[i]? = some (some v) ∧ Q v H
def tC (v : V) : TE := fun _ H Q => Q v H
theorem pe_var {i : Nat} {x : Str} {pos : Pos} (hN : X.N[i]? = some x) (hv : Vis X.env.scope x) (hd : (x == ("__debug__" : Str)) = false := by decide) (hcd : (x == ("__classdict__" : Str)) = false := by decide) : PE X (.Name x pos) (tVar i) := by
  intro pins s σ H Q I h
  obtain ⟨v, e, h⟩ := h
  obtain ⟨m, hn, hl⟩ := I.loc
  obtain ⟨u, r, l⟩ := hl i x v hN e hv
  have fin : EP X pins σ Q u s := ⟨v, H, I, r, h⟩
  rcases l with ⟨hk, hm⟩ | ⟨hk, c, hc, hcell⟩
  · exact wpAny_Name (wpAny_loadName_local I.ok.kind hk hn hm fin) hd
  · rcases hk with hk | hk
    · exact wpAny_Name (wpAny_loadName_cell I.ok.kind hk hc hcell fin) hd
    · exact wpAny_Name (wpAny_loadName_free I.ok.kind hk hc hcell fin hcd) hd
theorem pe_int {i j pos} : PE X (.Constant (.int i) j pos) (tC (.int i)) := fun _ _ _ H _ I h => wpAny_Constant_int ⟨.int i, H, I.tok _, ⟨_, rfl⟩, h⟩
theorem pe_bl {b j pos} : PE X (.Constant (.bool b) j pos) (tC (.bl b)) := fun _ _ _ H _ I h => Constant_bool ⟨.bl b, H, I, rfl, h⟩
theorem pe_non {j pos} : PE X (.Constant .none j pos) (tC .non) := fun _ _ _ H _ I h => Constant_none ⟨.non, H, I, rfl, h⟩
/-- a global name of the def -/
def Gl (X : Cx) (x : Str) : Prop := X.env.kindOf x = some .globalImplicit
theorem ld_glob {E : Value → Shared → Prop} {pins : List (Addr × Obj)} {s : Shared} {σ : St} {H : Hp} {x : Str} {u : Value} {pos : Pos} {Q : Value → Shared → Prop} (I : Inv X pins σ H s) (hg : Gl X x) (hm : X.mg x = some u) (h : Q u s)
    (hd : (x == ("__debug__" : Str)) = false := by decide) : wpAny (model X.prog X.w) X.A (eval (.Name x pos) X.env) Q E s :=
  Calls.Name_function_global I.ok.kind hg (Calls.loadGlobal_global (by rw [I.ok.glob]; exact I.mod.glob.keeps I.bk) hm h) hd
theorem ld_blt {E : Value → Shared → Prop} {pins : List (Addr × Obj)} {s : Shared} {σ : St} {H : Hp} {x : Str} {u : Value} {pos : Pos} {Q : Value → Shared → Prop} (I : Inv X pins σ H s) (hg : Gl X x) (hm : X.mg x = none) (hv : bootBuiltins x = some u) (h : Q u s)
    (hn : x ≠ "__name__" := by decide) (hd : (x == ("__debug__" : Str)) = false := by decide) : wpAny (model X.prog X.w) X.A (eval (.Name x pos) X.env) Q E s := by
  obtain ⟨mb, h1, h2⟩ := I.mod.blt
  exact Calls.Name_function_global I.ok.kind hg (Calls.loadGlobal_builtin (by rw [I.ok.glob]; exact I.mod.glob.keeps I.bk) hm (by rw [I.ok.blt]; exact h1.keeps I.bk) ((h2 x hn).trans hv) h) hd
theorem pe_bltn {x : Str} {v : V} {u : Value} {pos : Pos} (hg : Gl X x) (hm : X.mg x = none) (hv : bootBuiltins x = some u) (r : RelV v u) (hn : x ≠ "__name__" := by decide) (hd : (x == ("__debug__" : Str)) = false := by decide) : PE X (.Name x pos) (tC v) :=
  fun _ _ _ H _ I h => ld_blt I hg hm hv ⟨v, H, I, r, h⟩ hn hd

/-! ### arithmetic -/
variable {a b : Expr} {ta tb : TE} {pos : Pos}
/-! ### comparisons -/
/-- a comparison as a value, as a test -/
def tB (t : TE) : TT := fun σ H Q => t σ H fun x H1 => ∃ c, x = .bl c ∧ Q c H1
/-- an expression whose value is a bool, as a test -/
theorem pt_val {e : Expr} {t : TE} (h : PE X e t) (he : ∀ whole, isTrue e X.env whole = (do let v ← whole; standAt e.pos; holding [v] (truthy v)) := by intro _; rfl) : PT X e (tB t) := by
  intro pins s σ H Q I hw
  refine isTrue_plain (thn (h pins s σ H _ I hw) fun v s1 ⟨x, H1, I1, r1, q1⟩ => ?_) (he _)
  obtain ⟨d, rfl, q⟩ := q1
  cases r1
  exact wpAny_truthy_bool ⟨H1, I1, q⟩

/-! ### and, or, not -/
variable {tA tB' : TT} {rest : List Expr}
def tAnd (t u : TT) : TT := fun σ H Q => t σ H fun c H1 => if c = true then u σ H1 Q else Q false H1
def tOr (t u : TT) : TT := fun σ H Q => t σ H fun c H1 => if c = true then Q true H1 else u σ H1 Q
def tNot (t : TT) : TT := fun σ H Q => t σ H fun c H1 => Q (!c) H1
theorem pw_and1 (ha : PT X a tA) : PW X (.BoolOp .And [a] pos) tA := by
  intro wh pins s σ H Q I h
  refine isTrue_and (thn (ha pins s σ H Q I h) fun c s1 e => ?_)
  cases c with
  | true => exact isTrue_and_nil e
  | false => exact e
theorem pw_or1 (ha : PT X a tA) : PW X (.BoolOp .Or [a] pos) tA := by
  intro wh pins s σ H Q I h
  refine isTrue_or (thn (ha pins s σ H Q I h) fun c s1 e => ?_)
  cases c with
  | false => exact isTrue_or_nil e
  | true => exact e
theorem pw_and (ha : PT X a tA) (hb : PW X (.BoolOp .And (b :: rest) pos) tB') : PW X (.BoolOp .And (a :: b :: rest) pos) (tAnd tA tB') := by
  intro wh pins s σ H Q I h
  refine isTrue_and (thn (ha pins s σ H _ I h) fun c s1 ⟨H1, I1, q1⟩ => ?_)
  cases c with
  | true => exact hb wh pins s1 σ H1 Q I1 q1
  | false => exact ⟨H1, I1, q1⟩
theorem pw_or (ha : PT X a tA) (hb : PW X (.BoolOp .Or (b :: rest) pos) tB') : PW X (.BoolOp .Or (a :: b :: rest) pos) (tOr tA tB') := by
  intro wh pins s σ H Q I h
  refine isTrue_or (thn (ha pins s σ H _ I h) fun c s1 ⟨H1, I1, q1⟩ => ?_)
  cases c with
  | true => exact ⟨H1, I1, q1⟩
  | false => exact hb wh pins s1 σ H1 Q I1 q1
theorem pt_not (ha : PT X a tA) : PT X (.UnaryOp .Not a pos) (tNot tA) := by
  intro pins s σ H Q I h
  exact isTrue_not (ha pins s σ H (fun c H1 => Q (!c) H1) I h)
/-- .. as values (bools) -/
def tAndV (ta tb : TE) : TE := fun σ H Q => ta σ H fun x H1 => ∃ c, x = .bl c ∧ if c = true then tb σ H1 Q else Q (.bl false) H1
def tOrV (ta tb : TE) : TE := fun σ H Q => ta σ H fun x H1 => ∃ c, x = .bl c ∧ if c = true then Q (.bl true) H1 else tb σ H1 Q
def tNotV (ta : TE) : TE := fun σ H Q => ta σ H fun x H1 => ∃ c, x = .bl c ∧ Q (.bl (!c)) H1
theorem pe_one {op} {t : TE} (h : PE X a t) : PE X (.BoolOp op [a] pos) t := fun pins s σ H Q I hw => BoolOp_one (h pins s σ H Q I hw)
theorem pe_and (ha : PE X a ta) (hb : PE X (.BoolOp .And (b :: rest) pos) tb) : PE X (.BoolOp .And (a :: b :: rest) pos) (tAndV ta tb) := by
  intro pins s σ H Q I h
  refine BoolOp_and (thn (ha pins s σ H _ I h) fun v s1 ⟨x, H1, I1, r1, q1⟩ => ?_)
  obtain ⟨c, rfl, q1⟩ := q1
  cases r1
  refine wpAny_truthy_bool ?_
  cases c with
  | true => exact hb pins s1 σ H1 Q I1 q1
  | false => exact ⟨.bl false, H1, I1, rfl, q1⟩
theorem pe_not (ha : PE X a ta) : PE X (.UnaryOp .Not a pos) (tNotV ta) := by
  intro pins s σ H Q I h
  refine UnaryOp_ (thn (ha pins s σ H _ I h) fun v s1 ⟨x, H1, I1, r1, q1⟩ => ?_)
  obtain ⟨c, rfl, q1⟩ := q1
  cases r1
  exact not_of (wpAny_truthy_bool ⟨.bl (!c), H1, I1, rfl, q1⟩)
/-- a if t else b -/
def tIf (t : TT) (ta tb : TE) : TE := fun σ H Q => t σ H fun c H1 => if c = true then ta σ H1 Q else tb σ H1 Q
theorem pe_ifExp {c : Expr} (hc : PT X c tA) (ha : PE X a ta) (hb : PE X b tb) : PE X (.IfExp c a b pos) (tIf tA ta tb) := by
  intro pins s σ H Q I h
  refine wpAny_IfExp (thn (hc pins s σ H _ I h) fun d s1 ⟨H1, I1, q1⟩ => ?_)
  cases d with
  | true => exact ha pins s1 σ H1 Q I1 q1
  | false => exact hb pins s1 σ H1 Q I1 q1
end
end L2

namespace L2
open PySem PySem.Spec PyProof.Rows

/-! ### a list, a tuple that is read: tracked, frozen, or an object of the module -/
def SqL (K : PySem.W.Frag) (H : Hp) (a : Addr) (xs : List V) : Prop :=
  Rd H a (.lst xs) ∨
    ∃ (o : Obj) (its : Array Value) (n : Nat), K.lookup a = some o ∧ o.cls = .type "list" ∧ o.dict = none ∧ o.data = .seq its n ∧ its.size ≤ sizeLine ∧ Vals xs its.toList
def SqT (K : PySem.W.Frag) (H : Hp) (a : Addr) (xs : List V) : Prop :=
  Rd H a (.tup xs) ∨
    ∃ (o : Obj) (its : Array Value) (n : Nat), K.lookup a = some o ∧ o.cls = .type "tuple" ∧ o.data = .seq its n ∧ its.size ≤ sizeLine ∧ Vals xs its.toList
def absV : Value → Option V
  | .none => some .non
  | .bool b => some (.bl b)
  | .int i _ => some (.int i)
  | .str x _ => some (.str x)
  | .bytes b _ => some (.byt b)
  | .float b _ => some (.flt b)
  | .ref a => some (.ref a)
  | .type n => some (.ty n)
  | _ => none
theorem RelV.abs {x : V} {u : Value} (r : RelV x u) : absV u = some x := by
  cases x with
  | non => cases r; rfl
  | bl _ => cases r; rfl
  | int _ => obtain ⟨t, rfl⟩ := r; rfl
  | str _ => obtain ⟨t, rfl⟩ := r; rfl
  | byt _ => obtain ⟨t, rfl⟩ := r; rfl
  | flt _ => obtain ⟨t, rfl⟩ := r; rfl
  | ref _ => cases r; rfl
  | ty _ => cases r; rfl
theorem RelV.inj {x y : V} {u : Value} (r : RelV x u) (q : RelV y u) : x = y := Option.some.inj (r.abs.symm.trans q.abs)
theorem Vals.inj : ∀ {xs ys : List V} {us : List Value}, Vals xs us → Vals ys us → xs = ys
  | _, _, _, .nil, .nil => rfl
  | _, _, _, .cons r t, .cons r' t' => by rw [r.inj r', Vals.inj t t']
section
variable {X : Cx} {pins : List (Addr × Obj)} {σ : St} {H : Hp} {s : Shared} {a : Addr} {xs ys : List V}
theorem SqL.of {K : PySem.W.Frag} (h : H a = some (.lst xs)) : SqL K H a xs := .inl (.inl h)
theorem SqT.of {K : PySem.W.Frag} (h : H a = some (.tup xs)) : SqT K H a xs := .inl (.inl h)
theorem Inv.list (I : Inv X pins σ H s) (h : SqL X.K H a xs) : ∃ its : List Value, Vals xs its ∧ PlainL s.heap a its.toArray ∧ xs.length ≤ sizeLine := by
  rcases h with h | ⟨o, its, n, hk, hc, hd, hs, hz, r⟩
  · obtain ⟨z, its, n, r, e⟩ := h.ok I.hok
    exact ⟨its, r, ⟨_, n, e, rfl, rfl, rfl⟩, z⟩
  · refine ⟨its.toList, r, ⟨o, n, I.kIn a o hk, hc, hd, by simpa using hs⟩, ?_⟩
    have e := r.length
    simp only [Array.length_toList] at e
    omega
theorem Inv.tuple (I : Inv X pins σ H s) (h : SqT X.K H a xs) : ∃ its : List Value, Vals xs its ∧ IsTup s.heap a its.toArray ∧ xs.length ≤ sizeLine := by
  rcases h with h | ⟨o, its, n, hk, hc, hs, hz, r⟩
  · obtain ⟨z, its, r, p⟩ := h.ok I.hok
    exact ⟨its, r, p, z.1⟩
  · refine ⟨its.toList, r, ⟨o, I.kIn a o hk, hc, n, by simpa using hs⟩, ?_⟩
    have e := r.length
    simp only [Array.length_toList] at e
    omega
theorem Inv.list_inj (I : Inv X pins σ H s) (h : SqL X.K H a xs) (h' : SqL X.K H a ys) : xs = ys := by
  obtain ⟨its, r, ⟨o, n, e, _, _, d⟩, _⟩ := I.list h
  obtain ⟨its', r', ⟨o', n', e', _, _, d'⟩, _⟩ := I.list h'
  rw [e] at e'; cases e'
  rw [d] at d'
  injection d' with d1 _
  have : its = its' := by simpa using congrArg Array.toList d1
  subst this
  exact r.inj r'
theorem Inv.tuple_inj (I : Inv X pins σ H s) (h : SqT X.K H a xs) (h' : SqT X.K H a ys) : xs = ys := by
  obtain ⟨its, r, ⟨o, e, _, n, d⟩, _⟩ := I.tuple h
  obtain ⟨its', r', ⟨o', e', _, n', d'⟩, _⟩ := I.tuple h'
  rw [e] at e'; cases e'
  rw [d] at d'
  injection d' with d1 _
  have : its = its' := by simpa using congrArg Array.toList d1
  subst this
  exact r.inj r'
end

/-! ### another wish about exceptions -/
abbrev Cx.wish (X : Cx) (E : Value → Shared → Prop) : Cx := { X with xe := E }
/-- no exception leaves -/
abbrev Cx.nox (X : Cx) : Cx := X.wish fun _ _ => False
theorem Cx.Ok.wish {X : Cx} (ok : X.Ok) (E : Value → Shared → Prop) : (X.wish E).Ok :=
  ⟨ok.mod, ok.kind, ok.glob, ok.blt, ok.above, ok.inj, ok.has, ok.cab, ok.hd, ok.frames, ok.stk, ok.exf, ok.bs, ok.bsz, ok.noex, ok.exfs, ok.funs, ok.frf⟩
theorem Cx.Ok.unwish {X : Cx} {E : Value → Shared → Prop} (ok : (X.wish E).Ok) : X.Ok :=
  ⟨ok.mod, ok.kind, ok.glob, ok.blt, ok.above, ok.inj, ok.has, ok.cab, ok.hd, ok.frames, ok.stk, ok.exf, ok.bs, ok.bsz, ok.noex, ok.exfs, ok.funs, ok.frf⟩
section
variable {X : Cx} {pins : List (Addr × Obj)} {σ : St} {H : Hp} {s : Shared} {E : Value → Shared → Prop}
theorem Inv.wish (I : Inv X pins σ H s) (E : Value → Shared → Prop) : Inv (X.wish E) pins σ H s := ⟨I.ok.wish E, I.os, I.bare, I.base, I.loc, I.cell, I.free, I.freeC, I.pin, I.hok, I.len⟩
theorem Inv.unwish (I : Inv (X.wish E) pins σ H s) : Inv X pins σ H s := ⟨I.ok.unwish, I.os, I.bare, I.base, I.loc, I.cell, I.free, I.freeC, I.pin, I.hok, I.len⟩
theorem SP.unwish {D : Ends} {f : Flow} {s' : Shared} (h : SP (X.wish E) pins D f s') : SP X pins D f s' := by
  cases f with
  | next => obtain ⟨σ', H', I, q⟩ := h; exact ⟨σ', H', I.unwish, q⟩
  | brk => obtain ⟨σ', H', I, q⟩ := h; exact ⟨σ', H', I.unwish, q⟩
  | cont => obtain ⟨σ', H', I, q⟩ := h; exact ⟨σ', H', I.unwish, q⟩
  | ret u => obtain ⟨v, σ', H', I, r, q⟩ := h; exact ⟨v, σ', H', I.unwish, r, q⟩
theorem PE.nox {e : Expr} {t : TE} (h : PE X.nox e t) : PE X e t := fun pins s σ H Q I hw =>
  wpAny_mono (h pins s σ H Q (I.wish _) hw) (fun _ _ ⟨v, H', I', r, q⟩ => ⟨v, H', I'.unwish, r, q⟩) fun _ _ z => False.elim z
theorem PT.nox {e : Expr} {t : TT} (h : PT X.nox e t) : PT X e t := fun pins s σ H Q I hw =>
  wpAny_mono (h pins s σ H Q (I.wish _) hw) (fun _ _ ⟨H', I', q⟩ => ⟨H', I'.unwish, q⟩) fun _ _ z => False.elim z
theorem PSs.nox {st : List Stmt} {t : TS} (h : PSs X.nox st t) : PSs X st t := fun pins s σ H D I hw =>
  wpAny_mono (h pins s σ H D (I.wish _) hw) (fun _ _ q => q.unwish) fun _ _ z => False.elim z
end

/-! ### blocks and small statements -/
section
variable {X : Cx} {st : Stmt} {rest : List Stmt} {t u : TS} {e : Expr} {te : TE} {pos : Pos}
def tNext : TS := fun D σ H => D.nx σ H
def tSeq (t u : TS) : TS := fun D σ H => t { D with nx := u D } σ H
theorem pss_nil : PSs X [] tNext := fun _ _ σ H _ I h => wpAny_execs_nil ⟨σ, H, I, h⟩
theorem pss_cons (h1 : PS X st t) (h2 : PSs X rest u) : PSs X (st :: rest) (tSeq t u) := by
  intro pins s σ H D I h
  refine wpAny_execs_cons (thn (h1 pins s σ H { D with nx := u D } I h) fun f s1 q => ?_)
  cases f with
  | next =>
    obtain ⟨σ', H', I', q⟩ := q
    exact h2 pins s1 σ' H' D I' q
  | ret v => exact q
  | brk => exact q
  | cont => exact q
theorem pss_one (h1 : PS X st t) : PSs X [st] t := by
  intro pins s σ H D I h
  refine wpAny_execs_cons (thn (h1 pins s σ H D I h) fun f s1 q => ?_)
  cases f with
  | next => exact wpAny_execs_nil q
  | ret v => exact q
  | brk => exact q
  | cont => exact q
/-- in a def's body nothing is shown -/
theorem Inv.quiet {pins : List (Addr × Obj)} {σ : St} {H : Hp} {s : Shared} (I : Inv X pins σ H s) : interactive X.env = false := by simp [interactive, I.ok.kind]
/-- an expression whose value is dropped -/
def tDrop (te : TE) : TS := fun D σ H => te σ H fun _ H1 => D.nx σ H1
theorem ps_expr (he : PE X e te) (hs : swapsWith e none pos.line X.env = pure false := by rfl) : PS X (.Expr e pos) (tDrop te) := by
  intro pins s σ H D I h
  exact wpAny_Expr_any (thn (he pins s σ H _ I h) fun v s1 ⟨x, H1, I1, r1, q1⟩ => ⟨σ, H1, I1, q1⟩) I.quiet hs
def tRet (te : TE) : TS := fun D σ H => te σ H D.rt
theorem ps_ret (he : PE X e te) : PS X (.Return (some e) pos) (tRet te) := by
  intro pins s σ H D I h
  exact wpAny_Return_some (thn (he pins s σ H _ I h) fun v s1 ⟨x, H1, I1, r1, q1⟩ => ⟨x, σ, H1, I1, r1, q1⟩)
def tRetN : TS := fun D _ H => D.rt .non H
def tIfS (c : TT) (t u : TS) : TS := fun D σ H => c σ H fun b H1 => if b = true then t D σ H1 else u D σ H1
theorem ps_if {c : Expr} {a b : List Stmt} {tc : TT} (hc : PT X c tc) (ha : PSs X a t) (hb : PSs X b u) : PS X (.If c a b pos) (tIfS tc t u) := by
  intro pins s σ H D I h
  refine wpAny_If (thn (hc pins s σ H _ I h) fun d s1 ⟨H1, I1, q1⟩ => ?_)
  cases d with
  | true => exact ha pins s1 σ H1 D I1 q1
  | false => exact hb pins s1 σ H1 D I1 q1
/-- code that the proof never comes to -/
def tNever : TS := fun _ _ _ => False
theorem ps_never : PS X st tNever := fun _ _ _ _ _ _ h => h.elim
end

/-! ### targets -/
abbrev TG := V → St → Hp → (St → Hp → Prop) → Prop
abbrev TGs := List V → St → Hp → (St → Hp → Prop) → Prop
def PG (X : Cx) (target : Expr) (t : TG) : Prop :=
  ∀ (pins : List (Addr × Obj)) (s : Shared) (σ : St) (H : Hp) (v : V) (u : Value) (Q : St → Hp → Prop), Inv X pins σ H s → RelV v u → t v σ H Q →
    wpAny (model X.prog X.w) X.A (assign target X.env u) (fun _ s' => ∃ σ' H', Inv X pins σ' H' s' ∧ Q σ' H') X.xe s
/-- several targets, one after another -/
def PGs (X : Cx) (ts : List Expr) (t : TGs) : Prop :=
  ∀ (pins : List (Addr × Obj)) (s : Shared) (σ : St) (H : Hp) (vs : List V) (us : List Value) (Q : St → Hp → Prop), Inv X pins σ H s → Vals vs us → t vs σ H Q →
    wpAny (model X.prog X.w) X.A (assignInOrder ((assignEach ts X.env).map (·.2)) us) (fun _ s' => ∃ σ' H', Inv X pins σ' H' s' ∧ Q σ' H') X.xe s
/-- o[i] = v, by values -/
abbrev TSet := V → V → V → Hp → (Hp → Prop) → Prop
def PSet (X : Cx) (t : TSet) : Prop :=
  ∀ (pins : List (Addr × Obj)) (s : Shared) (σ : St) (H : Hp) (o i v : V) (ov iv u : Value) (Q : Hp → Prop), Inv X pins σ H s → RelV o ov → RelV i iv → RelV v u → t o i v H Q →
    wpAny (model X.prog X.w) X.A (setItem ov iv u) (fun _ s' => ∃ H', Inv X pins σ H' s' ∧ Q H') X.xe s
/-- a op= b, by values -/
abbrev TIp := V → V → Hp → VK → Prop
section
variable {X : Cx} {pos : Pos}
def gName (i : Nat) : TG := fun v σ H Q => Q (σ.set i (some v)) H
theorem pg_name {i : Nat} {x : Str} (hN : X.N.Nodup) (hi : X.N[i]? = some x) (hx : Loc X.env.scope x) (hf : X.fn x = true ∨ X.env.scope.names.lookup x = some .local := by first | exact .inl rfl | exact .inr rfl | assumption) : PG X (.Name x pos) (gName i) := by
  intro pins s σ H v u Q I r h
  exact wpAny_assign_Name (store_ok I hN hi hx r (fun s' I' => ⟨_, H, I', h⟩) hf)
def gNil : TGs := fun vs σ H Q => vs = [] ∧ Q σ H
def gCons (t : TG) (u : TGs) : TGs := fun vs σ H Q => ∃ v r, vs = v :: r ∧ t v σ H fun σ' H' => u r σ' H' Q
theorem pgs_nil : PGs X [] gNil := by
  intro pins s σ H vs us Q I r h
  obtain ⟨e, h⟩ := h
  subst e
  cases r
  exact assignInOrder_nil ⟨σ, H, I, h⟩
theorem pgs_cons {e : Expr} {es : List Expr} {t : TG} {u : TGs} (h1 : PG X e t) (h2 : PGs X es u)
    (hs : (assignEach (e :: es) X.env).map (·.2) = assign e X.env :: (assignEach es X.env).map (·.2) := by rfl) : PGs X (e :: es) (gCons t u) := by
  intro pins s σ H vs us Q I r h
  obtain ⟨v, vr, e1, h⟩ := h
  subst e1
  cases r with
  | cons r rr =>
    rw [hs]
    refine assignInOrder_cons (thn (h1 pins s σ H _ _ _ I r h) fun _ s1 ⟨σ1, H1, I1, q1⟩ => ?_)
    exact h2 pins s1 σ1 H1 _ _ Q I1 rr q1
/-- (a, b, ..) = a tuple of that length -/
def gTup (K : PySem.W.Frag) (n : Nat) (t : TGs) : TG := fun v σ H Q => ∃ a xs, v = .ref a ∧ SqT K H a xs ∧ xs.length = n ∧ t xs σ H Q
theorem pg_tup {es : List Expr} {k : Nat} {t : TGs} {n : Nat} (hc : X.calm = true) (h : PGs X es t)
    (hn : (assignEach es X.env).length = n := by rfl) (hst : (assignEach es X.env).findIdx? (·.1) = none := by rfl) : PG X (.Tuple es k pos) (gTup X.K n t) := by
  intro pins s σ H v u Q I r hw
  obtain ⟨a, xs, e1, hq, hl, hw⟩ := hw
  subst e1
  cases r
  obtain ⟨its, rv, ht, hz⟩ := I.tuple hq
  refine assign_Tuple_tuple (I.ok.hd hc) ht (by simp [hn, ← hl, rv.length]) hst fun h' hx => ?_
  have I1 : Inv X pins σ H { s with heap := h' } := I.kept (t' := s.toks) fun b o e => hx b o (Nat.ne_of_lt (Heap.lt_size e)) e
  exact h pins _ σ H xs _ Q I1 (by simpa using rv) hw
/-- o[i] = .. -/
def gSub (to ti : TE) (t : TSet) : TG := fun v σ H Q => to σ H fun o H1 => ti σ H1 fun i H2 => t o i v H2 fun H3 => Q σ H3
theorem pg_sub {o i : Expr} {to ti : TE} {t : TSet} (ho : PE X o to) (hi : PE X i ti) (hs : PSet X t)
    (ha : ∀ v, assign (.Subscript o i pos) X.env v = (do
      let ov ← holding [v] (eval o X.env)
      let iv ← holding [v, ov] (eval i X.env)
      standAt pos
      holding [v, ov, iv] (setItem ov iv v)
      release [v, ov, iv] []) := by intro _; rfl) : PG X (.Subscript o i pos) (gSub to ti t) := by
  intro pins s σ H v u Q I r h
  rw [ha]
  refine wpAny_bind (wpAny_holding (thn (ho pins s σ H _ I h) fun ov s1 ⟨x, H1, I1, r1, q1⟩ => ?_))
  refine wpAny_bind (wpAny_holding (thn (hi pins s1 σ H1 _ I1 q1) fun iv s2 ⟨y, H2, I2, r2, q2⟩ => ?_))
  refine wpAny_bind (wpAny_standAt (wpAny_bind (wpAny_holding (thn (hs pins s2 σ H2 x y v ov iv u _ I2 r1 r2 r q2) fun _ s3 ⟨H3, I3, q3⟩ => ?_))))
  exact wpAny_release ⟨σ, H3, I3, q3⟩
/-- target = value -/
def tAsg (te : TE) (g : TG) : TS := fun D σ H => te σ H fun x H1 => g x σ H1 D.nx
theorem ps_asg {tg e : Expr} {te : TE} {g : TG} (he : PE X e te) (hg : PG X tg g) (hs : swapsWithSole [tg] e pos.line X.env = pure false := by rfl) (hw : swappedStores [tg] e X.env = pure none := by rfl)
    (h1 : (assignEach [tg] X.env).map (·.2) = [assign tg X.env] := by rfl) : PS X (.Assign [tg] e pos) (tAsg te g) := by
  intro pins s σ H D I h
  refine wpAny_Assign_stores (thn (he pins s σ H _ I h) fun v s1 ⟨x, H1, I1, r1, q1⟩ => ?_) hs hw
  rw [h1]
  exact thn (hg pins s1 σ H1 x v _ I1 r1 q1) fun _ s2 q => q
/-- name = value -/
theorem ps_set {i : Nat} {x : Str} {e : Expr} {te : TE} {pos' : Pos} (hN : X.N.Nodup) (hi : X.N[i]? = some x) (hx : Loc X.env.scope x) (he : PE X e te) (hs : swapsWith e (some (.Name x pos')) pos.line X.env = pure false := by rfl) (hf : X.fn x = true ∨ X.env.scope.names.lookup x = some .local := by first | exact .inl rfl | exact .inr rfl | assumption) :
    PS X (.Assign [.Name x pos'] e pos) (tAsg te (gName i)) := by
  intro pins s σ H D I h
  refine wpAny_Assign_Name (thn (he pins s σ H _ I h) fun v s1 ⟨y, H1, I1, r1, q1⟩ => ?_) hs
  exact store_ok I1 hN hi hx r1 (fun s2 I2 => ⟨_, H1, I2, q1⟩) hf
/-- a, b = x, y with plain local names: stored from the right; the pair itself is not tracked (the opening rows as in PyProof/Rows/TupAssign.lean:23) -/
def tPar (i j : Nat) (ta : TA) : TS := fun D σ H => ta σ H fun vs H1 => ∃ v w, vs = [v, w] ∧ D.nx ((σ.set i (some v)).set j (some w)) H1
/-- name op= e -/
def tAug (i : Nat) (te : TE) (ti : TIp) : TS := fun D σ H => ∃ x, σ[i]? = some (some x) ∧ te σ H fun y H1 => ti x y H1 fun z H2 => D.nx (σ.set i (some z)) H2
end

/-! ### while -/
section
variable {X : Cx} {pos : Pos}
end

/-! ### what a loop or a comprehension walks -/
/-- at turn i: it yields x (the heap may grow), or it stops -/
structure It where
  go : Nat → Hp → Prop
  yld : Nat → Hp → V → Hp → Prop
  stop : Nat → Hp → Prop
/-- the iterator's own objects may turn: they are not the frame's, not pinned, younger than the entry (or a comprehension's own) -/
def FpOk (X : Cx) (pins : List (Addr × Obj)) (H : Hp) (b : Addr) : Prop :=
  H b = none ∧ b ≠ X.env.locals ∧ b ∉ X.fs ∧ (b ∈ X.ex ∨ X.s₀.heap.objs.size ≤ b) ∧ (∀ x c, X.env.cells.lookup x = some c → c ≠ b) ∧ ∀ p ∈ X.pn ++ pins, p.1 ≠ b
theorem Inv.fpOk {X : Cx} {pins : List (Addr × Obj)} {σ : St} {H H' : Hp} {s : Shared} {b : Addr} (I : Inv X pins σ H s) (hb : s.heap.objs.size ≤ b) (hn : H' b = none) : FpOk X pins H' b := by
  refine ⟨hn, Nat.ne_of_gt (Nat.lt_of_lt_of_le I.lt hb), I.nofs hb, .inr (Nat.le_trans I.sz hb), fun x c e z => ?_, fun p hp z => ?_⟩
  · obtain ⟨v, q⟩ := I.cell x c e
    exact absurd (Nat.lt_of_lt_of_le q.lt (by rw [z]; exact hb)) (Nat.lt_irrefl _)
  · exact absurd (Nat.lt_of_lt_of_le (Heap.lt_size (I.pin p hp).1) (by rw [z]; exact hb)) (Nat.lt_irrefl _)
structure Turn (P : Program) (w : World) (K : PySem.W.Frag) (tg : Expr) (J : It) (fp : List Addr) (it : Addr) (tn : Nat → Heap → Prop) : Prop where
  mem : it ∈ fp
  obj : ∀ i h, tn i h → ∀ b ∈ fp, ∃ o, h.get? b = some o ∧ ∀ v, o.data ≠ .cell v
  keep : ∀ i h h', tn i h → (∀ b ∈ fp, ∀ o, h.get? b = some o → h'.get? b = some o) → tn i h'
  item : ∀ (X : Cx), X.prog = P → X.w = w → X.K = K → X.calm = true → ∀ (i : Nat) (pins : List (Addr × Obj)) (s : Shared) (σ : St) (H : Hp) (E : Value → Shared → Prop), Inv X pins σ H s → (∀ b ∈ fp, FpOk X pins H b) → tn i s.heap → J.go i H →
    wpAny (model P w) X.A (pyNext (.ref it)) (fun r s1 => ∃ u, r = some u ∧
      wpAny (model P w) X.A (letOwnedTupleGo tg (.ref it) u) (fun _ s2 => ∃ x H', Inv X pins σ H' s2 ∧ RelV x u ∧ J.yld i H x H' ∧ tn (i + 1) s2.heap ∧ ∀ b ∈ fp, H' b = none) E s1) E s
  done : ∀ (X : Cx), X.prog = P → X.w = w → X.K = K → X.calm = true → ∀ (i : Nat) (pins : List (Addr × Obj)) (s : Shared) (σ : St) (H : Hp) (E : Value → Shared → Prop), Inv X pins σ H s → (∀ b ∈ fp, FpOk X pins H b) → tn i s.heap → J.stop i H →
    wpAny (model P w) X.A (pyNext (.ref it)) (fun r s1 => r = none ∧ Inv X pins σ H s1) E s
  self : ∀ (A : Around) (i : Nat) (s : Shared) (Q : Value → Shared → Prop) (E : Value → Shared → Prop), tn i s.heap → Q (.ref it) s → wpAny (model P w) A (pyIter (.ref it)) Q E s
abbrev TI := St → Hp → (It → Hp → Prop) → Prop
/-- an iterator has come -/
def PIE (X : Cx) (pins : List (Addr × Obj)) (σ : St) (tg : Expr) (R : It → Hp → Prop) (itv : Value) (s2 : Shared) : Prop :=
  ∃ (it : Addr) (fp : List Addr) (tn : Nat → Heap → Prop) (J : It) (H' : Hp), itv = .ref it ∧ Inv X pins σ H' s2 ∧ Turn X.prog X.w X.K tg J fp it tn ∧ tn 0 s2.heap ∧ (∀ b ∈ fp, FpOk X pins H' b) ∧ R J H'
def PI (X : Cx) (tg iter : Expr) (wi : TI) : Prop :=
  ∀ (pins : List (Addr × Obj)) (s : Shared) (σ : St) (H : Hp) (R : It → Hp → Prop), Inv X pins σ H s → wi σ H R →
    wpAny (model X.prog X.w) X.A (eval iter X.env) (fun v s1 => wpAny (model X.prog X.w) X.A (pyIter v) (PIE X pins σ tg R) X.xe s1) X.xe s

/-- the step ahead of the store is nothing for an iterator that keeps no tuple -/
theorem go_of {M : Model} {A : Around} {E : Value → Shared → Prop} {s : Shared} {tg : Expr} {it : Addr} {u : Value} {o : Obj} {n : String} {vs : Array Value} {Q : Unit → Shared → Prop} (ho : s.heap.get? it = some o) (hc : o.cls = .type n) (hd : o.data = .fields vs)
    (hn : ["enumerate", "zip", "dict_itemiterator", "dict_reverseitemiterator", "odict_iterator", "itertools.zip_longest", "itertools.pairwise"].contains n = false) (hQ : Q () s) : wpAny M A (letOwnedTupleGo tg (.ref it) u) Q E s := by
  unfold letOwnedTupleGo
  cases tg <;> first
    | exact wpAny_pure hQ
    | (cases u <;> first
        | exact wpAny_pure hQ
        | (refine wpAny_bind (wpAny_load ho ?_)
           rw [hc, hd]
           show wpAny M A (if (["enumerate", "zip", "dict_itemiterator", "dict_reverseitemiterator", "odict_iterator", "itertools.zip_longest", "itertools.pairwise"].contains n && vs[0]? == some (rawInt _)) = true then _ else _) Q E s
           rw [if_neg (by intro h; rw [hn, Bool.false_and] at h; cases h)]
           exact wpAny_pure hQ))

/-- the list at a, as it stands at each turn (a loop may append to it) -/
def Itl (K : PySem.W.Frag) (a : Addr) : It :=
  ⟨fun i H => ∃ xs x, SqL K H a xs ∧ xs[i]? = some x, fun i H x H' => H' = H ∧ ∀ xs, SqL K H a xs → xs[i]? = some x, fun i H => ∃ xs, SqL K H a xs ∧ xs.length ≤ i⟩
def Itt (K : PySem.W.Frag) (a : Addr) : It :=
  ⟨fun i H => ∃ xs x, SqT K H a xs ∧ xs[i]? = some x, fun i H x H' => H' = H ∧ ∀ xs, SqT K H a xs → xs[i]? = some x, fun i H => ∃ xs, SqT K H a xs ∧ xs.length ≤ i⟩
/-- lo, lo + 1, .. (n of them) -/
def Itr (lo : Int) (n : Nat) : It := ⟨fun i _ => i < n, fun i H x H' => H' = H ∧ x = .int (lo + i), fun i _ => n ≤ i⟩
theorem turn_list {P : Program} {w : World} {K : PySem.W.Frag} {tg : Expr} (a it : Addr) : Turn P w K tg (Itl K a) [it] it (fun i h => h.IsListIter it a i) where
  mem := by simp
  obj := fun i h st b hb => by
    have e : b = it := by simpa using hb
    subst e
    obtain ⟨o, e, c, d⟩ := st
    exact ⟨o, e, fun v z => by rw [d] at z; cases z⟩
  keep := fun i h h' st k => st.at fun o e => k it (by simp) o e
  item := by
    intro X hP hw hK hc i pins s σ H E I hf st hg
    subst hP hw hK
    obtain ⟨xs, x, hq, hx⟩ := hg
    obtain ⟨its, rv, p, hz⟩ := I.list hq
    obtain ⟨u, hu, ru⟩ := rv.get hx
    obtain ⟨f0, f1, f2, f3, f4, f5⟩ := hf it (by simp)
    refine wpAny_pyNext_list_item st p.isList (x := u) (by simpa using hu) fun h' st' sb => ?_
    have I1 : Inv X pins σ H { s with heap := h' } := I.turned (t' := s.toks) (fun b o hb e => (sb.2 b hb).trans e) f0 f1 f3 f4 f5
    obtain ⟨o, e, c, d⟩ := id st'
    exact ⟨u, rfl, go_of (s := { s with heap := h' }) e c d (by decide) ⟨x, H, I1, ru, ⟨rfl, fun ys hy => by rw [I.list_inj hy hq]; exact hx⟩, st', fun b hb => (hf b hb).1⟩⟩
  done := by
    intro X hP hw hK hc i pins s σ H E I hf st hg
    subst hP hw hK
    obtain ⟨xs, hq, hx⟩ := hg
    obtain ⟨its, rv, p, hz⟩ := I.list hq
    obtain ⟨f0, f1, f2, f3, f4, f5⟩ := hf it (by simp)
    have hl := rv.length
    exact wpAny_pyNext_list_end (I.ok.hd hc) st p.isList (by simp; omega) fun h' eb => ⟨rfl, I.turned (t' := s.toks) (fun b o hb e => eb b o hb e) f0 f1 f3 f4 f5⟩
  self := fun _ _ _ _ _ st h => wpAny_pyIter_listiter st h
theorem turn_tuple {P : Program} {w : World} {K : PySem.W.Frag} {tg : Expr} (a it : Addr) : Turn P w K tg (Itt K a) [it] it (fun i h => h.IsTupleIter it a i) where
  mem := by simp
  obj := fun i h st b hb => by
    have e : b = it := by simpa using hb
    subst e
    obtain ⟨o, e, c, d⟩ := st
    exact ⟨o, e, fun v z => by rw [d] at z; cases z⟩
  keep := fun i h h' st k => st.at fun o e => k it (by simp) o e
  item := by
    intro X hP hw hK hc i pins s σ H E I hf st hg
    subst hP hw hK
    obtain ⟨xs, x, hq, hx⟩ := hg
    obtain ⟨its, rv, p, hz⟩ := I.tuple hq
    obtain ⟨u, hu, ru⟩ := rv.get hx
    obtain ⟨f0, f1, f2, f3, f4, f5⟩ := hf it (by simp)
    refine wpAny_pyNext_tuple_item st (show s.heap.IsTuple a its.toArray from p) (x := u) (by simpa using hu) fun h' st' sb => ?_
    have I1 : Inv X pins σ H { s with heap := h' } := I.turned (t' := s.toks) (fun b o hb e => (sb.2 b hb).trans e) f0 f1 f3 f4 f5
    obtain ⟨o, e, c, d⟩ := id st'
    exact ⟨u, rfl, go_of (s := { s with heap := h' }) e c d (by decide) ⟨x, H, I1, ru, ⟨rfl, fun ys hy => by rw [I.tuple_inj hy hq]; exact hx⟩, st', fun b hb => (hf b hb).1⟩⟩
  done := by
    intro X hP hw hK hc i pins s σ H E I hf st hg
    subst hP hw hK
    obtain ⟨xs, hq, hx⟩ := hg
    obtain ⟨its, rv, p, hz⟩ := I.tuple hq
    obtain ⟨f0, f1, f2, f3, f4, f5⟩ := hf it (by simp)
    have hl := rv.length
    exact wpAny_pyNext_tuple_end (I.ok.hd hc) st (show s.heap.IsTuple a its.toArray from p) (by simp; omega) fun h' eb => ⟨rfl, I.turned (t' := s.toks) (fun b o hb e => eb b o hb e) f0 f1 f3 f4 f5⟩
  self := fun _ _ _ _ _ st h => wpAny_pyIter_tupleiter st h
theorem turn_range {P : Program} {w : World} {K : PySem.W.Frag} {tg : Expr} (it : Addr) (lo : Int) (n : Nat) : Turn P w K tg (Itr lo n) [it] it (fun i h => IsRangeIter h it (lo + (i : Nat) * 1) ((n : Int) - (i : Nat)) 1) where
  mem := by simp
  obj := fun i h st b hb => by
    have e : b = it := by simpa using hb
    subst e
    exact ⟨_, st, fun v z => by
      have z' : Data.fields _ = Data.cell v := z
      cases z'⟩
  keep := fun i h h' st k => k it (by simp) _ st
  item := by
    intro X hP hw hK hc i pins s σ H E I hf st hg
    subst hP hw hK
    obtain ⟨f0, f1, f2, f3, f4, f5⟩ := hf it (by simp)
    have W := Walks.range (prog := X.prog) (w := X.w) (I.ok.hd hc) it lo 1 n
    refine W.item i s _ _ hg st fun v h' tk hv st' kk => ?_
    obtain ⟨t, rfl⟩ := hv
    have I1 : Inv X pins σ H { s with heap := h', toks := tk } := I.turned (fun b o hb e => kk b o (by simpa using hb) e) f0 f1 f3 f4 f5
    refine ⟨_, rfl, go_of (s := { s with heap := h', toks := tk }) (n := "range_iterator") st' rfl rfl (by decide) ⟨.int (lo + i), H, I1, ⟨t, ?_⟩, ⟨rfl, rfl⟩, st', fun b hb => (hf b hb).1⟩⟩
    rw [Int.mul_one]
  done := by
    intro X hP hw hK hc i pins s σ H E I hf st hg
    subst hP hw hK
    obtain ⟨f0, f1, f2, f3, f4, f5⟩ := hf it (by simp)
    exact wpAny_pyNext_range_end (I.ok.hd hc) st (by have : n ≤ i := hg; omega) fun h' eb => ⟨rfl, I.turned (t' := s.toks) (fun b o hb e => eb b o hb e) f0 f1 f3 f4 f5⟩
  self := fun _ _ _ _ _ st h => wpAny_pyIter_rangeiter st h
end L2

namespace L2
open PySem PySem.Spec PyProof.Rows
section
variable {X : Cx} {tg : Expr}
def iList (K : PySem.W.Frag) (tl : TE) : TI := fun σ H R => tl σ H fun x H1 => ∃ a, x = .ref a ∧ (∃ xs, SqL K H1 a xs) ∧ R (Itl K a) H1
def iTup (K : PySem.W.Frag) (tl : TE) : TI := fun σ H R => tl σ H fun x H1 => ∃ a, x = .ref a ∧ (∃ xs, SqT K H1 a xs) ∧ R (Itt K a) H1
theorem pi_list {l : Expr} {tl : TE} (hl : PE X l tl) : PI X tg l (iList X.K tl) := by
  intro pins s σ H R I h
  refine thn (hl pins s σ H _ I h) fun v s1 ⟨x, H1, I1, r1, q1⟩ => ?_
  obtain ⟨a, e, ⟨xs, hq⟩, q⟩ := q1
  subst e
  cases r1
  obtain ⟨its, rv, p, hz⟩ := I1.list hq
  refine wpAny_pyIter_list p.isList ?_
  refine ⟨s1.heap.objs.size, [s1.heap.objs.size], _, _, H1, rfl, I1.kept (t' := s1.toks) fun b o e => Heap.get?_push_of_some _ e, turn_list a _, ⟨_, Heap.get?_push_size _ rfl, rfl, rfl⟩, fun b hb => ?_, q⟩
  have e : b = s1.heap.objs.size := by simpa using hb
  subst e
  exact I1.fpOk (Nat.le_refl _) (I1.hok.fresh (Nat.le_refl _))
theorem pi_tup {l : Expr} {tl : TE} (hl : PE X l tl) : PI X tg l (iTup X.K tl) := by
  intro pins s σ H R I h
  refine thn (hl pins s σ H _ I h) fun v s1 ⟨x, H1, I1, r1, q1⟩ => ?_
  obtain ⟨a, e, ⟨xs, hq⟩, q⟩ := q1
  subst e
  cases r1
  obtain ⟨its, rv, p, hz⟩ := I1.tuple hq
  refine wpAny_pyIter_tuple (show s1.heap.IsTuple a its.toArray from p) ?_
  refine ⟨s1.heap.objs.size, [s1.heap.objs.size], _, _, H1, rfl, I1.kept (t' := s1.toks) fun b o e => Heap.get?_push_of_some _ e, turn_tuple a _, ⟨_, Heap.get?_push_size _ rfl, rfl, rfl⟩, fun b hb => ?_, q⟩
  have e : b = s1.heap.objs.size := by simpa using hb
  subst e
  exact I1.fpOk (Nat.le_refl _) (I1.hok.fresh (Nat.le_refl _))
/-- a range object just made, walked -/
theorem range_it {pins : List (Addr × Obj)} {σ : St} {H : Hp} {s : Shared} {R : It → Hp → Prop} {E : Value → Shared → Prop} {lo hi : Int} {t u v : Tok} {tk : Nat} (I : Inv X pins σ H s) (h1 : -(2 ^ 62) ≤ lo) (h2 : lo < 2 ^ 62) (h3 : -(2 ^ 62) ≤ hi) (h4 : hi < 2 ^ 62)
    (q : R (Itr lo (hi - lo).toNat) H) : wpAny (model X.prog X.w) X.A (pyIter (.ref s.heap.objs.size)) (PIE X pins σ tg R) E { s with heap := s.heap.push { cls := .type "range", data := .fields #[.int lo t, .int hi u, .int 1 v] }, toks := tk } := by
  refine wpAny_pyIter_range (IsRange.new ..) (small_one h1 h2 h3 h4) ?_
  have I1 : Inv X pins σ H { s with heap := s.heap.push { cls := .type "range", data := .fields #[.int lo t, .int hi u, .int 1 v] }, toks := tk } := I.kept fun b o e => Heap.get?_push_of_some _ e
  refine ⟨(s.heap.push { cls := .type "range", data := .fields #[.int lo t, .int hi u, .int 1 v] }).objs.size, [(s.heap.push { cls := .type "range", data := .fields #[.int lo t, .int hi u, .int 1 v] }).objs.size], _, _, H, rfl,
    I1.kept (t' := tk) fun b o e => Heap.get?_push_of_some _ e, turn_range _ lo (hi - lo).toNat, ?_, fun b hb => ?_, q⟩
  · have e1 : lo + ((0 : Nat) : Int) * 1 = lo := by simp
    have e2 : (((hi - lo).toNat : Nat) : Int) - ((0 : Nat) : Int) = Builtin.Range.rangeSize lo hi 1 := by rw [rangeSize_one]; split <;> omega
    show IsRangeIter _ _ (lo + ((0 : Nat) : Int) * 1) ((((hi - lo).toNat : Nat) : Int) - ((0 : Nat) : Int)) 1
    rw [e1, e2]
    exact Heap.get?_push_size _ rfl
  · have e : b = (s.heap.push { cls := .type "range", data := .fields #[.int lo t, .int hi u, .int 1 v] }).objs.size := by simpa using hb
    subst e
    exact I1.fpOk (Nat.le_refl _) (I1.hok.fresh (Nat.le_refl _))
def iRng1 (ta : TA) : TI := fun σ H R => ta σ H fun vs H1 => ∃ j : Int, vs = [.int j] ∧ -(2 ^ 62) ≤ j ∧ j < 2 ^ 62 ∧ R (Itr 0 j.toNat) H1
def iRng2 (ta : TA) : TI := fun σ H R => ta σ H fun vs H1 => ∃ i j : Int, vs = [.int i, .int j] ∧ (-(2 ^ 62) ≤ i ∧ i < 2 ^ 62 ∧ -(2 ^ 62) ≤ j ∧ j < 2 ^ 62) ∧ R (Itr i (j - i).toNat) H1
theorem pi_range1 {a : Expr} {ta : TA} {p pos : Pos} (hg : Gl X "range") (hm : X.mg "range" = none) (ha : PA X [a] ta) (hs : starEach [a] X.env = [(false, eval a X.env)] := by rfl) : PI X tg (.Call (.Name "range" p) [a] [] pos) (iRng1 ta) := by
  intro pins s σ H R I h
  refine Call_ (ld_blt I hg hm boot_range (PyProof.Rows.callWith_type1 (thn (ha pos pins s σ H _ I h) fun us s1 ⟨vs, H1, I1, r1, q1⟩ => ?_) hs rfl))
  obtain ⟨j, e, q1, q2, q⟩ := q1
  subst e
  cases r1 with
  | cons r rr =>
    cases rr
    obtain ⟨t, rfl⟩ := r
    exact call_range_1 (range_it I1 (by omega) (by omega) q1 q2 (by simpa using q))
/-! ### for -/
/-- W: the invariant by the turn and a measure; N: what the body is to reach -/
def tFor (wi : TI) (g : TG) (tb : TS) : TS := fun D σ H => wi σ H fun J H1 => ∃ W : Nat → Nat → St → Hp → Prop, (∃ m, W 0 m σ H1) ∧ ∀ i m σ H, W i m σ H →
  (J.stop i H ∧ D.nx σ H) ∨ (J.go i H ∧ ∃ N : St → Hp → Prop, (∀ σ' H', N σ' H' → ∃ m', m' < m ∧ W (i + 1) m' σ' H') ∧ ∀ x H', J.yld i H x H' → g x σ H' fun σ2 H2 => tb { D with nx := N, ct := N, bk := D.nx } σ2 H2)
/-- the records at fp as they stand -/
def pinsAt (fp : List Addr) (h : Heap) : List (Addr × Obj) := fp.filterMap fun b => (h.get? b).map fun o => (b, o)
theorem mem_pinsAt {fp : List Addr} {h : Heap} {b : Addr} {o : Obj} (hb : b ∈ fp) (e : h.get? b = some o) : (b, o) ∈ pinsAt fp h := List.mem_filterMap.mpr ⟨b, hb, by rw [e]; rfl⟩
theorem of_pinsAt {fp : List Addr} {h : Heap} {p : Addr × Obj} (hp : p ∈ pinsAt fp h) : p.1 ∈ fp ∧ h.get? p.1 = some p.2 := by
  obtain ⟨b, hb, e⟩ := List.mem_filterMap.mp hp
  cases q : h.get? b with
  | none => rw [q] at e; cases e
  | some o =>
    rw [q] at e
    have e' : (b, o) = p := Option.some.inj e
    subst e'
    exact ⟨hb, q⟩
theorem Inv.pinned {pins : List (Addr × Obj)} {σ : St} {H : Hp} {s : Shared} {fp : List Addr} (I : Inv X pins σ H s) (hf : ∀ b ∈ fp, FpOk X pins H b) (ho : ∀ b ∈ fp, ∃ o, s.heap.get? b = some o ∧ ∀ v, o.data ≠ .cell v) : Inv X (pins ++ pinsAt fp s.heap) σ H s :=
  I.pins_of fun p hp => (List.mem_append.mp hp).elim (fun z => I.pin p (List.mem_append_right _ z)) fun z => by
    obtain ⟨hb, e⟩ := of_pinsAt z
    obtain ⟨f0, f1, f2, _⟩ := hf p.1 hb
    obtain ⟨o, e', d⟩ := ho p.1 hb
    rw [e] at e'; cases e'
    exact ⟨e, f0, f1, f2, d⟩
theorem Inv.unpinned {pins pl : List (Addr × Obj)} {σ : St} {H : Hp} {s : Shared} (I : Inv X (pins ++ pl) σ H s) : Inv X pins σ H s := I.pins_of fun p hp => I.pin p (List.mem_append_right _ (List.mem_append_left _ hp))
theorem ps_for {iter : Expr} {body : List Stmt} {wi : TI} {g : TG} {tb : TS} {pos : Pos} (hp : PassesOwn (model X.prog X.w) X.A X.env X.xe) (hc : X.calm = true) (hi : PI X tg iter wi) (hg : PG X tg g) (hb : PSs X body tb)
    (hs : ∀ x, foldedSetIterable iter X.env x = pure x := by intro _; rfl) : PS X (.For tg iter body [] pos) (tFor wi g tb) := by
  intro pins s σ H D I h
  refine wpAny_For (thn (hi pins s σ H _ I h) fun v s1 h1 => thn h1 fun itv s2 h2 => ?_) hs
  obtain ⟨it, fp, tn, J, H2, e, I2, T, st2, f2, W, ⟨m0, w0⟩, turn⟩ := h2
  subst e
  -- what stays true of the iterator's objects through the loop
  have stat : ∀ {H' : Hp}, (∀ b ∈ fp, H' b = none) → ∀ b ∈ fp, FpOk X pins H' b := fun hn b hb => ⟨hn b hb, (f2 b hb).2⟩
  refine codeAny_forLoop_any (fun n s' => ∃ i σ' H', Inv X pins σ' H' s' ∧ tn i s'.heap ∧ (∀ b ∈ fp, H' b = none) ∧ W i n σ' H') ?_ m0 ⟨0, σ, H2, I2, st2, fun b hb => (f2 b hb).1, w0⟩
  rintro n s3 ⟨i, σ3, H3, I3, st3, fr3, w3⟩
  rcases turn i n σ3 H3 w3 with ⟨stop, qn⟩ | ⟨go, N, hN, step⟩
  · refine wpAny_passesOwn hp (thn (T.done X rfl rfl rfl hc i pins s3 σ3 H3 X.xe I3 (stat fr3) st3 stop) fun r s4 ⟨hr, I4⟩ => ?_)
    subst hr
    exact wpAny_execs_nil ⟨σ3, H3, I4, qn⟩
  · refine wpAny_passesOwn hp (thn (T.item X rfl rfl rfl hc i pins s3 σ3 H3 X.xe I3 (stat fr3) st3 go) fun r s4 ⟨u, hr, h4⟩ => ?_)
    subst hr
    refine wpAny_passesOwn hp (thn h4 fun _ s5 ⟨x, H5, I5, r5, y5, st5, fr5⟩ => ?_)
    have I5' := I5.pinned (stat fr5) (T.obj _ _ st5)
    refine wpAny_passesOwn hp (thn (hg _ s5 σ3 H5 x u _ I5' r5 (step x H5 y5)) fun _ s6 ⟨σ6, H6, I6, q6⟩ => ?_)
    refine wpAny_passesOwn hp (thn (hb _ s6 σ6 H6 _ I6 q6) fun f s7 q7 => ?_)
    have again : ∀ {σ7 : St} {H7 : Hp}, Inv X (pins ++ pinsAt fp s5.heap) σ7 H7 s7 → N σ7 H7 → ∃ m, m < n ∧ ∃ i σ' H', Inv X pins σ' H' s7 ∧ tn i s7.heap ∧ (∀ b ∈ fp, H' b = none) ∧ W i m σ' H' := fun {σ7 H7} I7 n7 => by
      obtain ⟨m', hm, w7⟩ := hN σ7 H7 n7
      refine ⟨m', hm, i + 1, σ7, H7, I7.unpinned, T.keep _ _ _ st5 fun b hb o e => (I7.pin (b, o) (List.mem_append_right _ (List.mem_append_right _ (mem_pinsAt hb e)))).1, fun b hb => ?_, w7⟩
      obtain ⟨o, e, d⟩ := T.obj _ _ st5 b hb
      exact (I7.pin (b, o) (List.mem_append_right _ (List.mem_append_right _ (mem_pinsAt hb e)))).2.1
    cases f with
    | next => obtain ⟨σ7, H7, I7, n7⟩ := q7; exact again I7 n7
    | cont => obtain ⟨σ7, H7, I7, n7⟩ := q7; exact again I7 n7
    | brk => obtain ⟨σ7, H7, I7, q7⟩ := q7; exact ⟨σ7, H7, I7.unpinned, q7⟩
    | ret v => obtain ⟨x7, σ7, H7, I7, r7, q7⟩ := q7; exact ⟨x7, σ7, H7, I7.unpinned, r7, q7⟩
end

/-! ### the forms one uses -/
/-- over a list that the body leaves as it is -/
theorem for_list {K : PySem.W.Frag} {a : Addr} {xs : List V} {g : TG} {tb : TS} {D : Ends} {σ : St} {H : Hp} (Pv : Nat → St → Hp → Prop) (h0 : Pv 0 σ H) (hl : ∀ i σ H, i ≤ xs.length → Pv i σ H → SqL K H a xs)
    (hs : ∀ i x σ H, xs[i]? = some x → Pv i σ H → g x σ H fun σ2 H2 => tb { D with nx := Pv (i + 1), ct := Pv (i + 1), bk := D.nx } σ2 H2) (hd : ∀ σ H, Pv xs.length σ H → D.nx σ H) :
    ∃ W : Nat → Nat → St → Hp → Prop, (∃ m, W 0 m σ H) ∧ ∀ i m σ H, W i m σ H →
      ((Itl K a).stop i H ∧ D.nx σ H) ∨ ((Itl K a).go i H ∧ ∃ N : St → Hp → Prop, (∀ σ' H', N σ' H' → ∃ m', m' < m ∧ W (i + 1) m' σ' H') ∧ ∀ x H', (Itl K a).yld i H x H' → g x σ H' fun σ2 H2 => tb { D with nx := N, ct := N, bk := D.nx } σ2 H2) := by
  refine ⟨fun i m σ H => m = xs.length - i ∧ i ≤ xs.length ∧ Pv i σ H, ⟨xs.length, by simp, Nat.zero_le _, h0⟩, ?_⟩
  rintro i m σ H ⟨rfl, hi, p⟩
  have q := hl i σ H hi p
  by_cases hlt : i < xs.length
  · refine .inr ⟨⟨xs, xs[i], q, by simp [hlt]⟩, Pv (i + 1), fun σ' H' p' => ⟨xs.length - (i + 1), by omega, rfl, hlt, p'⟩, fun x H' y => ?_⟩
    obtain ⟨e, y⟩ := y
    subst e
    exact hs i x σ _ (y xs q) p
  · have e : i = xs.length := by omega
    subst e
    exact .inl ⟨⟨xs, q, Nat.le_refl _⟩, hd σ H p⟩
theorem for_tup {K : PySem.W.Frag} {a : Addr} {xs : List V} {g : TG} {tb : TS} {D : Ends} {σ : St} {H : Hp} (Pv : Nat → St → Hp → Prop) (h0 : Pv 0 σ H) (hl : ∀ i σ H, i ≤ xs.length → Pv i σ H → SqT K H a xs)
    (hs : ∀ i x σ H, xs[i]? = some x → Pv i σ H → g x σ H fun σ2 H2 => tb { D with nx := Pv (i + 1), ct := Pv (i + 1), bk := D.nx } σ2 H2) (hd : ∀ σ H, Pv xs.length σ H → D.nx σ H) :
    ∃ W : Nat → Nat → St → Hp → Prop, (∃ m, W 0 m σ H) ∧ ∀ i m σ H, W i m σ H →
      ((Itt K a).stop i H ∧ D.nx σ H) ∨ ((Itt K a).go i H ∧ ∃ N : St → Hp → Prop, (∀ σ' H', N σ' H' → ∃ m', m' < m ∧ W (i + 1) m' σ' H') ∧ ∀ x H', (Itt K a).yld i H x H' → g x σ H' fun σ2 H2 => tb { D with nx := N, ct := N, bk := D.nx } σ2 H2) := by
  refine ⟨fun i m σ H => m = xs.length - i ∧ i ≤ xs.length ∧ Pv i σ H, ⟨xs.length, by simp, Nat.zero_le _, h0⟩, ?_⟩
  rintro i m σ H ⟨rfl, hi, p⟩
  have q := hl i σ H hi p
  by_cases hlt : i < xs.length
  · refine .inr ⟨⟨xs, xs[i], q, by simp [hlt]⟩, Pv (i + 1), fun σ' H' p' => ⟨xs.length - (i + 1), by omega, rfl, hlt, p'⟩, fun x H' y => ?_⟩
    obtain ⟨e, y⟩ := y
    subst e
    exact hs i x σ _ (y xs q) p
  · have e : i = xs.length := by omega
    subst e
    exact .inl ⟨⟨xs, q, Nat.le_refl _⟩, hd σ H p⟩
theorem for_range {lo : Int} {n : Nat} {g : TG} {tb : TS} {D : Ends} {σ : St} {H : Hp} (Pv : Nat → St → Hp → Prop) (h0 : Pv 0 σ H)
    (hs : ∀ i σ H, i < n → Pv i σ H → g (.int (lo + i)) σ H fun σ2 H2 => tb { D with nx := Pv (i + 1), ct := Pv (i + 1), bk := D.nx } σ2 H2) (hd : ∀ σ H, Pv n σ H → D.nx σ H) :
    ∃ W : Nat → Nat → St → Hp → Prop, (∃ m, W 0 m σ H) ∧ ∀ i m σ H, W i m σ H →
      ((Itr lo n).stop i H ∧ D.nx σ H) ∨ ((Itr lo n).go i H ∧ ∃ N : St → Hp → Prop, (∀ σ' H', N σ' H' → ∃ m', m' < m ∧ W (i + 1) m' σ' H') ∧ ∀ x H', (Itr lo n).yld i H x H' → g x σ H' fun σ2 H2 => tb { D with nx := N, ct := N, bk := D.nx } σ2 H2) := by
  refine ⟨fun i m σ H => m = n - i ∧ i ≤ n ∧ Pv i σ H, ⟨n, by simp, Nat.zero_le _, h0⟩, ?_⟩
  rintro i m σ H ⟨rfl, hi, p⟩
  by_cases hlt : i < n
  · refine .inr ⟨hlt, Pv (i + 1), fun σ' H' p' => ⟨n - (i + 1), by omega, rfl, hlt, p'⟩, fun x H' y => ?_⟩
    obtain ⟨e, y⟩ := y
    subst e y
    exact hs i σ _ hlt p
  · have e : i = n := by omega
    subst e
    exact .inl ⟨Nat.le_refl _, hd σ H p⟩
end L2

namespace L2
open PySem PySem.Spec PyProof.Rows

abbrev R2 := V → V → Hp → VK → Prop
/-- a two-place operation on values: f is binaryOp op, inplaceOp op or compareOp op -/
def OpR (X : Cx) (f : Value → Value → Sem Value) (r : R2) : Prop :=
  ∀ (pins : List (Addr × Obj)) (s : Shared) (σ : St) (H : Hp) (x y : V) (v u : Value) (Q : VK), Inv X pins σ H s → RelV x v → RelV y u → r x y H Q →
    wpAny (model X.prog X.w) X.A (f v u) (EP X pins σ Q) X.xe s
/-- a one-place operation -/
def UnR (X : Cx) (f : Value → Sem Value) (r : V → Hp → VK → Prop) : Prop :=
  ∀ (pins : List (Addr × Obj)) (s : Shared) (σ : St) (H : Hp) (x : V) (v : Value) (Q : VK), Inv X pins σ H s → RelV x v → r x H Q →
    wpAny (model X.prog X.w) X.A (f v) (EP X pins σ Q) X.xe s
/-- a call of a value that is known (a builtin, a type) with values -/
def CallR (X : Cx) (f : Value) (r : List V → Hp → VK → Prop) : Prop :=
  ∀ (pins : List (Addr × Obj)) (s : Shared) (σ : St) (H : Hp) (xs : List V) (us : List Value) (Q : VK), Inv X pins σ H s → Vals xs us → r xs H Q →
    wpAny (model X.prog X.w) X.A (call f us) (EP X pins σ Q) X.xe s
def tOp (r : R2) (ta tb : TE) : TE := fun σ H Q => ta σ H fun x H1 => tb σ H1 fun y H2 => r x y H2 Q
def tUn (r : V → Hp → VK → Prop) (ta : TE) : TE := fun σ H Q => ta σ H fun x H1 => r x H1 Q
/-- ints in, under C, and a value out -/
def rI (C : Int → Int → Prop) (g : Int → Int → V) : R2 := fun x y H Q => ∃ i j, x = .int i ∧ y = .int j ∧ C i j ∧ Q (g i j) H
def rI0 (g : Int → Int → V) : R2 := fun x y H Q => ∃ i j, x = .int i ∧ y = .int j ∧ Q (g i j) H
def rU (g : Int → V) : V → Hp → VK → Prop := fun x H Q => ∃ i, x = .int i ∧ Q (g i) H

section
variable {X : Cx} {a b c : Expr} {ta tb tc : TE} {pos : Pos}

theorem binT (ha : PE X a ta) (hb : PE X b tb) {pins : List (Addr × Obj)} {s : Shared} {σ : St} {H : Hp} {R : V → V → Hp → Prop} (I : Inv X pins σ H s)
    (h : ta σ H fun x H1 => tb σ H1 fun y H2 => R x y H2) {Q : Value → Shared → Prop} {f : Value → Value → Sem Value}
    (hf : ∀ v u s2 x y H2, Inv X pins σ H2 s2 → RelV x v → RelV y u → R x y H2 → wpAny (model X.prog X.w) X.A (f v u) Q X.xe s2) :
    wpAny (model X.prog X.w) X.A (eval a X.env) (fun v s₁ => wpAny (model X.prog X.w) X.A (eval b X.env) (fun u s₂ => wpAny (model X.prog X.w) X.A (f v u) Q X.xe s₂) X.xe s₁) X.xe s := by
  refine thn (ha pins s σ H _ I h) fun v s1 ⟨x, H1, I1, r1, q1⟩ => ?_
  refine thn (hb pins s1 σ H1 _ I1 q1) fun u s2 ⟨y, H2, I2, r2, q2⟩ => ?_
  exact hf v u s2 x y H2 I2 r1 r2 q2

theorem pe_op {op : Operator} {r : R2} (ho : OpR X (binaryOp op) r) (ha : PE X a ta) (hb : PE X b tb) : PE X (.BinOp a op b pos) (tOp r ta tb) := by
  intro pins s σ H Q I h
  exact wpAny_BinOp (binT ha hb I h fun v u s2 x y H2 I2 rx ry q => ho pins s2 σ H2 x y v u Q I2 rx ry q)
theorem pe_un {op : UnaryOp} {r : V → Hp → VK → Prop} (ho : UnR X (unaryOp op) r) (ha : PE X a ta) : PE X (.UnaryOp op a pos) (tUn r ta) := by
  intro pins s σ H Q I h
  exact UnaryOp_ (thn (ha pins s σ H _ I h) fun v s1 ⟨x, H1, I1, r1, q1⟩ => ho pins s1 σ H1 x v Q I1 r1 q1)
/-! ### ints -/
theorem opI {f : Value → Value → Sem Value} {C : Int → Int → Prop} {g : Int → Int → Int}
    (rule : ∀ (i j : Int) (t u : Tok) (s : Shared) (Q : Value → Shared → Prop) (E : Value → Shared → Prop), C i j → Q (.int (g i j) s.toks) { s with toks := s.toks + 1 } → wpAny (model X.prog X.w) X.A (f (.int i t) (.int j u)) Q E s) :
    OpR X f (rI C fun i j => .int (g i j)) := by
  intro pins s σ H x y v u Q I rx ry h
  obtain ⟨i, j, rfl, rfl, hc, q⟩ := h
  obtain ⟨t, rfl⟩ := rx
  obtain ⟨t', rfl⟩ := ry
  exact rule i j t t' s _ _ hc ⟨.int (g i j), H, I.tok _, ⟨_, rfl⟩, q⟩
theorem opI0 {f : Value → Value → Sem Value} {g : Int → Int → Int}
    (rule : ∀ (i j : Int) (t u : Tok) (s : Shared) (Q : Value → Shared → Prop) (E : Value → Shared → Prop), Q (.int (g i j) s.toks) { s with toks := s.toks + 1 } → wpAny (model X.prog X.w) X.A (f (.int i t) (.int j u)) Q E s) :
    OpR X f (rI0 fun i j => .int (g i j)) := by
  intro pins s σ H x y v u Q I rx ry h
  obtain ⟨i, j, rfl, rfl, q⟩ := h
  obtain ⟨t, rfl⟩ := rx
  obtain ⟨t', rfl⟩ := ry
  exact rule i j t t' s _ _ ⟨.int (g i j), H, I.tok _, ⟨_, rfl⟩, q⟩
theorem opB0 {f : Value → Value → Sem Value} {g : Int → Int → Bool}
    (rule : ∀ (i j : Int) (t u : Tok) (s : Shared) (Q : Value → Shared → Prop) (E : Value → Shared → Prop), Q (.bool (g i j)) s → wpAny (model X.prog X.w) X.A (f (.int i t) (.int j u)) Q E s) :
    OpR X f (rI0 fun i j => .bl (g i j)) := by
  intro pins s σ H x y v u Q I rx ry h
  obtain ⟨i, j, rfl, rfl, q⟩ := h
  obtain ⟨t, rfl⟩ := rx
  obtain ⟨t', rfl⟩ := ry
  exact rule i j t t' s _ _ ⟨.bl (g i j), H, I, rfl, q⟩

def CPow (i j : Int) : Prop := 0 ≤ j ∧ j ≤ 1000000 ∧ i.natAbs < 2 ^ 64
theorem op_add : OpR X (binaryOp .Add) (rI0 fun i j => .int (i + j)) := opI0 fun _ _ _ _ _ _ _ q => add_int q
theorem op_sub : OpR X (binaryOp .Sub) (rI0 fun i j => .int (i - j)) := opI0 fun _ _ _ _ _ _ _ q => sub_int q
/-- % by a positive divisor of any size -/
theorem op_mod : OpR X (binaryOp .Mod) (rI (fun _ j => 0 < j) fun i j => .int (i % j)) := opI fun i j _ _ _ _ _ hc q => by
  have h1 : (0 : Int) < j := hc
  exact mod_int' (by omega) (by rw [Int.fmod_eq_emod_of_nonneg i (by omega)]; exact q)
theorem op_pow : OpR X (binaryOp .Pow) (rI CPow fun i j => .int (i ^ j.toNat)) := opI fun _ _ _ _ _ _ _ hc q => pow_int_small hc.1 hc.2.1 hc.2.2 q
theorem unI {f : Value → Sem Value} {g : Int → Int}
    (rule : ∀ (i : Int) (t : Tok) (s : Shared) (Q : Value → Shared → Prop) (E : Value → Shared → Prop), Q (.int (g i) s.toks) { s with toks := s.toks + 1 } → wpAny (model X.prog X.w) X.A (f (.int i t)) Q E s) :
    UnR X f (rU fun i => .int (g i)) := by
  intro pins s σ H x v Q I rx h
  obtain ⟨i, rfl, q⟩ := h
  obtain ⟨t, rfl⟩ := rx
  exact rule i t s _ _ ⟨.int (g i), H, I.tok _, ⟨_, rfl⟩, q⟩
theorem un_neg : UnR X (unaryOp .USub) (rU fun i => .int (-i)) := unI fun _ _ _ _ _ q => neg_int q
/-! ### bools among ints: n += (a < b) -/
end

/-! ### comparisons -/
/-- the scalars that == tells apart as data does -/
def scal : V → V → Bool
  | .non, .non => true | .non, .int _ => true | .int _, .non => true | .non, .bl _ => true | .bl _, .non => true | .non, .str _ => true | .str _, .non => true
  | .int _, .int _ => true | .bl _, .bl _ => true | .str _, .str _ => true | .byt _, .byt _ => true
  | .int _, .str _ => true | .str _, .int _ => true | .bl _, .str _ => true | .str _, .bl _ => true
  | _, _ => false
def rEq : R2 := fun x y H Q => scal x y = true ∧ Q (.bl (decide (x = y))) H
def rNe : R2 := fun x y H Q => scal x y = true ∧ Q (.bl (!decide (x = y))) H

theorem dec_int {i j : Int} : decide (V.int i = V.int j) = (i == j) := by
  rw [Bool.eq_iff_iff]
  simp
theorem dec_bl {i j : Bool} : decide (V.bl i = V.bl j) = (i == j) := by
  rw [Bool.eq_iff_iff]
  simp
theorem dec_str {i j : Str} : decide (V.str i = V.str j) = (i == j) := by
  rw [Bool.eq_iff_iff]
  simp
theorem dec_byt {i j : Array UInt8} : decide (V.byt i = V.byt j) = (i.toList == j.toList) := by
  rw [Bool.eq_iff_iff]
  cases i
  cases j
  simp

section
variable {X : Cx} {a b c : Expr} {ta tb tc : TE} {pos : Pos}
theorem fin_bl {pins : List (Addr × Obj)} {σ : St} {H : Hp} {s : Shared} {Q : VK} {k k' : Bool} (I : Inv X pins σ H s) (q : Q (.bl k) H) (e : k = k') : EP X pins σ Q (.bool k') s := by
  subst e
  exact ⟨.bl k, H, I, rfl, q⟩
theorem op_eq : OpR X (compareOp .Eq) rEq := by
  intro pins s σ H x y v u Q I rx ry h
  obtain ⟨hs, q⟩ := h
  cases x with
  | non =>
    cases rx
    cases y with
    | non => cases ry; exact PySem.EqNone.eq_none_none (fin_bl I q (by simp))
    | bl j => cases ry; exact PySem.EqNone.eq_none_bool (fin_bl I q (by simp))
    | int j => obtain ⟨t', rfl⟩ := ry; exact PySem.EqNone.eq_none_int (fin_bl I q (by simp))
    | str j => obtain ⟨t', rfl⟩ := ry; exact PySem.EqNone.eq_none_str (fin_bl I q (by simp))
    | _ => exact absurd (show false = true from hs) Bool.false_ne_true
  | bl i =>
    cases rx
    cases y with
    | non => cases ry; exact PySem.EqNone.eq_bool_none (fin_bl I q (by simp))
    | bl j => cases ry; exact eq_bool (fin_bl I q dec_bl)
    | str j => obtain ⟨t', rfl⟩ := ry; exact PySem.EqMixed.eq_bool_str (fin_bl I q (by simp))
    | _ => exact absurd (show false = true from hs) Bool.false_ne_true
  | int i =>
    obtain ⟨t, rfl⟩ := rx
    cases y with
    | non => cases ry; exact PySem.EqNone.eq_int_none (fin_bl I q (by simp))
    | int j => obtain ⟨t', rfl⟩ := ry; exact eq_int (fin_bl I q dec_int)
    | str j => obtain ⟨t', rfl⟩ := ry; exact PySem.EqMixed.eq_int_str (fin_bl I q (by simp))
    | _ => exact absurd (show false = true from hs) Bool.false_ne_true
  | str i =>
    obtain ⟨t, rfl⟩ := rx
    cases y with
    | non => cases ry; exact PySem.EqNone.eq_str_none (fin_bl I q (by simp))
    | bl j => cases ry; exact PySem.EqMixed.eq_str_bool (fin_bl I q (by simp))
    | int j => obtain ⟨t', rfl⟩ := ry; exact PySem.EqMixed.eq_str_int (fin_bl I q (by simp))
    | str j => obtain ⟨t', rfl⟩ := ry; exact eq_str (fin_bl I q dec_str)
    | _ => exact absurd (show false = true from hs) Bool.false_ne_true
  | byt i =>
    obtain ⟨t, rfl⟩ := rx
    cases y with
    | byt j => obtain ⟨t', rfl⟩ := ry; exact PySem.W.eq_bytes (fin_bl I q dec_byt)
    | _ => exact absurd (show false = true from hs) Bool.false_ne_true
  | _ => cases y <;> exact absurd (show false = true from hs) Bool.false_ne_true
theorem op_ne : OpR X (compareOp .NotEq) rNe := by
  intro pins s σ H x y v u Q I rx ry h
  obtain ⟨hs, q⟩ := h
  cases x with
  | non =>
    cases rx
    cases y with
    | non => cases ry; exact PySem.EqNone.ne_none_none (fin_bl I q (by simp))
    | bl j => cases ry; exact PySem.EqNone.ne_none_bool (fin_bl I q (by simp))
    | int j => obtain ⟨t', rfl⟩ := ry; exact PySem.EqNone.ne_none_int (fin_bl I q (by simp))
    | str j => obtain ⟨t', rfl⟩ := ry; exact PySem.EqNone.ne_none_str (fin_bl I q (by simp))
    | _ => exact absurd (show false = true from hs) Bool.false_ne_true
  | bl i =>
    cases rx
    cases y with
    | non => cases ry; exact PySem.EqNone.ne_bool_none (fin_bl I q (by simp))
    | bl j => cases ry; exact ne_bool (fin_bl I q (congrArg not dec_bl))
    | str j => obtain ⟨t', rfl⟩ := ry; exact PySem.EqMixed.ne_bool_str (fin_bl I q (by simp))
    | _ => exact absurd (show false = true from hs) Bool.false_ne_true
  | int i =>
    obtain ⟨t, rfl⟩ := rx
    cases y with
    | non => cases ry; exact PySem.EqNone.ne_int_none (fin_bl I q (by simp))
    | int j => obtain ⟨t', rfl⟩ := ry; exact ne_int (fin_bl I q (congrArg not dec_int))
    | str j => obtain ⟨t', rfl⟩ := ry; exact PySem.EqMixed.ne_int_str (fin_bl I q (by simp))
    | _ => exact absurd (show false = true from hs) Bool.false_ne_true
  | str i =>
    obtain ⟨t, rfl⟩ := rx
    cases y with
    | non => cases ry; exact PySem.EqNone.ne_str_none (fin_bl I q (by simp))
    | bl j => cases ry; exact PySem.EqMixed.ne_str_bool (fin_bl I q (by simp))
    | int j => obtain ⟨t', rfl⟩ := ry; exact PySem.EqMixed.ne_str_int (fin_bl I q (by simp))
    | str j => obtain ⟨t', rfl⟩ := ry; exact ne_str (fin_bl I q (congrArg not dec_str))
    | _ => exact absurd (show false = true from hs) Bool.false_ne_true
  | byt i =>
    obtain ⟨t, rfl⟩ := rx
    cases y with
    | byt j => obtain ⟨t', rfl⟩ := ry; exact PySem.W.ne_bytes (fin_bl I q (congrArg not dec_byt))
    | _ => exact absurd (show false = true from hs) Bool.false_ne_true
  | _ => cases y <;> exact absurd (show false = true from hs) Bool.false_ne_true

theorem op_lt : OpR X (compareOp .Lt) (rI0 fun i j => .bl (decide (i < j))) := opB0 fun _ _ _ _ _ _ _ q => lt_int q
theorem op_le : OpR X (compareOp .LtE) (rI0 fun i j => .bl (decide (i ≤ j))) := opB0 fun _ _ _ _ _ _ _ q => le_int q
theorem op_gt : OpR X (compareOp .Gt) (rI0 fun i j => .bl (decide (j < i))) := opB0 fun _ _ _ _ _ _ _ q => gt_int q
theorem op_ge : OpR X (compareOp .GtE) (rI0 fun i j => .bl (decide (j ≤ i))) := opB0 fun _ _ _ _ _ _ _ q => ge_int q
theorem op_notN : OpR X (compareOp .IsNot) (fun x y H Q => y = .non ∧ Q (.bl (!decide (x = .non))) H) := by
  intro pins s σ H x y v u Q I rx ry h
  obtain ⟨rfl, q⟩ := h
  cases ry
  refine isnot_none_gen (fin_bl I q ?_)
  cases x <;> first
    | (cases rx; rfl)
    | (obtain ⟨t, rfl⟩ := rx; rfl)

/-- two rules for one operation: by cases -/
theorem OpR.or {f : Value → Value → Sem Value} {r r' : R2} (h : OpR X f r) (h' : OpR X f r') : OpR X f (fun x y H Q => r x y H Q ∨ r' x y H Q) := by
  intro pins s σ H x y v u Q I rx ry q
  rcases q with q | q
  · exact h pins s σ H x y v u Q I rx ry q
  · exact h' pins s σ H x y v u Q I rx ry q

theorem nomark (b : Expr) {op : CmpOp} (h : op ≠ .In := by decide) (h2 : op ≠ .NotIn := by decide) : behindInMarks op b = false := by
  have e1 : (op == CmpOp.In) = false := by cases op <;> first | rfl | exact absurd rfl h
  have e2 : (op == CmpOp.NotIn) = false := by cases op <;> first | rfl | exact absurd rfl h2
  cases b <;> simp [behindInMarks, e1, e2]
/-- a reading of a value as a test -/
def tTest (t : TE) : TT := fun σ H Q => t σ H fun x H' => ∃ k, x = .bl k ∧ Q k H'
theorem pt_cmpR {op : CmpOp} {r : R2} (ho : OpR X (compareOp op) r) (ha : PE X a ta) (hb : PE X b tb) (hm : behindInMarks op b = false) : PT X (.Compare a [op] [b] pos) (tTest (tOp r ta tb)) := by
  intro pins s σ H Q I h
  refine wpAny_isTrue_Compare1 (thn (ha pins s σ H _ I h) fun v s1 ⟨x, H1, I1, r1, q1⟩ => thn (hb pins s1 σ H1 _ I1 q1) fun u s2 ⟨y, H2, I2, r2, q2⟩ =>
    thn (ho pins s2 σ H2 x y v u _ I2 r1 r2 q2) fun c s3 ⟨z, H3, I3, r3, k, e, q3⟩ => ?_) hm
  subst e
  cases r3
  exact wpAny_truthy_bool ⟨H3, I3, q3⟩
/-- a op1 b op2 c -/
def tChain (r r' : R2) (ta tb tc : TE) : TE := fun σ H Q => ta σ H fun x H1 => tb σ H1 fun y H2 => r x y H2 fun z H3 => ∃ k, z = .bl k ∧
  (if k = true then tc σ H3 fun w' H4 => r' y w' H4 Q else Q (.bl false) H3)
theorem pt_chain {op op' : CmpOp} {r r' : R2} (ho : OpR X (compareOp op) r) (ho' : OpR X (compareOp op') r') (ha : PE X a ta) (hb : PE X b tb) (hc : PE X c tc)
    (hm : lastMarks [op, op'] [b, c] = false := by with_unfolding_all rfl) : PT X (.Compare a [op, op'] [b, c] pos) (tTest (tChain r r' ta tb tc)) := by
  intro pins s σ H Q I h
  refine isTrue_chain (thn (ha pins s σ H _ I h) fun v s1 ⟨x, H1, I1, r1, q1⟩ => test_link (thn (hb pins s1 σ H1 _ I1 q1) fun u s2 ⟨y, H2, I2, r2, q2⟩ =>
    thn (ho pins s2 σ H2 x y v u _ I2 r1 r2 q2) fun d s3 ⟨z, H3, I3, r3, k, e, q3⟩ => ?_)) hm
  subst e
  cases r3
  refine wpAny_truthy_bool ?_
  cases k with
  | false =>
    obtain ⟨k', e', q'⟩ := q3
    cases e'
    exact ite_ff ⟨H3, I3, q'⟩
  | true =>
    refine ite_tt (test_last (thn (hc pins s3 σ H3 _ I3 q3) fun w' s4 ⟨z', H4, I4, r4, q4⟩ => thn (ho' pins s4 σ H4 y z' u w' _ I4 r2 r4 q4) fun d' s5 ⟨z2, H5, I5, r5, k2, e2, q5⟩ => ?_))
    subst e2
    cases r5
    exact wpAny_truthy_bool ⟨H5, I5, q5⟩

/-! ### truth -/
theorem line63 : (sizeLine : Nat) < 2 ^ 63 := by rw [sizeLine_eq]; decide
/-! ### strs and bytes -/
/-! ### scalar builtins, by CallR -/
theorem vals1 {x : V} {us : List Value} (r : Vals [x] us) : ∃ u, us = [u] ∧ RelV x u := by
  cases r with
  | cons r1 r2 => cases r2; exact ⟨_, rfl, r1⟩
theorem vals2 {x y : V} {us : List Value} (r : Vals [x, y] us) : ∃ u w', us = [u, w'] ∧ RelV x u ∧ RelV y w' := by
  cases r with
  | cons r1 r2 =>
    cases r2 with
    | cons r3 r4 => cases r4; exact ⟨_, _, rfl, r1, r3⟩
theorem call_abs : CallR X (.builtin "abs") (fun xs H Q => ∃ i, xs = [.int i] ∧ Q (.int (if i < 0 then -i else i)) H) := by
  intro pins s σ H xs us Q I r h
  obtain ⟨i, rfl, q⟩ := h
  obtain ⟨u, rfl, t, rfl⟩ := vals1 r
  exact call_abs_int fun u tk => ⟨.int (if i < 0 then -i else i), H, I.tok _, ⟨_, rfl⟩, q⟩
theorem call_max2 (hc : X.calm = true) : CallR X (.builtin "max") (fun xs H Q => ∃ i j, xs = [.int i, .int j] ∧ Q (.int (if j > i then j else i)) H) := by
  intro pins s σ H xs us Q I r h
  obtain ⟨i, j, rfl, q⟩ := h
  obtain ⟨u, w', rfl, ⟨t, rfl⟩, ⟨t', rfl⟩⟩ := vals2 r
  refine max_two_ints (I.ok.hd hc) fun h' tk k => ⟨_, H, I.kept k, ?_, q⟩
  by_cases hj : j > i
  · rw [if_pos hj, if_pos hj]; exact ⟨_, rfl⟩
  · rw [if_neg hj, if_neg hj]; exact ⟨_, rfl⟩
theorem call_min2 (hc : X.calm = true) : CallR X (.builtin "min") (fun xs H Q => ∃ i j, xs = [.int i, .int j] ∧ Q (.int (if j < i then j else i)) H) := by
  intro pins s σ H xs us Q I r h
  obtain ⟨i, j, rfl, q⟩ := h
  obtain ⟨u, w', rfl, ⟨t, rfl⟩, ⟨t', rfl⟩⟩ := vals2 r
  refine min_two_ints (I.ok.hd hc) fun h' tk k => ⟨_, H, I.kept k, ?_, q⟩
  by_cases hj : j < i
  · rw [if_pos hj, if_pos hj]; exact ⟨_, rfl⟩
  · rw [if_neg hj, if_neg hj]; exact ⟨_, rfl⟩
end
end L2

namespace L2
open PySem PySem.Spec PyProof.Rows

/-! ### an instance, its attributes a map -/
structure ObjM (h : Heap) (x dx C : Addr) (mA : Str → Option Value) : Prop where
  obj : h.get? x = some (PySem.W.instObj C dx)
  ns : h.Ns1 dx mA
  ne : dx ≠ x

theorem lookIn_ns {h : Heap} {dx : Addr} {mA : Str → Option Value} (n : h.Ns1 dx mA) : ∃ od, h.get? dx = some od ∧ ∀ name, PySem.W.lookIn name od = some (mA name) := by
  obtain ⟨o, es, ep, ho, hd, hk, _, hm⟩ := n
  refine ⟨o, ho, fun name => ?_⟩
  have e := hm name
  unfold nsFind findBy at e
  rw [← Array.find?_toList] at e
  unfold PySem.W.lookIn
  rw [hd]
  dsimp only
  split
  · rename_i y q
    rw [q] at e
    exact congrArg some e
  · rename_i q
    rw [q] at e
    have a : es.toList.any (·.refKey) = false := by
      rw [List.any_eq_false]
      intro y hy
      obtain ⟨z, t, hkey⟩ := hk y (Array.mem_toList_iff.mp hy)
      simp [DictEntry.refKey, hkey]
    have a' : ¬ es.toList.any (·.refKey) = true := by rw [a]; exact Bool.false_ne_true
    rw [if_neg a']
    exact congrArg some e

theorem ObjM.look {h : Heap} {x dx C : Addr} {mA : Str → Option Value} (I : ObjM h x dx C mA) : ∃ od, PySem.W.InstAt h x (PySem.W.instObj C dx) C (some od) ∧ ∀ name, PySem.W.lookIn name od = some (mA name) :=
  let ⟨od, ho, hl⟩ := lookIn_ns I.ns
  ⟨od, ⟨I.obj, rfl, rfl, ho⟩, hl⟩

section
variable {prog : Program} {w : World} {A : Around} {E : Value → Shared → Prop} {s : Shared} {K : PySem.W.Frag} {x dx C f : Addr} {mA : Str → Option Value} {name : Str} {v : Value}

end

/-! ### the attributes as a list of pairs -/
theorem RelO.some_of {v : V} {o : Option Value} (r : RelO (some v) o) : ∃ u, o = some u ∧ RelV v u := by
  cases o with
  | none => exact (show False from r).elim
  | some u => exact ⟨u, rfl, r⟩
section
variable {P : Program} {w : World} {H H' : Hp} {h h' : Heap} {a C dx : Addr} {fs fs' : List (Str × V)}
theorem ins_get (hok : HOk P w H h) (e : H a = some (.ins C dx fs)) : ∃ mA, ObjM h a dx C mA ∧ (∀ f, RelO (fs.lookup f) (mA f)) ∧ PySem.Within mA (fs.map (·.1)) ∧ fs.length ≤ 1000 ∧ H dx = some (.own a) := by
  obtain ⟨d, z, ne, ob, mA, n, r, q⟩ := (show ObjOk P w H h a (.ins C dx fs) from hok a _ e)
  exact ⟨mA, ⟨ob, n, ne⟩, r, q, z, d⟩
end

/-! ### what of the text a class must have -/
structure Cls (K : PySem.W.Frag) (C : Addr) : Prop where
  pg : PySem.W.plainGet K C Str.empty = true
  hd : PySem.W.hasDictIn K C = true
  po : PySem.W.plainOver K C = true
  sa : PySem.W.findIn K (.ref C) "__setattr__" = some (some (.builtin "object.__setattr__"))
theorem Cls.get {K : PySem.W.Frag} {C : Addr} (c : Cls K C) (f : Str) : PySem.W.plainGet K C f = true := c.pg
section
variable {X : Cx} {pins : List (Addr × Obj)} {σ : St} {H : Hp} {s : Shared} {a C dx : Addr} {fs : List (Str × V)} {f : Str} {v : V} {A : Around} {E : Value → Shared → Prop}

/-- a new instance, tracked, without attributes -/
theorem Inv.made (I : Inv X pins σ H s) : Inv X pins σ (upd (upd H s.heap.objs.size (.own (s.heap.objs.size + 1))) (s.heap.objs.size + 1) (.ins C s.heap.objs.size []))
    { s with heap := (s.heap.push PySem.W.emptyDict).push (PySem.W.instObj C s.heap.objs.size) } := by
  have e1 : (s.heap.push PySem.W.emptyDict).get? s.heap.objs.size = some PySem.W.emptyDict := Heap.get?_push_size s.heap rfl
  have e2 : ((s.heap.push PySem.W.emptyDict).push (PySem.W.instObj C s.heap.objs.size)).get? (s.heap.objs.size + 1) = some (PySem.W.instObj C s.heap.objs.size) := by
    have := Heap.get?_push_size (s.heap.push PySem.W.emptyDict) (o := PySem.W.instObj C s.heap.objs.size) rfl
    rwa [Heap.size_push] at this
  have e3 : (s.heap.push PySem.W.emptyDict).Ns s.heap.objs.size (fun _ => none) := ⟨PySem.W.emptyDict, #[], _, e1, rfl, (fun e he => absurd he (by simp)), fun _ => rfl⟩
  have I1 := I.laid (a := s.heap.objs.size) (o := .own (s.heap.objs.size + 1)) (h' := s.heap.push PySem.W.emptyDict) (t' := s.toks) (fun b u q => Heap.get?_push_of_some _ q) (Nat.le_refl _) ⟨_, e1⟩
  refine I1.laid (a := s.heap.objs.size + 1) (o := .ins C s.heap.objs.size []) (t' := s.toks) (fun b u q => Heap.get?_push_of_some _ q) (Nat.le_of_eq (Heap.size_push _ _)) ?_
  have ne : s.heap.objs.size ≠ s.heap.objs.size + 1 := Nat.ne_of_lt (Nat.lt_succ_self _)
  refine ⟨by rw [upd_ne ne, upd_same], Nat.zero_le _, ne, e2, fun _ => none, (Heap.Ns1.of_empty e3).at fun o q => Heap.get?_push_of_some _ q, fun _ => True.intro, fun y hy => absurd rfl hy⟩

end

/-! ### readings and rules -/
section
variable {X : Cx} {o e value : Expr} {f : Str} {pos pos' tpos : Pos} {ta tv : TE}
end

/-! ### isinstance -/
section
variable {X : Cx} {pins : List (Addr × Obj)} {σ : St} {H : Hp} {s : Shared} {A : Around} {E : Value → Shared → Prop} {Q : Value → Shared → Prop} {c : Value} {b : Bool}
/-- the type of a value, as the fragment's deciders take it; for an instance its class -/
inductive TyOf (K : PySem.W.Frag) (H : Hp) : V → Value → Prop where
  | non : TyOf K H .non (.type "NoneType")
  | bl (x : Bool) : TyOf K H (.bl x) (.type "bool")
  | int (i : Int) : TyOf K H (.int i) (.type "int")
  | str (x : Str) : TyOf K H (.str x) (.type "str")
  | flt (x : UInt64) : TyOf K H (.flt x) (.type "float")
  | lst {a : Addr} {xs : List V} (e : H a = some (.lst xs)) : TyOf K H (.ref a) (.type "list")
  | frz {a : Addr} {o : Obj} {xs : List V} (e : H a = some (.frz o (.lst xs))) : TyOf K H (.ref a) (.type "list")
  | tup {a : Addr} {xs : List V} (e : H a = some (.tup xs)) : TyOf K H (.ref a) (.type "tuple")
  | dK {a : Addr} {kvs : List (Key × V)} (e : H a = some (.dK kvs)) : TyOf K H (.ref a) (.type "dict")
  | dT {a : Addr} {kvs : List (List Key × V)} (e : H a = some (.dT kvs)) : TyOf K H (.ref a) (.type "dict")
  | ins {a C dx : Addr} {fs : List (Str × V)} (e : H a = some (.ins C dx fs)) (cl : Cls K C) (ha : PySem.W.findIn K (.ref C) "__class__" = some (some (.builtin "object.__class__")))
      (hn : PySem.W.specialIn K (.builtin "object.__class__") "__get__" = some (some (.builtin "getset_descriptor.__get__"))) (htk : PySem.W.takesIn K (.builtin "object.__class__") = some true)
      (hm : PySem.W.mroIn K C (.type "object") = some true) : TyOf K H (.ref a) (.ref C)
/-- isinstance(x, c) for one class c, a built-in or an own one: kitOne's answer -/
theorem isinst_ok {x : V} {u t : Value} (I : Inv X pins σ H s) (rx : RelV x u) (ty : TyOf X.K H x t) (e : PySem.W.kitOne X.K t c = some b) (h : ∀ tk, Q (.bool b) { s with toks := tk }) :
    wpAny (model X.prog X.w) A (call (.builtin "isinstance") [u, c]) Q E s := by
  cases ty with
  | non => cases (show u = Value.none from rx); exact PySem.W.kia_one PySem.W.kitx_none I.kIn True.intro e (fun z => nomatch z) h
  | bl y => cases (show u = Value.bool y from rx); exact PySem.W.kia_one PySem.W.kitx_bool I.kIn True.intro e (fun z => nomatch z) h
  | int i => obtain ⟨t, q⟩ := (show ∃ t, u = Value.int i t from rx); cases q; exact PySem.W.kia_one PySem.W.kitx_int I.kIn True.intro e (fun z => nomatch z) h
  | str y => obtain ⟨t, q⟩ := (show ∃ t, u = Value.str y t from rx); cases q; exact PySem.W.kia_one PySem.W.kitx_str I.kIn True.intro e (fun z => nomatch z) h
  | flt y => obtain ⟨t, q⟩ := (show ∃ t, u = Value.float y t from rx); cases q; exact PySem.W.kia_one PySem.W.kitx_float I.kIn True.intro e (fun z => nomatch z) h
  | @lst a xs ea =>
    cases (show u = Value.ref a from rx)
    obtain ⟨_, _, n, _, h1⟩ := (show ObjOk X.prog X.w H s.heap a (.lst xs) from I.hok a _ ea)
    exact PySem.W.kia_one PySem.W.kitx_list I.kIn ⟨_, h1, rfl⟩ e (fun z => nomatch z) h
  | @frz a ob xs ea =>
    cases (show u = Value.ref a from rx)
    obtain ⟨_, _, _, n, _, h1⟩ := (show ObjOk X.prog X.w H s.heap a (.frz ob (.lst xs)) from I.hok a _ ea)
    exact PySem.W.kia_one PySem.W.kitx_list I.kIn ⟨_, h1, rfl⟩ e (fun z => nomatch z) h
  | @tup a xs ea =>
    cases (show u = Value.ref a from rx)
    obtain ⟨_, _, _, p⟩ := (show ObjOk X.prog X.w H s.heap a (.tup xs) from I.hok a _ ea)
    obtain ⟨o, h1, h2, _⟩ := p
    exact PySem.W.kia_one PySem.W.kitx_tuple I.kIn ⟨o, h1, h2⟩ e (fun z => nomatch z) h
  | @dK a kvs ea =>
    cases (show u = Value.ref a from rx)
    obtain ⟨_, _, vs, _, p⟩ := (show ObjOk X.prog X.w H s.heap a (.dK kvs) from I.hok a _ ea)
    obtain ⟨o, es, ep, h1, h2, _⟩ := p
    exact PySem.W.kia_one PySem.W.kitx_dict I.kIn ⟨o, h1, h2.1⟩ e (fun z => nomatch z) h
  | @dT a kvs ea =>
    cases (show u = Value.ref a from rx)
    obtain ⟨_, _, xs, _, o, es, ep, h1, h2, _⟩ := (show ObjOk X.prog X.w H s.heap a (.dT kvs) from I.hok a _ ea)
    exact PySem.W.kia_one PySem.W.kitx_dict I.kIn ⟨o, h1, h2.1⟩ e (fun z => nomatch z) h
  | @ins a C dx fs ea cl ha hn htk hm =>
    cases (show u = Value.ref a from rx)
    obtain ⟨mA, O, _⟩ := ins_get I.hok ea
    obtain ⟨od, J, _⟩ := O.look
    exact PySem.W.kia_one (PySem.W.kitx_own (cl.get _) cl.hd ha hn htk hm) I.kIn J e (fun z => nomatch z) h
end
end L2

namespace L2
open PySem PySem.Spec PyProof.Rows

/-! ### room -/
structure Room (k : Nat) (A : Around) : Prop where
  hd : A.handled = none
  dp : A.depth + 3 * k + 5 < recursionLimit
  un : A.units + 16 * k + 200 < cLine
  gd : A.guards = some []
theorem Room.mono {j k : Nat} {A : Around} (r : Room k A) (h : j ≤ k) : Room j A := ⟨r.hd, by have := r.dp; omega, by have := r.un; omega, r.gd⟩
theorem Room.deeper {k : Nat} {A : Around} (r : Room (k + 1) A) (env : Env) : Room k (A.deeper env) :=
  ⟨r.hd, by have := r.dp; show A.depth + 1 + 3 * k + 5 < _; omega, by have := r.un; show A.units + 3 + 16 * k + 200 < _; omega, r.gd⟩
theorem Room.in1 {k : Nat} {A : Around} (r : Room (k + 1) A) : Room k A.in1 :=
  ⟨r.hd, by have := r.dp; show A.depth + 3 * k + 5 < _; omega, by have := r.un; show A.units + 1 + 16 * k + 200 < _; omega, r.gd⟩
theorem Room.depth {k : Nat} {A : Around} (r : Room k A) : A.depth < recursionLimit := by have := r.dp; omega
theorem Room.units {k : Nat} {A : Around} (r : Room k A) : A.units + 64 < cLine := by have := r.un; omega
/-! ### argument lists and displays -/
def tNil : TA := fun _ H Q => Q [] H
def tCons (ta : TE) (tr : TA) : TA := fun σ H Q => ta σ H fun x H1 => tr σ H1 fun xs H2 => Q (x :: xs) H2
section
variable {X : Cx} {e : Expr} {es : List Expr} {te : TE} {t : TA} {pos : Pos}
theorem pa_nil : PA X [] tNil := fun _ _ _ _ H Q I h => Calls.spliced_nil ⟨[], H, I, .nil, h⟩
theorem pa_cons (ha : PE X e te) (hr : PA X es t) (hs : starEach (e :: es) X.env = (false, eval e X.env) :: starEach es X.env := by rfl) : PA X (e :: es) (tCons te t) := by
  intro pos pins s σ H Q I h
  rw [hs]
  show wpAny _ _ (spliced ((false, eval e X.env) :: backTo pos (starEach es X.env))) _ _ s
  refine Calls.spliced_cons (thn (ha pins s σ H _ I h) fun u s1 ⟨x, H1, I1, r1, q1⟩ => ?_)
  exact thn (hr pos pins s1 σ H1 _ I1 q1) fun us s2 ⟨xs, H2, I2, r2, q2⟩ => ⟨x :: xs, H2, I2, .cons r1 r2, q2⟩

/-- a tuple, a list of written items -/
def tTup (t : TA) : TE := fun σ H Q => t σ H fun xs H1 => xs.length ≤ sizeLine ∧ ∀ p, H1 p = none → Q (.ref p) (upd H1 p (.tup xs))
def tLst (t : TA) : TE := fun σ H Q => t σ H fun xs H1 => xs.length ≤ sizeLine ∧ ∀ p, H1 p = none → Q (.ref p) (upd H1 p (.lst xs))
theorem pe_tup {x1} (h : PA X es t) : PE X (.Tuple es x1 pos) (tTup t) := by
  intro pins s σ H Q I hq
  refine wpAny_Tuple_spliced (thn (h pos pins s σ H _ I hq) fun us s1 ⟨xs, H1, I1, r, z, q⟩ => ⟨by rw [← r.length]; exact z, ?_⟩)
  have hf : H1 s1.heap.objs.size = none := I1.hok.fresh (Nat.le_refl _)
  refine ⟨.ref s1.heap.objs.size, upd H1 s1.heap.objs.size (.tup xs), I1.laid (t' := s1.toks) (fun b u e => Heap.get?_push_of_some _ e) (Nat.le_refl _) ?_, rfl, q _ hf⟩
  exact ⟨⟨z, fun _ => ⟨_, Heap.get?_push_size _ rfl, rfl, rfl⟩⟩, us, r, ⟨_, Heap.get?_push_size _ rfl, rfl, _, rfl⟩⟩
theorem pe_lst (h : PA X es t) : PE X (.List es pos) (tLst t) := by
  intro pins s σ H Q I hq
  refine wpAny_List_spliced (thn (h pos pins s σ H _ I hq) fun us s1 ⟨xs, H1, I1, r, z, q⟩ => ⟨by rw [← r.length]; exact z, ?_⟩)
  have hf : H1 s1.heap.objs.size = none := I1.hok.fresh (Nat.le_refl _)
  refine ⟨.ref s1.heap.objs.size, upd H1 s1.heap.objs.size (.lst xs), I1.laid (t' := s1.toks) (fun b u e => Heap.get?_push_of_some _ e) (Nat.le_refl _) ?_, rfl, q _ hf⟩
  exact ⟨z, us, 0, r, Heap.get?_push_size _ rfl⟩
end

/-! ### what a def promises -/
/-- a def's promise: the bound arguments in the parameters' order, the heap, the wanted end, the wanted exception -/
abbrev Sp := List V → Hp → VK → XK → Prop
/-- how an exception lies behind a call (file 08 gives it): the callers' frames, abstract heap and state ahead of the call, the wish, the exception, the state -/
abbrev CXT := List Env → Hp → Shared → XK → Value → Shared → Prop

/-- the state at a call -/
structure Env0 (P : Program) (w : World) (K : PySem.W.Frag) (mg : Str → Option Value) (base : Heap) (A : Around) (outer : List Env) (s : Shared) (H : Hp) : Prop where
  frames : A.frames = some outer
  mod : Mod K mg base
  bs : ∀ b o, base.get? b = some o → s.heap.get? b = some o ∧ H b = none
  bsz : base.objs.size ≤ s.heap.objs.size
  funs : s.heap.FunFrames base outer
  frf : ∀ b ∈ frs outer, H b = none
  hok : HOk P w H s.heap
  bare : AllBare s.gens
/-- a call's end -/
def CE (outer : List Env) (P : Program) (w : World) (H : Hp) (s : Shared) (Q : VK) (u : Value) (s' : Shared) : Prop :=
  ∃ v H', s'.os = s.os ∧ AllBare s'.gens ∧ Un (frs outer) [] H H' s.heap s'.heap ∧ HOk P w H' s'.heap ∧ RelV v u ∧ Q v H'
def CR (CX : CXT) (outer : List Env) (P : Program) (w : World) (H : Hp) (s : Shared) (Q : VK) (E : XK) (r : Result) (s' : Shared) : Prop :=
  match r with
  | .ok (.ret u) => CE outer P w H s Q u s'
  | .ok _ => False
  | .error e => CX outer H s E e s'
structure FnOk (P : Program) (w : World) (K : PySem.W.Frag) (mg : Str → Option Value) (base : Heap) (CX : CXT) (k : Nat) (f : Addr) (fd : FuncData) (ps : List Str) (sp : Sp) : Prop where
  len : ∀ vs H Q E, sp vs H Q E → vs.length = ps.length
  run : ∀ (A : Around) (outer : List Env) (s : Shared) (H : Hp) (args : Args) (us : List Value) (vs : List V) (Q : VK) (E : XK), Room k A → Env0 P w K mg base A outer s H → BindsTo s fd args (ps.zip us) → Vals vs us → sp vs H Q E →
    codeAny (model P w) A (.call (.ref f) args) (CR CX outer P w H s Q E) s
theorem FnOk.mono {P : Program} {w : World} {K : PySem.W.Frag} {mg : Str → Option Value} {base : Heap} {CX : CXT} {j k : Nat} {f : Addr} {fd : FuncData} {ps : List Str} {sp : Sp} (F : FnOk P w K mg base CX j f fd ps sp) (h : j ≤ k) :
    FnOk P w K mg base CX k f fd ps sp := ⟨F.len, fun A outer s H args us vs Q E hr => F.run A outer s H args us vs Q E (hr.mono h)⟩
/-- a weaker promise -/
theorem FnOk.imp {P : Program} {w : World} {K : PySem.W.Frag} {mg : Str → Option Value} {base : Heap} {CX : CXT} {k : Nat} {f : Addr} {fd : FuncData} {ps : List Str} {sp sp' : Sp} (F : FnOk P w K mg base CX k f fd ps sp)
    (h : ∀ vs H Q E, sp' vs H Q E → sp vs H Q E) : FnOk P w K mg base CX k f fd ps sp' :=
  ⟨fun vs H Q E q => F.len vs H Q E (h _ _ _ _ q), fun A outer s H args us vs Q E hr he hb hv hs => F.run A outer s H args us vs Q E hr he hb hv (h _ _ _ _ hs)⟩

theorem Env0.in1 {P : Program} {w : World} {K : PySem.W.Frag} {mg : Str → Option Value} {base : Heap} {A : Around} {outer : List Env} {s : Shared} {H : Hp} (e : Env0 P w K mg base A outer s H) :
    Env0 P w K mg base A.in1 outer s H := ⟨e.frames, e.mod, e.bs, e.bsz, e.funs, e.frf, e.hok, e.bare⟩

section
variable {X : Cx} {pins : List (Addr × Obj)} {σ : St} {H : Hp} {s s' : Shared}
/-- from a body: what a callee wants -/
theorem Inv.env0 (I : Inv X pins σ H s) : Env0 X.prog X.w X.K X.mg X.base X.A X.stack s H :=
  ⟨I.ok.frames, I.ok.mod, I.bs, Nat.le_trans I.ok.bsz I.sz, I.stack, I.stkFree, I.hok, I.bare⟩
/-- behind a call -/
theorem Inv.after {Q : VK} {u : Value} (I : Inv X pins σ H s) (h : CE X.stack X.prog X.w H s Q u s') : EP X pins σ Q u s' := by
  obtain ⟨v, H', os, bare, un, hok, r, q⟩ := h
  obtain ⟨hh, g, d, t, os'⟩ := s'
  obtain rfl : os' = s.os := os
  exact ⟨v, H', I.call (h' := hh) (g' := g) (d' := d) (t' := t) (ch := []) un hok bare (fun b z => absurd z (by simp)), r, q⟩
end

/-! ### calls -/
/-- f(..): the written arguments, then the defaults dvs; E: what is wanted of an exception -/
def tCall (sp : Sp) (dvs : List V) (E : XK) (t : TA) : TE := fun σ H Q => t σ H fun vs H1 => sp (vs ++ dvs) H1 Q E
/-- how the parameters are bound: us the positional arguments, kw the keywords' values by name, ds the defaults that fill up -/
def Binds (K : PySem.W.Frag) (fd : FuncData) (ps : List Str) (ds : List Value) : Prop :=
  ∀ (s : Shared) (us : List Value), K.In s.heap → (us ++ ds).length = ps.length → BindsTo s fd ⟨us, []⟩ (ps.zip (us ++ ds))
/-- every parameter is given -/
theorem Binds.all {K : PySem.W.Frag} {fd : FuncData} {ps : List Str} (h : ∀ us : List Value, us.length = ps.length → bindArgs fd ⟨us, []⟩ = pure (ps.zip us)) : Binds K fd ps [] := fun s us _ hl => by
  rw [List.append_nil] at hl ⊢
  exact .of_eq (h us hl)

/-- an exception of a callee reaches what this body wants of exceptions -/
def Passes (CX : CXT) (X : Cx) (E : XK) : Prop := ∀ (pins : List (Addr × Obj)) (σ : St) (H : Hp) (s : Shared) (e : Value) (s' : Shared), Inv X pins σ H s → CX X.stack H s E e s' → X.xe e s'

section
variable {X : Cx} {CX : CXT} {k : Nat} {f C : Addr} {fd : FuncData} {ps : List Str} {sp : Sp} {dvs : List V} {ds : List Value} {E : XK} {x m : Str} {p pos apos : Pos} {e o : Expr} {es : List Expr} {ta : TE} {t : TA}

/-- the callee runs -/
theorem run_fn {pins : List (Addr × Obj)} {σ : St} {H : Hp} {s : Shared} {Q : VK} {us : List Value} {vs : List V} (F : FnOk X.prog X.w X.K X.mg X.base CX k f fd ps sp) (hr : Room k X.A) (hb : Binds X.K fd ps ds) (hd : Vals dvs ds) (hx : Passes CX X E)
    (I : Inv X pins σ H s) (r : Vals vs us) (h : sp (vs ++ dvs) H Q E) : wpAny (model X.prog X.w) X.A (call (.ref f) us) (EP X pins σ Q) X.xe s := by
  have r2 : Vals (vs ++ dvs) (us ++ ds) := r.append hd
  have hl : (us ++ ds).length = ps.length := by rw [← r2.length]; exact F.len _ _ _ _ h
  refine wpAny_call (codeAny_mono (F.run X.A X.stack s H ⟨us, []⟩ (us ++ ds) (vs ++ dvs) Q E hr I.env0 (hb s us I.kIn hl) r2 h) fun r s' hq => ?_)
  cases r with
  | error e => exact hx pins σ H s e s' I hq
  | ok fl =>
    cases fl with
    | ret u => exact I.after hq
    | next => exact False.elim hq
    | brk => exact False.elim hq
    | cont => exact False.elim hq

theorem pe_call (F : FnOk X.prog X.w X.K X.mg X.base CX k f fd ps sp) (hr : Room k X.A) (hg : Gl X x) (hm : X.mg x = some (.ref f)) (hk : PySem.W.keepIn X.K (.ref f) = true) (hb : Binds X.K fd ps ds) (hd : Vals dvs ds) (hx : Passes CX X E)
    (ha : PA X (e :: es) t) (hdb : (x == ("__debug__" : Str)) = false := by decide) (he : starEach (e :: es) X.env = (false, eval e X.env) :: starEach es X.env := by rfl) (hpl : (backTo pos (starEach es X.env)).any (·.1) = false := by rfl) :
    PE X (.Call (.Name x p) (e :: es) [] pos) (tCall sp dvs E t) := by
  intro pins s σ H Q I h
  refine wpAny_Call_Name_kw (ld_glob I hg hm ?_ hdb)
  refine PySem.W.callWith_K (h₀ := X.base) I.ok.mod.kin hk (thn (ha pos pins s σ H _ I h) fun us s1 ⟨vs, H1, I1, r, q⟩ => ⟨I1.kIn, ?_⟩) he hpl
  exact run_fn F hr hb hd hx I1 r q
end

/-! ### keywords -/
section
variable {X : Cx} {CX : CXT} {k : Nat} {f C : Addr} {fd : FuncData} {ps ks : List Str} {sp : Sp} {E : XK} {x m : Str} {p pos apos kpos : Pos} {e o : Expr} {es : List Expr} {kws : List Keyword} {te ta : TE} {t tk : TA} {nm : Option Str}
variable {g : List Value → List Value → List Value} {gV : List V → List V → List V}
end

/-! ### a def's body keeps its promise -/
/-- names: the parameters first -/
structure FnScope (N P : List Str) (sc : Scope) : Prop where
  kind : sc.kind = .function
  co : sc.isCoroutine = false
  gen : sc.isGenerator = false
  nd : N.Nodup
  pre : N.take P.length = P
  par : ∀ x ∈ P, sc.names.lookup x = some .local ∨ sc.names.lookup x = some .cell
  nofree : ∀ y ∈ sc.names, y.2 ≠ .free

theorem bindL_out {kindOf : Str → Option NameKind} {x : Str} : ∀ {binds : List (Str × Value)} {m : Str → Option Value}, (∀ v, (x, v) ∉ binds) → bindL kindOf binds m x = m x
  | [], _, _ => rfl
  | (n, v) :: r, m, h => by
    unfold bindL
    rw [bindL_out fun w hw => h w (List.mem_cons_of_mem _ hw)]
    split
    · have : x ≠ n := by rintro rfl; exact h v List.mem_cons_self
      simp [this]
    · rfl
theorem bindC_out {kindOf : Str → Option NameKind} {x : Str} : ∀ {binds : List (Str × Value)} {m : Str → Option Value}, (∀ v, (x, v) ∉ binds) → bindC kindOf binds m x = m x
  | [], _, _ => rfl
  | (n, v) :: r, m, h => by
    unfold bindC
    rw [bindC_out fun w hw => h w (List.mem_cons_of_mem _ hw)]
    split
    · rfl
    · have : x ≠ n := by rintro rfl; exact h v List.mem_cons_self
      simp [this]
theorem bindL_get {kindOf : Str → Option NameKind} {x : Str} {v : Value} : ∀ {P : List Str} {vs : List Value} {i : Nat} {m : Str → Option Value}, P.Nodup → P[i]? = some x → vs[i]? = some v → kindOf x = some .local →
    bindL kindOf (P.zip vs) m x = some v
  | [], _, _, _, _, h, _, _ => by simp at h
  | _ :: _, [], _, _, _, _, h, _ => by simp at h
  | p :: P, w :: vs, 0, m, nd, h1, h2, hk => by
    simp at h1 h2; subst h1; subst h2
    show bindL kindOf ((p, w) :: P.zip vs) m p = _
    unfold bindL
    rw [bindL_out fun v hv => (List.nodup_cons.mp nd).1 (List.of_mem_zip hv).1, if_pos hk]
    simp
  | p :: P, w :: vs, i + 1, m, nd, h1, h2, hk => by
    show bindL kindOf ((p, w) :: P.zip vs) m x = _
    unfold bindL
    exact bindL_get (i := i) (List.nodup_cons.mp nd).2 (by simpa using h1) (by simpa using h2) hk
theorem bindC_get {kindOf : Str → Option NameKind} {x : Str} {v : Value} : ∀ {P : List Str} {vs : List Value} {i : Nat} {m : Str → Option Value}, P.Nodup → P[i]? = some x → vs[i]? = some v → kindOf x ≠ some .local →
    bindC kindOf (P.zip vs) m x = some v
  | [], _, _, _, _, h, _, _ => by simp at h
  | _ :: _, [], _, _, _, _, h, _ => by simp at h
  | p :: P, w :: vs, 0, m, nd, h1, h2, hk => by
    simp at h1 h2; subst h1; subst h2
    show bindC kindOf ((p, w) :: P.zip vs) m p = _
    unfold bindC
    rw [bindC_out fun v hv => (List.nodup_cons.mp nd).1 (List.of_mem_zip hv).1, if_neg hk]
    simp
  | p :: P, w :: vs, i + 1, m, nd, h1, h2, hk => by
    show bindC kindOf ((p, w) :: P.zip vs) m x = _
    unfold bindC
    exact bindC_get (i := i) (List.nodup_cons.mp nd).2 (by simpa using h1) (by simpa using h2) hk

/-- the names' values at the entry -/
def start (N : List Str) (vs : List V) : St := vs.map some ++ List.replicate (N.length - vs.length) none

/-- the context of a def's body, at its entry; an exception leaves the frame, then lies as CX says -/
def cxOf (CX : CXT) (P : Program) (w : World) (K : PySem.W.Frag) (mg : Str → Option Value) (base : Heap) (N : List Str) (qual : Str) (scope : Scope) (f : Addr) (cd : Value) (A : Around) (outer : List Env) (s : Shared) (H : Hp) (E : XK) : Cx where
  prog := P
  w := w
  K := K
  mg := mg
  base := base
  A := A.deeper (envOfC qual scope s.heap.objs.size f cd)
  N := N
  s₀ := s
  H₀ := H
  env := envOfC qual scope s.heap.objs.size f cd
  outer := outer
  stack := envOfC qual scope s.heap.objs.size f cd :: outer
  ex := []
  calm := true
  fn := fun _ => true
  pn := []
  xe := fun e s' => wpAny (model P w) (A.deeper (envOfC qual scope s.heap.objs.size f cd)) (leaving (envOfC qual scope s.heap.objs.size f cd) e) (fun _ s'' => CX outer H s E e s'') (fun e' s'' => CX outer H s E e' s'') s'

theorem cell_has {sc : Scope} {n : Nat} {x : Str} (h : sc.names.lookup x = some .cell) : ∃ c, (cellsFrom n sc.names []).lookup x = some c := by
  have q := PySem.W.cellsFrom_some sc.names n [] (.inl h)
  exact Option.isSome_iff_exists.mp q

theorem inv_start {CX : CXT} {P : Program} {w : World} {K : PySem.W.Frag} {mg : Str → Option Value} {base : Heap} {N ps : List Str} {qual : Str} {scope : Scope} {f : Addr} {cd : Value} {A : Around} {outer : List Env} {s s1 : Shared} {H : Hp} {E : XK} {us : List Value} {vs : List V}
    (S : FnScope N ps scope) (hd : A.handled = none) (e0 : Env0 P w K mg base A outer s H) (hl : vs.length = ps.length) (r : Vals vs us)
    (x : InCallC s s.heap.objs.size (bindL (envOfC qual scope s.heap.objs.size f cd).kindOf (ps.zip us) fun _ => none) (cellsFrom (s.heap.objs.size + 1) scope.names []) (bindC (envOfC qual scope s.heap.objs.size f cd).kindOf (ps.zip us) fun _ => none) s1) :
    Inv (cxOf CX P w K mg base N qual scope f cd A outer s H E) [] (start N vs) H s1 := by
  have hpl : ps.length ≤ N.length := by have := congrArg List.length S.pre; rw [List.length_take] at this; omega
  obtain ⟨h1, tk, rfl, hk⟩ := x.done
  have noA : ∀ b : Addr, b ∉ (cxOf CX P w K mg base N qual scope f cd A outer s H E).ex := fun b z => absurd (show b ∈ ([] : List Addr) from z) (by simp)
  refine ⟨⟨e0.mod, S.kind, rfl, rfl, Nat.le_refl _, fun y z c h1 h2 => ?_, fun y hy => ?_, fun y c _ h => ?_, fun _ => hd, Around.frames_deeper e0.frames, .inr ⟨rfl, rfl⟩, fun b z => absurd z (noA b), e0.bs, e0.bsz, fun b _ _ => noA b, fun b z => absurd z (noA b), e0.funs, e0.frf⟩,
    rfl, e0.bare, Un.kept hk, ⟨_, x.toInCall.ns, fun i y v h1 h2 h3 => ?_⟩, fun y c h => ⟨_, x.cell y c h⟩, e0.hok.fresh (Nat.le_refl _), fun y c h => ?_, fun p hp => absurd (show p ∈ ([] : List (Addr × Obj)) from hp) (by simp), e0.hok.kept hk, ?_⟩
  · exact name_of_addr x.apart (PySem.mem_of_lookup h1) (PySem.mem_of_lookup h2)
  · have hy : scope.names.lookup y = some .cell ∨ scope.names.lookup y = some .free := hy
    rcases hy with hy | hy
    · exact cell_has hy
    · exact absurd rfl (S.nofree _ (PySem.mem_of_lookup hy))
  · exact Nat.le_of_lt (x.above y c (PySem.mem_of_lookup h))
  · have hi : i < vs.length := by
      unfold start at h2
      by_cases hi : i < vs.length
      · exact hi
      · rw [List.getElem?_append_right (by simpa using hi)] at h2
        rw [List.getElem?_replicate] at h2
        split at h2 <;> cases h2
    have ha : vs[i]? = some v := by
      unfold start at h2
      rw [List.getElem?_append_left (by simpa using hi), List.getElem?_map] at h2
      cases e : vs[i]? with
      | none => rw [e] at h2; cases h2
      | some a => rw [e] at h2; cases h2; rfl
    obtain ⟨u, hu, rv⟩ := r.get ha
    have hp : ps[i]? = some y := by
      rw [← S.pre, List.getElem?_take_of_lt (by omega)]; exact h1
    have ndP : ps.Nodup := by rw [← S.pre]; exact S.nd.sublist (List.take_sublist _ _)
    refine ⟨u, rv, ?_⟩
    rcases S.par y (List.mem_of_getElem? hp) with k | k
    · exact .inl ⟨k, bindL_get ndP hp hu k⟩
    · obtain ⟨c, e⟩ := cell_has (n := s.heap.objs.size + 1) k
      refine .inr ⟨.inl k, c, e, ?_⟩
      have q := x.cell y c e
      rw [bindC_get ndP hp hu (by show scope.names.lookup y ≠ _; rw [k]; decide)] at q
      exact q
  · exact e0.hok.fresh (Nat.le_of_lt (x.above y c (PySem.mem_of_lookup h)))
  · unfold start
    show _ = N.length
    rw [List.length_append, List.length_map, List.length_replicate]
    omega

/-- THE RULE: a def (or a method) of the text, by its body. The body's reading t is chosen for each entry; it is run at the parameters' values -/
theorem fn_of {CX : CXT} {P : Program} {w : World} {K : PySem.W.Frag} {mg : Str → Option Value} {base : Heap} {k : Nat} {f : Addr} {name qual : Str} {params : Arguments} {body : List Stmt} {scope : Scope} {dV kV doc pm cdv ct oc : Value} {an od : Option Addr}
    {osl : Array (Option Value)} {N ps : List Str} {sp : Sp} (lk : K.lookup f = some ⟨oc, od, .func (PySem.W.fnOf name qual params body scope dV kV doc pm an cdv ct), osl⟩) (hcd : PySem.W.codeIn K cdv qual = true) (S : FnScope N ps scope)
    (len : ∀ vs H Q E, sp vs H Q E → vs.length = ps.length)
    (hbody : ∀ (A : Around) (outer : List Env) (s : Shared) (H : Hp) (vs : List V) (Q : VK) (E : XK), Room k (A.deeper (envOfC qual scope s.heap.objs.size f cdv)) → sp vs H Q E →
      ∃ t, PSs (cxOf CX P w K mg base N qual scope f cdv A outer s H E) body t ∧ t { nx := fun _ H' => Q .non H', rt := Q } (start N vs) H) :
    FnOk P w K mg base CX (k + 1) f (PySem.W.fnOf name qual params body scope dV kV doc pm an cdv ct) ps sp := by
  refine ⟨len, fun A outer s H args us vs Q E hr e0 hb r hsp => ?_⟩
  have hl := len _ _ _ _ hsp
  have KX : K.In s.heap := e0.mod.kin.keeps fun b o e => (e0.bs b o e).1
  have lim : s.heap.NoLimit := e0.mod.nolimit.keeps fun b o e => (e0.bs b o e).1
  have hkind : ∀ y ∈ ps.zip us, scope.names.lookup y.1 = some .local ∨ (scope.names.lookup y.1 = some .cell ∧ ((cellsFrom (s.heap.objs.size + 1) scope.names []).lookup y.1).isSome = true) := fun ⟨n, v⟩ hy => by
    rcases S.par n (List.of_mem_zip hy).1 with q | q
    · exact .inl q
    · exact .inr ⟨q, PySem.W.cellsFrom_some _ _ _ (.inl q)⟩
  refine codeAny_call_function hr.depth (KX _ _ lk) rfl S.co S.gen rfl (PySem.W.codeRec_of KX hcd) (hb _ _ _ _ ?_)
  refine wpAny_newFunctionEnv_cells S.kind hkind fun env he s1 x => ?_
  subst he
  refine ⟨lim.keeps x.toInCall.keep, codeAny_func ?_⟩
  obtain ⟨t, ht, hq⟩ := hbody A outer s H vs Q E (hr.deeper _) hsp
  have I : Inv (cxOf CX P w K mg base N qual scope f cdv A outer s H E) [] (start N vs) H s1 := inv_start S hr.hd e0 hl r x
  refine wpAny_mono (ht [] s1 (start N vs) H _ I hq) (fun fl s' hs => ?_) fun e s' hs => hs
  have fin : ∀ {σ' : St} {H' : Hp} {v : V} {u : Value}, Inv (cxOf CX P w K mg base N qual scope f cdv A outer s H E) [] σ' H' s' → RelV v u → Q v H' → CE outer P w H s Q u s' :=
    fun {σ' H' v u} J rv q => ⟨v, H', J.os, J.bare, J.base, J.hok, rv, q⟩
  cases fl with
  | ret u =>
    obtain ⟨v, σ', H', J, rv, q⟩ := hs
    exact fin J rv q
  | next =>
    obtain ⟨σ', H', J, q⟩ := hs
    exact fin (v := V.non) (u := Value.none) J rfl q
  | brk =>
    obtain ⟨_, _, _, q⟩ := hs
    exact False.elim q
  | cont =>
    obtain ⟨_, _, _, q⟩ := hs
    exact False.elim q
end L2

namespace L2
open PySem PySem.Spec PyProof.Rows
section
variable {X : Cx} {x : Str} {p pos : Pos} {e : Expr} {es : List Expr} {t : TA} {id T : String} {r : List V → Hp → VK → Prop}

def tCB (r : List V → Hp → VK → Prop) (t : TA) : TE := fun σ H Q => t σ H fun vs H1 => r vs H1 Q
/-- f(e, ..), f a built-in function -/
theorem pe_callB (hc : CallR X (.builtin id) r) (hg : Gl X x) (hm : X.mg x = none) (hv : bootBuiltins x = some (.builtin id)) (ha : PA X (e :: es) t) (hn : x ≠ "__name__" := by decide) (hdb : (x == ("__debug__" : Str)) = false := by decide)
    (he : starEach (e :: es) X.env = (false, eval e X.env) :: starEach es X.env := by rfl) (hpl : (backTo pos (starEach es X.env)).any (·.1) = false := by rfl) : PE X (.Call (.Name x p) (e :: es) [] pos) (tCB r t) := by
  intro pins s σ H Q I h
  refine wpAny_Call_Name_kw (ld_blt I hg hm hv ?_ hn hdb)
  exact PyProof.Rows.callWith_builtin1 (thn (ha pos pins s σ H _ I h) fun us s1 ⟨vs, H1, I1, r1, q1⟩ => hc pins s1 σ H1 vs us Q I1 r1 q1) he hpl
/-- T(e, ..), T a built-in type -/
theorem pe_callTy (hc : CallR X (.type T) r) (hg : Gl X x) (hm : X.mg x = none) (hv : bootBuiltins x = some (.type T)) (ha : PA X (e :: es) t) (hn : x ≠ "__name__" := by decide) (hdb : (x == ("__debug__" : Str)) = false := by decide)
    (he : starEach (e :: es) X.env = (false, eval e X.env) :: starEach es X.env := by rfl) (hpl : (backTo pos (starEach es X.env)).any (·.1) = false := by rfl) : PE X (.Call (.Name x p) (e :: es) [] pos) (tCB r t) := by
  intro pins s σ H Q I h
  refine wpAny_Call_Name_kw (ld_blt I hg hm hv ?_ hn hdb)
  exact PyProof.Rows.callWith_type1 (thn (ha pos pins s σ H _ I h) fun us s1 ⟨vs, H1, I1, r1, q1⟩ => hc pins s1 σ H1 vs us Q I1 r1 q1) he hpl
end
end L2

namespace HT
open PySem PyProof.Rows

section
open PySem.SeqAt
open PySem.AutoSeq1 (wpAny_loadPart')
open PySem.MeetsSeq PySem.MeetsSeq2 PySem.MeetsSeq3

end

section
variable {prog : Program} {w : World} {A : Around} {E : Value → Shared → Prop} {s : Shared}

/-! ### t[a:b], not the whole -/
/-- a slice's bound as a place among n (d where it is left out) -/
def sIx (n d : Nat) : Option Int → Nat
  | none => d
  | some v => if v < 0 then (v + (n : Int)).toNat else min v.toNat n
theorem sIx_nat (n d k : Nat) : sIx n d (some (k : Int)) = min k n := by
  show (if (k : Int) < 0 then ((k : Int) + (n : Int)).toNat else min (k : Int).toNat n) = min k n
  rw [if_neg (by omega), Int.toNat_natCast]
theorem sIx_le (n d : Nat) (hd : d ≤ n) (o : Option Int) : sIx n d o ≤ n := by
  cases o with
  | none => exact hd
  | some v =>
    show (if v < 0 then (v + (n : Int)).toNat else min v.toNat n) ≤ n
    by_cases hv : v < 0
    · rw [if_pos hv]; omega
    · rw [if_neg hv]; exact Nat.min_le_right _ _
theorem clip_eq (v : Int) (n d : Nat) : (if v < 0 then max (v + (n : Int)) 0 else min v (n : Int)) = ((sIx n d (some v) : Nat) : Int) := by
  show (if v < 0 then max (v + (n : Int)) 0 else min v (n : Int)) = (((if v < 0 then (v + (n : Int)).toNat else min v.toNat n) : Nat) : Int)
  by_cases hv : v < 0
  · simp only [if_pos hv]; omega
  · simp only [if_neg hv]; omega
theorem adjust_gen (lo hi : Option Int) (n : Nat) : Builtin.Slice.sliceAdjust lo hi 1 (n : Int) = (((sIx n 0 lo : Nat) : Int), ((sIx n n hi : Nat) : Int)) := by
  have h1 : ¬ ((1 : Int) < 0) := by omega
  unfold Builtin.Slice.sliceAdjust
  simp only [h1, if_false]
  refine Prod.ext ?_ ?_
  · cases lo with
    | none => rfl
    | some v => exact clip_eq v n 0
  · cases hi with
    | none => rfl
    | some v => exact clip_eq v n n
theorem places_gen (i j : Nat) : Builtin.Slice.slicePlaces (i : Int) (j : Int) 1 = j - i := by
  unfold Builtin.Slice.slicePlaces
  have h1 : (1 : Int) > 0 := by omega
  simp only [h1, if_true, Int.ediv_one]
  split <;> omega
theorem slicePart_ {v : Value} {o : Option Int} {Q : Option Int → Shared → Prop} (p : IsPart v o) (h : Q o s) : wpAny (model prog w) A (Builtin.Slice.slicePartIndex v) Q E s := by
  cases p with
  | none => exact slicePart_none h
  | int i t => exact slicePart_int h
theorem sliceApplied_gen {sl : Addr} {vl vu : Value} {lo hi : Option Int} {n : Nat} {Q : Int × Int × Nat → Shared → Prop} (hs : s.heap.IsSliceOf sl vl vu .none) (pl : IsPart vl lo) (pu : IsPart vu hi)
    (h : Q (((sIx n 0 lo : Nat) : Int), 1, sIx n n hi - sIx n 0 lo) s) : wpAny (model prog w) A (Builtin.Slice.sliceApplied (.ref sl) (pure (n : Int))) Q E s := by
  obtain ⟨os, hos, hcs, hds⟩ := id hs
  unfold Builtin.Slice.sliceApplied Builtin.Slice.sliceFields
  refine wpAny_bind (wpAny_bind (wpAny_field hos hds (x := vl) rfl (wpAny_bind (wpAny_field hos hds (x := vu) rfl (wpAny_bind (wpAny_field hos hds (x := .none) rfl (wpAny_pure ?_)))))))
  refine wpAny_bind (slicePart_none ?_)
  show wpAny _ _ (if ((1 : Int) == 0) = true then _ else _) _ _ s
  rw [if_neg (by decide)]
  refine wpAny_bind (slicePart_ pl (wpAny_bind (slicePart_ pu (wpAny_bind (wpAny_pure ?_)))))
  show wpAny _ _ (match Builtin.Slice.sliceAdjust lo hi 1 (n : Int) with | (lo, hi) => pure (lo, (1 : Int), Builtin.Slice.slicePlaces lo hi 1)) _ _ s
  rw [adjust_gen lo hi n]
  show wpAny _ _ (pure (((sIx n 0 lo : Nat) : Int), (1 : Int), Builtin.Slice.slicePlaces ((sIx n 0 lo : Nat) : Int) ((sIx n n hi : Nat) : Int) 1)) _ _ s
  rw [places_gen]
  exact wpAny_pure h
theorem pick_gen (xs : Array Value) (i k : Nat) : ((List.range k).filterMap fun (m : Nat) => xs[((i : Int) + (m : Int) * 1).toNat]?).toArray = ((xs.toList.drop i).take k).toArray := by
  have e : (fun (m : Nat) => xs[((i : Int) + (m : Int) * 1).toNat]?) = fun m => xs[i + m]? := by
    funext m
    have : ((i : Int) + (m : Int) * 1).toNat = i + m := by omega
    rw [this]
  rw [e]
  have := pick_run xs i k
  rw [List.filterMap_map] at this
  have e2 : ((fun x => xs[x]?) ∘ fun x => i + x) = fun m => xs[i + m]? := rfl
  rw [e2] at this
  rw [this]

theorem getItem_tuple_cut {t sl : Addr} {items : Array Value} {vl vu : Value} {lo hi : Option Int} {Q : Value → Shared → Prop} (ht : IsTup s.heap t items) (hs : s.heap.IsSliceOf sl vl vu .none) (pl : IsPart vl lo) (pu : IsPart vu hi)
    (hw : ¬ (sIx items.size 0 lo = 0 ∧ sIx items.size items.size hi = items.size))
    (h : Q (.ref s.heap.objs.size) { s with heap := s.heap.push { cls := .type "tuple", data := .seq ((items.toList.drop (sIx items.size 0 lo)).take (sIx items.size items.size hi - sIx items.size 0 lo)).toArray } })
    (hsz : items.size ≤ sizeLine) : wpAny (model prog w) A (getItem (.ref t) (.ref sl)) Q E s := by
  have htake : sizeOk (.seq ((items.toList.drop (sIx items.size 0 lo)).take (sIx items.size items.size hi - sIx items.size 0 lo)).toArray) := by
    show ((items.toList.drop (sIx items.size 0 lo)).take (sIx items.size items.size hi - sIx items.size 0 lo)).toArray.size ≤ sizeLine
    rw [List.size_toArray, List.length_take, List.length_drop, Array.length_toList]
    omega
  have hj : sIx items.size items.size hi ≤ items.size := sIx_le _ _ (Nat.le_refl _) hi
  obtain ⟨os, hos, hcs, hds⟩ := id hs
  have hTs : s.TypeIs (.ref sl) "slice" := ⟨os, hos, hcs⟩
  unfold getItem
  try with_reducible refine wpAny_holding ?_
  first | refine wpAny_bind (wpAny_pure ?_) | skip
  refine wpAny_bind (wpAny_sequenceKey ht.typeIs (by decide) ?_)
  refine wpAny_bind (wpAny_callSpecial?_slot (name := Str.ofString "__getitem__") ht.typeIs PyProof.Rows.slot_tuple_getitem
    (wpAny_call_entry PyProof.Rows.slot_tuple_getitem ht.typeIs entry_tuple_getitem ?_ (args_tuple_getitem _ _)))
  show wpAny _ _ (Builtin.Tuple.tupleItemsOf (.ref t) >>= _) _ _ s
  refine wpAny_bind (tupleItemsOf_ ht ?_)
  refine wpAny_bind (wpAny_typeOf hTs ?_)
  rw [if_pos (by decide)]
  refine wpAny_bind (sliceApplied_gen hs pl pu ?_)
  have hno : ¬ ((((sIx items.size 0 lo : Nat) : Int) == 0 && (1 : Int) == 1 && (sIx items.size items.size hi - sIx items.size 0 lo) == items.size) = true) := by
    intro q
    rw [Bool.and_eq_true, Bool.and_eq_true] at q
    have q1 : ((sIx items.size 0 lo : Nat) : Int) = 0 := eq_of_beq q.1.1
    have q2 : sIx items.size items.size hi - sIx items.size 0 lo = items.size := eq_of_beq q.2
    exact hw ⟨by omega, by omega⟩
  show wpAny _ _ (if (((sIx items.size 0 lo : Nat) : Int) == 0 && (1 : Int) == 1 && (sIx items.size items.size hi - sIx items.size 0 lo) == items.size) = true then _ else _) _ _ s
  rw [if_neg hno, pick_gen]
  first
    | exact wpAny_bind (m := Builtin.Tuple.tupleExact _) (wpAny_newObj_type (wpAny_pure ⟨_, rfl, wpAny_pure h⟩) htake)
    | exact wpAny_bind (m := Builtin.Tuple.tupleExact _) (wpAny_newObj_type (wpAny_bind (wpAny_pure (wpAny_pure ⟨_, rfl, wpAny_pure h⟩))) htake)
    | exact wpAny_bind (wpAny_bind (m := Builtin.Tuple.tupleExact _) (wpAny_newObj_type (wpAny_pure (wpAny_pure ⟨_, rfl, wpAny_pure h⟩)) htake))
    | exact wpAny_bind (wpAny_bind (m := Builtin.Tuple.tupleExact _) (wpAny_newObj_type (wpAny_pure ⟨_, rfl, wpAny_pure h⟩) htake))
end
end HT

namespace L2
open PySem PySem.Spec PyProof.Rows

/-! ### the parts of a slice -/
abbrev TO := St → Hp → (Option Int → Hp → Prop) → Prop
/-- a slice's part (left out, or an int) -/
def PO (X : Cx) (e : Option Expr) (t : TO) : Prop :=
  ∀ (pins : List (Addr × Obj)) (s : Shared) (σ : St) (H : Hp) (Q : Option Int → Hp → Prop), Inv X pins σ H s → t σ H Q →
    wpAny (model X.prog X.w) X.A (evalPart e X.env) (fun u s' => ∃ o H', Inv X pins σ H' s' ∧ IsPart u o ∧ Q o H') X.xe s
def tNoPart : TO := fun _ H Q => Q none H
def tPart (t : TE) : TO := fun σ H Q => t σ H fun x H1 => ∃ i, x = .int i ∧ Q (some i) H1

section
variable {X : Cx} {e : Expr} {te : TE} {lo hi : Option Expr} {tl th : TO} {pos p2 : Pos}

theorem po_none : PO X none tNoPart := by
  intro pins s σ H Q I h
  rw [evalPart_none]
  exact wpAny_pure ⟨none, H, I, .none, h⟩
theorem po_some (h : PE X e te) : PO X (some e) (tPart te) := by
  intro pins s σ H Q I hw
  rw [evalPart_some]
  refine thn (h pins s σ H _ I hw) fun u s1 ⟨x, H1, I1, r1, q1⟩ => ?_
  obtain ⟨i, rfl, q⟩ := q1
  obtain ⟨t, rfl⟩ := r1
  exact ⟨some i, H1, I1, .int i t, q⟩

/-- what a slice of a value is, by values: the slice object stands at sl -/
def SlR (X : Cx) (r : V → Option Int → Option Int → Hp → VK → Prop) : Prop :=
  ∀ (pins : List (Addr × Obj)) (s : Shared) (σ : St) (H : Hp) (x : V) (v vl vu : Value) (lo hi : Option Int) (sl : Addr) (Q : VK), Inv X pins σ H s → RelV x v → s.heap.IsSliceOf sl vl vu .none → IsPart vl lo → IsPart vu hi → r x lo hi H Q →
    ∃ T id, typeLookup (.type T) "__getitem__" = pure (some (.builtin id)) ∧ s.TypeIs v T ∧ wpAny (model X.prog X.w) X.A (getItem v (.ref sl)) (EP X pins σ Q) X.xe s
theorem SlR.or {r r' : V → Option Int → Option Int → Hp → VK → Prop} (h : SlR X r) (h' : SlR X r') : SlR X (fun x lo hi H Q => r x lo hi H Q ∨ r' x lo hi H Q) := by
  intro pins s σ H x v vl vu lo hi sl Q I rx hs pl pu q
  rcases q with q | q
  · exact h pins s σ H x v vl vu lo hi sl Q I rx hs pl pu q
  · exact h' pins s σ H x v vl vu lo hi sl Q I rx hs pl pu q
def tSl (r : V → Option Int → Option Int → Hp → VK → Prop) (te : TE) (tl th : TO) : TE := fun σ H Q => te σ H fun x H1 => tl σ H1 fun l H2 => th σ H2 fun u H3 => r x l u H3 Q
/-- a[lo:hi], any a -/
theorem pe_slice {r : V → Option Int → Option Int → Hp → VK → Prop} (hr : SlR X r) (he : PE X e te) (hl : PO X lo tl) (hu : PO X hi th) : PE X (.Subscript e (.Slice lo hi none p2) pos) (tSl r te tl th) := by
  intro pins s σ H Q I h
  refine Subscript_ (thn (he pins s σ H _ I h) fun v s1 ⟨x, H1, I1, r1, q1⟩ => ?_)
  refine wpAny_Slice (thn (hl pins s1 σ H1 _ I1 q1) fun vl s2 ⟨l, H2, I2, pl, q2⟩ => thn (hu pins s2 σ H2 _ I2 q2) fun vu s3 ⟨u, H3, I3, pu, q3⟩ => ?_)
  rw [evalPart_none]
  refine wpAny_pure ?_
  have I4 : Inv X pins σ H3 { s3 with heap := s3.heap.push { cls := .type "slice", data := .fields #[vl, vu, .none] } } := I3.kept (t' := s3.toks) fun b ob q => Heap.get?_push_of_some _ q
  obtain ⟨T, id, hT, ht, hg⟩ := hr pins { s3 with heap := s3.heap.push { cls := .type "slice", data := .fields #[vl, vu, .none] } } σ H3 x v vl vu l u s3.heap.objs.size Q I4 r1 (Heap.IsSliceOf.new ..) pl pu q3
  show wpAny (model X.prog X.w) X.A (subscriptTail e (.Slice lo hi none p2) v (.ref s3.heap.objs.size)) (EP X pins σ Q) X.xe { s3 with heap := s3.heap.push { cls := .type "slice", data := .fields #[vl, vu, .none] } }
  exact tail_any (ops := [.ref s3.heap.objs.size, v]) ht hT hg (by with_unfolding_all rfl)

/-- the items of xs[lo:hi] -/
def cutV (xs : List V) (lo hi : Option Int) : List V := (xs.drop (HT.sIx xs.length 0 lo)).take (HT.sIx xs.length xs.length hi - HT.sIx xs.length 0 lo)
theorem cutV_length (xs : List V) (lo hi : Option Int) : (cutV xs lo hi).length ≤ xs.length := by
  unfold cutV
  rw [List.length_take, List.length_drop]
  omega
/-- t[lo:hi], not the whole of it (the whole would be t itself) -/
def rSlT (K : PySem.W.Frag) : V → Option Int → Option Int → Hp → VK → Prop := fun x lo hi H Q => ∃ a xs, x = .ref a ∧ SqT K H a xs ∧
  ¬ (HT.sIx xs.length 0 lo = 0 ∧ HT.sIx xs.length xs.length hi = xs.length) ∧ ∀ p, H p = none → Q (.ref p) (upd H p (.tup (cutV xs lo hi)))
theorem sl_tup : SlR X (rSlT X.K) := by
  intro pins s σ H x v vl vu lo hi sl Q I rx hs pl pu h
  obtain ⟨a, xs, rfl, hx, hw, q⟩ := h
  cases rx
  obtain ⟨its, r, ht, hz⟩ := I.tuple hx
  have hlen : its.toArray.size = xs.length := by rw [List.size_toArray]; exact r.length.symm
  refine ⟨"tuple", _, PyProof.Rows.slot_tuple_getitem.lookup, ht.typeIs, ?_⟩
  refine HT.getItem_tuple_cut ht hs pl pu (by rw [hlen]; exact hw) ?_ (by rw [hlen]; exact hz)
  rw [hlen]
  refine ⟨.ref s.heap.objs.size, _, I.laid (t' := s.toks) (o := .tup (cutV xs lo hi)) (fun b ob q => Heap.get?_push_of_some _ q) (Nat.le_refl _) ?_, rfl, q _ (I.hok.fresh (Nat.le_refl _))⟩
  exact ⟨⟨Nat.le_trans (cutV_length xs lo hi) hz, fun _ => ⟨_, Heap.get?_push_size _ rfl, rfl, rfl⟩⟩, _, (r.drop (HT.sIx xs.length 0 lo)).take (HT.sIx xs.length xs.length hi - HT.sIx xs.length 0 lo), IsTup.new _ _⟩

/-! ### t < u, t + u -/
end
end L2

namespace L2
open PySem PySem.Spec PyProof.Rows

/-! ### places -/
/-- the place that an index of any sign means -/
def ixN (n : Nat) (i : Int) : Option Nat := if 0 ≤ i then (if i < n then some i.toNat else none) else if -(n : Int) ≤ i then some (i + n).toNat else none
def atI {α : Type} (xs : List α) (i : Int) : Option α := (ixN xs.length i).bind fun j => xs[j]?
theorem ixN_seq {n : Nat} {i : Int} {j : Nat} (h : ixN n i = some j) : seqIndex? i n = some j ∧ j < n ∧ -(n : Int) ≤ i ∧ i < n := by
  unfold ixN at h
  by_cases h0 : 0 ≤ i
  · rw [if_pos h0] at h
    by_cases h1 : i < n
    · rw [if_pos h1] at h
      have e : i.toNat = j := Option.some.inj h
      exact ⟨by rw [seqIndex_of h0 h1, e], by omega, by omega, h1⟩
    · rw [if_neg h1] at h; cases h
  · rw [if_neg h0] at h
    by_cases h1 : -(n : Int) ≤ i
    · rw [if_pos h1] at h
      have e : (i + n).toNat = j := Option.some.inj h
      exact ⟨by rw [seqIndex_neg (by omega) h1, e], by omega, h1, by omega⟩
    · rw [if_neg h1] at h; cases h
theorem atI_get {α : Type} {xs : List α} {i : Int} {v : α} (h : atI xs i = some v) : ∃ j, seqIndex? i xs.length = some j ∧ xs[j]? = some v ∧ j < xs.length ∧ -(xs.length : Int) ≤ i ∧ i < xs.length := by
  unfold atI at h
  cases e : ixN xs.length i with
  | none => rw [e] at h; cases h
  | some j =>
    rw [e] at h
    obtain ⟨h1, h2, h3, h4⟩ := ixN_seq e
    exact ⟨j, h1, h, h2, h3, h4⟩
theorem atI_nat {α : Type} {xs : List α} {j : Nat} {v : α} (h : xs[j]? = some v) : atI xs (j : Int) = some v := by
  have hj : j < xs.length := (List.getElem?_eq_some_iff.mp h).1
  have e : ixN xs.length (j : Int) = some j := by
    unfold ixN
    rw [if_pos (by omega), if_pos (by omega)]; simp
  unfold atI; rw [e]; exact h
theorem atI_last {α : Type} (xs : List α) (v : α) : atI (xs ++ [v]) (-1) = some v := by
  have hl : (xs ++ [v]).length = xs.length + 1 := by simp
  have e : ixN (xs ++ [v]).length (-1) = some xs.length := by
    unfold ixN
    rw [hl, if_neg (by decide), if_pos (by omega)]
    congr 1
    omega
  unfold atI
  rw [e]
  show (xs ++ [v])[xs.length]? = some v
  simp

/-! ### what may be subscripted -/
/-- what stands as an index of a plain subscript -/
def PlainIx (b : Expr) : Prop := ∀ o i, subscripted b false o i = operate [o, i] (getItem o i)
/-- a subscript by values -/
def IxR (X : Cx) (r : R2) : Prop :=
  ∀ (value slice : Expr) (pins : List (Addr × Obj)) (s : Shared) (σ : St) (H : Hp) (x y : V) (v u : Value) (Q : VK), Inv X pins σ H s → RelV x v → RelV y u → r x y H Q →
    subscripted slice false v u = operate [v, u] (getItem v u) → wpAny (model X.prog X.w) X.A (subscriptTail value slice v u) (EP X pins σ Q) X.xe s
/-- a call of a builtin's method by values: the receiver, the arguments -/
def MtR (X : Cx) (id : String) (r : V → List V → Hp → VK → Prop) : Prop :=
  ∀ (pins : List (Addr × Obj)) (s : Shared) (σ : St) (H : Hp) (x : V) (xs : List V) (v : Value) (us : List Value) (Q : VK), Inv X pins σ H s → RelV x v → Vals xs us → r x xs H Q →
    wpAny (model X.prog X.w) X.A (call (.builtin id) (v :: us)) (EP X pins σ Q) X.xe s
section
variable {X : Cx} {a b : Expr} {ta tb : TE} {pos : Pos}
theorem IxR.or {r r' : R2} (h : IxR X r) (h' : IxR X r') : IxR X (fun x y H Q => r x y H Q ∨ r' x y H Q) := by
  intro value slice pins s σ H x y v u Q I rx ry q hs
  rcases q with q | q
  · exact h value slice pins s σ H x y v u Q I rx ry q hs
  · exact h' value slice pins s σ H x y v u Q I rx ry q hs
theorem MtR.or {id : String} {r r' : V → List V → Hp → VK → Prop} (h : MtR X id r) (h' : MtR X id r') : MtR X id (fun x xs H Q => r x xs H Q ∨ r' x xs H Q) := by
  intro pins s σ H x xs v us Q I rx rs q
  rcases q with q | q
  · exact h pins s σ H x xs v us Q I rx rs q
  · exact h' pins s σ H x xs v us Q I rx rs q
/-- a[b] -/
theorem pe_ix {r : R2} (hr : IxR X r) (ha : PE X a ta) (hb : PE X b tb) (hs : PlainIx b) : PE X (.Subscript a b pos) (tOp r ta tb) := by
  intro pins s σ H Q I h
  exact Subscript_ (binT ha hb I h fun v u s2 x y H2 I2 rx ry q => hr a b pins s2 σ H2 x y v u Q I2 rx ry q (hs _ _))

def rIxL (K : PySem.W.Frag) : R2 := fun x y H Q => ∃ p xs i v, x = .ref p ∧ y = .int i ∧ SqL K H p xs ∧ atI xs i = some v ∧ Q v H
def rIxT (K : PySem.W.Frag) : R2 := fun x y H Q => ∃ p xs i v, x = .ref p ∧ y = .int i ∧ SqT K H p xs ∧ atI xs i = some v ∧ Q v H
theorem ix_list : IxR X (rIxL X.K) := by
  intro value slice pins s σ H x y v u Q I rx ry h hs
  obtain ⟨p, xs, i, z, rfl, rfl, hq, he, q⟩ := h
  cases rx
  obtain ⟨t, rfl⟩ := ry
  obtain ⟨its, r, pl, hz⟩ := I.list hq
  obtain ⟨j, h1, h2, h3, h4, h5⟩ := atI_get he
  obtain ⟨w, ew, rw'⟩ := r.get h2
  have hl := r.length
  have hn := line63
  have fin : EP X pins σ Q w s := ⟨z, H, I, rw', q⟩
  by_cases h0 : 0 ≤ i
  · have hj : i.toNat = j := by
      rw [seqIndex_of h0 h5] at h1
      exact Option.some.inj h1
    exact item_listR pl.isList h0 (by omega) (by rw [hj]; simpa using ew) fin hs
  · have hj : (i + (its.toArray.size : Int)).toNat = j := by
      rw [seqIndex_neg (by omega) h4] at h1
      rw [List.size_toArray, ← hl]
      exact Option.some.inj h1
    exact subscriptTail_builtinR (x := w) pl.isList.typeIs slot_list_getitem.lookup
      (wpAny_getItem_list_neg (Q := fun r s' => r = w ∧ EP X pins σ Q r s') pl.isList (by omega) (by rw [List.size_toArray] <;> omega) (by omega) (by rw [hj]; simpa using ew) ⟨rfl, fin⟩) hs
theorem ix_tup : IxR X (rIxT X.K) := by
  intro value slice pins s σ H x y v u Q I rx ry h hs
  obtain ⟨p, xs, i, z, rfl, rfl, hq, he, q⟩ := h
  cases rx
  obtain ⟨t, rfl⟩ := ry
  obtain ⟨its, r, pl, hz⟩ := I.tuple hq
  obtain ⟨j, h1, h2, h3, h4, h5⟩ := atI_get he
  obtain ⟨w, ew, rw'⟩ := r.get h2
  have hl := r.length
  have hn := line63
  have fin : EP X pins σ Q w s := ⟨z, H, I, rw', q⟩
  exact subscriptTail_builtinR (x := w) pl.typeIs slot_tuple_getitem.lookup
    (getItem_tuple (j := j) (Q := fun r s' => r = w ∧ EP X pins σ Q r s') pl (by omega) (by omega) (by rw [List.size_toArray, ← hl]; exact h1) (by simpa using ew) ⟨rfl, fin⟩) hs
/-! ### xs[i] = v, any sign -/
/-- the list's object behind a store -/
theorem mapSeq_set (its : List Value) (n j : Nat) (u : Value) : Obj.mapSeq (·.setIfInBounds j u) { cls := .type "list", data := .seq its.toArray n } = { cls := .type "list", data := .seq (its.set j u).toArray n } := by
  simp [Obj.mapSeq]
theorem Inv.lst {pins : List (Addr × Obj)} {σ : St} {H : Hp} {s : Shared} {p : Addr} {xs : List V} (I : Inv X pins σ H s) (h : H p = some (.lst xs)) :
    ∃ (its : List Value) (n : Nat), Vals xs its ∧ s.heap.get? p = some { cls := .type "list", data := .seq its.toArray n } ∧ xs.length ≤ sizeLine := by
  obtain ⟨z, its, n, r, e⟩ := I.hok p _ h
  exact ⟨its, n, r, e, z⟩
/-- the list at p is written by an update of its object -/
theorem Inv.lstUpd {pins : List (Addr × Obj)} {σ : St} {H : Hp} {s : Shared} {p : Addr} {xs ys : List V} {its its' : List Value} {n n' : Nat} {f : Obj → Obj} (I : Inv X pins σ H s) (h : H p = some (.lst xs))
    (ho : s.heap.get? p = some { cls := .type "list", data := .seq its.toArray n }) (hf : f { cls := .type "list", data := .seq its.toArray n } = { cls := .type "list", data := .seq its'.toArray n' }) (r : Vals ys its') (hz : ys.length ≤ sizeLine) (t : Nat) :
    Inv X pins σ (upd H p (.lst ys)) { s with heap := s.heap.update p f, toks := t } := by
  have e : (s.heap.update p f).get? p = some { cls := .type "list", data := .seq its'.toArray n' } := by
    rw [Heap.get?_update_self f ho (by rw [hf] <;> rfl), hf]
  refine I.write (x := p) (e := p) (by rw [h]; trivial) (.inl rfl) (fun b u hb q => (Heap.get?_update_other _ _ (Ne.symm hb)).trans q) ⟨_, e⟩ ?_
  exact ⟨hz, its', n', r, e⟩
def rSetL : V → V → V → Hp → (Hp → Prop) → Prop := fun o i v H Q => ∃ p xs k j, o = .ref p ∧ i = .int k ∧ H p = some (.lst xs) ∧ ixN xs.length k = some j ∧ Q (upd H p (.lst (xs.set j v)))
theorem set_list : PSet X rSetL := by
  intro pins s σ H o i v ov iv u Q I ro ri rv h
  obtain ⟨p, xs, k, j, rfl, rfl, hp, hj, q⟩ := h
  cases ro
  obtain ⟨t, rfl⟩ := ri
  obtain ⟨its, n, r, ho, hz⟩ := I.lst hp
  obtain ⟨h1, h2, h3, h4⟩ := ixN_seq hj
  have hl := r.length
  have hn := line63
  have I' : Inv X pins σ (upd H p (.lst (xs.set j v))) { s with heap := s.heap.update p (Obj.mapSeq (·.setIfInBounds j u)) } :=
    I.lstUpd hp ho (mapSeq_set its n j u) (r.set rv j) (by rw [List.length_set]; exact hz) s.toks
  by_cases h0 : 0 ≤ k
  · have hk : k.toNat = j := by
      rw [seqIndex_of h0 h4] at h1
      exact Option.some.inj h1
    exact PySem.W.ki_setAt ho h0 (by omega) (by rw [List.size_toArray, ← hl]; exact h4) (by rw [hk]; exact ⟨_, I', q⟩)
  · have hk : (k + (its.toArray.size : Int)).toNat = j := by
      rw [seqIndex_neg (by omega) h3] at h1
      rw [List.size_toArray, ← hl]
      exact Option.some.inj h1
    exact PySem.W.ki_setBack ho (by omega) (by rw [List.size_toArray, ← hl]; exact h3) (by omega) (by rw [hk]; exact ⟨_, I', q⟩)

/-! ### slices -/
/-- xs[lo:hi] of a list: a new list -/
def rSlL (K : PySem.W.Frag) : V → Option Int → Option Int → Hp → VK → Prop := fun x lo hi H Q => ∃ a xs, x = .ref a ∧ SqL K H a xs ∧ ∀ p, H p = none → Q (.ref p) (upd H p (.lst (cutV xs lo hi)))
/-! ### in, not in: flat items -/
/-! ### len, list(x), tuple(x) of any list or tuple that is read -/
theorem call_len_seq : CallR X (.builtin "len") (fun xs H Q => ∃ p ys, xs = [.ref p] ∧ (SqL X.K H p ys ∨ SqT X.K H p ys) ∧ Q (.int ys.length) H) := by
  intro pins s σ H xs us Q I r h
  obtain ⟨p, ys, rfl, hq, q⟩ := h
  obtain ⟨u, rfl, rx⟩ := vals1 r
  cases rx
  have hn := line63
  rcases hq with hq | hq
  · obtain ⟨its, r', pl, hz⟩ := I.list hq
    have hlen := r'.length
    exact Calls.call_len_list pl.isList (by simp only [List.size_toArray] <;> omega) ⟨.int ys.length, H, I.tok _, ⟨s.toks + 1, by rw [List.size_toArray, hlen]⟩, q⟩
  · obtain ⟨its, r', pl, hz⟩ := I.tuple hq
    have hlen := r'.length
    exact len_tuple pl (by simp only [List.size_toArray] <;> omega) ⟨.int ys.length, H, I.tok _, ⟨s.toks + 1, by rw [List.size_toArray, hlen]⟩, q⟩
theorem CallR.or {f : Value} {r r' : List V → Hp → VK → Prop} (h : CallR X f r) (h' : CallR X f r') : CallR X f (fun xs H Q => r xs H Q ∨ r' xs H Q) := by
  intro pins s σ H xs us Q I rs q
  rcases q with q | q
  · exact h pins s σ H xs us Q I rs q
  · exact h' pins s σ H xs us Q I rs q
theorem call_tuple_of : CallR X (.type "tuple") (fun xs H Q => ∃ p ys, xs = [.ref p] ∧ ((SqL X.K H p ys ∧ ∀ l, H l = none → Q (.ref l) (upd H l (.tup ys))) ∨ (SqT X.K H p ys ∧ Q (.ref p) H))) := by
  intro pins s σ H xs us Q I r h
  obtain ⟨p, ys, rfl, h⟩ := h
  obtain ⟨u, rfl, rx⟩ := vals1 r
  cases rx
  rcases h with ⟨hq, q⟩ | ⟨hq, q⟩
  · obtain ⟨its, r', pl, hz⟩ := I.list hq
    have hlen := r'.length
    refine call_tuple_list pl.isList (fun h' kp => ?_) (by simp only [List.size_toArray] <;> omega)
    have I1 : Inv X pins σ H { s with heap := h' } := I.kept (t' := s.toks) kp
    have I2 : Inv X pins σ (upd H h'.objs.size (.tup ys)) { s with heap := h'.push { cls := .type "tuple", data := .seq its.toArray } } :=
      I1.laid (t' := s.toks) (fun b o e => Heap.get?_push_of_some _ e) (Nat.le_refl _) (show ObjOk X.prog X.w _ _ _ (.tup ys) from ⟨⟨hz, fun _ => ⟨_, Heap.get?_push_size _ rfl, rfl, rfl⟩⟩, its, r', IsTup.new _ _⟩)
    exact ⟨.ref h'.objs.size, _, I2, rfl, q _ (I1.hok.fresh (Nat.le_refl _))⟩
  · obtain ⟨its, r', pl, hz⟩ := I.tuple hq
    exact call_tuple_same pl ⟨.ref p, H, I, rfl, q⟩

/-! ### the call of a builtin's method: o.m(..) -/
/-- the value is of that builtin type -/
def tyV (K : PySem.W.Frag) (T : String) (x : V) (H : Hp) : Prop := match x with
  | .str _ => T = "str"
  | .int _ => T = "int"
  | .ref p => (T = "list" ∧ ∃ xs, SqL K H p xs) ∨ (T = "tuple" ∧ ∃ o, K.lookup p = some o ∧ o.cls = .type "tuple" ∧ o.dict = none) ∨
      (T = "dict" ∧ ((∃ kvs, H p = some (.dK kvs)) ∨ ∃ kvs, H p = some (.dT kvs))) ∨ (T = "set" ∧ ∃ S n, H p = some (.set S n))
  | _ => False
theorem tyV_is {pins : List (Addr × Obj)} {σ : St} {H : Hp} {s : Shared} {T : String} {x : V} {v : Value} (I : Inv X pins σ H s) (r : RelV x v) (ty : tyV X.K T x H) :
    s.TypeIs v T ∧ ∀ a, v = .ref a → ∃ ob, s.heap.get? a = some ob ∧ ob.dict = none := by
  cases x with
  | str z =>
    obtain ⟨t, rfl⟩ := r
    cases (show T = "str" from ty)
    exact ⟨typeIs_str s z t, fun _ e => nomatch e⟩
  | int i =>
    obtain ⟨t, rfl⟩ := r
    cases (show T = "int" from ty)
    exact ⟨typeIs_int s i t, fun _ e => nomatch e⟩
  | ref p =>
    cases r
    rcases ty with ⟨rfl, xs, hq⟩ | ⟨rfl, o, hk, hc, hd⟩ | ⟨rfl, hk⟩ | ⟨rfl, S, n, hk⟩
    · obtain ⟨its, _, pl, _⟩ := I.list hq
      refine ⟨pl.isList.typeIs, fun a e => ?_⟩
      cases e
      obtain ⟨o, n, e, c, hd, _⟩ := pl
      exact ⟨o, e, hd⟩
    · refine ⟨⟨o, I.kIn p o hk, hc⟩, fun a e => ?_⟩
      cases e
      exact ⟨o, I.kIn _ o hk, hd⟩
    · have z : ∃ o, s.heap.get? p = some o ∧ o.ExactDict := by
        rcases hk with ⟨kvs, hk⟩ | ⟨kvs, hk⟩
        · obtain ⟨_, _, _, _, o, _, _, e, ex, _⟩ := I.hok p _ hk
          exact ⟨o, e, ex⟩
        · obtain ⟨_, _, _, _, o, _, _, e, ex, _⟩ := I.hok p _ hk
          exact ⟨o, e, ex⟩
      obtain ⟨o, e, ex⟩ := z
      refine ⟨⟨o, e, ex.1⟩, fun a e2 => ?_⟩
      cases e2
      exact ⟨o, e, ex.2.1⟩
    · obtain ⟨o, _, _, _, e, ex, _⟩ := I.hok p _ hk
      refine ⟨⟨o, e, ex.1⟩, fun a e2 => ?_⟩
      cases e2
      exact ⟨o, e, ex.2.1⟩
  | _ => exact False.elim ty
def tBM0 (K : PySem.W.Frag) (T : String) (r : V → List V → Hp → VK → Prop) (to : TE) : TE := fun σ H Q => to σ H fun x H1 => tyV K T x H1 ∧ r x [] H1 Q
def tBM (K : PySem.W.Frag) (T : String) (r : V → List V → Hp → VK → Prop) (to : TE) (t : TA) : TE := fun σ H Q => to σ H fun x H1 => tyV K T x H1 ∧ t σ H1 fun xs H2 => r x xs H2 Q
variable {o e : Expr} {es : List Expr} {to : TE} {t : TA} {name : Str} {apos cpos : Pos} {T id : String} {r : V → List V → Hp → VK → Prop}
theorem pe_bm (pa : PlainAttrs T) (slot : Slot T name id) (hty : typeOf (.builtin id) = pure (.type "method_descriptor")) (hm : MtR X id r) (ho : PE X o to) (ha : PA X (e :: es) t)
    (hbase : attributeBase o name X.env (eval o X.env) = eval o X.env := by rfl)
    (hfew : ((backTo cpos (starEach (e :: es) X.env)).all (fun x => !x.1) && (backToKw cpos (keywordEach [] X.env)).all (fun x => x.1.isSome)
      && decide ((e :: es).length + ([] : List Keyword).length + (if ([] : List Keyword).isEmpty then 0 else 1) < 30)) = true := by rfl)
    (hline : (apos.endLine == cpos.line) = true := by rfl) (hs : starEach (e :: es) X.env = (false, eval e X.env) :: starEach es X.env := by rfl) (hplain : (backTo cpos (starEach es X.env)).any (·.1) = false := by rfl) :
    PE X (.Call (.Attribute o name apos) (e :: es) [] cpos) (tBM X.K T r to t) := by
  intro pins s σ H Q I h
  refine wpAny_Call_method_late hbase hfew hline rfl (thn (ho pins s σ H _ I h) fun v s1 ⟨x, H1, I1, r1, ty, q1⟩ => ?_)
  obtain ⟨h1, h2⟩ := tyV_is I1 r1 ty
  refine ⟨T, id, pa, slot, hty, h1, h2, ?_⟩
  have hA := ha cpos pins s1 σ H1 _ I1 q1
  rw [hs] at hA ⊢
  refine Calls.callWith_builtin (by show (false || (backTo cpos (starEach es X.env)).any (·.1)) = false; rw [hplain] <;> rfl) (Calls.evalArgs_plain ?_)
  exact thn hA fun us s2 ⟨vs, H2, I2, r2, q2⟩ => hm pins s2 σ H2 x vs v us Q I2 r1 r2 q2
/- xs.append(e), list.index on a module's tuple .. are MtR facts of 06m -/
end
end L2

namespace L2
open PySem PySem.Spec PyProof.Rows

def MtM (X : Cx) (id : String) (r : V → List V → Hp → VK → Prop) : Prop :=
  ∀ (pins : List (Addr × Obj)) (s : Shared) (σ : St) (H : Hp) (x : V) (xs : List V) (v : Value) (us : List Value) (Q : VK), Inv X pins σ H s → RelV x v → Vals xs us → r x xs H Q →
    wpAny (model X.prog X.w) X.A (call (.builtin id) (v :: us)) (EP X pins σ Q) X.xe s

/-! ### lists of values -/
theorem Vals.one : ∀ {x : V} {us : List Value}, Vals [x] us → ∃ u, us = [u] ∧ RelV x u
  | _, _, .cons r .nil => ⟨_, rfl, r⟩
theorem Vals.two : ∀ {x y : V} {us : List Value}, Vals [x, y] us → ∃ u v, us = [u, v] ∧ RelV x u ∧ RelV y v
  | _, _, _, .cons r (.cons q .nil) => ⟨_, _, rfl, r, q⟩
theorem Vals.zero : ∀ {us : List Value}, Vals [] us → us = []
  | _, .nil => rfl
theorem Vals.dropLast {xs : List V} {us : List Value} (h : Vals xs us) : Vals xs.dropLast us.dropLast := by
  induction h with
  | nil => exact .nil
  | cons r t ih =>
    cases t with
    | nil => exact .nil
    | cons q t' => exact .cons r ih
theorem Vals.reverse {xs : List V} {us : List Value} (h : Vals xs us) : Vals xs.reverse us.reverse := by
  induction h with
  | nil => exact .nil
  | cons r t ih => rw [List.reverse_cons, List.reverse_cons]; exact Vals.append ih (.cons r .nil)
section
variable {X : Cx} {pins : List (Addr × Obj)} {σ : St} {H : Hp} {s : Shared} {l b : Addr} {xs ys zs : List V}

/-! ### the two steps: a tracked list is rewritten, a new list is laid -/
theorem Inv.lset {its its' : List Value} {n : Nat} {f : Array Value → Array Value} {t' : Nat} (I : Inv X pins σ H s) (hH : H l = some (.lst xs))
    (e : s.heap.get? l = some { cls := .type "list", data := .seq its.toArray n }) (hf : f its.toArray = its'.toArray) (hv : Vals ys its') (hz : ys.length ≤ sizeLine) :
    Inv X pins σ (upd H l (.lst ys)) { s with heap := s.heap.update l (Obj.mapSeq f), toks := t' } := by
  have q := PySem.IsL.update e f
  rw [hf] at q
  refine I.write (x := l) (e := l) (by rw [hH]; exact trivial) (.inl rfl) (fun b' u hb hu => (Heap.get?_update_other s.heap (Obj.mapSeq f) (Ne.symm hb)).trans hu) ⟨_, q⟩ ?_
  exact ⟨hz, its', _, hv, q⟩
theorem Inv.fresh (I : Inv X pins σ H s) : H s.heap.objs.size = none := I.hok.fresh (Nat.le_refl _)
theorem Inv.lstM (I : Inv X pins σ H s) (hH : H l = some (.lst xs)) : xs.length ≤ sizeLine ∧ ∃ (its : List Value) (n : Nat), Vals xs its ∧ xs.length = its.length ∧ s.heap.get? l = some { cls := .type "list", data := .seq its.toArray n } := by
  obtain ⟨z, its, n, r, e⟩ := I.hok l _ hH
  exact ⟨z, its, n, r, r.length, e⟩

theorem notLongL {n : Nat} (h : n ≤ sizeLine) : Builtin.List.listTooLong n = false := by
  unfold Builtin.List.listTooLong
  exact decide_eq_false (by omega)
end

section
variable {X : Cx}

/-! ### methods -/
def rAppend : V → List V → Hp → VK → Prop := fun x vs H Q => ∃ l xs y, x = .ref l ∧ vs = [y] ∧ H l = some (.lst xs) ∧ xs.length < sizeLine ∧ Q .non (upd H l (.lst (xs ++ [y])))
theorem mt_append : MtM X "list.append" rAppend := by
  intro pins s σ H x vs v us Q I rx rv h
  obtain ⟨l, xs, y, rfl, rfl, hH, hz, q⟩ := h
  cases rx
  obtain ⟨u, rfl, ru⟩ := rv.one
  obtain ⟨z, its, n, r, hl, e⟩ := I.lstM hH
  refine call_meets F.slot_list_append ⟨_, e, rfl⟩ F.entry_list_append (F.args_list_append_2 _ _) (PySem.list_append l its.toArray n u (by rw [List.size_toArray]; omega)) ⟨e, ?_⟩
  refine ⟨.non, _, I.lset (its' := its ++ [u]) hH e (by simp) (r.append (.cons ru .nil)) ?_, rfl, q⟩
  rw [List.length_append, List.length_singleton]
  omega

/-! ### list + list, list += list, list * int -/
/-! ### del xs[i] -/
end

/-! ### xs[a:b] = ys -/
section
variable {prog : Program} {w : World} {A : Around} {E : Value → Shared → Prop} {s : Shared}
end

section
variable {X : Cx}
end
end L2

namespace Att
open PySem PySem.W PySem.Calls PyProof.Rows

/-! ### the script -/
theorem ints_of_wellAll {P : Params} {h : Heap} : ∀ (ns : List Int) (vs : List Value), WellAll P h vs (ns.map WData.int) → IntsAre vs ns := by
  intro ns
  induction ns with
  | nil =>
    intro vs w
    rw [List.map_nil] at w
    cases w
    exact .nil
  | cons n ns ih =>
    intro vs w
    rw [List.map_cons] at w
    cases w with
    | cons a b =>
      cases a
      exact .cons _ _ (ih _ b)

theorem script_of {l : OpenLaw} {n : Nat} (hn : l.most = some n) {P : Params} {h : Heap} {args : List WData} {vals : List Value}
    (hpre : l.row.toRowW.claim.pre args = true) (hwl : WellAll P h vals args) :
    ∃ a vs ns, vals = [Value.ref a] ∧ args = [WData.list (ns.map WData.int)] ∧ h.get? a = some { cls := .type "list", data := .seq vs.toArray } ∧ IntsAre vs ns ∧ ns.length ≤ n := by
  have hsh : WShape.hasAll [] args [.list .int] = true := (pre_splitW hpre).1
  have hc : l.pre.holds [] { args := args } = true := (pre_splitW hpre).2
  obtain ⟨d, r, rfl, h1, h2⟩ := hasAllW_cons hsh
  obtain rfl := hasAllW_nil h2
  obtain ⟨xs, rfl, h3⟩ := hasW_list h1
  obtain ⟨ns, rfl⟩ := items_int h3
  have hlen : ns.length ≤ n := by
    unfold OpenLaw.pre at hc
    have h4 : (WTm.not (.lt (.lit (.int (n : Int))) (.len (.arg 0)))).holds [] { args := [.list (ns.map .int)] } = true := by
      have h4 := (holds_andW hc).1
      rw [hn] at h4
      exact h4
    have h5 := condW_of h4 (w_not (w_lt w_lit (w_len_list (w_arg rfl))))
    rw [List.length_map] at h5
    refine Nat.le_of_not_lt fun q => ?_
    have q' : (n : Int) < ((ns.length : Nat) : Int) := by omega
    first
      | (rw [decide_eq_true q'] at h5; exact absurd h5 (by decide))
      | (simp at h5; omega)
  cases hwl with
  | cons w1 w2 =>
    cases w2
    cases w1 with
    | list ho hall => exact ⟨_, _, ns, rfl, rfl, ho, ints_of_wellAll ns _ hall, hlen⟩

theorem post_true (l : OpenLaw) (args : List WData) : l.row.toRowW.claim.post args (.bool true) args = true :=
  postW_of (r := l.row.toRowW) (X := (true == true))
    (show WShape.has [] (.bool true) .bool = true by first | rfl | decide | simp [WShape.has, WShape.arms, WShape.armsAll])
    (show (WTm.eq .res (.lit (.bool true))).value [] { args := args, res := some (.bool true), after := args } = some (.bool (true == true)) from w_eq_bool (w_res rfl) w_lit) rfl

/-! ### the attachment: holds_open's last premise (the goal 'hc' behind k_head) from a wpAny of the law's body -/
/-- the same from a codeAny of the CALL (for a layer whose function contracts speak of calls) -/
theorem attach_call {l : OpenLaw} {n : Nat} {q : Program} {loose : List Str} {XP : (Str → Option Value) → Heap → Prop} {YP : World → Heap → Prop} {d : DefRec}
    (hn : l.most = some n) (hdf : d.params.defaults = [])
    (call : ∀ (w : World) (s₀ s₁ : Shared) (mg mb : Str → Option Value) (fa : Addr) (o : Obj) (pm cd doc : Value) (a : Addr) (vs : List Value) (ns : List Int),
      Ground q loose [] XP w s₀ mg mb s₁.heap → YP w s₁.heap →
      s₁.heap.get? fa = some o → o.data = .func (docDef d.name d.params d.body d.scope pm cd doc) → s₁.heap.CodeRec cd d.name → mg d.name = some (.ref fa) →
      s₁.heap.get? a = some { cls := .type "list", data := .seq vs.toArray } → IntsAre vs ns → ns.length ≤ n → s₁.gens = #[] →
      codeAny (model l.prog w) callerA (.call (.ref fa) ⟨[.ref a], []⟩) (fun r s' => r = .ok (.ret (.bool true)) ∧ OldK s₁.heap s'.heap ∧ s'.os = s₁.os ∧ AllBare s'.gens) s₁) :
    WalkO q loose XP YP l.row.toRowW d [] (fun f vs => PySem.call f vs) := by
  intro w s₀ s₁ mg mb G Y fa o pm cd doc dV kV ho hd hcd hD hmg hg args vals as hpre hlay hrd hwl hlo
  obtain rfl : dV = .none := Dflts.none hD hdf
  obtain rfl : kV = .none := Dflts.noKw hD
  obtain ⟨a, vs, ns, rfl, rfl, hobj, hints, hlen⟩ := script_of hn hpre hwl
  refine enter_call (codeAny_mono (call w s₀ s₁ mg mb fa o pm cd doc a vs ns G Y ho (fd_plain hd) hcd hmg hobj hints hlen hg) fun r s' hq => ?_)
  obtain ⟨rfl, h2, h3, h4⟩ := hq
  exact ⟨.inl ⟨.bool true, .bool true, [], rfl, fun _ => rfl, .bool true, post_true l _, fun _ => ⟨List.Pairwise.nil, fun _ hm => (nomatch hm)⟩⟩, h2, h3, h4⟩

/-! ### rules over ANY heap (no ledger) from facts about the written part K: the library's own take a ledger (News) for what they write -/
section
variable {prog : Program} {w : World} {A : Around} {E : Value → Shared → Prop} {s : Shared} {K : Frag}

/-! the whole heap as the ledger: makes every rule that writes through a ledger a rule over any heap -/
def ledger (h : Heap) (L d : Addr) : List (Addr × Obj) := (List.range h.objs.size).filterMap fun a => if a = L ∨ a = d then none else (h.get? a).map fun o => (a, o)
end
end Att

namespace L2
open PySem PySem.Spec PyProof.Rows

theorem vals_ints : ∀ {vs : List Value} {ns : List Int}, IntsAre vs ns → Vals (ns.map V.int) vs
  | _, _, .nil => .nil
  | _, _, .cons n t h => .cons ⟨t, rfl⟩ (vals_ints h)

/-- nothing is tracked but the script, known to the object (or it is an object of the module) -/
def Only (H : Hp) : Prop := ∀ b, H b = none ∨ ∃ o xs, H b = some (.frz o (.lst xs))

/-- THE HEAD: the law's promise, at the heap behind the top. F, the promise of the law's def, may use that base is part of the heap (so K.In base, base.Ns mainGlobals mg stand in Mod) -/
theorem law_call {P : Program} {w : World} {K : PySem.W.Frag} {mg mb : Str → Option Value} {CX : CXT} {k : Nat} {fa a : Addr} {fd : FuncData} {x : Str} {sp : Sp} {s₁ : Shared} {vs : List Value} {ns : List Int}
    (KX : K.In s₁.heap) (hns : s₁.heap.Ns mainGlobals mg) (hb : s₁.heap.Ns builtinsNs mb) (hbb : ∀ x : Str, x ≠ "__name__" → mb x = bootBuiltins x) (hlim : s₁.heap.NoLimit) (hg : s₁.gens = #[])
    (ha : s₁.heap.get? a = some { cls := .type "list", data := .seq vs.toArray }) (hi : IntsAre vs ns) (hl : ns.length ≤ sizeLine) (hr : Room k callerA)
    (F : ∀ base : Heap, K.In base → base.Ns mainGlobals mg → FnOk P w K mg base CX k fa fd [x] sp) (hbind : ∀ (s : Shared) (u : Value), BindsTo s fd ⟨[u], []⟩ [(x, u)])
    (hsp : ∀ H : Hp, Only H → SqL K H a (ns.map V.int) → sp [.ref a] H (fun v _ => v = .bl true) fun _ _ _ => False)
    (hCX : ∀ H e s', CX [] H s₁ (fun _ _ _ => False) e s' → False) :
    codeAny (model P w) callerA (.call (.ref fa) ⟨[.ref a], []⟩) (fun r s' => r = .ok (.ret (.bool true)) ∧ OldK s₁.heap s'.heap ∧ s'.os = s₁.os ∧ AllBare s'.gens) s₁ := by
  have rv := vals_ints hi
  have lenV := hi.length
  -- from an abstract heap in which nothing but the script may be tracked
  have core : ∀ H : Hp, Only H → SqL K H a (ns.map V.int) → HOk P w H s₁.heap → (∀ b, H b ≠ none → b = a) → (H a ≠ none → K.lookup a = none) →
      codeAny (model P w) callerA (.call (.ref fa) ⟨[.ref a], []⟩) (fun r s' => r = .ok (.ret (.bool true)) ∧ OldK s₁.heap s'.heap ∧ s'.os = s₁.os ∧ AllBare s'.gens) s₁ := by
    intro H hO hS hok hA hK
    have base_of : ∀ {b : Addr} {o : Obj}, s₁.heap.get? b = some o → H b = none → (hidT s₁.heap H).get? b = some o := fun e n => hidT_get e n
    have noA : ∀ {b : Addr} {o : Obj} {es : Array DictEntry} {ep : Nat}, s₁.heap.get? b = some o → o.data = .dict es ep → H b = none := fun {b o es ep} e d => by
      cases q : H b with
      | none => rfl
      | some u =>
        have e' : b = a := hA b (by rw [q]; simp)
        subst e'
        rw [ha] at e; cases e
        have d' : Data.seq vs.toArray _ = Data.dict es ep := d
        cases d'
    have nsK : ∀ {b : Addr} {m : Str → Option Value}, s₁.heap.Ns b m → (hidT s₁.heap H).Ns b m := fun {b m} ⟨o, es, ep, e, d, r⟩ => ⟨o, es, ep, base_of e (noA e d), d, r⟩
    have hKb : K.In (hidT s₁.heap H) := fun b o e => base_of (KX b o e) (by
      cases q : H b with
      | none => rfl
      | some u =>
        have e' : b = a := hA b (by rw [q]; simp)
        subst e'
        rw [hK (by rw [q]; simp)] at e; cases e)
    have hM : Mod K mg (hidT s₁.heap H) := ⟨hKb, nsK hns, ⟨mb, nsK hb, hbb⟩, let ⟨mc, h1, h2⟩ := hlim; ⟨mc, nsK h1, h2⟩⟩
    have e0 : Env0 P w K mg (hidT s₁.heap H) callerA [] s₁ H := ⟨rfl, hM, fun b o e => of_hidT e, Nat.le_of_eq (hidT_size _ _), trivial, fun b hb => absurd (show b ∈ ([] : List Addr) from hb) (by simp), hok, .of_eq hg⟩
    refine codeAny_mono ((F _ hKb (nsK hns)).run callerA [] s₁ H ⟨[.ref a], []⟩ [.ref a] [.ref a] _ _ hr e0 (hbind s₁ (.ref a)) (.cons rfl .nil) (hsp H hO hS)) fun r s' h => ?_
    cases r with
    | error e => exact (hCX H e s' h).elim
    | ok fl =>
      cases fl with
      | next => exact False.elim h
      | brk => exact False.elim h
      | cont => exact False.elim h
      | ret u =>
        obtain ⟨v, H', os, bare, un, hok', r', q⟩ := h
        have q' : v = .bl true := q
        subst q'
        obtain rfl : u = Value.bool true := r'
        refine ⟨rfl, OldK.of_keep fun b o e => ?_, os, bare⟩
        cases q : H b with
        | none => exact un.keep b o e q (by intro z; exact absurd (show b ∈ ([] : List Addr) from z) (by simp)) (by simp)
        | some u =>
          rcases hO b with z | ⟨ob, xs, z⟩
          · rw [q] at z; cases z
          · have z2 := un.frzs b ob _ z
            obtain ⟨e1, _⟩ := hok b _ z
            obtain ⟨e2, _⟩ := hok' b _ z2
            rw [e] at e1; cases e1
            exact e2
  cases hk : K.lookup a with
  | some o =>
    -- the script is one of the module's own objects
    have e := KX a o hk
    rw [ha] at e
    cases e
    refine core (fun _ => none) (fun _ => .inl rfl) (.inr ⟨_, vs.toArray, _, hk, rfl, rfl, rfl, by rw [List.size_toArray, lenV]; exact hl, by simpa using rv⟩) (fun b u z => by have z' : (none : Option HO) = some u := z; cases z') (fun b z => absurd rfl z) fun z => absurd rfl z
  | none =>
    refine core (fun b => if b = a then some (.frz { cls := .type "list", data := .seq vs.toArray } (.lst (ns.map V.int))) else none) (fun b => ?_) (.inl (.inr ⟨{ cls := .type "list", data := .seq vs.toArray }, if_pos rfl⟩)) (fun b u z => ?_) (fun b z => ?_) fun _ => hk
    · by_cases hb : b = a
      · exact .inr ⟨_, _, if_pos hb⟩
      · exact .inl (if_neg hb)
    · by_cases hb : b = a
      · have z' := (if_pos hb).symm.trans z
        cases z'
        subst hb
        exact ⟨ha, by rw [List.length_map]; exact hl, vs, _, rv, ha⟩
      · have z' := (if_neg hb).symm.trans z
        cases z'
    · by_cases hb : b = a
      · exact hb
      · exact absurd (if_neg hb) z
end L2

namespace L2
open PySem PySem.Spec PyProof.Rows

/-- the goal that k_head leaves (case hc), from the law's promise. F gives the function object fd (K's own) once, then the promise over every base -/
theorem walk_of {l : PySem.W.OpenLaw} {n k : Nat} {q : Program} {loose : List Str} {XP : (Str → Option Value) → Heap → Prop} {YP : World → Heap → Prop} {d : DefRec} {K : Params → PySem.W.Frag} {CX : World → CXT} {sp : World → Sp} {x : Str}
    (hn : l.most = some n) (hn2 : n ≤ sizeLine) (hdf : d.params.defaults = []) (hr : Room k callerA)
    (hY : ∀ (w : World) (h : Heap), YP w h → (K w.params).In h)
    (F : ∀ (w : World) (mg : Str → Option Value) (fa : Addr) (h : Heap), (K w.params).In h → h.Ns mainGlobals mg → mg d.name = some (.ref fa) →
      ∃ fd : FuncData, (∀ (s : Shared) (u : Value), BindsTo s fd ⟨[u], []⟩ [(x, u)]) ∧
        ∀ base : Heap, (K w.params).In base → base.Ns mainGlobals mg → FnOk l.prog w (K w.params) mg base (CX w) k fa fd [x] (sp w))
    (hsp : ∀ (w : World) (H : Hp) (a : Addr) (ns : List Int), ns.length ≤ n → Only H → SqL (K w.params) H a (ns.map V.int) → sp w [.ref a] H (fun v _ => v = .bl true) fun _ _ _ => False)
    (hCX : ∀ (w : World) (H : Hp) (s : Shared) (e : Value) (s' : Shared), CX w [] H s (fun _ _ _ => False) e s' → False) :
    PySem.W.WalkO q loose XP YP l.row.toRowW d [] (fun f vs => PySem.call f vs) := by
  refine Att.attach_call hn hdf fun w s₀ s₁ mg mb fa o pm cd doc a vs ns G Y ho hd hcd hmg hobj hints hlen hg => ?_
  have KX := hY w _ Y
  obtain ⟨fd, hb, hF⟩ := F w mg fa _ KX G.T.g hmg
  exact law_call KX G.T.g G.T.b G.T.builtins G.T.nolimit hg hobj hints (Nat.le_trans hlen hn2) hr hF hb (fun H hO hS => hsp w H a ns hlen hO hS) fun H e s' => hCX w H s₁ e s'
end L2

/- THE LAST THEOREM (shape; LID, My.* are yours):
   My.Adr: a structure of the addresses that your layer names (classes, functions); My.Txt K t: a structure (Prop) of the equations over K;
   My.txt_mk : {K} {implicit addresses ..} (e1 : nsIn K mainGlobals "law" = some (some (.ref f))) (e2 : K.lookup f = some ⟨oc, od, .func (fnOf "law" "law" params body scope dV kV doc pm an cdv ct), sl⟩) (e3 : codeIn K cdv "law" = true) .. : ∃ t, My.Txt K t

(the tactic k_is has no namespace: write k_is) -/

/-! SHORT WORDS over the layer: a def of the text, its body, what a loop and a test want. -/
namespace L2
open PySem PySem.Spec PyProof.Rows

/-! ### the text by places -/
def defArgs (s : Stmt) : Arguments := match s with
  | .FunctionDef _ a _ _ _ _ _ _ _ _ => a
  | _ => { posonlyargs := [], args := [], vararg := none, kwonlyargs := [], kw_defaults := [], kwarg := none, defaults := [] }
def defBody (s : Stmt) : List Stmt := match s with
  | .FunctionDef _ _ b _ _ _ _ _ _ _ => b
  | _ => []
def defScope (s : Stmt) : Scope := match s with
  | .FunctionDef _ _ _ _ _ _ sc _ _ _ => sc
  | _ => { kind := .function, names := [], isGenerator := false, isCoroutine := false }

/-! ### no exception leaves a def -/
abbrev CX0 : CXT := fun _ _ _ _ _ _ => False
abbrev E0 : XK := fun _ _ _ => False
theorem pass0 {X : Cx} : Passes CX0 X E0 := fun _ _ _ _ _ _ _ h => h.elim

/-! ### a def (or method) of the text as it stands behind the top -/
structure Fun (K : PySem.W.Frag) (x qual : Str) (st : Stmt) (f : Addr) (fd : FuncData) : Prop where
  ex : ∃ (oc : Value) (od : Option Addr) (kV doc pm : Value) (an : Option Addr) (cdv ct : Value) (osl : Array (Option Value)),
    fd = PySem.W.fnOf x qual (defArgs st) (defBody st) (defScope st) .none kV doc pm an cdv ct ∧ K.lookup f = some ⟨oc, od, .func fd, osl⟩ ∧ PySem.W.codeIn K cdv qual = true
  kp : PySem.W.keepIn K (.ref f) = true
section
variable {P : Program} {w : World} {K : PySem.W.Frag} {mg : Str → Option Value} {base : Heap}
/-- THE RULE for a def: its body as a term of rules, and the reading of that term -/
theorem Fun.ok {x qual : Str} {st : Stmt} {f : Addr} {fd : FuncData} {N ps : List Str} {k : Nat} {sp : Sp} (F : Fun K x qual st f fd) (S : FnScope N ps (defScope st)) (len : ∀ vs H Q E, sp vs H Q E → vs.length = ps.length)
    (hbody : ∀ (cdv : Value) (A : Around) (outer : List Env) (s : Shared) (H : Hp) (vs : List V) (Q : VK) (E : XK), Room k (A.deeper (envOfC qual (defScope st) s.heap.objs.size f cdv)) → sp vs H Q E →
      ∃ t, PSs (cxOf CX0 P w K mg base N qual (defScope st) f cdv A outer s H E).nox (defBody st) t ∧ t { nx := fun _ H' => Q .non H', rt := Q } (start N vs) H) : FnOk P w K mg base CX0 (k + 1) f fd ps sp := by
  obtain ⟨oc, od, kV, doc, pm, an, cdv, ct, osl, rfl, lk, hcd⟩ := F.ex
  refine fn_of lk hcd S len fun A outer s H vs Q E hr hsp => ?_
  obtain ⟨t, h, q⟩ := hbody cdv A outer s H vs Q E hr hsp
  exact ⟨t, h.nox, q⟩
/-- how its arguments bind (no defaults): h is «fun _ _ _ _ _ _ us hl => match us, hl with | [_, _], _ => rfl», one _ a parameter -/
theorem Fun.binds {x qual : Str} {st : Stmt} {f : Addr} {fd : FuncData} {ps : List Str} (F : Fun K x qual st f fd)
    (h : ∀ (kV doc pm : Value) (an : Option Addr) (cdv ct : Value) (us : List Value), us.length = ps.length → bindArgs (PySem.W.fnOf x qual (defArgs st) (defBody st) (defScope st) .none kV doc pm an cdv ct) ⟨us, []⟩ = pure (ps.zip us)) : Binds K fd ps [] := by
  obtain ⟨oc, od, kV, doc, pm, an, cdv, ct, osl, rfl, lk, hcd⟩ := F.ex
  exact .all (h kV doc pm an cdv ct)
theorem fun_mk {x qual : Str} {st : Stmt} {f : Addr} {oc : Value} {od an : Option Addr} {osl : Array (Option Value)} {kV doc pm cdv ct : Value} (l : K.lookup f = some ⟨oc, od, .func (PySem.W.fnOf x qual (defArgs st) (defBody st) (defScope st) .none kV doc pm an cdv ct), osl⟩)
    (c : PySem.W.codeIn K cdv qual = true) (k : PySem.W.keepIn K (.ref f) = true) : Fun K x qual st f (PySem.W.fnOf x qual (defArgs st) (defBody st) (defScope st) .none kV doc pm an cdv ct) := ⟨⟨oc, od, kV, doc, pm, an, cdv, ct, osl, rfl, l, c⟩, k⟩
end
theorem hu_of {A : Around} {k : Nat} (hr : Room k A) : A.units + 1 < cLine := Nat.lt_of_le_of_lt (Nat.add_le_add_left (by decide : 1 ≤ 64) _) hr.units
/-! ### expressions in short: the name that stands in the i-th slot -/
section
variable {X : Cx}
end

/-! ### tests -/
theorem iteF {A B : Prop} (h : B) : if false = true then A else B := by
  rw [if_neg Bool.false_ne_true]
  exact h
theorem iteT {A B : Prop} (h : A) : if true = true then A else B := by
  rw [if_pos rfl]
  exact h
/-! ### heaps -/
/-- all that was tracked is as it was -/
def Same (H H' : Hp) : Prop := ∀ b o, H b = some o → H' b = some o
theorem Same.refl (H : Hp) : Same H H := fun _ _ h => h
theorem Same.trans {H H1 H2 : Hp} (a : Same H H1) (b : Same H1 H2) : Same H H2 := fun c o h => b c o (a c o h)
theorem Same.free {H H' : Hp} (e : Same H H') {l : Addr} (h : H' l = Option.none) : H l = Option.none := by
  cases q : H l with
  | none => rfl
  | some o =>
    rw [e l o q] at h
    cases h
theorem Same.seq {K : PySem.W.Frag} {H H' : Hp} {a : Addr} {xs : List V} (e : Same H H') (h : SqL K H a xs) : SqL K H' a xs := by
  rcases h with (h | ⟨o, h⟩) | h
  · exact .inl (.inl (e _ _ h))
  · exact .inl (.inr ⟨o, e _ _ h⟩)
  · exact .inr h

end L2

set_option Elab.async false
set_option linter.all false
set_option maxRecDepth 100000
set_option maxHeartbeats 4000000
namespace L2
open PySem PySem.Spec PyProof.Rows PySem.W
/-! ### the tree of questions of a sort, answered by an order -/
def evT (c : Nat → Nat → Bool) {α : Type} : KasT α → α
  | .ret a => a
  | .ask i j k => evT c (k (c i j))
theorem evT_bind (c : Nat → Nat → Bool) {α β : Type} (f : α → KasT β) : ∀ t : KasT α, evT c (t.bind f) = evT c (f (evT c t))
  | .ret _ => rfl
  | .ask i j k => evT_bind c f (k (c i j))
abbrev gt0 (p : Array Nat) (i : Nat) : Nat := p.getD i 0
section
variable {c : Nat → Nat → Bool} {n : Nat}
/-- the answers are those of a strict order of the first n numbers -/
structure Ord (c : Nat → Nat → Bool) (n : Nat) : Prop where
  tr : ∀ i j k, c i j = true → c j k = true → c i k = true
  asy : ∀ i j, c i j = true → c j i = false
  tot : ∀ i j, i < n → j < n → i ≠ j → c i j = false → c j i = true
/-- the first n numbers, in some order -/
structure Ixs (p : Array Nat) (n : Nat) : Prop where
  size : p.size = n
  lt : ∀ i, i < n → gt0 p i < n
  inj : ∀ i j, i < n → j < n → gt0 p i = gt0 p j → i = j
theorem gt0_of {p : Array Nat} {i v : Nat} (h : p[i]? = some v) : gt0 p i = v := by
  simp [gt0, h]
theorem get_gt0 {p : Array Nat} {i : Nat} (h : i < p.size) : p[i]? = some (gt0 p i) := by
  simp [gt0, h]
theorem Ixs.of_perm {p : Array Nat} (h : p.toList.Perm (List.range n)) : Ixs p n := by
  have hs : p.size = n := by have := h.length_eq; simpa using this
  refine ⟨hs, fun i hi => ?_, fun i j hi hj e => ?_⟩
  · have hm : gt0 p i ∈ p.toList := by
      have := get_gt0 (p := p) (i := i) (by omega)
      exact Array.mem_toList_iff.mpr (Array.mem_of_getElem? this)
    exact List.mem_range.mp (h.mem_iff.mp hm)
  · have hn : p.toList.Nodup := h.nodup_iff.mpr List.nodup_range
    have h1 : p.toList[i]? = some (gt0 p i) := by rw [Array.getElem?_toList]; exact get_gt0 (by omega)
    have h2 : p.toList[j]? = some (gt0 p i) := by rw [Array.getElem?_toList, e]; exact get_gt0 (by omega)
    have hi' : i < p.toList.length := by simp; omega
    have hj' : j < p.toList.length := by simp; omega
    rw [List.getElem?_eq_getElem hi'] at h1
    rw [List.getElem?_eq_getElem hj'] at h2
    have hpw := List.pairwise_iff_getElem.mp (List.nodup_iff_pairwise_ne.mp hn)
    have ee : p.toList[i] = p.toList[j] := by rw [Option.some.inj h1, Option.some.inj h2]
    rcases Nat.lt_trichotomy i j with z | z | z
    · exact absurd ee (hpw i j hi' hj' z)
    · exact z
    · exact absurd ee.symm (hpw j i hj' hi' z)
def Up (c : Nat → Nat → Bool) (p : Array Nat) (m : Nat) : Prop := ∀ a b, a < b → b < m → c (gt0 p a) (gt0 p b) = true
theorem up_of_steps (O : Ord c n) {p : Array Nat} {m : Nat} (h : ∀ i, 1 ≤ i → i < m → c (gt0 p (i - 1)) (gt0 p i) = true) : Up c p m := by
  intro a b hab hb
  obtain ⟨d, rfl⟩ := Nat.exists_eq_add_of_lt hab
  induction d with
  | zero => have := h (a + 1) (by omega) hb; simpa using this
  | succ d ih =>
    have h1 := ih (by omega) (by omega)
    have h2 := h (a + (d + 1) + 1) (by omega) hb
    have e : a + (d + 1) + 1 - 1 = a + d + 1 := by omega
    rw [e] at h2
    exact O.tr _ _ _ h1 h2
theorem asc_ev (p : Array Nat) : ∀ (f a : Nat), a ≤ evT c (kas_asc p f a) ∧ evT c (kas_asc p f a) ≤ a + f ∧ (∀ i, a ≤ i → i < evT c (kas_asc p f a) → c (gt0 p i) (gt0 p (i - 1)) = false) ∧
    (evT c (kas_asc p f a) = a + f ∨ c (gt0 p (evT c (kas_asc p f a))) (gt0 p (evT c (kas_asc p f a) - 1)) = true)
  | 0, a => ⟨Nat.le_refl _, Nat.le_refl _, fun i h1 h2 => absurd h2 (by show ¬ i < a; omega), .inl rfl⟩
  | f + 1, a => by
    have e : evT c (kas_asc p (f + 1) a) = evT c (if c (gt0 p a) (gt0 p (a - 1)) = true then KasT.ret a else kas_asc p f (a + 1)) := rfl
    rw [e]
    cases hc : c (gt0 p a) (gt0 p (a - 1)) with
    | true =>
      rw [if_pos rfl]
      exact ⟨Nat.le_refl _, Nat.le_add_right _ _, fun i h1 h2 => absurd h2 (by show ¬ i < a; omega), .inr hc⟩
    | false =>
      rw [if_neg (by decide)]
      obtain ⟨h1, h2, h3, h4⟩ := asc_ev p f (a + 1)
      refine ⟨by omega, by omega, fun i g1 g2 => ?_, ?_⟩
      · by_cases z : i = a
        · rw [z]; exact hc
        · exact h3 i (by omega) g2
      · rcases h4 with h4 | h4
        · left; omega
        · right; exact h4
theorem desc_ev (O : Ord c n) {p : Array Nat} (P : Ixs p n) : ∀ (f a : Nat), 1 ≤ a → a + f ≤ n → ∃ m, evT c (kas_desc f p a 0) = (p, m, 0) ∧ a ≤ m ∧ m ≤ a + f ∧ ∀ i, a ≤ i → i < m → c (gt0 p i) (gt0 p (i - 1)) = true
  | 0, a, _, _ => ⟨a, rfl, Nat.le_refl _, Nat.le_refl _, fun i h1 h2 => absurd h2 (by omega)⟩
  | f + 1, a, h1, h2 => by
    have e : evT c (kas_desc (f + 1) p a 0) = evT c (if c (gt0 p a) (gt0 p (a - 1)) = true then (if 0 > 0 then kas_desc f (kas_rev p (a - (0 + 1)) a) (a + 1) 0 else kas_desc f p (a + 1) 0)
      else .ask (p.getD (a - 1) 0) (p.getD a 0) fun d => if d = true then .ret (p, a, 0) else kas_desc f p (a + 1) (0 + 1)) := rfl
    rw [e]
    cases hc : c (gt0 p a) (gt0 p (a - 1)) with
    | true =>
      rw [if_pos rfl, if_neg (by decide)]
      obtain ⟨m, g1, g2, g3, g4⟩ := desc_ev O P f (a + 1) (by omega) (by omega)
      refine ⟨m, g1, by omega, by omega, fun i k1 k2 => ?_⟩
      by_cases z : i = a
      · rw [z]; exact hc
      · exact g4 i (by omega) k2
    | false =>
      rw [if_neg (by decide)]
      have hd : c (gt0 p (a - 1)) (gt0 p a) = true := O.tot _ _ (P.lt _ (by omega)) (P.lt _ (by omega)) (fun z => by have := P.inj _ _ (by omega) (by omega) z; omega) hc
      have e2 : evT c (KasT.ask (p.getD (a - 1) 0) (p.getD a 0) fun d => if d = true then KasT.ret (p, a, 0) else kas_desc f p (a + 1) (0 + 1)) = evT c (if c (gt0 p (a - 1)) (gt0 p a) = true then KasT.ret (p, a, 0) else kas_desc f p (a + 1) (0 + 1)) := rfl
      rw [e2, hd, if_pos rfl]
      exact ⟨a, rfl, Nat.le_refl _, by omega, fun i k1 k2 => absurd k2 (by omega)⟩
theorem rev_perm (p : Array Nat) (i j : Nat) : (kas_rev p i j).toList.Perm p.toList := Array.perm_iff_toList_perm.mp (mirror_perm p i j _)
theorem rev_get {p : Array Nat} {m : Nat} (hm : m ≤ p.size) (k : Nat) (hk : k < m) : gt0 (kas_rev p 0 m) k = gt0 p (m - 1 - k) := by
  refine gt0_of ?_
  have e : (kas_rev p 0 m)[k]? = if 0 ≤ k ∧ k < m then p[0 + m - 1 - k]? else p[k]? := getElem?_mirror_all (i := 0) hm k
  rw [e, if_pos ⟨by omega, hk⟩]
  have e2 : 0 + m - 1 - k = m - 1 - k := by omega
  rw [e2]
  exact get_gt0 (by omega)
theorem up_more (O : Ord c n) {p : Array Nat} (P : Ixs p n) {m f : Nat} (h1 : 1 ≤ m) (h : Up c p m) (hf : m + f ≤ n) : Up c p (evT c (kas_asc p f m)) := by
  obtain ⟨g1, g2, g3, _⟩ := asc_ev (c := c) p f m
  refine up_of_steps O fun i hi1 hi2 => ?_
  by_cases z : i < m
  · exact h (i - 1) i (by omega) z
  · have := g3 i (by omega) hi2
    exact O.tot _ _ (P.lt _ (by omega)) (P.lt _ (by omega)) (fun e => by have := P.inj _ _ (by omega) (by omega) e; omega) this
theorem count_ev (O : Ord c n) {p : Array Nat} (hp : p.toList.Perm (List.range n)) (hn : 1 ≤ n) : (evT c (kas_count n p)).2.toList.Perm (List.range n) ∧ 1 ≤ (evT c (kas_count n p)).1 ∧ (evT c (kas_count n p)).1 ≤ n ∧ Up c (evT c (kas_count n p)).2 (evT c (kas_count n p)).1 := by
  have P := Ixs.of_perm hp
  unfold kas_count
  rw [evT_bind]
  obtain ⟨g1, g2, g3, g4⟩ := asc_ev (c := c) p (n - 1) 1
  have hup := up_more O P (m := 1) (f := n - 1) (Nat.le_refl _) (fun a b h1 h2 => by omega) (by omega)
  generalize hm : evT c (kas_asc p (n - 1) 1) = m at *
  by_cases h1 : (m == n) = true
  · rw [if_pos h1]
    exact ⟨hp, g1, by show m ≤ n; omega, hup⟩
  · rw [if_neg h1]
    have hmn : m < n := by
      have : m ≠ n := fun z => h1 (by simp [z])
      omega
    by_cases h2 : m > 1
    · rw [if_pos h2]
      have hc : c (gt0 p 0) (gt0 p (m - 1)) = true := hup 0 (m - 1) (by omega) (by omega)
      have e : evT c (KasT.ask (p.getD 0 0) (p.getD (m - 1) 0) fun c => if c = true then KasT.ret (m, p) else kas_descPart m n (kas_rev p 0 m)) = evT c (if c (gt0 p 0) (gt0 p (m - 1)) = true then KasT.ret (m, p) else kas_descPart m n (kas_rev p 0 m)) := rfl
      rw [e, hc, if_pos rfl]
      exact ⟨hp, by show 1 ≤ m; omega, by show m ≤ n; omega, hup⟩
    · rw [if_neg h2]
      have hm1 : m = 1 := by omega
      subst hm1
      have h10 : c (gt0 p 1) (gt0 p 0) = true := by
        rcases g4 with g4 | g4
        · omega
        · exact g4
      unfold kas_descPart
      rw [evT_bind]
      obtain ⟨m, k1, k2, k3, k4⟩ := desc_ev O P (n - (1 + 1)) (1 + 1) (by omega) (by omega)
      rw [k1]
      rw [if_neg (show ¬ ((p, m, 0) : Array Nat × Nat × Nat).2.2 > 0 by show ¬ 0 > 0; omega)]
      show (evT c (kas_tail3 m n p)).2.toList.Perm (List.range n) ∧ _
      unfold kas_tail3
      rw [evT_bind]
      have hrp : (kas_rev p 0 m).toList.Perm (List.range n) := (rev_perm p 0 m).trans hp
      have R := Ixs.of_perm hrp
      have hupr : Up c (kas_rev p 0 m) m := by
        refine up_of_steps O fun i hi1 hi2 => ?_
        rw [rev_get (by rw [P.size]; omega) _ (by omega), rev_get (by rw [P.size]; omega) _ hi2]
        have e : m - 1 - (i - 1) = m - i := by omega
        have e2 : m - 1 - i = m - i - 1 := by omega
        rw [e, e2]
        by_cases z : m - i = 1
        · rw [z]; exact h10
        · exact k4 (m - i) (by omega) (by omega)
      have hfin := up_more O R (m := m) (f := n - m) (by omega) hupr (by omega)
      obtain ⟨q1, q2, _, _⟩ := asc_ev (c := c) (kas_rev p 0 m) (n - m) m
      exact ⟨hrp, by show 1 ≤ evT c _; omega, by show evT c _ ≤ n; omega, hfin⟩
theorem place_ev (O : Ord c n) {p : Array Nat} (P : Ixs p n) {k : Nat} (hk : k < n) (h : Up c p k) : ∀ (f l r : Nat), l ≤ r → r ≤ k → r - l ≤ f → (∀ i, i < l → c (gt0 p i) (gt0 p k) = true) → (∀ i, r ≤ i → i < k → c (gt0 p k) (gt0 p i) = true) →
    ∃ m, evT c (kas_place p k f l r) = m ∧ m ≤ k ∧ (∀ i, i < m → c (gt0 p i) (gt0 p k) = true) ∧ (∀ i, m ≤ i → i < k → c (gt0 p k) (gt0 p i) = true)
  | 0, l, r, h1, h2, h3, h4, h5 => ⟨l, rfl, by omega, h4, fun i g1 g2 => h5 i (by omega) g2⟩
  | f + 1, l, r, h1, h2, h3, h4, h5 => by
    by_cases hlr : l ≥ r
    · have e : evT c (kas_place p k (f + 1) l r) = l := by
        show evT c (if l ≥ r then KasT.ret l else _) = l
        rw [if_pos hlr]
        rfl
      exact ⟨l, e, by omega, h4, fun i g1 g2 => h5 i (by omega) g2⟩
    · have e : evT c (kas_place p k (f + 1) l r) = evT c (if c (gt0 p k) (gt0 p ((l + r) / 2)) = true then kas_place p k f l ((l + r) / 2) else kas_place p k f ((l + r) / 2 + 1) r) := by
        show evT c (if l ≥ r then KasT.ret l else _) = _
        rw [if_neg hlr]
        rfl
      rw [e]
      cases hc : c (gt0 p k) (gt0 p ((l + r) / 2)) with
      | true =>
        rw [if_pos rfl]
        refine place_ev O P hk h f l ((l + r) / 2) (by omega) (by omega) (by omega) h4 fun i g1 g2 => ?_
        by_cases z : i = (l + r) / 2
        · rw [z]; exact hc
        · exact O.tr _ _ _ hc (h ((l + r) / 2) i (by omega) g2)
      | false =>
        rw [if_neg (by decide)]
        have hd : c (gt0 p ((l + r) / 2)) (gt0 p k) = true := O.tot _ _ (P.lt _ hk) (P.lt _ (by omega)) (fun z => by have := P.inj _ _ hk (by omega) z; omega) hc
        refine place_ev O P hk h f ((l + r) / 2 + 1) r (by omega) h2 (by omega) (fun i g1 => ?_) h5
        by_cases z : i = (l + r) / 2
        · rw [z]; exact hd
        · exact O.tr _ _ _ (h i ((l + r) / 2) (by omega) (by omega)) hd
theorem bub_get {p : Array Nat} {k l : Nat} (hk : k < p.size) (hl : l ≤ k) (i : Nat) (hi : i < p.size) : gt0 (bubble p k (k - l)) i = if i = l then gt0 p k else if l < i ∧ i ≤ k then gt0 p (i - 1) else gt0 p i := by
  refine gt0_of ?_
  rw [getElem?_bubble hk (k - l) (by omega)]
  have e : k - (k - l) = l := by omega
  rw [e]
  by_cases h1 : i = l
  · rw [if_pos h1, if_pos h1]; exact get_gt0 hk
  · rw [if_neg h1, if_neg h1]
    by_cases h2 : l < i ∧ i ≤ k
    · rw [if_pos h2, if_pos h2]; exact get_gt0 (by omega)
    · rw [if_neg h2, if_neg h2]; exact get_gt0 hi
theorem bin_ev (O : Ord c n) : ∀ (f : Nat) (p : Array Nat) (k : Nat), p.toList.Perm (List.range n) → k + f = n → Up c p k → (evT c (kas_bin f p k)).toList.Perm (List.range n) ∧ Up c (evT c (kas_bin f p k)) n
  | 0, p, k, hp, hk, h => by
    have e : k = n := by omega
    refine ⟨hp, ?_⟩
    show Up c p n
    rw [← e]
    exact h
  | f + 1, p, k, hp, hk, h => by
    have P := Ixs.of_perm hp
    show (evT c ((kas_place p k k 0 k).bind fun l => kas_bin f (bubble p k (k - l)) (k + 1))).toList.Perm (List.range n) ∧ Up c (evT c ((kas_place p k k 0 k).bind fun l => kas_bin f (bubble p k (k - l)) (k + 1))) n
    rw [evT_bind]
    obtain ⟨m, e, g1, g2, g3⟩ := place_ev O P (k := k) (by omega) h k 0 k (by omega) (Nat.le_refl _) (by omega) (fun i hi => by omega) (fun i h1 h2 => by omega)
    rw [e]
    refine bin_ev O f (bubble p k (k - m)) (k + 1) ((Array.perm_iff_toList_perm.mp (bubble_perm p k _)).trans hp) (by omega) fun a b hab hb => ?_
    rw [bub_get (by rw [P.size]; omega) g1 a (by rw [P.size]; omega), bub_get (by rw [P.size]; omega) g1 b (by rw [P.size]; omega)]
    by_cases ha : a = m
    · rw [if_pos ha, if_neg (by omega), if_pos ⟨by omega, by omega⟩]
      exact g3 (b - 1) (by omega) (by omega)
    · rw [if_neg ha]
      by_cases hb2 : b = m
      · rw [if_pos hb2, if_neg (by omega)]
        exact g2 a (by omega)
      · rw [if_neg hb2]
        by_cases ha3 : m < a ∧ a ≤ k
        · rw [if_pos ha3, if_pos ⟨by omega, by omega⟩]
          exact h (a - 1) (b - 1) (by omega) (by omega)
        · rw [if_neg ha3]
          by_cases hb3 : m < b ∧ b ≤ k
          · rw [if_pos hb3]
            by_cases z : a = b - 1
            · omega
            · exact h a (b - 1) (by omega) (by omega)
          · rw [if_neg hb3]
            exact h a b hab (by omega)
theorem sort_ev (O : Ord c n) (hn : 1 ≤ n) : (evT c (kas_sort n)).toList.Perm (List.range n) ∧ Up c (evT c (kas_sort n)) n := by
  unfold kas_sort
  rw [evT_bind]
  obtain ⟨h1, h2, h3, h4⟩ := count_ev O (p := List.toArray (List.range n)) (List.Perm.refl _) hn
  generalize evT c (kas_count n (List.toArray (List.range n))) = r at *
  by_cases h : r.1 < n
  · rw [if_pos h]
    have e : max r.1 1 = r.1 := by omega
    rw [e]
    exact bin_ev O (n - r.1) r.2 r.1 h1 (by omega) h4
  · rw [if_neg h]
    refine ⟨h1, ?_⟩
    have e : r.1 = n := by omega
    rw [e] at h4
    exact h4
end
end L2

set_option Elab.async false
set_option linter.all false
set_option maxRecDepth 100000
set_option maxHeartbeats 4000000
namespace L2
open PySem PySem.Spec PyProof.Rows

/-! ### ints of any size -/
section
variable {X : Cx}
theorem op_mulG : OpR X (binaryOp .Mult) (rI IntMulOk fun i j => .int (i * j)) := opI fun _ _ _ _ _ _ _ hc q => mul_int q hc
def CDivB (_ j : Int) : Prop := 0 < j ∧ j.natAbs.log2 < 9000
theorem op_fdivB : OpR X (binaryOp .FloorDiv) (rI CDivB fun i j => .int (i / j)) := opI fun i j _ _ _ _ _ hc q => by
  have h1 : (0 : Int) < j := hc.1
  exact floordiv_int (by omega) (by rw [Int.fdiv_eq_ediv_of_nonneg i (by omega)]; exact q) (.inl (PyProof.noPylong_of_log2 hc.2))
theorem CDivB.of {i j : Int} (h : 0 < j) {k : Nat} (h2 : j < 2 ^ k) (hk : k ≤ 9000) : CDivB i j := by
  refine ⟨h, ?_⟩
  have h3 : j.natAbs < 2 ^ k := by
    have e : ((j.natAbs : Nat) : Int) = j := by omega
    have e2 : ((2 ^ k : Nat) : Int) = (2 : Int) ^ k := by simp
    have : ((j.natAbs : Nat) : Int) < ((2 ^ k : Nat) : Int) := by rw [e, e2]; exact h2
    exact Int.ofNat_lt.mp this
  have h4 : j.natAbs.log2 < k := (Nat.log2_lt (by omega)).mpr h3
  omega
theorem mulL {i j : Int} (h1 : -(2 ^ 64) < i) (h2 : i < 2 ^ 64) : IntMulOk i j := .of_left (intBits_le_64 h1 h2)
theorem mulR {i j : Int} (h1 : -(2 ^ 64) < j) (h2 : j < 2 ^ 64) : IntMulOk i j := .of_right (intBits_le_64 h1 h2)
end

/-! ### is True, is False -/
section
variable {X : Cx}
end

/-! ### all, any of a list of truths -/
section
variable {X : Cx}
end

/-! ### isinstance -/
section
variable {X : Cx}
def rIsi (K : PySem.W.Frag) : List V → Hp → VK → Prop := fun xs H Q => ∃ x n t b, xs = [x, .ty n] ∧ TyOf K H x t ∧ PySem.W.kitOne K t (.type n) = some b ∧ Q (.bl b) H
theorem call_isi : CallR X (.builtin "isinstance") (rIsi X.K) := by
  intro pins s σ H xs us Q I r h
  obtain ⟨x, n, t, b, rfl, ty, e, q⟩ := h
  obtain ⟨u, v, rfl, ru, rv⟩ := r.two
  obtain rfl : v = Value.type n := rv
  exact isinst_ok I ru ty e fun tk => ⟨.bl b, H, I.tok _, rfl, q⟩
end
end L2
namespace L2
open PySem PySem.Spec PyProof.Rows
/-! ### == of tuples of flat things -/
section
variable {X : Cx}
end
end L2

set_option Elab.async false
set_option linter.all false
set_option maxRecDepth 100000
set_option maxHeartbeats 4000000
namespace L2
open PySem PySem.Spec PyProof.Rows

/-! ### list comprehensions -/
theorem lookup_of_mem {l : List (Str × Addr)} {x : Str} {c : Addr} (h : (x, c) ∈ l) : ∃ d, l.lookup x = some d := by
  induction l with
  | nil => cases h
  | cons p r ih =>
    obtain ⟨y, d⟩ := p
    cases hx : x == y with
    | true => exact ⟨d, by simp [List.lookup_cons, hx]⟩
    | false =>
      have hr : (x, c) ∈ r := by
        rcases List.mem_cons.mp h with e | e
        · cases e
          simp at hx
        · exact e
      obtain ⟨d', e⟩ := ih hr
      exact ⟨d', by simp only [List.lookup_cons, hx]; exact e⟩
theorem closure_loop {env : Env} : ∀ (names : List (Str × NameKind)) (acc : List (Str × Addr)), (∀ y ∈ names, y.2 = NameKind.free → ∃ c, env.cells.lookup y.1 = some c) → (∀ p ∈ acc, env.cells.lookup p.1 = some p.2) →
    ∃ cl : List (Str × Addr), (forIn names acc fun (x : Str × NameKind) (r : List (Str × Addr)) => (match x with | (name, kind) => if (kind == NameKind.free) = true then (do let a ← cellOf env name; pure (ForInStep.yield ((name, a) :: r))) else pure (ForInStep.yield r) : Sem (ForInStep (List (Str × Addr))))) = pure cl
      ∧ (∀ p ∈ cl, env.cells.lookup p.1 = some p.2) ∧ (∀ p ∈ acc, p ∈ cl) ∧ ∀ y ∈ names, y.2 = NameKind.free → ∃ c, (y.1, c) ∈ cl
  | [], acc, _, ha => ⟨acc, by simp, ha, fun _ h => h, fun y h => by cases h⟩
  | (n, k) :: r, acc, h, ha => by
    by_cases hk : k = NameKind.free
    · subst hk
      obtain ⟨c, hc⟩ := h (n, .free) List.mem_cons_self rfl
      obtain ⟨cl, e, h1, h2, h3⟩ := closure_loop r ((n, c) :: acc) (fun y hy => h y (List.mem_cons_of_mem _ hy)) (fun p hp => by
        rcases List.mem_cons.mp hp with rfl | hp
        · exact hc
        · exact ha p hp)
      refine ⟨cl, ?_, h1, fun p hp => h2 p (List.mem_cons_of_mem _ hp), fun y hy hf => ?_⟩
      · rw [List.forIn_cons]
        simp only [beq_self_eq_true, if_true, cellOf, hc, pure_bind]
        exact e
      · rcases List.mem_cons.mp hy with rfl | hy
        · exact ⟨c, h2 _ List.mem_cons_self⟩
        · exact h3 y hy hf
    · obtain ⟨cl, e, h1, h2, h3⟩ := closure_loop r acc (fun y hy => h y (List.mem_cons_of_mem _ hy)) ha
      have hb : (k == NameKind.free) = false := by simpa using hk
      refine ⟨cl, ?_, h1, h2, fun y hy hf => ?_⟩
      · rw [List.forIn_cons]
        simp only [hb, Bool.false_eq_true, if_false, pure_bind]
        exact e
      · rcases List.mem_cons.mp hy with rfl | hy
        · exact absurd hf hk
        · exact h3 y hy hf
theorem closure_ok {scope : Scope} {env : Env} (h : ∀ y ∈ scope.names, y.2 = NameKind.free → ∃ c, env.cells.lookup y.1 = some c) :
    ∃ cl, closureFor scope env = pure cl ∧ (∀ x c, cl.lookup x = some c → env.cells.lookup x = some c) ∧ ∀ y ∈ scope.names, y.2 = .free → ∃ c, cl.lookup y.1 = some c := by
  obtain ⟨cl, e, h1, _, h3⟩ := closure_loop scope.names [] h (fun p hp => by cases hp)
  refine ⟨cl, ?_, fun x c hx => h1 (x, c) (PySem.mem_of_lookup hx), fun y hy hf => ?_⟩
  · simp only [closureFor]
    rw [e]
    rfl
  · obtain ⟨c, hc⟩ := h3 y hy hf
    exact lookup_of_mem hc
theorem relabel_lookup {env : Env} : ∀ (names : List (Str × NameKind)) (x : Str),
    (names.map fun (n, k) => if (k == NameKind.free && env.scope.kind == .function && env.kindOf n == some .cell) then (n, NameKind.cell) else (n, k)).lookup x =
      (names.lookup x).map fun k => if (k == NameKind.free && env.scope.kind == .function && env.kindOf x == some .cell) then NameKind.cell else k
  | [], _ => rfl
  | (n, k) :: r, x => by
    have ih := relabel_lookup (env := env) r x
    show List.lookup x ((if (k == NameKind.free && env.scope.kind == .function && env.kindOf n == some .cell) = true then (n, NameKind.cell) else (n, k)) :: _) = _
    cases hx : x == n with
    | true =>
      have e : x = n := eq_of_beq hx
      subst e
      by_cases hc : (k == NameKind.free && env.scope.kind == .function && env.kindOf x == some .cell) = true
      · rw [if_pos hc]
        simp only [List.lookup_cons, beq_self_eq_true, Option.map_some]
        rw [if_pos hc]
      · rw [if_neg hc]
        simp only [List.lookup_cons, beq_self_eq_true, Option.map_some]
        rw [if_neg hc]
    | false =>
      by_cases hc : (k == NameKind.free && env.scope.kind == .function && env.kindOf n == some .cell) = true
      · rw [if_pos hc]; simp only [List.lookup_cons, hx]; exact ih
      · rw [if_neg hc]; simp only [List.lookup_cons, hx]; exact ih

/-- the scope of a comprehension within a def: N the def's names, sc its scope; own: the comprehension's own names, then those it draws from around it (slots ks of N) -/
structure CompSc (N : List Str) (sc : Scope) (own caps : List Str) (ks : List Nat) (scope : Scope) : Prop where
  kind : scope.kind = .function
  nocell : ∀ y ∈ scope.names, y.2 ≠ .cell
  names : ∀ y ∈ scope.names, y.2 = .local → scope.names.lookup y.1 = some .local
  free : ∀ y ∈ scope.names, y.2 = .free → sc.names.lookup y.1 = some .cell
  nd : (own ++ caps).Nodup
  cap : ks.map (fun k => N[k]?) = caps.map some
  fr : ∀ x ∈ caps, scope.names.lookup x = some .free

def compCx (X : Cx) (N' : List Str) (scope : Scope) (cl : List (Str × Addr)) (C : Addr) (s₂ : Shared) (H₂ : Hp) (fp : List Addr) : Cx :=
  { X with N := N', s₀ := s₂, H₀ := H₂, env := compEnvC scope cl C X.env, outer := X.stack, stack := X.stack, ex := fp, fn := fun _ => false, pn := [], xe := fun _ _ => False }
def capSt (own : Nat) (ks : List Nat) (σ : St) : St := List.replicate own none ++ ks.map fun k => (σ[k]?).join

section
variable {prog : Program} {w : World} {A : Around} {R : Result → Shared → Prop} {s : Shared}
theorem codeAny_compLoop_any {elt target iter : Expr} {ifs : List Expr} {scope : Scope} {pos : Pos} {it acc : Value} {env : Env} (I : Nat → Shared → Prop)
    (turn : ∀ n s, I n s → wpAny (model prog w) A (pyNext it) (fun r s₁ => match r with
      | none => R (.ok .next) s₁
      | some v => wpAny (model prog w) A (letOwnedTupleGo target it v) (fun _ s₁' => wpAny (model prog w) A (assign target env v) (fun _ s₂ =>
          wpAny (model prog w) A (forIn ifs true fun c r => if r = true then do let ok ← isTrue c env (eval c env); pure (ForInStep.yield ok) else pure (ForInStep.yield r)) (fun ok s₃ =>
            if ok = true then wpAny (model prog w) A (eval elt env) (fun x s₄ =>
              wpAny (model prog w) A (call (.builtin "list.append") [acc, x]) (fun _ s₅ => ∃ m, m < n ∧ I m s₅) (notedBy (model prog w) A env fun e s' => R (.error e) s') s₄) (notedBy (model prog w) A env fun e s' => R (.error e) s') s₃
            else ∃ m, m < n ∧ I m s₃) (notedBy (model prog w) A env fun e s' => R (.error e) s') s₂) (notedBy (model prog w) A env fun e s' => R (.error e) s') s₁') (notedBy (model prog w) A env fun e s' => R (.error e) s') s₁) (notedBy (model prog w) A env fun e s' => R (.error e) s') s)
    (n : Nat) (h : I n s) :
    codeAny (model prog w) A (.compLoop (.ListComp elt [⟨target, iter, ifs, 0⟩] scope pos) 0 it acc env) R s := by
  refine codeAny_loop rfl I (fun n s hI => ?_) n h
  show wpAny _ A ((compTurn (.ListComp elt [⟨target, iter, ifs, 0⟩] scope pos) 0 it acc env).onRaise (fun x => do noteFrame x env; theTreesLotGoes x)) _ _ s
  refine wpAny_noted ?_
  rw [compTurn_list]
  refine wpAny_bind (wpAny_standAt (wpAny_bind (wpAny_mono (turn n s hI) (fun r s₁ h₁ => ?_) fun _ _ h' => h')))
  cases r with
  | none => exact wpAny_pure h₁
  | some v =>
    refine wpAny_bind (wpAny_mono h₁ (fun _ s₁' h₁' => ?_) fun _ _ h' => h')
    refine wpAny_bind (wpAny_mono h₁' (fun _ s₂ h₂ => wpAny_bind (wpAny_mono h₂ (fun ok s₃ h₃ => ?_) fun _ _ h' => h')) fun _ _ h' => h')
    cases ok with
    | false => exact wpAny_pure ⟨rfl, h₃⟩
    | true =>
      exact wpAny_bind (wpAny_bind (wpAny_mono h₃ (fun x s₄ h₄ => wpAny_bind (wpAny_mono h₄ (fun _ s₅ h₅ => wpAny_pure (wpAny_pure ⟨rfl, h₅⟩)) fun _ _ h' => h')) fun _ _ h' => h'))
end

/-- the tests of a clause -/
def PIfs (X : Cx) (ifs : List Expr) (t : TT) : Prop :=
  ∀ (pins : List (Addr × Obj)) (s : Shared) (σ : St) (H : Hp) (Q : Bool → Hp → Prop), Inv X pins σ H s → t σ H Q →
    wpAny (model X.prog X.w) X.A (forIn ifs true fun c r => if r = true then do let ok ← isTrue c X.env (eval c X.env); pure (ForInStep.yield ok) else pure (ForInStep.yield r)) (TP X pins σ Q) X.xe s
def tNoIf : TT := fun _ H Q => Q true H
section
variable {X : Cx}
theorem pifs_nil : PIfs X [] tNoIf := fun _ _ _ H _ I h => wpAny_tests_nil ⟨H, I, h⟩
theorem pifs_one {c : Expr} {t : TT} (hc : PT X c t) : PIfs X [c] t := fun pins s σ H Q I h => wpAny_tests_one (hc pins s σ H Q I h)

def tComp (own : Nat) (ks : List Nat) (wi : TI) (g : TG) (tt : TT) (te : TE) : TE := fun σ H Q => wi σ H fun J H1 => ∀ l, H1 l = none →
  ∃ W : Nat → Nat → St → Hp → Prop, (∃ m, W 0 m (capSt own ks σ) (upd H1 l (.lst []))) ∧ ∀ i m σ' H', W i m σ' H' →
    (J.stop i H' ∧ Q (.ref l) H') ∨ (J.go i H' ∧ ∃ N : St → Hp → Prop, (∀ σ2 H2, N σ2 H2 → ∃ m', m' < m ∧ W (i + 1) m' σ2 H2) ∧
      ∀ x H'', J.yld i H' x H'' → g x σ' H'' fun σ2 H2 => tt σ2 H2 fun b H3 =>
        if b = true then te σ2 H3 fun v H4 => ∃ xs, H4 l = some (.lst xs) ∧ xs.length < sizeLine ∧ N σ2 (upd H4 l (.lst (xs ++ [v]))) else N σ2 H3)

theorem join_some {α : Type} {o : Option (Option α)} {v : α} (h : o.join = some v) : o = some (some v) := by
  cases o with
  | none => cases h
  | some x => exact congrArg some h

theorem pe_comp {N : List Str} {sc : Scope} {own caps : List Str} {ks : List Nat} {elt tg iter : Expr} {ifs : List Expr} {scope : Scope} {pos : Pos} {wi : TI} {g : TG} {tt : TT} {te : TE}
    (hN : X.N = N) (hsc : X.env.scope = sc) (hc : X.calm = true) (S : CompSc N sc own caps ks scope) (hi : PI X tg iter wi)
    (hg : ∀ cl C s₂ H₂ fp, PG (compCx X (own ++ caps) scope cl C s₂ H₂ fp) tg g)
    (ht : ∀ cl C s₂ H₂ fp, PIfs (compCx X (own ++ caps) scope cl C s₂ H₂ fp) ifs tt)
    (he : ∀ cl C s₂ H₂ fp, PE (compCx X (own ++ caps) scope cl C s₂ H₂ fp) elt te)
    (hs : ∀ x, foldedSetIterable iter X.env x = pure x := by intro _; rfl) :
    PE X (.ListComp elt [⟨tg, iter, ifs, 0⟩] scope pos) (tComp own.length ks wi g tt te) := by
  intro pins s σ H Q I h
  subst hN hsc
  rw [eval_ListComp]
  obtain ⟨cl, hclos, hcl, hclf⟩ := closure_ok (scope := scope) (env := X.env) fun y hy hf => I.ok.has y.1 (.inl (S.free y hy hf))
  refine wpAny_comprehension_free (use := none) rfl hs hclos S.kind S.names (wpAny_mono (hi pins s σ H _ I h) (fun xv s₁ h₁ => wpAny_mono h₁ (fun it s₂ h₂ => ?_) fun _ _ e => e) fun _ _ e => e)
  obtain ⟨it, fp, tn, J, H2, e, I2, T, st2, f2, q⟩ := h₂
  subst e
  refine wpAny_newObj_type (wpAny_newFunctionEnv S.nocell (by intro y hy; simp at hy) (fun h₁ hns₁ hsb₁ => ?_) S.kind)
  dsimp only at hns₁ hsb₁ ⊢
  generalize hH2 : s₂.heap.push { cls := .type "list", dict := none, data := .seq ([] : List Value).toArray } = HP at hns₁ hsb₁ ⊢
  have hC : HP.objs.size = s₂.heap.objs.size + 1 := by rw [← hH2, Heap.size_push]
  have hDC : s₂.heap.objs.size ≠ HP.objs.size := by rw [hC]; exact Nat.ne_of_lt (Nat.lt_succ_self _)
  have hCle : s₂.heap.objs.size ≤ HP.objs.size := by rw [hC]; exact Nat.le_succ _
  have old : ∀ b o, s₂.heap.get? b = some o → h₁.get? b = some o := fun b o e => by
    have hb : b < s₂.heap.objs.size := Heap.lt_size e
    exact hsb₁.extBut b o (by rw [hC]; exact Nat.ne_of_lt (Nat.lt_succ_of_lt hb)) (Heap.get?_push_of_some _ (hH2 ▸ Heap.get?_push_of_some _ e))
  have hacc : h₁.get? s₂.heap.objs.size = some { cls := .type "list", dict := none, data := .seq ([] : List Value).toArray } := hsb₁.extBut _ _ hDC (Heap.get?_push_of_some _ (hH2 ▸ Heap.get?_push_size _ rfl))
  have fpl : ∀ b ∈ fp, b < s₂.heap.objs.size := fun b hb => by
    obtain ⟨o, e, _⟩ := T.obj _ _ st2 b hb
    exact Heap.lt_size e
  have hfD : H2 s₂.heap.objs.size = none := I2.hok.fresh (Nat.le_refl _)
  obtain ⟨W, ⟨m0, w0⟩, turn⟩ := q s₂.heap.objs.size hfD
  have hkr : ∀ x, (compEnvC scope cl HP.objs.size X.env).kindOf x = (scope.names.lookup x).map fun k => if (k == NameKind.free && X.env.scope.kind == .function && X.env.kindOf x == some .cell) then NameKind.cell else k := fun x => relabel_lookup (env := X.env) scope.names x
  have cellOfN : ∀ x, scope.names.lookup x = some .free → X.env.kindOf x = some .cell := fun x e => S.free (x, .free) (PySem.mem_of_lookup e) rfl
  -- the context within
  have ok : (compCx X (own ++ caps) scope cl HP.objs.size s₂ H2 fp).Ok := by
    refine ⟨I2.ok.mod, S.kind, I2.ok.glob, I2.ok.blt, hCle, fun x y c e1 e2 => I2.ok.inj x y c (hcl x c e1) (hcl y c e2), fun x hx => ?_, fun x c z => (by cases z), I2.ok.hd, I2.ok.frames, .inl rfl, fun b hb => ⟨?_, fun x c e => (f2 b hb).2.2.2.2.1 x c (hcl x c e)⟩,
      I2.bs, Nat.le_trans I2.ok.bsz I2.sz, fun b o e hb => ?_, fun b hb z => ?_, I2.stack, I2.stkFree⟩
    · have hx' : (scope.names.lookup x).map (fun k => if (k == NameKind.free && X.env.scope.kind == .function && X.env.kindOf x == some .cell) then NameKind.cell else k) = some .cell ∨
          (scope.names.lookup x).map (fun k => if (k == NameKind.free && X.env.scope.kind == .function && X.env.kindOf x == some .cell) then NameKind.cell else k) = some .free := by rw [← hkr x]; exact hx
      cases e : scope.names.lookup x with
      | none => rw [e] at hx'; rcases hx' with z | z <;> cases z
      | some k =>
        have hm := PySem.mem_of_lookup e
        have hk : k = .free := by
          by_cases hkf : k = .free
          · exact hkf
          · have hb : (k == NameKind.free) = false := by simpa using hkf
            rw [e] at hx'
            simp only [Option.map_some, hb, Bool.false_and, Bool.false_eq_true, if_false, Option.some.injEq] at hx'
            rcases hx' with z | z
            · exact absurd z (S.nocell _ hm)
            · exact z
        exact hclf _ hm hk
    · exact Nat.ne_of_lt (Nat.lt_of_lt_of_le (fpl b hb) hCle)
    · rcases (f2 b hb).2.2.2.1 with z | z
      · exact I2.ok.noex b o e z
      · exact absurd (Nat.lt_of_lt_of_le (Heap.lt_size e) (Nat.le_trans I2.ok.bsz z)) (Nat.lt_irrefl _)
    · rcases List.mem_cons.mp (I2.stkSub b z) with r | r
      · exact (f2 b hb).2.1 r
      · exact (f2 b hb).2.2.1 r
  have hlen : (capSt own.length ks σ).length = (own ++ caps).length := by
    have := congrArg List.length S.cap
    simp only [List.length_map] at this
    simp [capSt, this]
  have I4 : Inv (compCx X (own ++ caps) scope cl HP.objs.size s₂ H2 fp) [] (capSt own.length ks σ) (upd H2 s₂.heap.objs.size (.lst [])) { s₂ with heap := h₁, toks := s₂.toks + ([] : List (Str × Value)).length } := by
    obtain ⟨mX, hnX, hlX⟩ := I2.loc
    refine ⟨ok, rfl, I2.bare, Un.laid old (Nat.le_refl _) hfD, ⟨_, hns₁, fun i x v e1 e2 e3 => ?_⟩, fun x c e => ?_, ?_, fun x c e => ?_, fun p hp => (by cases hp), I2.hok.laid old (Nat.le_refl _) ⟨Nat.zero_le _, [], 0, .nil, hacc⟩, hlen⟩
    · have e1 : (own ++ caps)[i]? = some x := e1
      by_cases hio : i < own.length
      · unfold capSt at e2
        rw [List.getElem?_append_left (by simpa using hio), List.getElem?_replicate] at e2
        rw [if_pos hio] at e2
        cases e2
      · unfold capSt at e2
        rw [List.getElem?_append_right (by simpa using hio), List.length_replicate, List.getElem?_map] at e2
        rw [List.getElem?_append_right (by simpa using hio)] at e1
        cases ek : ks[i - own.length]? with
        | none => rw [ek] at e2; cases e2
        | some k =>
          rw [ek] at e2
          have e2' := join_some (Option.some.inj e2)
          have hcap := congrArg (fun l => l[i - own.length]?) S.cap
          simp only [List.getElem?_map, ek, e1, Option.map_some] at hcap
          have hNk : X.N[k]? = some x := Option.some.inj hcap
          have hfx := S.fr x (List.mem_of_getElem? e1)
          have hkX := cellOfN x hfx
          obtain ⟨u, ru, lk⟩ := hlX k x v hNk e2' (.inr (.inl hkX))
          refine ⟨u, ru, .inr ⟨.inl ?_, ?_⟩⟩
          · show (compEnvC scope cl HP.objs.size X.env).kindOf x = some .cell
            rw [hkr x, hfx]
            simp [I2.ok.kind, hkX]
          · rcases lk with ⟨z, _⟩ | ⟨_, c, ec, o, ho, hd⟩
            · rw [hkX] at z; cases z
            · obtain ⟨c', ec'⟩ := hclf (x, .free) (PySem.mem_of_lookup hfx) rfl
              have := hcl _ _ ec'
              rw [ec] at this
              cases this
              exact ⟨c, ec', o, old _ _ ho, hd⟩
    · obtain ⟨v, o, ho, hd⟩ := I2.cell x c (hcl x c e)
      exact ⟨v, o, old _ _ ho, hd⟩
    · show upd H2 s₂.heap.objs.size (.lst []) HP.objs.size = none
      rw [upd_ne (Ne.symm hDC)]
      exact I2.hok.fresh hCle
    · obtain ⟨v, o, ho, hd⟩ := I2.cell x c (hcl x c e)
      show upd H2 s₂.heap.objs.size (.lst []) c = none
      rw [upd_ne (Nat.ne_of_lt (Heap.lt_size ho))]
      exact I2.freeC x c (hcl x c e)
  -- the way out
  have out : ∀ {σ' : St} {H' : Hp} {s' : Shared}, Inv (compCx X (own ++ caps) scope cl HP.objs.size s₂ H2 fp) [] σ' H' s' → Q (.ref s₂.heap.objs.size) H' →
      ∃ m, s'.heap.Ns HP.objs.size m ∧ ∀ h', Heap.SameBut HP.objs.size s'.heap h' → EP X pins σ Q (.ref s₂.heap.objs.size) { s' with heap := h' } := fun {σ' H' s'} I' q' => by
    obtain ⟨m, hn, _⟩ := I'.loc
    refine ⟨m, hn, fun h' hs' => ⟨.ref s₂.heap.objs.size, H', ?_, rfl, q'⟩⟩
    have hfree : H' HP.objs.size = none := I'.free
    have neC : ∀ {b : Addr} {o : Obj}, s₂.heap.get? b = some o → b ≠ HP.objs.size := fun e => Nat.ne_of_lt (Nat.lt_of_lt_of_le (Heap.lt_size e) hCle)
    refine I2.call' (ch := fp) (s' := { s' with heap := h' }) I'.os ⟨fun b o e n hb hx => ?_, fun b o e n hb hx => ?_, I'.base.free, fun b o e hx => ?_, I'.base.tups, I'.base.frzs, I'.base.tbls⟩ (fun b ob e => ?_) I'.bare fun b hb => ⟨(f2 b hb).2.2.2.1, (f2 b hb).2.1, (f2 b hb).2.2.2.2.1, (f2 b hb).2.2.2.2.2⟩
    · exact (hs'.2 b (neC e)).trans (I'.base.keep b o e n hb hx)
    · obtain ⟨sl, e1⟩ := I'.base.slot b o e n hb hx
      exact ⟨sl, (hs'.2 b (neC e)).trans e1⟩
    · obtain ⟨o', e1⟩ := I'.base.there b o e hx
      exact ⟨o', (hs'.2 b (neC e)).trans e1⟩
    · refine (I'.hok b ob e).stay (fun c w' hc q => (hs'.2 c ?_).trans q) (fun _ q => q) fun _ _ q => q
      rintro rfl
      rcases hc with rfl | hc
      · rw [hfree] at e; cases e
      · rw [hfree] at hc; cases hc
  have stat : ∀ {H' : Hp}, (∀ b ∈ fp, H' b = none) → ∀ b ∈ fp, FpOk (compCx X (own ++ caps) scope cl HP.objs.size s₂ H2 fp) [] H' b := fun hn b hb =>
    ⟨hn b hb, Nat.ne_of_lt (Nat.lt_of_lt_of_le (fpl b hb) hCle), ok.exfs b hb, .inl hb, (ok.exf b hb).2, fun p hp => by cases hp⟩
  have fr4 : ∀ b ∈ fp, upd H2 s₂.heap.objs.size (.lst []) b = none := fun b hb => by
    rw [upd_ne (Nat.ne_of_lt (fpl b hb))]
    exact (f2 b hb).1
  have tn4 : tn 0 h₁ := T.keep _ _ _ st2 fun b _ o e => old b o e
  have loop : ∀ s4 : Shared, s4 = { s₂ with heap := h₁, toks := s₂.toks + ([] : List (Str × Value)).length } →
      codeAny (model X.prog X.w) X.A (.compLoop (.ListComp elt [⟨tg, iter, ifs, 0⟩] scope pos) 0 (.ref it) (.ref s₂.heap.objs.size) (compEnvC scope cl HP.objs.size X.env))
        (compPost (model X.prog X.w) X.A X.xe none (EP X pins σ Q) (.ref s₂.heap.objs.size) HP.objs.size) s4 := by
    rintro s4 rfl
    refine codeAny_compLoop_any (fun n s' => ∃ i σ' H', Inv (compCx X (own ++ caps) scope cl HP.objs.size s₂ H2 fp) [] σ' H' s' ∧ tn i s'.heap ∧ (∀ b ∈ fp, H' b = none) ∧ W i n σ' H') ?_ m0 ⟨0, _, _, I4, tn4, fr4, w0⟩
    rintro n s3 ⟨i, σ3, H3, I3, st3, fr3, w3⟩
    rcases turn i n σ3 H3 w3 with ⟨stop, qn⟩ | ⟨go, N, hN, step⟩
    · refine wpAny_mono (T.done (compCx X (own ++ caps) scope cl HP.objs.size s₂ H2 fp) rfl rfl rfl hc i [] s3 σ3 H3 (fun _ _ => False) I3 (stat fr3) st3 stop) (fun r s4 ⟨hr, I4'⟩ => ?_) fun _ _ z => False.elim z
      subst hr
      exact out I4' qn
    · refine wpAny_mono (T.item (compCx X (own ++ caps) scope cl HP.objs.size s₂ H2 fp) rfl rfl rfl hc i [] s3 σ3 H3 (fun _ _ => False) I3 (stat fr3) st3 go) (fun r s4 ⟨u, hr, h4⟩ => ?_) fun _ _ z => False.elim z
      subst hr
      refine wpAny_mono h4 (fun _ s5 ⟨x, H5, I5, r5, y5, st5, fr5⟩ => ?_) fun _ _ z => False.elim z
      have I5' := I5.pinned (stat fr5) (T.obj _ _ st5)
      have back : ∀ {s7 : Shared} {σ7 : St} {H7 : Hp}, Inv (compCx X (own ++ caps) scope cl HP.objs.size s₂ H2 fp) ([] ++ pinsAt fp s5.heap) σ7 H7 s7 → N σ7 H7 →
          ∃ m, m < n ∧ ∃ i σ' H', Inv (compCx X (own ++ caps) scope cl HP.objs.size s₂ H2 fp) [] σ' H' s7 ∧ tn i s7.heap ∧ (∀ b ∈ fp, H' b = none) ∧ W i m σ' H' := fun {s7 σ7 H7} I7 n7 => by
        obtain ⟨m', hm, w7⟩ := hN σ7 H7 n7
        refine ⟨m', hm, i + 1, σ7, H7, I7.unpinned, T.keep _ _ _ st5 fun b hb o e => (I7.pin (b, o) (List.mem_append_right _ (List.mem_append_right _ (mem_pinsAt hb e)))).1, fun b hb => ?_, w7⟩
        obtain ⟨o, e, d⟩ := T.obj _ _ st5 b hb
        exact (I7.pin (b, o) (List.mem_append_right _ (List.mem_append_right _ (mem_pinsAt hb e)))).2.1
      refine wpAny_mono (hg _ _ _ _ _ _ s5 σ3 H5 x u _ I5' r5 (step x H5 y5)) (fun _ s6 ⟨σ6, H6, I6, q6⟩ => ?_) fun _ _ z => False.elim z
      refine wpAny_mono (ht _ _ _ _ _ _ s6 σ6 H6 _ I6 q6) (fun b s7 ⟨H7, I7, q7⟩ => ?_) fun _ _ z => False.elim z
      cases b with
      | false =>
        rw [if_neg Bool.false_ne_true]
        rw [if_neg Bool.false_ne_true] at q7
        exact back I7 q7
      | true =>
        rw [if_pos rfl]
        rw [if_pos rfl] at q7
        refine wpAny_mono (he _ _ _ _ _ _ s7 σ6 H7 _ I7 q7) (fun y s8 ⟨v, H8, I8, r8, xs, hx8, hz8, n8⟩ => ?_) fun _ _ z => False.elim z
        refine wpAny_mono (mt_append (X := compCx X (own ++ caps) scope cl HP.objs.size s₂ H2 fp) _ s8 σ6 H8 (.ref s₂.heap.objs.size) [v] (.ref s₂.heap.objs.size) [y] (fun _ H' => N σ6 H') I8 rfl (.cons r8 .nil) ⟨_, xs, v, rfl, rfl, hx8, hz8, n8⟩) (fun _ s9 ⟨_, H9, I9, _, n9⟩ => ?_) fun _ _ z => False.elim z
        exact back I9 n9
  exact codeAny_compStart_list (loop _ rfl) (T.self _ 0 _ _ _ tn4 (loop _ rfl))
end
end L2

set_option Elab.async false
set_option linter.all false
set_option maxRecDepth 100000
set_option maxHeartbeats 4000000
namespace L2
open PySem PySem.Spec PyProof.Rows

/-! ### names of Python's own -/
theorem bt_int : bootBuiltins "int" = some (.type "int") := by decide +kernel
theorem bt_bool : bootBuiltins "bool" = some (.type "bool") := by decide +kernel
theorem bt_tuple : bootBuiltins "tuple" = some (.type "tuple") := by decide +kernel
theorem bt_len : bootBuiltins "len" = some (.builtin "len") := by decide +kernel
theorem bt_abs : bootBuiltins "abs" = some (.builtin "abs") := by decide +kernel
theorem bt_max : bootBuiltins "max" = some (.builtin "max") := by decide +kernel
theorem bt_min : bootBuiltins "min" = some (.builtin "min") := by decide +kernel
theorem bt_sorted : bootBuiltins "sorted" = some (.builtin "sorted") := by decide +kernel
theorem bt_isinstance : bootBuiltins "isinstance" = some (.builtin "isinstance") := by decide +kernel

/-! ### arguments without a star -/
def isStar : Expr → Bool
  | .Starred _ _ => true
  | _ => false
def noStars (es : List Expr) : Bool := es.all fun e => !isStar e
theorem star_cons {e : Expr} {es : List Expr} {env : Env} (h : isStar e = false) : starEach (e :: es) env = (false, eval e env) :: starEach es env := by
  cases e <;> first | rfl | cases h
theorem star_of {e : Expr} {es : List Expr} {env : Env} (h : noStars (e :: es) = true) : starEach (e :: es) env = (false, eval e env) :: starEach es env := by
  refine star_cons ?_
  unfold noStars at h
  rw [List.all_cons, Bool.and_eq_true] at h
  simpa using h.1
theorem star_any {pos : Pos} {env : Env} : ∀ {es : List Expr}, noStars es = true → (backTo pos (starEach es env)).any (·.1) = false
  | [], _ => rfl
  | e :: es, h => by
    rw [star_of h]
    have h2 : noStars es = true := by
      unfold noStars at h ⊢
      rw [List.all_cons, Bool.and_eq_true] at h
      exact h.2
    exact star_any h2
theorem star_tail {e : Expr} {es : List Expr} (h : noStars (e :: es) = true) : noStars es = true := by
  unfold noStars at h ⊢
  rw [List.all_cons, Bool.and_eq_true] at h
  exact h.2
section
variable {X : Cx} {CX : CXT} {k : Nat} {f : Addr} {fd : FuncData} {ps : List Str} {sp : Sp} {dvs : List V} {ds : List Value} {E : XK} {x : Str} {p pos : Pos} {e : Expr} {es : List Expr} {te : TE} {t : TA} {id T : String} {r : List V → Hp → VK → Prop}
theorem pa_c (ha : PE X e te) (hr : PA X es t) (hs : isStar e = false := by rfl) : PA X (e :: es) (tCons te t) := pa_cons ha hr (star_cons hs)
theorem pe_callS (F : FnOk X.prog X.w X.K X.mg X.base CX k f fd ps sp) (hr : Room k X.A) (hg : Gl X x) (hm : X.mg x = some (.ref f)) (hk : PySem.W.keepIn X.K (.ref f) = true) (hb : Binds X.K fd ps ds) (hd : Vals dvs ds) (hx : Passes CX X E)
    (ha : PA X (e :: es) t) (hns : noStars (e :: es) = true := by rfl) (hdb : (x == ("__debug__" : Str)) = false := by decide) : PE X (.Call (.Name x p) (e :: es) [] pos) (tCall sp dvs E t) :=
  pe_call F hr hg hm hk hb hd hx ha hdb (star_of hns) (star_any (star_tail hns))
theorem pe_callBS (hc : CallR X (.builtin id) r) (hg : Gl X x) (hm : X.mg x = none) (hv : bootBuiltins x = some (.builtin id)) (ha : PA X (e :: es) t) (hns : noStars (e :: es) = true := by rfl) (hn : x ≠ "__name__" := by decide) (hdb : (x == ("__debug__" : Str)) = false := by decide) :
    PE X (.Call (.Name x p) (e :: es) [] pos) (tCB r t) := pe_callB hc hg hm hv ha hn hdb (star_of hns) (star_any (star_tail hns))
theorem pe_callTyS (hc : CallR X (.type T) r) (hg : Gl X x) (hm : X.mg x = none) (hv : bootBuiltins x = some (.type T)) (ha : PA X (e :: es) t) (hns : noStars (e :: es) = true := by rfl) (hn : x ≠ "__name__" := by decide) (hdb : (x == ("__debug__" : Str)) = false := by decide) :
    PE X (.Call (.Name x p) (e :: es) [] pos) (tCB r t) := pe_callTy hc hg hm hv ha hn hdb (star_of hns) (star_any (star_tail hns))
end
/-! ### values that are no comprehension -/
def isCompr : Expr → Bool
  | .ListComp _ _ _ _ => true
  | .SetComp _ _ _ _ => true
  | .DictComp _ _ _ _ _ => true
  | _ => false
theorem swaps_no {e : Expr} {tg : Option Expr} {n : Nat} {env : Env} (h : isCompr e = false) : swapsWith e tg n env = pure false := by
  cases e <;> first | rfl | cases h
section
variable {X : Cx} {e : Expr} {te : TE} {pos : Pos}
theorem ps_exprS (he : PE X e te) (hs : isCompr e = false := by rfl) : PS X (.Expr e pos) (tDrop te) := ps_expr he (swaps_no hs)
theorem ps_setS {i : Nat} {x : Str} {pos' : Pos} (hN : X.N.Nodup) (hi : X.N[i]? = some x) (hx : Loc X.env.scope x) (he : PE X e te) (hs : isCompr e = false := by rfl) (hf : X.fn x = true ∨ X.env.scope.names.lookup x = some .local := by first | exact .inl rfl | exact .inr rfl | assumption) :
    PS X (.Assign [.Name x pos'] e pos) (tAsg te (gName i)) := ps_set hN hi hx he (swaps_no hs) hf
end
/-! ### calls of Python's own, by name -/
def rLen (K : PySem.W.Frag) : List V → Hp → VK → Prop := fun xs H Q => ∃ p ys, xs = [.ref p] ∧ (SqL K H p ys ∨ SqT K H p ys) ∧ Q (.int ys.length) H
def rInt1 : List V → Hp → VK → Prop := fun xs H Q => (∃ i, xs = [.int i] ∧ Q (.int i) H) ∨ ∃ k, xs = [.bl k] ∧ Q (.int (if k then 1 else 0)) H
def rAbs : List V → Hp → VK → Prop := fun xs H Q => ∃ i, xs = [.int i] ∧ Q (.int (if i < 0 then -i else i)) H
def rMax : List V → Hp → VK → Prop := fun xs H Q => ∃ i j, xs = [.int i, .int j] ∧ Q (.int (if j > i then j else i)) H
def rMin : List V → Hp → VK → Prop := fun xs H Q => ∃ i j, xs = [.int i, .int j] ∧ Q (.int (if j < i then j else i)) H
def rTupOf (K : PySem.W.Frag) : List V → Hp → VK → Prop := fun xs H Q => ∃ p ys, xs = [.ref p] ∧ ((SqL K H p ys ∧ ∀ l, H l = none → Q (.ref l) (upd H l (.tup ys))) ∨ (SqT K H p ys ∧ Q (.ref p) H))
def rIsB : R2 := fun x y H Q => ∃ b, y = .bl b ∧ Q (.bl (decide (x = .bl b))) H
def rNotB : R2 := fun x y H Q => ∃ b, y = .bl b ∧ Q (.bl (!decide (x = .bl b))) H
def rIsN : R2 := fun x y H Q => y = .non ∧ Q (.bl (decide (x = .non))) H
def rNotN : R2 := fun x y H Q => y = .non ∧ Q (.bl (!decide (x = .non))) H
section
variable {X : Cx}
theorem ca_len : CallR X (.builtin "len") (rLen X.K) := call_len_seq
theorem ca_abs : CallR X (.builtin "abs") rAbs := call_abs
theorem ca_max (hc : X.calm = true) : CallR X (.builtin "max") rMax := call_max2 hc
theorem ca_min (hc : X.calm = true) : CallR X (.builtin "min") rMin := call_min2 hc
theorem ca_tuple : CallR X (.type "tuple") (rTupOf X.K) := call_tuple_of
theorem oq_notN : OpR X (compareOp .IsNot) rNotN := op_notN
end
/-! ### the reading, rule by rule -/
section
variable {K : PySem.W.Frag} {σ : St} {H : Hp} {Q : VK} {D : Ends}
theorem rd_seq {t u : TS} (h : t { D with nx := u D } σ H) : tSeq t u D σ H := h
theorem rd_ret {te : TE} (h : te σ H D.rt) : tRet te D σ H := h
theorem rd_retN (h : D.rt .non H) : tRetN D σ H := h
theorem rd_drop {te : TE} (h : te σ H fun _ H1 => D.nx σ H1) : tDrop te D σ H := h
theorem rd_next (h : D.nx σ H) : tNext D σ H := h
theorem rd_asg {te : TE} {g : TG} (h : te σ H fun x H1 => g x σ H1 D.nx) : tAsg te g D σ H := h
theorem rd_gname {i : Nat} {v : V} {R : St → Hp → Prop} (h : R (σ.set i (some v)) H) : gName i v σ H R := h
theorem rd_gnil {R : St → Hp → Prop} (h : R σ H) : gNil [] σ H R := ⟨rfl, h⟩
theorem rd_gcons {t : TG} {u : TGs} {v : V} {r : List V} {R : St → Hp → Prop} (h : t v σ H fun σ' H' => u r σ' H' R) : gCons t u (v :: r) σ H R := ⟨v, r, rfl, h⟩
theorem rd_gsub {to ti : TE} {t : TSet} {v : V} {R : St → Hp → Prop} (h : to σ H fun o H1 => ti σ H1 fun i H2 => t o i v H2 fun H3 => R σ H3) : gSub to ti t v σ H R := h
theorem rd_ifS {c : TT} {t u : TS} (h : c σ H fun b H1 => if b = true then t D σ H1 else u D σ H1) : tIfS c t u D σ H := h
theorem rd_test {t : TE} {R : Bool → Hp → Prop} (h : t σ H fun x H' => ∃ k, x = .bl k ∧ R k H') : tTest t σ H R := h
theorem rd_B {t : TE} {R : Bool → Hp → Prop} (h : t σ H fun x H' => ∃ k, x = .bl k ∧ R k H') : tB t σ H R := h
theorem rd_k {b : Bool} {R : Bool → Prop} (h : R b) : ∃ k, V.bl b = .bl k ∧ R k := ⟨b, rfl, h⟩
theorem rd_and {t u : TT} {R : Bool → Hp → Prop} (h : t σ H fun c H1 => if c = true then u σ H1 R else R false H1) : tAnd t u σ H R := h
theorem rd_or {t u : TT} {R : Bool → Hp → Prop} (h : t σ H fun c H1 => if c = true then R true H1 else u σ H1 R) : tOr t u σ H R := h
theorem rd_not {t : TT} {R : Bool → Hp → Prop} (h : t σ H fun c H1 => R (!c) H1) : tNot t σ H R := h
theorem rd_andV {t u : TE} (h : t σ H fun x H1 => ∃ c, x = .bl c ∧ if c = true then u σ H1 Q else Q (.bl false) H1) : tAndV t u σ H Q := h
theorem rd_orV {t u : TE} (h : t σ H fun x H1 => ∃ c, x = .bl c ∧ if c = true then Q (.bl true) H1 else u σ H1 Q) : tOrV t u σ H Q := h
theorem rd_notV {t : TE} (h : t σ H fun x H1 => ∃ c, x = .bl c ∧ Q (.bl (!c)) H1) : tNotV t σ H Q := h
theorem rd_if {t : TT} {ta tb : TE} (h : t σ H fun c H1 => if c = true then ta σ H1 Q else tb σ H1 Q) : tIf t ta tb σ H Q := h
theorem rd_var {i : Nat} {v : V} (e : σ[i]? = some (some v)) (h : Q v H) : tVar i σ H Q := ⟨v, e, h⟩
theorem cpow_lit {i j : Int} (h1 : 0 ≤ j) (h2 : j ≤ 1000000) (h3 : i.natAbs < 2 ^ 64) : CPow i j := ⟨h1, h2, h3⟩
theorem rd_c {v : V} (h : Q v H) : tC v σ H Q := h
theorem rd_op {r : R2} {ta tb : TE} (h : ta σ H fun x H1 => tb σ H1 fun y H2 => r x y H2 Q) : tOp r ta tb σ H Q := h
theorem rd_un {r : V → Hp → VK → Prop} {ta : TE} (h : ta σ H fun x H1 => r x H1 Q) : tUn r ta σ H Q := h
theorem rd_I0 {g : Int → Int → V} {i j : Int} (h : Q (g i j) H) : rI0 g (.int i) (.int j) H Q := ⟨i, j, rfl, rfl, h⟩
theorem rd_I {C : Int → Int → Prop} {g : Int → Int → V} {i j : Int} (c : C i j) (h : Q (g i j) H) : rI C g (.int i) (.int j) H Q := ⟨i, j, rfl, rfl, c, h⟩
theorem rd_U {g : Int → V} {i : Int} (h : Q (g i) H) : rU g (.int i) H Q := ⟨i, rfl, h⟩
theorem rd_eqI {i j : Int} (h : Q (.bl (decide (V.int i = V.int j))) H) : rEq (.int i) (.int j) H Q := ⟨rfl, h⟩
theorem rd_neI {i j : Int} (h : Q (.bl (!decide (V.int i = V.int j))) H) : rNe (.int i) (.int j) H Q := ⟨rfl, h⟩
theorem rd_cb {r : List V → Hp → VK → Prop} {t : TA} (h : t σ H fun vs H1 => r vs H1 Q) : tCB r t σ H Q := h
theorem rd_call {sp : Sp} {dvs : List V} {E : XK} {t : TA} (h : t σ H fun vs H1 => sp (vs ++ dvs) H1 Q E) : tCall sp dvs E t σ H Q := h
theorem rd_cons {ta : TE} {tr : TA} {R : List V → Hp → Prop} (h : ta σ H fun x H1 => tr σ H1 fun xs H2 => R (x :: xs) H2) : tCons ta tr σ H R := h
theorem rd_nil {R : List V → Hp → Prop} (h : R [] H) : tNil σ H R := h
def rNew (n : Nat) (o : HO) (H : Hp) (Q : VK) : Prop := n ≤ sizeLine ∧ ∀ p, H p = none → Q (.ref p) (upd H p o)
theorem rd_tup {t : TA} (h : t σ H fun xs H1 => rNew xs.length (.tup xs) H1 Q) : tTup t σ H Q := h
theorem rd_lst {t : TA} (h : t σ H fun xs H1 => rNew xs.length (.lst xs) H1 Q) : tLst t σ H Q := h
/-- a new object: what is told of the heap behind it -/
theorem rd_new {n : Nat} {o : HO} (hz : n ≤ sizeLine) (h : ∀ p H2, H p = none → H2 p = some o → Same H H2 → Q (.ref p) H2) : rNew n o H Q :=
  ⟨hz, fun p hp => h p _ hp upd_same (fun b u e => by rw [upd_ne (ne_of_none e hp)]; exact e)⟩
theorem rd_chain {r r' : R2} {ta tb tc : TE} (h : ta σ H fun x H1 => tb σ H1 fun y H2 => r x y H2 fun z H3 => ∃ k, z = .bl k ∧ (if k = true then tc σ H3 fun w' H4 => r' y w' H4 Q else Q (.bl false) H3)) : tChain r r' ta tb tc σ H Q := h
theorem rd_ixL {p : Addr} {xs : List V} {i : Int} {v : V} (h1 : SqL K H p xs) (h2 : atI xs i = some v) (h : Q v H) : rIxL K (.ref p) (.int i) H Q := ⟨p, xs, i, v, rfl, rfl, h1, h2, h⟩
theorem rd_ixT {p : Addr} {xs : List V} {i : Int} {v : V} (h1 : SqT K H p xs) (h2 : atI xs i = some v) (h : Q v H) : rIxT K (.ref p) (.int i) H Q := ⟨p, xs, i, v, rfl, rfl, h1, h2, h⟩
theorem rd_setA {p : Addr} {xs : List V} {k : Int} {j : Nat} {v : V} {R : Hp → Prop} (h1 : H p = some (.lst xs)) (h2 : ixN xs.length k = some j)
    (h : ∀ H2, H2 p = some (.lst (xs.set j v)) → (∀ q o, H q = some o → q ≠ p → H2 q = some o) → R H2) : rSetL (.ref p) (.int k) v H R :=
  ⟨p, xs, k, j, rfl, rfl, h1, h2, h _ upd_same fun q o e n => by rw [upd_ne n]; exact e⟩
theorem rd_setL {p : Addr} {xs : List V} {k : Int} {j : Nat} {v : V} {R : Hp → Prop} (h1 : H p = some (.lst xs)) (h2 : ixN xs.length k = some j) (h : R (upd H p (.lst (xs.set j v)))) : rSetL (.ref p) (.int k) v H R := ⟨p, xs, k, j, rfl, rfl, h1, h2, h⟩
def rFor (J : It) (g : TG) (tb : TS) (D : Ends) (σ : St) (H : Hp) : Prop := ∃ W : Nat → Nat → St → Hp → Prop, (∃ m, W 0 m σ H) ∧ ∀ i m σ H, W i m σ H →
  (J.stop i H ∧ D.nx σ H) ∨ (J.go i H ∧ ∃ N : St → Hp → Prop, (∀ σ' H', N σ' H' → ∃ m', m' < m ∧ W (i + 1) m' σ' H') ∧ ∀ x H', J.yld i H x H' → g x σ H' fun σ2 H2 => tb { D with nx := N, ct := N, bk := D.nx } σ2 H2)
theorem rd_for {wi : TI} {g : TG} {tb : TS} (h : wi σ H fun J H1 => rFor J g tb D σ H1) : tFor wi g tb D σ H := h
def rRng1 (vs : List V) (H : Hp) (R : It → Hp → Prop) : Prop := ∃ j : Int, vs = [.int j] ∧ -(2 ^ 62) ≤ j ∧ j < 2 ^ 62 ∧ R (Itr 0 j.toNat) H
theorem rd_rng1 {ta : TA} {R : It → Hp → Prop} (h : ta σ H fun vs H1 => rRng1 vs H1 R) : iRng1 ta σ H R := h
theorem rd_rng {j : Int} {R : It → Hp → Prop} (h1 : -(2 ^ 62) ≤ j) (h2 : j < 2 ^ 62) (h : R (Itr 0 j.toNat) H) : rRng1 [.int j] H R := ⟨j, rfl, h1, h2, h⟩
def rRng2 (vs : List V) (H : Hp) (R : It → Hp → Prop) : Prop := ∃ i j : Int, vs = [.int i, .int j] ∧ (-(2 ^ 62) ≤ i ∧ i < 2 ^ 62 ∧ -(2 ^ 62) ≤ j ∧ j < 2 ^ 62) ∧ R (Itr i (j - i).toNat) H
theorem rd_rng2 {ta : TA} {R : It → Hp → Prop} (h : ta σ H fun vs H1 => rRng2 vs H1 R) : iRng2 ta σ H R := h
theorem rd_int1 {b : Bool} (h : Q (.int (if b then 1 else 0)) H) : rInt1 [.bl b] H Q := .inr ⟨b, rfl, h⟩
theorem rd_abs {i : Int} (h : Q (.int (if i < 0 then -i else i)) H) : rAbs [.int i] H Q := ⟨i, rfl, h⟩
theorem rd_max {i j : Int} (h : Q (.int (if j > i then j else i)) H) : rMax [.int i, .int j] H Q := ⟨i, j, rfl, h⟩
theorem rd_min {i j : Int} (h : Q (.int (if j < i then j else i)) H) : rMin [.int i, .int j] H Q := ⟨i, j, rfl, h⟩
theorem rd_lenL {p : Addr} {ys : List V} (h1 : SqL K H p ys) (h : Q (.int ys.length) H) : rLen K [.ref p] H Q := ⟨p, ys, rfl, .inl h1, h⟩
theorem rd_lenT {p : Addr} {ys : List V} (h1 : SqT K H p ys) (h : Q (.int ys.length) H) : rLen K [.ref p] H Q := ⟨p, ys, rfl, .inr h1, h⟩
theorem rd_isi {x : V} {n : String} {t : Value} {b : Bool} (ty : TyOf K H x t) (e : PySem.W.kitOne K t (.type n) = some b) (h : Q (.bl b) H) : rIsi K [x, .ty n] H Q := ⟨x, n, t, b, rfl, ty, e, h⟩
theorem rd_isB {x : V} {b : Bool} (h : Q (.bl (decide (x = .bl b))) H) : rIsB x (.bl b) H Q := ⟨b, rfl, h⟩
theorem rd_notB {x : V} {b : Bool} (h : Q (.bl (!decide (x = .bl b))) H) : rNotB x (.bl b) H Q := ⟨b, rfl, h⟩
theorem rd_isN {x : V} (h : Q (.bl (decide (x = .non))) H) : rIsN x .non H Q := ⟨rfl, h⟩
theorem rd_notN {x : V} (h : Q (.bl (!decide (x = .non))) H) : rNotN x .non H Q := ⟨rfl, h⟩
theorem rd_gtup {n : Nat} {t : TGs} {p : Addr} {xs : List V} {R : St → Hp → Prop} (h1 : SqT K H p xs) (h2 : xs.length = n) (h : t xs σ H R) : gTup K n t (.ref p) σ H R := ⟨p, xs, rfl, h1, h2, h⟩
theorem rd_tupL {p : Addr} {ys : List V} (h1 : SqL K H p ys) (h : ∀ l H2, H l = none → H2 l = some (.tup ys) → Same H H2 → Q (.ref l) H2) :
    rTupOf K [.ref p] H Q :=
  ⟨p, ys, rfl, .inl ⟨h1, fun l hl => h l _ hl upd_same (fun b u e => by rw [upd_ne (ne_of_none e hl)]; exact e)⟩⟩
theorem rd_slL {p : Addr} {xs : List V} {lo hi : Option Int} (h1 : SqL K H p xs) (h : ∀ l H2, H l = none → H2 l = some (.lst (cutV xs lo hi)) → Same H H2 → Q (.ref l) H2) : rSlL K (.ref p) lo hi H Q :=
  ⟨p, xs, rfl, h1, fun l hl => h l _ hl upd_same (fun b u e => by rw [upd_ne (ne_of_none e hl)]; exact e)⟩
theorem rd_sl {r : V → Option Int → Option Int → Hp → VK → Prop} {te : TE} {tl th : TO} (h : te σ H fun x H1 => tl σ H1 fun l H2 => th σ H2 fun u H3 => r x l u H3 Q) : tSl r te tl th σ H Q := h
theorem rd_noPart {R : Option Int → Hp → Prop} (h : R none H) : tNoPart σ H R := h
theorem rd_part {t : TE} {R : Option Int → Hp → Prop} (h : t σ H fun x H1 => ∃ i, x = .int i ∧ R (some i) H1) : tPart t σ H R := h
theorem rd_i {i : Int} {R : Int → Prop} (h : R i) : ∃ j, V.int i = .int j ∧ R j := ⟨i, rfl, h⟩
theorem iteD {c A B : Prop} [Decidable c] (h1 : c → A) (h2 : ¬ c → B) : if decide c = true then A else B := by
  by_cases h : c
  · rw [decide_eq_true h]; exact iteT (h1 h)
  · rw [decide_eq_false h]; exact iteF (h2 h)
theorem iteND {c A B : Prop} [Decidable c] (h1 : ¬ c → A) (h2 : c → B) : if (!decide c) = true then A else B := by
  by_cases h : c
  · rw [decide_eq_true h]; exact iteF (h2 h)
  · rw [decide_eq_false h]; exact iteT (h1 h)
/-- a loop over a range -/
theorem rd_forR {lo : Int} {n : Nat} {g : TG} {tb : TS} (Pv : Nat → St → Hp → Prop) (h0 : Pv 0 σ H)
    (hs : ∀ i σ H, i < n → Pv i σ H → g (.int (lo + i)) σ H fun σ2 H2 => tb { D with nx := Pv (i + 1), ct := Pv (i + 1), bk := D.nx } σ2 H2) (hd : ∀ σ H, Pv n σ H → D.nx σ H) :
    rFor (Itr lo n) g tb D σ H := for_range Pv h0 hs hd
theorem rd_forL {a : Addr} {xs : List V} {g : TG} {tb : TS} (Pv : Nat → St → Hp → Prop) (h0 : Pv 0 σ H) (hl : ∀ i σ H, i ≤ xs.length → Pv i σ H → SqL K H a xs)
    (hs : ∀ i x σ H, xs[i]? = some x → Pv i σ H → g x σ H fun σ2 H2 => tb { D with nx := Pv (i + 1), ct := Pv (i + 1), bk := D.nx } σ2 H2) (hd : ∀ σ H, Pv xs.length σ H → D.nx σ H) :
    rFor (Itl K a) g tb D σ H := for_list Pv h0 hl hs hd
theorem rd_forT {a : Addr} {xs : List V} {g : TG} {tb : TS} (Pv : Nat → St → Hp → Prop) (h0 : Pv 0 σ H) (hl : ∀ i σ H, i ≤ xs.length → Pv i σ H → SqT K H a xs)
    (hs : ∀ i x σ H, xs[i]? = some x → Pv i σ H → g x σ H fun σ2 H2 => tb { D with nx := Pv (i + 1), ct := Pv (i + 1), bk := D.nx } σ2 H2) (hd : ∀ σ H, Pv xs.length σ H → D.nx σ H) :
    rFor (Itt K a) g tb D σ H := for_tup Pv h0 hl hs hd
/-- a comprehension's turns: l its list, σ0 its names at first -/
def rComp (J : It) (g : TG) (tt : TT) (te : TE) (l : Addr) (σ0 : St) (H : Hp) (Q : VK) : Prop :=
  ∃ W : Nat → Nat → St → Hp → Prop, (∃ m, W 0 m σ0 (upd H l (.lst []))) ∧ ∀ i m σ' H', W i m σ' H' →
    (J.stop i H' ∧ Q (.ref l) H') ∨ (J.go i H' ∧ ∃ N : St → Hp → Prop, (∀ σ2 H2, N σ2 H2 → ∃ m', m' < m ∧ W (i + 1) m' σ2 H2) ∧
      ∀ x H'', J.yld i H' x H'' → g x σ' H'' fun σ2 H2 => tt σ2 H2 fun b H3 =>
        if b = true then te σ2 H3 fun v H4 => ∃ xs, H4 l = some (.lst xs) ∧ xs.length < sizeLine ∧ N σ2 (upd H4 l (.lst (xs ++ [v]))) else N σ2 H3)
/-- a comprehension by an invariant -/
theorem comp_by {J : It} {g : TG} {tt : TT} {te : TE} {σ0 : St} {l : Addr} (n : Nat) (Pv : Nat → St → Hp → Prop) (h0 : Pv 0 σ0 (upd H l (.lst [])))
    (stop : ∀ σ H, Pv n σ H → J.stop n H ∧ Q (.ref l) H)
    (go : ∀ i σ H, i < n → Pv i σ H → J.go i H ∧ ∀ x H', J.yld i H x H' → g x σ H' fun σ2 H2 => tt σ2 H2 fun b H3 =>
      if b = true then te σ2 H3 fun v H4 => ∃ xs, H4 l = some (.lst xs) ∧ xs.length < sizeLine ∧ Pv (i + 1) σ2 (upd H4 l (.lst (xs ++ [v]))) else Pv (i + 1) σ2 H3) :
    rComp J g tt te l σ0 H Q := by
  refine ⟨fun i m σ H => m = n - i ∧ i ≤ n ∧ Pv i σ H, ⟨n, by simp, Nat.zero_le _, h0⟩, ?_⟩
  rintro i m σ H ⟨rfl, hi, p⟩
  by_cases hlt : i < n
  · obtain ⟨hgo, h⟩ := go i σ H hlt p
    exact .inr ⟨hgo, Pv (i + 1), fun σ' H' p' => ⟨n - (i + 1), by omega, rfl, hlt, p'⟩, h⟩
  · have e : i = n := by omega
    subst e
    exact .inl (stop σ H p)
theorem rd_comp {own : Nat} {ks : List Nat} {wi : TI} {g : TG} {tt : TT} {te : TE} (h : wi σ H fun J H1 => ∀ l, H1 l = none → rComp J g tt te l (capSt own ks σ) H1 Q) : tComp own ks wi g tt te σ H Q := h
def rItT (K : PySem.W.Frag) (x : V) (H : Hp) (R : It → Hp → Prop) : Prop := ∃ a, x = .ref a ∧ (∃ xs, SqT K H a xs) ∧ R (Itt K a) H
def rItL (K : PySem.W.Frag) (x : V) (H : Hp) (R : It → Hp → Prop) : Prop := ∃ a, x = .ref a ∧ (∃ xs, SqL K H a xs) ∧ R (Itl K a) H
theorem rd_iTup {tl : TE} {R : It → Hp → Prop} (h : tl σ H fun x H1 => rItT K x H1 R) : iTup K tl σ H R := h
theorem rd_iList {tl : TE} {R : It → Hp → Prop} (h : tl σ H fun x H1 => rItL K x H1 R) : iList K tl σ H R := h
theorem rd_itT {p : Addr} {xs : List V} {R : It → Hp → Prop} (h1 : SqT K H p xs) (h : R (Itt K p) H) : rItT K (.ref p) H R := ⟨p, rfl, ⟨xs, h1⟩, h⟩
theorem rd_itL {p : Addr} {xs : List V} {R : It → Hp → Prop} (h1 : SqL K H p xs) (h : R (Itl K p) H) : rItL K (.ref p) H R := ⟨p, rfl, ⟨xs, h1⟩, h⟩
theorem rd_noIf {R : Bool → Hp → Prop} (h : R true H) : tNoIf σ H R := h
end
/-- a tuple, a list that stays -/
theorem Same.seqT {K : PySem.W.Frag} {H H' : Hp} {a : Addr} {xs : List V} (e : Same H H') (h : SqT K H a xs) : SqT K H' a xs := by
  rcases h with (h | ⟨o, h⟩) | h
  · exact .inl (.inl (e _ _ h))
  · exact .inl (.inr ⟨o, e _ _ h⟩)
  · exact .inr h
/-- all but p is as it was -/
def Kp (p : Addr) (H H' : Hp) : Prop := ∀ q o, H q = some o → q ≠ p → H' q = some o
theorem Kp.refl (p : Addr) (H : Hp) : Kp p H H := fun _ _ h _ => h
theorem Kp.trans {p : Addr} {H H1 H2 : Hp} (a : Kp p H H1) (b : Kp p H1 H2) : Kp p H H2 := fun q o h n => b q o (a q o h n) n
theorem Kp.upd {p : Addr} {H : Hp} {o : HO} : Kp p H (upd H p o) := fun q u h n => by rw [upd_ne n]; exact h
theorem Kp.same {p : Addr} {H H' : Hp} (a : Same H H') : Kp p H H' := fun q o h _ => a q o h
theorem Same.new {H : Hp} {l : Addr} {o : HO} (h : H l = none) : Same H (upd H l o) := fun b u e => by rw [upd_ne (ne_of_none e h)]; exact e
/-- two lists of one kind differ where one is new -/
theorem TyOf.same {K : PySem.W.Frag} {H H' : Hp} {x : V} {t : Value} (e : Same H H') (h : TyOf K H x t) : TyOf K H' x t := by
  cases h with
  | non => exact .non
  | bl x => exact .bl x
  | int i => exact .int i
  | str x => exact .str x
  | flt x => exact .flt x
  | lst h => exact .lst (e _ _ h)
  | frz h => exact .frz (e _ _ h)
  | tup h => exact .tup (e _ _ h)
  | dK h => exact .dK (e _ _ h)
  | dT h => exact .dT (e _ _ h)
  | ins h cl ha hn htk hm => exact .ins (e _ _ h) cl ha hn htk hm
/-- the two numbers that a cell is drawn from -/
def Pot (H : Hp) (p : Addr) : Prop := ∃ a b : Int, H p = some (.lst [.int a, .int b]) ∧ 0 ≤ a ∧ 0 ≤ b ∧ b < 2147483648
theorem Pot.same {H H' : Hp} {p : Addr} (h : Pot H p) (s : Same H H') : Pot H' p := by
  obtain ⟨x, y, h, r⟩ := h
  exact ⟨x, y, s _ _ h, r⟩
theorem Pot.neN {H : Hp} {p l : Addr} (h : Pot H p) (hl : H l = none) : l ≠ p := by
  obtain ⟨x, y, h, r⟩ := h
  exact (ne_of_none h hl).symm
theorem Kp.then {H H1 H2 : Hp} {p : Addr} (h : Kp p H H1) (s : Same H1 H2) : Kp p H H2 := h.trans (Kp.same s)
theorem Kp.free {H H1 : Hp} {p l : Addr} (h : Kp p H H1) (hp : Pot H1 p) (hl : H1 l = none) : H l = none := by
  cases e : H l with
  | none => rfl
  | some o =>
    have := h l o e (hp.neN hl)
    rw [hl] at this
    cases this
/-- a pot that was made here: all that was there before is as it was -/
theorem Kp.fresh {H H1 : Hp} {p : Addr} (h : Kp p H H1) (hp : H p = none) : Same H H1 := fun q o e => h q o e (ne_of_none e hp)
end L2

set_option Elab.async false
set_option linter.all false
set_option maxRecDepth 100000
set_option maxHeartbeats 4000000
namespace L2
open PySem PySem.Spec PyProof.Rows
/-! ### the judgements as structures (so that nothing is unfolded while a term is read) -/
structure QE (X : Cx) (e : Expr) (t : TE) : Prop where
  h : PE X e t
structure QT (X : Cx) (e : Expr) (t : TT) : Prop where
  h : PT X e t
structure QW (X : Cx) (e : Expr) (t : TT) : Prop where
  h : PW X e t
structure QA (X : Cx) (es : List Expr) (t : TA) : Prop where
  h : PA X es t
structure QS (X : Cx) (st : Stmt) (t : TS) : Prop where
  h : PS X st t
structure QB (X : Cx) (st : List Stmt) (t : TS) : Prop where
  h : PSs X st t
structure QG (X : Cx) (e : Expr) (t : TG) : Prop where
  h : PG X e t
structure QGs (X : Cx) (es : List Expr) (t : TGs) : Prop where
  h : PGs X es t
structure QI (X : Cx) (tg e : Expr) (t : TI) : Prop where
  h : PI X tg e t
structure QF (X : Cx) (es : List Expr) (t : TT) : Prop where
  h : PIfs X es t
structure QO (X : Cx) (e : Option Expr) (t : TO) : Prop where
  h : PO X e t
def isSlc : Expr → Bool
  | .Slice _ _ _ _ => true
  | _ => false
theorem plainIx {b : Expr} (h : isSlc b = false) : PlainIx b := by
  intro o i
  cases b <;> first | rfl | cases h
def isPlainT : Expr → Bool
  | .UnaryOp _ _ _ => false
  | .BoolOp _ _ _ => false
  | .IfExp _ _ _ _ => false
  | .Compare _ _ _ _ => false
  | _ => true
theorem plainT {e : Expr} {env : Env} (h : isPlainT e = true) : ∀ whole, isTrue e env whole = (do let v ← whole; standAt e.pos; holding [v] (truthy v)) := by
  intro whole
  cases e <;> first | rfl | cases h
section
variable {X : Cx} {a b c e o : Expr} {es rest : List Expr} {ta tb tc te to ti : TE} {tA tB' : TT} {t tr : TA} {pos p p2 pos' : Pos} {x : Str}
theorem qv (i : Nat) {x : Str} {pos : Pos} (hN : X.N[i]? = some x := by rfl) (hv : Vis X.env.scope x := by first | exact Or.inl rfl | exact Or.inr (Or.inl rfl) | exact Or.inr (Or.inr rfl)) (hd : (x == ("__debug__" : Str)) = false := by decide)
    (hcd : (x == ("__classdict__" : Str)) = false := by decide) : QE X (.Name x pos) (tVar i) := ⟨pe_var hN hv hd hcd⟩
theorem qe_int {i j pos} : QE X (.Constant (.int i) j pos) (tC (.int i)) := ⟨pe_int⟩
theorem qe_bl {b j pos} : QE X (.Constant (.bool b) j pos) (tC (.bl b)) := ⟨pe_bl⟩
theorem qe_non {j pos} : QE X (.Constant .none j pos) (tC .non) := ⟨pe_non⟩
theorem qe_bltn {v : V} {u : Value} (hg : Gl X x) (hm : X.mg x = none) (hv : bootBuiltins x = some u) (r : RelV v u) (hn : x ≠ "__name__" := by decide) (hd : (x == ("__debug__" : Str)) = false := by decide) : QE X (.Name x pos) (tC v) := ⟨pe_bltn hg hm hv r hn hd⟩
theorem qe_op {op : Operator} {r : R2} (ho : OpR X (binaryOp op) r) (ha : QE X a ta) (hb : QE X b tb) : QE X (.BinOp a op b pos) (tOp r ta tb) := ⟨pe_op ho ha.h hb.h⟩
theorem qe_un {op : UnaryOp} {r : V → Hp → VK → Prop} (ho : UnR X (unaryOp op) r) (ha : QE X a ta) : QE X (.UnaryOp op a pos) (tUn r ta) := ⟨pe_un ho ha.h⟩
theorem qe_not (ha : QE X a ta) : QE X (.UnaryOp .Not a pos) (tNotV ta) := ⟨pe_not ha.h⟩
theorem qe_one {op} (h : QE X a ta) : QE X (.BoolOp op [a] pos) ta := ⟨pe_one h.h⟩
theorem qe_and (ha : QE X a ta) (hb : QE X (.BoolOp .And (b :: rest) pos) tb) : QE X (.BoolOp .And (a :: b :: rest) pos) (tAndV ta tb) := ⟨pe_and ha.h hb.h⟩
theorem qe_ifExp (hc : QT X c tA) (ha : QE X a ta) (hb : QE X b tb) : QE X (.IfExp c a b pos) (tIf tA ta tb) := ⟨pe_ifExp hc.h ha.h hb.h⟩
theorem qt_cmpR {op : CmpOp} {r : R2} (ho : OpR X (compareOp op) r) (ha : QE X a ta) (hb : QE X b tb) (hm : behindInMarks op b = false) : QT X (.Compare a [op] [b] pos) (tTest (tOp r ta tb)) := ⟨pt_cmpR ho ha.h hb.h hm⟩
theorem qt_chain {op op' : CmpOp} {r r' : R2} (ho : OpR X (compareOp op) r) (ho' : OpR X (compareOp op') r') (ha : QE X a ta) (hb : QE X b tb) (hc : QE X c tc)
    (hm : lastMarks [op, op'] [b, c] = false := by with_unfolding_all rfl) : QT X (.Compare a [op, op'] [b, c] pos) (tTest (tChain r r' ta tb tc)) := ⟨pt_chain ho ho' ha.h hb.h hc.h hm⟩
theorem qt_val (h : QE X e te) (he : isPlainT e = true := by rfl) : QT X e (tB te) := ⟨pt_val h.h (plainT he)⟩
theorem QW.pt (h : QW X e tA) : QT X e tA := ⟨h.h.pt⟩
theorem qw_and1 (ha : QT X a tA) : QW X (.BoolOp .And [a] pos) tA := ⟨pw_and1 ha.h⟩
theorem qw_or1 (ha : QT X a tA) : QW X (.BoolOp .Or [a] pos) tA := ⟨pw_or1 ha.h⟩
theorem qw_and (ha : QT X a tA) (hb : QW X (.BoolOp .And (b :: rest) pos) tB') : QW X (.BoolOp .And (a :: b :: rest) pos) (tAnd tA tB') := ⟨pw_and ha.h hb.h⟩
theorem qw_or (ha : QT X a tA) (hb : QW X (.BoolOp .Or (b :: rest) pos) tB') : QW X (.BoolOp .Or (a :: b :: rest) pos) (tOr tA tB') := ⟨pw_or ha.h hb.h⟩
theorem qt_not (ha : QT X a tA) : QT X (.UnaryOp .Not a pos) (tNot tA) := ⟨pt_not ha.h⟩
theorem qa_nil : QA X [] tNil := ⟨pa_nil⟩
theorem qa_c (ha : QE X e te) (hr : QA X es t) (hs : isStar e = false := by rfl) : QA X (e :: es) (tCons te t) := ⟨pa_c ha.h hr.h hs⟩
theorem qe_tup {x1} (h : QA X es t) : QE X (.Tuple es x1 pos) (tTup t) := ⟨pe_tup h.h⟩
theorem qe_lst (h : QA X es t) : QE X (.List es pos) (tLst t) := ⟨pe_lst h.h⟩
theorem qe_ix {r : R2} (hr : IxR X r) (ha : QE X a ta) (hb : QE X b tb) (hs : isSlc b = false := by rfl) : QE X (.Subscript a b pos) (tOp r ta tb) := ⟨pe_ix hr ha.h hb.h (plainIx hs)⟩
theorem qo_none : QO X none tNoPart := ⟨po_none⟩
theorem qo_some (h : QE X e te) : QO X (some e) (tPart te) := ⟨po_some h.h⟩
theorem qe_slice {lo hi : Option Expr} {tl th : TO} {r : V → Option Int → Option Int → Hp → VK → Prop} (hr : SlR X r) (he : QE X e te) (hl : QO X lo tl) (hu : QO X hi th) : QE X (.Subscript e (.Slice lo hi none p2) pos) (tSl r te tl th) := ⟨pe_slice hr he.h hl.h hu.h⟩
theorem qe_callS {CX : CXT} {k : Nat} {f : Addr} {fd : FuncData} {ps : List Str} {sp : Sp} {dvs : List V} {ds : List Value} {E : XK} (F : FnOk X.prog X.w X.K X.mg X.base CX k f fd ps sp) (hr : Room k X.A) (hg : Gl X x) (hm : X.mg x = some (.ref f)) (hk : PySem.W.keepIn X.K (.ref f) = true) (hb : Binds X.K fd ps ds) (hd : Vals dvs ds) (hx : Passes CX X E)
    (ha : QA X (e :: es) t) (hns : noStars (e :: es) = true := by rfl) (hdb : (x == ("__debug__" : Str)) = false := by decide) : QE X (.Call (.Name x p) (e :: es) [] pos) (tCall sp dvs E t) := ⟨pe_callS F hr hg hm hk hb hd hx ha.h hns hdb⟩
theorem qe_callBS {id : String} {r : List V → Hp → VK → Prop} (hc : CallR X (.builtin id) r) (hg : Gl X x) (hm : X.mg x = none) (hv : bootBuiltins x = some (.builtin id)) (ha : QA X (e :: es) t) (hns : noStars (e :: es) = true := by rfl) (hn : x ≠ "__name__" := by decide) (hdb : (x == ("__debug__" : Str)) = false := by decide) :
    QE X (.Call (.Name x p) (e :: es) [] pos) (tCB r t) := ⟨pe_callBS hc hg hm hv ha.h hns hn hdb⟩
theorem qe_callTyS {T : String} {r : List V → Hp → VK → Prop} (hc : CallR X (.type T) r) (hg : Gl X x) (hm : X.mg x = none) (hv : bootBuiltins x = some (.type T)) (ha : QA X (e :: es) t) (hns : noStars (e :: es) = true := by rfl) (hn : x ≠ "__name__" := by decide) (hdb : (x == ("__debug__" : Str)) = false := by decide) :
    QE X (.Call (.Name x p) (e :: es) [] pos) (tCB r t) := ⟨pe_callTyS hc hg hm hv ha.h hns hn hdb⟩
theorem qifs_nil : QF X [] tNoIf := ⟨pifs_nil⟩
theorem qifs_one (hc : QT X c tA) : QF X [c] tA := ⟨pifs_one hc.h⟩
theorem qi_list {tg : Expr} (hl : QE X e te) : QI X tg e (iList X.K te) := ⟨pi_list hl.h⟩
theorem qi_tup {tg : Expr} (hl : QE X e te) : QI X tg e (iTup X.K te) := ⟨pi_tup hl.h⟩
theorem qi_range1 {tg : Expr} (hg : Gl X "range") (hm : X.mg "range" = none) (ha : QA X [a] t) (hs : isStar a = false := by rfl) : QI X tg (.Call (.Name "range" p) [a] [] pos) (iRng1 t) := ⟨pi_range1 hg hm ha.h (star_cons hs)⟩
theorem qg_name {i : Nat} (hN : X.N.Nodup) (hi : X.N[i]? = some x) (hx : Loc X.env.scope x) (hf : X.fn x = true ∨ X.env.scope.names.lookup x = some .local := by first | exact .inl rfl | exact .inr rfl | assumption) : QG X (.Name x pos) (gName i) := ⟨pg_name hN hi hx hf⟩
theorem qgs_nil : QGs X [] gNil := ⟨pgs_nil⟩
theorem each_cons {e : Expr} {es : List Expr} {env : Env} (h : isStar e = false) : (assignEach (e :: es) env).map (·.2) = assign e env :: (assignEach es env).map (·.2) := by
  cases e <;> first | rfl | cases h
theorem qgs_cons {g : TG} {u : TGs} (h1 : QG X e g) (h2 : QGs X es u) (hs : isStar e = false := by rfl) : QGs X (e :: es) (gCons g u) := ⟨pgs_cons h1.h h2.h (each_cons hs)⟩
theorem qg_tup {k : Nat} {u : TGs} {n : Nat} (hc : X.calm = true) (h : QGs X es u) (hn : (assignEach es X.env).length = n := by rfl) (hst : (assignEach es X.env).findIdx? (·.1) = none := by rfl) : QG X (.Tuple es k pos) (gTup X.K n u) := ⟨pg_tup hc h.h hn hst⟩
theorem qg_sub {s : TSet} (ho : QE X o to) (hi : QE X e ti) (hs : PSet X s)
    (ha : ∀ v, assign (.Subscript o e pos) X.env v = (do
      let ov ← holding [v] (eval o X.env)
      let iv ← holding [v, ov] (eval e X.env)
      standAt pos
      holding [v, ov, iv] (setItem ov iv v)
      release [v, ov, iv] []) := by intro _; rfl) : QG X (.Subscript o e pos) (gSub to ti s) := ⟨pg_sub ho.h hi.h hs ha⟩
theorem qe_comp {N : List Str} {sc : Scope} {own caps : List Str} {ks : List Nat} {elt tg iter : Expr} {ifs : List Expr} {scope : Scope} {wi : TI} {g : TG} {tt : TT}
    (hN : X.N = N) (hsc : X.env.scope = sc) (hc : X.calm = true) (S : CompSc N sc own caps ks scope) (hi : QI X tg iter wi)
    (hg : ∀ cl C s₂ H₂ fp, QG (compCx X (own ++ caps) scope cl C s₂ H₂ fp) tg g)
    (ht : ∀ cl C s₂ H₂ fp, QF (compCx X (own ++ caps) scope cl C s₂ H₂ fp) ifs tt)
    (he : ∀ cl C s₂ H₂ fp, QE (compCx X (own ++ caps) scope cl C s₂ H₂ fp) elt te)
    (hs : ∀ x, foldedSetIterable iter X.env x = pure x := by intro _; rfl) :
    QE X (.ListComp elt [⟨tg, iter, ifs, 0⟩] scope pos) (tComp own.length ks wi g tt te) :=
  ⟨pe_comp hN hsc hc S hi.h (fun cl C s₂ H₂ fp => (hg cl C s₂ H₂ fp).h) (fun cl C s₂ H₂ fp => (ht cl C s₂ H₂ fp).h) (fun cl C s₂ H₂ fp => (he cl C s₂ H₂ fp).h) hs⟩
theorem qe_bm {T : String} {name : Str} {id : String} {r : V → List V → Hp → VK → Prop} {apos cpos : Pos} (pa : PlainAttrs T) (slot : Slot T name id) (hty : typeOf (.builtin id) = pure (.type "method_descriptor")) (hm : MtR X id r) (ho : QE X o to) (ha : QA X (e :: es) t)
    (hst : noStars (e :: es) = true := by rfl) (hbase : attributeBase o name X.env (eval o X.env) = eval o X.env := by rfl)
    (hfew : ((backTo cpos (starEach (e :: es) X.env)).all (fun x => !x.1) && (backToKw cpos (keywordEach [] X.env)).all (fun x => x.1.isSome)
      && decide ((e :: es).length + ([] : List Keyword).length + (if ([] : List Keyword).isEmpty then 0 else 1) < 30)) = true := by rfl)
    (hline : (apos.endLine == cpos.line) = true := by rfl) : QE X (.Call (.Attribute o name apos) (e :: es) [] cpos) (tBM X.K T r to t) :=
  ⟨pe_bm pa slot hty hm ho.h ha.h hbase hfew hline (star_of hst) (star_any (star_tail hst))⟩
end
section
variable {X : Cx} {st : Stmt} {rest sa sb : List Stmt} {t u : TS} {e c : Expr} {te : TE} {tA : TT} {pos pos' : Pos} {x : Str}
theorem qss_nil : QB X [] tNext := ⟨pss_nil⟩
theorem qss_cons (h1 : QS X st t) (h2 : QB X rest u) : QB X (st :: rest) (tSeq t u) := ⟨pss_cons h1.h h2.h⟩
theorem qss_one (h1 : QS X st t) : QB X [st] t := ⟨pss_one h1.h⟩
theorem qs_exprS (he : QE X e te) (hs : isCompr e = false := by rfl) : QS X (.Expr e pos) (tDrop te) := ⟨ps_exprS he.h hs⟩
theorem qs_ret (he : QE X e te) : QS X (.Return (some e) pos) (tRet te) := ⟨ps_ret he.h⟩
theorem qs_if (hc : QT X c tA) (ha : QB X sa t) (hb : QB X sb u) : QS X (.If c sa sb pos) (tIfS tA t u) := ⟨ps_if hc.h ha.h hb.h⟩
theorem qs_never : QS X st tNever := ⟨ps_never⟩
theorem qs_setS {i : Nat} (hN : X.N.Nodup) (hi : X.N[i]? = some x) (hx : Loc X.env.scope x) (he : QE X e te) (hs : isCompr e = false := by rfl) (hf : X.fn x = true ∨ X.env.scope.names.lookup x = some .local := by first | exact .inl rfl | exact .inr rfl | assumption) :
    QS X (.Assign [.Name x pos'] e pos) (tAsg te (gName i)) := ⟨ps_setS hN hi hx he.h hs hf⟩
theorem qs_asg {tg : Expr} {g : TG} (he : QE X e te) (hg : QG X tg g) (hs : isCompr e = false := by rfl) (hw : swappedStores [tg] e X.env = pure none := by rfl)
    (h1 : (assignEach [tg] X.env).map (·.2) = [assign tg X.env] := by rfl) : QS X (.Assign [tg] e pos) (tAsg te g) := ⟨ps_asg he.h hg.h (swaps_no hs) hw h1⟩
theorem qs_for {tg iter : Expr} {wi : TI} {g : TG} (hp : PassesOwn (model X.prog X.w) X.A X.env X.xe) (hc : X.calm = true) (hi : QI X tg iter wi) (hg : QG X tg g) (hb : QB X sa t)
    (hs : ∀ x, foldedSetIterable iter X.env x = pure x := by intro _; rfl) : QS X (.For tg iter sa [] pos) (tFor wi g t) := ⟨ps_for hp hc hi.h hg.h hb.h hs⟩
end
/-! ### the module's written part by its own letter (so that nothing of a comprehension's frame stands in a reading) -/
section
variable {X : Cx} {e : Expr} {es : List Expr} {te : TE} {pos : Pos} (K : PySem.W.Frag) (h : X.K = K)
include h
theorem kc_len : CallR X (.builtin "len") (rLen K) := h ▸ ca_len
theorem kc_tuple : CallR X (.type "tuple") (rTupOf K) := h ▸ ca_tuple
theorem kc_isi : CallR X (.builtin "isinstance") (rIsi K) := h ▸ call_isi
theorem kx_list : IxR X (rIxL K) := h ▸ ix_list
theorem kx_tup : IxR X (rIxT K) := h ▸ ix_tup
theorem ki_list {tg : Expr} (hl : QE X e te) : QI X tg e (iList K te) := h ▸ qi_list hl
theorem ki_tup {tg : Expr} (hl : QE X e te) : QI X tg e (iTup K te) := h ▸ qi_tup hl
theorem kg_tup {k : Nat} {u : TGs} {n : Nat} (hc : X.calm = true) (hg : QGs X es u) (hn : (assignEach es X.env).length = n := by rfl) (hst : (assignEach es X.env).findIdx? (·.1) = none := by rfl) : QG X (.Tuple es k pos) (gTup K n u) := h ▸ qg_tup hc hg hn hst
end
end L2

set_option Elab.async false
set_option linter.all false
set_option maxRecDepth 100000
set_option maxHeartbeats 4000000
namespace L2
open PySem PySem.Spec PyProof.Rows
/-! ### ranges whose ends are of any size -/
section
variable {X : Cx} {tg : Expr}
def rRngB (vs : List V) (H : Hp) (R : It → Hp → Prop) : Prop := ∃ i j : Int, vs = [.int i, .int j] ∧ R (Itr i (j - i).toNat) H
def iRngB (ta : TA) : TI := fun σ H R => ta σ H fun vs H1 => rRngB vs H1 R
end
section
variable {σ : St} {H : Hp}
theorem rd_rngB {ta : TA} {R : It → Hp → Prop} (h : ta σ H fun vs H1 => rRngB vs H1 R) : iRngB ta σ H R := h
theorem rd_rngBR {i j : Int} {R : It → Hp → Prop} (h : R (Itr i (j - i).toNat) H) : rRngB [.int i, .int j] H R := ⟨i, j, rfl, h⟩
end
/-! ### == and != of any data of ints, texts, tuples, lists -/
mutual
inductive Dat (K : PySem.W.Frag) (H : Hp) : V → PyData → Prop
  | non : Dat K H .non .none
  | bl (b : Bool) : Dat K H (.bl b) (.bool b)
  | int (i : Int) : Dat K H (.int i) (.int i)
  | str (x : Str) : Dat K H (.str x) (.str x)
  | tup {a : Addr} {xs : List V} {ds : List PyData} (h : SqT K H a xs) (r : Dats K H xs ds) : Dat K H (.ref a) (.tuple ds)
  | lst {a : Addr} {xs : List V} {ds : List PyData} (h : SqL K H a xs) (r : Dats K H xs ds) : Dat K H (.ref a) (.list ds)
inductive Dats (K : PySem.W.Frag) (H : Hp) : List V → List PyData → Prop
  | nil : Dats K H [] []
  | cons {x : V} {d : PyData} {xs : List V} {ds : List PyData} (h : Dat K H x d) (r : Dats K H xs ds) : Dats K H (x :: xs) (d :: ds)
end
section
variable {X : Cx} {pins : List (Addr × Obj)} {σ : St} {H : Hp} {s : Shared}
mutual
theorem Dat.reads (I : Inv X pins σ H s) : ∀ {x : V} {d : PyData} {u : Value}, Dat X.K H x d → RelV x u → ∃ as, Reads s.heap u d as
  | _, _, u, .non, r => by cases (show u = Value.none from r); exact ⟨_, .none⟩
  | _, _, u, .bl b, r => by cases (show u = Value.bool b from r); exact ⟨_, .bool b⟩
  | _, _, u, .int i, r => by obtain ⟨t, rfl⟩ := (show ∃ t, u = Value.int i t from r); exact ⟨_, .int i t⟩
  | _, _, u, .str x, r => by obtain ⟨t, rfl⟩ := (show ∃ t, u = Value.str x t from r); exact ⟨_, .str x t⟩
  | _, _, u, @Dat.tup _ _ a xs ds h rs, r => by
    cases (show u = Value.ref a from r)
    obtain ⟨its, rv, ⟨o, ho, hc, n, hd⟩, _⟩ := I.tuple h
    obtain ⟨as, ra⟩ := Dats.reads I rs rv
    exact ⟨_, .tuple ho hc hd (by simpa using ra)⟩
  | _, _, u, @Dat.lst _ _ a xs ds h rs, r => by
    cases (show u = Value.ref a from r)
    obtain ⟨its, rv, ⟨o, n, ho, hc, _, hd⟩, _⟩ := I.list h
    obtain ⟨as, ra⟩ := Dats.reads I rs rv
    exact ⟨_, .list ho hc hd (by simpa using ra)⟩
theorem Dats.reads (I : Inv X pins σ H s) : ∀ {xs : List V} {ds : List PyData} {us : List Value}, Dats X.K H xs ds → Vals xs us → ∃ as, ReadsAll s.heap us ds as
  | _, _, _, .nil, .nil => ⟨_, .nil⟩
  | _, _, _, .cons h r, .cons r1 r2 => by
    obtain ⟨as, ra⟩ := Dat.reads I h r1
    obtain ⟨bs, rb⟩ := Dats.reads I r r2
    exact ⟨_, .cons ra rb⟩
end
end
section
variable {X : Cx}
def rEqD (K : PySem.W.Frag) : R2 := fun x y H Q => ∃ d e, Dat K H x d ∧ Dat K H y e ∧ d.canLay0 = true ∧ e.canLay0 = true ∧ d.depth ≤ 60 ∧ Q (.bl (PyData.eqv d e)) H
def rNeD (K : PySem.W.Frag) : R2 := fun x y H Q => ∃ d e, Dat K H x d ∧ Dat K H y e ∧ d.canLay0 = true ∧ e.canLay0 = true ∧ d.depth ≤ 60 ∧ Q (.bl (!PyData.eqv d e)) H
theorem ko_eqD (K : PySem.W.Frag) (hK : X.K = K) (hu : X.A.units + 64 < cLine) : OpR X (compareOp .Eq) (rEqD K) := by
  subst hK
  intro pins s σ H x y v u Q I rx ry h
  obtain ⟨d, e, h1, h2, c1, c2, hd, q⟩ := h
  obtain ⟨as, ra⟩ := h1.reads I rx
  obtain ⟨bs, rb⟩ := h2.reads I ry
  exact SeqAt.compareEq_reads ra rb c1 c2 (by have := Nat.min_le_left d.depth e.depth; omega) ⟨.bl _, H, I, rfl, q⟩
theorem ko_neD (K : PySem.W.Frag) (hK : X.K = K) (hu : X.A.units + 64 < cLine) : OpR X (compareOp .NotEq) (rNeD K) := by
  subst hK
  intro pins s σ H x y v u Q I rx ry h
  obtain ⟨d, e, h1, h2, c1, c2, hd, q⟩ := h
  obtain ⟨as, ra⟩ := h1.reads I rx
  obtain ⟨bs, rb⟩ := h2.reads I ry
  exact SeqAt.compareNe_reads ra rb c1 c2 (by have := Nat.min_le_left d.depth e.depth; omega) ⟨.bl _, H, I, rfl, q⟩
theorem rd_eqD {K : PySem.W.Frag} {H : Hp} {Q : VK} {x y : V} {d e : PyData} (h1 : Dat K H x d) (h2 : Dat K H y e) (c1 : d.canLay0 = true) (c2 : e.canLay0 = true) (hd : d.depth ≤ 60) (h : Q (.bl (PyData.eqv d e)) H) : rEqD K x y H Q := ⟨d, e, h1, h2, c1, c2, hd, h⟩
theorem rd_neD {K : PySem.W.Frag} {H : Hp} {Q : VK} {x y : V} {d e : PyData} (h1 : Dat K H x d) (h2 : Dat K H y e) (c1 : d.canLay0 = true) (c2 : e.canLay0 = true) (hd : d.depth ≤ 60) (h : Q (.bl (!PyData.eqv d e)) H) : rNeD K x y H Q := ⟨d, e, h1, h2, c1, c2, hd, h⟩
theorem rd_bm {K : PySem.W.Frag} {T : String} {r : V → List V → Hp → VK → Prop} {to : TE} {t : TA} {σ : St} {H : Hp} {Q : VK} (h : to σ H fun x H1 => tyV K T x H1 ∧ t σ H1 fun xs H2 => r x xs H2 Q) : tBM K T r to t σ H Q := h
theorem tyL {K : PySem.W.Frag} {H : Hp} {p : Addr} {xs : List V} (h : H p = some (.lst xs)) : tyV K "list" (.ref p) H := .inl ⟨rfl, xs, SqL.of h⟩
/-- a list grows: its heap behind -/
theorem rd_append {H : Hp} {Q : VK} {p : Addr} {xs : List V} {y : V} (h1 : H p = some (.lst xs)) (hz : xs.length < sizeLine) (h : ∀ H2, H2 p = some (.lst (xs ++ [y])) → Kp p H H2 → Q .non H2) : rAppend (.ref p) [y] H Q :=
  ⟨p, xs, y, rfl, rfl, h1, hz, h _ upd_same Kp.upd⟩
end
/-! ### a tuple of pairs of ints -/
def pairD (p : Int × Int) : PyData := .tuple [.int p.1, .int p.2]
def PairsAt (H : Hp) (vs : List V) (l : List (Int × Int)) : Prop := Paired (fun v (p : Int × Int) => ∃ a, v = V.ref a ∧ H a = some (.tup [.int p.1, .int p.2])) vs l
theorem PairsAt.same {H H' : Hp} {vs : List V} {l : List (Int × Int)} (h : PairsAt H vs l) (s : Same H H') : PairsAt H' vs l := Paired.mapP h fun _ _ ⟨a, e, z⟩ => ⟨a, e, s _ _ z⟩
theorem PairsAt.dats {K : PySem.W.Frag} {H : Hp} : ∀ {vs : List V} {l : List (Int × Int)}, PairsAt H vs l → Dats K H vs (l.map pairD)
  | _, _, .nil => .nil
  | _, _, .cons ⟨a, e, z⟩ t => by
    subst e
    exact .cons (.tup (SqT.of z) (.cons (.int _) (.cons (.int _) .nil))) (PairsAt.dats t)
theorem pairs_lay : ∀ l : List (Int × Int), PyData.canLayAll0 (l.map pairD) = true
  | [] => rfl
  | p :: l => by
    show (PyData.canLay0 (pairD p) && PyData.canLayAll0 (l.map pairD)) = true
    rw [pairs_lay l]
    rfl
end L2

set_option Elab.async false
set_option linter.all false
set_option maxRecDepth 100000
set_option maxHeartbeats 4000000

namespace L2
open PySem PySem.Spec PyProof.Rows

/-! ### lists of pairs as tables -/
section
variable {κ : Type} [DecidableEq κ]
def valV (kvs : List (κ × V)) (k : κ) : Option V := (kvs.find? fun kv => decide (kv.1 = k)).map (·.2)
/-- in its place, or at the end -/
def putK (kvs : List (κ × V)) (k : κ) (v : V) : List (κ × V) :=
  if (kvs.any fun kv => decide (kv.1 = k)) = true then kvs.map (fun kv => if kv.1 = k then (kv.1, v) else kv) else kvs ++ [(k, v)]
def dropK (kvs : List (κ × V)) (k : κ) : List (κ × V) := kvs.filter fun kv => decide (kv.1 ≠ k)

theorem valV_pos {p : κ × V} {r : List (κ × V)} {k : κ} (e : p.1 = k) : valV (p :: r) k = some p.2 := by simp [valV, List.find?_cons, e]
theorem valV_neg {p : κ × V} {r : List (κ × V)} {k : κ} (e : ¬ p.1 = k) : valV (p :: r) k = valV r k := by simp [valV, List.find?_cons, e]
theorem valV_any (k : κ) : ∀ kvs : List (κ × V), (kvs.any fun kv => decide (kv.1 = k)) = (valV kvs k).isSome
  | [] => rfl
  | p :: r => by
    rw [List.any_cons]
    by_cases e : p.1 = k
    · simp only [valV_pos e, decide_eq_true e, Bool.true_or, Option.isSome_some]
    · rw [valV_neg e, decide_eq_false e, Bool.false_or]; exact valV_any k r
theorem valV_map (k j : κ) (y : V) : ∀ kvs : List (κ × V), valV (kvs.map fun kv => if kv.1 = k then (kv.1, y) else kv) j = (valV kvs j).map fun x => if j = k then y else x
  | [] => rfl
  | p :: r => by
    have ih := valV_map k j y r
    rw [List.map_cons]
    by_cases h : p.1 = k
    · rw [if_pos h]
      by_cases e : p.1 = j
      · rw [valV_pos (p := (p.1, y)) e, valV_pos e, Option.map_some, if_pos (e.symm.trans h)]
      · rw [valV_neg (p := (p.1, y)) e, valV_neg e, ih]
    · rw [if_neg h]
      by_cases e : p.1 = j
      · rw [valV_pos (p := p) e, valV_pos e, Option.map_some, if_neg (fun z => h (e.trans z))]
      · rw [valV_neg (p := p) e, valV_neg e, ih]
theorem valV_snoc (k j : κ) (y : V) : ∀ kvs : List (κ × V), valV kvs k = none → valV (kvs ++ [(k, y)]) j = if j = k then some y else valV kvs j
  | [], _ => by
    by_cases e : k = j
    · rw [if_pos e.symm]; exact valV_pos (p := (k, y)) e
    · rw [if_neg (fun z => e z.symm)]; exact valV_neg (p := (k, y)) e
  | p :: r, hn => by
    rw [List.cons_append]
    have hk : ¬ p.1 = k := fun z => by rw [valV_pos z] at hn; cases hn
    rw [valV_neg hk] at hn
    have ih := valV_snoc k j y r hn
    by_cases e : p.1 = j
    · rw [valV_pos e, valV_pos e, if_neg (fun z => hk (e.trans z))]
    · rw [valV_neg e, valV_neg e, ih]
theorem valV_put (kvs : List (κ × V)) (k j : κ) (y : V) : valV (putK kvs k y) j = if j = k then some y else valV kvs j := by
  unfold putK
  by_cases a : (kvs.any fun kv => decide (kv.1 = k)) = true
  · rw [if_pos a, valV_map]
    rw [valV_any] at a
    by_cases e : j = k
    · obtain ⟨x, hx⟩ := Option.isSome_iff_exists.mp a
      rw [if_pos e, e, hx, Option.map_some, if_pos rfl]
    · rw [if_neg e]
      cases valV kvs j with
      | none => rfl
      | some x => rw [Option.map_some, if_neg e]
  · rw [if_neg a]
    refine valV_snoc k j y kvs ?_
    rw [valV_any] at a
    cases q : valV kvs k with
    | none => rfl
    | some x => rw [q] at a; exact (a rfl).elim
theorem length_putK (kvs : List (κ × V)) (k : κ) (v : V) : (putK kvs k v).length ≤ kvs.length + 1 := by
  unfold putK
  split
  · rw [List.length_map]; omega
  · rw [List.length_append, List.length_cons, List.length_nil]; omega
theorem RelO.isSome_eq {o : Option V} {u : Option Value} (r : RelO o u) : o.isSome = u.isSome := by
  cases o with
  | none => cases u with
    | none => rfl
    | some _ => exact (show False from r).elim
  | some _ => cases u with
    | none => exact (show False from r).elim
    | some _ => rfl
theorem RelO.getD {o : Option V} {u : Option Value} {d : V} {d' : Value} (r : RelO o u) (rd : RelV d d') : RelV (o.getD d) (u.getD d') := by
  cases o with
  | none => cases u with
    | none => exact rd
    | some _ => exact (show False from r).elim
  | some _ => cases u with
    | none => exact (show False from r).elim
    | some _ => exact r

/-- raw tables of the same keys -/
theorem KV.val {kvs : List (κ × V)} {vs : List (κ × Value)} (r : KV kvs vs) (k : κ) : RelO (valV kvs k) (valueAt vs k) := by
  unfold KV at r
  induction r with
  | nil => exact True.intro
  | @cons p q ps qs h t ih =>
    obtain ⟨h1, h2⟩ := h
    by_cases e : p.1 = k
    · have e' : q.1 = k := h1.symm.trans e
      have b : valueAt (q :: qs) k = some q.2 := by simp [valueAt, List.find?_cons, e']
      rw [valV_pos e, b]; exact h2
    · have e' : ¬ q.1 = k := fun z => e (h1.trans z)
      have b : valueAt (q :: qs) k = valueAt qs k := by simp [valueAt, List.find?_cons, e']
      rw [valV_neg e, b]; exact ih
theorem KV.any {kvs : List (κ × V)} {vs : List (κ × Value)} (r : KV kvs vs) (k : κ) : (kvs.any fun kv => decide (kv.1 = k)) = vs.any fun kv => decide (kv.1 = k) := by
  unfold KV at r
  induction r with
  | nil => rfl
  | cons h t ih => rw [List.any_cons, List.any_cons, ih, h.1]
theorem KV.repl {kvs : List (κ × V)} {vs : List (κ × Value)} (r : KV kvs vs) (k : κ) {y : V} {u : Value} (ry : RelV y u) :
    KV (kvs.map fun kv => if kv.1 = k then (kv.1, y) else kv) (vs.map fun kv => if kv.1 = k then (kv.1, u) else kv) := by
  unfold KV at r ⊢
  induction r with
  | nil => exact .nil
  | @cons p q ps qs h t ih =>
    rw [List.map_cons, List.map_cons]
    refine .cons ?_ ih
    obtain ⟨h1, h2⟩ := h
    by_cases e : p.1 = k
    · rw [if_pos e, if_pos (h1.symm.trans e)]; exact ⟨h1, ry⟩
    · rw [if_neg e, if_neg (fun z => e (h1.trans z))]; exact ⟨h1, h2⟩
theorem KV.put {kvs : List (κ × V)} {vs : List (κ × Value)} (r : KV kvs vs) (k : κ) {y : V} {u : Value} (ry : RelV y u) : KV (putK kvs k y) (stored vs k u) := by
  unfold putK stored
  rw [r.any k]
  by_cases e : (vs.any fun kv => decide (kv.1 = k)) = true
  · rw [if_pos e, if_pos e]; exact r.repl k ry
  · rw [if_neg e, if_neg e]; exact Paired.snoc r ⟨rfl, ry⟩
theorem KV.drop {kvs : List (κ × V)} {vs : List (κ × Value)} (r : KV kvs vs) (k : κ) : KV (dropK kvs k) (without vs k) := by
  unfold KV at r ⊢
  unfold dropK without
  induction r with
  | nil => exact .nil
  | @cons p q ps qs h t ih =>
    obtain ⟨h1, h2⟩ := h
    rw [List.filter_cons, List.filter_cons]
    by_cases e : p.1 = k
    · have a : ¬ decide (p.1 ≠ k) = true := by simp [e]
      have b : ¬ decide (q.1 ≠ k) = true := by simp [h1.symm.trans e]
      rw [if_neg a, if_neg b]; exact ih
    · have e' : ¬ q.1 = k := fun z => e (h1.trans z)
      have a : decide (p.1 ≠ k) = true := by simp [e]
      have b : decide (q.1 ≠ k) = true := by simp [e']
      rw [if_pos a, if_pos b]; exact .cons ⟨h1, h2⟩ ih
theorem KV.keys {kvs : List (κ × V)} {vs : List (κ × Value)} (r : KV kvs vs) : kvs.map (·.1) = vs.map (·.1) := by
  unfold KV at r
  induction r with
  | nil => rfl
  | cons h t ih => rw [List.map_cons, List.map_cons, ih, h.1]
theorem KV.length {kvs : List (κ × V)} {vs : List (κ × Value)} (r : KV kvs vs) : kvs.length = vs.length := Paired.length r
end


/-! ### a tracked dict, its keys ints and texts or tuples of these -/
theorem kV_is {P : Program} {w : World} {k : Key} {u : Value} (r : RelV (kV k) u) : (mixKind P w).is k u = true := by
  cases k with
  | inl i => obtain ⟨t, e⟩ := (show ∃ t, u = Value.int i t from r); subst e; exact mixKind_int P w i t
  | inr x => obtain ⟨t, e⟩ := (show ∃ t, u = Value.str x t from r); subst e; exact mixKind_str P w x t
theorem items_are {P : Program} {w : World} : ∀ {ks : List Key} {us : List Value}, Vals (ks.map kV) us → ItemsAre (mixKind P w) ks us
  | [], _, r => by rw [List.map_nil] at r; cases r; exact .nil
  | k :: ks, _, r => by
    rw [List.map_cons] at r
    cases r with
    | cons h t => exact .cons (kV_is h) (items_are t)

/-- raw entries of a dict with tuple keys -/
abbrev KT (H : Hp) : List (List Key × V) → List (List Key × Addr × Value) → Prop := Paired fun p q => p.1 = q.1 ∧ H q.2.1 = some (.tup (p.1.map kV)) ∧ RelV p.2 q.2.2
theorem KT.val {H : Hp} {kvs : List (List Key × V)} {xs : List (List Key × Addr × Value)} (r : KT H kvs xs) (k : List Key) : RelO (valV kvs k) ((atKey xs k).map (·.2)) := by
  induction r with
  | nil => exact True.intro
  | @cons p q ps qs h t ih =>
    obtain ⟨h1, _, h2⟩ := h
    by_cases e : p.1 = k
    · have e' : q.1 = k := h1.symm.trans e
      have b : atKey (q :: qs) k = some q.2 := by simp [atKey, List.find?_cons, e']
      rw [valV_pos e, b]; exact h2
    · have e' : ¬ q.1 = k := fun z => e (h1.trans z)
      have b : atKey (q :: qs) k = atKey qs k := by simp [atKey, List.find?_cons, e']
      rw [valV_neg e, b]; exact ih
theorem KT.repl {H : Hp} {kvs : List (List Key × V)} {xs : List (List Key × Addr × Value)} (r : KT H kvs xs) (k : List Key) {y : V} {u : Value} (ry : RelV y u) :
    KT H (kvs.map fun kv => if kv.1 = k then (kv.1, y) else kv) (xs.map (putAt k u)) := by
  induction r with
  | nil => exact .nil
  | @cons p q ps qs h t ih =>
    rw [List.map_cons, List.map_cons]
    refine .cons ?_ ih
    obtain ⟨h1, h2, h3⟩ := h
    unfold putAt
    by_cases e : p.1 = k
    · rw [if_pos e, if_pos (h1.symm.trans e)]; exact ⟨h1, h2, ry⟩
    · rw [if_neg e, if_neg (fun z => e (h1.trans z))]; exact ⟨h1, h2, h3⟩
theorem KT.put {H : Hp} {kvs : List (List Key × V)} {xs : List (List Key × Addr × Value)} (r : KT H kvs xs) (k : List Key) {b : Addr} {y : V} {u : Value} (hb : H b = some (.tup (k.map kV))) (ry : RelV y u) :
    KT H (putK kvs k y) (storedH xs k b u) := by
  have e : (kvs.any fun kv => decide (kv.1 = k)) = (atKey xs k).isSome := by
    rw [valV_any, (r.val k).isSome_eq, Option.isSome_map]
  unfold putK storedH
  rw [e]
  by_cases q : (atKey xs k).isSome = true
  · rw [if_pos q, if_pos q]; exact r.repl k ry
  · rw [if_neg q, if_neg q]; exact Paired.snoc r ⟨rfl, hb, ry⟩
theorem KT.keeps {H H' : Hp} {kvs : List (List Key × V)} {xs : List (List Key × Addr × Value)} (r : KT H kvs xs) (ht : ∀ b ys, H b = some (.tup ys) → H' b = some (.tup ys)) : KT H' kvs xs :=
  Paired.mapP r fun _ _ z => ⟨z.1, ht _ _ z.2.1, z.2.2⟩

section
variable {P : Program} {w : World} {H : Hp} {h : Heap} {a : Addr}
theorem rd_of {u : HO} (ok : HOk P w H h) (e : Rd H a u) : ObjOk P w H h a u := e.ok ok
theorem dk_rd {kvs : List (Key × V)} (ok : HOk P w H h) (e : Rd H a (.dK kvs)) : kvs.length ≤ sizeLine ∧ (a == sysModules) = false ∧ ∃ vs, KV kvs vs ∧ h.DictOf (mixKind P w) a vs :=
  show ObjOk P w H h a (.dK kvs) from rd_of ok e
theorem dk_of {kvs : List (Key × V)} (ok : HOk P w H h) (e : H a = some (.dK kvs)) : kvs.length ≤ sizeLine ∧ (a == sysModules) = false ∧ ∃ vs, KV kvs vs ∧ h.DictOf (mixKind P w) a vs := dk_rd ok (.inl e)
/-- a tracked tuple of ints and texts is a key -/
theorem key_of {ks : List Key} (ok : HOk P w H h) (e : H a = some (.tup (ks.map kV))) : (tupleKind (mixKind P w)).is h ks a := by
  obtain ⟨_, its, r, o, h1, h2, n, h3⟩ := (show ObjOk P w H h a (.tup (ks.map kV)) from ok a _ e)
  exact ⟨o, its.toArray, n, h1, h2, h3, by simpa using items_are r⟩
theorem dt_rd {kvs : List (List Key × V)} (ok : HOk P w H h) (e : Rd H a (.dT kvs)) : kvs.length ≤ sizeLine ∧ (a == sysModules) = false ∧
    ∃ xs, KT H kvs xs ∧ h.DictOfH (tupleKind (mixKind P w)) a xs := by
  obtain ⟨z, y, xs, r, o, es, ep, h1, h2, h3, h4, h5⟩ := (show ObjOk P w H h a (.dT kvs) from rd_of ok e)
  refine ⟨z, y, xs, r, o, es, ep, h1, h2, h3, h4, fun x hx => ?_, h5⟩
  have all : ∀ {l : List (List Key × V)} {m : List (List Key × Addr × Value)}, KT H l m → ∀ x ∈ m, (tupleKind (mixKind P w)).is h x.1 x.2.1 := by
    intro l m q
    induction q with
    | nil => intro x hx; exact nomatch hx
    | @cons p q ps qs hq t ih =>
      intro x hx
      rcases List.mem_cons.mp hx with e | hx
      · subst e
        exact key_of ok (by rw [← hq.1]; exact hq.2.1)
      · exact ih x hx
  exact all r x hx
theorem dt_of {kvs : List (List Key × V)} (ok : HOk P w H h) (e : H a = some (.dT kvs)) : kvs.length ≤ sizeLine ∧ (a == sysModules) = false ∧
    ∃ xs, KT H kvs xs ∧ h.DictOfH (tupleKind (mixKind P w)) a xs := dt_rd ok (.inl e)
end

/-- what the dict at a holds at the key y -/
def DGet (H : Hp) (a : Addr) (y : V) (r : Option V) : Prop :=
  (∃ kvs k, Rd H a (.dK kvs) ∧ y = kV k ∧ r = valV kvs k) ∨ ∃ kvs k b, Rd H a (.dT kvs) ∧ y = .ref b ∧ H b = some (.tup (k.map kV)) ∧ r = valV kvs k
/-- the heap behind a[y] = v -/
def DPut (H : Hp) (a : Addr) (y v : V) (H' : Hp) : Prop :=
  (∃ kvs k, H a = some (.dK kvs) ∧ y = kV k ∧ kvs.length < sizeLine ∧ H' = upd H a (.dK (putK kvs k v))) ∨
  ∃ kvs k b, H a = some (.dT kvs) ∧ y = .ref b ∧ H b = some (.tup (k.map kV)) ∧ kvs.length < sizeLine ∧ H' = upd H a (.dT (putK kvs k v))
theorem DGet.k {H : Hp} {a : Addr} {kvs : List (Key × V)} {k : Key} (e : H a = some (.dK kvs)) : DGet H a (kV k) (valV kvs k) := .inl ⟨kvs, k, .inl e, rfl, rfl⟩
theorem DGet.t {H : Hp} {a b : Addr} {kvs : List (List Key × V)} {k : List Key} (e : H a = some (.dT kvs)) (eb : H b = some (.tup (k.map kV))) : DGet H a (.ref b) (valV kvs k) := .inr ⟨kvs, k, b, .inl e, rfl, eb, rfl⟩
theorem DPut.k {H : Hp} {a : Addr} {kvs : List (Key × V)} {k : Key} {v : V} (e : H a = some (.dK kvs)) (hl : kvs.length < sizeLine) : DPut H a (kV k) v (upd H a (.dK (putK kvs k v))) := .inl ⟨kvs, k, e, rfl, hl, rfl⟩
theorem DPut.t {H : Hp} {a b : Addr} {kvs : List (List Key × V)} {k : List Key} {v : V} (e : H a = some (.dT kvs)) (eb : H b = some (.tup (k.map kV))) (hl : kvs.length < sizeLine) :
    DPut H a (.ref b) v (upd H a (.dT (putK kvs k v))) := .inr ⟨kvs, k, b, e, rfl, eb, hl, rfl⟩


section
variable {X : Cx} {pins : List (Addr × Obj)} {σ : St} {H : Hp} {s : Shared} {a : Addr} {y v : V} {u r : Value} {o : Option V} {A : Around} {E : Value → Shared → Prop}

theorem Inv.big (I : Inv X pins σ H s) : sysModules < s.heap.objs.size := by
  have h : mainGlobals < s.heap.objs.size := (I.mod.glob.keeps I.bk).lt
  exact Nat.lt_trans (by decide) h

/-- d[y], there -/
theorem d_getItem {Q : Value → Shared → Prop} (hu : A.units + 1 < cLine) (I : Inv X pins σ H s) (g : DGet H a y (some v)) (ry : RelV y u) (h : ∀ w' s', Inv X pins σ H s' → RelV v w' → Q w' s') :
    wpAny (model X.prog X.w) A (getItem (.ref a) u) Q E s := by
  rcases g with ⟨kvs, k, e, ey, l⟩ | ⟨kvs, k, b, e, ey, eb, l⟩
  · subst ey
    obtain ⟨z, hd, vs, rel, dd⟩ := dk_rd I.hok e
    obtain ⟨w', hw, rw'⟩ := RelO.some_of (v := v) (o := valueAt vs k) (by rw [l]; exact rel.val k)
    exact wpAny_getItem_of (kV_is ry) dd.mapOf hw (h w' _ (I.tok _) rw')
  · subst ey
    cases (show u = Value.ref b from ry)
    obtain ⟨z, hd, xs, rel, dd⟩ := dt_rd I.hok e
    obtain ⟨w', hw, rw'⟩ := RelO.some_of (v := v) (o := (atKey xs k).map (·.2)) (by rw [l]; exact rel.val k)
    obtain ⟨p, hp, hp2⟩ := Option.map_eq_some_iff.mp hw
    refine wpAny_getItem_heap (tupleKind_room_in1 hu) (key_of I.hok eb) dd hp ?_
    rw [hp2]
    exact h w' _ (I.tok _) rw'
/-- a dict's object is replaced -/
theorem d_write {h' : Heap} {t' : Nat} {ob : HO} (I : Inv X pins σ H s) (mu : Mut (H a)) (hs : Heap.SameBut a s.heap h') (he : ∃ q, h'.get? a = some q) (new : ObjOk X.prog X.w (upd H a ob) h' a ob) :
    Inv X pins σ (upd H a ob) { s with heap := h', toks := t' } :=
  I.write (x := a) (e := a) mu (.inl rfl) (fun b q hb z => (hs.2 b hb).trans z) he new
theorem dk_new {P : Program} {w : World} {H' : Hp} {h' : Heap} {kvs : List (Key × V)} {vs : List (Key × Value)} (z : kvs.length ≤ sizeLine) (hd : (a == sysModules) = false) (rel : KV kvs vs) (dd : h'.DictOf (mixKind P w) a vs) :
    ObjOk P w H' h' a (.dK kvs) := ⟨z, hd, vs, rel, dd⟩
/-- d[y] = v -/
theorem d_setItem {H' : Hp} {Q : Unit → Shared → Prop} (hu : A.units + 1 < cLine) (I : Inv X pins σ H s) (g : DPut H a y v H') (ry : RelV y u) (rv : RelV v r) (h : ∀ s', Inv X pins σ H' s' → Q () s') :
    wpAny (model X.prog X.w) A (setItem (.ref a) u r) Q E s := by
  rcases g with ⟨kvs, k, e, ey, l, eH⟩ | ⟨kvs, k, b, e, ey, eb, l, eH⟩
  · subst ey eH
    obtain ⟨z, hd, vs, rel, dd⟩ := dk_of I.hok e
    have hz : vs.length ≤ sizeLine := by rw [← rel.length]; exact z
    have hl : (putK kvs k v).length ≤ sizeLine := by have := length_putK kvs k v; omega
    refine wpAny_setItem_pairs (hsz := hz) (kV_is ry) dd fun h' dd' hs => h _ ?_
    have he : ∃ q, h'.get? a = some q := let ⟨q, _, _, hq, _⟩ := dd'; ⟨q, hq⟩
    exact d_write I (by rw [e]; exact True.intro) hs he (dk_new hl hd (rel.put k rv) dd')
  · subst ey eH
    cases (show u = Value.ref b from ry)
    obtain ⟨z, hd, xs, rel, dd⟩ := dt_of I.hok e
    have hz : xs.length ≤ sizeLine := by rw [← Paired.length rel]; exact z
    have hl : (putK kvs k v).length ≤ sizeLine := by have := length_putK kvs k v; omega
    refine wpAny_setItem_heap (hsz := hz) (tupleKind_room_in1 hu) (key_of I.hok eb) dd fun h' dd' hs => h _ ?_
    obtain ⟨q, es, ep, hq, h2, h3, h4, _, h5⟩ := dd'
    refine d_write I (by rw [e]; exact True.intro) hs ⟨q, hq⟩ ⟨hl, hd, _, (rel.put k eb rv).keeps fun c ys ec => ?_, q, es, ep, hq, h2, h3, h4, h5⟩
    rw [upd_ne (ne_of ec e (fun z => nomatch z))]
    exact ec
end

section
variable {X : Cx} {pins : List (Addr × Obj)} {σ : St} {H : Hp} {s : Shared} {a : Addr} {kvs : List (Key × V)} {k : Key} {u : Value} {A : Around} {E : Value → Shared → Prop}
end


/-! ### readings and rules -/
/-- the element of a subscription, not a slice -/
def NoSl (i : Expr) : Prop := ∀ ov iv, subscripted i false ov iv = operate [ov, iv] (getItem ov iv)
theorem subD_of {prog : Program} {w : World} {A : Around} {E : Value → Shared → Prop} {s : Shared} {env : Env} {value slice : Expr} {pos : Pos} {T id : String} {Q : Value → Shared → Prop}
    (hl : typeLookup (.type T) "__getitem__" = pure (some (.builtin id))) (hs : NoSl slice)
    (h : wpAny (model prog w) A (eval value env) (fun o s₁ => wpAny (model prog w) A (eval slice env) (fun i s₂ => s₂.TypeIs o T ∧ wpAny (model prog w) A (getItem o i) Q E s₂) E s₁) E s) :
    wpAny (model prog w) A (eval (.Subscript value slice pos) env) Q E s := by
  refine Subscript_ (wpAny_mono h (fun o s₁ h₁ => wpAny_mono h₁ (fun i s₂ h₂ => ?_) fun _ _ x => x) fun _ _ x => x)
  obtain ⟨hT, h₂⟩ := h₂
  unfold subscriptTail
  refine wpAny_bind ?_
  rw [getitemInPython_of_ne hT.not_modules]
  refine wpAny_bind (wpAny_specialOf hT hl ?_)
  have fin : wpAny (model prog w) A (subscripted slice false o i) (fun r s₃ => wpAny (model prog w) A (letTemporaryGo value o r >>= fun _ => pure r) Q E s₃) E s₂ := by
    rw [hs o i]
    exact wpAny_operating (wpAny_mono h₂ (fun r s₃ h₃ => wpAny_bind (wpAny_letTemporaryGo (wpAny_pure h₃))) fun _ _ x => x)
  first
    | exact wpAny_pure (wpAny_bind fin)
    | exact wpAny_bind (wpAny_pure (wpAny_bind fin))
    | exact wpAny_bind fin

theorem dict_typeIs {X : Cx} {pins : List (Addr × Obj)} {σ : St} {H : Hp} {s : Shared} {a : Addr} {y : V} {o : Option V} (I : Inv X pins σ H s) (g : DGet H a y o) : s.TypeIs (.ref a) "dict" := by
  rcases g with ⟨kvs, k, e, _, _⟩ | ⟨kvs, k, b, e, _, _, _⟩
  · obtain ⟨_, _, vs, _, dd⟩ := dk_rd I.hok e
    exact dd.typeIs
  · obtain ⟨_, _, xs, _, dd⟩ := dt_rd I.hok e
    exact dd.typeIs
theorem dict_noDict {X : Cx} {pins : List (Addr × Obj)} {σ : St} {H : Hp} {s : Shared} {a : Addr} {y : V} {o : Option V} (I : Inv X pins σ H s) (g : DGet H a y o) :
    ∀ b, Value.ref a = .ref b → ∃ ob, s.heap.get? b = some ob ∧ ob.dict = none := fun b q => by
  cases q
  rcases g with ⟨kvs, k, e, _, _⟩ | ⟨kvs, k, b, e, _, _, _⟩
  · obtain ⟨_, _, vs, _, ob, _, _, h1, h2, _⟩ := dk_rd I.hok e
    exact ⟨ob, h1, h2.2.1⟩
  · obtain ⟨_, _, xs, _, ob, _, _, h1, h2, _⟩ := dt_rd I.hok e
    exact ⟨ob, h1, h2.2.1⟩

/-- d[y] -/
def tDGet (td ty : TE) : TE := fun σ H Q => td σ H fun x H1 => ty σ H1 fun y H2 => ∃ a v, x = .ref a ∧ DGet H2 a y (some v) ∧ Q v H2
/-- d[y] = v -/
def sDPut (td ty tv : TE) : TS := fun D σ H => tv σ H fun v H1 => td σ H1 fun x H2 => ty σ H2 fun y H3 => ∃ a H4, x = .ref a ∧ DPut H3 a y v H4 ∧ D.nx σ H4
section
variable {X : Cx} {o i e value : Expr} {pos pos' tpos : Pos} {td ty tv : TE}
theorem pe_dget (hu : X.A.units + 1 < cLine) (ho : PE X o td) (hi : PE X i ty) (hs : NoSl i) : PE X (.Subscript o i pos) (tDGet td ty) := by
  intro pins s σ H Q I h
  refine subD_of PySem.F.slot_dict_getitem.lookup hs (thn (ho pins s σ H _ I h) fun u s1 ⟨x, H1, I1, rx, q1⟩ => thn (hi pins s1 σ H1 _ I1 q1) fun iv s2 ⟨y, H2, I2, ry, a, v, ex, g, q2⟩ => ?_)
  subst ex
  obtain rfl : u = Value.ref a := rx
  exact ⟨dict_typeIs I2 g, d_getItem hu I2 g ry fun w' s3 I3 rw' => ⟨v, H2, I3, rw', q2⟩⟩
theorem ps_dput (hu : X.A.units + 1 < cLine) (ho : PE X o td) (hi : PE X i ty) (hv : PE X value tv) (hs : swapsWith value (some (.Subscript o i pos')) pos.line X.env = pure false) :
    PS X (.Assign [.Subscript o i pos'] value pos) (sDPut td ty tv) := by
  intro pins s σ H D I h
  refine wpAny_Assign_Subscript (thn (hv pins s σ H _ I h) fun r s1 ⟨v, H1, I1, rv, q1⟩ => thn (ho pins s1 σ H1 _ I1 q1) fun u s2 ⟨x, H2, I2, rx, q2⟩ => thn (hi pins s2 σ H2 _ I2 q2) fun iv s3 ⟨y, H3, I3, ry, a, H4, ex, g, q3⟩ => ?_) hs
  subst ex
  obtain rfl : u = Value.ref a := rx
  exact d_setItem hu I3 g ry rv fun s4 I4 => ⟨σ, H4, I4, q3⟩
end


/-! ### displays -/
theorem dk_empty {P : Program} {w : World} {H : Hp} (h : Heap) (hb : sysModules < h.objs.size) : ObjOk P w H (h.push { cls := .type "dict", data := .dict #[] }) h.objs.size (.dK []) :=
  ⟨Nat.zero_le _, beq_eq_false_iff_ne.mpr (Ne.symm (Nat.ne_of_lt hb)), [], .nil, Heap.DictOf.new h⟩
/-- {}, to be a dict of the kind that is wanted -/
def tDNewK : TE := fun _ H Q => ∀ p, H p = none → Q (.ref p) (upd H p (.dK []))
section
variable {X : Cx} {pos : Pos}
theorem pe_dnewK : PE X (.Dict [] [] pos) tDNewK := fun pins s σ H Q I h =>
  wpAny_Dict_empty ⟨.ref s.heap.objs.size, _, I.laid (a := s.heap.objs.size) (o := .dK []) (t' := s.toks) (fun _ _ q => Heap.get?_push_of_some _ q) (Nat.le_refl _) (dk_empty s.heap I.big), rfl, h _ (I.hok.fresh (Nat.le_refl _))⟩
end

/-! ### methods -/
section
variable {X : Cx} {pins : List (Addr × Obj)} {σ : St} {H : Hp} {s : Shared} {a : Addr} {y d : V} {u r : Value} {o : Option V} {A : Around} {E : Value → Shared → Prop}
end

section
variable {X : Cx} {o e f : Expr} {apos cpos : Pos} {td ty tx : TE}
end

/-! ### dict(d): a copy -/
section
variable {X : Cx} {pins : List (Addr × Obj)} {σ : St} {H : Hp} {s : Shared} {a : Addr} {kvs : List (Key × V)} {A : Around} {E : Value → Shared → Prop}
end


section
variable {X : Cx} {pins : List (Addr × Obj)} {σ : St} {H : Hp} {s : Shared} {a : Addr} {y : V} {u : Value} {A : Around} {E : Value → Shared → Prop}
end
end L2

set_option Elab.async false
set_option linter.all false
set_option maxRecDepth 100000
set_option maxHeartbeats 4000000
namespace L2
open PySem PySem.Spec PyProof.Rows
/-! ### dict(a list of pairs) -/
section
variable {prog : Program} {w : World} {A : Around} {R : Result → Shared → Prop} {I : Addr} {fp wr : List Addr} {n : Nat} {P : Nat → Value → Prop} {St : Nat → Heap → Prop} {κ : Type} [DecidableEq κ] {knd : KeyKind prog w κ}
end
/-- the pairs of a list, as a dict's -/
def PrAt (H : Hp) (vs : List V) (prs : List (Key × V)) : Prop := Paired (fun v (p : Key × V) => ∃ a, v = V.ref a ∧ H a = some (.tup [kV p.1, p.2])) vs prs
end L2

set_option Elab.async false
set_option linter.all false
set_option maxRecDepth 100000
set_option maxHeartbeats 4000000
namespace L2
open PySem PySem.Spec PyProof.Rows
section
variable {prog : Program} {w : World} {A : Around} {E : Value → Shared → Prop} {s : Shared} {κ : Type} [DecidableEq κ] {knd : KeyKind prog w κ}
theorem collect_dict {d : Addr} {kvs : List (κ × Value)} {ep : Nat} {Q : List Value → Shared → Prop} (hh : A.handled = none) (hd : (d == sysModules) = false) (hm : s.heap.DictAt knd d kvs ep) (hn : kvs.length ≤ sizeLine)
    (hQ : ∀ s' acc, (∀ b o, s.heap.get? b = some o → s'.heap.get? b = some o) → s'.gens = s.gens → s'.drawn = s.drawn → s'.os = s.os → s.heap.objs.size < s'.heap.objs.size → ItemsOf (fun i v => ∃ k x, kvs[i]? = some (k, x) ∧ knd.is k v = true) acc kvs.length → Q acc.toList s') :
    wpAny (model prog w) A (collect (.ref d)) Q E s := by
  have hdl : d < s.heap.objs.size := let ⟨_, _, ho, _⟩ := hm; Heap.lt_size ho
  unfold collect
  refine wpAny_bind (wpAny_runValue (codeAny_builtin F.entry_proto_collect ?_))
  rw [Around.under_plainId F.plain_proto_collect _]
  show wpAny _ A.in1 (newList [] >>= fun l => again (.builtin "list.__iadd__" ⟨[l, .ref d], []⟩)) _ _ s
  refine wpAny_bind (wpAny_newObj_type ?_)
  refine wpAny_pure ⟨plainId_quiet F.plain_list_iadd _, codeAny_builtin F.entry_list_iadd ?_⟩
  rw [Around.under_plainId F.plain_list_iadd _]
  generalize hH : s.heap.push { cls := .type "list", data := .seq ([] : List Value).toArray } = H
  have hHs : H.objs.size = s.heap.objs.size + 1 := by rw [← hH, Heap.size_push]
  have hm1 : H.DictAt knd d kvs ep := hm.at' fun o e => hH ▸ Heap.get?_push_of_some _ e
  have hT1 : (⟨H, s.gens, s.drawn, s.toks, s.os⟩ : Shared).TypeIs (.ref d) "dict" := hm1.dictOf.typeIs
  show wpAny _ A.in1 (Builtin.List.listExtendWith (.ref s.heap.objs.size) (.ref d) (.ref s.heap.objs.size)) _ _ (⟨H, s.gens, s.drawn, s.toks, s.os⟩ : Shared)
  unfold Builtin.List.listExtendWith
  refine wpAny_bind (wpAny_typeOf hT1 ?_)
  have h1 : Builtin.List.listSameRef (.ref s.heap.objs.size) (.ref d) = false := by
    simp only [Builtin.List.listSameRef]
    exact beq_eq_false_iff_ne.mpr (Nat.ne_of_gt hdl)
  have h2 : (Value.type "dict" == Value.type "list") = false := by decide
  have h3 : (Value.type "dict" == Value.type "tuple") = false := by decide
  simp only [h1, h2, h3, Bool.or_false, Bool.false_eq_true, if_false]
  refine wpAny_bind (wpAny_pyIter_dict hd hm1 ?_)
  generalize hO : ({ cls := .type "dict_keyiterator", data := .fields #[.ref d, .int 0 0, .int kvs.length 0, .int ep 0] } : Obj) = O
  have hm2 : (H.push O).DictAt knd d kvs ep := hm1.at' fun o e => Heap.get?_push_of_some _ e
  have hT2 : (⟨H.push O, s.gens, s.drawn, s.toks, s.os⟩ : Shared).TypeIs (.ref d) "dict" := hm2.dictOf.typeIs
  refine wpAny_bind (wpAny_holding ?_)
  unfold Builtin.List.listLengthHint
  refine wpAny_bind (wpAny_specialOf hT2 PySem.F.slot_dict_len.lookup ?_)
  wp_delta
  refine wpAny_bind (wpAny_isInstance (b := true) hT2 (by rw [isSubtype_type]; kernel_rfl) ?_)
  show wpAny _ A.in1 (typeOf (Value.ref d) >>= _) _ _ _
  refine wpAny_bind (wpAny_typeOf hT2 ?_)
  refine wpAny_pure ?_
  show wpAny _ A.in1 (rule "list.extend.makes-room" >>= fun _ => Builtin.List.listTouch (.ref s.heap.objs.size) >>= fun _ =>
    again (.builtin "list.extend.loop" ⟨[.ref s.heap.objs.size, .ref H.objs.size, .ref s.heap.objs.size], []⟩)) _ _ _
  refine wpAny_bind (wpAny_rule ?_)
  have hS₁ : (H.push O).get? s.heap.objs.size = some { cls := .type "list", data := .seq ([] : List Value).toArray } := Heap.get?_push_of_some _ (hH ▸ Heap.get?_push_size _ rfl)
  refine wpAny_bind ?_
  show wpAny _ A.in1 (updateSeq s.heap.objs.size (·.push .none) >>= fun _ => updateSeq s.heap.objs.size (·.pop)) _ _ _
  refine wpAny_bind (wpAny_updateSeq hS₁ rfl ?_)
  have hS₂ := Heap.get?_update_self (Obj.mapSeq (·.push Value.none)) hS₁ rfl
  refine wpAny_updateSeq hS₂ rfl ?_
  have hS₃ := Heap.get?_update_self (Obj.mapSeq (·.pop)) hS₂ rfl
  have oth : ∀ b o, b ≠ s.heap.objs.size → (H.push O).get? b = some o → (((H.push O).update s.heap.objs.size (Obj.mapSeq (·.push Value.none))).update s.heap.objs.size (Obj.mapSeq (·.pop))).get? b = some o :=
    fun b o hb e => (Heap.get?_update_other _ _ (Ne.symm hb)).trans ((Heap.get?_update_other _ _ (Ne.symm hb)).trans e)
  have hdH : d < H.objs.size := by rw [hHs]; exact Nat.lt_succ_of_lt hdl
  have hHne : H.objs.size ≠ s.heap.objs.size := by rw [hHs]; exact Nat.succ_ne_self _
  have hSf : s.heap.objs.size ∉ [H.objs.size, d] := fun z => by
    simp only [List.mem_cons, List.not_mem_nil, or_false] at z
    rcases z with z | z
    · exact hHne z.symm
    · exact Nat.ne_of_gt hdl z
  have W := (Walks.dictKeys (knd := knd) (A := A.in1) hh H.objs.size d (Nat.ne_of_lt hdH) kvs ep).toS
  refine wpAny_pure ⟨plainId_quiet F.plain_extend_loop _, codeAny_extend_loopS (A := A) W hn _ hSf _ kvs.length 0 _ _ _ rfl (Nat.zero_le _) ⟨?_, ?_⟩ hS₃ (ItemsOf.nil _) fun s' acc' c' hmv hS' hacc => ?_⟩
  · exact ⟨_, oth _ _ hHne (Heap.get?_push_size _ (by rw [← hO]; rfl)), by rw [← hO], by rw [← hO]; rfl⟩
  · exact hm2.at' fun o e => oth _ _ (Nat.ne_of_lt hdl) e
  · show wpAny _ A (load s.heap.objs.size >>= _) _ _ s'
    refine wpAny_bind (wpAny_load hS' ?_)
    refine wpAny_pure (hQ s' acc' (fun b ob e => hmv.heap b ob (fun hb => ?_) (oth _ _ (Nat.ne_of_lt (Heap.lt_size e)) (Heap.get?_push_of_some _ (hH ▸ Heap.get?_push_of_some _ e)))) hmv.gens hmv.drawn hmv.os (Heap.lt_size hS') hacc)
    have hlt := Heap.lt_size e
    simp only [List.mem_cons, List.not_mem_nil, or_false] at hb
    rcases hb with h | h
    · exact Nat.ne_of_lt hlt h
    · rw [h, hHs] at hlt; exact absurd hlt (Nat.not_lt.mpr (Nat.le_succ _))
theorem sorted_dict {d : Addr} {kvs : List (κ × Value)} {ep : Nat} {Q : Value → Shared → Prop} (hh : A.handled = none) (hd : (d == sysModules) = false) (hm : s.heap.DictAt knd d kvs ep) (h64 : kvs.length < 64)
    (hI : ∀ acc : Array Value, ItemsOf (fun i v => ∃ k x, kvs[i]? = some (k, x) ∧ knd.is k v = true) acc kvs.length → ∃ ns, IntsAre acc.toList ns ∧ ∀ (s' : Shared) (l : Addr) (out : Array Value) (ns' : List Int) (e : Nat), s.heap.objs.size ≤ l → (∀ b o, s.heap.get? b = some o → s'.heap.get? b = some o) → s'.gens = s.gens → s'.drawn = s.drawn → s'.os = s.os →
      s'.heap.get? l = some (seqObj "list" out e) → out.size = kvs.length → IntsAre out.toList ns' → ns'.Perm ns → ns'.Pairwise (· ≤ ·) → Q (.ref l) s') :
    wpAny (model prog w) A (call (.builtin "sorted") [.ref d]) Q E s := by
  refine Calls.call_function_entry kind_sorted plain_sorted entry_sorted (args_sorted1 _) ?_
  unfold Builtin.«sorted»
  refine wpAny_bind (m := checkCount "sorted" 1 1 _) (wpAny_pure ?_)
  refine wpAny_bind (collect_dict (knd := knd) hh hd hm (by rw [sizeLine_eq]; omega) fun s1 acc hk e1 e2 e3 hlt hacc => ?_)
  obtain ⟨ns, hns, hQ⟩ := hI acc hacc
  refine wpAny_bind (wpAny_newList (hsz := by rw [Array.length_toList, hacc.1, sizeLine_eq]; omega) ?_)
  have hoL : (s1.heap.push (seqObj "list" acc.toList.toArray 0)).get? s1.heap.objs.size = some (seqObj "list" acc.toList.toArray 0) := Heap.get?_push_size _ rfl
  show wpAny _ _ _ _ _ { s1 with heap := s1.heap.push (seqObj "list" acc.toList.toArray 0) }
  refine wpAny_bind (wpAny_holding (wpAny_call_entry slot_list_sort ⟨_, hoL, rfl⟩ entry_list_sort (list_sort_tree hoL hns (by rw [Array.length_toList, hacc.1]; exact h64) fun out ns' a1 a2 a3 => ⟨_, rfl, ?_⟩) (args_list_sort _)))
  refine wpAny_pure ⟨_, rfl, ?_⟩
  obtain ⟨e, he⟩ := sortedHeap_at (out := out) hoL
  have hle : s.heap.objs.size ≤ s1.heap.objs.size := Nat.le_of_lt hlt
  refine hQ _ _ out ns' e hle (fun b o eb => ?_) e1 e2 e3 he ?_ a1 a2 a3
  · have hb := Heap.lt_size (hk _ _ eb)
    exact (sortedHeap_old (Nat.ne_of_lt hb) (by rw [Heap.size_push]; exact Nat.lt_succ_of_lt hb)).trans (Heap.get?_push_of_some _ (hk _ _ eb))
  · have l1 := IntsAre.length a1
    have l2 := IntsAre.length hns
    have l3 := a2.length_eq
    have l4 := hacc.1
    simp only [Array.length_toList] at l1 l2
    omega
end
theorem ints_keys : ∀ (vs : List (Key × Value)) (ns : List Int) (l : List Value), vs.map (·.1) = ns.map Sum.inl → l.length = vs.length → (∀ (j : Nat) (v : Value), l[j]? = some v → ∃ k x, vs[j]? = some (k, x) ∧ keyIs k v = true) → IntsAre l ns
  | [], [], [], _, _, _ => .nil
  | [], [], _ :: _, _, h, _ => by simp at h
  | [], _ :: _, _, h, _, _ => by simp at h
  | _ :: _, [], _, h, _, _ => by simp at h
  | _ :: _, _ :: _, [], _, h, _ => by simp at h
  | (k, x) :: vs, n :: ns, v :: l, h1, h2, h3 => by
    simp only [List.map_cons, List.cons.injEq] at h1
    obtain ⟨rfl, h1⟩ := h1
    obtain ⟨k', x', e, hk⟩ := h3 0 v rfl
    simp only [List.getElem?_cons_zero, Option.some.injEq, Prod.mk.injEq] at e
    obtain ⟨rfl, rfl⟩ := e
    rcases keyIs_shape hk with ⟨i, t, e1, e2⟩ | ⟨y, t, e1, e2⟩
    · cases e1; cases e2
      refine .cons _ _ (ints_keys vs ns l h1 (by simpa using h2) fun j v e => ?_)
      have := h3 (j + 1) v (by simpa using e)
      simpa using this
    · cases e1
theorem KV.keysEq {κ : Type} : ∀ {kvs : List (κ × V)} {us : List (κ × Value)}, KV kvs us → us.map (·.1) = kvs.map (·.1)
  | _, _, .nil => rfl
  | _, _, .cons h t => by rw [List.map_cons, List.map_cons, h.1, KV.keysEq t]
theorem IntsAre.vals : ∀ {vs : List Value} {ns : List Int}, IntsAre vs ns → Vals (ns.map V.int) vs
  | _, _, .nil => .nil
  | _, _, .cons _ t h => .cons ⟨t, rfl⟩ (IntsAre.vals h)
/-- sorted(a dict with ints for keys) -/
def rSortedD : List V → Hp → VK → Prop := fun xs H Q => ∃ (p : Addr) (kvs : List (Key × V)) (ns : List Int), xs = [.ref p] ∧ Rd H p (.dK kvs) ∧ kvs.map (·.1) = ns.map Sum.inl ∧ kvs.length < 64 ∧ ∀ (l : Addr) (ns' : List Int), H l = none → ns'.Perm ns → ns'.Pairwise (· ≤ ·) → Q (.ref l) (upd H l (.lst (ns'.map V.int)))
theorem kc_sortedD {X : Cx} (hc : X.calm = true) : CallR X (.builtin "sorted") rSortedD := by
  intro pins s σ H xs us Q I r h
  obtain ⟨p, kvs, ns, rfl, hd, hns, h64, q⟩ := h
  obtain ⟨u, rfl, ru⟩ := r.one
  cases ru
  obtain ⟨z, hd, vs, rel, dd⟩ := dk_rd I.hok hd
  obtain ⟨ep, dd⟩ := dd.dictAt
  have hlen : vs.length = kvs.length := rel.length.symm
  refine sorted_dict (I.ok.hd hc) hd dd (by rw [hlen]; exact h64) fun acc hacc => ⟨ns, ?_, fun s' l out ns' e hl hk e1 e2 e3 he ho a1 a2 a3 => ?_⟩
  · exact ints_keys vs ns acc.toList (by rw [KV.keysEq rel]; exact hns) (by rw [Array.length_toList]; exact hacc.1) fun j v e => hacc.2 j v (by simpa using e)
  · obtain ⟨h', g', d', tk, os'⟩ := s'
    simp only at e1 e2 e3
    subst e1 e2 e3
    refine ⟨.ref l, upd H l (.lst (ns'.map V.int)), I.laid (t' := tk) hk hl ?_, rfl, q l ns' (I.hok.fresh hl) a2 a3⟩
    refine ⟨?_, out.toList, e, IntsAre.vals a1, he⟩
    have l1 := a2.length_eq
    have l2 := congrArg List.length hns
    simp only [List.length_map] at l2 ⊢
    rw [sizeLine_eq]
    omega
end L2

set_option Elab.async false
set_option linter.all false
set_option maxRecDepth 100000
set_option maxHeartbeats 4000000
namespace L2
open PySem PySem.Spec PyProof.Rows
/-! ### unpacking a list -/
section
variable {prog : Program} {w : World} {A : Around} {E : Value → Shared → Prop} {I : Addr} {fp wr : List Addr} {n : Nat} {P : Nat → Value → Prop} {St : Nat → Heap → Prop}
end
section
variable {X : Cx} {pos : Pos}
end
/-! ### dicts, by their reading -/
section
variable {X : Cx} {o i value : Expr} {pos pos' : Pos} {td ty tv : TE}
theorem noSl {b : Expr} (h : isSlc b = false) : NoSl b := by
  intro ov iv
  cases b <;> first | rfl | cases h
theorem qe_dget (hu : X.A.units + 1 < cLine) (ho : QE X o td) (hi : QE X i ty) (hs : isSlc i = false := by rfl) : QE X (.Subscript o i pos) (tDGet td ty) := ⟨pe_dget hu ho.h hi.h (noSl hs)⟩
theorem qs_dput (hu : X.A.units + 1 < cLine) (hv : QE X value tv) (ho : QE X o td) (hi : QE X i ty) (hs : isCompr value = false := by rfl) : QS X (.Assign [.Subscript o i pos'] value pos) (sDPut td ty tv) := ⟨ps_dput hu ho.h hi.h hv.h (swaps_no hs)⟩
theorem qe_dnewK : QE X (.Dict [] [] pos) tDNewK := ⟨pe_dnewK⟩
end
section
variable {σ : St} {H : Hp} {Q : VK} {D : Ends}
def rDGet (x y : V) (H : Hp) (Q : VK) : Prop := ∃ a v, x = .ref a ∧ DGet H a y (some v) ∧ Q v H
theorem rd_dget0 {td ty : TE} (h : td σ H fun x H1 => ty σ H1 fun y H2 => rDGet x y H2 Q) : tDGet td ty σ H Q := h
def rDPut (v x y : V) (H : Hp) (R : Hp → Prop) : Prop := ∃ a H4, x = .ref a ∧ DPut H a y v H4 ∧ R H4
theorem rd_dput0 {td ty tv : TE} (h : tv σ H fun v H1 => td σ H1 fun x H2 => ty σ H2 fun y H3 => rDPut v x y H3 (D.nx σ)) : sDPut td ty tv D σ H := h
def rDNew (H : Hp) (Q : VK) : Prop := ∀ p, H p = none → Q (.ref p) (upd H p (.dK []))
theorem rd_dnew0 (h : rDNew H Q) : tDNewK σ H Q := h
theorem rd_dnew (h : ∀ p H2, H p = none → H2 p = some (.dK []) → Same H H2 → Q (.ref p) H2) : rDNew H Q := fun p hp => h p _ hp upd_same (Same.new hp)
end
/-! ### dicts of ints -/
def getI (m : List (Int × Int)) (t : Int) : Option Int := (m.find? fun kv => decide (kv.1 = t)).map (·.2)
def putI (m : List (Int × Int)) (t h : Int) : List (Int × Int) := if (m.any fun kv => decide (kv.1 = t)) = true then m.map fun kv => if kv.1 = t then (kv.1, h) else kv else m ++ [(t, h)]
def dkE (p : Int × Int) : Key × V := (.inl p.1, .int p.2)
def dkOf (m : List (Int × Int)) : List (Key × V) := m.map dkE
theorem inl_eq {a b : Int} : ((Sum.inl a : Key) = Sum.inl b) ↔ a = b := ⟨fun h => Sum.inl.inj h, fun h => h ▸ rfl⟩
theorem dk_any (m : List (Int × Int)) (t : Int) : ((dkOf m).any fun kv => decide (kv.1 = Sum.inl t)) = m.any fun kv => decide (kv.1 = t) := by
  unfold dkOf
  rw [List.any_map]
  congr 1
  funext p
  simp only [Function.comp, dkE, inl_eq]
theorem dk_put (m : List (Int × Int)) (t h : Int) : putK (dkOf m) (.inl t) (.int h) = dkOf (putI m t h) := by
  unfold putK putI
  rw [dk_any]
  by_cases c : (m.any fun kv => decide (kv.1 = t)) = true
  · rw [if_pos c, if_pos c]
    unfold dkOf
    rw [List.map_map, List.map_map]
    refine List.map_congr_left fun p _ => ?_
    simp only [Function.comp, dkE, inl_eq]
    split <;> simp
  · rw [if_neg c, if_neg c]
    simp [dkOf, dkE]
theorem dk_val (t : Int) : ∀ m : List (Int × Int), valV (dkOf m) (.inl t) = (getI m t).map V.int
  | [] => rfl
  | p :: m => by
    have ih := dk_val t m
    by_cases e : p.1 = t
    · have : valV (dkOf (p :: m)) (.inl t) = some (.int p.2) := valV_pos (p := dkE p) (by simp [dkE, e])
      rw [this]
      simp [getI, List.find?_cons, e]
    · have : valV (dkOf (p :: m)) (.inl t) = valV (dkOf m) (.inl t) := valV_neg (p := dkE p) (by simp [dkE, e])
      rw [this, ih]
      simp [getI, List.find?_cons, e]
theorem rd_dgetI {H : Hp} {Q : VK} {p : Addr} {m : List (Int × Int)} {t v : Int} (h1 : H p = some (.dK (dkOf m))) (h2 : getI m t = some v) (h : Q (.int v) H) : rDGet (.ref p) (.int t) H Q :=
  ⟨p, .int v, rfl, by
    have := DGet.k (k := Sum.inl t) h1
    rw [dk_val, h2] at this
    exact this, h⟩
theorem rd_dputI {H : Hp} {R : Hp → Prop} {p : Addr} {m : List (Int × Int)} {t v : Int} (h1 : H p = some (.dK (dkOf m))) (hz : m.length < sizeLine) (h : ∀ H2, H2 p = some (.dK (dkOf (putI m t v))) → Kp p H H2 → R H2) : rDPut (.int v) (.ref p) (.int t) H R :=
  ⟨p, _, rfl, DPut.k (k := Sum.inl t) h1 (by simpa [dkOf] using hz), by
    rw [dk_put]
    exact h _ upd_same Kp.upd⟩
theorem rd_dnewI {H : Hp} {Q : VK} (h : ∀ p H2, H p = none → H2 p = some (.dK (dkOf [])) → Same H H2 → Q (.ref p) H2) : rDNew H Q := rd_dnew h
theorem getI_put (m : List (Int × Int)) (t h j : Int) : getI (putI m t h) j = if j = t then some h else getI m j := by
  have e1 := dk_val j (putI m t h)
  rw [← dk_put, valV_put] at e1
  have e2 := dk_val j m
  rw [e2] at e1
  simp only [inl_eq] at e1
  by_cases e : j = t
  · rw [if_pos e] at e1 ⊢
    cases hg : getI (putI m t h) j with
    | none => rw [hg] at e1; cases e1
    | some x => rw [hg] at e1; simp at e1; rw [e1]
  · rw [if_neg e] at e1 ⊢
    cases hg : getI (putI m t h) j <;> cases hm : getI m j <;> rw [hg, hm] at e1 <;> simp_all
theorem putI_len (m : List (Int × Int)) (t h : Int) : (putI m t h).length ≤ m.length + 1 := by
  unfold putI
  split <;> simp
theorem getI_none {t : Int} : ∀ {m : List (Int × Int)}, getI m t = none ↔ t ∉ m.map (·.1)
  | [] => by simp [getI]
  | p :: m => by
    have ih := getI_none (t := t) (m := m)
    by_cases e : p.1 = t
    · simp [getI, List.find?_cons, e]
    · have e' : ¬ t = p.1 := fun z => e z.symm
      have : getI (p :: m) t = getI m t := by simp [getI, List.find?_cons, e]
      rw [this, ih]
      simp [e']
theorem putI_keys (m : List (Int × Int)) (t h : Int) : (putI m t h).map (·.1) = if t ∈ m.map (·.1) then m.map (·.1) else m.map (·.1) ++ [t] := by
  have ha : (m.any fun kv => decide (kv.1 = t)) = true ↔ t ∈ m.map (·.1) := by simp
  unfold putI
  by_cases c : (m.any fun kv => decide (kv.1 = t)) = true
  · rw [if_pos c, if_pos (ha.mp c), List.map_map]
    refine List.map_congr_left fun p _ => ?_
    simp only [Function.comp]
    split <;> rfl
  · rw [if_neg c, if_neg (fun z => c (ha.mpr z))]
    simp
theorem putI_nodup {m : List (Int × Int)} {t h : Int} (n : (m.map (·.1)).Nodup) : ((putI m t h).map (·.1)).Nodup := by
  rw [putI_keys]
  split
  · exact n
  · rename_i c
    rw [List.nodup_append]
    exact ⟨n, by simp, fun a ha b hb e => c (by simp at hb; subst hb; subst e; exact ha)⟩
theorem getI_mem {t h : Int} : ∀ {m : List (Int × Int)}, (m.map (·.1)).Nodup → (getI m t = some h ↔ (t, h) ∈ m)
  | [], _ => by simp [getI]
  | p :: m, n => by
    simp only [List.map_cons, List.nodup_cons] at n
    have ih := getI_mem (t := t) (h := h) n.2
    by_cases e : p.1 = t
    · have : getI (p :: m) t = some p.2 := by simp [getI, List.find?_cons, e]
      rw [this]
      constructor
      · intro z; cases z; rw [← e]; exact List.mem_cons_self
      · intro z
        rcases List.mem_cons.mp z with z | z
        · rw [← z]
        · exact absurd (List.mem_map.mpr ⟨_, z, rfl⟩) (by rw [← e] at *; exact n.1)
    · have : getI (p :: m) t = getI m t := by simp [getI, List.find?_cons, e]
      rw [this, ih]
      constructor
      · exact fun z => List.mem_cons_of_mem _ z
      · intro z
        rcases List.mem_cons.mp z with z | z
        · exact absurd (by rw [← z]) e
        · exact z
/-- the samples of pairs that come one after the other -/
def allI (prs : List (Int × Int)) : List (Int × Int) := prs.foldl (fun m p => putI m p.1 p.2) []
theorem foldI_nodup : ∀ (prs acc : List (Int × Int)), (acc.map (·.1)).Nodup → ((prs.foldl (fun m p => putI m p.1 p.2) acc).map (·.1)).Nodup
  | [], _, h => h
  | p :: prs, acc, h => foldI_nodup prs _ (putI_nodup h)
theorem allI_nodup (prs : List (Int × Int)) : ((allI prs).map (·.1)).Nodup := foldI_nodup prs [] List.nodup_nil
theorem foldI_len : ∀ (prs acc : List (Int × Int)), (prs.foldl (fun m p => putI m p.1 p.2) acc).length ≤ acc.length + prs.length
  | [], acc => Nat.le_refl _
  | p :: prs, acc => by
    have h1 := foldI_len prs (putI acc p.1 p.2)
    have h2 := putI_len acc p.1 p.2
    show (prs.foldl (fun m p => putI m p.1 p.2) (putI acc p.1 p.2)).length ≤ acc.length + (prs.length + 1)
    omega
theorem allI_len (prs : List (Int × Int)) : (allI prs).length ≤ prs.length := by
  have := foldI_len prs []
  simpa [allI] using this
theorem PairsAt.prs {H : Hp} : ∀ {vs : List V} {l : List (Int × Int)}, PairsAt H vs l → PrAt H vs (l.map dkE)
  | _, _, .nil => .nil
  | _, _, .cons ⟨a, e, z⟩ t => .cons ⟨a, e, z⟩ (PairsAt.prs t)
theorem PairsAt.length {H : Hp} {vs : List V} {l : List (Int × Int)} (h : PairsAt H vs l) : vs.length = l.length := Paired.length h
theorem PairsAt.snoc {H : Hp} : ∀ {vs : List V} {l : List (Int × Int)}, PairsAt H vs l → ∀ {a : Addr} {p : Int × Int}, H a = some (.tup [.int p.1, .int p.2]) → PairsAt H (vs ++ [.ref a]) (l ++ [p])
  | _, _, .nil, a, p, z => .cons ⟨a, rfl, z⟩ .nil
  | _, _, .cons h t, a, p, z => .cons h (PairsAt.snoc t z)
theorem PairsAt.at {H : Hp} : ∀ {vs : List V} {l : List (Int × Int)}, PairsAt H vs l → ∀ {i : Nat} {v : V}, vs[i]? = some v → ∃ a p, v = .ref a ∧ l[i]? = some p ∧ H a = some (.tup [.int p.1, .int p.2])
  | _, _, .nil, i, v, e => by simp at e
  | _, _, @Paired.cons _ _ _ _ p _ _ ⟨a, e1, z⟩ t, 0, v, e => by
    simp at e; subst e
    exact ⟨a, p, e1, rfl, z⟩
  | _, _, .cons _ t, i + 1, v, e => by
    obtain ⟨a, p, h1, h2, h3⟩ := PairsAt.at t (by simpa using e)
    exact ⟨a, p, h1, by simpa using h2, h3⟩
theorem PairsAt.kp {p : Addr} {H H' : Hp} (k : Kp p H H') {n : Nat} {xs : List V} (hp : H p = some (.lst xs)) : ∀ {vs : List V} {l : List (Int × Int)}, PairsAt H vs l → PairsAt H' vs l
  | _, _, .nil => .nil
  | _, _, .cons ⟨a, e, z⟩ t => .cons ⟨a, e, k _ _ z (fun c => by subst c; rw [hp] at z; cases z)⟩ (PairsAt.kp k (n := n) hp t)
theorem rd_sortedI {H : Hp} {Q : VK} {p : Addr} {m : List (Int × Int)} (h1 : H p = some (.dK (dkOf m))) (hz : m.length < 64) (h : ∀ l H2 (ns : List Int), H l = none → H2 l = some (.lst (ns.map V.int)) → ns.Perm (m.map (·.1)) → ns.Pairwise (· ≤ ·) → Same H H2 → Q (.ref l) H2) : rSortedD [.ref p] H Q :=
  ⟨p, _, m.map (·.1), rfl, .inl h1, by simp [dkOf, dkE], by simpa [dkOf] using hz, fun l ns hl hp hs => h l _ ns hl upd_same hp hs (Same.new hl)⟩
/-! ### curves -/
def Asc (cv : List (Int × Int)) : Prop := cv.Pairwise fun a b => a.1 < b.1
/-- cv is the curve of the samples m -/
def CurveOf (m cv : List (Int × Int)) : Prop := Asc cv ∧ ∀ t h, (t, h) ∈ cv ↔ getI m t = some h
theorem asc_ext : ∀ {a b : List (Int × Int)}, Asc a → Asc b → (∀ p, p ∈ a ↔ p ∈ b) → a = b
  | [], [], _, _, _ => rfl
  | [], q :: b, _, _, h => by have := (h q).mpr List.mem_cons_self; simp at this
  | p :: a, [], _, _, h => by have := (h p).mp List.mem_cons_self; simp at this
  | p :: a, q :: b, ha, hb, h => by
    unfold Asc at ha hb
    rw [List.pairwise_cons] at ha hb
    have e : p = q := by
      rcases List.mem_cons.mp ((h p).mp List.mem_cons_self) with e | e
      · exact e
      · rcases List.mem_cons.mp ((h q).mpr List.mem_cons_self) with e2 | e2
        · exact e2.symm
        · have h1 := hb.1 _ e
          have h2 := ha.1 _ e2
          omega
    subst e
    rw [asc_ext ha.2 hb.2 fun r => ?_]
    constructor
    · intro hr
      rcases List.mem_cons.mp ((h r).mp (List.mem_cons_of_mem _ hr)) with e | e
      · subst e; have := ha.1 _ hr; omega
      · exact e
    · intro hr
      rcases List.mem_cons.mp ((h r).mpr (List.mem_cons_of_mem _ hr)) with e | e
      · subst e; have := hb.1 _ hr; omega
      · exact e
theorem CurveOf.unique {m a b : List (Int × Int)} (ha : CurveOf m a) (hb : CurveOf m b) : a = b := asc_ext ha.1 hb.1 fun p => by
  obtain ⟨t, h⟩ := p
  rw [ha.2, hb.2]
/-- the sorted keys of a dict of ints with what it holds there -/
def curveBy (m : List (Int × Int)) (ns : List Int) : List (Int × Int) := ns.map fun t => (t, (getI m t).getD 0)
theorem curveBy_of {m : List (Int × Int)} {ns : List Int} (nd : (m.map (·.1)).Nodup) (hp : ns.Perm (m.map (·.1))) (hs : ns.Pairwise (· ≤ ·)) : CurveOf m (curveBy m ns) := by
  have hn : ns.Nodup := hp.nodup_iff.mpr nd
  refine ⟨?_, fun t h => ?_⟩
  · unfold Asc curveBy
    rw [List.pairwise_map]
    exact (hs.and hn).imp fun ⟨a, b⟩ => by
      show _ < _
      omega
  · unfold curveBy
    rw [List.mem_map]
    constructor
    · rintro ⟨u, hu, e⟩
      have hu' := hp.mem_iff.mp hu
      cases hg : getI m u with
      | none => exact absurd hu' (getI_none.mp hg)
      | some x =>
        rw [hg] at e
        cases e
        exact hg
    · intro hg
      refine ⟨t, hp.mem_iff.mpr ?_, by rw [hg]; rfl⟩
      by_cases c : t ∈ m.map (·.1)
      · exact c
      · rw [getI_none.mpr c] at hg; cases hg
end L2

set_option Elab.async false
set_option linter.all false
set_option maxRecDepth 100000
set_option maxHeartbeats 4000000
namespace L2
open PySem PySem.Spec PyProof.Rows
theorem bt_zip : bootBuiltins "zip" = some (.type "zip") := by decide +kernel
theorem bt_repr : bootBuiltins "repr" = some (.builtin "repr") := by decide +kernel
/-! ### t + u of any two tuples; what is told of the sum -/
/-! ### t[lo:hi], the whole too -/
theorem getItem_tuple_all {prog : Program} {w : World} {A : Around} {E : Value → Shared → Prop} {s : Shared} {t sl : Addr} {items : Array Value} {vl vu : Value} {lo hi : Option Int} {Q : Value → Shared → Prop} (ht : IsTup s.heap t items) (hs : s.heap.IsSliceOf sl vl vu .none) (pl : IsPart vl lo) (pu : IsPart vu hi)
    (hw : HT.sIx items.size 0 lo = 0 ∧ HT.sIx items.size items.size hi = items.size) (h : Q (.ref t) s) : wpAny (model prog w) A (getItem (.ref t) (.ref sl)) Q E s := by
  obtain ⟨os, hos, hcs, hds⟩ := id hs
  have hTs : s.TypeIs (.ref sl) "slice" := ⟨os, hos, hcs⟩
  unfold getItem
  try with_reducible refine wpAny_holding ?_
  first | refine wpAny_bind (wpAny_pure ?_) | skip
  refine wpAny_bind (wpAny_sequenceKey ht.typeIs (by decide) ?_)
  refine wpAny_bind (wpAny_callSpecial?_slot (name := Str.ofString "__getitem__") ht.typeIs PyProof.Rows.slot_tuple_getitem
    (wpAny_call_entry PyProof.Rows.slot_tuple_getitem ht.typeIs entry_tuple_getitem ?_ (args_tuple_getitem _ _)))
  show wpAny _ _ (Builtin.Tuple.tupleItemsOf (.ref t) >>= _) _ _ s
  refine wpAny_bind (tupleItemsOf_ ht ?_)
  refine wpAny_bind (wpAny_typeOf hTs ?_)
  rw [if_pos (by decide)]
  refine wpAny_bind (HT.sliceApplied_gen hs pl pu ?_)
  rw [hw.1, hw.2]
  have hyes : ((((0 : Nat) : Int) == 0 && (1 : Int) == 1 && (items.size - 0) == items.size) = true) := by simp
  show wpAny _ _ (if ((((0 : Nat) : Int) == 0 && (1 : Int) == 1 && (items.size - 0) == items.size) = true) then _ else _) _ _ s
  rw [if_pos hyes]
  unfold Builtin.Tuple.tupleIsExact
  refine wpAny_bind (wpAny_bind (wpAny_typeOf ht.typeIs (wpAny_pure ?_)))
  rw [if_pos (by decide)]
  refine wpAny_bind (wpAny_rule ?_)
  first
    | exact wpAny_pure ⟨_, rfl, wpAny_pure h⟩
    | exact wpAny_bind (wpAny_pure (wpAny_pure ⟨_, rfl, wpAny_pure h⟩))
def rSlU (K : PySem.W.Frag) : V → Option Int → Option Int → Hp → VK → Prop := fun x lo hi H Q => ∃ a xs, x = .ref a ∧ SqT K H a xs ∧
  ((HT.sIx xs.length 0 lo = 0 ∧ HT.sIx xs.length xs.length hi = xs.length) → Q (.ref a) H) ∧ (¬ (HT.sIx xs.length 0 lo = 0 ∧ HT.sIx xs.length xs.length hi = xs.length) → ∀ p, H p = none → Q (.ref p) (upd H p (.tup (cutV xs lo hi))))
theorem kl_tupU {X : Cx} (K : PySem.W.Frag) (hK : X.K = K) : SlR X (rSlU K) := by
  subst hK
  intro pins s σ H x v vl vu lo hi sl Q I rx hs pl pu h
  obtain ⟨a, xs, rfl, hx, q1, q2⟩ := h
  by_cases hw : HT.sIx xs.length 0 lo = 0 ∧ HT.sIx xs.length xs.length hi = xs.length
  · cases rx
    obtain ⟨its, r, ht, hz⟩ := I.tuple hx
    have hlen : its.toArray.size = xs.length := by rw [List.size_toArray]; exact r.length.symm
    refine ⟨"tuple", _, PyProof.Rows.slot_tuple_getitem.lookup, ht.typeIs, ?_⟩
    exact getItem_tuple_all ht hs pl pu (by rw [hlen]; exact hw) ⟨.ref a, H, I, rfl, q1 hw⟩
  · exact sl_tup pins s σ H (.ref a) v vl vu lo hi sl Q I rx hs pl pu ⟨a, xs, rfl, hx, hw, q2 hw⟩
theorem cut_whole {xs : List V} {lo hi : Option Int} (h : HT.sIx xs.length 0 lo = 0 ∧ HT.sIx xs.length xs.length hi = xs.length) : cutV xs lo hi = xs := by
  unfold cutV
  rw [h.1, h.2]
  simp
/-! ### name op= e -/
section
variable {X : Cx} {pos pos' : Pos} {e : Expr} {te : TE}
theorem rd_aug {i : Nat} {r : R2} {D : Ends} {σ : St} {H : Hp} {x : V} (e1 : σ[i]? = some (some x)) (h : te σ H fun y H1 => r x y H1 fun z H2 => D.nx (σ.set i (some z)) H2) : tAug i te r D σ H := ⟨x, e1, h⟩
end
/-! ### while, by an invariant -/
end L2

set_option Elab.async false
set_option linter.all false
set_option maxRecDepth 100000
set_option maxHeartbeats 4000000
namespace L2
open PySem PySem.Spec PyProof.Rows
theorem pairD_eqv (p q : Int × Int) : PyData.eqv (pairD p) (pairD q) = decide (p = q) := by
  have e : PyData.eqv (pairD p) (pairD q) = ((p.1 == q.1) && ((p.2 == q.2) && true)) := rfl
  rw [e]
  obtain ⟨a, b⟩ := p
  obtain ⟨c, d⟩ := q
  by_cases h1 : a = c <;> by_cases h2 : b = d <;> simp [h1, h2]
theorem pairsD_eqv : ∀ l m : List (Int × Int), PyData.eqvAll (l.map pairD) (m.map pairD) = decide (l = m)
  | [], [] => rfl
  | [], q :: m => by simp [PyData.eqvAll]
  | p :: l, [] => by simp [PyData.eqvAll]
  | p :: l, q :: m => by
    show (PyData.eqv (pairD p) (pairD q) && PyData.eqvAll (l.map pairD) (m.map pairD)) = _
    rw [pairD_eqv, pairsD_eqv l m]
    by_cases h1 : p = q <;> by_cases h2 : l = m <;> simp [h1, h2]
theorem pairsD_depth : ∀ l : List (Int × Int), PyData.depthAll (l.map pairD) ≤ 50
  | [] => by decide
  | p :: l => by
    have ih := pairsD_depth l
    have h0 : PyData.depth (pairD p) ≤ 50 := by
      show PyData.depth (.tuple [.int p.1, .int p.2]) ≤ 50
      simp only [PyData.depth, PyData.depthAll]
      decide
    show PyData.depthAll (pairD p :: l.map pairD) ≤ 50
    simp only [PyData.depthAll]
    omega
section
variable {K : PySem.W.Frag} {H : Hp} {Q : VK} {a b : Addr} {vs ws : List V} {l m : List (Int × Int)}
theorem pairsL_depth (l : List (Int × Int)) : (PyData.list (l.map pairD)).depth ≤ 60 := by
  have := pairsD_depth l
  simp only [PyData.depth]
  omega
theorem rd_eqLL (h1 : SqL K H a vs) (p1 : PairsAt H vs l) (h2 : SqL K H b ws) (p2 : PairsAt H ws m) (h : Q (.bl (decide (l = m))) H) : rEqD K (.ref a) (.ref b) H Q := by
  refine rd_eqD (.lst h1 p1.dats) (.lst h2 p2.dats) (pairs_lay l) (pairs_lay m) (pairsL_depth l) ?_
  have e : PyData.eqv (.list (l.map pairD)) (.list (m.map pairD)) = decide (l = m) := pairsD_eqv l m
  rw [e]
  exact h
end
/-- a list that was made here grows: all that was there before is as it was -/
theorem Same.kpN {H H1 H2 : Hp} {l : Addr} (s : Same H H1) (hl : H l = none) (k : Kp l H1 H2) : Same H H2 := fun q o e => k q o (s q o e) (ne_of_none e hl)
theorem PairsAt.kpL {p : Addr} {H H' : Hp} (k : Kp p H H') {xs : List V} (hp : H p = some (.lst xs)) {vs : List V} {l : List (Int × Int)} (h : PairsAt H vs l) : PairsAt H' vs l := PairsAt.kp k (n := 0) hp h
theorem PairsAt.app {H : Hp} : ∀ {vs : List V} {l : List (Int × Int)}, PairsAt H vs l → ∀ {ws : List V} {m : List (Int × Int)}, PairsAt H ws m → PairsAt H (vs ++ ws) (l ++ m)
  | _, _, .nil, _, _, h => h
  | _, _, .cons h t, _, _, g => .cons h (PairsAt.app t g)
theorem PairsAt.drop {H : Hp} : ∀ {vs : List V} {l : List (Int × Int)} (n : Nat), PairsAt H vs l → PairsAt H (vs.drop n) (l.drop n)
  | _, _, 0, h => h
  | _, _, _ + 1, .nil => .nil
  | _, _, n + 1, .cons _ t => PairsAt.drop n t
theorem PairsAt.take {H : Hp} : ∀ {vs : List V} {l : List (Int × Int)} (n : Nat), PairsAt H vs l → PairsAt H (vs.take n) (l.take n)
  | _, _, 0, _ => .nil
  | _, _, _ + 1, .nil => .nil
  | _, _, n + 1, .cons h t => .cons h (PairsAt.take n t)
theorem PairsAt.rev {H : Hp} : ∀ {vs : List V} {l : List (Int × Int)}, PairsAt H vs l → PairsAt H vs.reverse l.reverse
  | _, _, .nil => .nil
  | _, _, .cons h t => by
    rw [List.reverse_cons, List.reverse_cons]
    exact PairsAt.app (PairsAt.rev t) (.cons h .nil)
theorem Pot.ne_dk {H : Hp} {p l : Addr} {kvs : List (Key × V)} (h : Pot H p) (hl : H l = some (.dK kvs)) : l ≠ p := by
  obtain ⟨x, y, h, r⟩ := h
  intro e; subst e; rw [h] at hl; cases hl
theorem Pot.ne_tup {H : Hp} {p l : Addr} {xs : List V} (h : Pot H p) (hl : H l = some (.tup xs)) : l ≠ p := by
  obtain ⟨x, y, h, r⟩ := h
  intro e; subst e; rw [h] at hl; cases hl
theorem PairsAt.pot {p : Addr} {H H' : Hp} (k : Kp p H H') (hp : Pot H p) {vs : List V} {l : List (Int × Int)} (h : PairsAt H vs l) : PairsAt H' vs l := by
  obtain ⟨x, y, e, _⟩ := hp
  exact PairsAt.kpL k e h
/-- a tuple that stays while p changes -/
theorem SqT.kp {K : PySem.W.Frag} {p : Addr} {H H' : Hp} {a : Addr} {xs : List V} (k : Kp p H H') (hp : Pot H p) (h : SqT K H a xs) : SqT K H' a xs := by
  obtain ⟨x, y, hpp, _⟩ := hp
  rcases h with (h | ⟨o, h⟩) | h
  · exact .inl (.inl (k _ _ h (fun e => by subst e; rw [hpp] at h; cases h)))
  · exact .inl (.inr ⟨o, k _ _ h (fun e => by subst e; rw [hpp] at h; cases h)⟩)
  · exact .inr h
end L2

set_option Elab.async false
set_option linter.all false
set_option maxRecDepth 100000
set_option maxHeartbeats 4000000
namespace L2
open PySem PySem.Spec PyProof.Rows
section
variable {K : PySem.W.Frag} {H H' : Hp} {Q : VK} {a b : Addr} {xs ys : List V} {cv l m : List (Int × Int)}
theorem rd_slH {lo hi : Option Int} (h1 : H a = some (.tup xs)) (h : ∀ p H2, H2 p = some (.tup (cutV xs lo hi)) → Same H H2 → Q (.ref p) H2) : rSlU K (.ref a) lo hi H Q :=
  ⟨a, xs, rfl, SqT.of h1, fun e => h a H (by rw [cut_whole e]; exact h1) (Same.refl H), fun _ p hp => h p _ upd_same (Same.new hp)⟩
/-- a tuple of pairs of ints; a list of them -/
def PrT (H : Hp) (a : Addr) (cv : List (Int × Int)) : Prop := ∃ vs, H a = some (.tup vs) ∧ PairsAt H vs cv
def PrL (H : Hp) (a : Addr) (cv : List (Int × Int)) : Prop := ∃ vs, H a = some (.lst vs) ∧ PairsAt H vs cv
theorem PrT.same (h : PrT H a cv) (s : Same H H') : PrT H' a cv := by
  obtain ⟨vs, h1, h2⟩ := h
  exact ⟨vs, s _ _ h1, h2.same s⟩
theorem PrL.same (h : PrL H a cv) (s : Same H H') : PrL H' a cv := by
  obtain ⟨vs, h1, h2⟩ := h
  exact ⟨vs, s _ _ h1, h2.same s⟩
theorem PrT.pot {p : Addr} (h : PrT H a cv) (hp : Pot H p) (k : Kp p H H') : PrT H' a cv := by
  obtain ⟨vs, h1, h2⟩ := h
  exact ⟨vs, k _ _ h1 (hp.ne_tup h1), h2.pot k hp⟩
theorem PrL.pot {p : Addr} (h : PrL H a cv) (hp : Pot H p) (hne : a ≠ p) (k : Kp p H H') : PrL H' a cv := by
  obtain ⟨vs, h1, h2⟩ := h
  exact ⟨vs, k _ _ h1 hne, h2.pot k hp⟩
theorem rd_eqPL (h1 : PrL H a l) (h2 : PrL H b m) (h : Q (.bl (decide (l = m))) H) : rEqD K (.ref a) (.ref b) H Q := by
  obtain ⟨vs, g1, p1⟩ := h1
  obtain ⟨ws, g2, p2⟩ := h2
  exact rd_eqLL (SqL.of g1) p1 (SqL.of g2) p2 h
theorem PrT.len (h : PrT H a cv) {xs : List V} (e : H a = some (.tup xs)) : xs.length = cv.length := by
  obtain ⟨vs, h1, h2⟩ := h
  rw [h1] at e
  cases e
  exact h2.length
/-- the items of a part of a list -/
def cutP (l : List (Int × Int)) (lo hi : Option Int) : List (Int × Int) := (l.drop (HT.sIx l.length 0 lo)).take (HT.sIx l.length l.length hi - HT.sIx l.length 0 lo)
theorem PairsAt.cut {vs : List V} {lo hi : Option Int} (h : PairsAt H vs l) : PairsAt H (cutV vs lo hi) (cutP l lo hi) := by
  unfold cutV cutP
  rw [h.length]
  exact (h.drop _).take _
theorem PrT.sl {lo hi : Option Int} (h1 : PrT H a l) (h : ∀ p H2, PrT H2 p (cutP l lo hi) → Same H H2 → Q (.ref p) H2) : rSlU K (.ref a) lo hi H Q := by
  obtain ⟨vs, g1, p1⟩ := h1
  exact rd_slH g1 fun p H2 f2 S2 => h p H2 ⟨_, f2, (p1.cut).same S2⟩ S2
theorem PrL.sl {lo hi : Option Int} (h1 : PrL H a l) (h : ∀ p H2, H p = none → PrL H2 p (cutP l lo hi) → Same H H2 → Q (.ref p) H2) : rSlL K (.ref a) lo hi H Q := by
  obtain ⟨vs, g1, p1⟩ := h1
  exact rd_slL (SqL.of g1) fun p H2 n2 f2 S2 => h p H2 n2 ⟨_, f2, (p1.cut).same S2⟩ S2
end
end L2

set_option Elab.async false
set_option linter.all false
set_option maxRecDepth 100000
set_option maxHeartbeats 4000000
namespace L2
open PySem PySem.Spec PyProof.Rows
/-! ### name = [a comprehension], where the store comes ahead of the letting go -/
section
variable {X : Cx}
theorem comp_core {N : List Str} {sc : Scope} {own caps : List Str} {ks : List Nat} {elt tg iter : Expr} {ifs : List Expr} {scope : Scope} {pos cpos : Pos} {wi : TI} {g : TG} {tt : TT} {te : TE}
    (hN : X.N = N) (hsc : X.env.scope = sc) (hc : X.calm = true) (S : CompSc N sc own caps ks scope) (hi : PI X tg iter wi)
    (hg : ∀ cl C s₂ H₂ fp, PG (compCx X (own ++ caps) scope cl C s₂ H₂ fp) tg g)
    (ht : ∀ cl C s₂ H₂ fp, PIfs (compCx X (own ++ caps) scope cl C s₂ H₂ fp) ifs tt)
    (he : ∀ cl C s₂ H₂ fp, PE (compCx X (own ++ caps) scope cl C s₂ H₂ fp) elt te)
    (hs : ∀ x, foldedSetIterable iter X.env x = pure x) {use : Option (Value → Sem Unit)} {QQ : Value → Shared → Prop} {pins : List (Addr × Obj)} {s : Shared} {σ : St} {H : Hp} {Q : VK} (I : Inv X pins σ H s)
    (fin : ∀ (C l : Addr) (H' : Hp) (s' : Shared), (∃ m, s'.heap.Ns C m) → Inv X pins σ H' s' → FpOk X pins H' C → Q (.ref l) H' → compPost (model X.prog X.w) X.A X.xe use QQ (.ref l) C (.ok .next) s')
    (h : tComp own.length ks wi g tt te σ H Q) :
    wpAny (model X.prog X.w) X.A (comprehension (.ListComp elt [⟨tg, iter, ifs, 0⟩] scope pos) scope X.env cpos (newList []) false (eval iter X.env) use) QQ X.xe s := by
  subst hN hsc
  obtain ⟨cl, hclos, hcl, hclf⟩ := closure_ok (scope := scope) (env := X.env) fun y hy hf => I.ok.has y.1 (.inl (S.free y hy hf))
  refine wpAny_comprehension_free (use := use) rfl hs hclos S.kind S.names (wpAny_mono (hi pins s σ H _ I h) (fun xv s₁ h₁ => wpAny_mono h₁ (fun it s₂ h₂ => ?_) fun _ _ e => e) fun _ _ e => e)
  obtain ⟨it, fp, tn, J, H2, e, I2, T, st2, f2, q⟩ := h₂
  subst e
  refine wpAny_newObj_type (wpAny_newFunctionEnv S.nocell (by intro y hy; simp at hy) (fun h₁ hns₁ hsb₁ => ?_) S.kind)
  dsimp only at hns₁ hsb₁ ⊢
  generalize hH2 : s₂.heap.push { cls := .type "list", dict := none, data := .seq ([] : List Value).toArray } = HP at hns₁ hsb₁ ⊢
  have hC : HP.objs.size = s₂.heap.objs.size + 1 := by rw [← hH2, Heap.size_push]
  have hDC : s₂.heap.objs.size ≠ HP.objs.size := by rw [hC]; exact Nat.ne_of_lt (Nat.lt_succ_self _)
  have hCle : s₂.heap.objs.size ≤ HP.objs.size := by rw [hC]; exact Nat.le_succ _
  have old : ∀ b o, s₂.heap.get? b = some o → h₁.get? b = some o := fun b o e => by
    have hb : b < s₂.heap.objs.size := Heap.lt_size e
    exact hsb₁.extBut b o (by rw [hC]; exact Nat.ne_of_lt (Nat.lt_succ_of_lt hb)) (Heap.get?_push_of_some _ (hH2 ▸ Heap.get?_push_of_some _ e))
  have hacc : h₁.get? s₂.heap.objs.size = some { cls := .type "list", dict := none, data := .seq ([] : List Value).toArray } := hsb₁.extBut _ _ hDC (Heap.get?_push_of_some _ (hH2 ▸ Heap.get?_push_size _ rfl))
  have fpl : ∀ b ∈ fp, b < s₂.heap.objs.size := fun b hb => by
    obtain ⟨o, e, _⟩ := T.obj _ _ st2 b hb
    exact Heap.lt_size e
  have hfD : H2 s₂.heap.objs.size = none := I2.hok.fresh (Nat.le_refl _)
  obtain ⟨W, ⟨m0, w0⟩, turn⟩ := q s₂.heap.objs.size hfD
  have hkr : ∀ x, (compEnvC scope cl HP.objs.size X.env).kindOf x = (scope.names.lookup x).map fun k => if (k == NameKind.free && X.env.scope.kind == .function && X.env.kindOf x == some .cell) then NameKind.cell else k := fun x => relabel_lookup (env := X.env) scope.names x
  have cellOfN : ∀ x, scope.names.lookup x = some .free → X.env.kindOf x = some .cell := fun x e => S.free (x, .free) (PySem.mem_of_lookup e) rfl
  -- the context within
  have ok : (compCx X (own ++ caps) scope cl HP.objs.size s₂ H2 fp).Ok := by
    refine ⟨I2.ok.mod, S.kind, I2.ok.glob, I2.ok.blt, hCle, fun x y c e1 e2 => I2.ok.inj x y c (hcl x c e1) (hcl y c e2), fun x hx => ?_, fun x c z => (by cases z), I2.ok.hd, I2.ok.frames, .inl rfl, fun b hb => ⟨?_, fun x c e => (f2 b hb).2.2.2.2.1 x c (hcl x c e)⟩,
      I2.bs, Nat.le_trans I2.ok.bsz I2.sz, fun b o e hb => ?_, fun b hb z => ?_, I2.stack, I2.stkFree⟩
    · have hx' : (scope.names.lookup x).map (fun k => if (k == NameKind.free && X.env.scope.kind == .function && X.env.kindOf x == some .cell) then NameKind.cell else k) = some .cell ∨
          (scope.names.lookup x).map (fun k => if (k == NameKind.free && X.env.scope.kind == .function && X.env.kindOf x == some .cell) then NameKind.cell else k) = some .free := by rw [← hkr x]; exact hx
      cases e : scope.names.lookup x with
      | none => rw [e] at hx'; rcases hx' with z | z <;> cases z
      | some k =>
        have hm := PySem.mem_of_lookup e
        have hk : k = .free := by
          by_cases hkf : k = .free
          · exact hkf
          · have hb : (k == NameKind.free) = false := by simpa using hkf
            rw [e] at hx'
            simp only [Option.map_some, hb, Bool.false_and, Bool.false_eq_true, if_false, Option.some.injEq] at hx'
            rcases hx' with z | z
            · exact absurd z (S.nocell _ hm)
            · exact z
        exact hclf _ hm hk
    · exact Nat.ne_of_lt (Nat.lt_of_lt_of_le (fpl b hb) hCle)
    · rcases (f2 b hb).2.2.2.1 with z | z
      · exact I2.ok.noex b o e z
      · exact absurd (Nat.lt_of_lt_of_le (Heap.lt_size e) (Nat.le_trans I2.ok.bsz z)) (Nat.lt_irrefl _)
    · rcases List.mem_cons.mp (I2.stkSub b z) with r | r
      · exact (f2 b hb).2.1 r
      · exact (f2 b hb).2.2.1 r
  have hlen : (capSt own.length ks σ).length = (own ++ caps).length := by
    have := congrArg List.length S.cap
    simp only [List.length_map] at this
    simp [capSt, this]
  have I4 : Inv (compCx X (own ++ caps) scope cl HP.objs.size s₂ H2 fp) [] (capSt own.length ks σ) (upd H2 s₂.heap.objs.size (.lst [])) { s₂ with heap := h₁, toks := s₂.toks + ([] : List (Str × Value)).length } := by
    obtain ⟨mX, hnX, hlX⟩ := I2.loc
    refine ⟨ok, rfl, I2.bare, Un.laid old (Nat.le_refl _) hfD, ⟨_, hns₁, fun i x v e1 e2 e3 => ?_⟩, fun x c e => ?_, ?_, fun x c e => ?_, fun p hp => (by cases hp), I2.hok.laid old (Nat.le_refl _) ⟨Nat.zero_le _, [], 0, .nil, hacc⟩, hlen⟩
    · have e1 : (own ++ caps)[i]? = some x := e1
      by_cases hio : i < own.length
      · unfold capSt at e2
        rw [List.getElem?_append_left (by simpa using hio), List.getElem?_replicate] at e2
        rw [if_pos hio] at e2
        cases e2
      · unfold capSt at e2
        rw [List.getElem?_append_right (by simpa using hio), List.length_replicate, List.getElem?_map] at e2
        rw [List.getElem?_append_right (by simpa using hio)] at e1
        cases ek : ks[i - own.length]? with
        | none => rw [ek] at e2; cases e2
        | some k =>
          rw [ek] at e2
          have e2' := join_some (Option.some.inj e2)
          have hcap := congrArg (fun l => l[i - own.length]?) S.cap
          simp only [List.getElem?_map, ek, e1, Option.map_some] at hcap
          have hNk : X.N[k]? = some x := Option.some.inj hcap
          have hfx := S.fr x (List.mem_of_getElem? e1)
          have hkX := cellOfN x hfx
          obtain ⟨u, ru, lk⟩ := hlX k x v hNk e2' (.inr (.inl hkX))
          refine ⟨u, ru, .inr ⟨.inl ?_, ?_⟩⟩
          · show (compEnvC scope cl HP.objs.size X.env).kindOf x = some .cell
            rw [hkr x, hfx]
            simp [I2.ok.kind, hkX]
          · rcases lk with ⟨z, _⟩ | ⟨_, c, ec, o, ho, hd⟩
            · rw [hkX] at z; cases z
            · obtain ⟨c', ec'⟩ := hclf (x, .free) (PySem.mem_of_lookup hfx) rfl
              have := hcl _ _ ec'
              rw [ec] at this
              cases this
              exact ⟨c, ec', o, old _ _ ho, hd⟩
    · obtain ⟨v, o, ho, hd⟩ := I2.cell x c (hcl x c e)
      exact ⟨v, o, old _ _ ho, hd⟩
    · show upd H2 s₂.heap.objs.size (.lst []) HP.objs.size = none
      rw [upd_ne (Ne.symm hDC)]
      exact I2.hok.fresh hCle
    · obtain ⟨v, o, ho, hd⟩ := I2.cell x c (hcl x c e)
      show upd H2 s₂.heap.objs.size (.lst []) c = none
      rw [upd_ne (Nat.ne_of_lt (Heap.lt_size ho))]
      exact I2.freeC x c (hcl x c e)
  -- the way out
  have out : ∀ {σ' : St} {H' : Hp} {s' : Shared}, Inv (compCx X (own ++ caps) scope cl HP.objs.size s₂ H2 fp) [] σ' H' s' → Q (.ref s₂.heap.objs.size) H' →
      compPost (model X.prog X.w) X.A X.xe use QQ (.ref s₂.heap.objs.size) HP.objs.size (.ok .next) s' := fun {σ' H' s'} I' q' => by
    obtain ⟨m, hn, _⟩ := I'.loc
    refine fin HP.objs.size s₂.heap.objs.size H' s' ⟨m, hn⟩ ?_ (I2.fpOk hCle I'.free) q'
    have hs' : Heap.SameBut HP.objs.size s'.heap s'.heap := Heap.SameBut.refl ..
    have hfree : H' HP.objs.size = none := I'.free
    have neC : ∀ {b : Addr} {o : Obj}, s₂.heap.get? b = some o → b ≠ HP.objs.size := fun e => Nat.ne_of_lt (Nat.lt_of_lt_of_le (Heap.lt_size e) hCle)
    refine I2.call' (ch := fp) (s' := s') I'.os ⟨fun b o e n hb hx => ?_, fun b o e n hb hx => ?_, I'.base.free, fun b o e hx => ?_, I'.base.tups, I'.base.frzs, I'.base.tbls⟩ (fun b ob e => ?_) I'.bare fun b hb => ⟨(f2 b hb).2.2.2.1, (f2 b hb).2.1, (f2 b hb).2.2.2.2.1, (f2 b hb).2.2.2.2.2⟩
    · exact (I'.base.keep b o e n hb hx)
    · obtain ⟨sl, e1⟩ := I'.base.slot b o e n hb hx
      exact ⟨sl, e1⟩
    · obtain ⟨o', e1⟩ := I'.base.there b o e hx
      exact ⟨o', e1⟩
    · exact I'.hok b ob e
  have stat : ∀ {H' : Hp}, (∀ b ∈ fp, H' b = none) → ∀ b ∈ fp, FpOk (compCx X (own ++ caps) scope cl HP.objs.size s₂ H2 fp) [] H' b := fun hn b hb =>
    ⟨hn b hb, Nat.ne_of_lt (Nat.lt_of_lt_of_le (fpl b hb) hCle), ok.exfs b hb, .inl hb, (ok.exf b hb).2, fun p hp => by cases hp⟩
  have fr4 : ∀ b ∈ fp, upd H2 s₂.heap.objs.size (.lst []) b = none := fun b hb => by
    rw [upd_ne (Nat.ne_of_lt (fpl b hb))]
    exact (f2 b hb).1
  have tn4 : tn 0 h₁ := T.keep _ _ _ st2 fun b _ o e => old b o e
  have loop : ∀ s4 : Shared, s4 = { s₂ with heap := h₁, toks := s₂.toks + ([] : List (Str × Value)).length } →
      codeAny (model X.prog X.w) X.A (.compLoop (.ListComp elt [⟨tg, iter, ifs, 0⟩] scope pos) 0 (.ref it) (.ref s₂.heap.objs.size) (compEnvC scope cl HP.objs.size X.env))
        (compPost (model X.prog X.w) X.A X.xe use QQ (.ref s₂.heap.objs.size) HP.objs.size) s4 := by
    rintro s4 rfl
    refine codeAny_compLoop_any (fun n s' => ∃ i σ' H', Inv (compCx X (own ++ caps) scope cl HP.objs.size s₂ H2 fp) [] σ' H' s' ∧ tn i s'.heap ∧ (∀ b ∈ fp, H' b = none) ∧ W i n σ' H') ?_ m0 ⟨0, _, _, I4, tn4, fr4, w0⟩
    rintro n s3 ⟨i, σ3, H3, I3, st3, fr3, w3⟩
    rcases turn i n σ3 H3 w3 with ⟨stop, qn⟩ | ⟨go, N, hN, step⟩
    · refine wpAny_mono (T.done (compCx X (own ++ caps) scope cl HP.objs.size s₂ H2 fp) rfl rfl rfl hc i [] s3 σ3 H3 (fun _ _ => False) I3 (stat fr3) st3 stop) (fun r s4 ⟨hr, I4'⟩ => ?_) fun _ _ z => False.elim z
      subst hr
      exact out I4' qn
    · refine wpAny_mono (T.item (compCx X (own ++ caps) scope cl HP.objs.size s₂ H2 fp) rfl rfl rfl hc i [] s3 σ3 H3 (fun _ _ => False) I3 (stat fr3) st3 go) (fun r s4 ⟨u, hr, h4⟩ => ?_) fun _ _ z => False.elim z
      subst hr
      refine wpAny_mono h4 (fun _ s5 ⟨x, H5, I5, r5, y5, st5, fr5⟩ => ?_) fun _ _ z => False.elim z
      have I5' := I5.pinned (stat fr5) (T.obj _ _ st5)
      have back : ∀ {s7 : Shared} {σ7 : St} {H7 : Hp}, Inv (compCx X (own ++ caps) scope cl HP.objs.size s₂ H2 fp) ([] ++ pinsAt fp s5.heap) σ7 H7 s7 → N σ7 H7 →
          ∃ m, m < n ∧ ∃ i σ' H', Inv (compCx X (own ++ caps) scope cl HP.objs.size s₂ H2 fp) [] σ' H' s7 ∧ tn i s7.heap ∧ (∀ b ∈ fp, H' b = none) ∧ W i m σ' H' := fun {s7 σ7 H7} I7 n7 => by
        obtain ⟨m', hm, w7⟩ := hN σ7 H7 n7
        refine ⟨m', hm, i + 1, σ7, H7, I7.unpinned, T.keep _ _ _ st5 fun b hb o e => (I7.pin (b, o) (List.mem_append_right _ (List.mem_append_right _ (mem_pinsAt hb e)))).1, fun b hb => ?_, w7⟩
        obtain ⟨o, e, d⟩ := T.obj _ _ st5 b hb
        exact (I7.pin (b, o) (List.mem_append_right _ (List.mem_append_right _ (mem_pinsAt hb e)))).2.1
      refine wpAny_mono (hg _ _ _ _ _ _ s5 σ3 H5 x u _ I5' r5 (step x H5 y5)) (fun _ s6 ⟨σ6, H6, I6, q6⟩ => ?_) fun _ _ z => False.elim z
      refine wpAny_mono (ht _ _ _ _ _ _ s6 σ6 H6 _ I6 q6) (fun b s7 ⟨H7, I7, q7⟩ => ?_) fun _ _ z => False.elim z
      cases b with
      | false =>
        rw [if_neg Bool.false_ne_true]
        rw [if_neg Bool.false_ne_true] at q7
        exact back I7 q7
      | true =>
        rw [if_pos rfl]
        rw [if_pos rfl] at q7
        refine wpAny_mono (he _ _ _ _ _ _ s7 σ6 H7 _ I7 q7) (fun y s8 ⟨v, H8, I8, r8, xs, hx8, hz8, n8⟩ => ?_) fun _ _ z => False.elim z
        refine wpAny_mono (mt_append (X := compCx X (own ++ caps) scope cl HP.objs.size s₂ H2 fp) _ s8 σ6 H8 (.ref s₂.heap.objs.size) [v] (.ref s₂.heap.objs.size) [y] (fun _ H' => N σ6 H') I8 rfl (.cons r8 .nil) ⟨_, xs, v, rfl, rfl, hx8, hz8, n8⟩) (fun _ s9 ⟨_, H9, I9, _, n9⟩ => ?_) fun _ _ z => False.elim z
        exact back I9 n9
  exact codeAny_compStart_list (loop _ rfl) (T.self _ 0 _ _ _ tn4 (loop _ rfl))

theorem ps_setC {N : List Str} {sc : Scope} {own caps : List Str} {ks : List Nat} {elt tg iter : Expr} {ifs : List Expr} {scope : Scope} {pos spos pos' : Pos} {wi : TI} {g : TG} {tt : TT} {te : TE} {i : Nat} {x : Str}
    (hN : X.N = N) (hsc : X.env.scope = sc) (hc : X.calm = true) (S : CompSc N sc own caps ks scope) (hi : PI X tg iter wi)
    (hg : ∀ cl C s₂ H₂ fp, PG (compCx X (own ++ caps) scope cl C s₂ H₂ fp) tg g)
    (ht : ∀ cl C s₂ H₂ fp, PIfs (compCx X (own ++ caps) scope cl C s₂ H₂ fp) ifs tt)
    (he : ∀ cl C s₂ H₂ fp, PE (compCx X (own ++ caps) scope cl C s₂ H₂ fp) elt te)
    (hNd : X.N.Nodup) (hix : X.N[i]? = some x) (hx : Loc X.env.scope x)
    (hsw : swapsWith (.ListComp elt [⟨tg, iter, ifs, 0⟩] scope pos) (some (.Name x pos')) spos.line X.env = pure true)
    (hs : ∀ x, foldedSetIterable iter X.env x = pure x := by intro _; rfl)
    (hf : X.fn x = true ∨ X.env.scope.names.lookup x = some .local := by first | exact .inl rfl | exact .inr rfl | assumption) :
    PS X (.Assign [.Name x pos'] (.ListComp elt [⟨tg, iter, ifs, 0⟩] scope pos) spos) (tAsg (tComp own.length ks wi g tt te) (gName i)) := by
  intro pins s σ H D I h
  rw [exec_Assign_Name_used _ _ _ _ hsw]
  refine wpAny_bind (wpAny_standAt (wpAny_bind ?_))
  show wpAny _ X.A (do let _ ← comprehension (.ListComp elt [⟨tg, iter, ifs, 0⟩] scope pos) scope X.env _ (newList []) false (eval iter X.env) (some (assign (.Name x pos') X.env))) _ _ s
  refine wpAny_bind (wpAny_mono (comp_core (QQ := fun _ s' => SP X pins D .next s') hN hsc hc S hi hg ht he hs I ?_ h) (fun _ s' hq => wpAny_pure (wpAny_pure hq)) fun _ _ e => e)
  rintro C l H' s' ⟨m, hn⟩ I' hF q
  show wpAny (model X.prog X.w) X.A (assign (.Name x pos') X.env (.ref l)) (fun _ s'' => ∃ m, s''.heap.Ns C m ∧ ∀ h', Heap.SameBut C s''.heap h' → SP X pins D .next { s'' with heap := h' }) X.xe s'
  obtain ⟨f0, f1, f2, f3, f4, f5⟩ := hF
  refine wpAny_assign_Name (store_ok2 (v := .ref l) I' hNd hix hx rfl (fun s'' I'' ⟨b, hsb, hb⟩ => ?_) hf)
  have hCb : C ≠ b := by
    rcases hb with rfl | hb
    · exact f1
    · exact fun z => f4 x b hb z.symm
  refine ⟨m, hn.sameBut hsb hCb, fun h' hs' => ⟨_, H', I''.turned (t' := s''.toks) (fun c o hc e => hs'.extBut c o hc e) f0 f1 f3 f4 f5, q⟩⟩
theorem qs_setC {N : List Str} {sc : Scope} {own caps : List Str} {ks : List Nat} {elt tg iter : Expr} {ifs : List Expr} {scope : Scope} {pos spos pos' : Pos} {wi : TI} {g : TG} {tt : TT} {te : TE} {i : Nat} {x : Str}
    (hN : X.N = N) (hsc : X.env.scope = sc) (hc : X.calm = true) (S : CompSc N sc own caps ks scope) (hNd : X.N.Nodup) (hix : X.N[i]? = some x) (hx : Loc X.env.scope x)
    (hi : QI X tg iter wi)
    (hg : ∀ cl C s₂ H₂ fp, QG (compCx X (own ++ caps) scope cl C s₂ H₂ fp) tg g)
    (ht : ∀ cl C s₂ H₂ fp, QF (compCx X (own ++ caps) scope cl C s₂ H₂ fp) ifs tt)
    (he : ∀ cl C s₂ H₂ fp, QE (compCx X (own ++ caps) scope cl C s₂ H₂ fp) elt te)
    (hsw : swapsWith (.ListComp elt [⟨tg, iter, ifs, 0⟩] scope pos) (some (.Name x pos')) spos.line X.env = pure true := by rfl)
    (hs : ∀ x, foldedSetIterable iter X.env x = pure x := by intro _; rfl)
    (hf : X.fn x = true ∨ X.env.scope.names.lookup x = some .local := by first | exact .inl rfl | exact .inr rfl | assumption) :
    QS X (.Assign [.Name x pos'] (.ListComp elt [⟨tg, iter, ifs, 0⟩] scope pos) spos) (tAsg (tComp own.length ks wi g tt te) (gName i)) :=
  ⟨ps_setC hN hsc hc S hi.h (fun cl C s₂ H₂ fp => (hg cl C s₂ H₂ fp).h) (fun cl C s₂ H₂ fp => (ht cl C s₂ H₂ fp).h) (fun cl C s₂ H₂ fp => (he cl C s₂ H₂ fp).h) hNd hix hx hsw hs hf⟩
end
end L2

set_option Elab.async false
set_option linter.all false
set_option maxRecDepth 100000
set_option maxHeartbeats 4000000
namespace L2
open PySem PySem.Spec PyProof.Rows
section
variable {K : PySem.W.Frag} {H H' : Hp} {a p l : Addr} {cv : List (Int × Int)} {xs : List V}
theorem Pot.kp (h : Pot H p) (k : Kp l H H') (n : p ≠ l) : Pot H' p := by
  obtain ⟨x, y, h, r⟩ := h
  exact ⟨x, y, k _ _ h n, r⟩
theorem PrT.kpL (h : PrT H a cv) (k : Kp l H H') (hl : H l = some (.lst xs)) : PrT H' a cv := by
  obtain ⟨vs, h1, h2⟩ := h
  exact ⟨vs, k _ _ h1 (fun e => by subst e; rw [h1] at hl; cases hl), h2.kpL k hl⟩
theorem PrL.kpL (h : PrL H a cv) (k : Kp l H H') (hl : H l = some (.lst xs)) (hne : a ≠ l) : PrL H' a cv := by
  obtain ⟨vs, h1, h2⟩ := h
  exact ⟨vs, k _ _ h1 hne, h2.kpL k hl⟩
end
end L2

set_option Elab.async false
set_option linter.all false
set_option maxRecDepth 100000
set_option maxHeartbeats 4000000
namespace L2
open PySem PySem.Spec PyProof.Rows
/-! ### xs[::-1] -/
section
variable {X : Cx} {e st : Expr} {te : TE} {pos p2 : Pos}
def rRevL (K : PySem.W.Frag) : V → Hp → VK → Prop := fun x H Q => ∃ a xs, x = .ref a ∧ SqL K H a xs ∧ ∀ p, H p = none → Q (.ref p) (upd H p (.lst xs.reverse))
def rRevT (K : PySem.W.Frag) : V → Hp → VK → Prop := fun x H Q => ∃ a xs, x = .ref a ∧ SqT K H a xs ∧ ∀ p, H p = none → Q (.ref p) (upd H p (.tup xs.reverse))
end
section
variable {K : PySem.W.Frag} {H : Hp} {Q : VK} {a : Addr} {xs : List V} {l : List (Int × Int)}
theorem rd_revL (h1 : SqL K H a xs) (h : ∀ p H2, H p = none → H2 p = some (.lst xs.reverse) → Same H H2 → Q (.ref p) H2) : rRevL K (.ref a) H Q := ⟨a, xs, rfl, h1, fun p hp => h p _ hp upd_same (Same.new hp)⟩
theorem rd_revT (h1 : SqT K H a xs) (h : ∀ p H2, H p = none → H2 p = some (.tup xs.reverse) → Same H H2 → Q (.ref p) H2) : rRevT K (.ref a) H Q := ⟨a, xs, rfl, h1, fun p hp => h p _ hp upd_same (Same.new hp)⟩
theorem PrL.rev (h1 : PrL H a l) (h : ∀ p H2, H p = none → PrL H2 p l.reverse → Same H H2 → Q (.ref p) H2) : rRevL K (.ref a) H Q := by
  obtain ⟨vs, g, p1⟩ := h1
  exact rd_revL (SqL.of g) fun p H2 n2 f2 S2 => h p H2 n2 ⟨_, f2, (p1.rev).same S2⟩ S2
theorem PrT.rev (h1 : PrT H a l) (h : ∀ p H2, H p = none → PrT H2 p l.reverse → Same H H2 → Q (.ref p) H2) : rRevT K (.ref a) H Q := by
  obtain ⟨vs, g, p1⟩ := h1
  exact rd_revT (SqT.of g) fun p H2 n2 f2 S2 => h p H2 n2 ⟨_, f2, (p1.rev).same S2⟩ S2
end
/-! ### range(i, j, -1) -/
def Itd (lo : Int) (n : Nat) : It := ⟨fun i _ => i < n, fun i H x H' => H' = H ∧ x = .int (lo + i * (-1)), fun i _ => n ≤ i⟩
section
variable {X : Cx} {tg : Expr}
def rRngD (vs : List V) (H : Hp) (R : It → Hp → Prop) : Prop := ∃ i j : Int, vs = [.int i, .int j, .int (-1)] ∧ (-(2 ^ 62) ≤ i ∧ i < 2 ^ 62 ∧ -(2 ^ 62) ≤ j ∧ j < 2 ^ 62) ∧ R (Itd i (i - j).toNat) H
def iRngD (ta : TA) : TI := fun σ H R => ta σ H fun vs H1 => rRngD vs H1 R
end
section
variable {σ : St} {H : Hp}
theorem rd_rngD {ta : TA} {R : It → Hp → Prop} (h : ta σ H fun vs H1 => rRngD vs H1 R) : iRngD ta σ H R := h
end
/-! ### texts: join, +, ==, index -/
theorem str_len (a b : Str) : (a ++ b).length = a.length + b.length := by
  show (a.cps ++ b.cps).size = a.cps.size + b.cps.size
  exact Array.size_append
section
variable {X : Cx}
theorem rd_neS {H : Hp} {Q : VK} {i j : Str} (h : Q (.bl (!decide (i = j))) H) : rNe (.str i) (.str j) H Q := ⟨rfl, by
  have : decide (V.str i = V.str j) = decide (i = j) := by
    by_cases e : i = j
    · subst e; simp
    · rw [decide_eq_false e, decide_eq_false (fun z => e (V.str.inj z))]
  rw [this]; exact h⟩
theorem rd_bm0 {K : PySem.W.Frag} {T : String} {r : V → List V → Hp → VK → Prop} {to : TE} {σ : St} {H : Hp} {Q : VK} (h : to σ H fun x H1 => tyV K T x H1 ∧ r x [] H1 Q) : tBM0 K T r to σ H Q := h
end
end L2

set_option Elab.async false
set_option linter.all false
set_option maxRecDepth 100000
set_option maxHeartbeats 4000000
namespace L2
open PySem PySem.Spec PyProof.Rows
/-! ### a walk over a list or a tuple, whichever it is -/
def rItS (K : PySem.W.Frag) (x : V) (H : Hp) (R : It → Hp → Prop) : Prop := (∃ a, x = .ref a ∧ (∃ xs, SqL K H a xs) ∧ R (Itl K a) H) ∨ (∃ a, x = .ref a ∧ (∃ xs, SqT K H a xs) ∧ R (Itt K a) H)
def iSeq (K : PySem.W.Frag) (tl : TE) : TI := fun σ H R => tl σ H fun x H1 => rItS K x H1 R
theorem ki_seq {X : Cx} {tg e : Expr} {te : TE} (K : PySem.W.Frag) (hK : X.K = K) (hl : QE X e te) : QI X tg e (iSeq K te) := by
  subst hK
  refine ⟨?_⟩
  intro pins s σ H R I h
  refine thn (hl.h pins s σ H _ I h) fun v s1 ⟨x, H1, I1, r1, q1⟩ => ?_
  rcases q1 with ⟨a, e, ⟨xs, hq⟩, q⟩ | ⟨a, e, ⟨xs, hq⟩, q⟩
  · subst e
    cases r1
    obtain ⟨its, rv, p, hz⟩ := I1.list hq
    refine wpAny_pyIter_list p.isList ?_
    refine ⟨s1.heap.objs.size, [s1.heap.objs.size], _, _, H1, rfl, I1.kept (t' := s1.toks) fun b o e => Heap.get?_push_of_some _ e, turn_list a _, ⟨_, Heap.get?_push_size _ rfl, rfl, rfl⟩, fun b hb => ?_, q⟩
    have e : b = s1.heap.objs.size := by simpa using hb
    subst e
    exact I1.fpOk (Nat.le_refl _) (I1.hok.fresh (Nat.le_refl _))
  · subst e
    cases r1
    obtain ⟨its, rv, p, hz⟩ := I1.tuple hq
    refine wpAny_pyIter_tuple (show s1.heap.IsTuple a its.toArray from p) ?_
    refine ⟨s1.heap.objs.size, [s1.heap.objs.size], _, _, H1, rfl, I1.kept (t' := s1.toks) fun b o e => Heap.get?_push_of_some _ e, turn_tuple a _, ⟨_, Heap.get?_push_size _ rfl, rfl, rfl⟩, fun b hb => ?_, q⟩
    have e : b = s1.heap.objs.size := by simpa using hb
    subst e
    exact I1.fpOk (Nat.le_refl _) (I1.hok.fresh (Nat.le_refl _))
/-- a list (true) or a tuple -/
def SQ (b : Bool) (H : Hp) (a : Addr) (vs : List V) : Prop := H a = some (if b then .lst vs else .tup vs)
section
variable {K : PySem.W.Frag} {σ : St} {H : Hp} {D : Ends}
theorem rd_iSeq {tl : TE} {R : It → Hp → Prop} (h : tl σ H fun x H1 => rItS K x H1 R) : iSeq K tl σ H R := h
theorem rd_forS {b : Bool} {a : Addr} {xs : List V} {g : TG} {tb : TS} (Pv : Nat → St → Hp → Prop) (hq : SQ b H a xs) (h0 : Pv 0 σ H) (hl : ∀ i σ H, i ≤ xs.length → Pv i σ H → SQ b H a xs)
    (hs : ∀ i x σ H, xs[i]? = some x → Pv i σ H → g x σ H fun σ2 H2 => tb { D with nx := Pv (i + 1), ct := Pv (i + 1), bk := D.nx } σ2 H2) (hd : ∀ σ H, Pv xs.length σ H → D.nx σ H) :
    rItS K (.ref a) H (fun J H1 => rFor J g tb D σ H1) := by
  cases b with
  | true => exact .inl ⟨a, rfl, ⟨xs, SqL.of hq⟩, rd_forL Pv h0 (fun i σ H hi p => SqL.of (hl i σ H hi p)) hs hd⟩
  | false => exact .inr ⟨a, rfl, ⟨xs, SqT.of hq⟩, rd_forT Pv h0 (fun i σ H hi p => SqT.of (hl i σ H hi p)) hs hd⟩
end
theorem SQ.same {b : Bool} {H H' : Hp} {a : Addr} {vs : List V} (h : SQ b H a vs) (s : Same H H') : SQ b H' a vs := s _ _ h
theorem SQ.kp {b : Bool} {H H' : Hp} {a l : Addr} {vs : List V} (h : SQ b H a vs) (k : Kp l H H') (n : a ≠ l) : SQ b H' a vs := k _ _ h n
end L2

set_option Elab.async false
set_option linter.all false
set_option maxRecDepth 100000
set_option maxHeartbeats 4000000
namespace L2
open PySem PySem.Spec PyProof.Rows
section
variable {X : Cx} {pos : Pos}
def rPar (i j : Nat) (vs : List V) (D : Ends) (σ : St) (H : Hp) : Prop := ∃ v w, vs = [v, w] ∧ D.nx ((σ.set i (some v)).set j (some w)) H
theorem rd_par0 {i j : Nat} {ta : TA} {D : Ends} {σ : St} {H : Hp} (h : ta σ H fun vs H1 => rPar i j vs D σ H1) : tPar i j ta D σ H := h
theorem rd_par {i j : Nat} {v w : V} {D : Ends} {σ : St} {H : Hp} (h : D.nx ((σ.set i (some v)).set j (some w)) H) : rPar i j [v, w] D σ H := ⟨v, w, rfl, h⟩
end
end L2

set_option Elab.async false
set_option linter.all false
set_option maxRecDepth 100000
set_option maxHeartbeats 4000000
namespace L2
open PySem PySem.Spec PyProof.Rows PySem.W
/-! ### a sort asks of its items alone -/
def AsksP (n : Nat) {α : Type} : KasT α → (α → Prop) → Prop
  | .ret a, R => R a
  | .ask i j k, R => i < n ∧ j < n ∧ ∀ b, AsksP n (k b) R
theorem AsksP.bind {n : Nat} {α β : Type} {f : α → KasT β} {R : α → Prop} {R' : β → Prop} (h : ∀ a, R a → AsksP n (f a) R') : ∀ t : KasT α, AsksP n t R → AsksP n (t.bind f) R'
  | .ret a, g => h a g
  | .ask i j k, g => ⟨g.1, g.2.1, fun b => AsksP.bind h (k b) (g.2.2 b)⟩
theorem wp_evQ {n : Nat} {cmp : Nat → Nat → (Bool → Shared → Prop) → Shared → Prop} {c : Nat → Nat → Bool} {s : Shared} (hc : ∀ i j C, i < n → j < n → C (c i j) s → cmp i j C s) {α : Type} {Q : α → Shared → Prop} {R : α → Prop} : ∀ t : KasT α, AsksP n t R → Q (evT c t) s → t.kasWp cmp Q s
  | .ret _, _, h => h
  | .ask i j k, g, h => hc i j _ g.1 g.2.1 (wp_evQ hc (k (c i j)) (g.2.2 _) h)
section
variable {n : Nat}
def Inn (n : Nat) (p : Array Nat) : Prop := 0 < n ∧ ∀ v ∈ p.toList, v < n
theorem Inn.at {p : Array Nat} (h : Inn n p) (i : Nat) : p.getD i 0 < n := by
  by_cases hi : i < p.size
  · have := get_gt0 (p := p) hi
    exact h.2 _ (Array.mem_toList_iff.mpr (Array.mem_of_getElem? this))
  · have : p.getD i 0 = 0 := by simp [Array.getD, hi]
    rw [this]
    exact h.1
theorem Inn.perm {p q : Array Nat} (h : Inn n p) (e : q.toList.Perm p.toList) : Inn n q := ⟨h.1, fun v hv => h.2 v (e.mem_iff.mp hv)⟩
theorem Inn.rev {p : Array Nat} (h : Inn n p) (i j : Nat) : Inn n (kas_rev p i j) := h.perm (rev_perm p i j)
theorem asks_asc {p : Array Nat} (h : Inn n p) : ∀ f a, AsksP n (kas_asc p f a) (fun _ => True)
  | 0, _ => trivial
  | f + 1, a => ⟨h.at _, h.at _, fun b => by
    cases b with
    | true => exact trivial
    | false => exact asks_asc h f (a + 1)⟩
theorem asks_desc : ∀ (f : Nat) {p : Array Nat} (a q : Nat), Inn n p → AsksP n (kas_desc f p a q) (fun r => Inn n r.1)
  | 0, _, _, _, h => h
  | f + 1, p, a, q, h => ⟨h.at _, h.at _, fun b => by
    cases b with
    | true =>
      show AsksP n (if q > 0 then kas_desc f (kas_rev p (a - (q + 1)) a) (a + 1) 0 else kas_desc f p (a + 1) 0) _
      split
      · exact asks_desc f _ _ (h.rev _ _)
      · exact asks_desc f _ _ h
    | false =>
      refine ⟨h.at _, h.at _, fun d => ?_⟩
      cases d with
      | true => exact h
      | false => exact asks_desc f _ _ h⟩
theorem asks_tail {p : Array Nat} (h : Inn n p) (m k : Nat) : AsksP n (kas_tail3 m k p) (fun r => Inn n r.2) := by
  unfold kas_tail3
  refine AsksP.bind (R := fun _ => True) (fun a _ => ?_) _ (asks_asc (h.rev _ _) _ _)
  exact h.rev _ _
theorem asks_dpart {p : Array Nat} (h : Inn n p) (m k : Nat) : AsksP n (kas_descPart m k p) (fun r => Inn n r.2) := by
  refine AsksP.bind (R := fun r => Inn n r.1) (fun r hr => ?_) _ (asks_desc _ _ _ h)
  show AsksP n (if r.2.2 > 0 then _ else _) _
  split
  · exact asks_tail (hr.rev _ _) _ _
  · exact asks_tail hr _ _
theorem asks_count {p : Array Nat} (h : Inn n p) (k : Nat) : AsksP n (kas_count k p) (fun r => Inn n r.2) := by
  refine AsksP.bind (R := fun _ => True) (fun m _ => ?_) _ (asks_asc h _ _)
  show AsksP n (if (m == k) = true then _ else _) _
  split
  · exact h
  · split
    · refine ⟨h.at _, h.at _, fun b => ?_⟩
      cases b with
      | true => exact h
      | false => exact asks_dpart (h.rev _ _) _ _
    · exact asks_dpart h _ _
theorem asks_place {p : Array Nat} (h : Inn n p) (k : Nat) : ∀ f l r, AsksP n (kas_place p k f l r) (fun _ => True)
  | 0, _, _ => trivial
  | f + 1, l, r => by
    show AsksP n (if l ≥ r then _ else _) _
    split
    · exact trivial
    · refine ⟨h.at _, h.at _, fun b => ?_⟩
      cases b with
      | true => exact asks_place h k f _ _
      | false => exact asks_place h k f _ _
theorem asks_bin : ∀ (f : Nat) {p : Array Nat} (k : Nat), Inn n p → AsksP n (kas_bin f p k) (fun _ => True)
  | 0, _, _, _ => trivial
  | f + 1, p, k, h => AsksP.bind (R := fun _ => True) (fun l _ => asks_bin f _ (h.perm (Array.perm_iff_toList_perm.mp (bubble_perm p k _)))) _ (asks_place h k _ _ _)
theorem asks_sort (hn : 0 < n) : AsksP n (kas_sort n) (fun _ => True) := by
  have h : Inn n (List.toArray (List.range n)) := ⟨hn, fun v hv => by simpa using hv⟩
  refine AsksP.bind (R := fun r => Inn n r.2) (fun r hr => ?_) _ (asks_count h _)
  show AsksP n (if r.1 < n then _ else _) _
  split
  · exact asks_bin _ _ hr
  · exact trivial
end
/-! ### pairs of ints, by order -/
def ltP (p q : Int × Int) : Bool := decide (p.1 < q.1) || (decide (p.1 = q.1) && decide (p.2 < q.2))
theorem ltP_iff {p q : Int × Int} : ltP p q = true ↔ p.1 < q.1 ∨ (p.1 = q.1 ∧ p.2 < q.2) := by simp [ltP]
theorem ltP_false {p q : Int × Int} : ltP p q = false ↔ ¬ (p.1 < q.1 ∨ (p.1 = q.1 ∧ p.2 < q.2)) := by
  rw [← ltP_iff]; simp
/-- what the items of a sort are: tuples of two ints, not at a -/
def TupAt (h : Heap) (a : Addr) (v : Value) (p : Int × Int) : Prop := ∃ b t u, v = .ref b ∧ b ≠ a ∧ IsTup h b #[.int p.1 t, .int p.2 u]
def TupsAt (h : Heap) (a : Addr) (vs : List Value) (l : List (Int × Int)) : Prop := Paired (TupAt h a) vs l
theorem TupsAt.get {h : Heap} {a : Addr} : ∀ {vs : List Value} {l : List (Int × Int)}, TupsAt h a vs l → ∀ {i : Nat}, i < l.length → TupAt h a (vs.getD i .none) (l.getD i (0, 0))
  | _, _, .nil, i, hi => absurd hi (Nat.not_lt_zero _)
  | _, _, .cons g t, 0, _ => g
  | _, _, .cons g t, i + 1, hi => by
    have := TupsAt.get t (i := i) (by simpa using hi)
    simpa using this
theorem TupsAt.katT {h : Heap} {a : Addr} : ∀ {vs : List Value} {l : List (Int × Int)}, TupsAt h a vs l → ∃ fs, KatTups h vs fs ∧ fs.length = vs.length ∧ ∀ v ∈ fs, ∃ x t, v = .int x t
  | _, _, .nil => ⟨[], .nil, rfl, fun v hv => by cases hv⟩
  | _, _, @Paired.cons _ _ _ v p _ _ ⟨b, t, u, e, _, o, ho, hc, k, hd⟩ r => by
    obtain ⟨fs, h1, h2, h3⟩ := TupsAt.katT r
    subst e
    refine ⟨.int p.1 t :: fs, .cons ho hc hd rfl h1, by simp [h2], fun v hv => ?_⟩
    rcases List.mem_cons.mp hv with rfl | hv
    · exact ⟨_, _, rfl⟩
    · exact h3 v hv
section
variable {prog : Program} {w : World} {A : Around} {E : Value → Shared → Prop} {s : Shared}
theorem keyLt_pairs {a : Addr} {v v' : Value} {p q : Int × Int} {C : Bool → Shared → Prop} (hp : TupAt s.heap a v p) (hq : TupAt s.heap a v' q) (h : C (ltP p q) s) : wpAny (model prog w) A (keyLt' (tuples' true) v v') C E s := by
  obtain ⟨b, t, u, rfl, _, o, ho, hc, k, hd⟩ := hp
  obtain ⟨b', t', u', rfl, _, o', ho', hc', k', hd'⟩ := hq
  refine kat_lt ho hd ho' hd' ?_
  refine kat_cons (wpAny_eqBool_int ?_)
  by_cases e1 : p.1 = q.1
  · rw [show (p.1 == q.1) = true by simp [e1]]
    refine kat_yes (kat_cons (wpAny_eqBool_int ?_))
    by_cases e2 : p.2 = q.2
    · rw [show (p.2 == q.2) = true by simp [e2]]
      refine kat_yes (kat_nil ?_)
      have : ltP p q = false := by rw [ltP_false]; omega
      rw [this] at h
      exact h
    · rw [show (p.2 == q.2) = false by simp [e2]]
      refine kat_no (kat_one _ _ (lt_int ?_))
      have : ltP p q = decide (p.2 < q.2) := by simp [ltP, e1]
      rw [this] at h
      exact h
  · rw [show (p.1 == q.1) = false by simp [e1]]
    refine kat_no (oneLt_int ?_)
    have : ltP p q = decide (p.1 < q.1) := by simp [ltP, e1]
    rw [this] at h
    exact h
theorem list_sort_pairs {a : Addr} {vs : List Value} {l : List (Int × Int)} {n : Nat} {P : Fin → Shared → Prop} (ho : s.heap.get? a = some (seqObj "list" vs.toArray n))
    (hT : TupsAt s.heap a vs l) (hd : l.Nodup) (h64 : vs.length < 64)
    (h : ∀ (ix : List Nat), ix.Perm (List.range vs.length) → (ix.map fun i => l.getD i (0, 0)).Pairwise (fun p q => ltP p q = true) → P (.done (.ret .none)) { s with heap := sortedHeap s.heap a vs (ix.map fun i => vs.getD i Value.none).toArray }) :
    wpAny (model prog w) A (Builtin.«list.sort» ⟨[.ref a], []⟩) P E s := by
  have hlen : vs.length = l.length := Paired.length hT
  have ha : a < s.heap.objs.size := Heap.lt_size ho
  rw [list_sort_plain]
  refine wpAny_bind (listItems_at ho rfl ?_)
  refine wpAny_bind (listUpdate_at ho rfl ?_ (by rw [List.size_toArray, sizeLine_eq]; omega) (Nat.zero_le _))
  obtain ⟨e1, ho1⟩ : ∃ e1, (s.heap.update a (Obj.mapSeq fun _ => (#[] : Array Value))).get? a = some (seqObj "list" #[] e1) := ⟨_, get?_update_seq ho fun _ => #[]⟩
  refine wpAny_bind (seqEpoch_at ho1 rfl ?_)
  refine wpAny_bind (wpAny_newTuple ?_ (by show vs.length ≤ _; rw [sizeLine_eq]; omega))
  refine wpAny_bind (wpAny_newList ?_ (Nat.zero_le _))
  refine wpAny_holding ?_
  generalize hh : (((s.heap.update a (Obj.mapSeq fun _ => (#[] : Array Value))).push (seqObj "tuple" vs.toArray 0)).push (seqObj "list" #[] 0)) = h3
  have ho3 : h3.get? a = some (seqObj "list" #[] e1) := by rw [← hh]; exact Heap.get?_push_of_some _ (Heap.get?_push_of_some _ ho1)
  have keep : ∀ b o, b ≠ a → s.heap.get? b = some o → h3.get? b = some o := fun b o hb e => by
    rw [← hh]
    exact Heap.get?_push_of_some _ (Heap.get?_push_of_some _ ((Heap.get?_update_other _ _ (Ne.symm hb)).trans e))
  have hT3 : TupsAt h3 a vs l := Paired.mapP hT fun v p ⟨b, t, u, e, hb, o, hx, r⟩ => ⟨b, t, u, e, hb, o, keep b o hb hx, r⟩
  have done : ∀ (ix : List Nat), ix.Perm (List.range vs.length) → (ix.map fun i => l.getD i (0, 0)).Pairwise (fun p q => ltP p q = true) →
      P (.done (.ret .none)) { s with heap := h3.update a (Obj.mapSeq fun _ => (ix.map fun i => vs.getD i Value.none).toArray) } := fun ix hp hs => by
    have := h ix hp hs
    unfold sortedHeap at this
    rw [hh] at this
    exact this
  show wpAny (model prog w) A _ P E { s with heap := h3 }
  dsimp only
  by_cases h2 : vs.toArray.size < 2
  · rw [if_pos h2, if_pos h2]
    refine wpAny_bind (wpAny_pure ?_)
    have hsmall : (List.range vs.length).map (fun i => vs.getD i Value.none) = vs := by
      rw [List.size_toArray] at h2
      match vs, h2 with
      | [], _ => rfl
      | [v], _ => rfl
    have hpw : ((List.range vs.length).map fun i => l.getD i (0, 0)).Pairwise (fun p q => ltP p q = true) := by
      rw [List.size_toArray] at h2
      match vs, h2 with
      | [], _ => exact List.Pairwise.nil
      | [v], _ => exact List.pairwise_singleton _ _
    have D := done (List.range vs.length) (List.Perm.refl _) hpw
    rw [hsmall] at D
    show wpAny (model prog w) A ((pure () : StateT SortSt Sem Unit).run (SortSt.mk' general' (vs.toArray.zip vs.toArray) #[] 7 none) >>= _) P E { s with heap := h3 }
    rw [StateT.run_pure]
    refine wpAny_bind (wpAny_pure ?_)
    dsimp only
    have hout : ((arrOf (SortSt.mk' general' (vs.toArray.zip vs.toArray) #[] 7 none)).map (·.2)) = vs.toArray := by
      show ((vs.toArray.zip vs.toArray).map (·.2)) = vs.toArray
      apply Array.toList_inj.mp
      rw [Array.toList_map, Array.toList_zip]
      exact List.map_snd_zip (Nat.le_refl _)
    rw [hout]
    refine wpAny_bind (seqEpoch_at (s := { s with heap := h3 }) ho3 rfl ?_)
    refine wpAny_bind (listUpdate_at (s := { s with heap := h3 }) ho3 rfl ?_ (Nat.zero_le _) (by rw [List.size_toArray, sizeLine_eq]; omega))
    simp only [bne_self_eq_false, Bool.false_eq_true, if_false]
    exact wpAny_pure D
  · rw [if_neg h2, if_neg h2]
    have h2' : 2 ≤ vs.length := by rw [List.size_toArray] at h2; omega
    obtain ⟨fs, k1, k2, k3⟩ := hT3.katT
    refine wpAny_bind (kat_kind (T := .type "int") (s := { s with heap := h3 }) k1 (by omega) (fun v hv => ?_) (by decide) ?_)
    · obtain ⟨x, t, rfl⟩ := k3 v hv
      exact Looks.of_pure rfl
    have hkk : tuples' (Value.type "int" != Value.type "tuple") = tuples' true := by
      have : (Value.type "int" != Value.type "tuple") = true := by decide
      rw [this]
    rw [hkk]
    let c : Nat → Nat → Bool := fun i j => ltP (l.getD i (0, 0)) (l.getD j (0, 0))
    have O : Ord c vs.length := by
      refine ⟨fun i j k h1 h2 => ?_, fun i j h1 => ?_, fun i j hi hj hne h1 => ?_⟩
      · have h1 := ltP_iff.mp h1
        have h2 := ltP_iff.mp h2
        exact ltP_iff.mpr (by omega)
      · have h1 := ltP_iff.mp h1
        exact ltP_false.mpr (by omega)
      · have h1 := ltP_false.mp h1
        refine ltP_iff.mpr ?_
        have hne2 : l.getD i (0, 0) ≠ l.getD j (0, 0) := by
          intro e
          have hi' : i < l.length := by omega
          have hj' : j < l.length := by omega
          have hpw := List.pairwise_iff_getElem.mp (List.nodup_iff_pairwise_ne.mp hd)
          have e1 : l.getD i (0, 0) = l[i] := by simp [hi']
          have e2 : l.getD j (0, 0) = l[j] := by simp [hj']
          rw [e1, e2] at e
          rcases Nat.lt_trichotomy i j with z | z | z
          · exact hpw i j hi' hj' z e
          · exact hne z
          · exact hpw j i hj' hi' z e.symm
        have hne3 : ¬ ((l.getD i (0, 0)).1 = (l.getD j (0, 0)).1 ∧ (l.getD i (0, 0)).2 = (l.getD j (0, 0)).2) := fun z => hne2 (Prod.ext z.1 z.2)
        omega
    obtain ⟨S1, S2⟩ := sort_ev O (by omega)
    refine wpAny_bind (wpAny_mono (kat_run (E := E) (vs := vs) (ks := vs) (Q := fun st' s' => s' = { s with heap := h3 } ∧ arrOf st' = (evT c (kas_sort vs.length)).map (kas_item (vs.toArray.zip vs.toArray)) ∧ failedOf st' = none)
      (G := fun p s' => s' = { s with heap := h3 } ∧ p = evT c (kas_sort vs.length)) rfl h2' h64 (fun p st' s' a1 a2 a3 a4 => ⟨a4.1, by rw [a2, a4.2], a3⟩)
      (wp_evQ (c := c) (n := vs.length) (fun i j C hi hj hC => ?_) _ (asks_sort (by omega)) ⟨rfl, rfl⟩)) ?_ fun _ _ e => e)
    · exact keyLt_pairs (hT3.get (by omega)) (hT3.get (by omega)) hC
    · rintro ⟨⟨⟩, st'⟩ s' ⟨rfl, har, hf⟩
      dsimp only
      rw [kat_snds rfl har]
      have hperm : (evT c (kas_sort vs.length)).toList.Perm (List.range vs.length) := S1
      have hsz : (evT c (kas_sort vs.length)).size = vs.length := by have := S1.length_eq; simpa using this
      have hpw : ((evT c (kas_sort vs.length)).toList.map fun i => l.getD i (0, 0)).Pairwise (fun p q => ltP p q = true) := by
        rw [List.pairwise_map, List.pairwise_iff_getElem]
        intro i j hi hj hij
        have := S2 i j hij (by simp at hj; omega)
        have e1 : gt0 (evT c (kas_sort vs.length)) i = (evT c (kas_sort vs.length)).toList[i] := gt0_of (by rw [← Array.getElem?_toList, List.getElem?_eq_getElem hi])
        have e2 : gt0 (evT c (kas_sort vs.length)) j = (evT c (kas_sort vs.length)).toList[j] := gt0_of (by rw [← Array.getElem?_toList, List.getElem?_eq_getElem hj])
        rw [e1, e2] at this
        exact this
      refine wpAny_bind (seqEpoch_at (s := { s with heap := h3 }) ho3 rfl ?_)
      refine wpAny_bind (listUpdate_at (s := { s with heap := h3 }) ho3 rfl ?_ (Nat.zero_le _) ?_)
      · rw [hf]
        simp only [bne_self_eq_false, Bool.false_eq_true, if_false]
        exact wpAny_pure (done _ hperm hpw)
      · show (((evT c (kas_sort vs.length)).toList.map fun i => vs.getD i Value.none).toArray).size ≤ _
        rw [List.size_toArray, List.length_map, Array.length_toList, hsz, sizeLine_eq]
        omega
end
end L2

set_option Elab.async false
set_option linter.all false
set_option maxRecDepth 100000
set_option maxHeartbeats 4000000
namespace L2
open PySem PySem.Spec PyProof.Rows PySem.W
/-! ### several new objects at once -/
section
variable {X : Cx} {pins : List (Addr × Obj)} {σ : St} {H H' : Hp} {s : Shared} {h' : Heap}
theorem Inv.old (I : Inv X pins σ H s) {b : Addr} {o : HO} (e : H b = some o) : b < s.heap.objs.size := by
  by_cases h : b < s.heap.objs.size
  · exact h
  · rw [I.hok.fresh (Nat.le_of_not_lt h)] at e
    cases e
theorem Inv.many {t' : Nat} (I : Inv X pins σ H s) (k : ∀ b u, s.heap.get? b = some u → h'.get? b = some u) (hs : ∀ b, b < s.heap.objs.size → H' b = H b) (new : ∀ b o, s.heap.objs.size ≤ b → H' b = some o → ObjOk X.prog X.w H' h' b o) :
    Inv X pins σ H' { s with heap := h', toks := t' } := by
  have old : ∀ b o, H b = some o → H' b = some o := fun b o e => (hs b (I.old e)).trans e
  refine I.un ⟨fun b u q _ _ _ => k b u q, fun b u q _ _ _ => ⟨u.slots, k b u q⟩, fun b u q n _ => (hs b (Heap.lt_size q)).trans n, fun b u q _ => ⟨u, k b u q⟩, fun b xs q => old _ _ q, fun b u xs q => old _ _ q, fun b ps q => ⟨#[], by rw [old _ _ q]; simp⟩⟩ fun b u e => ?_
  by_cases hb : b < s.heap.objs.size
  · rw [hs b hb] at e
    exact (I.hok b u e).stay (fun c v _ q => k c v q) (fun c q => old _ _ q) fun c xs q => old _ _ q
  · exact new b u (Nat.le_of_not_lt hb) e
end
/-! ### sorted(d.items()) -/
section
variable {X : Cx} {o : Expr} {to : TE} {apos cpos : Pos}
def tItemsOf (to : TE) : (σ : St) → Hp → (Addr → List (Int × Int) → Hp → Prop) → Prop := fun σ H R => to σ H fun x H1 => ∃ a m, x = .ref a ∧ H1 a = some (.dK (dkOf m)) ∧ R a m H1
theorem items_call {pins : List (Addr × Obj)} {s : Shared} {σ : St} {H : Hp} {R : Addr → List (Int × Int) → Hp → Prop} (ho : PE X o to) (I : Inv X pins σ H s) (h : tItemsOf to σ H R)
    (hbase : attributeBase o "items" X.env (eval o X.env) = eval o X.env) (hline : (apos.endLine == cpos.line) = true) :
    wpAny (model X.prog X.w) X.A (eval (.Call (.Attribute o "items" apos) [] [] cpos) X.env) (fun u s1 => ∃ r a m H1, u = .ref r ∧ s1.heap.objs.size = r + 1 ∧ s1.heap.IsItemsView r a ∧ H1 a = some (.dK (dkOf m)) ∧ Inv X pins σ H1 s1 ∧ R a m H1) X.xe s := by
  refine wpAny_Call_method0_late hbase hline (thn (ho pins s σ H _ I h) fun v s1 ⟨x, H1, I1, r1, a, m, ex, hd, q1⟩ => ?_)
  subst ex
  cases r1
  obtain ⟨z, hsm, vs, rel, dd⟩ := dk_of I1.hok hd
  refine ⟨"dict", "dict.items", PySem.F.plainAttrs_dict, PySem.F.slot_dict_items, PySem.F.type_dict_items, dd.typeIs, dict_noDict I1 (DGet.k (k := Sum.inl 0) hd), ?_⟩
  refine Calls.callWith_builtin rfl (PySem.evalArgs_none ?_)
  refine call_meetsIn PySem.F.slot_dict_items dd.typeIs PySem.F.entry_dict_items (PySem.F.args_dict_items_1 _) (meets_dict_items (mixKind X.prog X.w) a hsm) ⟨⟨vs, dd⟩, ?_⟩
  exact ⟨_, a, m, H1, rfl, by rw [Heap.size_push], ⟨_, Heap.get?_push_size _ rfl, rfl, rfl⟩, hd, I1.kept (t' := s1.toks) fun b o e => Heap.get?_push_of_some _ e, q1⟩
end
theorem dk_get {m : List (Int × Int)} {vs : List (Key × Value)} (rel : KV (dkOf m) vs) : vs.length = m.length ∧ ∀ (j : Nat) (k : Key) (x : Value), vs[j]? = some (k, x) → ∃ (p : Int × Int) (t : Tok), m[j]? = some p ∧ k = Sum.inl p.1 ∧ x = Value.int p.2 t := by
  have hl : vs.length = m.length := by
    have := rel.length
    simp [dkOf] at this
    omega
  refine ⟨hl, ?_⟩
  induction m generalizing vs with
  | nil => intro j k x e; cases rel; simp at e
  | cons p m ih =>
    cases rel with
    | cons h t =>
      rename_i q vs'
      intro j k x e
      cases j with
      | zero =>
        simp at e
        obtain ⟨h1, h2⟩ := h
        rw [e] at h1 h2
        obtain ⟨t', rfl⟩ := h2
        exact ⟨p, t', rfl, h1.symm, rfl⟩
      | succ j =>
        obtain ⟨p', t', g1, g2, g3⟩ := ih t (by simpa using hl) j k x (by simpa using e)
        exact ⟨p', t', by simpa using g1, g2, g3⟩
theorem paired_get {α β : Type} {F : α → β → Prop} : ∀ {l₁ : List α} {l₂ : List β}, l₁.length = l₂.length → (∀ (i : Nat) a b, l₁[i]? = some a → l₂[i]? = some b → F a b) → Paired F l₁ l₂
  | [], [], _, _ => .nil
  | [], _ :: _, h, _ => by simp at h
  | _ :: _, [], h, _ => by simp at h
  | a :: l₁, b :: l₂, h, f => .cons (f 0 a b rfl rfl) (paired_get (by simpa using h) fun i x y e1 e2 => f (i + 1) x y (by simpa using e1) (by simpa using e2))
/-- new tuples of two ints at the addresses as -/
theorem tups_of {P : Program} {w : World} {m : List (Int × Int)} {vs : List (Key × Value)} {lo : Addr} {h : Heap} {as : List Addr} (rel : KV (dkOf m) vs) (hl : as.length = vs.length) (g : KdxG (mixKind P w) vs lo h as) (a : Addr) (hna : ∀ b ∈ as, b ≠ a) :
    TupsAt h a (as.map Value.ref) m := by
  obtain ⟨hvl, hv⟩ := dk_get rel
  refine paired_get (by rw [List.length_map]; omega) fun i v p e1 e2 => ?_
  rw [List.getElem?_map] at e1
  cases hb : as[i]? with
  | none => rw [hb] at e1; cases e1
  | some b =>
    rw [hb] at e1
    cases e1
    obtain ⟨key, k, x, g1, g2, g3⟩ := g.pairs i b hb
    obtain ⟨p', t', e3, e4, e5⟩ := hv i k x g1
    rw [e2] at e3
    cases e3
    subst e4 e5
    rcases keyIs_shape (k := Sum.inl p.1) (v := key) g2 with ⟨y, t, z1, z2⟩ | ⟨y, t, z1, z2⟩
    · cases z1
      subst z2
      exact ⟨b, t, t', rfl, hna b (List.mem_of_getElem? hb), _, g3, rfl, _, rfl⟩
    · cases z1

/-- the addresses of the tuples, in the order of the sort -/
theorem tups_objs {P : Program} {w : World} {h : Heap} {a b : Addr} {p : Int × Int} {Hn : Hp} (e : TupAt h a (.ref b) p) : ObjOk P w Hn h b (.tup [.int p.1, .int p.2]) := by
  obtain ⟨b', t, u, e1, _, ht⟩ := e
  cases e1
  exact ⟨⟨by show 2 ≤ sizeLine; decide, fun z => absurd rfl (z p.1)⟩, [.int p.1 t, .int p.2 u], .cons ⟨t, rfl⟩ (.cons ⟨u, rfl⟩ .nil), ht⟩
/-- the heap of new tuples and their list -/
def layP (H : Hp) (as : List Addr) (ps : List (Int × Int)) (l : Addr) (vs : List V) (n : Nat) : Hp := fun b => if b < n then H b else if b = l then some (.lst vs) else ((as.zip ps).lookup b).map fun p => .tup [.int p.1, .int p.2]
theorem lookup_zip {as : List Addr} {ps : List (Int × Int)} (hn : as.Nodup) : ∀ {i : Nat} {b : Addr} {p : Int × Int}, as[i]? = some b → ps[i]? = some p → (as.zip ps).lookup b = some p := by
  induction as generalizing ps with
  | nil => intro i b p e; simp at e
  | cons a as ih =>
    intro i b p e1 e2
    rw [List.nodup_cons] at hn
    cases ps with
    | nil => simp at e2
    | cons q ps =>
      cases i with
      | zero => simp at e1 e2; subst e1 e2; simp [List.lookup]
      | succ i =>
        have e1 : as[i]? = some b := by simpa using e1
        have hb : b ≠ a := fun z => hn.1 (z ▸ List.mem_of_getElem? e1)
        have hb' : (b == a) = false := by simpa using hb
        have := ih hn.2 (ps := ps) e1 (by simpa using e2)
        simpa [List.lookup, hb'] using this
theorem lookup_zip_mem {as : List Addr} {ps : List (Int × Int)} : ∀ {b : Addr} {p : Int × Int}, (as.zip ps).lookup b = some p → ∃ i : Nat, as[i]? = some b ∧ ps[i]? = some p := by
  induction as generalizing ps with
  | nil => intro b p e; simp [List.lookup] at e
  | cons a as ih =>
    intro b p e
    cases ps with
    | nil => simp [List.lookup] at e
    | cons q ps =>
      by_cases hb : b = a
      · subst hb
        simp [List.lookup] at e
        subst e
        exact ⟨0, rfl, rfl⟩
      · have hb' : (b == a) = false := by simpa using hb
        have e : (as.zip ps).lookup b = some p := by simpa [List.lookup, hb'] using e
        obtain ⟨i, h1, h2⟩ := ih e
        exact ⟨i + 1, by simpa using h1, by simpa using h2⟩
theorem perm_getD {α : Type} {l : List α} {d : α} {ix : List Nat} (h : ix.Perm (List.range l.length)) : (ix.map fun i => l.getD i d).Perm l := by
  have e : (List.range l.length).map (fun i => l.getD i d) = l := by
    apply List.ext_getElem
    · simp
    · intro i h1 h2
      simp at h1 ⊢
      rw [List.getElem?_eq_getElem h1]
      rfl
  have := h.map fun i => l.getD i d
  rw [e] at this
  exact this
def rSortedIt : Addr → List (Int × Int) → Hp → VK → Prop := fun a m H Q => m.Nodup ∧ m.length < 64 ∧
  ∀ (l : Addr) (vs : List V) (cv : List (Int × Int)) (H' : Hp), H l = none → H' l = some (.lst vs) → PairsAt H' vs cv → cv.Perm m → cv.Pairwise (fun p q => ltP p q = true) → Same H H' → Q (.ref l) H'
section
variable {X : Cx} {o : Expr} {to : TE} {apos cpos pos p : Pos}
theorem sorted_items {pins : List (Addr × Obj)} {s : Shared} {σ : St} {H : Hp} {Q : VK} {a r : Addr} {m : List (Int × Int)} (hc : X.calm = true) (I : Inv X pins σ H s) (hd : H a = some (.dK (dkOf m))) (hr : s.heap.objs.size = r + 1) (hv : s.heap.IsItemsView r a) (h : rSortedIt a m H Q) :
    wpAny (model X.prog X.w) X.A (call (.builtin "sorted") [.ref r]) (EP X pins σ Q) X.xe s := by
  obtain ⟨hnd, h64, q⟩ := h
  obtain ⟨z, hsm, kvs, rel, dd⟩ := dk_of I.hok hd
  obtain ⟨ep, dd⟩ := dd.dictAt
  obtain ⟨hkl, _⟩ := dk_get rel
  refine Calls.call_function_entry kind_sorted plain_sorted entry_sorted (args_sorted1 _) ?_
  unfold Builtin.«sorted»
  refine wpAny_bind (m := checkCount "sorted" 1 1 _) (wpAny_pure ?_)
  refine wpAny_bind (kdx_collect (A := X.A.in1) (knd := mixKind X.prog X.w) (I.ok.hd hc) hv dd (by rw [sizeLine_eq]; omega) fun h1 tk as hk hl hG => ?_)
  refine wpAny_bind (wpAny_newList ?_ (by rw [List.length_map, sizeLine_eq]; omega))
  have hoL : (h1.push (seqObj "list" (as.map Value.ref).toArray 0)).get? h1.objs.size = some (seqObj "list" (as.map Value.ref).toArray 0) := Heap.get?_push_size _ rfl
  have hT : TupsAt (h1.push (seqObj "list" (as.map Value.ref).toArray 0)) h1.objs.size (as.map Value.ref) m := by
    have := tups_of rel hl hG h1.objs.size fun b hb => Nat.ne_of_lt (hG.there hb)
    exact Paired.mapP this fun v p ⟨b, t, u, e, hb, ot, ho, rr⟩ => ⟨b, t, u, e, hb, ot, Heap.get?_push_of_some _ ho, rr⟩
  show wpAny _ _ _ _ _ { s with heap := h1.push (seqObj "list" (as.map Value.ref).toArray 0), toks := tk }
  refine wpAny_bind (wpAny_holding (wpAny_call_entry slot_list_sort ⟨_, hoL, rfl⟩ entry_list_sort (list_sort_pairs (s := { s with heap := h1.push (seqObj "list" (as.map Value.ref).toArray 0), toks := tk }) hoL hT hnd (by rw [List.length_map]; omega) fun ix hp hs => ⟨_, rfl, ?_⟩) (args_list_sort _)))
  refine wpAny_pure ⟨_, rfl, ?_⟩
  generalize hout : (ix.map fun i => (as.map Value.ref).getD i Value.none).toArray = out
  obtain ⟨e, he⟩ := sortedHeap_at (out := out) hoL
  generalize hh2 : sortedHeap (h1.push (seqObj "list" (as.map Value.ref).toArray 0)) h1.objs.size (as.map Value.ref) out = h2 at he
  have hsz1 : s.heap.objs.size ≤ h1.objs.size := by
    obtain ⟨ov, hov, _⟩ := id hv
    rw [hr]
    exact Heap.lt_size (hk r ov hov)
  have hkeep : ∀ b u, s.heap.get? b = some u → h2.get? b = some u := fun b u e => by
    rw [← hh2]
    have hb := Heap.lt_size (hk _ _ e)
    exact (sortedHeap_old (Nat.ne_of_lt hb) (by rw [Heap.size_push]; exact Nat.lt_succ_of_lt hb)).trans (Heap.get?_push_of_some _ (hk _ _ e))
  have hasn : as.Nodup := List.nodup_iff_pairwise_ne.mpr (hG.rise.imp fun hab e => Nat.ne_of_lt hab e)
  have hlm : as.length = m.length := by omega
  have hout2 : out.toList = (ix.map fun i => as.getD i 0).map Value.ref := by
    rw [← hout, List.map_map]
    refine List.map_congr_left fun i hi => ?_
    have hi : i < as.length := by
      have := List.mem_range.mp (hp.mem_iff.mp hi)
      simpa using this
    show (as.map Value.ref).getD i Value.none = Value.ref (as.getD i 0)
    simp [hi]
  have hTm : ∀ (i : Nat) b p, as[i]? = some b → m[i]? = some p → TupAt h2 0 (.ref b) p ∨ TupAt h2 h1.objs.size (.ref b) p := fun i b p e1 e2 => by
    have hi : i < m.length := (List.getElem?_eq_some_iff.mp e2).1
    have g := hT.get (i := i) hi
    have e3 : (as.map Value.ref).getD i Value.none = .ref b := by simp [e1]
    have e4 : m.getD i (0, 0) = p := by simp [e2]
    rw [e3, e4] at g
    obtain ⟨b', t, u, ee, hb, ot, ho, rr⟩ := g
    refine .inr ⟨b', t, u, ee, hb, ot, ?_, rr⟩
    rw [← hh2]
    exact (sortedHeap_old hb (Heap.lt_size ho)).trans ho
  have hat : ∀ (i : Nat) b p, as[i]? = some b → m[i]? = some p → layP H as m h1.objs.size ((ix.map fun i => as.getD i 0).map V.ref) s.heap.objs.size b = some (.tup [.int p.1, .int p.2]) := fun i b p e1 e2 => by
    have hbl := hG.above b (List.mem_of_getElem? e1)
    have hbt := hG.there (List.mem_of_getElem? e1)
    unfold layP
    rw [if_neg (Nat.not_lt.mpr (Nat.le_of_lt hbl)), if_neg (Nat.ne_of_lt hbt), lookup_zip hasn e1 e2]
    rfl
  have hil : layP H as m h1.objs.size ((ix.map fun i => as.getD i 0).map V.ref) s.heap.objs.size h1.objs.size = some (.lst ((ix.map fun i => as.getD i 0).map V.ref)) := by
    unfold layP
    rw [if_neg (Nat.not_lt.mpr hsz1), if_pos rfl]
  have hixl : ix.length = as.length := by have := hp.length_eq; simpa using this
  have hSame : Same H (layP H as m h1.objs.size ((ix.map fun i => as.getD i 0).map V.ref) s.heap.objs.size) := fun b u e => by
    unfold layP
    rw [if_pos (I.old e)]
    exact e
  refine ⟨.ref h1.objs.size, _, I.many (t' := tk) (h' := h2) hkeep (fun b hb => by unfold layP; rw [if_pos hb]) (fun b ob hb e => ?_), rfl, q h1.objs.size _ (ix.map fun i => m.getD i (0, 0)) _ (I.hok.fresh hsz1) hil ?_ (perm_getD (by rw [← hlm]; simpa using hp)) hs hSame⟩
  · by_cases hbl : b = h1.objs.size
    · subst hbl
      rw [hil] at e
      cases e
      refine ⟨by rw [List.length_map, List.length_map, hixl, sizeLine_eq]; omega, out.toList, _, ?_, he⟩
      rw [hout2]
      clear hout2 hil hat hSame
      generalize (ix.map fun i => as.getD i 0) = bs
      induction bs with
      | nil => exact .nil
      | cons b bs ih => exact .cons rfl ih
    · unfold layP at e
      rw [if_neg (Nat.not_lt.mpr hb), if_neg hbl] at e
      cases hlk : (as.zip m).lookup b with
      | none => rw [hlk] at e; cases e
      | some p =>
        rw [hlk] at e
        cases e
        obtain ⟨i, e1, e2⟩ := lookup_zip_mem hlk
        rcases hTm i b p e1 e2 with g | g
        · exact tups_objs g
        · exact tups_objs g
  · refine paired_get (by simp) fun i v p e1 e2 => ?_
    rw [List.getElem?_map, List.getElem?_map] at e1
    rw [List.getElem?_map] at e2
    cases hi : ix[i]? with
    | none => rw [hi] at e1; cases e1
    | some j =>
      rw [hi] at e1 e2
      cases e1
      cases e2
      have hj : j < as.length := by
        have := List.mem_range.mp (hp.mem_iff.mp (List.mem_of_getElem? hi))
        simpa using this
      have hj2 : j < m.length := by omega
      refine ⟨as.getD j 0, rfl, hat j _ _ ?_ ?_⟩
      · simp [hj]
      · simp [hj2]
def tSortedIt (to : TE) : TE := fun σ H Q => tItemsOf to σ H fun a m H1 => rSortedIt a m H1 Q
theorem qe_sortedIt (hc : X.calm = true) (hg : Gl X "sorted") (hm : X.mg "sorted" = none) (ho : QE X o to)
    (hbase : attributeBase o "items" X.env (eval o X.env) = eval o X.env := by rfl) (hline : (apos.endLine == cpos.line) = true := by rfl) :
    QE X (.Call (.Name "sorted" p) [.Call (.Attribute o "items" apos) [] [] cpos] [] pos) (tSortedIt to) := by
  refine ⟨?_⟩
  intro pins s σ H Q I h
  refine wpAny_Call_Name_kw (ld_blt I hg hm bt_sorted ?_ (by decide) (by decide))
  refine PyProof.Rows.callWith_builtin1 ?_ rfl rfl
  show wpAny _ _ (spliced ((false, eval (.Call (.Attribute o "items" apos) [] [] cpos) X.env) :: backTo pos (starEach [] X.env))) _ _ s
  refine Calls.spliced_cons (thn (items_call ho.h I h hbase hline) fun u s1 ⟨r, a, m, H1, eu, hsz, hv, hd, I1, q⟩ => ?_)
  subst eu
  refine Calls.spliced_nil ?_
  exact sorted_items hc I1 hd hsz hv q
end
section
variable {σ : St} {H : Hp} {Q : VK} {to : TE}
def rItems (x : V) (H : Hp) (Q : VK) : Prop := ∃ a m, x = .ref a ∧ H a = some (.dK (dkOf m)) ∧ rSortedIt a m H Q
theorem rd_sortedIt0 (h : to σ H fun x H1 => rItems x H1 Q) : tSortedIt to σ H Q := h
theorem ltP_asc {cv : List (Int × Int)} (h : cv.Pairwise fun p q => ltP p q = true) (hn : (cv.map (·.1)).Nodup) : Asc cv := by
  rw [List.nodup_iff_pairwise_ne, List.pairwise_map] at hn
  exact (h.and hn).imp fun ⟨a, b⟩ => by
    have := ltP_iff.mp a
    omega
theorem nodup_of_keys {m : List (Int × Int)} (h : (m.map (·.1)).Nodup) : m.Nodup := by
  rw [List.nodup_iff_pairwise_ne, List.pairwise_map] at h
  exact List.nodup_iff_pairwise_ne.mpr (h.imp fun hab e => hab (by rw [e]))
theorem rd_sortedIt {p : Addr} {m : List (Int × Int)} (h1 : H p = some (.dK (dkOf m))) (hn : (m.map (·.1)).Nodup) (hz : m.length < 64)
    (h : ∀ l H2 cv, H l = none → PrL H2 l cv → CurveOf m cv → cv.length = m.length → Same H H2 → Q (.ref l) H2) : rItems (.ref p) H Q := by
  refine ⟨p, m, rfl, h1, nodup_of_keys hn, hz, fun l vs cv H2 n2 f2 hP hperm hpw S2 => h l H2 cv n2 ⟨vs, f2, hP⟩ ⟨?_, fun t x => ?_⟩ hperm.length_eq S2⟩
  · exact ltP_asc hpw ((hperm.map (·.1)).nodup_iff.mpr hn)
  · rw [hperm.mem_iff, getI_mem hn]
end
end L2

set_option Elab.async false
set_option linter.all false
set_option maxRecDepth 100000
set_option maxHeartbeats 4000000
namespace L2
open PySem PySem.Spec PyProof.Rows PySem.W
/-! ### zip of two lists or tuples -/
def SIt (b : Bool) (h : Heap) (i l : Addr) (k : Nat) : Prop := if b then h.IsListIter i l k else h.IsTupleIter i l k
def SOb (b : Bool) (h : Heap) (l : Addr) (xs : Array Value) : Prop := if b then h.IsList l xs else h.IsTuple l xs
theorem SIt.at {b : Bool} {h h' : Heap} {i l : Addr} {k : Nat} (x : SIt b h i l k) (e : ∀ o, h.get? i = some o → h'.get? i = some o) : SIt b h' i l k := by
  cases b with
  | true => obtain ⟨o, ho, r⟩ := (show h.IsListIter i l k from x); exact ⟨o, e _ ho, r⟩
  | false => obtain ⟨o, ho, r⟩ := (show h.IsTupleIter i l k from x); exact ⟨o, e _ ho, r⟩
theorem SOb.at {b : Bool} {h h' : Heap} {l : Addr} {xs : Array Value} (x : SOb b h l xs) (e : ∀ o, h.get? l = some o → h'.get? l = some o) : SOb b h' l xs := by
  cases b with
  | true => obtain ⟨o, ho, r⟩ := (show h.IsList l xs from x); exact ⟨o, e _ ho, r⟩
  | false => obtain ⟨o, ho, r⟩ := (show h.IsTuple l xs from x); exact ⟨o, e _ ho, r⟩
theorem SIt.lt {b : Bool} {h : Heap} {i l : Addr} {k : Nat} (x : SIt b h i l k) : i < h.objs.size := by
  cases b with
  | true => obtain ⟨o, ho, r⟩ := (show h.IsListIter i l k from x); exact Heap.lt_size ho
  | false => obtain ⟨o, ho, r⟩ := (show h.IsTupleIter i l k from x); exact Heap.lt_size ho
theorem SOb.lt {b : Bool} {h : Heap} {l : Addr} {xs : Array Value} (x : SOb b h l xs) : l < h.objs.size := by
  cases b with
  | true => obtain ⟨o, ho, r⟩ := (show h.IsList l xs from x); exact Heap.lt_size ho
  | false => obtain ⟨o, ho, r⟩ := (show h.IsTuple l xs from x); exact Heap.lt_size ho
section
variable {prog : Program} {w : World} {A : Around} {E : Value → Shared → Prop} {s : Shared}
theorem nextOf_item {b : Bool} {i l : Addr} {k : Nat} {xs : Array Value} {x : Value} {Q : Value → Shared → Prop} (hit : SIt b s.heap i l k) (hl : SOb b s.heap l xs) (hx : xs[k]? = some x)
    (hQ : ∀ h', SIt b h' i l (k + 1) → Heap.SameBut i s.heap h' → Q x { s with heap := h' }) : wpAny (model prog w) A (Builtin.SmallTypes.nextOf (.ref i)) Q E s := by
  cases b with
  | true => exact wpAny_nextOf_list_item (show s.heap.IsListIter i l k from hit) (show s.heap.IsList l xs from hl) hx hQ
  | false =>
    have hit' : s.heap.IsTupleIter i l k := hit
    obtain ⟨o, ho, hc, hd⟩ := id hit'
    obtain ⟨ol, hol, _, nl, hdl⟩ := (show s.heap.IsTuple l xs from hl)
    have hT : s.TypeIs (.ref i) "tuple_iterator" := ⟨o, ho, hc⟩
    unfold Builtin.SmallTypes.nextOf
    refine wpAny_bind (wpAny_callSpecial?_slot (name := Str.ofString "__next__") hT slot_tupleiter_next (wpAny_call_entry slot_tupleiter_next hT entry_tupleiter_next ?_ (args_tupleiter_next _)))
    show wpAny _ _ (field (.ref i) 0 >>= _) _ _ s
    refine wpAny_bind (wpAny_field ho hd (x := .ref l) rfl ?_)
    show wpAny _ _ (if (Value.ref l == Value.none) = true then _ else _) _ _ s
    rw [if_neg (show ¬ ((Value.ref l == Value.none) = true) from Bool.false_ne_true)]
    show wpAny _ _ (field (.ref i) 1 >>= _) _ _ s
    refine wpAny_bind (wpAny_field ho hd (x := .int k 0) rfl ?_)
    show wpAny _ _ (seqItems? (.ref l) >>= _) _ _ s
    refine wpAny_bind (wpAny_seqItems hol hdl ?_)
    simp only [Int.toNat_natCast, hx]
    refine wpAny_bind (wpAny_setField ho hd (by simp) (wpAny_pure ⟨x, rfl, wpAny_pure (hQ _ ?_ (Heap.SameBut.update ..))⟩))
    exact ⟨_, Heap.get?_update_self _ ho (Obj.isFreed_of_fields (Obj.data_mapFields hd _)), (Obj.cls_mapFields ..).trans hc, by rw [Obj.data_mapFields hd]; simp [rawInt]⟩
theorem nextOf_end {b : Bool} {i l : Addr} {k : Nat} {xs : Array Value} {Q : Value → Shared → Prop} (hh : A.handled = none) (hit : SIt b s.heap i l k) (hl : SOb b s.heap l xs) (hx : xs[k]? = none)
    (hE : ∀ h' e, Heap.ExtBut i s.heap h' → (∃ o, h'.get? e = some o ∧ o.cls = .type "StopIteration") → E (.ref e) { s with heap := h' }) : wpAny (model prog w) A (Builtin.SmallTypes.nextOf (.ref i)) Q E s := by
  cases b with
  | true => exact wpAny_nextOf_list_end hh (show s.heap.IsListIter i l k from hit) (show s.heap.IsList l xs from hl) hx hE
  | false =>
    have hit' : s.heap.IsTupleIter i l k := hit
    obtain ⟨o, ho, hc, hd⟩ := id hit'
    obtain ⟨ol, hol, _, nl, hdl⟩ := (show s.heap.IsTuple l xs from hl)
    have hT : s.TypeIs (.ref i) "tuple_iterator" := ⟨o, ho, hc⟩
    unfold Builtin.SmallTypes.nextOf
    refine wpAny_bind (wpAny_callSpecial?_slot (name := Str.ofString "__next__") hT slot_tupleiter_next (wpAny_call_entry slot_tupleiter_next hT entry_tupleiter_next ?_ (args_tupleiter_next _)))
    show wpAny _ _ (field (.ref i) 0 >>= _) _ _ s
    refine wpAny_bind (wpAny_field ho hd (x := .ref l) rfl ?_)
    show wpAny _ _ (if (Value.ref l == Value.none) = true then _ else _) _ _ s
    rw [if_neg (show ¬ ((Value.ref l == Value.none) = true) from Bool.false_ne_true)]
    show wpAny _ _ (field (.ref i) 1 >>= _) _ _ s
    refine wpAny_bind (wpAny_field ho hd (x := .int k 0) rfl ?_)
    show wpAny _ _ (seqItems? (.ref l) >>= _) _ _ s
    refine wpAny_bind (wpAny_seqItems hol hdl ?_)
    simp only [Int.toNat_natCast, hx]
    refine wpAny_bind (wpAny_rule (wpAny_bind (wpAny_setField ho hd (by simp) ?_)))
    show wpAny _ _ (newExc (.type "StopIteration") [] >>= _) _ _ _
    refine wpAny_bind ?_
    simp only [newExc, newTuple]
    refine wpAny_bind (wpAny_newObj_type ?_ (by size_fits))
    refine wpAny_bind (m := firstArgMember _ _) (wpAny_of_eq (a := Value.none) (by first | rfl | (simp only [firstArgMember]; rfl)) ?_)
    refine wpAny_newObj_type ?_ (by size_fits)
    simp only [raiseNew]
    refine wpAny_bind (wpAny_handled ?_)
    first | rw [show A.in1.handled = none from hh] | rw [hh]
    refine wpAny_bind (wpAny_pure (wpAny_throw ?_))
    exact hE _ _ (((Heap.SameBut.update ..).extBut.push _).push _) ⟨_, Heap.get?_push_size _ rfl, rfl⟩
/-- a zip's own objects: z it, TI its iterators, TO its tuple, i1 and i2 -/
structure Zp (b1 b2 : Bool) (h : Heap) (z TI TO i1 i2 l1 l2 : Addr) (k : Nat) (xs ys : Array Value) (f0 : Value) : Prop where
  hz : IsZip h z TI TO f0
  hTI : IsPair h TI (.ref i1) (.ref i2)
  hTO : ∃ a b, IsPair h TO a b
  h1 : SIt b1 h i1 l1 k
  h2 : SIt b2 h i2 l2 k
  hl1 : SOb b1 h l1 xs
  hl2 : SOb b2 h l2 ys
theorem zip_item {b1 b2 : Bool} {z TI TO i1 i2 l1 l2 : Addr} {k : Nat} {xs ys : Array Value} {x y : Value} {Q : Option Value → Shared → Prop} (D : ZipApart z TI TO i1 i2 l1 l2) (Z : Zp b1 b2 s.heap z TI TO i1 i2 l1 l2 k xs ys .none)
    (hx : xs[k]? = some x) (hy : ys[k]? = some y)
    (hQ : ∀ h', Zp b1 b2 h' z TI TO i1 i2 l1 l2 (k + 1) xs ys (rawInt s.heap.objs.size) → IsPair h' s.heap.objs.size x y →
      (∀ c o, c ≠ z → c ≠ TO → c ≠ i1 → c ≠ i2 → s.heap.get? c = some o → h'.get? c = some o) → Q (some (.ref s.heap.objs.size)) { s with heap := h' }) :
    wpAny (model prog w) A (pyNext (.ref z)) Q E s := by
  obtain ⟨hz, hTI, ⟨a, b, hTO⟩, h1, h2, hl1, hl2⟩ := Z
  have hT : s.TypeIs (.ref z) "zip" := ⟨_, hz, rfl⟩
  unfold pyNext
  refine wpAny_bind (wpAny_attempt (wpAny_callSpecial?_slot (name := Str.ofString "__next__") hT F.slot_zip_next (wpAny_call_entry F.slot_zip_next hT F.entry_zip_next ?_ (F.args_zip_next_1 _))))
  show wpAny _ _ (field (.ref z) 2 >>= _) _ _ _
  refine wpAny_bind (wpAny_field hz rfl (x := .bool false) rfl ?_)
  show wpAny _ _ (field (.ref z) 3 >>= _) _ _ _
  refine wpAny_bind (wpAny_field hz rfl (x := .ref TI) rfl ?_)
  refine wpAny_bind (wpAny_seqItems hTI rfl ?_)
  show wpAny _ _ (Builtin.SmallTypes.ownedTupleIsFree (.ref z) >>= _) _ _ _
  refine wpAny_bind ?_
  unfold Builtin.SmallTypes.ownedTupleIsFree
  refine wpAny_bind (wpAny_field hz rfl (x := .none) rfl (wpAny_pure ?_))
  simp only [if_true]
  refine wpAny_bind (wpAny_rule ?_)
  refine wpAny_bind (wpAny_field hz rfl (x := .ref TO) rfl ?_)
  refine wpAny_bind (wpAny_setField_rec hz (by simp) fun g1 z1 s1 => ?_)
  replace z1 : IsZip g1 z TI TO .ellipsis := z1
  refine wpAny_bind ?_
  simp only [List.zipIdx_cons, List.zipIdx_nil, List.forIn_cons, List.forIn_nil]
  refine wpAny_bind (wpAny_bind (wpAny_onRaise ?_))
  show wpAny _ _ (Builtin.SmallTypes.nextOf (.ref i1) >>= _) _ _ _
  refine wpAny_bind (nextOf_item (h1.at fun o e => s1.extBut _ _ D.i1z e) (hl1.at fun o e => s1.extBut _ _ D.l1z e) hx fun g2 j1 s2 => wpAny_pure ?_)
  have tO2 : IsPair g2 TO a b := s2.extBut _ _ D.TOi1 (s1.extBut _ _ D.TOz hTO)
  refine wpAny_bind (wpAny_seqItems tO2 rfl ?_)
  refine wpAny_bind (wpAny_updateSeq_pair tO2 fun g3 tO3 s3 => ?_)
  replace tO3 : IsPair g3 TO x b := tO3
  refine wpAny_bind (wpAny_letGo (wpAny_pure ?_))
  refine wpAny_bind (wpAny_bind (wpAny_onRaise ?_))
  show wpAny _ _ (Builtin.SmallTypes.nextOf (.ref i2) >>= _) _ _ _
  refine wpAny_bind (nextOf_item (((h2.at fun o e => s1.extBut _ _ D.i2z e).at fun o e => s2.extBut _ _ D.i12.symm e).at fun o e => s3.extBut _ _ D.TOi2.symm e)
    (((hl2.at fun o e => s1.extBut _ _ D.l2z e).at fun o e => s2.extBut _ _ D.l2i1 e).at fun o e => s3.extBut _ _ D.l2TO e) hy fun g4 j2 s4 => wpAny_pure ?_)
  have tO4 : IsPair g4 TO x b := s4.extBut _ _ D.TOi2 tO3
  refine wpAny_bind (wpAny_seqItems tO4 rfl ?_)
  refine wpAny_bind (wpAny_updateSeq_pair tO4 fun g5 tO5 s5 => ?_)
  replace tO5 : IsPair g5 TO x y := tO5
  refine wpAny_bind (wpAny_letGo (wpAny_pure (wpAny_pure ?_)))
  refine wpAny_bind (wpAny_seqItems tO5 rfl ?_)
  refine wpAny_bind (wpAny_newTuple ?_)
  have hsz : g5.objs.size = s.heap.objs.size := by rw [s5.1, s4.1, s3.1, s2.1, s1.1]
  have z5 : IsZip g5 z TI TO .ellipsis := s5.extBut _ _ D.TOz.symm (s4.extBut _ _ D.i2z.symm (s3.extBut _ _ D.TOz.symm (s2.extBut _ _ D.i1z.symm z1)))
  have k5 : ∀ c o, c ≠ z → c ≠ TO → c ≠ i1 → c ≠ i2 → s.heap.get? c = some o → g5.get? c = some o := fun c o c1 c2 c3 c4 e =>
    s5.extBut _ _ c2 (s4.extBut _ _ c4 (s3.extBut _ _ c2 (s2.extBut _ _ c3 (s1.extBut _ _ c1 e))))
  have j15 : SIt b1 g5 i1 l1 (k + 1) := ((j1.at fun o e => s3.extBut _ _ D.TOi1.symm e).at fun o e => s4.extBut _ _ D.i12 e).at fun o e => s5.extBut _ _ D.TOi1.symm e
  have j25 : SIt b2 g5 i2 l2 (k + 1) := j2.at fun o e => s5.extBut _ _ D.TOi2.symm e
  have tI5 : IsPair g5 TI (.ref i1) (.ref i2) := k5 _ _ D.TIz D.TITO D.TIi1 D.TIi2 hTI
  have q15 : SOb b1 g5 l1 xs := hl1.at fun o e => k5 _ o D.l1z D.l1TO D.l1i1 D.l1i2 e
  have q25 : SOb b2 g5 l2 ys := hl2.at fun o e => k5 _ o D.l2z D.l2TO D.l2i1 D.l2i2 e
  have hzlt : z < g5.objs.size := Heap.lt_size z5
  show wpAny _ _ (Builtin.SmallTypes.ownedTupleHandOut (.ref z) (.ref g5.objs.size) >>= _) _ _ _
  refine wpAny_bind ?_
  unfold Builtin.SmallTypes.ownedTupleHandOut
  have z6 : IsZip (g5.push { cls := .type "tuple", data := .seq #[x, y] }) z TI TO .ellipsis := Heap.get?_push_of_some _ z5
  refine wpAny_bind (wpAny_setField_rec z6 (by simp) fun g7 z7 s7 => ?_)
  replace z7 : IsZip g7 z TI TO (rawInt g5.objs.size) := z7
  refine wpAny_setField_rec z7 (by simp) fun g8 z8 s8 => ?_
  replace z8 : IsZip g8 z TI TO (rawInt g5.objs.size) := z8
  have up : ∀ c o, c ≠ z → g5.get? c = some o → g8.get? c = some o := fun c o c1 e => s8.extBut _ _ c1 (s7.extBut _ _ c1 (Heap.get?_push_of_some _ e))
  have t8 : IsPair g8 g5.objs.size x y := s8.extBut _ _ (Nat.ne_of_gt hzlt) (s7.extBut _ _ (Nat.ne_of_gt hzlt) (Heap.get?_push_size _ rfl))
  rw [hsz] at z8 t8
  refine wpAny_pure ⟨_, rfl, wpAny_pure ?_⟩
  show Q (some (.ref g5.objs.size)) _
  rw [hsz]
  exact hQ g8 ⟨z8, up _ _ D.TIz tI5, ⟨x, y, up _ _ D.TOz tO5⟩, j15.at fun o e => up _ o D.i1z e, j25.at fun o e => up _ o D.i2z e, q15.at fun o e => up _ o D.l1z e, q25.at fun o e => up _ o D.l2z e⟩ t8 fun c o c1 c2 c3 c4 e => up c o c1 (k5 c o c1 c2 c3 c4 e)
theorem zip_end {b1 b2 : Bool} {z TI TO i1 i2 l1 l2 : Addr} {k : Nat} {xs ys : Array Value} {Q : Option Value → Shared → Prop} (hh : A.handled = none) (D : ZipApart z TI TO i1 i2 l1 l2) (Z : Zp b1 b2 s.heap z TI TO i1 i2 l1 l2 k xs ys .none)
    (hend : xs[k]? = none ∨ ys[k]? = none) (hQ : ∀ h', (∀ c o, c ≠ z → c ≠ TO → c ≠ i1 → c ≠ i2 → s.heap.get? c = some o → h'.get? c = some o) → Q none { s with heap := h' }) : wpAny (model prog w) A (pyNext (.ref z)) Q E s := by
  obtain ⟨hz, hTI, ⟨a, b, hTO⟩, h1, h2, hl1, hl2⟩ := Z
  have hT : s.TypeIs (.ref z) "zip" := ⟨_, hz, rfl⟩
  unfold pyNext
  refine wpAny_bind (wpAny_attempt (wpAny_callSpecial?_slot (name := Str.ofString "__next__") hT F.slot_zip_next (wpAny_call_entry F.slot_zip_next hT F.entry_zip_next ?_ (F.args_zip_next_1 _))))
  have out : ∀ h' e, (∀ c o, c ≠ z → c ≠ TO → c ≠ i1 → c ≠ i2 → s.heap.get? c = some o → h'.get? c = some o) → (∃ o, h'.get? e = some o ∧ o.cls = .type "StopIteration") → wpAny (model prog w) A (do
      if (← isInstance (.ref e) (.type "StopIteration")) = true then pure none else throw (.ref e)) Q E { s with heap := h' } := fun h' e hk ⟨o, ho, hc⟩ => by
    refine wpAny_bind (wpAny_isInstance (T := "StopIteration") (b := true) ⟨o, ho, hc⟩ isSubtype_stop ?_)
    exact wpAny_pure (hQ _ hk)
  show wpAny _ _ (field (.ref z) 2 >>= _) _ _ _
  refine wpAny_bind (wpAny_field hz rfl (x := .bool false) rfl ?_)
  show wpAny _ _ (field (.ref z) 3 >>= _) _ _ _
  refine wpAny_bind (wpAny_field hz rfl (x := .ref TI) rfl ?_)
  refine wpAny_bind (wpAny_seqItems hTI rfl ?_)
  show wpAny _ _ (Builtin.SmallTypes.ownedTupleIsFree (.ref z) >>= _) _ _ _
  refine wpAny_bind ?_
  unfold Builtin.SmallTypes.ownedTupleIsFree
  refine wpAny_bind (wpAny_field hz rfl (x := .none) rfl (wpAny_pure ?_))
  simp only [if_true]
  refine wpAny_bind (wpAny_rule ?_)
  refine wpAny_bind (wpAny_field hz rfl (x := .ref TO) rfl ?_)
  refine wpAny_bind (wpAny_setField_rec hz (by simp) fun g1 z1 s1 => ?_)
  replace z1 : IsZip g1 z TI TO .ellipsis := z1
  refine wpAny_bind ?_
  simp only [List.zipIdx_cons, List.zipIdx_nil, List.forIn_cons, List.forIn_nil]
  refine wpAny_bind (wpAny_bind (wpAny_onRaise ?_))
  show wpAny _ _ (Builtin.SmallTypes.nextOf (.ref i1) >>= _) _ _ _
  cases hx : xs[k]? with
  | none =>
    refine wpAny_bind (nextOf_end hh (h1.at fun o e => s1.extBut _ _ D.i1z e) (hl1.at fun o e => s1.extBut _ _ D.l1z e) hx fun g2 e s2 he => ?_)
    obtain ⟨oe, hoe, hce⟩ := he
    have z2 : IsZip g2 z TI TO .ellipsis := s2 _ _ D.i1z.symm z1
    have hez : e ≠ z := fun q => by subst q; rw [z2] at hoe; cases hoe; simp at hce
    exact wpAny_setField_rec z2 (by simp) fun g3 _ s3 => out g3 e (fun c o c1 _ c3 _ q => s3.extBut _ _ c1 (s2 _ _ c3 (s1.extBut _ _ c1 q))) ⟨oe, s3.extBut _ _ hez hoe, hce⟩
  | some x =>
    have hy : ys[k]? = none := by rcases hend with h | h; rw [hx] at h; cases h; exact h
    refine wpAny_bind (nextOf_item (h1.at fun o e => s1.extBut _ _ D.i1z e) (hl1.at fun o e => s1.extBut _ _ D.l1z e) hx fun g2 j1 s2 => wpAny_pure ?_)
    have tO2 : IsPair g2 TO a b := s2.extBut _ _ D.TOi1 (s1.extBut _ _ D.TOz hTO)
    refine wpAny_bind (wpAny_seqItems tO2 rfl ?_)
    refine wpAny_bind (wpAny_updateSeq_pair tO2 fun g3 tO3 s3 => ?_)
    refine wpAny_bind (wpAny_letGo (wpAny_pure ?_))
    refine wpAny_bind (wpAny_bind (wpAny_onRaise ?_))
    show wpAny _ _ (Builtin.SmallTypes.nextOf (.ref i2) >>= _) _ _ _
    refine wpAny_bind (nextOf_end hh (((h2.at fun o e => s1.extBut _ _ D.i2z e).at fun o e => s2.extBut _ _ D.i12.symm e).at fun o e => s3.extBut _ _ D.TOi2.symm e)
      (((hl2.at fun o e => s1.extBut _ _ D.l2z e).at fun o e => s2.extBut _ _ D.l2i1 e).at fun o e => s3.extBut _ _ D.l2TO e) hy fun g4 e s4 he => ?_)
    obtain ⟨oe, hoe, hce⟩ := he
    have z4 : IsZip g4 z TI TO .ellipsis := s4 _ _ D.i2z.symm (s3.extBut _ _ D.TOz.symm (s2.extBut _ _ D.i1z.symm z1))
    have hez : e ≠ z := fun q => by subst q; rw [z4] at hoe; cases hoe; simp at hce
    exact wpAny_setField_rec z4 (by simp) fun g5 _ s5 => out g5 e (fun c o c1 c2 c3 c4 q => s5.extBut _ _ c1 (s4 _ _ c4 (s3.extBut _ _ c2 (s2.extBut _ _ c3 (s1.extBut _ _ c1 q))))) ⟨oe, s5.extBut _ _ hez hoe, hce⟩
end
end L2

set_option Elab.async false
set_option linter.all false
set_option maxRecDepth 100000
set_option maxHeartbeats 4000000
namespace L2
open PySem PySem.Spec PyProof.Rows PySem.W
section
variable {X : Cx} {pins : List (Addr × Obj)} {σ : St} {H H' : Hp} {s : Shared} {h' : Heap}
theorem Inv.turnNew {t' : Nat} {fp : List Addr} (I : Inv X pins σ H s) (hf : ∀ b ∈ fp, FpOk X pins H b) (k : ∀ b o, b ∉ fp → s.heap.get? b = some o → h'.get? b = some o) (hs : ∀ b, b < s.heap.objs.size → H' b = H b)
    (new : ∀ b o, s.heap.objs.size ≤ b → H' b = some o → ObjOk X.prog X.w H' h' b o) : Inv X pins σ H' { s with heap := h', toks := t' } := by
  have old : ∀ b o, H b = some o → H' b = some o := fun b o e => (hs b (I.old e)).trans e
  have nfp : ∀ b u, H b = some u → b ∉ fp := fun b u e z => by rw [(hf b z).1] at e; cases e
  refine I.step (g' := s.gens) (d' := s.drawn) (ch := fp) (fun b hb => ?_) (fun b o _ _ hc e _ => k b o hc e) (fun b o _ _ hc e _ => ⟨o.slots, k b o hc e⟩) (fun b o _ e n => (hs b (Heap.lt_size e)).trans n)
    (fun b o hc e => ⟨o, k b o hc e⟩) (fun b xs e => old _ _ e) (fun b o xs e => old _ _ e) (fun b ps e => ⟨#[], by rw [old _ _ e]; simp⟩) (fun m hm => ?_) (fun b u e => ?_) I.bare
  · obtain ⟨f0, f1, f2, f3, f4, f5⟩ := hf b hb
    exact ⟨f3, f1, f4, f5⟩
  · obtain ⟨o, es, ep, ho, r⟩ := hm
    exact ⟨o, es, ep, k _ o (fun z => (hf _ z).2.1 rfl) ho, r⟩
  · by_cases hb : b < s.heap.objs.size
    · rw [hs b hb] at e
      refine (I.hok b u e).stay (fun c v hc q => k c v ?_ q) (fun c q => old _ _ q) fun c xs q => old _ _ q
      rcases hc with z | z
      · rw [z]; exact nfp b u e
      · exact nfp c _ z
    · exact new b u (Nat.le_of_not_lt hb) e
end
/-- a list (true) or a tuple, also one of the text's own -/
def SqB (b : Bool) (K : PySem.W.Frag) (H : Hp) (a : Addr) (xs : List V) : Prop := if b then SqL K H a xs else SqT K H a xs
theorem SqB.ofT {K : PySem.W.Frag} {H : Hp} {a : Addr} {xs : List V} (h : H a = some (.tup xs)) : SqB false K H a xs := SqT.of h
theorem SqB.same {b : Bool} {K : PySem.W.Frag} {H H' : Hp} {a : Addr} {xs : List V} (h : SqB b K H a xs) (s : Same H H') : SqB b K H' a xs := by
  cases b with
  | true => exact s.seq h
  | false => exact s.seqT h
theorem Inv.sqB {X : Cx} {pins : List (Addr × Obj)} {σ : St} {H : Hp} {s : Shared} {b : Bool} {a : Addr} {xs : List V} (I : Inv X pins σ H s) (h : SqB b X.K H a xs) : ∃ its : List Value, Vals xs its ∧ SOb b s.heap a its.toArray ∧ xs.length ≤ sizeLine := by
  cases b with
  | true =>
    obtain ⟨its, rv, p, hz⟩ := I.list h
    exact ⟨its, rv, p.isList, hz⟩
  | false =>
    obtain ⟨its, rv, p, hz⟩ := I.tuple h
    exact ⟨its, rv, p, hz⟩
theorem Inv.sqB_inj {X : Cx} {pins : List (Addr × Obj)} {σ : St} {H : Hp} {s : Shared} {b : Bool} {a : Addr} {xs ys : List V} (I : Inv X pins σ H s) (h : SqB b X.K H a xs) (g : SqB b X.K H a ys) : xs = ys := by
  cases b with
  | true => exact I.list_inj h g
  | false => exact I.tuple_inj h g
def Itz (K : PySem.W.Frag) (b1 : Bool) (p1 : Addr) (b2 : Bool) (p2 : Addr) : It :=
  ⟨fun i H => ∃ xs ys, SqB b1 K H p1 xs ∧ SqB b2 K H p2 ys ∧ i < xs.length ∧ i < ys.length,
   fun i H x H' => ∃ T a b, H T = none ∧ x = .ref T ∧ H' = upd H T (.tup [a, b]) ∧ (∀ xs, SqB b1 K H p1 xs → xs[i]? = some a) ∧ ∀ ys, SqB b2 K H p2 ys → ys[i]? = some b,
   fun i H => ∃ xs ys, SqB b1 K H p1 xs ∧ SqB b2 K H p2 ys ∧ (xs.length ≤ i ∨ ys.length ≤ i)⟩
/-- a zip's own objects without what it walks -/
def Zo (b1 b2 : Bool) (z TI TO i1 i2 l1 l2 : Addr) (i : Nat) (h : Heap) : Prop := IsZip h z TI TO .none ∧ IsPair h TI (.ref i1) (.ref i2) ∧ (∃ a b, IsPair h TO a b) ∧ SIt b1 h i1 l1 i ∧ SIt b2 h i2 l2 i
theorem turn_zip {P : Program} {w : World} {K : PySem.W.Frag} {es : List Expr} {kk : Nat} {pos : Pos} (b1 b2 : Bool) (z TI TO i1 i2 l1 l2 : Addr) (D : ZipApart z TI TO i1 i2 l1 l2) :
    Turn P w K (.Tuple es kk pos) (Itz K b1 l1 b2 l2) [z, TI, TO, i1, i2] z (Zo b1 b2 z TI TO i1 i2 l1 l2) where
  mem := by simp
  obj := fun i h st b hb => by
    obtain ⟨hz, hTI, ⟨x, y, hTO⟩, h1, h2⟩ := st
    have si : ∀ {b : Bool} {c l : Addr}, SIt b h c l i → ∃ o, h.get? c = some o ∧ ∀ v, o.data ≠ .cell v := fun {b c l} q => by
      cases b with
      | true => obtain ⟨o, e, c, d⟩ := (show h.IsListIter _ _ _ from q); exact ⟨o, e, fun v z => by rw [d] at z; cases z⟩
      | false => obtain ⟨o, e, c, d⟩ := (show h.IsTupleIter _ _ _ from q); exact ⟨o, e, fun v z => by rw [d] at z; cases z⟩
    simp only [List.mem_cons, List.not_mem_nil, or_false] at hb
    rcases hb with rfl | rfl | rfl | rfl | rfl
    · exact ⟨_, hz, fun v q => by cases q⟩
    · exact ⟨_, hTI, fun v q => by cases q⟩
    · exact ⟨_, hTO, fun v q => by cases q⟩
    · exact si h1
    · exact si h2
  keep := fun i h h' st k => by
    obtain ⟨hz, hTI, ⟨x, y, hTO⟩, h1, h2⟩ := st
    exact ⟨k z (by simp) _ hz, k TI (by simp) _ hTI, ⟨x, y, k TO (by simp) _ hTO⟩, h1.at (k i1 (by simp)), h2.at (k i2 (by simp))⟩
  item := by
    intro X hP hw hK hc i pins s σ H E I hf st hg
    subst hP hw hK
    obtain ⟨xs, ys, q1, q2, hi1, hi2⟩ := hg
    obtain ⟨hz, hTI, hTO, h1, h2⟩ := st
    obtain ⟨us, r1, o1, _⟩ := I.sqB q1
    obtain ⟨ws, r2, o2, _⟩ := I.sqB q2
    obtain ⟨u, hu, ru⟩ := r1.get (List.getElem?_eq_getElem hi1)
    obtain ⟨v, hv, rv⟩ := r2.get (List.getElem?_eq_getElem hi2)
    have Z : Zp b1 b2 s.heap z TI TO i1 i2 l1 l2 i us.toArray ws.toArray .none := ⟨hz, hTI, hTO, h1, h2, o1, o2⟩
    refine zip_item D Z (x := u) (y := v) (by simpa using hu) (by simpa using hv) fun h' Z' hT hk => ⟨_, rfl, ?_⟩
    refine wpAny_letOwnedTupleGo_zip Z'.hz fun h'' hz'' hs'' => ?_
    have hTz : s.heap.objs.size ≠ z := Nat.ne_of_gt (Heap.lt_size hz)
    have hT'' : IsPair h'' s.heap.objs.size u v := hs''.extBut _ _ hTz hT
    have kk : ∀ b o, b ∉ [z, TI, TO, i1, i2] → s.heap.get? b = some o → h''.get? b = some o := fun b o hb e => by
      simp only [List.mem_cons, List.not_mem_nil, or_false, not_or] at hb
      exact hs''.extBut _ _ hb.1 (hk b o hb.1 hb.2.2.1 hb.2.2.2.1 hb.2.2.2.2 e)
    have I1 : Inv X pins σ (upd H s.heap.objs.size (.tup [xs[i], ys[i]])) { s with heap := h'', toks := s.toks } := by
      refine I.turnNew (fp := [z, TI, TO, i1, i2]) hf kk (fun b hb => upd_ne (Nat.ne_of_lt hb)) fun b o hb e => ?_
      by_cases hbT : b = s.heap.objs.size
      · subst hbT
        rw [upd_same] at e
        cases e
        exact ⟨⟨by show 2 ≤ sizeLine; decide, fun _ => ⟨_, hT'', rfl, rfl⟩⟩, [u, v], .cons ru (.cons rv .nil), _, hT'', rfl, _, rfl⟩
      · rw [upd_ne hbT, I.hok.fresh hb] at e
        cases e
    refine ⟨.ref s.heap.objs.size, _, I1, rfl, ⟨_, _, _, I.hok.fresh (Nat.le_refl _), rfl, rfl, fun zs hq => ?_, fun zs hq => ?_⟩, ?_, fun b hb => ?_⟩
    · rw [I.sqB_inj hq q1]; exact List.getElem?_eq_getElem hi1
    · rw [I.sqB_inj hq q2]; exact List.getElem?_eq_getElem hi2
    · obtain ⟨x, y, hTO'⟩ := Z'.hTO
      exact ⟨hz'', hs''.extBut _ _ D.TIz Z'.hTI, ⟨x, y, hs''.extBut _ _ D.TOz hTO'⟩, Z'.h1.at fun o e => hs''.extBut _ _ D.i1z e, Z'.h2.at fun o e => hs''.extBut _ _ D.i2z e⟩
    · have hbl : b < s.heap.objs.size := by
        obtain ⟨x, y, hTO0⟩ := hTO
        simp only [List.mem_cons, List.not_mem_nil, or_false] at hb
        rcases hb with rfl | rfl | rfl | rfl | rfl
        · exact Heap.lt_size hz
        · exact Heap.lt_size hTI
        · exact Heap.lt_size hTO0
        · exact h1.lt
        · exact h2.lt
      rw [upd_ne (Nat.ne_of_lt hbl)]
      exact (hf b hb).1
  done := by
    intro X hP hw hK hc i pins s σ H E I hf st hg
    subst hP hw hK
    obtain ⟨xs, ys, q1, q2, hend⟩ := hg
    obtain ⟨hz, hTI, hTO, h1, h2⟩ := st
    obtain ⟨us, r1, o1, _⟩ := I.sqB q1
    obtain ⟨ws, r2, o2, _⟩ := I.sqB q2
    have e1 := r1.length
    have e2 := r2.length
    refine zip_end (I.ok.hd hc) D ⟨hz, hTI, hTO, h1, h2, o1, o2⟩ ?_ fun h' hk => ⟨rfl, ?_⟩
    · rcases hend with h | h
      · exact .inl (by simp; omega)
      · exact .inr (by simp; omega)
    · refine I.turnNew (t' := s.toks) (fp := [z, TI, TO, i1, i2]) hf (fun b o hb e => ?_) (fun b _ => rfl) fun b o hb e => ?_
      · simp only [List.mem_cons, List.not_mem_nil, or_false, not_or] at hb
        exact hk b o hb.1 hb.2.2.1 hb.2.2.2.1 hb.2.2.2.2 e
      · rw [I.hok.fresh hb] at e; cases e
  self := fun _ _ _ _ _ st h => wpAny_pyIter_zip st.1 h
/-! ### zip(a, b), made -/
def itObj (b : Bool) (l : Addr) : Obj := { cls := .type (if b then "list_iterator" else "tuple_iterator"), data := .fields #[.ref l, .int 0 0] }
def zp1 (b1 : Bool) (h : Heap) (l1 : Addr) : Heap := h.push (itObj b1 l1)
def zp2 (b1 b2 : Bool) (h : Heap) (l1 l2 : Addr) : Heap := (zp1 b1 h l1).push (itObj b2 l2)
def zp3 (b1 b2 : Bool) (h : Heap) (l1 l2 : Addr) : Heap := (zp2 b1 b2 h l1 l2).push { cls := .type "tuple", data := .seq #[.ref h.objs.size, .ref (zp1 b1 h l1).objs.size] }
def zp4 (b1 b2 : Bool) (h : Heap) (l1 l2 : Addr) : Heap := (zp3 b1 b2 h l1 l2).push { cls := .type "tuple", data := .seq #[.none, .none] }
def zp5 (b1 b2 : Bool) (h : Heap) (l1 l2 : Addr) : Heap := (zp4 b1 b2 h l1 l2).push { cls := .type "zip", data := .fields #[.none, .bool false, .bool false, .ref (zp2 b1 b2 h l1 l2).objs.size, .ref (zp3 b1 b2 h l1 l2).objs.size] }
theorem meets_zipN (b1 b2 : Bool) (l1 l2 : Addr) (xs ys : Array Value) :
    Meets (Builtin.«zip.__new__» ⟨[.type "zip", .ref l1, .ref l2], []⟩) (fun _ R s => SOb b1 s.heap l1 xs ∧ SOb b2 s.heap l2 ys ∧
      R (.ok (.ret (.ref (zp4 b1 b2 s.heap l1 l2).objs.size))) { s with heap := zp5 b1 b2 s.heap l1 l2 }) := by
  cases b1 <;> cases b2
  · exact .of_wp fun prog w A R s h => by
      obtain ⟨hp, g, d, tk, os⟩ := s; obtain ⟨hl1, hl2, h⟩ := h
      have hsub := sub_zip
      have hL1 : Heap.IsTuple (Shared.heap ⟨hp, g, d, tk, os⟩) l1 xs := hl1
      have hL2 : Heap.IsTuple (Shared.heap ⟨hp.push { cls := .type "tuple_iterator", data := .fields #[.ref l1, .int 0 0] }, g, d, tk, os⟩) l2 ys := by
        obtain ⟨o, ho, r⟩ := (show Heap.IsTuple hp l2 ys from hl2); exact ⟨o, Heap.get?_push_of_some _ ho, r⟩
      wp_walk using wpAny_pyIter_tuple hL1, wpAny_pyIter_tuple hL2
      exact ⟨_, rfl, h⟩
  · exact .of_wp fun prog w A R s h => by
      obtain ⟨hp, g, d, tk, os⟩ := s; obtain ⟨hl1, hl2, h⟩ := h
      have hsub := sub_zip
      have hL1 : Heap.IsTuple (Shared.heap ⟨hp, g, d, tk, os⟩) l1 xs := hl1
      have hL2 : Heap.IsList (Shared.heap ⟨hp.push { cls := .type "tuple_iterator", data := .fields #[.ref l1, .int 0 0] }, g, d, tk, os⟩) l2 ys := by
        obtain ⟨o, ho, r⟩ := (show Heap.IsList hp l2 ys from hl2); exact ⟨o, Heap.get?_push_of_some _ ho, r⟩
      wp_walk using wpAny_pyIter_tuple hL1, wpAny_pyIter_list hL2
      exact ⟨_, rfl, h⟩
  · exact .of_wp fun prog w A R s h => by
      obtain ⟨hp, g, d, tk, os⟩ := s; obtain ⟨hl1, hl2, h⟩ := h
      have hsub := sub_zip
      have hL1 : Heap.IsList (Shared.heap ⟨hp, g, d, tk, os⟩) l1 xs := hl1
      have hL2 : Heap.IsTuple (Shared.heap ⟨hp.push { cls := .type "list_iterator", data := .fields #[.ref l1, .int 0 0] }, g, d, tk, os⟩) l2 ys := by
        obtain ⟨o, ho, r⟩ := (show Heap.IsTuple hp l2 ys from hl2); exact ⟨o, Heap.get?_push_of_some _ ho, r⟩
      wp_walk using wpAny_pyIter_list hL1, wpAny_pyIter_tuple hL2
      exact ⟨_, rfl, h⟩
  · exact .of_wp fun prog w A R s h => by
      obtain ⟨hp, g, d, tk, os⟩ := s; obtain ⟨hl1, hl2, h⟩ := h
      have hsub := sub_zip
      have hL1 : Heap.IsList (Shared.heap ⟨hp, g, d, tk, os⟩) l1 xs := hl1
      have hL2 : Heap.IsList (Shared.heap ⟨hp.push { cls := .type "list_iterator", data := .fields #[.ref l1, .int 0 0] }, g, d, tk, os⟩) l2 ys := by
        obtain ⟨o, ho, r⟩ := (show Heap.IsList hp l2 ys from hl2); exact ⟨o, Heap.get?_push_of_some _ ho, r⟩
      wp_walk using wpAny_pyIter_list hL1, wpAny_pyIter_list hL2
      exact ⟨_, rfl, h⟩
section
variable {X : Cx} {tg : Expr}
theorem zip_made {pins : List (Addr × Obj)} {σ : St} {H : Hp} {s : Shared} {R : It → Hp → Prop} {b1 b2 : Bool} {l1 l2 : Addr} {xs ys : List V} {es : List Expr} {kk : Nat} {pos : Pos} (I : Inv X pins σ H s) (q1 : SqB b1 X.K H l1 xs) (q2 : SqB b2 X.K H l2 ys)
    (q : R (Itz X.K b1 l1 b2 l2) H) : wpAny (model X.prog X.w) X.A (call (.type "zip") [.ref l1, .ref l2]) (fun v s1 => wpAny (model X.prog X.w) X.A (pyIter v) (PIE X pins σ (.Tuple es kk pos) R) X.xe s1) X.xe s := by
  obtain ⟨us, r1, o1, _⟩ := I.sqB q1
  obtain ⟨ws, r2, o2, _⟩ := I.sqB q2
  refine callType_new F.called_zip (by decide) (F.typeCall_zip_2 _ _) (F.newCall_zip_2 _ _) (fun obj => F.args_object_init_3 obj _ _) F.entry_zip_new (meets_zipN b1 b2 l1 l2 us.toArray ws.toArray) ⟨o1, o2, ?_⟩
  have z1 : (zp1 b1 s.heap l1).objs.size = s.heap.objs.size + 1 := Heap.size_push ..
  have z2 : (zp2 b1 b2 s.heap l1 l2).objs.size = s.heap.objs.size + 2 := (Heap.size_push ..).trans (by rw [z1])
  have z3 : (zp3 b1 b2 s.heap l1 l2).objs.size = s.heap.objs.size + 3 := (Heap.size_push ..).trans (by rw [z2])
  have z4 : (zp4 b1 b2 s.heap l1 l2).objs.size = s.heap.objs.size + 4 := (Heap.size_push ..).trans (by rw [z3])
  have g5 : (zp5 b1 b2 s.heap l1 l2).get? (zp4 b1 b2 s.heap l1 l2).objs.size = some _ := Heap.get?_push_size _ rfl
  have g4 : (zp5 b1 b2 s.heap l1 l2).get? (zp3 b1 b2 s.heap l1 l2).objs.size = some _ := Heap.get?_push_of_some _ (Heap.get?_push_size _ rfl)
  have g3 : (zp5 b1 b2 s.heap l1 l2).get? (zp2 b1 b2 s.heap l1 l2).objs.size = some _ := Heap.get?_push_of_some _ (Heap.get?_push_of_some _ (Heap.get?_push_size _ rfl))
  have g2 : (zp5 b1 b2 s.heap l1 l2).get? (zp1 b1 s.heap l1).objs.size = some (itObj b2 l2) := Heap.get?_push_of_some _ (Heap.get?_push_of_some _ (Heap.get?_push_of_some _ (Heap.get?_push_size _ rfl)))
  have g1 : (zp5 b1 b2 s.heap l1 l2).get? s.heap.objs.size = some (itObj b1 l1) := Heap.get?_push_of_some _ (Heap.get?_push_of_some _ (Heap.get?_push_of_some _ (Heap.get?_push_of_some _ (Heap.get?_push_size _ rfl))))
  have keep : ∀ c o, s.heap.get? c = some o → (zp5 b1 b2 s.heap l1 l2).get? c = some o := fun c o x =>
    Heap.get?_push_of_some _ (Heap.get?_push_of_some _ (Heap.get?_push_of_some _ (Heap.get?_push_of_some _ (Heap.get?_push_of_some _ x))))
  rw [z1] at g2
  rw [z2, z1] at g3
  rw [z3] at g4
  rw [z4, z3, z2] at g5
  rw [z4]
  have sit : ∀ {b : Bool} {c l : Addr}, (zp5 b1 b2 s.heap l1 l2).get? c = some (itObj b l) → SIt b (zp5 b1 b2 s.heap l1 l2) c l 0 := fun {b c l} e => by
    cases b with
    | true => exact ⟨_, e, rfl, rfl⟩
    | false => exact ⟨_, e, rfl, rfl⟩
  have I1 : Inv X pins σ H { s with heap := zp5 b1 b2 s.heap l1 l2, toks := s.toks } := I.kept keep
  have hl1 : l1 < s.heap.objs.size := o1.lt
  have hl2 : l2 < s.heap.objs.size := o2.lt
  have ne : ∀ {a b : Nat}, a < b → (a : Addr) ≠ b := fun h => Nat.ne_of_lt h
  have D : ZipApart (s.heap.objs.size + 4) (s.heap.objs.size + 2) (s.heap.objs.size + 3) s.heap.objs.size (s.heap.objs.size + 1) l1 l2 := by
    have hl1' : (l1 : Nat) < s.heap.objs.size := hl1
    have hl2' : (l2 : Nat) < s.heap.objs.size := hl2
    constructor
    all_goals first
      | exact Nat.ne_of_lt (by omega)
      | exact Nat.ne_of_gt (by omega)
      | exact Nat.ne_of_lt (Nat.lt_of_lt_of_le hl1' (by omega))
      | exact Nat.ne_of_lt (Nat.lt_of_lt_of_le hl2' (by omega))
  refine ⟨⟨_, g5, rfl⟩, wpAny_pyIter_zip g5 ⟨s.heap.objs.size + 4, [s.heap.objs.size + 4, s.heap.objs.size + 2, s.heap.objs.size + 3, s.heap.objs.size, s.heap.objs.size + 1], _, _, H, rfl, I1, turn_zip b1 b2 _ _ _ _ _ l1 l2 D, ⟨g5, g3, ⟨_, _, g4⟩, sit g1, sit g2⟩, fun b hb => ?_, q⟩⟩
  have hle : s.heap.objs.size ≤ b := by
    simp only [List.mem_cons, List.not_mem_nil, or_false] at hb
    rcases hb with rfl | rfl | rfl | rfl | rfl
    · exact Nat.le_add_right _ _
    · exact Nat.le_add_right _ _
    · exact Nat.le_add_right _ _
    · exact Nat.le_refl _
    · exact Nat.le_add_right _ _
  exact I.fpOk hle (I.hok.fresh hle)
def rZip (K : PySem.W.Frag) (vs : List V) (H : Hp) (R : It → Hp → Prop) : Prop := ∃ b1 b2 l1 l2 xs ys, vs = [.ref l1, .ref l2] ∧ SqB b1 K H l1 xs ∧ SqB b2 K H l2 ys ∧ R (Itz K b1 l1 b2 l2) H
def iZip (K : PySem.W.Frag) (ta : TA) : TI := fun σ H R => ta σ H fun vs H1 => rZip K vs H1 R
theorem ki_zip {a b : Expr} {t : TA} {p pos tpos : Pos} {es : List Expr} {kk : Nat} (K : PySem.W.Frag) (hK : X.K = K) (hg : Gl X "zip") (hm : X.mg "zip" = none) (ha : QA X [a, b] t) (hs : isStar a = false := by rfl) (hs2 : isStar b = false := by rfl) :
    QI X (.Tuple es kk tpos) (.Call (.Name "zip" p) [a, b] [] pos) (iZip K t) := by
  subst hK
  refine ⟨?_⟩
  intro pins s σ H R I h
  refine Call_ (ld_blt I hg hm bt_zip (PyProof.Rows.callWith_type1 (thn (ha.h pos pins s σ H _ I h) fun us s1 ⟨vs, H1, I1, r1, q1⟩ => ?_) (by rw [star_cons hs, star_cons hs2]) (by rw [star_cons hs2]; rfl)))
  obtain ⟨b1, b2, l1, l2, xs, ys, e, g1, g2, q⟩ := q1
  subst e
  obtain ⟨u, v, rfl, ru, rv⟩ := r1.two
  cases ru
  cases rv
  exact zip_made I1 g1 g2 q
end
section
variable {K : PySem.W.Frag} {σ : St} {H : Hp} {D : Ends}
theorem rd_iZip {ta : TA} {R : It → Hp → Prop} (h : ta σ H fun vs H1 => rZip K vs H1 R) : iZip K ta σ H R := h
theorem rd_zip {b1 b2 : Bool} {l1 l2 : Addr} {xs ys : List V} {R : It → Hp → Prop} (h1 : SqB b1 K H l1 xs) (h2 : SqB b2 K H l2 ys) (h : R (Itz K b1 l1 b2 l2) H) : rZip K [.ref l1, .ref l2] H R := ⟨b1, b2, l1, l2, xs, ys, rfl, h1, h2, h⟩
/-- a loop over a zip, by an invariant -/
theorem rd_forZ {b1 b2 : Bool} {l1 l2 : Addr} {xs ys : List V} {g : TG} {tb : TS} (n : Nat) (hn : n = min xs.length ys.length) (Pv : Nat → St → Hp → Prop) (h0 : Pv 0 σ H) (hl : ∀ i σ H, Pv i σ H → SqB b1 K H l1 xs ∧ SqB b2 K H l2 ys)
    (hs : ∀ i σ H T H2 a b, i < n → Pv i σ H → xs[i]? = some a → ys[i]? = some b → H T = none → H2 T = some (.tup [a, b]) → Same H H2 → g (.ref T) σ H2 fun σ2 H3 => tb { D with nx := Pv (i + 1), ct := Pv (i + 1), bk := D.nx } σ2 H3)
    (hd : ∀ σ H, Pv n σ H → D.nx σ H) : rFor (Itz K b1 l1 b2 l2) g tb D σ H := by
  refine ⟨fun i m σ H => m = n - i ∧ i ≤ n ∧ Pv i σ H, ⟨n, by simp, Nat.zero_le _, h0⟩, ?_⟩
  rintro i m σ H ⟨rfl, hi, p⟩
  obtain ⟨q1, q2⟩ := hl i σ H p
  by_cases hlt : i < n
  · refine .inr ⟨⟨xs, ys, q1, q2, by omega, by omega⟩, Pv (i + 1), fun σ' H' p' => ⟨n - (i + 1), by omega, rfl, hlt, p'⟩, ?_⟩
    rintro x H' ⟨T, a, b, hT, rfl, rfl, e1, e2⟩
    exact hs i σ H T _ a b hlt p (e1 _ q1) (e2 _ q2) hT upd_same (Same.new hT)
  · have e : i = n := by omega
    subst e
    exact .inl ⟨⟨xs, ys, q1, q2, by omega⟩, hd σ H p⟩
end
end L2

set_option Elab.async false
set_option linter.all false
set_option maxRecDepth 100000
set_option maxHeartbeats 4000000
namespace L2
open PySem PySem.Spec PyProof.Rows
/-! ### min, max of a list of ints -/
section
variable {X : Cx}
def rMinL (K : PySem.W.Frag) : List V → Hp → VK → Prop := fun xs H Q => ∃ (p : Addr) (ns : List Int), xs = [.ref p] ∧ SqL K H p (ns.map V.int) ∧ ns ≠ [] ∧ ∀ m, m ∈ ns → (∀ n ∈ ns, m ≤ n) → Q (.int m) H
def rMaxL (K : PySem.W.Frag) : List V → Hp → VK → Prop := fun xs H Q => ∃ (p : Addr) (ns : List Int), xs = [.ref p] ∧ SqL K H p (ns.map V.int) ∧ ns ≠ [] ∧ ∀ m, m ∈ ns → (∀ n ∈ ns, n ≤ m) → Q (.int m) H
theorem ints_at : ∀ {ns : List Int} {its : List Value}, Vals (ns.map V.int) its → ∀ {i : Nat} {v : Value}, its[i]? = some v → ∃ t, v = .int (ns.getD i 0) t
  | [], _, .nil, i, v, e => by simp at e
  | n :: ns, _, .cons ⟨t, r⟩ h, 0, v, e => by simp at e; subst e; exact ⟨t, r⟩
  | n :: ns, _, .cons _ h, i + 1, v, e => by
    obtain ⟨t, r⟩ := ints_at h (i := i) (v := v) (by simpa using e)
    exact ⟨t, by simpa using r⟩
theorem kc_minL (K : PySem.W.Frag) (hK : X.K = K) (hc : X.calm = true) : CallR X (.builtin "min") (rMinL K) := by
  subst hK
  intro pins s σ H xs us Q I r h
  obtain ⟨p, ns, rfl, hS, hne, q⟩ := h
  obtain ⟨u, rfl, ru⟩ := r.one
  cases ru
  obtain ⟨its, rv, pl, _⟩ := I.list hS
  have hlen : its.length = ns.length := by have := rv.length; simpa using this.symm
  have hpos : 0 < ns.length := List.length_pos_iff.mpr hne
  have hl : s.heap.IsList p its.toArray := pl.isList
  have hlt : p < s.heap.objs.size := by obtain ⟨_, e, _⟩ := hl; exact Heap.lt_size e
  refine call_min_walk (wpAny_pyIter_list hl ⟨_, _, _, _, _, _, _, rfl, Walks.list (A := X.A.in1) (I.ok.hd hc) _ p (Nat.ne_of_lt hlt) its.toArray, ⟨⟨_, Heap.get?_push_size _ rfl, rfl, rfl⟩, hl.push _⟩, fun b hb => ?_, by rw [List.size_toArray]; omega,
    CmpOf.ints_lt (fun i => ns.getD i 0) (fun i v e => ints_at rv (by simpa using e)), fun v h' tk hP hk => ?_⟩)
  · rw [Heap.size_push]
    simp only [List.mem_cons, List.not_mem_nil, or_false] at hb
    rcases hb with rfl | rfl
    · exact Nat.lt_succ_self _
    · exact Nat.lt_succ_of_lt hlt
  · have hP' : its[argBest (fun i j => decide (ns.getD i 0 < ns.getD j 0)) (its.length - 1)]? = some v := by simpa using hP
    obtain ⟨t, rfl⟩ := ints_at rv hP'
    obtain ⟨h1, h2⟩ := argBest_lt (fun i => ns.getD i 0) (its.toArray.size - 1)
    rw [List.size_toArray] at h1 h2
    generalize hb : argBest (fun i j => decide (ns.getD i 0 < ns.getD j 0)) (its.length - 1) = b at *
    have hbl : b < ns.length := by omega
    refine ⟨.int (ns.getD b 0), H, I.kept (t' := tk) fun c o e => hk c o ?_ (Heap.get?_push_of_some _ e), ⟨t, rfl⟩, q _ ?_ fun n hn => ?_⟩
    · intro z; simp at z; exact Nat.ne_of_lt (Heap.lt_size e) z
    · have : ns.getD b 0 = ns[b] := by simp [hbl]
      rw [this]; exact List.getElem_mem hbl
    · obtain ⟨j, hj, e⟩ := List.getElem_of_mem hn
      have := h2 j (by omega)
      have e2 : ns.getD j 0 = n := by simp [hj, e]
      rw [e2] at this
      exact this
theorem kc_maxL (K : PySem.W.Frag) (hK : X.K = K) (hc : X.calm = true) : CallR X (.builtin "max") (rMaxL K) := by
  subst hK
  intro pins s σ H xs us Q I r h
  obtain ⟨p, ns, rfl, hS, hne, q⟩ := h
  obtain ⟨u, rfl, ru⟩ := r.one
  cases ru
  obtain ⟨its, rv, pl, _⟩ := I.list hS
  have hlen : its.length = ns.length := by have := rv.length; simpa using this.symm
  have hpos : 0 < ns.length := List.length_pos_iff.mpr hne
  have hl : s.heap.IsList p its.toArray := pl.isList
  have hlt : p < s.heap.objs.size := by obtain ⟨_, e, _⟩ := hl; exact Heap.lt_size e
  refine call_max_walk (wpAny_pyIter_list hl ⟨_, _, _, _, _, _, _, rfl, Walks.list (A := X.A.in1) (I.ok.hd hc) _ p (Nat.ne_of_lt hlt) its.toArray, ⟨⟨_, Heap.get?_push_size _ rfl, rfl, rfl⟩, hl.push _⟩, fun b hb => ?_, by rw [List.size_toArray]; omega,
    CmpOf.ints_gt (fun i => ns.getD i 0) (fun i v e => ints_at rv (by simpa using e)), fun v h' tk hP hk => ?_⟩)
  · rw [Heap.size_push]
    simp only [List.mem_cons, List.not_mem_nil, or_false] at hb
    rcases hb with rfl | rfl
    · exact Nat.lt_succ_self _
    · exact Nat.lt_succ_of_lt hlt
  · have hP' : its[argBest (fun i j => decide (ns.getD i 0 > ns.getD j 0)) (its.length - 1)]? = some v := by simpa using hP
    obtain ⟨t, rfl⟩ := ints_at rv hP'
    obtain ⟨h1, h2⟩ := argBest_gt (fun i => ns.getD i 0) (its.toArray.size - 1)
    rw [List.size_toArray] at h1 h2
    generalize hb : argBest (fun i j => decide (ns.getD i 0 > ns.getD j 0)) (its.length - 1) = b at *
    have hbl : b < ns.length := by omega
    refine ⟨.int (ns.getD b 0), H, I.kept (t' := tk) fun c o e => hk c o ?_ (Heap.get?_push_of_some _ e), ⟨t, rfl⟩, q _ ?_ fun n hn => ?_⟩
    · intro z; simp at z; exact Nat.ne_of_lt (Heap.lt_size e) z
    · have : ns.getD b 0 = ns[b] := by simp [hbl]
      rw [this]; exact List.getElem_mem hbl
    · obtain ⟨j, hj, e⟩ := List.getElem_of_mem hn
      have := h2 j (by omega)
      have e2 : ns.getD j 0 = n := by simp [hj, e]
      rw [e2] at this
      exact this
theorem rd_minL {K : PySem.W.Frag} {H : Hp} {Q : VK} {p : Addr} {ns : List Int} (h1 : SqL K H p (ns.map V.int)) (h2 : ns ≠ []) (h : ∀ m, m ∈ ns → (∀ n ∈ ns, m ≤ n) → Q (.int m) H) : rMinL K [.ref p] H Q := ⟨p, ns, rfl, h1, h2, h⟩
theorem rd_maxL {K : PySem.W.Frag} {H : Hp} {Q : VK} {p : Addr} {ns : List Int} (h1 : SqL K H p (ns.map V.int)) (h2 : ns ≠ []) (h : ∀ m, m ∈ ns → (∀ n ∈ ns, n ≤ m) → Q (.int m) H) : rMaxL K [.ref p] H Q := ⟨p, ns, rfl, h1, h2, h⟩
end
/-! ### how big numbers are -/
def Bn (n : Nat) (x : Int) : Prop := x.natAbs < 2 ^ n
theorem Bn.mono {m n : Nat} {x : Int} (h : Bn m x) (hm : m ≤ n) : Bn n x := Nat.lt_of_lt_of_le h (Nat.pow_le_pow_right (by decide) hm)
theorem Bn.mul {m n : Nat} {x y : Int} (h : Bn m x) (g : Bn n y) : Bn (m + n) (x * y) := by
  unfold Bn at *
  rw [Int.natAbs_mul, Nat.pow_add]
  exact Nat.mul_lt_mul'' h g
theorem Bn.add {n : Nat} {x y : Int} (h : Bn n x) (g : Bn n y) : Bn (n + 1) (x + y) := by
  unfold Bn at *
  have := Int.natAbs_add_le x y
  rw [Nat.pow_succ]
  omega
theorem Bn.sub {n : Nat} {x y : Int} (h : Bn n x) (g : Bn n y) : Bn (n + 1) (x - y) := by
  unfold Bn at *
  have := Int.natAbs_sub_le x y
  rw [Nat.pow_succ]
  omega
theorem Bn.of {n : Nat} {x : Int} (h1 : -(2 ^ n) < x) (h2 : x < 2 ^ n) : Bn n x := by
  unfold Bn
  have e : ((2 ^ n : Nat) : Int) = (2 : Int) ^ n := by simp
  have : (x.natAbs : Int) < ((2 ^ n : Nat) : Int) := by rw [e]; omega
  exact Int.ofNat_lt.mp this
theorem Bn.lt {n : Nat} {x : Int} (h : Bn n x) : -(2 ^ n) < x ∧ x < 2 ^ n := by
  have e : ((2 ^ n : Nat) : Int) = (2 : Int) ^ n := by simp
  have : (x.natAbs : Int) < ((2 ^ n : Nat) : Int) := Int.ofNat_lt.mpr h
  rw [e] at this
  omega
theorem mulBig {m n : Nat} {x y : Int} (h : Bn m x) (g : Bn n y) (hm : m + n ≤ 8000) : IntMulOk x y := by
  have h1 : Builtin.Int.intBits x ≤ m := intBits_le h
  have h2 : Builtin.Int.intBits y ≤ n := intBits_le g
  unfold IntMulOk
  have : Builtin.Int.intTooBig ((Builtin.Int.intBits x : Int) + (Builtin.Int.intBits y : Int)) = false := by
    unfold Builtin.Int.intTooBig
    refine decide_eq_false ?_
    have hb : (8000 : Int) ≤ bitsLine := by decide
    omega
  rw [this]
  simp
theorem Bn.divB {n : Nat} {i j : Int} (h : Bn n j) (h0 : 0 < j) (hn : n ≤ 8000) : CDivB i j := CDivB.of h0 h.lt.2 (by omega)
/-! ### a run of dots: none, or a pair -/
inductive DotIs (H : Hp) : V → Option (Int × Int) → Prop where
  | non : DotIs H .non Option.none
  | pr {c : Addr} {p : Int × Int} (e : H c = Option.some (.tup [.int p.1, .int p.2])) : DotIs H (.ref c) (Option.some p)
theorem DotIs.same {H H' : Hp} {v : V} {o : Option (Int × Int)} (h : DotIs H v o) (s : Same H H') : DotIs H' v o := by
  cases h with
  | non => exact .non
  | pr e => exact .pr (s _ _ e)
theorem DotIs.kpL {H H' : Hp} {l : Addr} {xs : List V} {v : V} {o : Option (Int × Int)} (h : DotIs H v o) (k : Kp l H H') (hl : H l = Option.some (.lst xs)) : DotIs H' v o := by
  cases h with
  | non => exact .non
  | pr e => exact .pr (k _ _ e (fun z => by subst z; rw [hl] at e; cases e))
inductive Dots (H : Hp) : List V → List (Option (Int × Int)) → Prop where
  | nil : Dots H [] []
  | cons {v : V} {o : Option (Int × Int)} {vs : List V} {os : List (Option (Int × Int))} (h : DotIs H v o) (t : Dots H vs os) : Dots H (v :: vs) (o :: os)
theorem Dots.mapP {H H' : Hp} (f : ∀ v o, DotIs H v o → DotIs H' v o) : ∀ {vs : List V} {os : List (Option (Int × Int))}, Dots H vs os → Dots H' vs os
  | _, _, .nil => .nil
  | _, _, .cons h t => .cons (f _ _ h) (Dots.mapP f t)
theorem Dots.same {H H' : Hp} {vs : List V} {os : List (Option (Int × Int))} (h : Dots H vs os) (s : Same H H') : Dots H' vs os := h.mapP fun _ _ d => d.same s
theorem Dots.len {H : Hp} : ∀ {vs : List V} {os : List (Option (Int × Int))}, Dots H vs os → vs.length = os.length
  | _, _, .nil => rfl
  | _, _, .cons _ t => by simp [Dots.len t]
theorem Dots.snoc {H : Hp} : ∀ {vs : List V} {os : List (Option (Int × Int))}, Dots H vs os → ∀ {v : V} {o : Option (Int × Int)}, DotIs H v o → Dots H (vs ++ [v]) (os ++ [o])
  | _, _, .nil, _, _, d => .cons d .nil
  | _, _, .cons h t, _, _, d => .cons h (Dots.snoc t d)
theorem Dots.at {H : Hp} : ∀ {vs : List V} {os : List (Option (Int × Int))}, Dots H vs os → ∀ {i : Nat} {v : V}, vs[i]? = Option.some v → ∃ o, os[i]? = Option.some o ∧ DotIs H v o
  | _, _, .nil, i, v, e => by simp at e
  | _, _, .cons h t, 0, v, e => by simp at e; subst e; exact ⟨_, rfl, h⟩
  | _, _, .cons _ t, i + 1, v, e => by
    obtain ⟨o, h1, h2⟩ := Dots.at t (by simpa using e)
    exact ⟨o, by simpa using h1, h2⟩
def dotD : Option (Int × Int) → PyData
  | none => .none
  | some p => pairD p
theorem Dots.dats {K : PySem.W.Frag} {H : Hp} : ∀ {vs : List V} {os : List (Option (Int × Int))}, Dots H vs os → Dats K H vs (os.map dotD)
  | _, _, .nil => .nil
  | _, _, .cons .non t => .cons .non (Dots.dats t)
  | _, _, .cons (.pr e) t => .cons (.tup (SqT.of e) (.cons (.int _) (.cons (.int _) .nil))) (Dots.dats t)
theorem dots_lay : ∀ os : List (Option (Int × Int)), PyData.canLayAll0 (os.map dotD) = true
  | [] => rfl
  | o :: os => by
    show (PyData.canLay0 (dotD o) && PyData.canLayAll0 (os.map dotD)) = true
    rw [dots_lay os]
    cases o <;> rfl
theorem dots_depth : ∀ os : List (Option (Int × Int)), PyData.depthAll (os.map dotD) ≤ 50
  | [] => by decide
  | o :: os => by
    have ih := dots_depth os
    have h0 : PyData.depth (dotD o) ≤ 50 := by
      cases o with
      | none => decide
      | some p =>
        show PyData.depth (.tuple [.int p.1, .int p.2]) ≤ 50
        simp only [PyData.depth, PyData.depthAll]
        decide
    show PyData.depthAll (dotD o :: os.map dotD) ≤ 50
    simp only [PyData.depthAll]
    omega
theorem rd_neDots {K : PySem.W.Frag} {H : Hp} {Q : VK} {a b : Addr} {vs ws : List V} {os : List (Option (Int × Int))} (h1 : H a = some (.tup vs)) (p1 : Dots H vs os) (h2 : H b = some (.tup ws)) (p2 : Dots H ws os) (h : Q (.bl false) H) : rNeD K (.ref a) (.ref b) H Q := by
  refine rd_neD (.tup (SqT.of h1) p1.dats) (.tup (SqT.of h2) p2.dats) (dots_lay os) (dots_lay os) ?_ ?_
  · have := dots_depth os
    simp only [PyData.depth]
    omega
  · have e : PyData.eqv (.tuple (os.map dotD)) (.tuple (os.map dotD)) = true := PySem.SeqAt.eqv_refl _ (dots_lay os)
    rw [e]
    exact h
end L2

set_option Elab.async false
set_option linter.all false
set_option maxRecDepth 100000
set_option maxHeartbeats 4000000
namespace L2
open PySem PySem.Spec PyProof.Rows
end L2

set_option Elab.async false
set_option linter.all false
set_option maxRecDepth 100000
set_option maxHeartbeats 4000000
namespace L2
open PySem PySem.Spec PyProof.Rows
/-- the row of a broken height -/
def fl (low tall : Int) (q : Int × Int) : Int := (q.1 - low * q.2) / (tall * q.2)
theorem le_fl {low tall r : Int} {q : Int × Int} (ht : 0 < tall) (hq : 0 < q.2) : r ≤ fl low tall q ↔ (low + r * tall) * q.2 ≤ q.1 := by
  unfold fl
  rw [Int.le_ediv_iff_mul_le (Int.mul_pos ht hq), Int.add_mul, Int.mul_assoc]
  omega
theorem fl_mono {low tall : Int} {p q : Int × Int} (ht : 0 < tall) (hp : 0 < p.2) (hq : 0 < q.2) (h : q.1 * p.2 ≤ p.1 * q.2) : fl low tall q ≤ fl low tall p := by
  rw [le_fl ht hp]
  have h1 := (le_fl (low := low) (r := fl low tall q) ht hq).mp (Int.le_refl _)
  generalize low + fl low tall q * tall = c at *
  have h2 : c * q.2 * p.2 ≤ q.1 * p.2 := Int.mul_le_mul_of_nonneg_right h1 (by omega)
  have e : c * q.2 * p.2 = c * p.2 * q.2 := by rw [Int.mul_assoc, Int.mul_comm q.2 p.2, ← Int.mul_assoc]
  have h3 : c * p.2 * q.2 ≤ p.1 * q.2 := by omega
  exact Int.le_of_mul_le_mul_right h3 hq
def mx (i j : Int) : Int := if j > i then j else i
def mn (i j : Int) : Int := if j < i then j else i
/-- the dots of a column whose met rows are fs -/
def IsDot (fs : List Int) (rows : Int) (o : Option (Int × Int)) : Prop :=
  (fs = [] ∧ o = none) ∨ ∃ m M, m ∈ fs ∧ (∀ f ∈ fs, m ≤ f) ∧ M ∈ fs ∧ (∀ f ∈ fs, f ≤ M) ∧ o = if max m 0 ≤ min M (rows - 1) then some (max m 0, min M (rows - 1)) else none
theorem IsDot.unique {fs : List Int} {rows : Int} {o o' : Option (Int × Int)} (h : IsDot fs rows o) (g : IsDot fs rows o') : o = o' := by
  rcases h with ⟨e, h⟩ | ⟨m, M, h1, h2, h3, h4, h5⟩
  · rcases g with ⟨_, g⟩ | ⟨m, M, g1, _⟩
    · rw [h, g]
    · rw [e] at g1; cases g1
  · rcases g with ⟨e, g⟩ | ⟨m', M', g1, g2, g3, g4, g5⟩
    · rw [e] at h1; cases h1
    · have e1 : m = m' := Int.le_antisymm (h2 _ g1) (g2 _ h1)
      have e2 : M = M' := Int.le_antisymm (g4 _ h3) (h4 _ g3)
      subst e1 e2
      rw [h5, g5]
/-- the height of a straight piece at a time -/
def frP (a b : Int × Int) (t : Int) : Int × Int := (a.2 * (b.1 - a.1) + (b.2 - a.2) * (t - a.1), b.1 - a.1)
def onePiece (x z : Int) (ab : (Int × Int) × (Int × Int)) : List (Int × Int) := if ab.1.1 < z ∧ x < ab.2.1 then [frP ab.1 ab.2 (mx x ab.1.1), frP ab.1 ab.2 (mn z ab.2.1)] else []
def pieces (cv : List (Int × Int)) (x z : Int) : List (Int × Int) := (cv.zip (cv.drop 1)).flatMap (onePiece x z)
def inCol (cv : List (Int × Int)) (b e : Int) : List (Int × Int) := cv.filter fun p => decide (b ≤ p.1) && decide (p.1 < e)
def metF (cv : List (Int × Int)) (x z : Int) : List (Int × Int) := (inCol cv x z).map (fun p => (p.2, 1)) ++ pieces cv x z
theorem zip_steps {cv : List (Int × Int)} (h : Asc cv) {i : Nat} {a b : Int × Int} (h1 : cv[i]? = some a) (h2 : (cv.drop 1)[i]? = some b) : a.1 < b.1 := by
  rw [List.getElem?_drop] at h2
  have hi := (List.getElem?_eq_some_iff.mp h1)
  have hj := (List.getElem?_eq_some_iff.mp h2)
  have := List.pairwise_iff_getElem.mp h i (1 + i) hi.1 hj.1 (by omega)
  rw [hi.2, hj.2] at this
  exact this
theorem zip_get {cv : List (Int × Int)} {i : Nat} {a b : Int × Int} (h1 : cv[i]? = some a) (h2 : (cv.drop 1)[i]? = some b) : (cv.zip (cv.drop 1))[i]? = some (a, b) := by
  rw [List.getElem?_zip_eq_some]
  exact ⟨h1, h2⟩
end L2

set_option Elab.async false
set_option linter.all false
set_option maxRecDepth 100000
set_option maxHeartbeats 4000000
namespace L2
open PySem PySem.Spec PyProof.Rows
def Adj (cv : List (Int × Int)) (a b : Int × Int) : Prop := a ∈ cv ∧ b ∈ cv ∧ a.1 < b.1 ∧ ∀ c ∈ cv, ¬ (a.1 < c.1 ∧ c.1 < b.1)
theorem asc_lt {cv : List (Int × Int)} (h : Asc cv) {i j : Nat} (hi : i < cv.length) (hj : j < cv.length) (hij : i < j) : cv[i].1 < cv[j].1 := List.pairwise_iff_getElem.mp h i j hi hj hij
theorem asc_inj {cv : List (Int × Int)} (h : Asc cv) {a b : Int × Int} (ha : a ∈ cv) (hb : b ∈ cv) (e : a.1 = b.1) : a = b := by
  obtain ⟨i, hi, rfl⟩ := List.getElem_of_mem ha
  obtain ⟨j, hj, rfl⟩ := List.getElem_of_mem hb
  rcases Nat.lt_trichotomy i j with hij | hij | hij
  · have := asc_lt h hi hj hij; omega
  · subst hij; rfl
  · have := asc_lt h hj hi hij; omega
theorem adj_iff {cv : List (Int × Int)} (h : Asc cv) {a b : Int × Int} : (a, b) ∈ cv.zip (cv.drop 1) ↔ Adj cv a b := by
  constructor
  · intro hab
    obtain ⟨i, hi, e⟩ := List.getElem_of_mem hab
    have e' : (cv.zip (cv.drop 1))[i]? = some (a, b) := by rw [List.getElem?_eq_getElem hi, e]
    obtain ⟨h1, h2⟩ := List.getElem?_zip_eq_some.mp e'
    have hlt := zip_steps h h1 h2
    rw [List.getElem?_drop] at h2
    obtain ⟨hi1, e1⟩ := List.getElem?_eq_some_iff.mp h1
    obtain ⟨hi2, e2⟩ := List.getElem?_eq_some_iff.mp h2
    have e1 : cv[i] = a := e1
    have e2 : cv[1 + i] = b := e2
    refine ⟨List.mem_of_getElem? h1, List.mem_of_getElem? h2, hlt, ?_⟩
    rintro c hc ⟨g1, g2⟩
    obtain ⟨j, hj, rfl⟩ := List.getElem_of_mem hc
    by_cases hij : j ≤ i
    · rcases Nat.lt_or_eq_of_le hij with hij | hij
      · have := asc_lt h hj hi1 hij
        rw [e1] at this
        omega
      · subst hij
        rw [e1] at g1
        omega
    · by_cases hij2 : j = 1 + i
      · subst hij2
        rw [e2] at g2
        omega
      · have := asc_lt h hi2 hj (by omega)
        rw [e2] at this
        omega
  · rintro ⟨ha, hb, hlt, hno⟩
    obtain ⟨i, hi, e1⟩ := List.getElem_of_mem ha
    obtain ⟨j, hj, e2⟩ := List.getElem_of_mem hb
    have hij : i < j := by
      rcases Nat.lt_trichotomy i j with hij | hij | hij
      · exact hij
      · subst hij
        rw [e1] at e2
        subst e2
        omega
      · have := asc_lt h hj hi hij
        rw [e1, e2] at this
        omega
    have hji : j = 1 + i := by
      by_cases z : j = 1 + i
      · exact z
      · exfalso
        have hk : 1 + i < cv.length := by omega
        refine hno cv[1 + i] (List.getElem_mem hk) ⟨?_, ?_⟩
        · have := asc_lt h hi hk (by omega)
          rw [e1] at this
          exact this
        · have := asc_lt h hk hj (by omega)
          rw [e2] at this
          exact this
    subst hji
    refine List.mem_of_getElem? (i := i) (zip_get ?_ ?_)
    · rw [List.getElem?_eq_getElem hi, e1]
    · rw [List.getElem?_drop, List.getElem?_eq_getElem hj, e2]
theorem mem_metF {cv : List (Int × Int)} (h : Asc cv) {x z : Int} {q : Int × Int} : q ∈ metF cv x z ↔ (∃ p ∈ cv, x ≤ p.1 ∧ p.1 < z ∧ q = (p.2, 1)) ∨ ∃ a b, Adj cv a b ∧ a.1 < z ∧ x < b.1 ∧ (q = frP a b (mx x a.1) ∨ q = frP a b (mn z b.1)) := by
  unfold metF
  rw [List.mem_append]
  constructor
  · rintro (hq | hq)
    · obtain ⟨p, hp, rfl⟩ := List.mem_map.mp hq
      obtain ⟨h1, h2⟩ := List.mem_filter.mp hp
      simp at h2
      exact .inl ⟨p, h1, h2.1, h2.2, rfl⟩
    · unfold pieces at hq
      obtain ⟨⟨a, b⟩, hab, hq⟩ := List.mem_flatMap.mp hq
      unfold onePiece at hq
      split at hq
      · rename_i hc
        simp only [List.mem_cons, List.not_mem_nil, or_false] at hq
        exact .inr ⟨a, b, (adj_iff h).mp hab, hc.1, hc.2, hq⟩
      · cases hq
  · rintro (⟨p, hp, h1, h2, rfl⟩ | ⟨a, b, hab, h1, h2, hq⟩)
    · refine .inl (List.mem_map.mpr ⟨p, List.mem_filter.mpr ⟨hp, by simp [h1, h2]⟩, rfl⟩)
    · refine .inr (List.mem_flatMap.mpr ⟨(a, b), (adj_iff h).mpr hab, ?_⟩)
      unfold onePiece
      rw [if_pos ⟨h1, h2⟩]
      simp only [List.mem_cons, List.not_mem_nil, or_false]
      exact hq
theorem IsDot.dom {fs gs : List Int} {rows : Int} {o : Option (Int × Int)} (h : IsDot fs rows o) (d1 : ∀ f ∈ fs, (∃ g ∈ gs, g ≤ f) ∧ ∃ g ∈ gs, f ≤ g) (d2 : ∀ g ∈ gs, (∃ f ∈ fs, f ≤ g) ∧ ∃ f ∈ fs, g ≤ f) : IsDot gs rows o := by
  rcases h with ⟨rfl, rfl⟩ | ⟨m, M, h1, h2, h3, h4, h5⟩
  · refine .inl ⟨?_, rfl⟩
    cases gs with
    | nil => rfl
    | cons g gs =>
      obtain ⟨f, hf, _⟩ := (d2 g List.mem_cons_self).1
      cases hf
  · have lo : ∀ g ∈ gs, m ≤ g := fun g hg => by
      obtain ⟨f, hf, hfg⟩ := (d2 g hg).1
      exact Int.le_trans (h2 f hf) hfg
    have hi : ∀ g ∈ gs, g ≤ M := fun g hg => by
      obtain ⟨f, hf, hfg⟩ := (d2 g hg).2
      exact Int.le_trans hfg (h4 f hf)
    obtain ⟨g, hg, hgm⟩ := (d1 m h1).1
    obtain ⟨g', hg', hgM⟩ := (d1 M h3).2
    have e1 : g = m := Int.le_antisymm hgm (lo g hg)
    have e2 : g' = M := Int.le_antisymm (hi g' hg') hgM
    subst e1 e2
    exact .inr ⟨g, g', hg, lo, hg', hi, h5⟩
theorem fl_scale {low tall h d : Int} (hd : 0 < d) : fl low tall (h * d, d) = fl low tall (h, 1) := by
  unfold fl
  show (h * d - low * d) / (tall * d) = (h - low * 1) / (tall * 1)
  rw [← Int.sub_mul, Int.mul_ediv_mul_of_pos_left _ _ hd, Int.mul_one, Int.mul_one]
theorem fl_first {low tall : Int} {a b : Int × Int} (h : a.1 < b.1) : fl low tall (frP a b a.1) = fl low tall (a.2, 1) := by
  have e : frP a b a.1 = (a.2 * (b.1 - a.1), b.1 - a.1) := by
    unfold frP
    rw [Int.sub_self, Int.mul_zero, Int.add_zero]
  rw [e, fl_scale (by omega)]
theorem fl_second {low tall : Int} {a b : Int × Int} (h : a.1 < b.1) : fl low tall (frP a b b.1) = fl low tall (b.2, 1) := by
  have e : frP a b b.1 = (b.2 * (b.1 - a.1), b.1 - a.1) := by
    unfold frP
    rw [← Int.add_mul]
    congr 2
    omega
  rw [e, fl_scale (by omega)]
theorem fl_le {low tall h k : Int} (ht : 0 < tall) (hh : h ≤ k) : fl low tall (h, 1) ≤ fl low tall (k, 1) := fl_mono ht (show (0 : Int) < 1 by decide) (show (0 : Int) < 1 by decide) (by show h * 1 ≤ k * 1; omega)
/-- what is kept of a curve's columns -/
def Kept (cv kp : List (Int × Int)) (b y m : Int) : Prop := (∀ p ∈ kp, p ∈ cv ∧ b ≤ p.1 ∧ p.1 < b + m * y) ∧ ∀ k : Int, 0 ≤ k → k < m → ∀ p ∈ cv, b + k * y ≤ p.1 → p.1 < b + k * y + y →
  (∃ f ∈ kp, b + k * y ≤ f.1 ∧ f.1 ≤ p.1) ∧ (∃ f ∈ kp, p.1 ≤ f.1 ∧ f.1 < b + k * y + y) ∧ (∃ f ∈ kp, b + k * y ≤ f.1 ∧ f.1 < b + k * y + y ∧ f.2 ≤ p.2) ∧ ∃ f ∈ kp, b + k * y ≤ f.1 ∧ f.1 < b + k * y + y ∧ p.2 ≤ f.2
theorem col_of {b y m t : Int} (hy : 0 < y) (h1 : b ≤ t) (h2 : t < b + m * y) : ∃ j, 0 ≤ j ∧ j < m ∧ b + j * y ≤ t ∧ t < b + j * y + y := by
  refine ⟨(t - b) / y, Int.ediv_nonneg (by omega) (by omega), ?_, ?_, ?_⟩
  · exact Int.ediv_lt_of_lt_mul hy (by omega)
  · have := Int.ediv_mul_le (t - b) (Int.ne_of_gt hy)
    omega
  · have := Int.lt_ediv_add_one_mul_self (t - b) hy
    rw [Int.add_mul, Int.one_mul] at this
    omega
theorem col_before {b y j k t : Int} (hy : 0 < y) (h1 : b + j * y ≤ t) (h2 : t < b + k * y) : b + j * y + y ≤ b + k * y := by
  have hjk : j < k := Int.lt_of_mul_lt_mul_right (a := y) (by omega) (by omega)
  have : (j + 1) * y ≤ k * y := Int.mul_le_mul_of_nonneg_right (by omega) (by omega)
  rw [Int.add_mul, Int.one_mul] at this
  omega
theorem col_behind {b y j k t : Int} (hy : 0 < y) (h1 : t < b + j * y + y) (h2 : b + k * y ≤ t) : b + k * y ≤ b + j * y := by
  have hjk : k < j + 1 := Int.lt_of_mul_lt_mul_right (a := y) (by rw [Int.add_mul, Int.one_mul]; omega) (by omega)
  have : k * y ≤ j * y := Int.mul_le_mul_of_nonneg_right (by omega) (by omega)
  omega
theorem mem_inCol {cv : List (Int × Int)} {b e : Int} {p : Int × Int} : p ∈ inCol cv b e ↔ p ∈ cv ∧ b ≤ p.1 ∧ p.1 < e := by
  unfold inCol
  rw [List.mem_filter]
  simp
/-- two samples beside one another with a border between them are kept -/
theorem kept_adj {cv kp : List (Int × Int)} {b y m : Int} (hy : 0 < y) (hasc : Asc cv) (hk : Kept cv kp b y m) {p q : Int × Int} (hadj : Adj (inCol cv b (b + m * y)) p q) {k : Int} (h1 : p.1 < b + k * y) (h2 : b + k * y ≤ q.1) : Adj (inCol kp b (b + m * y)) p q := by
  obtain ⟨hp, hq, hlt, hno⟩ := hadj
  obtain ⟨hp1, hp2, hp3⟩ := mem_inCol.mp hp
  obtain ⟨hq1, hq2, hq3⟩ := mem_inCol.mp hq
  have pk : p ∈ kp := by
    obtain ⟨j, j1, j2, j3, j4⟩ := col_of hy hp2 hp3
    obtain ⟨f, hf, f1, f2⟩ := (hk.2 j j1 j2 p hp1 j3 j4).2.1
    have hfc := hk.1 f hf
    have := col_before hy j3 h1
    have hn := hno f (mem_inCol.mpr hfc)
    have : f.1 = p.1 := by omega
    rw [← asc_inj hasc hfc.1 hp1 this]
    exact hf
  have qk : q ∈ kp := by
    obtain ⟨j, j1, j2, j3, j4⟩ := col_of hy hq2 hq3
    obtain ⟨f, hf, f1, f2⟩ := (hk.2 j j1 j2 q hq1 j3 j4).1
    have hfc := hk.1 f hf
    have := col_behind hy j4 h2
    have hn := hno f (mem_inCol.mpr hfc)
    have : f.1 = q.1 := by omega
    rw [← asc_inj hasc hfc.1 hq1 this]
    exact hf
  refine ⟨mem_inCol.mpr ⟨pk, hp2, hp3⟩, mem_inCol.mpr ⟨qk, hq2, hq3⟩, hlt, fun c hc => hno c ?_⟩
  exact mem_inCol.mpr (hk.1 c (mem_inCol.mp hc).1)
theorem adj_kept {cv kp : List (Int × Int)} {b y m : Int} (hy : 0 < y) (hasc : Asc cv) (hk : Kept cv kp b y m) {p q : Int × Int} (hadj : Adj (inCol kp b (b + m * y)) p q) {k : Int} (h1 : p.1 < b + k * y) (h2 : b + k * y ≤ q.1) : Adj (inCol cv b (b + m * y)) p q := by
  obtain ⟨hp, hq, hlt, hno⟩ := hadj
  obtain ⟨hp1, hp2, hp3⟩ := mem_inCol.mp hp
  obtain ⟨hq1, hq2, hq3⟩ := mem_inCol.mp hq
  refine ⟨mem_inCol.mpr (hk.1 p hp1), mem_inCol.mpr (hk.1 q hq1), hlt, fun c hc ⟨c1, c2⟩ => ?_⟩
  obtain ⟨hc1, hc2, hc3⟩ := mem_inCol.mp hc
  obtain ⟨j, j1, j2, j3, j4⟩ := col_of hy hc2 hc3
  obtain ⟨⟨f, hf, f1, f2⟩, ⟨g, hg, g1, g2⟩, _⟩ := hk.2 j j1 j2 c hc1 j3 j4
  have hfc := hno f (mem_inCol.mpr ⟨hf, (hk.1 f hf).2⟩)
  have hgc := hno g (mem_inCol.mpr ⟨hg, (hk.1 g hg).2⟩)
  have : b + j * y ≤ p.1 := by omega
  have := col_before hy this h1
  omega
theorem kept_dots {cv kp : List (Int × Int)} {b y m low tall rows k : Int} {o : Option (Int × Int)} (hy : 0 < y) (ht : 0 < tall) (hasc : Asc cv) (hak : Asc kp) (hk : Kept cv kp b y m) (k0 : 0 ≤ k) (k1 : k < m)
    (h : IsDot ((metF (inCol cv b (b + m * y)) (b + k * y) (b + k * y + y)).map (fl low tall)) rows o) : IsDot ((metF (inCol kp b (b + m * y)) (b + k * y) (b + k * y + y)).map (fl low tall)) rows o := by
  have ac : Asc (inCol cv b (b + m * y)) := List.Pairwise.filter _ hasc
  have ak : Asc (inCol kp b (b + m * y)) := List.Pairwise.filter _ hak
  have hz : b + k * y + y = b + (k + 1) * y := by rw [Int.add_mul, Int.one_mul]; omega
  have smp : ∀ p, p ∈ cv → b + k * y ≤ p.1 → p.1 < b + k * y + y → (∃ g ∈ (metF (inCol kp b (b + m * y)) (b + k * y) (b + k * y + y)).map (fl low tall), g ≤ fl low tall (p.2, 1)) ∧ ∃ g ∈ (metF (inCol kp b (b + m * y)) (b + k * y) (b + k * y + y)).map (fl low tall), fl low tall (p.2, 1) ≤ g := by
    intro p hp h1 h2
    obtain ⟨_, _, ⟨f, hf, f1, f2, f3⟩, ⟨g, hg, g1, g2, g3⟩⟩ := hk.2 k k0 k1 p hp h1 h2
    refine ⟨⟨_, List.mem_map_of_mem ((mem_metF ak).mpr (.inl ⟨f, mem_inCol.mpr ⟨hf, (hk.1 f hf).2⟩, f1, f2, rfl⟩)), fl_le ht f3⟩, ⟨_, List.mem_map_of_mem ((mem_metF ak).mpr (.inl ⟨g, mem_inCol.mpr ⟨hg, (hk.1 g hg).2⟩, g1, g2, rfl⟩)), fl_le ht g3⟩⟩
  have smp2 : ∀ p, p ∈ kp → b + k * y ≤ p.1 → p.1 < b + k * y + y → fl low tall (p.2, 1) ∈ (metF (inCol cv b (b + m * y)) (b + k * y) (b + k * y + y)).map (fl low tall) := fun p hp h1 h2 =>
    List.mem_map_of_mem ((mem_metF ac).mpr (.inl ⟨p, mem_inCol.mpr (hk.1 p hp), h1, h2, rfl⟩))
  refine h.dom (fun f hf => ?_) (fun g hg => ?_)
  · obtain ⟨q, hq, rfl⟩ := List.mem_map.mp hf
    have same : ∀ {q'}, q' ∈ metF (inCol kp b (b + m * y)) (b + k * y) (b + k * y + y) → (∃ g ∈ (metF (inCol kp b (b + m * y)) (b + k * y) (b + k * y + y)).map (fl low tall), g ≤ fl low tall q') ∧ ∃ g ∈ (metF (inCol kp b (b + m * y)) (b + k * y) (b + k * y + y)).map (fl low tall), fl low tall q' ≤ g :=
      fun hq' => ⟨⟨_, List.mem_map_of_mem hq', Int.le_refl _⟩, ⟨_, List.mem_map_of_mem hq', Int.le_refl _⟩⟩
    rcases (mem_metF ac).mp hq with ⟨p, hp, h1, h2, rfl⟩ | ⟨p, r, hadj, h1, h2, hqe⟩
    · exact smp p (mem_inCol.mp hp).1 h1 h2
    · have hlt := hadj.2.2.1
      rcases hqe with rfl | rfl
      · unfold mx at *
        by_cases hc : p.1 > b + k * y
        · rw [if_pos hc, fl_first hlt]
          exact smp p (mem_inCol.mp hadj.1).1 (by omega) h1
        · rw [if_neg hc]
          by_cases hc2 : p.1 = b + k * y
          · rw [show fl low tall (frP p r (b + k * y)) = fl low tall (p.2, 1) by rw [← hc2]; exact fl_first hlt]
            exact smp p (mem_inCol.mp hadj.1).1 (by omega) h1
          · refine same ((mem_metF ak).mpr (.inr ⟨p, r, kept_adj hy hasc hk hadj (k := k) (by omega) (by omega), h1, h2, .inl ?_⟩))
            unfold mx
            rw [if_neg hc]
      · unfold mn at *
        by_cases hc : r.1 < b + k * y + y
        · rw [if_pos hc, fl_second hlt]
          exact smp r (mem_inCol.mp hadj.2.1).1 (by omega) hc
        · rw [if_neg hc]
          refine same ((mem_metF ak).mpr (.inr ⟨p, r, kept_adj hy hasc hk hadj (k := k + 1) (by omega) (by omega), h1, h2, .inr ?_⟩))
          unfold mn
          rw [if_neg hc]
  · obtain ⟨q, hq, rfl⟩ := List.mem_map.mp hg
    have fin : fl low tall q ∈ (metF (inCol cv b (b + m * y)) (b + k * y) (b + k * y + y)).map (fl low tall) := by
      rcases (mem_metF ak).mp hq with ⟨p, hp, h1, h2, rfl⟩ | ⟨p, r, hadj, h1, h2, hqe⟩
      · exact smp2 p (mem_inCol.mp hp).1 h1 h2
      · have hlt := hadj.2.2.1
        rcases hqe with rfl | rfl
        · unfold mx at *
          by_cases hc : p.1 > b + k * y
          · rw [if_pos hc, fl_first hlt]
            exact smp2 p (mem_inCol.mp hadj.1).1 (by omega) h1
          · rw [if_neg hc]
            by_cases hc2 : p.1 = b + k * y
            · rw [show fl low tall (frP p r (b + k * y)) = fl low tall (p.2, 1) by rw [← hc2]; exact fl_first hlt]
              exact smp2 p (mem_inCol.mp hadj.1).1 (by omega) h1
            · refine List.mem_map_of_mem ((mem_metF ac).mpr (.inr ⟨p, r, adj_kept hy hasc hk hadj (k := k) (by omega) (by omega), h1, h2, .inl ?_⟩))
              unfold mx
              rw [if_neg hc]
        · unfold mn at *
          by_cases hc : r.1 < b + k * y + y
          · rw [if_pos hc, fl_second hlt]
            exact smp2 r (mem_inCol.mp hadj.2.1).1 (by omega) hc
          · rw [if_neg hc]
            refine List.mem_map_of_mem ((mem_metF ac).mpr (.inr ⟨p, r, adj_kept hy hasc hk hadj (k := k + 1) (by omega) (by omega), h1, h2, .inr ?_⟩))
            unfold mn
            rw [if_neg hc]
    exact ⟨⟨_, fin, Int.le_refl _⟩, ⟨_, fin, Int.le_refl _⟩⟩
end L2

set_option Elab.async false
set_option linter.all false
set_option maxRecDepth 100000
set_option maxHeartbeats 4000000
namespace L2
open PySem PySem.Spec PyProof.Rows
section
variable {X : Cx}
/-! ### list.extend(a tuple) -/
def rExtendT : V → List V → Hp → VK → Prop := fun x vs H Q => ∃ l b xs zs, x = .ref l ∧ vs = [.ref b] ∧ H l = some (.lst xs) ∧ H b = some (.tup zs) ∧ (∀ i : Int, zs.head? ≠ some (.int i)) ∧ xs.length + zs.length ≤ sizeLine ∧ Q .non (upd H l (.lst (xs ++ zs)))
theorem mt_extendT : MtM X "list.extend" rExtendT := by
  intro pins s σ H x vs v us Q I rx rv h
  obtain ⟨l, b, xs, zs, rfl, rfl, hH, hB, hh, hz, q⟩ := h
  cases rx
  obtain ⟨u, rfl, ru⟩ := rv.one
  cases ru
  obtain ⟨z, its, n, r, hl, e⟩ := I.lstM hH
  obtain ⟨⟨_, hpd⟩, its2, r2, ht⟩ := (show ObjOk X.prog X.w H s.heap b (.tup zs) from I.hok b _ hB)
  obtain ⟨od, hod, hd, hsl⟩ := hpd hh
  obtain ⟨ob, hob, hc, n2, hdat⟩ := ht
  rw [hod] at hob
  cases hob
  have hl2 := r2.length
  have e2 : s.heap.get? b = some { cls := .type "tuple", dict := none, data := .seq its2.toArray n2, slots := #[] } := by
    rw [hod]
    obtain ⟨c, d, dt, sl⟩ := od
    simp only at hc hd hdat hsl
    subst hc hd hdat hsl
    rfl
  have hsz : its.toArray.size + its2.toArray.size ≤ sizeLine := by rw [List.size_toArray, List.size_toArray]; omega
  have hlong : ¬ (!its.toArray.isEmpty && Builtin.List.listTooLong (its.toArray.size + its2.toArray.size)) = true := by
    rw [notLongL hsz, Bool.and_false]
    exact Bool.false_ne_true
  refine call_meets F.slot_list_extend ⟨_, e, rfl⟩ F.entry_list_extend (F.args_list_extend_2 _ _)
    (AutoSeq1.list_extend_list_tuple_0 l its.toArray n b its2.toArray n2 hlong (by rw [List.size_toArray]; omega) (by omega)) ⟨e, e2, ?_⟩
  refine ⟨.non, _, I.lset (its' := its ++ its2) hH e (by simp) (r.append r2) ?_, rfl, q⟩
  rw [List.length_append]
  omega
theorem rd_extendT {H : Hp} {Q : VK} {l b : Addr} {xs zs : List V} (h1 : H l = some (.lst xs)) (h2 : H b = some (.tup zs)) (h3 : ∀ i : Int, zs.head? ≠ some (.int i)) (hz : xs.length + zs.length ≤ sizeLine) (h : ∀ H2, H2 l = some (.lst (xs ++ zs)) → Kp l H H2 → Q .non H2) : rExtendT (.ref l) [.ref b] H Q :=
  ⟨l, b, xs, zs, rfl, rfl, h1, h2, h3, hz, h _ upd_same Kp.upd⟩
/-! ### repr -/
def rRepr (K : PySem.W.Frag) : List V → Hp → VK → Prop := fun xs H Q => ∃ a d, xs = [.ref a] ∧ Dat K H (.ref a) d ∧ d.showable = true ∧ d.hasDict = false ∧ d.depth ≤ 60 ∧ d.shown.length ≤ sizeLine ∧ Q (.str d.shown) H
theorem kc_repr (K : PySem.W.Frag) (hK : X.K = K) (hg : X.A.guards = some []) (hu : X.A.units + 64 < cLine) : CallR X (.builtin "repr") (rRepr K) := by
  subst hK
  intro pins s σ H xs us Q I r h
  obtain ⟨a, d, rfl, hD, hs, hnd, hd, hz, q⟩ := h
  obtain ⟨u, rfl, ru⟩ := r.one
  obtain ⟨as, ra⟩ := hD.reads I ru
  cases ru
  exact repr_of_reads' ra hs (PyData.noDict_hsm hnd) hg (by omega) (fun _ _ e => e) (fun h' u tk hk => ⟨.str d.shown, H, I.kept (t' := tk) hk, ⟨u, rfl⟩, q⟩) hz
theorem rd_repr {K : PySem.W.Frag} {H : Hp} {Q : VK} {a : Addr} {d : PyData} (h1 : Dat K H (.ref a) d) (h2 : d.showable = true) (h3 : d.hasDict = false) (h4 : d.depth ≤ 60) (h5 : d.shown.length ≤ sizeLine) (h : Q (.str d.shown) H) : rRepr K [.ref a] H Q := ⟨a, d, rfl, h1, h2, h3, h4, h5, h⟩
end
/-! ### how long a text of data is -/
theorem join_le : ∀ (ts : List Str) (B : Nat), (∀ t ∈ ts, t.length ≤ B) → (Str.join ", " ts).length ≤ ts.length * (B + 2) := by
  intro ts B hB
  by_cases hne : ts = []
  · subst hne
    rw [List.length_nil, Nat.zero_mul]
    exact Nat.le_of_eq rfl
  · have h1 := PySem.join_length_add ts hne
    have h2 : piled ts ≤ ts.length * (B + 2) := by
      clear h1 hne
      induction ts with
      | nil => rw [List.length_nil, Nat.zero_mul, piled_nil]; exact Nat.le_refl _
      | cons t ts ih =>
        have := ih fun x hx => hB x (List.mem_cons_of_mem _ hx)
        have h3 := hB t List.mem_cons_self
        rw [List.length_cons, Nat.succ_mul]
        show piled (t :: ts) ≤ _
        rw [piled_cons]
        omega
    omega
theorem int_len {i : Int} (h : Bn 1900 i) : ((PyData.int i).shown).length ≤ 1921 ∧ (PyData.int i).showable = true := by
  have hl : i.natAbs.log2 < 1920 := by
    by_cases z : i.natAbs = 0
    · rw [z]; decide
    · exact Nat.lt_of_lt_of_le ((Nat.log2_lt z).mpr h) (by decide)
  refine ⟨?_, ?_⟩
  · rw [PyData.shown_int]
    exact int_text_len_1921 hl
  · simp only [PyData.showable]
    exact decide_eq_true hl
theorem tuple_len {xs : List PyData} {B : Nat} (h : ∀ x ∈ xs, x.shown.length ≤ B) : (PyData.tuple xs).shown.length ≤ xs.length * (B + 2) + 3 := by
  rw [PyData.shown_tuple, str_len, str_len]
  have h1 : (Str.join ", " (PyData.shownAll xs)).length ≤ xs.length * (B + 2) := by
    have := join_le (PyData.shownAll xs) B (fun t ht => by
      have : ∀ ys : List PyData, (∀ y ∈ ys, y.shown.length ≤ B) → ∀ t ∈ PyData.shownAll ys, t.length ≤ B := by
        intro ys
        induction ys with
        | nil => intro _ t ht; rw [PyData.shownAll_nil] at ht; cases ht
        | cons y ys ih =>
          intro hy t ht
          rw [PyData.shownAll_cons] at ht
          rcases List.mem_cons.mp ht with rfl | ht
          · exact hy y List.mem_cons_self
          · exact ih (fun z hz => hy z (List.mem_cons_of_mem _ hz)) t ht
      exact this xs h t ht)
    rw [PyData.shownAll_length] at this
    exact this
  have h2 : (((if xs.length == 1 then ",)" else ")" : String)) : Str).length ≤ 2 := by split <;> decide
  have h3 : (("(" : Str)).length = 1 := rfl
  omega
theorem showAll {xs : List PyData} (h : ∀ x ∈ xs, x.showable = true) : PyData.showableAll xs = true := by
  induction xs with
  | nil => simp only [PyData.showableAll]
  | cons x xs ih =>
    simp only [PyData.showableAll]
    rw [h x List.mem_cons_self, ih fun y hy => h y (List.mem_cons_of_mem _ hy)]
    rfl
theorem layAll {xs : List PyData} (h : ∀ x ∈ xs, x.canLay0 = true) : PyData.canLayAll0 xs = true := by
  induction xs with
  | nil => rfl
  | cons x xs ih =>
    show (PyData.canLay0 x && PyData.canLayAll0 xs) = true
    rw [h x List.mem_cons_self, ih fun y hy => h y (List.mem_cons_of_mem _ hy)]
    rfl
theorem depAll {xs : List PyData} {B : Nat} (h : ∀ x ∈ xs, x.depth ≤ B) : PyData.depthAll xs ≤ B := by
  induction xs with
  | nil => exact Nat.zero_le _
  | cons x xs ih =>
    have h1 := h x List.mem_cons_self
    have h2 := ih fun y hy => h y (List.mem_cons_of_mem _ hy)
    simp only [PyData.depthAll]
    omega
/-- a four, or none -/
inductive FourIs (H : Hp) : V → Option (List (Int × Int)) → Prop where
  | non : FourIs H .non Option.none
  | pr {c : Addr} {qs : List (Int × Int)} (h : PrT H c qs) (hl : qs.length = 4) : FourIs H (.ref c) (Option.some qs)
theorem FourIs.same {H H' : Hp} {v : V} {o : Option (List (Int × Int))} (h : FourIs H v o) (s : Same H H') : FourIs H' v o := by
  cases h with
  | non => exact .non
  | pr e hl => exact .pr (e.same s) hl
theorem FourIs.kpL {H H' : Hp} {l : Addr} {xs : List V} {v : V} {o : Option (List (Int × Int))} (h : FourIs H v o) (k : Kp l H H') (hl : H l = Option.some (.lst xs)) : FourIs H' v o := by
  cases h with
  | non => exact .non
  | pr e hn => exact .pr (e.kpL k hl) hn
inductive Fours (H : Hp) : List V → List (Option (List (Int × Int))) → Prop where
  | nil : Fours H [] []
  | cons {v : V} {o : Option (List (Int × Int))} {vs : List V} {os : List (Option (List (Int × Int)))} (h : FourIs H v o) (t : Fours H vs os) : Fours H (v :: vs) (o :: os)
theorem Fours.mapP {H H' : Hp} (f : ∀ v o, FourIs H v o → FourIs H' v o) : ∀ {vs : List V} {os : List (Option (List (Int × Int)))}, Fours H vs os → Fours H' vs os
  | _, _, .nil => .nil
  | _, _, .cons h t => .cons (f _ _ h) (Fours.mapP f t)
theorem Fours.same {H H' : Hp} {vs : List V} {os : List (Option (List (Int × Int)))} (h : Fours H vs os) (s : Same H H') : Fours H' vs os := h.mapP fun _ _ d => d.same s
theorem Fours.len {H : Hp} : ∀ {vs : List V} {os : List (Option (List (Int × Int)))}, Fours H vs os → vs.length = os.length
  | _, _, .nil => rfl
  | _, _, .cons _ t => by simp [Fours.len t]
theorem Fours.snoc {H : Hp} : ∀ {vs : List V} {os : List (Option (List (Int × Int)))}, Fours H vs os → ∀ {v : V} {o : Option (List (Int × Int))}, FourIs H v o → Fours H (vs ++ [v]) (os ++ [o])
  | _, _, .nil, _, _, d => .cons d .nil
  | _, _, .cons h t, _, _, d => .cons h (Fours.snoc t d)
theorem Fours.at {H : Hp} : ∀ {vs : List V} {os : List (Option (List (Int × Int)))}, Fours H vs os → ∀ {i : Nat} {v : V}, vs[i]? = Option.some v → ∃ o, os[i]? = Option.some o ∧ FourIs H v o
  | _, _, .nil, i, v, e => by simp at e
  | _, _, .cons h t, 0, v, e => by simp at e; subst e; exact ⟨_, rfl, h⟩
  | _, _, .cons _ t, i + 1, v, e => by
    obtain ⟨o, h1, h2⟩ := Fours.at t (by simpa using e)
    exact ⟨o, by simpa using h1, h2⟩
def fourD : Option (List (Int × Int)) → PyData
  | none => .none
  | some qs => .tuple (qs.map pairD)
theorem Fours.dats {K : PySem.W.Frag} {H : Hp} : ∀ {vs : List V} {os : List (Option (List (Int × Int)))}, Fours H vs os → Dats K H vs (os.map fourD)
  | _, _, .nil => .nil
  | _, _, .cons .non t => .cons .non (Fours.dats t)
  | _, _, .cons (.pr ⟨us, g, p⟩ _) t => .cons (.tup (SqT.of g) p.dats) (Fours.dats t)
theorem fours_shown {os : List (Option (List (Int × Int)))} (hb : ∀ qs, some qs ∈ os → qs.length = 4 ∧ ∀ q ∈ qs, Bn 200 q.1 ∧ Bn 200 q.2) (hl : os.length ≤ 100) :
    (PyData.tuple (os.map fourD)).showable = true ∧ (PyData.tuple (os.map fourD)).hasDict = false ∧ (PyData.tuple (os.map fourD)).depth ≤ 60 ∧ (PyData.tuple (os.map fourD)).shown.length ≤ sizeLine := by
  have pl : ∀ q : Int × Int, Bn 200 q.1 ∧ Bn 200 q.2 → (pairD q).shown.length ≤ 3850 ∧ (pairD q).showable = true ∧ (pairD q).canLay0 = true ∧ (pairD q).depth ≤ 3 := by
    intro q hq
    have h1 := int_len (hq.1.mono (show 200 ≤ 1900 by decide))
    have h2 := int_len (hq.2.mono (show 200 ≤ 1900 by decide))
    refine ⟨?_, ?_, rfl, ?_⟩
    · refine Nat.le_trans (tuple_len (xs := [.int q.1, .int q.2]) (B := 1921) fun x hx => ?_) (by show 2 * (1921 + 2) + 3 ≤ 3850; decide)
      simp only [List.mem_cons, List.not_mem_nil, or_false] at hx
      rcases hx with rfl | rfl
      · exact h1.1
      · exact h2.1
    · show (PyData.tuple [.int q.1, .int q.2]).showable = true
      simp only [PyData.showable]
      refine showAll fun x hx => ?_
      simp only [List.mem_cons, List.not_mem_nil, or_false] at hx
      rcases hx with rfl | rfl
      · exact h1.2
      · exact h2.2
    · show (PyData.tuple [.int q.1, .int q.2]).depth ≤ 3
      simp only [PyData.depth, PyData.depthAll]
      decide
  have fo : ∀ x ∈ os.map fourD, x.shown.length ≤ 15420 ∧ x.showable = true ∧ x.canLay0 = true ∧ x.depth ≤ 10 := by
    intro x hx
    obtain ⟨o, ho, rfl⟩ := List.mem_map.mp hx
    cases o with
    | none =>
      refine ⟨?_, ?_, rfl, ?_⟩
      · show (PyData.none).shown.length ≤ 15420
        rw [PyData.shown_none]
        decide
      · show (PyData.none).showable = true
        simp only [PyData.showable]
      · show (PyData.none).depth ≤ 10
        simp only [PyData.depth]
        decide
    | some qs =>
      obtain ⟨hl4, hq⟩ := hb qs ho
      have hp : ∀ x ∈ qs.map pairD, x.shown.length ≤ 3850 ∧ x.showable = true ∧ x.canLay0 = true ∧ x.depth ≤ 3 := fun x hx => by
        obtain ⟨q, hq2, rfl⟩ := List.mem_map.mp hx
        exact pl q (hq q hq2)
      refine ⟨?_, ?_, ?_, ?_⟩
      · refine Nat.le_trans (tuple_len (xs := qs.map pairD) (B := 3850) fun x hx => (hp x hx).1) ?_
        rw [List.length_map, hl4]
        decide
      · show (PyData.tuple (qs.map pairD)).showable = true
        simp only [PyData.showable]
        exact showAll fun x hx => (hp x hx).2.1
      · show PyData.canLayAll0 (qs.map pairD) = true
        exact layAll fun x hx => (hp x hx).2.2.1
      · show (PyData.tuple (qs.map pairD)).depth ≤ 10
        have := depAll (B := 3) fun x hx => (hp x hx).2.2.2
        simp only [PyData.depth]
        omega
  refine ⟨?_, ?_, ?_, ?_⟩
  · simp only [PyData.showable]
    exact showAll fun x hx => (fo x hx).2.1
  · refine PyData.hasDict_of_canLay _ ?_
    show PyData.canLayAll0 (os.map fourD) = true
    exact layAll fun x hx => (fo x hx).2.2.1
  · have := depAll (B := 10) fun x hx => (fo x hx).2.2.2
    simp only [PyData.depth]
    omega
  · refine Nat.le_trans (tuple_len (B := 15420) fun x hx => (fo x hx).1) ?_
    rw [List.length_map]
    have : os.length * (15420 + 2) ≤ 100 * (15420 + 2) := Nat.mul_le_mul_right _ hl
    exact Nat.le_trans (Nat.add_le_add_right this 3) (by decide)
end L2

set_option Elab.async false
set_option linter.all false
set_option maxRecDepth 100000
set_option maxHeartbeats 1000000
namespace My
open PySem L2
def top (i : Nat) : Stmt := PySem.Challenge.pw_fourpoints_k44_dots_by_fours.main.body.getD i (.Pass ⟨0, 0, 0, 0⟩)
abbrev s_is_whole : Stmt := top 4
abbrev s_curve_of : Stmt := top 6
abbrev s_part_of : Stmt := top 7
abbrev s_times_of : Stmt := top 9
abbrev s_columns_of : Stmt := top 10
abbrev s_kept_of : Stmt := top 12
abbrev s_dots_of : Stmt := top 14
abbrev s_dots_by : Stmt := top 15
abbrev s_column_dots : Stmt := top 16
abbrev s_rows_met : Stmt := top 17
abbrev s_row_at : Stmt := top 18
abbrev s_row_of : Stmt := top 19
abbrev s_l_cell : Stmt := top 21
abbrev s_l_purse : Stmt := top 22
abbrev s_l_draw : Stmt := top 23
abbrev s_l_far : Stmt := top 24
abbrev s_l_window : Stmt := top 25
abbrev s_l_curve : Stmt := top 26
abbrev s_l_heights : Stmt := top 27
abbrev s_l_first : Stmt := top 28
abbrev s_l_four : Stmt := top 29
abbrev s_law : Stmt := top 30
structure Ad where
  f_is_whole : Addr
  d_is_whole : FuncData
  f_curve_of : Addr
  d_curve_of : FuncData
  f_part_of : Addr
  d_part_of : FuncData
  f_times_of : Addr
  d_times_of : FuncData
  f_columns_of : Addr
  d_columns_of : FuncData
  f_kept_of : Addr
  d_kept_of : FuncData
  f_dots_of : Addr
  d_dots_of : FuncData
  f_dots_by : Addr
  d_dots_by : FuncData
  f_column_dots : Addr
  d_column_dots : FuncData
  f_rows_met : Addr
  d_rows_met : FuncData
  f_row_at : Addr
  d_row_at : FuncData
  f_row_of : Addr
  d_row_of : FuncData
  f_l_cell : Addr
  d_l_cell : FuncData
  f_l_purse : Addr
  d_l_purse : FuncData
  f_l_draw : Addr
  d_l_draw : FuncData
  f_l_far : Addr
  d_l_far : FuncData
  f_l_window : Addr
  d_l_window : FuncData
  f_l_curve : Addr
  d_l_curve : FuncData
  f_l_heights : Addr
  d_l_heights : FuncData
  f_l_first : Addr
  d_l_first : FuncData
  f_l_four : Addr
  d_l_four : FuncData
  f_law : Addr
  d_law : FuncData
structure Txt (K : PySem.W.Frag) (mg : Str → Option Value) (a : Ad) : Prop where
  F_is_whole : Fun K "is_whole" "is_whole" s_is_whole a.f_is_whole a.d_is_whole
  b_is_whole : Binds K a.d_is_whole ["thing"] []
  m_is_whole : mg "is_whole" = some (.ref a.f_is_whole)
  F_curve_of : Fun K "curve_of" "curve_of" s_curve_of a.f_curve_of a.d_curve_of
  b_curve_of : Binds K a.d_curve_of ["samples"] []
  m_curve_of : mg "curve_of" = some (.ref a.f_curve_of)
  F_part_of : Fun K "part_of" "part_of" s_part_of a.f_part_of a.d_part_of
  b_part_of : Binds K a.d_part_of ["curve", "begin", "end"] []
  m_part_of : mg "part_of" = some (.ref a.f_part_of)
  F_times_of : Fun K "times_of" "times_of" s_times_of a.f_times_of a.d_times_of
  b_times_of : Binds K a.d_times_of ["window", "k"] []
  m_times_of : mg "times_of" = some (.ref a.f_times_of)
  F_columns_of : Fun K "columns_of" "columns_of" s_columns_of a.f_columns_of a.d_columns_of
  b_columns_of : Binds K a.d_columns_of ["window"] []
  m_columns_of : mg "columns_of" = some (.ref a.f_columns_of)
  F_kept_of : Fun K "kept_of" "kept_of" s_kept_of a.f_kept_of a.d_kept_of
  b_kept_of : Binds K a.d_kept_of ["fours"] []
  m_kept_of : mg "kept_of" = some (.ref a.f_kept_of)
  F_dots_of : Fun K "dots_of" "dots_of" s_dots_of a.f_dots_of a.d_dots_of
  b_dots_of : Binds K a.d_dots_of ["curve", "window", "heights"] []
  m_dots_of : mg "dots_of" = some (.ref a.f_dots_of)
  F_dots_by : Fun K "dots_by" "dots_by" s_dots_by a.f_dots_by a.d_dots_by
  b_dots_by : Binds K a.d_dots_by ["fours", "window", "heights"] []
  m_dots_by : mg "dots_by" = some (.ref a.f_dots_by)
  F_column_dots : Fun K "column_dots" "column_dots" s_column_dots a.f_column_dots a.d_column_dots
  b_column_dots : Binds K a.d_column_dots ["samples", "times", "heights"] []
  m_column_dots : mg "column_dots" = some (.ref a.f_column_dots)
  F_rows_met : Fun K "rows_met" "rows_met" s_rows_met a.f_rows_met a.d_rows_met
  b_rows_met : Binds K a.d_rows_met ["samples", "times", "heights"] []
  m_rows_met : mg "rows_met" = some (.ref a.f_rows_met)
  F_row_at : Fun K "row_at" "row_at" s_row_at a.f_row_at a.d_row_at
  b_row_at : Binds K a.d_row_at ["one", "other", "t", "heights"] []
  m_row_at : mg "row_at" = some (.ref a.f_row_at)
  F_row_of : Fun K "row_of" "row_of" s_row_of a.f_row_of a.d_row_of
  b_row_of : Binds K a.d_row_of ["height", "parts", "heights"] []
  m_row_of : mg "row_of" = some (.ref a.f_row_of)
  F_l_cell : Fun K "_law_cell" "_law_cell" s_l_cell a.f_l_cell a.d_l_cell
  b_l_cell : Binds K a.d_l_cell ["_law_script", "_law_k"] []
  m_l_cell : mg "_law_cell" = some (.ref a.f_l_cell)
  F_l_purse : Fun K "_law_purse" "_law_purse" s_l_purse a.f_l_purse a.d_l_purse
  b_l_purse : Binds K a.d_l_purse ["_law_cell_here", "_law_k"] []
  m_l_purse : mg "_law_purse" = some (.ref a.f_l_purse)
  F_l_draw : Fun K "_law_draw" "_law_draw" s_l_draw a.f_l_draw a.d_l_draw
  b_l_draw : Binds K a.d_l_draw ["_law_purse_here", "_law_many"] []
  m_l_draw : mg "_law_draw" = some (.ref a.f_l_draw)
  F_l_far : Fun K "_law_far" "_law_far" s_l_far a.f_l_far a.d_l_far
  b_l_far : Binds K a.d_l_far ["_law_purse_here"] []
  m_l_far : mg "_law_far" = some (.ref a.f_l_far)
  F_l_window : Fun K "_law_window" "_law_window" s_l_window a.f_l_window a.d_l_window
  b_l_window : Binds K a.d_l_window ["_law_purse_here"] []
  m_l_window : mg "_law_window" = some (.ref a.f_l_window)
  F_l_curve : Fun K "_law_curve" "_law_curve" s_l_curve a.f_l_curve a.d_l_curve
  b_l_curve : Binds K a.d_l_curve ["_law_purse_here", "_law_window_here", "_law_far_here"] []
  m_l_curve : mg "_law_curve" = some (.ref a.f_l_curve)
  F_l_heights : Fun K "_law_heights" "_law_heights" s_l_heights a.f_l_heights a.d_l_heights
  b_l_heights : Binds K a.d_l_heights ["_law_purse_here", "_law_far_here"] []
  m_l_heights : mg "_law_heights" = some (.ref a.f_l_heights)
  F_l_first : Fun K "_law_first" "_law_first" s_l_first a.f_l_first a.d_l_first
  b_l_first : Binds K a.d_l_first ["_law_samples", "_law_sign"] []
  m_l_first : mg "_law_first" = some (.ref a.f_l_first)
  F_l_four : Fun K "_law_four" "_law_four" s_l_four a.f_l_four a.d_l_four
  b_l_four : Binds K a.d_l_four ["_law_curve_here", "_law_x", "_law_z"] []
  m_l_four : mg "_law_four" = some (.ref a.f_l_four)
  F_law : Fun K "law" "law" s_law a.f_law a.d_law
  b_law : Binds K a.d_law ["_law_script"] []
  m_law : mg "law" = some (.ref a.f_law)
  z_ValueError : mg "ValueError" = none
  z_abs : mg "abs" = none
  z_bool : mg "bool" = none
  z_int : mg "int" = none
  z_isinstance : mg "isinstance" = none
  z_len : mg "len" = none
  z_max : mg "max" = none
  z_min : mg "min" = none
  z_range : mg "range" = none
  z_repr : mg "repr" = none
  z_sorted : mg "sorted" = none
  z_tuple : mg "tuple" = none
  z_zip : mg "zip" = none
local macro_rules | `(tactic| walk_at "sd") => `(tactic| first
  | (show (0 : Int) < _; omega)
  | decide
  | exact mulL (by omega) (by omega)
  | exact mulR (by omega) (by omega)
  | exact CDivB.of (k := 250) (by omega) (by omega) (by decide)
  | exact Or.inr ⟨by omega, by omega⟩
  | exact Or.inl ⟨by omega, by omega⟩
  | exact cpow_lit (by omega) (by omega) (by decide))
local macro_rules | `(tactic| walk_at "hp") => `(tactic| first
  | assumption
  | exact upd_same
  | (rw [upd_ne (by assumption)]; assumption)
  | (rw [upd_ne (Ne.symm (by assumption))]; assumption)
  | (rw [upd_ne (by assumption)]; rw [upd_ne (by assumption)]; assumption))
local macro_rules | `(tactic| walk_at "rd") => `(tactic| first
  | with_reducible refine rd_seq ?_
  | with_reducible refine rd_dget0 ?_
  | with_reducible refine rd_iZip ?_
  | with_reducible refine rd_sortedIt0 ?_
  | with_reducible refine rd_par0 ?_
  | with_reducible refine rd_par ?_
  | with_reducible refine rd_rngD ?_
  | with_reducible refine rd_bm0 ?_
  | with_reducible refine rd_iSeq ?_
  | with_reducible refine rd_dput0 ?_
  | with_reducible refine rd_dnew0 ?_
  | ((with_reducible refine' rd_aug ?e ?_); (case e => rfl))
  | with_reducible refine rd_ret ?_
  | with_reducible refine rd_retN ?_
  | with_reducible refine rd_drop ?_
  | with_reducible refine rd_next ?_
  | with_reducible refine rd_asg ?_
  | with_reducible refine rd_gname ?_
  | with_reducible refine rd_gnil ?_
  | with_reducible refine rd_gcons ?_
  | with_reducible refine rd_gsub ?_
  | with_reducible refine rd_ifS ?_
  | with_reducible refine rd_test ?_
  | with_reducible refine rd_B ?_
  | with_reducible refine rd_and ?_
  | with_reducible refine rd_or ?_
  | with_reducible refine rd_not ?_
  | with_reducible refine rd_andV ?_
  | with_reducible refine rd_orV ?_
  | with_reducible refine rd_notV ?_
  | with_reducible refine rd_if ?_
  | ((with_reducible refine' rd_var ?e ?_); (case e => rfl))
  | with_reducible refine rd_c ?_
  | with_reducible refine rd_op ?_
  | with_reducible refine rd_un ?_
  | with_reducible refine rd_I0 ?_
  | ((with_reducible refine rd_I (C := CPow) ?c ?_); (case c => exact cpow_lit (by decide) (by decide) (by decide)); (simp only [Int.reduceToNat, Int.reducePow]))
  | ((with_reducible refine rd_I ?c ?_); (case c => walk_at "sd"))
  | with_reducible refine rd_U ?_
  | with_reducible refine rd_eqI ?_
  | with_reducible refine rd_neI ?_
  | with_reducible refine rd_cb ?_
  | with_reducible refine rd_call ?_
  | with_reducible refine rd_cons ?_
  | with_reducible refine rd_nil ?_
  | with_reducible refine rd_tup ?_
  | with_reducible refine rd_lst ?_
  | with_reducible refine rd_chain ?_
  | with_reducible refine rd_noIf ?_
  | with_reducible refine rd_k ?_
  | with_reducible refine rd_int1 ?_
  | with_reducible refine rd_abs ?_
  | with_reducible refine rd_max ?_
  | with_reducible refine rd_min ?_
  | with_reducible refine rd_i ?_
  | with_reducible refine rd_sl ?_
  | with_reducible refine rd_noPart ?_
  | with_reducible refine rd_part ?_
  | with_reducible refine rd_isB ?_
  | with_reducible refine rd_notB ?_
  | with_reducible refine rd_isN ?_
  | with_reducible refine rd_notN ?_
  | ((with_reducible refine' rd_lenL ?s ?_); (case s => first | assumption | exact SqL.of (by assumption)))
  | ((with_reducible refine' rd_lenT ?s ?_); (case s => first | assumption | exact SqT.of (by assumption)))
  | with_reducible refine rd_for ?_
  | with_reducible refine rd_rng1 ?_
  | with_reducible refine rd_rng2 ?_
  | with_reducible refine rd_comp ?_
  | with_reducible refine rd_rngB ?_
  | with_reducible refine rd_rngBR ?_
  | with_reducible refine rd_bm ?_
  | with_reducible refine rd_iTup ?_
  | with_reducible refine rd_iList ?_
  | ((with_reducible refine' rd_itT ?s ?_); (case s => first | assumption | exact SqT.of (by assumption)))
  | ((with_reducible refine' rd_itL ?s ?_); (case s => first | assumption | exact SqL.of (by assumption)))
  | ((with_reducible refine' rd_ixL ?s ?e ?_); (case s => exact SqL.of (by assumption)); (case e => rfl))
  | ((with_reducible refine' rd_ixT ?s ?e ?_); (case s => first | assumption | exact SqT.of (by assumption)); (case e => rfl))
  | ((with_reducible refine' rd_gtup ?s ?e ?_); (case s => first | assumption | exact SqT.of (by assumption)); (case e => rfl)))
theorem k_bl_int (K : PySem.W.Frag) : PySem.W.kitOne K (.type "bool") (.type "int") = some true := by kernel_rfl
theorem k_int_int (K : PySem.W.Frag) : PySem.W.kitOne K (.type "int") (.type "int") = some true := by kernel_rfl
theorem k_non_int (K : PySem.W.Frag) : PySem.W.kitOne K (.type "NoneType") (.type "int") = some false := by kernel_rfl
theorem k_bl_bool (K : PySem.W.Frag) : PySem.W.kitOne K (.type "bool") (.type "bool") = some true := by kernel_rfl
theorem k_int_bool (K : PySem.W.Frag) : PySem.W.kitOne K (.type "int") (.type "bool") = some false := by kernel_rfl
theorem k_tup_tup (K : PySem.W.Frag) : PySem.W.kitOne K (.type "tuple") (.type "tuple") = some true := by kernel_rfl
/-- the three numbers that a cell is drawn from -/
def Pur (H : Hp) (p : Addr) : Prop := ∃ x n c : Int, H p = some (.lst [.int x, .int n, .int c]) ∧ 0 ≤ x ∧ 0 ≤ c ∧ c < 4294967296
theorem Pur.same {H H' : Hp} {p : Addr} (h : Pur H p) (s : Same H H') : Pur H' p := by
  obtain ⟨x, n, c, h, r⟩ := h
  exact ⟨x, n, c, s _ _ h, r⟩
theorem Pur.neN {H : Hp} {p l : Addr} (h : Pur H p) (hl : H l = none) : l ≠ p := by
  obtain ⟨x, n, c, h, r⟩ := h
  exact (ne_of_none h hl).symm
theorem Pur.ne_tup {H : Hp} {p l : Addr} {xs : List V} (h : Pur H p) (hl : H l = some (.tup xs)) : l ≠ p := by
  obtain ⟨x, n, c, h, r⟩ := h
  intro e; subst e; rw [h] at hl; cases hl
theorem Pur.ne_dk {H : Hp} {p l : Addr} {kvs : List (Key × V)} (h : Pur H p) (hl : H l = some (.dK kvs)) : l ≠ p := by
  obtain ⟨x, n, c, h, r⟩ := h
  intro e; subst e; rw [h] at hl; cases hl
theorem Pur.kp {H H' : Hp} {p l : Addr} (h : Pur H p) (k : Kp l H H') (n : p ≠ l) : Pur H' p := by
  obtain ⟨x, m, c, h, r⟩ := h
  exact ⟨x, m, c, k _ _ h n, r⟩
theorem Pur.free {H H1 : Hp} {p l : Addr} (h : Kp p H H1) (hp : Pur H1 p) (hl : H1 l = none) : H l = none := by
  cases e : H l with
  | none => rfl
  | some o =>
    have := h l o e (hp.neN hl)
    rw [hl] at this
    cases this
theorem Pur.prT {H H' : Hp} {p a : Addr} {cv : List (Int × Int)} (hp : Pur H p) (h : PrT H a cv) (k : Kp p H H') : PrT H' a cv := by
  obtain ⟨x, n, c, e, _⟩ := hp
  exact h.kpL k e
def spCell (K : PySem.W.Frag) : Sp := fun vs H Q _ => ∃ (s : Addr) (ns : List Int) (k : Int), vs = [.ref s, .int k] ∧ SqL K H s (ns.map V.int) ∧ 0 ≤ k ∧ Q (.int (ns.getD k.toNat 0)) H
def spPurse : Sp := fun vs H Q _ => ∃ c k : Int, vs = [.int c, .int k] ∧ 0 ≤ k ∧ k ≤ 100 ∧ ∀ (p : Addr) (H' : Hp), H p = none → Pur H' p → Same H H' → Q (.ref p) H'
def spDraw : Sp := fun vs H Q _ => ∃ (p : Addr) (n : Int), vs = [.ref p, .int n] ∧ Pur H p ∧ 0 < n ∧ n < 2 ^ 250 ∧ ∀ (d : Int) (H' : Hp), 0 ≤ d → d < n → Pur H' p → Kp p H H' → Q (.int d) H'
section
variable {P : Program} {w : World} {K : PySem.W.Frag} {mg : Str → Option Value} {base : Heap} {a : Ad}
theorem sc_l_cell : FnScope ["_law_script", "_law_k"] ["_law_script", "_law_k"] (defScope s_l_cell) := ⟨rfl, rfl, rfl, by decide +kernel, rfl, by decide +kernel, by decide +kernel⟩
theorem ok_l_cell (T : Txt K mg a) : FnOk P w K mg base CX0 1 a.f_l_cell a.d_l_cell ["_law_script", "_law_k"] (spCell K) := by
  refine T.F_l_cell.ok sc_l_cell (fun vs H Q E h => ?_) (fun cdv A outer s H vs Q E hr h => ?_)
  · obtain ⟨p, ns, k, rfl, _⟩ := h
    rfl
  · obtain ⟨p, ns, k, rfl, hS, hk, q⟩ := h
    refine' ⟨_, QB.h ?pp, ?rr⟩
    case pp =>
     refine' qss_one ?h1
     case h1 =>
      refine' qs_ret ?h2
      case h2 =>
       refine' qe_ifExp ?h3 ?h4 qe_int
       case h3 =>
        refine' qt_cmpR (op_lt) (qv 1) ?h5 (nomark _)
        case h5 =>
         refine' qe_callBS (kc_len K rfl) rfl T.z_len bt_len ?h6
         case h6 =>
          exact qa_c (qv 0) qa_nil
       case h4 =>
        exact qe_ix (kx_list K rfl) (qv 0) (qv 1)
    case rr =>
    simp only [L2.start, List.length_cons, List.length_nil, List.map_cons, List.map_nil, Nat.reduceAdd, Nat.reduceSub, List.replicate_succ, List.replicate_zero, List.cons_append, List.nil_append]
    repeat walk_at "rd"
    rw [List.length_map]
    refine iteD (fun h => ?_) (fun h => ?_)
    · repeat walk_at "rd"
      obtain ⟨n, rfl⟩ : ∃ n : Nat, k = (n : Int) := ⟨k.toNat, by omega⟩
      have hk2 : n < ns.length := by omega
      refine rd_ixL (v := .int (ns.getD n 0)) hS (atI_nat ?_) q
      rw [List.getElem?_map, List.getElem?_eq_getElem hk2]
      simp [List.getD, hk2]
    · repeat walk_at "rd"
      have e : ns.getD k.toNat 0 = 0 := by
        rw [List.getD, List.getElem?_eq_none (by omega)]
        rfl
      rw [e] at q
      exact q
theorem sc_l_purse : FnScope ["_law_cell_here", "_law_k"] ["_law_cell_here", "_law_k"] (defScope s_l_purse) := ⟨rfl, rfl, rfl, by decide +kernel, rfl, by decide +kernel, by decide +kernel⟩
theorem ok_l_purse (T : Txt K mg a) : FnOk P w K mg base CX0 1 a.f_l_purse a.d_l_purse ["_law_cell_here", "_law_k"] spPurse := by
  refine T.F_l_purse.ok sc_l_purse (fun vs H Q E h => ?_) (fun cdv A outer s H vs Q E hr h => ?_)
  · obtain ⟨c, k, rfl, _⟩ := h
    rfl
  · obtain ⟨c, n, rfl, hn, hn2, k⟩ := h
    refine' ⟨_, QB.h ?pp, ?rr⟩
    case pp =>
     refine' qss_cons ?h7 ?h8
     case h7 =>
      refine' qs_if ?h9 ?h10 qss_nil
      case h9 =>
       refine' qt_cmpR (op_ge) (qv 0) ?h11 (nomark _)
       case h11 =>
        exact qe_op op_pow qe_int qe_int
      case h10 =>
       refine' qss_one ?h12
       case h12 =>
        refine' qs_ret ?h13
        case h13 =>
         refine' qe_lst ?h14
         case h14 =>
          refine' qa_c (qv 0) ?h15
          case h15 =>
           refine' qa_c qe_int ?h16
           case h16 =>
            refine' qa_c ?h17 qa_nil
            case h17 =>
             refine' qe_op op_add ?h18 qe_int
             case h18 =>
              exact qe_op op_mulG qe_int (qv 1)
     case h8 =>
      refine' qss_one ?h19
      case h19 =>
       refine' qs_ret ?h20
       case h20 =>
        refine' qe_lst ?h21
        case h21 =>
         refine' qa_c qe_int ?h22
         case h22 =>
          refine' qa_c qe_int ?h23
          case h23 =>
           refine' qa_c ?h24 qa_nil
           case h24 =>
            refine' qe_op op_mod ?h25 qe_int
            case h25 =>
             refine' qe_op op_add ?h26 qe_int
             case h26 =>
              refine' qe_op op_add ?h27 ?h28
              case h27 =>
               refine' qe_op op_add ?h29 ?h30
               case h29 =>
                refine' qe_op op_mulG ?h31 qe_int
                case h31 =>
                 refine' qe_op op_mod ?h32 ?h33
                 case h32 =>
                  refine' qe_callBS ca_abs rfl T.z_abs bt_abs ?h34
                  case h34 =>
                   exact qa_c (qv 0) qa_nil
                 case h33 =>
                  exact qe_op op_pow qe_int qe_int
               case h30 =>
                refine' qe_op op_mulG ?h35 (qv 1)
                case h35 =>
                 exact qe_op op_mulG qe_int (qv 1)
              case h28 =>
               exact qe_op op_mulG qe_int (qv 1)
    case rr =>
    simp only [L2.start, List.length_cons, List.length_nil, List.map_cons, List.map_nil, Nat.reduceAdd, Nat.reduceSub, List.replicate_succ, List.replicate_zero, List.cons_append, List.nil_append]
    repeat walk_at "rd"
    refine iteD (fun h => ?_) (fun h => ?_)
    · repeat walk_at "rd"
      refine rd_new (by show 3 ≤ sizeLine; decide) fun p H2 hp f2 S2 => ?_
      exact k p H2 hp ⟨_, _, _, f2, by omega, by omega, by omega⟩ S2
    · repeat walk_at "rd"
      refine rd_new (by show 3 ≤ sizeLine; decide) fun p H2 hp f2 S2 => ?_
      refine k p H2 hp ⟨_, _, _, f2, by omega, Int.emod_nonneg _ (by decide), ?_⟩ S2
      exact Int.lt_of_lt_of_le (Int.emod_lt_of_pos _ (by decide)) (by decide)
theorem sc_l_draw : FnScope ["_law_purse_here", "_law_many", "_law_digit"] ["_law_purse_here", "_law_many"] (defScope s_l_draw) := ⟨rfl, rfl, rfl, by decide +kernel, rfl, by decide +kernel, by decide +kernel⟩
theorem ok_l_draw (T : Txt K mg a) : FnOk P w K mg base CX0 1 a.f_l_draw a.d_l_draw ["_law_purse_here", "_law_many"] spDraw := by
  refine T.F_l_draw.ok sc_l_draw (fun vs H Q E h => ?_) (fun cdv A outer s H vs Q E hr h => ?_)
  · obtain ⟨p, n, rfl, _⟩ := h
    rfl
  · obtain ⟨p, n, rfl, ⟨x, m, y, hp, hx, hy, hy2⟩, hn, hn2, k⟩ := h
    have hdiv : ∀ i : Int, CDivB i n := fun i => CDivB.of (k := 250) hn hn2 (by decide)
    refine' ⟨_, QB.h ?pp, ?rr⟩
    case pp =>
     refine' qss_cons ?h36 ?h37
     case h36 =>
      refine' qs_if ?h38 ?h39 qss_nil
      case h38 =>
       refine' qt_cmpR (op_gt) ?h40 qe_int (nomark _)
       case h40 =>
        exact qe_ix (kx_list K rfl) (qv 0) qe_int
      case h39 =>
       refine' qss_cons ?h41 ?h42
       case h41 =>
        refine' qs_setS (i := 2) sc_l_draw.nd rfl (by first | exact Or.inl rfl | exact Or.inr rfl) ?h43
        case h43 =>
         refine' qe_op op_mod ?h44 (qv 1)
         case h44 =>
          exact qe_ix (kx_list K rfl) (qv 0) qe_int
       case h42 =>
        refine' qss_cons ?h45 ?h46
        case h45 =>
         refine' qs_asg ?h47 ?h48
         case h47 =>
          refine' qe_op op_fdivB ?h49 (qv 1)
          case h49 =>
           exact qe_ix (kx_list K rfl) (qv 0) qe_int
         case h48 =>
          exact qg_sub (qv 0) qe_int set_list
        case h46 =>
         refine' qss_one ?h50
         case h50 =>
          exact qs_ret (qv 2)
     case h37 =>
      refine' qss_cons ?h51 ?h52
      case h51 =>
       refine' qs_asg ?h53 ?h54
       case h53 =>
        refine' qe_op op_add ?h55 qe_int
        case h55 =>
         exact qe_ix (kx_list K rfl) (qv 0) qe_int
       case h54 =>
        exact qg_sub (qv 0) qe_int set_list
      case h52 =>
       refine' qss_cons ?h56 ?h57
       case h56 =>
        refine' qs_asg ?h58 ?h59
        case h58 =>
         refine' qe_op op_mod ?h60 qe_int
         case h60 =>
          refine' qe_op op_add ?h61 ?h62
          case h61 =>
           refine' qe_op op_mulG ?h63 qe_int
           case h63 =>
            exact qe_ix (kx_list K rfl) (qv 0) qe_int
          case h62 =>
           refine' qe_op op_mulG qe_int ?h64
           case h64 =>
            exact qe_ix (kx_list K rfl) (qv 0) qe_int
        case h59 =>
         exact qg_sub (qv 0) qe_int set_list
       case h57 =>
        refine' qss_one ?h65
        case h65 =>
         refine' qs_ret ?h66
         case h66 =>
          refine' qe_op op_mod ?h67 (qv 1)
          case h67 =>
           refine' qe_op op_fdivB ?h68 qe_int
           case h68 =>
            refine' qe_op op_mod ?h69 qe_int
            case h69 =>
             refine' qe_op op_mulG ?h70 ?h71
             case h70 =>
              exact qe_ix (kx_list K rfl) (qv 0) qe_int
             case h71 =>
              exact qe_ix (kx_list K rfl) (qv 0) qe_int
    case rr =>
    simp only [L2.start, List.length_cons, List.length_nil, List.map_cons, List.map_nil, Nat.reduceAdd, Nat.reduceSub, List.replicate_succ, List.replicate_zero, List.cons_append, List.nil_append]
    repeat walk_at "rd"
    refine iteD (fun h => ?_) (fun h => ?_)
    · repeat walk_at "rd"
      refine rd_setL hp (by rfl) ?_
      repeat walk_at "rd"
      exact k _ _ (Int.emod_nonneg _ (by omega)) (Int.emod_lt_of_pos _ hn) ⟨_, _, _, upd_same, Int.ediv_nonneg hx (by omega), hy, hy2⟩ Kp.upd
    · repeat walk_at "rd"
      refine rd_setA hp (by rfl) fun H2 f2 K2 => ?_
      have f2 : H2 p = some (.lst [V.int x, V.int (m + 1), V.int y]) := f2
      repeat walk_at "rd"
      refine rd_setA f2 (by rfl) fun H3 f3 K3 => ?_
      generalize hz : (y * 39373 + 8191 * (m + 1)) % 2147483587 = z at f3
      have h0 : 0 ≤ z := by rw [← hz]; exact Int.emod_nonneg _ (by decide)
      have h1 : z < 2147483587 := by rw [← hz]; exact Int.emod_lt_of_pos _ (by decide)
      have f3 : H3 p = some (.lst [V.int x, V.int (m + 1), V.int z]) := f3
      repeat walk_at "rd"
      refine k _ _ (Int.emod_nonneg _ (by omega)) (Int.emod_lt_of_pos _ hn) ⟨_, _, _, f3, hx, h0, by omega⟩ ?_
      exact fun q o e nq => K3 q o (K2 q o e nq) nq
end
section
variable {P : Program} {w : World} {K : PySem.W.Frag} {mg : Str → Option Value} {base : Heap} {a : Ad}
def spCurveOf (K : PySem.W.Frag) : Sp := fun vs H Q _ => ∃ (b : Bool) (l : Addr) (us : List V) (prs : List (Int × Int)), vs = [.ref l] ∧ SQ b H l us ∧ PairsAt H us prs ∧ prs.length < 64 ∧
  ∀ (t : Addr) (cv : List (Int × Int)) (H' : Hp), PrT H' t cv → CurveOf (allI prs) cv → cv.length ≤ prs.length → Same H H' → Q (.ref t) H'
theorem allI_snoc (l : List (Int × Int)) (p : Int × Int) : allI (l ++ [p]) = putI (allI l) p.1 p.2 := by
  unfold allI
  rw [List.foldl_append]
  rfl
theorem sc_curve_of : FnScope ["samples", "heights", "t", "h"] ["samples"] (defScope s_curve_of) := ⟨rfl, rfl, rfl, by decide +kernel, rfl, by decide +kernel, by decide +kernel⟩
theorem ok_curve_of (T : Txt K mg a) : FnOk P w K mg base CX0 1 a.f_curve_of a.d_curve_of ["samples"] (spCurveOf K) := by
  refine T.F_curve_of.ok sc_curve_of (fun vs H Q E h => ?_) (fun cdv A outer s H vs Q E hr h => ?_)
  · obtain ⟨b, l, us, prs, rfl, _⟩ := h
    rfl
  · obtain ⟨b, l, us, prs, rfl, hL, hP, hlen, k⟩ := h
    have hu := hu_of hr
    have hm := allI_len prs
    refine' ⟨_, QB.h ?pp, ?rr⟩
    case pp =>
     refine' qss_cons ?h72 ?h73
     case h72 =>
      exact qs_setS (i := 1) sc_curve_of.nd rfl (by first | exact Or.inl rfl | exact Or.inr rfl) qe_dnewK
     case h73 =>
      refine' qss_cons ?h74 ?h75
      case h74 =>
       refine' qs_for PassesOwn.never rfl ?h76 ?h77 ?h78
       case h76 =>
        exact ki_seq K rfl (qv 0)
       case h77 =>
        refine' kg_tup (n := 2) K rfl rfl ?h79
        case h79 =>
         refine' qgs_cons (qg_name (i := 2) sc_curve_of.nd rfl (by first | exact Or.inl rfl | exact Or.inr rfl)) ?h80
         case h80 =>
          exact qgs_cons (qg_name (i := 3) sc_curve_of.nd rfl (by first | exact Or.inl rfl | exact Or.inr rfl)) qgs_nil
       case h78 =>
        refine' qss_one ?h81
        case h81 =>
         exact qs_dput hu (qv 3) (qv 1) (qv 2)
      case h75 =>
       refine' qss_one ?h82
       case h82 =>
        refine' qs_ret ?h83
        case h83 =>
         refine' qe_callTyS (kc_tuple K rfl) rfl T.z_tuple bt_tuple ?h84
         case h84 =>
          refine' qa_c ?h85 qa_nil
          case h85 =>
           refine' qe_comp (N := ["samples", "heights", "t", "h"]) (sc := defScope s_curve_of) (own := ["t"]) (caps := ["heights"]) (ks := [1]) rfl rfl rfl ⟨rfl, by decide +kernel, by decide +kernel, by decide +kernel, by decide +kernel, rfl, by decide +kernel⟩ ?h86 ?h87 ?h88 ?h89
           case h86 =>
            refine' ki_list K rfl ?h90
            case h90 =>
             refine' qe_callBS (kc_sortedD rfl) rfl T.z_sorted bt_sorted ?h91
             case h91 =>
              exact qa_c (qv 1) qa_nil
           case h87 =>
            intro _ _ _ _ _
            exact qg_name (i := 0) (show List.Nodup (α := Str) ["t", "heights"] from by decide +kernel) rfl (by first | exact Or.inl rfl | exact Or.inr rfl) (.inr rfl)
           case h88 =>
            intro _ _ _ _ _
            exact qifs_nil
           case h89 =>
            intro _ _ _ _ _
            refine' qe_tup ?h92
            case h92 =>
             refine' qa_c (qv 0) ?h93
             case h93 =>
              refine' qa_c ?h94 qa_nil
              case h94 =>
               exact qe_dget hu (qv 1) (qv 0)
    case rr =>
    simp only [L2.start, List.length_cons, List.length_nil, List.map_cons, List.map_nil, Nat.reduceAdd, Nat.reduceSub, List.replicate_succ, List.replicate_zero, List.cons_append, List.nil_append]
    repeat walk_at "rd"
    refine rd_dnewI fun d H0 n0 f0 S0 => ?_
    repeat walk_at "rd"
    refine rd_forS (b := b) (xs := us) (fun i σ H' => (∃ v2 v3, σ = [some (.ref l), some (.ref d), v2, v3]) ∧ Same H H' ∧ H' d = some (.dK (dkOf (allI (prs.take i))))) (hL.same S0) ?_ (fun i σ H' _ h => hL.same h.2.1) ?_ ?_
    · exact ⟨⟨_, _, rfl⟩, S0, f0⟩
    · rintro i x σ H1 hx ⟨⟨v2, v3, rfl⟩, S1, f1⟩
      obtain ⟨c, p, rfl, hp, hc⟩ := (hP.same S1).at hx
      have e3 : prs.take (i + 1) = prs.take i ++ [p] := by
        rw [List.take_succ, hp]
        rfl
      repeat walk_at "rd"
      refine rd_dputI f1 ?_ fun H2 f2 K2 => ?_
      · exact Nat.lt_of_le_of_lt (allI_len _) (Nat.lt_of_le_of_lt (by rw [List.length_take]; exact Nat.min_le_right _ _) (Nat.lt_of_lt_of_le hlen (by decide)))
      repeat walk_at "rd"
      refine ⟨⟨_, _, rfl⟩, S1.kpN n0 K2, ?_⟩
      rw [e3, allI_snoc]
      exact f2
    · rintro σ H1 ⟨⟨v2, v3, rfl⟩, S1, f1⟩
      rw [hP.length, List.take_length] at f1
      repeat walk_at "rd"
      refine rd_sortedI f1 (by omega) fun l2 H2 ns n2 f2 hp hs S2 => ?_
      have hnl : ns.length = (allI prs).length := by have := hp.length_eq; simpa using this
      repeat walk_at "rd"
      intro l3 n3
      have S23 : Same H2 (upd H2 l3 (.lst [])) := Same.new n3
      refine comp_by ns.length (fun i σ' H' => (∃ o, σ' = [o, some (.ref d)]) ∧ Same H2 H' ∧ ∃ vs, H' l3 = some (.lst vs) ∧ PairsAt H' vs ((curveBy (allI prs) ns).take i)) ?_ ?_ ?_
      · exact ⟨⟨none, rfl⟩, S23, [], upd_same, .nil⟩
      · rintro σ H' ⟨_, s, vs, f3, hPc⟩
        refine ⟨⟨_, SqL.of (s _ _ f2), by simp⟩, ?_⟩
        repeat walk_at "rd"
        refine rd_tupL (SqL.of f3) fun t H4 n4 f4 S4 => ?_
        have ecv : (curveBy (allI prs) ns).take ns.length = curveBy (allI prs) ns := List.take_of_length_le (by simp [curveBy])
        rw [ecv] at hPc
        exact k t _ H4 ⟨vs, f4, hPc.same S4⟩ (curveBy_of (allI_nodup prs) hp hs) (by unfold curveBy; rw [List.length_map, hnl]; exact hm) (((S1.trans S2).trans s).trans S4)
      · rintro i σ H' hi ⟨⟨o, rfl⟩, s, vs, f3, hPc⟩
        have hi2 : i < (ns.map V.int).length := by simpa using hi
        refine ⟨⟨_, _, SqL.of (s _ _ f2), List.getElem?_eq_getElem hi2⟩, ?_⟩
        rintro u H'' ⟨rfl, hu'⟩
        have hu' := hu' _ (SqL.of (s _ _ f2))
        have eu : u = .int ns[i] := by
          rw [List.getElem?_map, List.getElem?_eq_getElem hi] at hu'
          simpa using hu'.symm
        subst eu
        repeat walk_at "rd"
        refine iteT ?_
        repeat walk_at "rd"
        have hmem : ns[i] ∈ (allI prs).map (·.1) := hp.mem_iff.mp (List.getElem_mem hi)
        obtain ⟨x, hx⟩ : ∃ x, getI (allI prs) ns[i] = some x := by
          cases hg : getI (allI prs) ns[i] with
          | none => exact absurd hmem (getI_none.mp hg)
          | some x => exact ⟨x, rfl⟩
        refine rd_dgetI (s _ _ (S2 _ _ f1)) hx ?_
        repeat walk_at "rd"
        refine rd_new (by show 2 ≤ sizeLine; decide) fun t H4 n4 f4 S4 => ?_
        have f34 := S4 _ _ f3
        refine ⟨vs, f34, ?_, ⟨_, rfl⟩, ?_, ?_⟩
        · have e := hPc.length
          rw [e, List.length_take]
          exact Nat.lt_of_le_of_lt (Nat.min_le_left _ _) (Nat.lt_of_lt_of_le hi (by rw [hnl]; exact Nat.le_of_lt (Nat.lt_of_le_of_lt hm (Nat.lt_of_lt_of_le hlen (by decide)))))
        · exact (s.trans S4).kpN (l := l3) n3 Kp.upd
        · refine ⟨_, upd_same, ?_⟩
          have e3 : (curveBy (allI prs) ns).take (i + 1) = (curveBy (allI prs) ns).take i ++ [(ns[i], x)] := by
            rw [List.take_succ]
            congr 1
            simp [curveBy, List.getElem?_eq_getElem hi, hx]
          rw [e3]
          exact PairsAt.kpL Kp.upd f34 ((hPc.same S4).snoc f4)
end
def BP (cv : List (Int × Int)) : Prop := ∀ p ∈ cv, Bn 200 p.1 ∧ Bn 200 p.2
theorem bn1 : Bn 200 1 := by unfold Bn; decide
section
variable {P : Program} {w : World} {K : PySem.W.Frag} {mg : Str → Option Value} {base : Heap} {a : Ad}
def spWhole : Sp := fun vs H Q _ => ∃ i : Int, vs = [.int i] ∧ Q (.bl true) H
theorem sc_is_whole : FnScope ["thing"] ["thing"] (defScope s_is_whole) := ⟨rfl, rfl, rfl, by decide +kernel, rfl, by decide +kernel, by decide +kernel⟩
theorem ok_is_whole (T : Txt K mg a) : FnOk P w K mg base CX0 1 a.f_is_whole a.d_is_whole ["thing"] spWhole := by
  refine T.F_is_whole.ok sc_is_whole (fun vs H Q E h => ?_) (fun cdv A outer s H vs Q E hr h => ?_)
  · obtain ⟨i, rfl, _⟩ := h
    rfl
  · obtain ⟨i, rfl, q⟩ := h
    refine' ⟨_, QB.h ?pp, ?rr⟩
    case pp =>
     refine' qss_one ?h95
     case h95 =>
      refine' qs_ret ?h96
      case h96 =>
       refine' qe_and ?h97 ?h98
       case h97 =>
        refine' qe_callBS (kc_isi K rfl) rfl T.z_isinstance bt_isinstance ?h99
        case h99 =>
         refine' qa_c (qv 0) ?h100
         case h100 =>
          exact qa_c (qe_bltn (v := .ty "int") rfl T.z_int bt_int rfl) qa_nil
       case h98 =>
        refine' qe_one ?h101
        case h101 =>
         refine' qe_not ?h102
         case h102 =>
          refine' qe_callBS (kc_isi K rfl) rfl T.z_isinstance bt_isinstance ?h103
          case h103 =>
           refine' qa_c (qv 0) ?h104
           case h104 =>
            exact qa_c (qe_bltn (v := .ty "bool") rfl T.z_bool bt_bool rfl) qa_nil
    case rr =>
    simp only [L2.start, List.length_cons, List.length_nil, List.map_cons, List.map_nil, Nat.reduceAdd, Nat.reduceSub, List.replicate_succ, List.replicate_zero, List.cons_append, List.nil_append]
    repeat walk_at "rd"
    refine rd_isi (.int i) (k_int_int _) (rd_k (iteT ?_))
    repeat walk_at "rd"
    refine rd_isi (.int i) (k_int_bool _) ?_
    repeat walk_at "rd"
    exact q
def spPart (K : PySem.W.Frag) : Sp := fun vs H Q _ => ∃ (t : Addr) (cv : List (Int × Int)) (b e : Int), vs = [.ref t, .int b, .int e] ∧ PrT H t cv ∧ cv.length ≤ 1000 ∧
  ∀ (u : Addr) (H' : Hp), PrT H' u (inCol cv b e) → Same H H' → Q (.ref u) H'
theorem sc_part_of : FnScope ["curve", "begin", "end"] ["curve", "begin", "end"] (defScope s_part_of) := ⟨rfl, rfl, rfl, by decide +kernel, rfl, by decide +kernel, by decide +kernel⟩
theorem ok_part_of (T : Txt K mg a) : FnOk P w K mg base CX0 1 a.f_part_of a.d_part_of ["curve", "begin", "end"] (spPart K) := by
  refine T.F_part_of.ok sc_part_of (fun vs H Q E h => ?_) (fun cdv A outer s H vs Q E hr h => ?_)
  · obtain ⟨t, cv, b, e, rfl, _⟩ := h
    rfl
  · obtain ⟨t, cv, b, e, rfl, ⟨us, hT0, hP⟩, hlen, k⟩ := h
    have hT : SqT K H t us := SqT.of hT0
    refine' ⟨_, QB.h ?pp, ?rr⟩
    case pp =>
     refine' qss_one ?h105
     case h105 =>
      refine' qs_ret ?h106
      case h106 =>
       refine' qe_callTyS (kc_tuple K rfl) rfl T.z_tuple bt_tuple ?h107
       case h107 =>
        refine' qa_c ?h108 qa_nil
        case h108 =>
         refine' qe_comp (N := ["curve", "begin", "end"]) (sc := defScope s_part_of) (own := ["t", "h"]) (caps := ["begin", "end"]) (ks := [1, 2]) rfl rfl rfl ⟨rfl, by decide +kernel, by decide +kernel, by decide +kernel, by decide +kernel, rfl, by decide +kernel⟩ ?h109 ?h110 ?h111 ?h112
         case h109 =>
          exact ki_tup K rfl (qv 0)
         case h110 =>
          intro _ _ _ _ _
          refine' kg_tup (n := 2) K rfl rfl ?h113
          case h113 =>
           refine' qgs_cons (qg_name (i := 0) (show List.Nodup (α := Str) ["t", "h", "begin", "end"] from by decide +kernel) rfl (by first | exact Or.inl rfl | exact Or.inr rfl) (.inr rfl)) ?h114
           case h114 =>
            exact qgs_cons (qg_name (i := 1) (show List.Nodup (α := Str) ["t", "h", "begin", "end"] from by decide +kernel) rfl (by first | exact Or.inl rfl | exact Or.inr rfl) (.inr rfl)) qgs_nil
         case h111 =>
          intro _ _ _ _ _
          refine' qifs_one ?h115
          case h115 =>
           exact qt_chain op_le op_lt (qv 2) (qv 0) (qv 3)
         case h112 =>
          intro _ _ _ _ _
          refine' qe_tup ?h116
          case h116 =>
           refine' qa_c (qv 0) ?h117
           case h117 =>
            exact qa_c (qv 1) qa_nil
    case rr =>
    simp only [L2.start, List.length_cons, List.length_nil, List.map_cons, List.map_nil, Nat.reduceAdd, Nat.reduceSub, List.replicate_succ, List.replicate_zero, List.cons_append, List.nil_append]
    repeat walk_at "rd"
    intro l hl
    refine comp_by cv.length (fun i σ' H' => (∃ o1 o2, σ' = [o1, o2, some (.int b), some (.int e)]) ∧ Same H H' ∧ ∃ vs, H' l = some (.lst vs) ∧ PairsAt H' vs (inCol (cv.take i) b e)) ?_ ?_ ?_
    · exact ⟨⟨none, none, rfl⟩, Same.new hl, [], upd_same, .nil⟩
    · rintro σ H' ⟨_, s, vs, f, hPc⟩
      refine ⟨⟨_, s.seqT hT, by rw [hP.length]; exact Nat.le_refl _⟩, ?_⟩
      repeat walk_at "rd"
      refine rd_tupL (SqL.of f) fun u H4 n4 f4 S4 => ?_
      rw [List.take_length] at hPc
      exact k u H4 ⟨vs, f4, hPc.same S4⟩ (s.trans S4)
    · rintro i σ H' hi ⟨⟨o1, o2, rfl⟩, s, vs, f, hPc⟩
      have hi2 : i < us.length := by rw [hP.length]; exact hi
      refine ⟨⟨_, _, s.seqT hT, List.getElem?_eq_getElem hi2⟩, ?_⟩
      rintro u H'' ⟨rfl, hu'⟩
      have hu' := hu' _ (s.seqT hT)
      obtain ⟨c, p, rfl, hp, hc⟩ := (hP.same s).at hu'
      have e3 : cv.take (i + 1) = cv.take i ++ [p] := by
        rw [List.take_succ, hp]
        rfl
      have e4 : inCol (cv.take (i + 1)) b e = inCol (cv.take i) b e ++ (if (decide (b ≤ p.1) && decide (p.1 < e)) = true then [p] else []) := by
        rw [e3, inCol, List.filter_append]
        congr 1
        simp only [List.filter_cons, List.filter_nil]
      repeat walk_at "rd"
      refine iteD (fun h1 => ?_) (fun h1 => ?_)
      · repeat walk_at "rd"
        refine iteD (fun h2 => ?_) (fun h2 => ?_)
        · repeat walk_at "rd"
          refine rd_new (by show 2 ≤ sizeLine; decide) fun t4 H4 n4 f4 S4 => ?_
          have f34 := S4 _ _ f
          refine ⟨vs, f34, ?_, ⟨_, _, rfl⟩, ?_, ?_⟩
          · have e := hPc.length
            rw [e]
            refine Nat.lt_of_le_of_lt (List.length_filter_le _ _) ?_
            rw [List.length_take]
            exact Nat.lt_of_le_of_lt (Nat.min_le_left _ _) (Nat.lt_of_lt_of_le (Nat.lt_of_lt_of_le hi hlen) (by decide))
          · exact (s.trans S4).kpN hl Kp.upd
          · refine ⟨_, upd_same, ?_⟩
            rw [e4, decide_eq_true h1, decide_eq_true h2, Bool.and_self, if_pos rfl]
            exact PairsAt.kpL Kp.upd f34 ((hPc.same S4).snoc f4)
        · refine ⟨⟨_, _, rfl⟩, s, vs, f, ?_⟩
          rw [e4, decide_eq_false h2, Bool.and_false, if_neg (by decide), List.append_nil]
          exact hPc
      · repeat walk_at "rd"
        refine iteF ?_
        refine ⟨⟨_, _, rfl⟩, s, vs, f, ?_⟩
        rw [e4, decide_eq_false h1, Bool.false_and, if_neg (by decide), List.append_nil]
        exact hPc
def spTimes (K : PySem.W.Frag) : Sp := fun vs H Q _ => ∃ (p : Addr) (b y m k : Int), vs = [.ref p, .int k] ∧ H p = some (.tup [.int b, .int y, .int m]) ∧ 0 ≤ k ∧ k < m ∧ m ≤ 1000 ∧
  ∀ (u : Addr) (H' : Hp), H u = none → H' u = some (.tup [.int (b + k * y), .int (b + k * y + y)]) → Same H H' → Q (.ref u) H'
theorem sc_times_of : FnScope ["window", "k", "begin", "wide", "many", "first"] ["window", "k"] (defScope s_times_of) := ⟨rfl, rfl, rfl, by decide +kernel, rfl, by decide +kernel, by decide +kernel⟩
theorem ok_times_of (T : Txt K mg a) : FnOk P w K mg base CX0 2 a.f_times_of a.d_times_of ["window", "k"] (spTimes K) := by
  refine T.F_times_of.ok sc_times_of (fun vs H Q E h => ?_) (fun cdv A outer s H vs Q E hr h => ?_)
  · obtain ⟨p, b, y, m, k, rfl, _⟩ := h
    rfl
  · obtain ⟨p, b, y, m, n, rfl, hT, h0, h1, h2, k⟩ := h
    refine' ⟨_, QB.h ?pp, ?rr⟩
    case pp =>
     refine' qss_cons ?h118 ?h119
     case h118 =>
      refine' qs_asg (qv 0) ?h120
      case h120 =>
       refine' kg_tup (n := 3) K rfl rfl ?h121
       case h121 =>
        refine' qgs_cons (qg_name (i := 2) sc_times_of.nd rfl (by first | exact Or.inl rfl | exact Or.inr rfl)) ?h122
        case h122 =>
         refine' qgs_cons (qg_name (i := 3) sc_times_of.nd rfl (by first | exact Or.inl rfl | exact Or.inr rfl)) ?h123
         case h123 =>
          exact qgs_cons (qg_name (i := 4) sc_times_of.nd rfl (by first | exact Or.inl rfl | exact Or.inr rfl)) qgs_nil
     case h119 =>
      refine' qss_cons ?h124 ?h125
      case h124 =>
       refine' qs_if ?h126 ?h127 qss_nil
       case h126 =>
        refine' QW.pt ?h128
        case h128 =>
         refine' qw_or ?h129 ?h130
         case h129 =>
          refine' qt_not ?h131
          case h131 =>
           refine' qt_val ?h132
           case h132 =>
            refine' qe_callS (ok_is_whole T) hr rfl T.m_is_whole T.F_is_whole.kp T.b_is_whole .nil pass0 ?h133
            case h133 =>
             exact qa_c (qv 1) qa_nil
         case h130 =>
          refine' qw_or1 ?h134
          case h134 =>
           refine' qt_not ?h135
           case h135 =>
            exact qt_chain op_le op_lt qe_int (qv 1) (qv 4)
       case h127 =>
        exact qss_one qs_never
      case h125 =>
       refine' qss_cons ?h136 ?h137
       case h136 =>
        refine' qs_setS (i := 5) sc_times_of.nd rfl (by first | exact Or.inl rfl | exact Or.inr rfl) ?h138
        case h138 =>
         refine' qe_op op_add (qv 2) ?h139
         case h139 =>
          exact qe_op op_mulG (qv 1) (qv 3)
       case h137 =>
        refine' qss_one ?h140
        case h140 =>
         refine' qs_ret ?h141
         case h141 =>
          refine' qe_tup ?h142
          case h142 =>
           refine' qa_c (qv 5) ?h143
           case h143 =>
            refine' qa_c ?h144 qa_nil
            case h144 =>
             exact qe_op op_add (qv 5) (qv 3)
    case rr =>
    simp only [L2.start, List.length_cons, List.length_nil, List.map_cons, List.map_nil, Nat.reduceAdd, Nat.reduceSub, List.replicate_succ, List.replicate_zero, List.cons_append, List.nil_append]
    repeat walk_at "rd"
    refine ⟨n, rfl, ?_⟩
    repeat walk_at "rd"
    refine iteF ?_
    repeat walk_at "rd"
    refine iteD (fun _ => ?_) (fun h => absurd h0 h)
    repeat walk_at "rd"
    rw [decide_eq_true h1]
    refine iteF ?_
    repeat walk_at "rd"
    exact rd_new (by show 2 ≤ sizeLine; decide) fun u H2 n2 f2 S2 => k u H2 n2 f2 S2
def colsL (b y : Int) (n : Nat) : List (Int × Int) := (List.range n).map fun (i : Nat) => (b + (i : Int) * y, b + (i : Int) * y + y)
theorem colsL_len (b y : Int) (n : Nat) : (colsL b y n).length = n := by rw [colsL, List.length_map, List.length_range]
theorem colsL_succ (b y : Int) (n : Nat) : colsL b y (n + 1) = colsL b y n ++ [(b + (n : Int) * y, b + (n : Int) * y + y)] := by rw [colsL, List.range_succ, List.map_append]; rfl
theorem colsL_at {b y : Int} {n i : Nat} {p : Int × Int} (h : (colsL b y n)[i]? = some p) : p = (b + (i : Int) * y, b + (i : Int) * y + y) := by
  rw [colsL, List.getElem?_map] at h
  obtain ⟨j, hj, rfl⟩ := Option.map_eq_some_iff.mp h
  rw [List.getElem?_range (by have := (List.getElem?_eq_some_iff.mp hj).1; rwa [List.length_range] at this)] at hj
  rw [← Option.some.inj hj]
def spColumns (K : PySem.W.Frag) : Sp := fun vs H Q _ => ∃ (p : Addr) (b y m : Int), vs = [.ref p] ∧ H p = some (.tup [.int b, .int y, .int m]) ∧ 1 ≤ m ∧ m ≤ 1000 ∧
  ∀ (l : Addr) (us : List V) (H' : Hp), H l = none → H' l = some (.lst us) → PairsAt H' us (colsL b y m.toNat) → Same H H' → Q (.ref l) H'
theorem sc_columns_of : FnScope ["window"] ["window"] (defScope s_columns_of) := ⟨rfl, rfl, rfl, by decide +kernel, rfl, by decide +kernel, by decide +kernel⟩
theorem ok_columns_of (T : Txt K mg a) : FnOk P w K mg base CX0 3 a.f_columns_of a.d_columns_of ["window"] (spColumns K) := by
  refine T.F_columns_of.ok sc_columns_of (fun vs H Q E h => ?_) (fun cdv A outer s H vs Q E hr h => ?_)
  · obtain ⟨p, b, y, m, rfl, _⟩ := h
    rfl
  · obtain ⟨p, b, y, m, rfl, hT, h1, h2, k⟩ := h
    refine' ⟨_, QB.h ?pp, ?rr⟩
    case pp =>
     refine' qss_one ?h145
     case h145 =>
      refine' qs_ret ?h146
      case h146 =>
       refine' qe_comp (N := ["window"]) (sc := defScope s_columns_of) (own := ["k"]) (caps := ["window"]) (ks := [0]) rfl rfl rfl ⟨rfl, by decide +kernel, by decide +kernel, by decide +kernel, by decide +kernel, rfl, by decide +kernel⟩ ?h147 ?h148 ?h149 ?h150
       case h147 =>
        refine' qi_range1 rfl T.z_range ?h151
        case h151 =>
         refine' qa_c ?h152 qa_nil
         case h152 =>
          exact qe_ix (kx_tup K rfl) (qv 0) qe_int
       case h148 =>
        intro _ _ _ _ _
        exact qg_name (i := 0) (show List.Nodup (α := Str) ["k", "window"] from by decide +kernel) rfl (by first | exact Or.inl rfl | exact Or.inr rfl) (.inr rfl)
       case h149 =>
        intro _ _ _ _ _
        exact qifs_nil
       case h150 =>
        intro _ _ _ _ _
        refine' qe_callS (ok_times_of T) hr rfl T.m_times_of T.F_times_of.kp T.b_times_of .nil pass0 ?h153
        case h153 =>
         refine' qa_c (qv 1) ?h154
         case h154 =>
          exact qa_c (qv 0) qa_nil
    case rr =>
    simp only [L2.start, List.length_cons, List.length_nil, List.map_cons, List.map_nil, Nat.reduceAdd, Nat.reduceSub, List.replicate_succ, List.replicate_zero, List.cons_append, List.nil_append]
    repeat walk_at "rd"
    refine rd_rng (by omega) (by omega) ?_
    intro l n1
    refine comp_by m.toNat (fun i σ' H' => (∃ o, σ' = [o, some (.ref p)]) ∧ Same H H' ∧ ∃ vs, H' l = some (.lst vs) ∧ PairsAt H' vs (colsL b y i)) ?_ ?_ ?_
    · exact ⟨⟨none, rfl⟩, Same.new n1, [], upd_same, .nil⟩
    · rintro σ H2 ⟨_, S2, vs, f2, hP⟩
      refine ⟨Nat.le_refl _, ?_⟩
      repeat walk_at "rd"
      exact k l vs H2 n1 f2 hP S2
    · rintro i σ H2 hi ⟨⟨o, rfl⟩, S2, vs, f2, hP⟩
      refine ⟨hi, ?_⟩
      rintro x H'' ⟨rfl, rfl⟩
      repeat walk_at "rd"
      refine iteT ?_
      repeat walk_at "rd"
      refine ⟨p, b, y, m, _, rfl, S2 _ _ hT, by omega, by omega, by omega, fun u H3 n3 f3 S3 => ?_⟩
      have e0 : (0 + (i : Int)) = (i : Int) := by omega
      rw [e0] at f3
      refine ⟨vs, S3 _ _ f2, ?_, ⟨_, rfl⟩, (S2.trans S3).kpN n1 Kp.upd, vs ++ [.ref u], upd_same, ?_⟩
      · rw [hP.length, colsL_len]
        exact Nat.lt_of_lt_of_le hi (Nat.le_trans (show m.toNat ≤ 1000 by omega) (by decide))
      · rw [colsL_succ]
        exact PairsAt.kpL Kp.upd (S3 _ _ f2) ((hP.same S3).snoc (p := (b + (i : Int) * y, b + (i : Int) * y + y)) f3)
def Hts (H : Hp) (p : Addr) (low tall rows : Int) : Prop := H p = some (.tup [.int low, .int tall, .int rows]) ∧ Bn 200 low ∧ 0 < tall ∧ Bn 200 tall ∧ 0 ≤ rows ∧ rows ≤ 1000
theorem Hts.same {H H' : Hp} {p : Addr} {low tall rows : Int} (h : Hts H p low tall rows) (s : Same H H') : Hts H' p low tall rows := ⟨s _ _ h.1, h.2⟩
def spRowOf (K : PySem.W.Frag) : Sp := fun vs H Q _ => ∃ (x d : Int) (p : Addr) (low tall rows : Int), vs = [.int x, .int d, .ref p] ∧ Hts H p low tall rows ∧ 0 < d ∧ Bn 201 d ∧ Q (.int (fl low tall (x, d))) H
theorem sc_row_of : FnScope ["height", "parts", "heights", "low", "tall", "rows"] ["height", "parts", "heights"] (defScope s_row_of) := ⟨rfl, rfl, rfl, by decide +kernel, rfl, by decide +kernel, by decide +kernel⟩
theorem ok_row_of (T : Txt K mg a) : FnOk P w K mg base CX0 1 a.f_row_of a.d_row_of ["height", "parts", "heights"] (spRowOf K) := by
  refine T.F_row_of.ok sc_row_of (fun vs H Q E h => ?_) (fun cdv A outer s H vs Q E hr h => ?_)
  · obtain ⟨x, d, p, low, tall, rows, rfl, _⟩ := h
    rfl
  · obtain ⟨x, d, p, low, tall, rows, rfl, ⟨hp, hb1, ht, hb2, _⟩, hd, hbd, q⟩ := h
    refine' ⟨_, QB.h ?pp, ?rr⟩
    case pp =>
     refine' qss_cons ?h155 ?h156
     case h155 =>
      refine' qs_asg (qv 2) ?h157
      case h157 =>
       refine' kg_tup (n := 3) K rfl rfl ?h158
       case h158 =>
        refine' qgs_cons (qg_name (i := 3) sc_row_of.nd rfl (by first | exact Or.inl rfl | exact Or.inr rfl)) ?h159
        case h159 =>
         refine' qgs_cons (qg_name (i := 4) sc_row_of.nd rfl (by first | exact Or.inl rfl | exact Or.inr rfl)) ?h160
         case h160 =>
          exact qgs_cons (qg_name (i := 5) sc_row_of.nd rfl (by first | exact Or.inl rfl | exact Or.inr rfl)) qgs_nil
     case h156 =>
      refine' qss_one ?h161
      case h161 =>
       refine' qs_ret ?h162
       case h162 =>
        refine' qe_op op_fdivB ?h163 ?h164
        case h163 =>
         refine' qe_op op_sub (qv 0) ?h165
         case h165 =>
          exact qe_op op_mulG (qv 3) (qv 1)
        case h164 =>
         exact qe_op op_mulG (qv 4) (qv 1)
    case rr =>
    simp only [L2.start, List.length_cons, List.length_nil, List.map_cons, List.map_nil, Nat.reduceAdd, Nat.reduceSub, List.replicate_succ, List.replicate_zero, List.cons_append, List.nil_append]
    repeat walk_at "rd"
    refine rd_I (mulBig hb1 hbd (by decide)) ?_
    repeat walk_at "rd"
    refine rd_I (mulBig hb2 hbd (by decide)) ?_
    refine rd_I ((hb2.mul hbd).divB (Int.mul_pos ht hd) (by decide)) ?_
    exact q
def spRowAt (K : PySem.W.Frag) : Sp := fun vs H Q _ => ∃ (c1 c2 : Addr) (u v : Int × Int) (t : Int) (p : Addr) (low tall rows : Int), vs = [.ref c1, .ref c2, .int t, .ref p] ∧ H c1 = some (.tup [.int u.1, .int u.2]) ∧ H c2 = some (.tup [.int v.1, .int v.2]) ∧
  Hts H p low tall rows ∧ u.1 < v.1 ∧ Bn 200 u.1 ∧ Bn 200 u.2 ∧ Bn 200 v.1 ∧ Bn 200 v.2 ∧ Bn 200 t ∧ Q (.int (fl low tall (frP u v t))) H
theorem sc_row_at : FnScope ["one", "other", "t", "heights", "parts"] ["one", "other", "t", "heights"] (defScope s_row_at) := ⟨rfl, rfl, rfl, by decide +kernel, rfl, by decide +kernel, by decide +kernel⟩
theorem ok_row_at (T : Txt K mg a) : FnOk P w K mg base CX0 2 a.f_row_at a.d_row_at ["one", "other", "t", "heights"] (spRowAt K) := by
  refine T.F_row_at.ok sc_row_at (fun vs H Q E h => ?_) (fun cdv A outer s H vs Q E hr h => ?_)
  · obtain ⟨c1, c2, u, v, t, p, low, tall, rows, rfl, _⟩ := h
    rfl
  · obtain ⟨c1, c2, u, v, t, p, low, tall, rows, rfl, h1, h2, hh, hlt, b1, b2, b3, b4, b5, q⟩ := h
    refine' ⟨_, QB.h ?pp, ?rr⟩
    case pp =>
     refine' qss_cons ?h166 ?h167
     case h166 =>
      refine' qs_setS (i := 4) sc_row_at.nd rfl (by first | exact Or.inl rfl | exact Or.inr rfl) ?h168
      case h168 =>
       refine' qe_op op_sub ?h169 ?h170
       case h169 =>
        exact qe_ix (kx_tup K rfl) (qv 1) qe_int
       case h170 =>
        exact qe_ix (kx_tup K rfl) (qv 0) qe_int
     case h167 =>
      refine' qss_one ?h171
      case h171 =>
       refine' qs_ret ?h172
       case h172 =>
        refine' qe_callS (ok_row_of T) hr rfl T.m_row_of T.F_row_of.kp T.b_row_of .nil pass0 ?h173
        case h173 =>
         refine' qa_c ?h174 ?h175
         case h174 =>
          refine' qe_op op_add ?h176 ?h177
          case h176 =>
           refine' qe_op op_mulG ?h178 (qv 4)
           case h178 =>
            exact qe_ix (kx_tup K rfl) (qv 0) qe_int
          case h177 =>
           refine' qe_op op_mulG ?h179 ?h180
           case h179 =>
            refine' qe_op op_sub ?h181 ?h182
            case h181 =>
             exact qe_ix (kx_tup K rfl) (qv 1) qe_int
            case h182 =>
             exact qe_ix (kx_tup K rfl) (qv 0) qe_int
           case h180 =>
            refine' qe_op op_sub (qv 2) ?h183
            case h183 =>
             exact qe_ix (kx_tup K rfl) (qv 0) qe_int
         case h175 =>
          refine' qa_c (qv 4) ?h184
          case h184 =>
           exact qa_c (qv 3) qa_nil
    case rr =>
    simp only [L2.start, List.length_cons, List.length_nil, List.map_cons, List.map_nil, Nat.reduceAdd, Nat.reduceSub, List.replicate_succ, List.replicate_zero, List.cons_append, List.nil_append]
    repeat walk_at "rd"
    refine rd_I (mulBig b2 (b3.sub b1) (by decide)) ?_
    repeat walk_at "rd"
    refine rd_I (mulBig (b4.sub b2) (b5.sub b1) (by decide)) ?_
    repeat walk_at "rd"
    exact ⟨_, _, p, low, tall, rows, rfl, hh, by omega, b3.sub b1, q⟩
theorem kpTup {H H' : Hp} {l q : Addr} {xs ys : List V} (k : Kp l H H') (hl : H l = some (.lst xs)) (h : H q = some (.tup ys)) : H' q = some (.tup ys) := k _ _ h (fun z => by subst z; rw [hl] at h; cases h)
def spRows (K : PySem.W.Frag) : Sp := fun vs H Q _ => ∃ (t u p : Addr) (cv : List (Int × Int)) (x z low tall rows : Int), vs = [.ref t, .ref u, .ref p] ∧ PrT H t cv ∧ H u = some (.tup [.int x, .int z]) ∧ Hts H p low tall rows ∧ Asc cv ∧ BP cv ∧ cv.length ≤ 100 ∧ Bn 200 x ∧ Bn 200 z ∧
  ∀ (l : Addr) (H' : Hp), H l = none → H' l = some (.lst (((metF cv x z).map (fl low tall)).map V.int)) → Same H H' → Q (.ref l) H'
theorem bn_mx {x y : Int} {n : Nat} (h : Bn n x) (g : Bn n y) : Bn n (if y > x then y else x) := by split; exact g; exact h
theorem bn_mn {x y : Int} {n : Nat} (h : Bn n x) (g : Bn n y) : Bn n (if y < x then y else x) := by split; exact g; exact h
theorem inCol_mem {cv : List (Int × Int)} {b e : Int} {p : Int × Int} (h : p ∈ inCol cv b e) : p ∈ cv := (List.mem_filter.mp h).1
theorem sc_rows_met : FnScope ["samples", "times", "heights", "first", "behind", "met", "one", "other"] ["samples", "times", "heights"] (defScope s_rows_met) := ⟨rfl, rfl, rfl, by decide +kernel, rfl, by decide +kernel, by decide +kernel⟩
theorem ok_rows_met (T : Txt K mg a) : FnOk P w K mg base CX0 3 a.f_rows_met a.d_rows_met ["samples", "times", "heights"] (spRows K) := by
  refine T.F_rows_met.ok sc_rows_met (fun vs H Q E h => ?_) (fun cdv A outer s H vs Q E hr h => ?_)
  · obtain ⟨t, u, p, cv, x, z, low, tall, rows, rfl, _⟩ := h
    rfl
  · obtain ⟨t, u, p, cv, x, z, low, tall, rows, rfl, hT, hu, hh, hasc, hbp, hlen, bx, bz, k⟩ := h
    refine' ⟨_, QB.h ?pp, ?rr⟩
    case pp =>
     refine' qss_cons ?h185 ?h186
     case h185 =>
      refine' qs_asg (qv 1) ?h187
      case h187 =>
       refine' kg_tup (n := 2) K rfl rfl ?h188
       case h188 =>
        refine' qgs_cons (qg_name (i := 3) sc_rows_met.nd rfl (by first | exact Or.inl rfl | exact Or.inr rfl)) ?h189
        case h189 =>
         exact qgs_cons (qg_name (i := 4) sc_rows_met.nd rfl (by first | exact Or.inl rfl | exact Or.inr rfl)) qgs_nil
     case h186 =>
      refine' qss_cons ?h190 ?h191
      case h190 =>
       refine' qs_setC (N := ["samples", "times", "heights", "first", "behind", "met", "one", "other"]) (sc := defScope s_rows_met) (own := ["t", "h"]) (caps := ["heights"]) (ks := [2]) (i := 5) rfl rfl rfl ⟨rfl, by decide +kernel, by decide +kernel, by decide +kernel, by decide +kernel, rfl, by decide +kernel⟩ sc_rows_met.nd rfl (by first | exact Or.inl rfl | exact Or.inr rfl) ?h192 ?h193 ?h194 ?h195
       case h192 =>
        refine' ki_tup K rfl ?h196
        case h196 =>
         refine' qe_callS (ok_part_of T) (hr.mono (by decide)) rfl T.m_part_of T.F_part_of.kp T.b_part_of .nil pass0 ?h197
         case h197 =>
          refine' qa_c (qv 0) ?h198
          case h198 =>
           refine' qa_c (qv 3) ?h199
           case h199 =>
            exact qa_c (qv 4) qa_nil
       case h193 =>
        intro _ _ _ _ _
        refine' kg_tup (n := 2) K rfl rfl ?h200
        case h200 =>
         refine' qgs_cons (qg_name (i := 0) (show List.Nodup (α := Str) ["t", "h", "heights"] from by decide +kernel) rfl (by first | exact Or.inl rfl | exact Or.inr rfl) (.inr rfl)) ?h201
         case h201 =>
          exact qgs_cons (qg_name (i := 1) (show List.Nodup (α := Str) ["t", "h", "heights"] from by decide +kernel) rfl (by first | exact Or.inl rfl | exact Or.inr rfl) (.inr rfl)) qgs_nil
       case h194 =>
        intro _ _ _ _ _
        exact qifs_nil
       case h195 =>
        intro _ _ _ _ _
        refine' qe_callS (ok_row_of T) (hr.mono (by decide)) rfl T.m_row_of T.F_row_of.kp T.b_row_of .nil pass0 ?h202
        case h202 =>
         refine' qa_c (qv 1) ?h203
         case h203 =>
          refine' qa_c qe_int ?h204
          case h204 =>
           exact qa_c (qv 2) qa_nil
      case h191 =>
       refine' qss_cons ?h205 ?h206
       case h205 =>
        refine' qs_for PassesOwn.never rfl ?h207 ?h208 ?h209
        case h207 =>
         refine' ki_zip K rfl rfl T.z_zip ?h210
         case h210 =>
          refine' qa_c (qv 0) ?h211
          case h211 =>
           refine' qa_c ?h212 qa_nil
           case h212 =>
            refine' qe_slice (kl_tupU K rfl) (qv 0) ?h213 qo_none
            case h213 =>
             exact qo_some qe_int
        case h208 =>
         refine' kg_tup (n := 2) K rfl rfl ?h214
         case h214 =>
          refine' qgs_cons (qg_name (i := 6) sc_rows_met.nd rfl (by first | exact Or.inl rfl | exact Or.inr rfl)) ?h215
          case h215 =>
           exact qgs_cons (qg_name (i := 7) sc_rows_met.nd rfl (by first | exact Or.inl rfl | exact Or.inr rfl)) qgs_nil
        case h209 =>
         refine' qss_one ?h216
         case h216 =>
          refine' qs_if ?h217 ?h218 qss_nil
          case h217 =>
           refine' QW.pt ?h219
           case h219 =>
            refine' qw_and ?h220 ?h221
            case h220 =>
             refine' qt_cmpR (op_lt) ?h222 (qv 4) (nomark _)
             case h222 =>
              exact qe_ix (kx_tup K rfl) (qv 6) qe_int
            case h221 =>
             refine' qw_and1 ?h223
             case h223 =>
              refine' qt_cmpR (op_lt) (qv 3) ?h224 (nomark _)
              case h224 =>
               exact qe_ix (kx_tup K rfl) (qv 7) qe_int
          case h218 =>
           refine' qss_cons ?h225 ?h226
           case h225 =>
            refine' qs_exprS ?h227
            case h227 =>
             refine' qe_bm PySem.F.plainAttrs_list PySem.F.slot_list_append PySem.F.type_list_append mt_append (qv 5) ?h228
             case h228 =>
              refine' qa_c ?h229 qa_nil
              case h229 =>
               refine' qe_callS (ok_row_at T) hr rfl T.m_row_at T.F_row_at.kp T.b_row_at .nil pass0 ?h230
               case h230 =>
                refine' qa_c (qv 6) ?h231
                case h231 =>
                 refine' qa_c (qv 7) ?h232
                 case h232 =>
                  refine' qa_c ?h233 ?h234
                  case h233 =>
                   refine' qe_callBS (ca_max rfl) rfl T.z_max bt_max ?h235
                   case h235 =>
                    refine' qa_c (qv 3) ?h236
                    case h236 =>
                     refine' qa_c ?h237 qa_nil
                     case h237 =>
                      exact qe_ix (kx_tup K rfl) (qv 6) qe_int
                  case h234 =>
                   exact qa_c (qv 2) qa_nil
           case h226 =>
            refine' qss_one ?h238
            case h238 =>
             refine' qs_exprS ?h239
             case h239 =>
              refine' qe_bm PySem.F.plainAttrs_list PySem.F.slot_list_append PySem.F.type_list_append mt_append (qv 5) ?h240
              case h240 =>
               refine' qa_c ?h241 qa_nil
               case h241 =>
                refine' qe_callS (ok_row_at T) hr rfl T.m_row_at T.F_row_at.kp T.b_row_at .nil pass0 ?h242
                case h242 =>
                 refine' qa_c (qv 6) ?h243
                 case h243 =>
                  refine' qa_c (qv 7) ?h244
                  case h244 =>
                   refine' qa_c ?h245 ?h246
                   case h245 =>
                    refine' qe_callBS (ca_min rfl) rfl T.z_min bt_min ?h247
                    case h247 =>
                     refine' qa_c (qv 4) ?h248
                     case h248 =>
                      refine' qa_c ?h249 qa_nil
                      case h249 =>
                       exact qe_ix (kx_tup K rfl) (qv 7) qe_int
                   case h246 =>
                    exact qa_c (qv 2) qa_nil
       case h206 =>
        refine' qss_one ?h250
        case h250 =>
         exact qs_ret (qv 5)
    case rr =>
    simp only [L2.start, List.length_cons, List.length_nil, List.map_cons, List.map_nil, Nat.reduceAdd, Nat.reduceSub, List.replicate_succ, List.replicate_zero, List.cons_append, List.nil_append]
    repeat walk_at "rd"
    refine ⟨t, cv, x, z, rfl, hT, by omega, fun w1 H1 hw S1 => ?_⟩
    obtain ⟨us1, g1, pw⟩ := id hw
    have hcl : (inCol cv x z).length ≤ 100 := Nat.le_trans (List.length_filter_le _ _) hlen
    repeat walk_at "rd"
    intro l n1
    have nl : H l = none := S1.free n1
    refine comp_by (inCol cv x z).length (fun i σ' H' => (∃ o1 o2, σ' = [o1, o2, some (.ref p)]) ∧ Same H1 H' ∧ H' l = some (.lst (((((inCol cv x z).take i).map (fun q => (q.2, (1 : Int)))).map (fl low tall)).map V.int))) ?_ ?_ ?_
    · exact ⟨⟨none, none, rfl⟩, Same.new n1, upd_same⟩
    · rintro σ H2 ⟨_, S2, f2⟩
      refine ⟨⟨_, SqT.of (S2 _ _ g1), by rw [pw.length]; exact Nat.le_refl _⟩, ?_⟩
      rw [List.take_length] at f2
      have S02 := S1.trans S2
      repeat walk_at "rd"
      refine PrT.sl (hT.same S02) fun w3 H3 h3 S3 => ?_
      obtain ⟨us, gT, pT⟩ := hT.same (S02.trans S3)
      obtain ⟨us3, g3, p3⟩ := id h3
      have ec : cutP cv (some 1) none = cv.drop 1 := by
        unfold cutP
        rw [show HT.sIx cv.length 0 (some 1) = min 1 cv.length from HT.sIx_nat cv.length 0 1, show HT.sIx cv.length cv.length none = cv.length from rfl]
        by_cases hz : cv.length = 0
        · have : cv = [] := List.length_eq_zero_iff.mp hz
          subst this
          rfl
        · rw [show min 1 cv.length = 1 by omega]
          exact List.take_of_length_le (by simp)
      rw [ec] at p3
      repeat walk_at "rd"
      refine rd_zip (SqB.ofT gT) (SqB.ofT g3) ?_
      have f3 := S3 _ _ f2
      refine rd_forZ (xs := us) (ys := us3) (b1 := false) (b2 := false) (l1 := t) (l2 := w3) (cv.length - 1) (by rw [pT.length, p3.length, List.length_drop]; omega) (fun i σ H' => Kp l H3 H' ∧ (∃ v6 v7, σ = [some (.ref t), some (.ref u), some (.ref p), some (.int x), some (.int z), some (.ref l), v6, v7]) ∧ ∃ ns : List Int, H' l = some (.lst (ns.map V.int)) ∧
        ns = (((inCol cv x z).map (fun q => (q.2, (1 : Int)))) ++ ((cv.zip (cv.drop 1)).take i).flatMap (onePiece x z)).map (fl low tall) ∧ ns.length ≤ 100 + 2 * i) ?_ ?_ ?_ ?_
      · refine ⟨Kp.same (Same.refl _), ⟨_, _, rfl⟩, _, f3, ?_, ?_⟩
        · rw [List.take_zero, List.flatMap_nil, List.append_nil]
        · rw [List.length_map, List.length_map]; omega
      · rintro i σ H4 ⟨K4, _, _⟩
        exact ⟨SqB.ofT (kpTup K4 f3 gT), SqB.ofT (kpTup K4 f3 g3)⟩
      · rintro i σ H4 T H5 a b hi ⟨K4, ⟨v6, v7, rfl⟩, ns, f4, ens, hns⟩ ha hb nT fT S5
        obtain ⟨c1, q1, rfl, hq1, hc1⟩ := pT.at ha
        obtain ⟨c2, q2, rfl, hq2, hc2⟩ := p3.at hb
        have hlt := zip_steps hasc hq1 hq2
        have hz := zip_get hq1 hq2
        have K5 : Kp l H3 H5 := K4.then S5
        have f5 := S5 _ _ f4
        have g1' := kpTup K5 f3 hc1
        have g2' := kpTup K5 f3 hc2
        have hh5 : Hts H5 p low tall rows := ⟨kpTup K5 f3 ((hh.same (S02.trans S3)).1), hh.2⟩
        have hb1 := hbp q1 (List.mem_of_getElem? hq1)
        have hb2 := hbp q2 (List.mem_of_mem_drop (List.mem_of_getElem? hq2))
        have e3 : (cv.zip (cv.drop 1)).take (i + 1) = (cv.zip (cv.drop 1)).take i ++ [(q1, q2)] := by rw [List.take_succ, hz]; rfl
        have hnl : ∀ k : Nat, k ≤ 400 → k < sizeLine := fun k hk => Nat.lt_of_le_of_lt hk (by decide)
        have e4 : (((inCol cv x z).map (fun q => (q.2, (1 : Int)))) ++ ((cv.zip (cv.drop 1)).take (i + 1)).flatMap (onePiece x z)).map (fl low tall) = ns ++ (onePiece x z (q1, q2)).map (fl low tall) := by
          rw [ens, e3, List.flatMap_append, ← List.append_assoc, List.map_append]
          simp only [List.flatMap_cons, List.flatMap_nil, List.append_nil]
        repeat walk_at "rd"
        refine iteD (fun h1 => ?_) (fun h1 => ?_)
        · repeat walk_at "rd"
          refine iteD (fun h2 => ?_) (fun h2 => ?_)
          · have e5 : (onePiece x z (q1, q2)).map (fl low tall) = [fl low tall (frP q1 q2 (mx x q1.1)), fl low tall (frP q1 q2 (mn z q2.1))] := by
              unfold onePiece
              rw [if_pos ⟨h1, h2⟩]
              rfl
            repeat walk_at "rd"
            refine ⟨tyL f5, ?_⟩
            repeat walk_at "rd"
            refine ⟨c1, c2, q1, q2, _, p, low, tall, rows, rfl, g1', g2', hh5, hlt, hb1.1, hb1.2, hb2.1, hb2.2, bn_mx bx hb1.1, ?_⟩
            repeat walk_at "rd"
            refine rd_append f5 (by rw [List.length_map]; exact hnl _ (by omega)) fun H6 f6 K6 => ?_
            have g1'' := kpTup K6 f5 g1'
            have g2'' := kpTup K6 f5 g2'
            repeat walk_at "rd"
            refine ⟨tyL f6, ?_⟩
            repeat walk_at "rd"
            refine ⟨c1, c2, q1, q2, _, p, low, tall, rows, rfl, g1'', g2'', ⟨kpTup K6 f5 hh5.1, hh5.2⟩, hlt, hb1.1, hb1.2, hb2.1, hb2.2, bn_mn bz hb2.1, ?_⟩
            repeat walk_at "rd"
            refine rd_append f6 (by rw [List.length_append, List.length_map]; exact hnl _ (by simp only [List.length_cons, List.length_nil]; omega)) fun H7 f7 K7 => ?_
            repeat walk_at "rd"
            refine ⟨(K5.trans K6).trans K7, ⟨_, _, rfl⟩, ns ++ [fl low tall (frP q1 q2 (mx x q1.1)), fl low tall (frP q1 q2 (mn z q2.1))], ?_, ?_, ?_⟩
            · rw [f7, List.map_append, List.append_assoc]
              rfl
            · rw [e4, e5]
            · rw [List.length_append]
              show ns.length + 2 ≤ _
              omega
          · have e5 : (onePiece x z (q1, q2)).map (fl low tall) = [] := by
              unfold onePiece
              rw [if_neg (fun g => h2 g.2)]
              rfl
            repeat walk_at "rd"
            exact ⟨K5, ⟨_, _, rfl⟩, ns, f5, by rw [e4, e5, List.append_nil], by omega⟩
        · have e5 : (onePiece x z (q1, q2)).map (fl low tall) = [] := by
            unfold onePiece
            rw [if_neg (fun g => h1 g.1)]
            rfl
          repeat walk_at "rd"
          refine iteF ?_
          repeat walk_at "rd"
          exact ⟨K5, ⟨_, _, rfl⟩, ns, f5, by rw [e4, e5, List.append_nil], by omega⟩
      · rintro σ H4 ⟨K4, ⟨v6, v7, rfl⟩, ns, f4, ens, hns⟩
        repeat walk_at "rd"
        refine k l H4 nl ?_ ((S02.trans S3).kpN nl K4)
        rw [f4, ens, List.take_of_length_le (by rw [List.length_zip, List.length_drop]; omega)]
        rfl
    · rintro i σ H2 hi ⟨⟨o1, o2, rfl⟩, S2, f2⟩
      have hi2 : i < us1.length := by rw [pw.length]; exact hi
      refine ⟨⟨_, _, SqT.of (S2 _ _ g1), List.getElem?_eq_getElem hi2⟩, ?_⟩
      rintro v H'' ⟨rfl, hv⟩
      have hv := hv _ (SqT.of (S2 _ _ g1))
      obtain ⟨c, q, rfl, hq, hc⟩ := (pw.same S2).at hv
      have e3 : (inCol cv x z).take (i + 1) = (inCol cv x z).take i ++ [q] := by rw [List.take_succ, hq]; rfl
      repeat walk_at "rd"
      refine iteT ?_
      repeat walk_at "rd"
      refine ⟨_, _, p, low, tall, rows, rfl, hh.same (S1.trans S2), by decide, by unfold Bn; decide, ?_⟩
      refine ⟨_, f2, ?_, ⟨_, _, rfl⟩, S2.kpN n1 Kp.upd, ?_⟩
      · rw [List.length_map, List.length_map, List.length_map, List.length_take]
        exact Nat.lt_of_le_of_lt (Nat.le_trans (Nat.min_le_right _ _) hcl) (by decide)
      · rw [upd_same, e3, List.map_append, List.map_append, List.map_append]
        rfl
def spCol (K : PySem.W.Frag) : Sp := fun vs H Q _ => ∃ (t u p : Addr) (cv : List (Int × Int)) (x z low tall rows : Int), vs = [.ref t, .ref u, .ref p] ∧ PrT H t cv ∧ H u = some (.tup [.int x, .int z]) ∧ Hts H p low tall rows ∧ Asc cv ∧ BP cv ∧ cv.length ≤ 100 ∧ Bn 200 x ∧ Bn 200 z ∧
  ∀ (v : V) (o : Option (Int × Int)) (H' : Hp), DotIs H' v o → IsDot ((metF cv x z).map (fl low tall)) rows o → Same H H' → Q v H'
theorem sc_column_dots : FnScope ["samples", "times", "heights", "met", "least", "greatest"] ["samples", "times", "heights"] (defScope s_column_dots) := ⟨rfl, rfl, rfl, by decide +kernel, rfl, by decide +kernel, by decide +kernel⟩
theorem ok_column_dots (T : Txt K mg a) : FnOk P w K mg base CX0 4 a.f_column_dots a.d_column_dots ["samples", "times", "heights"] (spCol K) := by
  refine T.F_column_dots.ok sc_column_dots (fun vs H Q E h => ?_) (fun cdv A outer s H vs Q E hr h => ?_)
  · obtain ⟨t, u, p, cv, x, z, low, tall, rows, rfl, _⟩ := h
    rfl
  · obtain ⟨t, u, p, cv, x, z, low, tall, rows, rfl, hT, hu, hh, hasc, hbp, hlen, bx, bz, k⟩ := h
    refine' ⟨_, QB.h ?pp, ?rr⟩
    case pp =>
     refine' qss_cons ?h251 ?h252
     case h251 =>
      refine' qs_setS (i := 3) sc_column_dots.nd rfl (by first | exact Or.inl rfl | exact Or.inr rfl) ?h253
      case h253 =>
       refine' qe_callS (ok_rows_met T) hr rfl T.m_rows_met T.F_rows_met.kp T.b_rows_met .nil pass0 ?h254
       case h254 =>
        refine' qa_c (qv 0) ?h255
        case h255 =>
         refine' qa_c (qv 1) ?h256
         case h256 =>
          exact qa_c (qv 2) qa_nil
     case h252 =>
      refine' qss_cons ?h257 ?h258
      case h257 =>
       refine' qs_if ?h259 ?h260 qss_nil
       case h259 =>
        refine' qt_cmpR (op_eq) ?h261 qe_int (nomark _)
        case h261 =>
         refine' qe_callBS (kc_len K rfl) rfl T.z_len bt_len ?h262
         case h262 =>
          exact qa_c (qv 3) qa_nil
       case h260 =>
        refine' qss_one ?h263
        case h263 =>
         exact qs_ret qe_non
      case h258 =>
       refine' qss_cons ?h264 ?h265
       case h264 =>
        refine' qs_setS (i := 4) sc_column_dots.nd rfl (by first | exact Or.inl rfl | exact Or.inr rfl) ?h266
        case h266 =>
         refine' qe_callBS (ca_max rfl) rfl T.z_max bt_max ?h267
         case h267 =>
          refine' qa_c ?h268 ?h269
          case h268 =>
           refine' qe_callBS (kc_minL K rfl rfl) rfl T.z_min bt_min ?h270
           case h270 =>
            exact qa_c (qv 3) qa_nil
          case h269 =>
           exact qa_c qe_int qa_nil
       case h265 =>
        refine' qss_cons ?h271 ?h272
        case h271 =>
         refine' qs_setS (i := 5) sc_column_dots.nd rfl (by first | exact Or.inl rfl | exact Or.inr rfl) ?h273
         case h273 =>
          refine' qe_callBS (ca_min rfl) rfl T.z_min bt_min ?h274
          case h274 =>
           refine' qa_c ?h275 ?h276
           case h275 =>
            refine' qe_callBS (kc_maxL K rfl rfl) rfl T.z_max bt_max ?h277
            case h277 =>
             exact qa_c (qv 3) qa_nil
           case h276 =>
            refine' qa_c ?h278 qa_nil
            case h278 =>
             refine' qe_op op_sub ?h279 qe_int
             case h279 =>
              exact qe_ix (kx_tup K rfl) (qv 2) qe_int
        case h272 =>
         refine' qss_one ?h280
         case h280 =>
          refine' qs_ret ?h281
          case h281 =>
           refine' qe_ifExp ?h282 ?h283 qe_non
           case h282 =>
            exact qt_cmpR (op_le) (qv 4) (qv 5) (nomark _)
           case h283 =>
            refine' qe_tup ?h284
            case h284 =>
             refine' qa_c (qv 4) ?h285
             case h285 =>
              exact qa_c (qv 5) qa_nil
    case rr =>
    simp only [L2.start, List.length_cons, List.length_nil, List.map_cons, List.map_nil, Nat.reduceAdd, Nat.reduceSub, List.replicate_succ, List.replicate_zero, List.cons_append, List.nil_append]
    repeat walk_at "rd"
    refine ⟨t, u, p, cv, x, z, low, tall, rows, rfl, hT, hu, hh, hasc, hbp, hlen, bx, bz, fun l H1 n1 f1 S1 => ?_⟩
    have g1 := (hh.same S1).1
    generalize hfs : (metF cv x z).map (fl low tall) = fs at f1 k
    repeat walk_at "rd"
    refine iteD (fun h => ?_) (fun h => ?_)
    · repeat walk_at "rd"
      have : fs = [] := List.length_eq_zero_iff.mp (by have h := V.int.inj h; rw [List.length_map] at h; omega)
      exact k _ _ H1 .non (.inl ⟨this, rfl⟩) S1
    · have hne : fs ≠ [] := fun z => h (by rw [z]; rfl)
      repeat walk_at "rd"
      refine rd_minL (SqL.of f1) hne fun m hm1 hm2 => ?_
      repeat walk_at "rd"
      refine rd_maxL (SqL.of f1) hne fun M hM1 hM2 => ?_
      repeat walk_at "rd"
      have e1 : (if (0 : Int) > m then 0 else m) = max m 0 := by split <;> omega
      have e2 : (if rows - 1 < M then rows - 1 else M) = min M (rows - 1) := by split <;> omega
      rw [e1, e2]
      refine iteD (fun h2 => ?_) (fun h2 => ?_)
      · repeat walk_at "rd"
        refine rd_new (by show 2 ≤ sizeLine; decide) fun c H2 n2 f2 S2 => ?_
        refine k _ (some (max m 0, min M (rows - 1))) H2 (.pr f2) (.inr ⟨m, M, hm1, hm2, hM1, hM2, ?_⟩) (S1.trans S2)
        rw [if_pos h2]
      · repeat walk_at "rd"
        refine k _ none H1 .non (.inr ⟨m, M, hm1, hm2, hM1, hM2, ?_⟩) S1
        rw [if_neg h2]
def Win (H : Hp) (q : Addr) (b y m : Int) : Prop := H q = some (.tup [.int b, .int y, .int m]) ∧ Bn 190 b ∧ 0 < y ∧ Bn 150 y ∧ 1 ≤ m ∧ m ≤ 100
theorem Win.same {H H' : Hp} {q : Addr} {b y m : Int} (h : Win H q b y m) (s : Same H H') : Win H' q b y m := ⟨s _ _ h.1, h.2⟩
theorem bn_of7 {k : Int} (h0 : 0 ≤ k) (h1 : k ≤ 100) : Bn 7 k := by unfold Bn; omega
theorem bn_col {b y k : Int} (h1 : Bn 190 b) (h2 : Bn 150 y) (h0 : 0 ≤ k) (h3 : k ≤ 100) : Bn 191 (b + k * y) := h1.add (((bn_of7 h0 h3).mul h2).mono (by decide))
/-- the dots of all columns -/
def DotsOk (cv : List (Int × Int)) (b y m low tall rows : Int) (os : List (Option (Int × Int))) : Prop := os.length = m.toNat ∧ ∀ (k : Nat) o, os[k]? = some o → IsDot ((metF (inCol cv b (b + m * y)) (b + (k : Int) * y) (b + (k : Int) * y + y)).map (fl low tall)) rows o
theorem DotsOk.unique {cv : List (Int × Int)} {b y m low tall rows : Int} {os os' : List (Option (Int × Int))} (h : DotsOk cv b y m low tall rows os) (g : DotsOk cv b y m low tall rows os') : os = os' := by
  refine List.ext_getElem? fun i => ?_
  by_cases hi : i < os.length
  · have hj : i < os'.length := by rw [g.1, ← h.1]; exact hi
    rw [List.getElem?_eq_getElem hi, List.getElem?_eq_getElem hj]
    rw [(h.2 i _ (List.getElem?_eq_getElem hi)).unique (g.2 i _ (List.getElem?_eq_getElem hj))]
  · rw [List.getElem?_eq_none (by omega), List.getElem?_eq_none (by rw [g.1, ← h.1]; omega)]
theorem Asc.inCol {cv : List (Int × Int)} {b e : Int} (h : Asc cv) : Asc (inCol cv b e) := List.Pairwise.filter _ h
theorem BP.inCol {cv : List (Int × Int)} {b e : Int} (h : BP cv) : BP (inCol cv b e) := fun p hp => h p (inCol_mem hp)
def spDots (K : PySem.W.Frag) : Sp := fun vs H Q _ => ∃ (t q p : Addr) (cv : List (Int × Int)) (b y m low tall rows : Int), vs = [.ref t, .ref q, .ref p] ∧ PrT H t cv ∧ Win H q b y m ∧ Hts H p low tall rows ∧ Asc cv ∧ BP cv ∧ cv.length ≤ 100 ∧
  ∀ (u : Addr) (vs : List V) (os : List (Option (Int × Int))) (H' : Hp), H' u = some (.tup vs) → Dots H' vs os → DotsOk cv b y m low tall rows os → Same H H' → Q (.ref u) H'
theorem sc_dots_of : FnScope ["curve", "window", "heights", "begin", "wide", "many", "counting"] ["curve", "window", "heights"] (defScope s_dots_of) := ⟨rfl, rfl, rfl, by decide +kernel, rfl, by decide +kernel, by decide +kernel⟩
theorem ok_dots_of (T : Txt K mg a) : FnOk P w K mg base CX0 5 a.f_dots_of a.d_dots_of ["curve", "window", "heights"] (spDots K) := by
  refine T.F_dots_of.ok sc_dots_of (fun vs H Q E h => ?_) (fun cdv A outer s H vs Q E hr h => ?_)
  · obtain ⟨t, q, p, cv, b, y, m, low, tall, rows, rfl, _⟩ := h
    rfl
  · obtain ⟨t, q, p, cv, b, y, m, low, tall, rows, rfl, hT, ⟨hq, hb, hy, hby, hm1, hm2⟩, hh, hasc, hbp, hlen, k⟩ := h
    refine' ⟨_, QB.h ?pp, ?rr⟩
    case pp =>
     refine' qss_cons ?h286 ?h287
     case h286 =>
      refine' qs_asg (qv 1) ?h288
      case h288 =>
       refine' kg_tup (n := 3) K rfl rfl ?h289
       case h289 =>
        refine' qgs_cons (qg_name (i := 3) sc_dots_of.nd rfl (by first | exact Or.inl rfl | exact Or.inr rfl)) ?h290
        case h290 =>
         refine' qgs_cons (qg_name (i := 4) sc_dots_of.nd rfl (by first | exact Or.inl rfl | exact Or.inr rfl)) ?h291
         case h291 =>
          exact qgs_cons (qg_name (i := 5) sc_dots_of.nd rfl (by first | exact Or.inl rfl | exact Or.inr rfl)) qgs_nil
     case h287 =>
      refine' qss_cons ?h292 ?h293
      case h292 =>
       refine' qs_setS (i := 6) sc_dots_of.nd rfl (by first | exact Or.inl rfl | exact Or.inr rfl) ?h294
       case h294 =>
        refine' qe_callS (ok_part_of T) (hr.mono (by decide)) rfl T.m_part_of T.F_part_of.kp T.b_part_of .nil pass0 ?h295
        case h295 =>
         refine' qa_c (qv 0) ?h296
         case h296 =>
          refine' qa_c (qv 3) ?h297
          case h297 =>
           refine' qa_c ?h298 qa_nil
           case h298 =>
            refine' qe_op op_add (qv 3) ?h299
            case h299 =>
             exact qe_op op_mulG (qv 5) (qv 4)
      case h293 =>
       refine' qss_one ?h300
       case h300 =>
        refine' qs_ret ?h301
        case h301 =>
         refine' qe_callTyS (kc_tuple K rfl) rfl T.z_tuple bt_tuple ?h302
         case h302 =>
          refine' qa_c ?h303 qa_nil
          case h303 =>
           refine' qe_comp (N := ["curve", "window", "heights", "begin", "wide", "many", "counting"]) (sc := defScope s_dots_of) (own := ["times"]) (caps := ["counting", "heights"]) (ks := [6, 2]) rfl rfl rfl ⟨rfl, by decide +kernel, by decide +kernel, by decide +kernel, by decide +kernel, rfl, by decide +kernel⟩ ?h304 ?h305 ?h306 ?h307
           case h304 =>
            refine' ki_list K rfl ?h308
            case h308 =>
             refine' qe_callS (ok_columns_of T) (hr.mono (by decide)) rfl T.m_columns_of T.F_columns_of.kp T.b_columns_of .nil pass0 ?h309
             case h309 =>
              exact qa_c (qv 1) qa_nil
           case h305 =>
            intro _ _ _ _ _
            exact qg_name (i := 0) (show List.Nodup (α := Str) ["times", "counting", "heights"] from by decide +kernel) rfl (by first | exact Or.inl rfl | exact Or.inr rfl) (.inr rfl)
           case h306 =>
            intro _ _ _ _ _
            exact qifs_nil
           case h307 =>
            intro _ _ _ _ _
            refine' qe_callS (ok_column_dots T) hr rfl T.m_column_dots T.F_column_dots.kp T.b_column_dots .nil pass0 ?h310
            case h310 =>
             refine' qa_c (qv 1) ?h311
             case h311 =>
              refine' qa_c (qv 0) ?h312
              case h312 =>
               exact qa_c (qv 2) qa_nil
    case rr =>
    simp only [L2.start, List.length_cons, List.length_nil, List.map_cons, List.map_nil, Nat.reduceAdd, Nat.reduceSub, List.replicate_succ, List.replicate_zero, List.cons_append, List.nil_append]
    repeat walk_at "rd"
    refine ⟨t, cv, _, _, rfl, hT, by omega, fun w1 H1 hw S1 => ?_⟩
    repeat walk_at "rd"
    refine ⟨q, b, y, m, rfl, S1 _ _ hq, by omega, by omega, fun l0 us0 H1' n1' f1' hP' S1' => ?_⟩
    have S01 := S1.trans S1'
    repeat walk_at "rd"
    intro l n1
    have nl : H l = none := S01.free n1
    refine comp_by m.toNat (fun i σ' H' => (∃ o, σ' = [o, some (.ref w1), some (.ref p)]) ∧ Same H1' H' ∧ ∃ vs os, H' l = some (.lst vs) ∧ Dots H' vs os ∧ os.length = i ∧ ∀ (k : Nat) o, os[k]? = some o → IsDot ((metF (inCol cv b (b + m * y)) (b + (k : Int) * y) (b + (k : Int) * y + y)).map (fl low tall)) rows o) ?_ ?_ ?_
    · exact ⟨⟨none, rfl⟩, Same.new n1, [], [], upd_same, .nil, rfl, fun k o h => by simp at h⟩
    · rintro σ H2 ⟨_, S2, vs, os, f2, hD, ho, hI⟩
      refine ⟨⟨_, SqL.of (S2 _ _ f1'), by rw [hP'.length, colsL_len]; exact Nat.le_refl _⟩, ?_⟩
      repeat walk_at "rd"
      refine rd_tupL (SqL.of f2) fun u H4 n4 f4 S4 => ?_
      exact k u vs os H4 f4 (hD.same S4) ⟨ho, hI⟩ (S01.trans (S2.trans S4))
    · rintro i σ H2 hi ⟨⟨o, rfl⟩, S2, vs, os, f2, hD, ho, hI⟩
      have hi2 : i < us0.length := by rw [hP'.length, colsL_len]; exact hi
      refine ⟨⟨_, _, SqL.of (S2 _ _ f1'), List.getElem?_eq_getElem hi2⟩, ?_⟩
      rintro x H'' ⟨rfl, hx⟩
      have hx := hx _ (SqL.of (S2 _ _ f1'))
      obtain ⟨u, pr, rfl, hpr, f3⟩ := (hP'.same S2).at hx
      have hpr := colsL_at hpr
      subst hpr
      have S02 := S01.trans S2
      repeat walk_at "rd"
      refine iteT ?_
      repeat walk_at "rd"
      have hbx := bn_col hb hby (k := (i : Int)) (by omega) (by omega)
      refine ⟨w1, u, p, _, _, _, low, tall, rows, rfl, hw.same (S1'.trans S2), f3, hh.same S02, Asc.inCol hasc, BP.inCol hbp, Nat.le_trans (List.length_filter_le _ _) hlen, hbx.mono (by decide), (hbx.add (hby.mono (by decide))).mono (by decide), fun v o2 H5 hd5 hI5 S25 => ?_⟩
      have f5 := S25 _ _ f2
      refine ⟨vs, f5, ?_, ⟨_, rfl⟩, (S2.trans S25).kpN n1 Kp.upd, vs ++ [v], os ++ [o2], upd_same, ?_, by simp [ho], ?_⟩
      · rw [hD.len, ho]
        exact Nat.lt_of_lt_of_le hi (Nat.le_trans (show m.toNat ≤ 1000 by omega) (by decide))
      · exact ((hD.same S25).snoc hd5).mapP fun _ _ d => d.kpL Kp.upd f5
      · intro k' o' h'
        rw [List.getElem?_append] at h'
        split at h'
        · exact hI k' o' h'
        · have : k' = i := by
            have := (List.getElem?_eq_some_iff.mp h').1
            simp at this
            omega
          subst this
          rw [ho, Nat.sub_self] at h'
          have : o2 = o' := by simpa using h'
          subst this
          exact hI5
end
section
variable {P : Program} {w : World} {K : PySem.W.Frag} {mg : Str → Option Value} {base : Heap} {a : Ad}
theorem rd_ixAny {H : Hp} {Q : VK} {l : Addr} {ns : List Int} {d : Int} (h : H l = some (.lst (ns.map V.int))) (h0 : 0 ≤ d) (h1 : d < (ns.length : Int)) (q : ∀ n ∈ ns, Q (.int n) H) : rIxL K (.ref l) (.int d) H Q := by
  obtain ⟨n, rfl⟩ : ∃ n : Nat, d = (n : Int) := ⟨d.toNat, by omega⟩
  have hn : n < ns.length := by omega
  refine rd_ixL (v := .int ns[n]) (SqL.of h) (atI_nat ?_) (q _ (List.getElem_mem hn))
  rw [List.getElem?_map, List.getElem?_eq_getElem hn]
  rfl
def spFar : Sp := fun vs H Q _ => ∃ p, vs = [.ref p] ∧ Pur H p ∧ ∀ (x : Int) (H' : Hp), -(10 ^ 50) < x → x < 10 ^ 50 → Pur H' p → Kp p H H' → Q (.int x) H'
theorem sc_l_far : FnScope ["_law_purse_here"] ["_law_purse_here"] (defScope s_l_far) := ⟨rfl, rfl, rfl, by decide +kernel, rfl, by decide +kernel, by decide +kernel⟩
theorem ok_l_far (T : Txt K mg a) : FnOk P w K mg base CX0 2 a.f_l_far a.d_l_far ["_law_purse_here"] spFar := by
  refine T.F_l_far.ok sc_l_far (fun vs H Q E h => ?_) (fun cdv A outer s H vs Q E hr h => ?_)
  · obtain ⟨p, rfl, _⟩ := h
    rfl
  · obtain ⟨p, rfl, hp, k⟩ := h
    refine' ⟨_, QB.h ?pp, ?rr⟩
    case pp =>
     refine' qss_cons ?h313 ?h314
     case h313 =>
      refine' qs_if ?h315 ?h316 qss_nil
      case h315 =>
       refine' qt_cmpR (op_lt) ?h317 qe_int (nomark _)
       case h317 =>
        refine' qe_callS (ok_l_draw T) hr rfl T.m_l_draw T.F_l_draw.kp T.b_l_draw .nil pass0 ?h318
        case h318 =>
         refine' qa_c (qv 0) ?h319
         case h319 =>
          exact qa_c qe_int qa_nil
      case h316 =>
       refine' qss_one ?h320
       case h320 =>
        exact qs_ret qe_int
     case h314 =>
      refine' qss_one ?h321
      case h321 =>
       refine' qs_ret ?h322
       case h322 =>
        refine' qe_op op_mulG ?h323 ?h324
        case h323 =>
         refine' qe_callS (ok_l_draw T) hr rfl T.m_l_draw T.F_l_draw.kp T.b_l_draw .nil pass0 ?h325
         case h325 =>
          refine' qa_c (qv 0) ?h326
          case h326 =>
           refine' qa_c ?h327 qa_nil
           case h327 =>
            exact qe_op op_pow qe_int qe_int
        case h324 =>
         refine' qe_op op_sub qe_int ?h328
         case h328 =>
          refine' qe_op op_mulG qe_int ?h329
          case h329 =>
           refine' qe_callS (ok_l_draw T) hr rfl T.m_l_draw T.F_l_draw.kp T.b_l_draw .nil pass0 ?h330
           case h330 =>
            refine' qa_c (qv 0) ?h331
            case h331 =>
             exact qa_c qe_int qa_nil
    case rr =>
    simp only [L2.start, List.length_cons, List.length_nil, List.map_cons, List.map_nil, Nat.reduceAdd, Nat.reduceSub, List.replicate_succ, List.replicate_zero, List.cons_append, List.nil_append]
    repeat walk_at "rd"
    refine ⟨p, _, rfl, hp, by decide, by decide, fun d1 H1 h1 h1' P1 K1 => ?_⟩
    repeat walk_at "rd"
    refine iteD (fun _ => ?_) (fun _ => ?_)
    · repeat walk_at "rd"
      exact k _ H1 (by decide) (by decide) P1 K1
    repeat walk_at "rd"
    refine ⟨p, _, rfl, P1, by decide, by decide, fun d2 H2 h2 h2' P2 K2 => ?_⟩
    repeat walk_at "rd"
    refine ⟨p, _, rfl, P2, by decide, by decide, fun d3 H3 h3 h3' P3 K3 => ?_⟩
    repeat walk_at "rd"
    have : d3 = 0 ∨ d3 = 1 := by omega
    refine k _ H3 ?_ ?_ P3 ((K1.trans K2).trans K3)
    · rcases this with rfl | rfl <;> omega
    · rcases this with rfl | rfl <;> omega
def spWinL : Sp := fun vs H Q _ => ∃ p, vs = [.ref p] ∧ Pur H p ∧ ∀ (t : Addr) (b y m : Int) (H' : Hp), H t = none → H' t = some (.tup [.int b, .int y, .int m]) → -(10 ^ 50) - 10 < b → b < 10 ^ 50 + 10 → 0 < y → y ≤ 10 ^ 30 → 1 ≤ m → m ≤ 8 → Pur H' p → Kp p H H' → Q (.ref t) H'
theorem sc_l_window : FnScope ["_law_purse_here", "_law_begin", "_law_wide"] ["_law_purse_here"] (defScope s_l_window) := ⟨rfl, rfl, rfl, by decide +kernel, rfl, by decide +kernel, by decide +kernel⟩
theorem ok_l_window (T : Txt K mg a) : FnOk P w K mg base CX0 3 a.f_l_window a.d_l_window ["_law_purse_here"] spWinL := by
  refine T.F_l_window.ok sc_l_window (fun vs H Q E h => ?_) (fun cdv A outer s H vs Q E hr h => ?_)
  · obtain ⟨p, rfl, _⟩ := h
    rfl
  · obtain ⟨p, rfl, hp, k⟩ := h
    refine' ⟨_, QB.h ?pp, ?rr⟩
    case pp =>
     refine' qss_cons ?h332 ?h333
     case h332 =>
      refine' qs_setS (i := 1) sc_l_window.nd rfl (by first | exact Or.inl rfl | exact Or.inr rfl) ?h334
      case h334 =>
       refine' qe_op op_sub ?h335 qe_int
       case h335 =>
        refine' qe_op op_add ?h336 ?h337
        case h336 =>
         refine' qe_callS (ok_l_far T) hr rfl T.m_l_far T.F_l_far.kp T.b_l_far .nil pass0 ?h338
         case h338 =>
          exact qa_c (qv 0) qa_nil
        case h337 =>
         refine' qe_callS (ok_l_draw T) (hr.mono (by decide)) rfl T.m_l_draw T.F_l_draw.kp T.b_l_draw .nil pass0 ?h339
         case h339 =>
          refine' qa_c (qv 0) ?h340
          case h340 =>
           exact qa_c qe_int qa_nil
     case h333 =>
      refine' qss_cons ?h341 ?h342
      case h341 =>
       refine' qs_setS (i := 2) sc_l_window.nd rfl (by first | exact Or.inl rfl | exact Or.inr rfl) ?h343
       case h343 =>
        refine' qe_op op_add qe_int ?h344
        case h344 =>
         refine' qe_callS (ok_l_draw T) (hr.mono (by decide)) rfl T.m_l_draw T.F_l_draw.kp T.b_l_draw .nil pass0 ?h345
         case h345 =>
          refine' qa_c (qv 0) ?h346
          case h346 =>
           refine' qa_c ?h347 qa_nil
           case h347 =>
            refine' qe_ix (kx_list K rfl) ?h348 ?h349
            case h348 =>
             refine' qe_lst ?h350
             case h350 =>
              refine' qa_c qe_int ?h351
              case h351 =>
               refine' qa_c qe_int ?h352
               case h352 =>
                refine' qa_c qe_int ?h353
                case h353 =>
                 refine' qa_c qe_int ?h354
                 case h354 =>
                  refine' qa_c qe_int ?h355
                  case h355 =>
                   refine' qa_c ?h356 qa_nil
                   case h356 =>
                    exact qe_op op_pow qe_int qe_int
            case h349 =>
             refine' qe_callS (ok_l_draw T) (hr.mono (by decide)) rfl T.m_l_draw T.F_l_draw.kp T.b_l_draw .nil pass0 ?h357
             case h357 =>
              refine' qa_c (qv 0) ?h358
              case h358 =>
               exact qa_c qe_int qa_nil
      case h342 =>
       refine' qss_one ?h359
       case h359 =>
        refine' qs_ret ?h360
        case h360 =>
         refine' qe_tup ?h361
         case h361 =>
          refine' qa_c (qv 1) ?h362
          case h362 =>
           refine' qa_c (qv 2) ?h363
           case h363 =>
            refine' qa_c ?h364 qa_nil
            case h364 =>
             refine' qe_op op_add qe_int ?h365
             case h365 =>
              refine' qe_callS (ok_l_draw T) (hr.mono (by decide)) rfl T.m_l_draw T.F_l_draw.kp T.b_l_draw .nil pass0 ?h366
              case h366 =>
               refine' qa_c (qv 0) ?h367
               case h367 =>
                exact qa_c qe_int qa_nil
    case rr =>
    simp only [L2.start, List.length_cons, List.length_nil, List.map_cons, List.map_nil, Nat.reduceAdd, Nat.reduceSub, List.replicate_succ, List.replicate_zero, List.cons_append, List.nil_append]
    repeat walk_at "rd"
    refine ⟨p, rfl, hp, fun x H1 h1 h1' P1 K1 => ?_⟩
    repeat walk_at "rd"
    refine ⟨p, _, rfl, P1, by decide, by decide, fun d2 H2 h2 h2' P2 K2 => ?_⟩
    repeat walk_at "rd"
    refine rd_new (by show 6 ≤ sizeLine; decide) fun l H3 n3 f3 S3 => ?_
    have hne := P2.neN n3
    repeat walk_at "rd"
    refine ⟨p, _, rfl, P2.same S3, by decide, by decide, fun d4 H4 h4 h4' P4 K4 => ?_⟩
    repeat walk_at "rd"
    refine rd_ixAny (ns := [_, _, _, _, _, _]) (K4 _ _ f3 hne) h4 (by simpa using h4') fun n hn => ?_
    have hn2 : 0 < n ∧ n ≤ 10 ^ 30 := by
      simp only [List.mem_cons, List.not_mem_nil, or_false] at hn
      rcases hn with rfl | rfl | rfl | rfl | rfl | rfl <;> decide
    repeat walk_at "rd"
    refine ⟨p, n, rfl, P4, hn2.1, Int.lt_of_le_of_lt hn2.2 (by decide), fun d5 H5 h5 h5' P5 K5 => ?_⟩
    repeat walk_at "rd"
    refine ⟨p, _, rfl, P5, by decide, by decide, fun d6 H6 h6 h6' P6 K6 => ?_⟩
    repeat walk_at "rd"
    have KA := ((((K1.trans K2).then S3).trans K4).trans K5).trans K6
    refine rd_new (by show 3 ≤ sizeLine; decide) fun t H7 n7 f7 S7 => ?_
    exact k t _ _ _ H7 (Pur.free KA P6 n7) f7 (by omega) (by omega) (by omega) (by omega) (by omega) (by omega) (P6.same S7) (KA.then S7)
theorem putI_all {m : List (Int × Int)} {t h : Int} (R : Int × Int → Prop) (hm : ∀ q ∈ m, R q) (hn : R (t, h)) : ∀ q ∈ putI m t h, R q := by
  intro q hq
  unfold putI at hq
  split at hq
  · obtain ⟨kv, h1, rfl⟩ := List.mem_map.mp hq
    split
    · rename_i e
      rw [e]
      exact hn
    · exact hm _ h1
  · rcases List.mem_append.mp hq with h1 | h1
    · exact hm _ h1
    · simp only [List.mem_cons, List.not_mem_nil, or_false] at h1
      rw [h1]
      exact hn
theorem bn_far {x d s : Int} (h1 : -(10 ^ 50) < x) (h2 : x < 10 ^ 50) (h3 : Bn 6 d) (h4 : 0 < s ∧ s ≤ 10 ^ 20) : Bn 180 (x + d * s) := by
  have hx : Bn 170 x := Bn.of (Int.lt_of_le_of_lt (by decide) h1) (Int.lt_of_lt_of_le h2 (by decide))
  have hs : Bn 70 s := Bn.of (Int.lt_of_lt_of_le (by decide) (Int.le_of_lt h4.1)) (Int.lt_of_le_of_lt h4.2 (by decide))
  exact (hx.add ((h3.mul hs).mono (by decide))).mono (by decide)
theorem mem_scale {n : Int} (hn : n ∈ ([1, 1, 7, 100000000000000000000] : List Int)) : 0 < n ∧ n ≤ 10 ^ 20 := by
  simp only [List.mem_cons, List.not_mem_nil, or_false] at hn
  rcases hn with rfl | rfl | rfl | rfl <;> decide
theorem bn6 {d : Int} (h1 : -60 < d) (h2 : d < 60) : Bn 6 d := by unfold Bn; omega
def spCurveL (K : PySem.W.Frag) : Sp := fun vs H Q _ => ∃ (p q : Addr) (b y m x : Int), vs = [.ref p, .ref q, .int x] ∧ Pur H p ∧ H q = some (.tup [.int b, .int y, .int m]) ∧ -(10 ^ 50) - 10 < b ∧ b < 10 ^ 50 + 10 ∧ 0 < y ∧ y ≤ 10 ^ 30 ∧ 1 ≤ m ∧ m ≤ 8 ∧ -(10 ^ 50) < x ∧ x < 10 ^ 50 ∧
  ∀ (t : Addr) (cv : List (Int × Int)) (H' : Hp), PrT H' t cv → Asc cv → BP cv → cv.length ≤ 14 → Pur H' p → Kp p H H' → Q (.ref t) H'
theorem sc_l_curve : FnScope ["_law_purse_here", "_law_window_here", "_law_far_here", "_law_begin", "_law_wide", "_law_many", "_law_scale", "_law_heights_here", "_law_k", "_law_time"] ["_law_purse_here", "_law_window_here", "_law_far_here"] (defScope s_l_curve) := ⟨rfl, rfl, rfl, by decide +kernel, rfl, by decide +kernel, by decide +kernel⟩
theorem ok_l_curve (T : Txt K mg a) : FnOk P w K mg base CX0 2 a.f_l_curve a.d_l_curve ["_law_purse_here", "_law_window_here", "_law_far_here"] (spCurveL K) := by
  refine T.F_l_curve.ok sc_l_curve (fun vs H Q E h => ?_) (fun cdv A outer s H vs Q E hr h => ?_)
  · obtain ⟨p, q, b, y, m, x, rfl, _⟩ := h
    rfl
  · obtain ⟨p, q, b, y, m, x, rfl, hp, hq, hb1, hb2, hy1, hy2, hm1, hm2, hx1, hx2, k⟩ := h
    have hym : y * m ≤ 10 ^ 30 * 8 := Int.mul_le_mul hy2 hm2 (by omega) (by decide)
    have hym0 : 0 < y * m := Int.mul_pos hy1 (by omega)
    have hu := hu_of hr
    refine' ⟨_, QB.h ?pp, ?rr⟩
    case pp =>
     refine' qss_cons ?h368 ?h369
     case h368 =>
      refine' qs_asg (qv 1) ?h370
      case h370 =>
       refine' kg_tup (n := 3) K rfl rfl ?h371
       case h371 =>
        refine' qgs_cons (qg_name (i := 3) sc_l_curve.nd rfl (by first | exact Or.inl rfl | exact Or.inr rfl)) ?h372
        case h372 =>
         refine' qgs_cons (qg_name (i := 4) sc_l_curve.nd rfl (by first | exact Or.inl rfl | exact Or.inr rfl)) ?h373
         case h373 =>
          exact qgs_cons (qg_name (i := 5) sc_l_curve.nd rfl (by first | exact Or.inl rfl | exact Or.inr rfl)) qgs_nil
     case h369 =>
      refine' qss_cons ?h374 ?h375
      case h374 =>
       refine' qs_setS (i := 6) sc_l_curve.nd rfl (by first | exact Or.inl rfl | exact Or.inr rfl) ?h376
       case h376 =>
        refine' qe_ix (kx_list K rfl) ?h377 ?h378
        case h377 =>
         refine' qe_lst ?h379
         case h379 =>
          refine' qa_c qe_int ?h380
          case h380 =>
           refine' qa_c qe_int ?h381
           case h381 =>
            refine' qa_c qe_int ?h382
            case h382 =>
             refine' qa_c ?h383 qa_nil
             case h383 =>
              exact qe_op op_pow qe_int qe_int
        case h378 =>
         refine' qe_callS (ok_l_draw T) hr rfl T.m_l_draw T.F_l_draw.kp T.b_l_draw .nil pass0 ?h384
         case h384 =>
          refine' qa_c (qv 0) ?h385
          case h385 =>
           exact qa_c qe_int qa_nil
      case h375 =>
       refine' qss_cons ?h386 ?h387
       case h386 =>
        exact qs_setS (i := 7) sc_l_curve.nd rfl (by first | exact Or.inl rfl | exact Or.inr rfl) qe_dnewK
       case h387 =>
        refine' qss_cons ?h388 ?h389
        case h388 =>
         refine' qs_for PassesOwn.never rfl ?h390 (qg_name (i := 8) sc_l_curve.nd rfl (by first | exact Or.inl rfl | exact Or.inr rfl)) ?h391
         case h390 =>
          refine' qi_range1 rfl T.z_range ?h392
          case h392 =>
           refine' qa_c ?h393 qa_nil
           case h393 =>
            refine' qe_callS (ok_l_draw T) hr rfl T.m_l_draw T.F_l_draw.kp T.b_l_draw .nil pass0 ?h394
            case h394 =>
             refine' qa_c (qv 0) ?h395
             case h395 =>
              refine' qa_c ?h396 qa_nil
              case h396 =>
               refine' qe_ix (kx_list K rfl) ?h397 ?h398
               case h397 =>
                refine' qe_lst ?h399
                case h399 =>
                 refine' qa_c qe_int ?h400
                 case h400 =>
                  refine' qa_c qe_int ?h401
                  case h401 =>
                   exact qa_c qe_int qa_nil
               case h398 =>
                refine' qe_callS (ok_l_draw T) hr rfl T.m_l_draw T.F_l_draw.kp T.b_l_draw .nil pass0 ?h402
                case h402 =>
                 refine' qa_c (qv 0) ?h403
                 case h403 =>
                  exact qa_c qe_int qa_nil
         case h391 =>
          refine' qss_cons ?h404 ?h405
          case h404 =>
           refine' qs_setS (i := 9) sc_l_curve.nd rfl (by first | exact Or.inl rfl | exact Or.inr rfl) ?h406
           case h406 =>
            refine' qe_op op_add ?h407 ?h408
            case h407 =>
             exact qe_op op_sub (qv 3) qe_int
            case h408 =>
             refine' qe_callS (ok_l_draw T) hr rfl T.m_l_draw T.F_l_draw.kp T.b_l_draw .nil pass0 ?h409
             case h409 =>
              refine' qa_c (qv 0) ?h410
              case h410 =>
               refine' qa_c ?h411 qa_nil
               case h411 =>
                refine' qe_op op_add ?h412 qe_int
                case h412 =>
                 exact qe_op op_mulG (qv 4) (qv 5)
          case h405 =>
           refine' qss_one ?h413
           case h413 =>
            refine' qs_dput hu ?h414 (qv 7) (qv 9)
            case h414 =>
             refine' qe_op op_add (qv 2) ?h415
             case h415 =>
              refine' qe_op op_mulG ?h416 (qv 6)
              case h416 =>
               refine' qe_op op_sub ?h417 qe_int
               case h417 =>
                refine' qe_callS (ok_l_draw T) hr rfl T.m_l_draw T.F_l_draw.kp T.b_l_draw .nil pass0 ?h418
                case h418 =>
                 refine' qa_c (qv 0) ?h419
                 case h419 =>
                  exact qa_c qe_int qa_nil
        case h389 =>
         refine' qss_one ?h420
         case h420 =>
          refine' qs_ret ?h421
          case h421 =>
           refine' qe_callTyS (kc_tuple K rfl) rfl T.z_tuple bt_tuple ?h422
           case h422 =>
            refine' qa_c ?h423 qa_nil
            case h423 =>
             exact qe_sortedIt rfl rfl T.z_sorted (qv 7)
    case rr =>
    simp only [L2.start, List.length_cons, List.length_nil, List.map_cons, List.map_nil, Nat.reduceAdd, Nat.reduceSub, List.replicate_succ, List.replicate_zero, List.cons_append, List.nil_append]
    repeat walk_at "rd"
    refine rd_new (by show 4 ≤ sizeLine; decide) fun l H1 n1 f1 S1 => ?_
    have hne1 := hp.neN n1
    repeat walk_at "rd"
    refine ⟨p, _, rfl, hp.same S1, by decide, by decide, fun d2 H2 h2 h2' P2 K2 => ?_⟩
    repeat walk_at "rd"
    refine rd_ixAny (ns := [_, _, _, _]) (K2 _ _ f1 hne1) h2 (by simpa using h2') fun sc hsc => ?_
    have hsc := mem_scale hsc
    repeat walk_at "rd"
    refine rd_dnewI fun d H3 n3 f3 S3 => ?_
    have P3 := P2.same S3
    have hned := P2.neN n3
    repeat walk_at "rd"
    refine rd_new (by show 3 ≤ sizeLine; decide) fun l4 H4 n4 f4 S4 => ?_
    have hne4 := P3.neN n4
    repeat walk_at "rd"
    refine ⟨p, _, rfl, P3.same S4, by decide, by decide, fun d5 H5 h5 h5' P5 K5 => ?_⟩
    repeat walk_at "rd"
    refine rd_ixAny (ns := [_, _, _]) (K5 _ _ f4 hne4) h5 (by simpa using h5') fun n hn => ?_
    have hn2 : 0 < n ∧ n ≤ 14 := by
      simp only [List.mem_cons, List.not_mem_nil, or_false] at hn
      rcases hn with rfl | rfl | rfl <;> decide
    repeat walk_at "rd"
    refine ⟨p, n, rfl, P5, hn2.1, by omega, fun d6 H6 h6 h6' P6 K6 => ?_⟩
    have fd6 := K6 _ _ (K5 _ _ (S4 _ _ f3) hned) hned
    have KA : Kp p H H6 := ((((Kp.same S1).trans K2).then S3).then S4).trans K5 |>.trans K6
    have nd : H d = none := Pur.free (((Kp.same S1).trans K2)) P2 n3
    have hqp := hp.ne_tup hq
    repeat walk_at "rd"
    refine rd_rng (by omega) (by omega) (rd_forR (fun i σ H' => (∃ v8 v9, σ = [some (.ref p), some (.ref q), some (.int x), some (.int b), some (.int y), some (.int m), some (.int sc), some (.ref d), v8, v9]) ∧ Pur H' p ∧ Kp p H H' ∧ ∃ ps : List (Int × Int), H' d = some (.dK (dkOf ps)) ∧ (ps.map (·.1)).Nodup ∧ ps.length ≤ i ∧ BP ps) ?_ ?_ ?_)
    · exact ⟨⟨_, _, rfl⟩, P6, KA, [], fd6, List.nodup_nil, Nat.zero_le _, fun q hq => by simp at hq⟩
    · rintro i σ H7 hi ⟨⟨v8, v9, rfl⟩, P7, K7, ps, f7, hnd, hl, hbp⟩
      repeat walk_at "rd"
      refine ⟨p, _, rfl, P7, by omega, Int.lt_of_lt_of_le (show y * m + 8 < 10 ^ 40 by omega) (by decide), fun d8 H8 h8 h8' P8 K8 => ?_⟩
      have f8 := K8 _ _ f7 hned
      repeat walk_at "rd"
      refine ⟨p, _, rfl, P8, by decide, by decide, fun d9 H9 h9 h9' P9 K9 => ?_⟩
      have f9 := K9 _ _ f8 hned
      repeat walk_at "rd"
      refine rd_dputI f9 ?_ fun H10 f10 K10 => ?_
      · exact Nat.lt_of_le_of_lt hl (Nat.lt_of_lt_of_le (Nat.lt_of_lt_of_le hi (show (d6).toNat ≤ 1000 by omega)) (by decide))
      repeat walk_at "rd"
      refine ⟨⟨_, _, rfl⟩, P9.kp K10 hned.symm, ?_, _, f10, putI_nodup hnd, Nat.le_trans (putI_len _ _ _) (by omega), putI_all _ hbp ⟨?_, ?_⟩⟩
      · intro c o e nc
        exact K10 c o ((K7.trans K8).trans K9 c o e nc) (ne_of_none e nd)
      · exact Bn.of (Int.lt_of_le_of_lt (show (-(2 ^ 200) : Int) ≤ -(10 ^ 50) - 20 by decide) (by omega)) (Int.lt_of_lt_of_le (show _ < 10 ^ 50 + 10 ^ 40 by omega) (by decide))
      · exact (bn_far hx1 hx2 (bn6 (by omega) (by omega)) hsc).mono (by decide)
    · rintro σ H7 ⟨⟨v8, v9, rfl⟩, P7, K7, ps, f7, hnd, hl, hbp⟩
      repeat walk_at "rd"
      refine rd_sortedIt f7 hnd (by omega) fun l8 H8 cv n8 hL8 hC hlc S8 => ?_
      obtain ⟨vs8, g8, p8⟩ := hL8
      repeat walk_at "rd"
      refine rd_tupL (SqL.of g8) fun t H9 n9 f9 S9 => ?_
      refine k t cv H9 ⟨vs8, f9, p8.same S9⟩ hC.1 (fun q hq => ?_) (by omega) ((P7.same S8).same S9) ((K7.then S8).then S9)
      exact hbp q ((getI_mem hnd).mp ((hC.2 q.1 q.2).mp hq))
def spHeightsL : Sp := fun vs H Q _ => ∃ (p : Addr) (x : Int), vs = [.ref p, .int x] ∧ Pur H p ∧ -(10 ^ 50) < x ∧ x < 10 ^ 50 ∧
  ∀ (t : Addr) (low tall rows : Int) (H' : Hp), Hts H' t low tall rows → Pur H' p → Kp p H H' → Q (.ref t) H'
theorem sc_l_heights : FnScope ["_law_purse_here", "_law_far_here", "_law_scale", "_law_low"] ["_law_purse_here", "_law_far_here"] (defScope s_l_heights) := ⟨rfl, rfl, rfl, by decide +kernel, rfl, by decide +kernel, by decide +kernel⟩
theorem ok_l_heights (T : Txt K mg a) : FnOk P w K mg base CX0 2 a.f_l_heights a.d_l_heights ["_law_purse_here", "_law_far_here"] spHeightsL := by
  refine T.F_l_heights.ok sc_l_heights (fun vs H Q E h => ?_) (fun cdv A outer s H vs Q E hr h => ?_)
  · obtain ⟨p, x, rfl, _⟩ := h
    rfl
  · obtain ⟨p, x, rfl, hp, hx1, hx2, k⟩ := h
    refine' ⟨_, QB.h ?pp, ?rr⟩
    case pp =>
     refine' qss_cons ?h424 ?h425
     case h424 =>
      refine' qs_setS (i := 2) sc_l_heights.nd rfl (by first | exact Or.inl rfl | exact Or.inr rfl) ?h426
      case h426 =>
       refine' qe_ix (kx_list K rfl) ?h427 ?h428
       case h427 =>
        refine' qe_lst ?h429
        case h429 =>
         refine' qa_c qe_int ?h430
         case h430 =>
          refine' qa_c qe_int ?h431
          case h431 =>
           refine' qa_c qe_int ?h432
           case h432 =>
            refine' qa_c ?h433 qa_nil
            case h433 =>
             exact qe_op op_pow qe_int qe_int
       case h428 =>
        refine' qe_callS (ok_l_draw T) hr rfl T.m_l_draw T.F_l_draw.kp T.b_l_draw .nil pass0 ?h434
        case h434 =>
         refine' qa_c (qv 0) ?h435
         case h435 =>
          exact qa_c qe_int qa_nil
     case h425 =>
      refine' qss_cons ?h436 ?h437
      case h436 =>
       refine' qs_setS (i := 3) sc_l_heights.nd rfl (by first | exact Or.inl rfl | exact Or.inr rfl) ?h438
       case h438 =>
        refine' qe_op op_add (qv 1) ?h439
        case h439 =>
         refine' qe_op op_mulG ?h440 (qv 2)
         case h440 =>
          refine' qe_op op_sub ?h441 qe_int
          case h441 =>
           refine' qe_callS (ok_l_draw T) hr rfl T.m_l_draw T.F_l_draw.kp T.b_l_draw .nil pass0 ?h442
           case h442 =>
            refine' qa_c (qv 0) ?h443
            case h443 =>
             exact qa_c qe_int qa_nil
      case h437 =>
       refine' qss_one ?h444
       case h444 =>
        refine' qs_ret ?h445
        case h445 =>
         refine' qe_tup ?h446
         case h446 =>
          refine' qa_c (qv 3) ?h447
          case h447 =>
           refine' qa_c ?h448 ?h449
           case h448 =>
            refine' qe_op op_add qe_int ?h450
            case h450 =>
             refine' qe_callS (ok_l_draw T) hr rfl T.m_l_draw T.F_l_draw.kp T.b_l_draw .nil pass0 ?h451
             case h451 =>
              refine' qa_c (qv 0) ?h452
              case h452 =>
               refine' qa_c ?h453 qa_nil
               case h453 =>
                refine' qe_ix (kx_list K rfl) ?h454 ?h455
                case h454 =>
                 refine' qe_lst ?h456
                 case h456 =>
                  refine' qa_c qe_int ?h457
                  case h457 =>
                   refine' qa_c qe_int ?h458
                   case h458 =>
                    refine' qa_c ?h459 qa_nil
                    case h459 =>
                     exact qe_op op_mulG qe_int (qv 2)
                case h455 =>
                 refine' qe_callS (ok_l_draw T) hr rfl T.m_l_draw T.F_l_draw.kp T.b_l_draw .nil pass0 ?h460
                 case h460 =>
                  refine' qa_c (qv 0) ?h461
                  case h461 =>
                   exact qa_c qe_int qa_nil
           case h449 =>
            refine' qa_c ?h462 qa_nil
            case h462 =>
             refine' qe_op op_add qe_int ?h463
             case h463 =>
              refine' qe_callS (ok_l_draw T) hr rfl T.m_l_draw T.F_l_draw.kp T.b_l_draw .nil pass0 ?h464
              case h464 =>
               refine' qa_c (qv 0) ?h465
               case h465 =>
                exact qa_c qe_int qa_nil
    case rr =>
    simp only [L2.start, List.length_cons, List.length_nil, List.map_cons, List.map_nil, Nat.reduceAdd, Nat.reduceSub, List.replicate_succ, List.replicate_zero, List.cons_append, List.nil_append]
    repeat walk_at "rd"
    refine rd_new (by show 4 ≤ sizeLine; decide) fun l H1 n1 f1 S1 => ?_
    have hne1 := hp.neN n1
    repeat walk_at "rd"
    refine ⟨p, _, rfl, hp.same S1, by decide, by decide, fun d2 H2 h2 h2' P2 K2 => ?_⟩
    repeat walk_at "rd"
    refine rd_ixAny (ns := [_, _, _, _]) (K2 _ _ f1 hne1) h2 (by simpa using h2') fun sc hsc => ?_
    have hsc := mem_scale hsc
    repeat walk_at "rd"
    refine ⟨p, _, rfl, P2, by decide, by decide, fun d3 H3 h3 h3' P3 K3 => ?_⟩
    repeat walk_at "rd"
    refine rd_new (by show 3 ≤ sizeLine; decide) fun l4 H4 n4 f4 S4 => ?_
    have hne4 := P3.neN n4
    repeat walk_at "rd"
    refine ⟨p, _, rfl, P3.same S4, by decide, by decide, fun d5 H5 h5 h5' P5 K5 => ?_⟩
    repeat walk_at "rd"
    refine rd_ixAny (ns := [_, _, _]) (K5 _ _ f4 hne4) h5 (by simpa using h5') fun n hn => ?_
    have hn2 : 0 < n ∧ n ≤ 11 * 10 ^ 20 := by
      simp only [List.mem_cons, List.not_mem_nil, or_false] at hn
      rcases hn with rfl | rfl | rfl <;> omega
    repeat walk_at "rd"
    refine ⟨p, n, rfl, P5, hn2.1, Int.lt_of_le_of_lt hn2.2 (by decide), fun d6 H6 h6 h6' P6 K6 => ?_⟩
    repeat walk_at "rd"
    refine ⟨p, _, rfl, P6, by decide, by decide, fun d7 H7 h7 h7' P7 K7 => ?_⟩
    repeat walk_at "rd"
    refine rd_new (by show 3 ≤ sizeLine; decide) fun t H8 n8 f8 S8 => ?_
    refine k t _ _ _ H8 ⟨f8, (bn_far hx1 hx2 (bn6 (by omega) (by omega)) hsc).mono (by decide), by omega, ?_, by omega, by omega⟩ (P7.same S8) (((((((Kp.same S1).trans K2).trans K3).then S4).trans K5).trans K6).trans K7 |>.then S8)
    exact Bn.of (Int.lt_of_lt_of_le (by decide) (show (0 : Int) ≤ _ by omega)) (Int.lt_of_le_of_lt (show _ ≤ 11 * 10 ^ 20 + 1 by omega) (by decide))
end
section
variable {P : Program} {w : World} {K : PySem.W.Frag} {mg : Str → Option Value} {base : Heap} {a : Ad}
theorem atI_end {xs : List V} {v : V} (h : xs[xs.length - 1]? = some v) : atI xs (-1) = some v := by
  have hne : xs ≠ [] := fun z => by rw [z] at h; cases h
  have e : xs = xs.dropLast ++ [v] := by
    rw [← List.getLast?_eq_getElem?, List.getLast?_eq_some_getLast hne] at h
    rw [← Option.some.inj h, List.dropLast_concat_getLast hne]
  rw [e]
  exact atI_last _ _
def spFirst (K : PySem.W.Frag) : Sp := fun vs H Q _ => ∃ (l : Addr) (ps : List (Int × Int)) (sg : Int), vs = [.ref l, .int sg] ∧ PrL H l ps ∧ ps ≠ [] ∧ (sg = 1 ∨ sg = -1) ∧
  ∀ (c : Addr) (q : Int × Int), H c = some (.tup [.int q.1, .int q.2]) → q ∈ ps → (∀ r ∈ ps, q.2 * sg ≤ r.2 * sg) → Q (.ref c) H
theorem sc_l_first : FnScope ["_law_samples", "_law_sign", "_law_best", "_law_sample"] ["_law_samples", "_law_sign"] (defScope s_l_first) := ⟨rfl, rfl, rfl, by decide +kernel, rfl, by decide +kernel, by decide +kernel⟩
theorem ok_l_first (T : Txt K mg a) : FnOk P w K mg base CX0 1 a.f_l_first a.d_l_first ["_law_samples", "_law_sign"] (spFirst K) := by
  refine T.F_l_first.ok sc_l_first (fun vs H Q E h => ?_) (fun cdv A outer s H vs Q E hr h => ?_)
  · obtain ⟨l, ps, sg, rfl, _⟩ := h
    rfl
  · obtain ⟨l, ps, sg, rfl, ⟨us, gT, pT⟩, hne, hsg, k⟩ := h
    have hs1 : -2 < sg := by rcases hsg with rfl | rfl <;> decide
    have hs2 : sg < 2 := by rcases hsg with rfl | rfl <;> decide
    have hpos : 0 < ps.length := List.length_pos_iff.mpr hne
    have hul : us.length = ps.length := pT.length
    obtain ⟨c0, q0, ec0, hq0, hc0⟩ := pT.at (List.getElem?_eq_getElem (show 0 < us.length by omega))
    have hx0 : us[0]? = some (.ref c0) := by rw [List.getElem?_eq_getElem (show 0 < us.length by omega), ec0]
    have hmem0 : q0 ∈ ps := List.mem_of_getElem? hq0
    refine' ⟨_, QB.h ?pp, ?rr⟩
    case pp =>
     refine' qss_cons ?h466 ?h467
     case h466 =>
      refine' qs_setS (i := 2) sc_l_first.nd rfl (by first | exact Or.inl rfl | exact Or.inr rfl) ?h468
      case h468 =>
       exact qe_ix (kx_list K rfl) (qv 0) qe_int
     case h467 =>
      refine' qss_cons ?h469 ?h470
      case h469 =>
       refine' qs_for PassesOwn.never rfl ?h471 (qg_name (i := 3) sc_l_first.nd rfl (by first | exact Or.inl rfl | exact Or.inr rfl)) ?h472
       case h471 =>
        exact ki_list K rfl (qv 0)
       case h472 =>
        refine' qss_one ?h473
        case h473 =>
         refine' qs_if ?h474 ?h475 qss_nil
         case h474 =>
          refine' qt_cmpR (op_lt) ?h476 ?h477 (nomark _)
          case h476 =>
           refine' qe_op op_mulG ?h478 (qv 1)
           case h478 =>
            exact qe_ix (kx_tup K rfl) (qv 3) qe_int
          case h477 =>
           refine' qe_op op_mulG ?h479 (qv 1)
           case h479 =>
            exact qe_ix (kx_tup K rfl) (qv 2) qe_int
         case h475 =>
          refine' qss_one ?h480
          case h480 =>
           exact qs_setS (i := 2) sc_l_first.nd rfl (by first | exact Or.inl rfl | exact Or.inr rfl) (qv 3)
      case h470 =>
       refine' qss_one ?h481
       case h481 =>
        exact qs_ret (qv 2)
    case rr =>
    simp only [L2.start, List.length_cons, List.length_nil, List.map_cons, List.map_nil, Nat.reduceAdd, Nat.reduceSub, List.replicate_succ, List.replicate_zero, List.cons_append, List.nil_append]
    repeat walk_at "rd"
    refine rd_ixL (SqL.of gT) (atI_nat (j := 0) hx0) ?_
    repeat walk_at "rd"
    refine rd_forL (xs := us) (fun i σ H' => H' = H ∧ ∃ (c : Addr) (u : Int × Int), (∃ v3, σ = [some (.ref l), some (.int sg), some (.ref c), v3]) ∧ H c = some (.tup [.int u.1, .int u.2]) ∧ u ∈ ps ∧ ∀ q ∈ ps.take i, u.2 * sg ≤ q.2 * sg) ?_ ?_ ?_ ?_
    · exact ⟨rfl, c0, q0, ⟨_, rfl⟩, hc0, hmem0, fun q hq => by simp at hq⟩
    · rintro i σ H2 _ ⟨rfl, _⟩
      exact SqL.of gT
    · rintro i xv σ H2 hx ⟨rfl, c, u, ⟨v3, rfl⟩, hc, hu, hlo⟩
      obtain ⟨e, q, rfl, hq, he⟩ := pT.at hx
      have hqm : q ∈ ps := List.mem_of_getElem? hq
      have e3 : ps.take (i + 1) = ps.take i ++ [q] := by rw [List.take_succ, hq]; rfl
      repeat walk_at "rd"
      refine iteD (fun hl => ?_) (fun hl => ?_)
      · repeat walk_at "rd"
        refine ⟨rfl, e, q, ⟨_, rfl⟩, he, hqm, fun r hr => ?_⟩
        rw [e3] at hr
        rcases List.mem_append.mp hr with hr | hr
        · exact Int.le_trans (Int.le_of_lt hl) (hlo r hr)
        · simp only [List.mem_cons, List.not_mem_nil, or_false] at hr
          rw [hr]
          exact Int.le_refl _
      · repeat walk_at "rd"
        refine ⟨rfl, c, u, ⟨_, rfl⟩, hc, hu, fun r hr => ?_⟩
        rw [e3] at hr
        rcases List.mem_append.mp hr with hr | hr
        · exact hlo r hr
        · simp only [List.mem_cons, List.not_mem_nil, or_false] at hr
          rw [hr]
          exact Int.not_lt.mp hl
    · rintro σ H2 ⟨rfl, c, u, ⟨v3, rfl⟩, hc, hu, hlo⟩
      rw [hul, List.take_length] at hlo
      repeat walk_at "rd"
      exact k c u hc hu hlo
end
theorem put_mem {cv ps : List (Int × Int)} {p : Int × Int} (hasc : Asc cv) (hnd : (ps.map (·.1)).Nodup) (hs : ∀ q ∈ ps, q ∈ cv) (hp : p ∈ cv) (q : Int × Int) : q ∈ putI ps p.1 p.2 ↔ q ∈ ps ∨ q = p := by
  obtain ⟨t, h⟩ := q
  rw [← getI_mem (putI_nodup hnd), getI_put, ← getI_mem hnd]
  by_cases e : t = p.1
  · rw [if_pos e]
    constructor
    · intro z
      refine .inr ?_
      rw [e, ← Option.some.inj z]
    · rintro (z | z)
      · have := asc_inj hasc (hs _ ((getI_mem hnd).mp z)) hp e
        rw [← this]
      · rw [← z]
  · rw [if_neg e]
    constructor
    · exact .inl
    · rintro (z | z)
      · exact z
      · rw [← z] at e
        exact absurd rfl e
theorem all_mem {cv : List (Int × Int)} (hasc : Asc cv) : ∀ (prs acc : List (Int × Int)), (acc.map (·.1)).Nodup → (∀ q ∈ acc, q ∈ cv) → (∀ q ∈ prs, q ∈ cv) → ∀ q, q ∈ prs.foldl (fun m p => putI m p.1 p.2) acc ↔ q ∈ acc ∨ q ∈ prs
  | [], acc, _, _, _, q => by simp
  | p :: prs, acc, hn, ha, hp, q => by
    have hpm := put_mem hasc hn ha (hp p List.mem_cons_self)
    rw [List.foldl_cons, all_mem hasc prs _ (putI_nodup hn) (fun z hz => by
      rcases (hpm z).mp hz with hz | rfl
      · exact ha z hz
      · exact hp z List.mem_cons_self) (fun z hz => hp z (List.mem_cons_of_mem _ hz)), hpm, List.mem_cons, or_assoc]
def flat4 (fs : List (Option (List (Int × Int)))) : List (Int × Int) := fs.flatMap fun o => o.getD []
theorem mem_flat4 {fs : List (Option (List (Int × Int)))} {r : Int × Int} : r ∈ flat4 fs ↔ ∃ qs, some qs ∈ fs ∧ r ∈ qs := by
  unfold flat4
  rw [List.mem_flatMap]
  constructor
  · rintro ⟨o, ho, hr⟩
    cases o with
    | none => cases hr
    | some qs => exact ⟨qs, ho, hr⟩
  · rintro ⟨qs, ho, hr⟩
    exact ⟨some qs, ho, hr⟩
section
variable {P : Program} {w : World} {K : PySem.W.Frag} {mg : Str → Option Value} {base : Heap} {a : Ad}
def spKeptOf (K : PySem.W.Frag) : Sp := fun vs H Q _ => ∃ (t : Addr) (us : List V) (fs : List (Option (List (Int × Int)))) (cv : List (Int × Int)), vs = [.ref t] ∧ H t = some (.tup us) ∧ Fours H us fs ∧ fs.length ≤ 15 ∧ Asc cv ∧ (∀ qs, some qs ∈ fs → ∀ r ∈ qs, r ∈ cv) ∧
  ∀ (t' : Addr) (kp : List (Int × Int)) (H' : Hp), PrT H' t' kp → Asc kp → kp.length ≤ 100 → (∀ r, r ∈ kp ↔ ∃ qs, some qs ∈ fs ∧ r ∈ qs) → Same H H' → Q (.ref t') H'
theorem sc_kept_of : FnScope ["fours", "samples", "four"] ["fours"] (defScope s_kept_of) := ⟨rfl, rfl, rfl, by decide +kernel, rfl, by decide +kernel, by decide +kernel⟩
theorem ok_kept_of (T : Txt K mg a) : FnOk P w K mg base CX0 2 a.f_kept_of a.d_kept_of ["fours"] (spKeptOf K) := by
  refine T.F_kept_of.ok sc_kept_of (fun vs H Q E h => ?_) (fun cdv A outer s H vs Q E hr h => ?_)
  · obtain ⟨t, us, fs, cv, rfl, _⟩ := h
    rfl
  · obtain ⟨t, us, fs, cv, rfl, hT, hF, hlen, hasc, hin, k⟩ := h
    have hul : us.length = fs.length := hF.len
    refine' ⟨_, QB.h ?pp, ?rr⟩
    case pp =>
     refine' qss_cons ?h482 ?h483
     case h482 =>
      refine' qs_setS (i := 1) sc_kept_of.nd rfl (by first | exact Or.inl rfl | exact Or.inr rfl) ?h484
      case h484 =>
       exact qe_lst qa_nil
     case h483 =>
      refine' qss_cons ?h485 ?h486
      case h485 =>
       refine' qs_for PassesOwn.never rfl ?h487 (qg_name (i := 2) sc_kept_of.nd rfl (by first | exact Or.inl rfl | exact Or.inr rfl)) ?h488
       case h487 =>
        exact ki_tup K rfl (qv 0)
       case h488 =>
        refine' qss_one ?h489
        case h489 =>
         refine' qs_if ?h490 ?h491 qss_nil
         case h490 =>
          exact qt_cmpR (oq_notN) (qv 2) qe_non (nomark _)
         case h491 =>
          refine' qss_one ?h492
          case h492 =>
           refine' qs_exprS ?h493
           case h493 =>
            refine' qe_bm PySem.F.plainAttrs_list PySem.F.slot_list_extend PySem.F.type_list_extend mt_extendT (qv 1) ?h494
            case h494 =>
             exact qa_c (qv 2) qa_nil
      case h486 =>
       refine' qss_one ?h495
       case h495 =>
        refine' qs_ret ?h496
        case h496 =>
         refine' qe_callS (ok_curve_of T) hr rfl T.m_curve_of T.F_curve_of.kp T.b_curve_of .nil pass0 ?h497
         case h497 =>
          exact qa_c (qv 1) qa_nil
    case rr =>
    simp only [L2.start, List.length_cons, List.length_nil, List.map_cons, List.map_nil, Nat.reduceAdd, Nat.reduceSub, List.replicate_succ, List.replicate_zero, List.cons_append, List.nil_append]
    repeat walk_at "rd"
    refine rd_new (by show 0 ≤ sizeLine; decide) fun l H1 n1 f1 S1 => ?_
    have hT1 := S1 _ _ hT
    repeat walk_at "rd"
    refine rd_forT (xs := us) (fun i σ H' => (∃ v2, σ = [some (.ref t), some (.ref l), v2]) ∧ Same H H' ∧ ∃ vs, H' l = some (.lst vs) ∧ PairsAt H' vs (flat4 (fs.take i)) ∧ (flat4 (fs.take i)).length ≤ 4 * i) ?_ ?_ ?_ ?_
    · exact ⟨⟨_, rfl⟩, S1, [], f1, .nil, Nat.zero_le _⟩
    · rintro i σ H2 _ ⟨_, S2, _⟩
      exact SqT.of (S2 _ _ hT)
    · rintro i xv σ H2 hx ⟨⟨v2, rfl⟩, S2, vs, f2, hP2, hl2⟩
      obtain ⟨o, ho, hd⟩ := (hF.same S2).at hx
      have hi : i < fs.length := by have := (List.getElem?_eq_some_iff.mp ho).1; exact this
      have e3 : flat4 (fs.take (i + 1)) = flat4 (fs.take i) ++ o.getD [] := by
        unfold flat4
        rw [List.take_succ, ho, List.flatMap_append]
        simp
      repeat walk_at "rd"
      cases hd with
      | non =>
        refine iteND (fun h => absurd rfl h) (fun _ => ?_)
        repeat walk_at "rd"
        refine ⟨⟨_, rfl⟩, S2, vs, f2, ?_, ?_⟩
        · rw [e3]; simpa using hP2
        · rw [e3]; simp; omega
      | @pr c qs hq hl4 =>
        obtain ⟨ws, gq, pq⟩ := hq
        refine iteND (fun _ => ?_) (fun h => by cases h)
        repeat walk_at "rd"
        refine ⟨tyL f2, ?_⟩
        repeat walk_at "rd"
        refine rd_extendT f2 gq ?_ ?_ fun H3 f3 K3 => ?_
        · intro j z
          cases pq with
          | nil => cases z
          | cons a t =>
            obtain ⟨c', e, _⟩ := a
            rw [List.head?_cons, e] at z
            cases z
        · rw [hP2.length, pq.length, hl4]
          exact Nat.le_trans (show _ ≤ 1000 by omega) (by decide)
        repeat walk_at "rd"
        refine ⟨⟨_, rfl⟩, S2.kpN n1 K3, _, f3, ?_, ?_⟩
        · rw [e3]
          exact (PairsAt.kpL K3 f2 hP2).app (PairsAt.kpL K3 f2 pq)
        · rw [e3, List.length_append]
          show _ + qs.length ≤ _
          omega
    · rintro σ H2 ⟨⟨v2, rfl⟩, S2, vs, f2, hP2, hl2⟩
      rw [hul, List.take_length] at hP2 hl2
      repeat walk_at "rd"
      refine ⟨true, l, vs, _, rfl, f2, hP2, by omega, fun t' kp H3 hT3 hC hlk S3 => ?_⟩
      refine k t' kp H3 hT3 hC.1 (by omega) (fun r => ?_) (S2.trans S3)
      have hm : ∀ q ∈ flat4 fs, q ∈ cv := fun q hq => by
        obtain ⟨qs, h1, h2⟩ := mem_flat4.mp hq
        exact hin qs h1 q h2
      rw [← mem_flat4]
      obtain ⟨t0, h0⟩ := r
      rw [hC.2, getI_mem (allI_nodup _)]
      have := all_mem hasc (flat4 fs) [] List.nodup_nil (fun q hq => by cases hq) hm (t0, h0)
      rw [show allI (flat4 fs) = (flat4 fs).foldl (fun m p => putI m p.1 p.2) [] from rfl, this]
      simp
/-- the four of a column, as the samples tell it -/
def FourOk (cv : List (Int × Int)) (x z : Int) (o : Option (List (Int × Int))) : Prop := (o = none ∧ inCol cv x z = []) ∨ ∃ q0 q1 q2 q3, o = some [q0, q1, q2, q3] ∧ (∀ r ∈ [q0, q1, q2, q3], r ∈ inCol cv x z) ∧ ∀ p ∈ inCol cv x z, q0.1 ≤ p.1 ∧ p.1 ≤ q1.1 ∧ q2.2 ≤ p.2 ∧ p.2 ≤ q3.2
def FoursOk (cv : List (Int × Int)) (b y m : Int) (fs : List (Option (List (Int × Int)))) : Prop := fs.length = m.toNat ∧ ∀ (k : Nat) o, fs[k]? = some o → FourOk cv (b + (k : Int) * y) (b + (k : Int) * y + y) o
theorem FoursOk.mem {cv : List (Int × Int)} {b y m : Int} {fs : List (Option (List (Int × Int)))} (h : FoursOk cv b y m fs) {qs : List (Int × Int)} (hq : some qs ∈ fs) : ∃ k : Nat, (k : Int) < m ∧ ∀ r ∈ qs, r ∈ cv ∧ b + (k : Int) * y ≤ r.1 ∧ r.1 < b + (k : Int) * y + y := by
  obtain ⟨k, hk, e⟩ := List.getElem_of_mem hq
  refine ⟨k, by rw [h.1] at hk; omega, fun r hr => ?_⟩
  rcases h.2 k _ (by rw [List.getElem?_eq_getElem hk, e]) with ⟨z, _⟩ | ⟨q0, q1, q2, q3, e4, h4, _⟩
  · cases z
  · obtain rfl := Option.some.inj e4
    exact mem_inCol.mp (h4 r hr)
theorem FoursOk.kept {cv kp : List (Int × Int)} {b y m : Int} {fs : List (Option (List (Int × Int)))} (hy : 0 < y) (h : FoursOk cv b y m fs) (hm : ∀ r, r ∈ kp ↔ ∃ qs, some qs ∈ fs ∧ r ∈ qs) : L2.Kept cv kp b y m := by
  constructor
  · intro p hp
    obtain ⟨qs, hq, hr⟩ := (hm p).mp hp
    obtain ⟨k, hk, hall⟩ := h.mem hq
    obtain ⟨g1, g2, g3⟩ := hall p hr
    have h1 : (0 : Int) ≤ (k : Int) * y := Int.mul_nonneg (by omega) (by omega)
    have h2 : ((k : Int) + 1) * y ≤ m * y := Int.mul_le_mul_of_nonneg_right (by omega) (by omega)
    rw [Int.add_mul, Int.one_mul] at h2
    exact ⟨g1, by omega, by omega⟩
  · intro k hk0 hk1 p hp g1 g2
    obtain ⟨n, rfl⟩ : ∃ n : Nat, k = (n : Int) := ⟨k.toNat, by omega⟩
    have hn : n < fs.length := by rw [h.1]; omega
    have hpc : p ∈ inCol cv (b + (n : Int) * y) (b + (n : Int) * y + y) := mem_inCol.mpr ⟨hp, g1, g2⟩
    rcases h.2 n _ (List.getElem?_eq_getElem hn) with ⟨_, z⟩ | ⟨q0, q1, q2, q3, e4, h4, hle⟩
    · rw [z] at hpc
      cases hpc
    · obtain ⟨l0, l1, l2, l3⟩ := hle p hpc
      have mem : ∀ r ∈ [q0, q1, q2, q3], r ∈ kp := fun r hr => (hm r).mpr ⟨_, by rw [← e4]; exact List.getElem_mem hn, hr⟩
      have c0 := (mem_inCol.mp (h4 q0 (by simp))).2
      have c1 := (mem_inCol.mp (h4 q1 (by simp))).2
      have c2 := (mem_inCol.mp (h4 q2 (by simp))).2
      have c3 := (mem_inCol.mp (h4 q3 (by simp))).2
      exact ⟨⟨q0, mem _ (by simp), c0.1, l0⟩, ⟨q1, mem _ (by simp), l1, c1.2⟩, ⟨q2, mem _ (by simp), c2.1, c2.2, l2⟩, ⟨q3, mem _ (by simp), c3.1, c3.2, l3⟩⟩
def spDotsBy (K : PySem.W.Frag) : Sp := fun vs H Q _ => ∃ (t q p : Addr) (us : List V) (fs : List (Option (List (Int × Int)))) (cv : List (Int × Int)) (b y m low tall rows : Int), vs = [.ref t, .ref q, .ref p] ∧ H t = some (.tup us) ∧ Fours H us fs ∧ FoursOk cv b y m fs ∧ m ≤ 15 ∧ Win H q b y m ∧ Hts H p low tall rows ∧ Asc cv ∧ BP cv ∧
  ∀ (u : Addr) (vs : List V) (os : List (Option (Int × Int))) (kp : List (Int × Int)) (H' : Hp), H' u = some (.tup vs) → Dots H' vs os → Asc kp → L2.Kept cv kp b y m → DotsOk kp b y m low tall rows os → Same H H' → Q (.ref u) H'
theorem sc_dots_by : FnScope ["fours", "window", "heights"] ["fours", "window", "heights"] (defScope s_dots_by) := ⟨rfl, rfl, rfl, by decide +kernel, rfl, by decide +kernel, by decide +kernel⟩
theorem ok_dots_by (T : Txt K mg a) : FnOk P w K mg base CX0 6 a.f_dots_by a.d_dots_by ["fours", "window", "heights"] (spDotsBy K) := by
  refine T.F_dots_by.ok sc_dots_by (fun vs H Q E h => ?_) (fun cdv A outer s H vs Q E hr h => ?_)
  · obtain ⟨t, q, p, us, fs, cv, b, y, m, low, tall, rows, rfl, _⟩ := h
    rfl
  · obtain ⟨t, q, p, us, fs, cv, b, y, m, low, tall, rows, rfl, hT, hF, hO, hm, hW, hh, hasc, hbp, k⟩ := h
    refine' ⟨_, QB.h ?pp, ?rr⟩
    case pp =>
     refine' qss_one ?h498
     case h498 =>
      refine' qs_ret ?h499
      case h499 =>
       refine' qe_callS (ok_dots_of T) hr rfl T.m_dots_of T.F_dots_of.kp T.b_dots_of .nil pass0 ?h500
       case h500 =>
        refine' qa_c ?h501 ?h502
        case h501 =>
         refine' qe_callS (ok_kept_of T) (hr.mono (by decide)) rfl T.m_kept_of T.F_kept_of.kp T.b_kept_of .nil pass0 ?h503
         case h503 =>
          exact qa_c (qv 0) qa_nil
        case h502 =>
         refine' qa_c (qv 1) ?h504
         case h504 =>
          exact qa_c (qv 2) qa_nil
    case rr =>
    simp only [L2.start, List.length_cons, List.length_nil, List.map_cons, List.map_nil, Nat.reduceAdd, Nat.reduceSub, List.replicate_succ, List.replicate_zero, List.cons_append, List.nil_append]
    repeat walk_at "rd"
    refine ⟨t, us, fs, cv, rfl, hT, hF, by rw [hO.1]; omega, hasc, fun qs hq r hr => ?_, fun t' kp H1 hT1 hak hlk hmk S1 => ?_⟩
    · obtain ⟨_, _, hall⟩ := hO.mem hq
      exact (hall r hr).1
    have hkept := hO.kept hW.2.2.1 hmk
    repeat walk_at "rd"
    refine ⟨t', q, p, kp, b, y, m, low, tall, rows, rfl, hT1, hW.same S1, hh.same S1, hak, fun r hr => hbp r (hkept.1 r hr).1, hlk, fun u vs os H2 f2 hD2 hO2 S2 => ?_⟩
    exact k u vs os kp H2 f2 hD2 hak hkept hO2 (S1.trans S2)
def spFourL (K : PySem.W.Frag) : Sp := fun vs H Q _ => ∃ (t : Addr) (cv : List (Int × Int)) (x z : Int), vs = [.ref t, .int x, .int z] ∧ PrT H t cv ∧ Asc cv ∧ cv.length ≤ 60 ∧
  ∀ (v : V) (o : Option (List (Int × Int))) (H' : Hp), FourIs H' v o → FourOk cv x z o → Same H H' → Q v H'
theorem sc_l_four : FnScope ["_law_curve_here", "_law_x", "_law_z", "_law_some"] ["_law_curve_here", "_law_x", "_law_z"] (defScope s_l_four) := ⟨rfl, rfl, rfl, by decide +kernel, rfl, by decide +kernel, by decide +kernel⟩
theorem ok_l_four (T : Txt K mg a) : FnOk P w K mg base CX0 2 a.f_l_four a.d_l_four ["_law_curve_here", "_law_x", "_law_z"] (spFourL K) := by
  refine T.F_l_four.ok sc_l_four (fun vs H Q E h => ?_) (fun cdv A outer s H vs Q E hr h => ?_)
  · obtain ⟨t, cv, x, z, rfl, _⟩ := h
    rfl
  · obtain ⟨t, cv, x, z, rfl, hT, hasc, hlen, k⟩ := h
    have hu64 := hr.units
    obtain ⟨us, gT, pT⟩ := id hT
    have hul : us.length = cv.length := pT.length
    refine' ⟨_, QB.h ?pp, ?rr⟩
    case pp =>
     refine' qss_cons ?h505 ?h506
     case h505 =>
      refine' qs_setC (N := ["_law_curve_here", "_law_x", "_law_z", "_law_some"]) (sc := defScope s_l_four) (own := ["_law_sample"]) (caps := ["_law_x", "_law_z"]) (ks := [1, 2]) (i := 3) rfl rfl rfl ⟨rfl, by decide +kernel, by decide +kernel, by decide +kernel, by decide +kernel, rfl, by decide +kernel⟩ sc_l_four.nd rfl (by first | exact Or.inl rfl | exact Or.inr rfl) ?h507 ?h508 ?h509 ?h510
      case h507 =>
       exact ki_tup K rfl (qv 0)
      case h508 =>
       intro _ _ _ _ _
       exact qg_name (i := 0) (show List.Nodup (α := Str) ["_law_sample", "_law_x", "_law_z"] from by decide +kernel) rfl (by first | exact Or.inl rfl | exact Or.inr rfl) (.inr rfl)
      case h509 =>
       intro _ _ _ _ _
       refine' qifs_one ?h511
       case h511 =>
        refine' qt_chain op_le op_lt (qv 1) ?h512 (qv 2)
        case h512 =>
         exact qe_ix (kx_tup K rfl) (qv 0) qe_int
      case h510 =>
       intro _ _ _ _ _
       exact qv 0
     case h506 =>
      refine' qss_cons ?h513 ?h514
      case h513 =>
       refine' qs_if ?h515 ?h516 qss_nil
       case h515 =>
        refine' qt_cmpR (ko_eqD K rfl hu64) (qv 3) ?h517 (nomark _)
        case h517 =>
         exact qe_lst qa_nil
       case h516 =>
        refine' qss_one ?h518
        case h518 =>
         exact qs_ret qe_non
      case h514 =>
       refine' qss_one ?h519
       case h519 =>
        refine' qs_ret ?h520
        case h520 =>
         refine' qe_tup ?h521
         case h521 =>
          refine' qa_c ?h522 ?h523
          case h522 =>
           exact qe_ix (kx_list K rfl) (qv 3) qe_int
          case h523 =>
           refine' qa_c ?h524 ?h525
           case h524 =>
            refine' qe_ix (kx_list K rfl) (qv 3) ?h526
            case h526 =>
             exact qe_un un_neg qe_int
           case h525 =>
            refine' qa_c ?h527 ?h528
            case h527 =>
             refine' qe_callS (ok_l_first T) hr rfl T.m_l_first T.F_l_first.kp T.b_l_first .nil pass0 ?h529
             case h529 =>
              refine' qa_c (qv 3) ?h530
              case h530 =>
               exact qa_c qe_int qa_nil
            case h528 =>
             refine' qa_c ?h531 qa_nil
             case h531 =>
              refine' qe_callS (ok_l_first T) hr rfl T.m_l_first T.F_l_first.kp T.b_l_first .nil pass0 ?h532
              case h532 =>
               refine' qa_c (qv 3) ?h533
               case h533 =>
                refine' qa_c ?h534 qa_nil
                case h534 =>
                 exact qe_un un_neg qe_int
    case rr =>
    simp only [L2.start, List.length_cons, List.length_nil, List.map_cons, List.map_nil, Nat.reduceAdd, Nat.reduceSub, List.replicate_succ, List.replicate_zero, List.cons_append, List.nil_append]
    repeat walk_at "rd"
    intro l n1
    refine comp_by cv.length (fun i' σ' H' => (∃ o, σ' = [o, some (.int x), some (.int z)]) ∧ Same H H' ∧ ∃ vs, H' l = some (.lst vs) ∧ PairsAt H' vs (inCol (cv.take i') x z)) ?_ ?_ ?_
    · exact ⟨⟨none, rfl⟩, Same.new n1, [], upd_same, .nil⟩
    · rintro σ' H2 ⟨_, S2, vs2, f2, hP2⟩
      refine ⟨⟨_, SqT.of (S2 _ _ gT), by rw [hul]; exact Nat.le_refl _⟩, ?_⟩
      rw [List.take_length] at hP2
      repeat walk_at "rd"
      refine rd_new (by show 0 ≤ sizeLine; decide) fun l3 H3 n3 f3 S3 => ?_
      refine rd_eqPL (l := inCol cv x z) (m := []) ⟨vs2, S3 _ _ f2, hP2.same S3⟩ ⟨[], f3, .nil⟩ ?_
      repeat walk_at "rd"
      have S03 := S2.trans S3
      refine iteD (fun hne => ?_) (fun hne => ?_)
      · repeat walk_at "rd"
        exact k _ none H3 .non (.inl ⟨rfl, hne⟩) S03
      · have hL3 : PrL H3 l (inCol cv x z) := ⟨vs2, S3 _ _ f2, hP2.same S3⟩
        have hvl : vs2.length = (inCol cv x z).length := hP2.length
        have hpos : 0 < (inCol cv x z).length := List.length_pos_iff.mpr hne
        have fl3 := S3 _ _ f2
        have hP3 := hP2.same S3
        obtain ⟨c0, q0, ec0, hq0, hc0⟩ := hP3.at (List.getElem?_eq_getElem (show 0 < vs2.length by omega))
        obtain ⟨c1, q1, ec1, hq1, hc1⟩ := hP3.at (List.getElem?_eq_getElem (show vs2.length - 1 < vs2.length by omega))
        have hx0 : vs2[0]? = some (.ref c0) := by rw [List.getElem?_eq_getElem (show 0 < vs2.length by omega), ec0]
        have hx1 : vs2[vs2.length - 1]? = some (.ref c1) := by rw [List.getElem?_eq_getElem (show vs2.length - 1 < vs2.length by omega), ec1]
        repeat walk_at "rd"
        refine rd_ixL (SqL.of fl3) (atI_nat (j := 0) hx0) ?_
        repeat walk_at "rd"
        refine rd_ixL (SqL.of fl3) (atI_end hx1) ?_
        repeat walk_at "rd"
        refine ⟨l, _, 1, rfl, hL3, hne, .inl rfl, fun c2 q2 hc2 hm2' hle2 => ?_⟩
        repeat walk_at "rd"
        refine ⟨l, _, -1, rfl, hL3, hne, .inr rfl, fun c3 q3 hc3 hm3' hle3 => ?_⟩
        repeat walk_at "rd"
        refine rd_new (by show 4 ≤ sizeLine; decide) fun c4 H4 n4 f4 S4 => ?_
        have hac : Asc (inCol cv x z) := Asc.inCol hasc
        have hP4 : PairsAt H4 [.ref c0, .ref c1, .ref c2, .ref c3] [q0, q1, q2, q3] := .cons ⟨c0, rfl, S4 _ _ hc0⟩ (.cons ⟨c1, rfl, S4 _ _ hc1⟩ (.cons ⟨c2, rfl, S4 _ _ hc2⟩ (.cons ⟨c3, rfl, S4 _ _ hc3⟩ .nil)))
        have hm0' : q0 ∈ inCol cv x z := List.mem_of_getElem? hq0
        have hm1' : q1 ∈ inCol cv x z := List.mem_of_getElem? hq1
        refine k _ (some [q0, q1, q2, q3]) H4 (.pr ⟨_, f4, hP4⟩ rfl) (.inr ⟨q0, q1, q2, q3, rfl, ?_, ?_⟩) (S03.trans S4)
        · intro r hr
          simp only [List.mem_cons, List.not_mem_nil, or_false] at hr
          rcases hr with rfl | rfl | rfl | rfl <;> assumption
        · intro p hpc
          obtain ⟨j, hj, rfl⟩ := List.getElem_of_mem hpc
          refine ⟨?_, ?_, ?_, ?_⟩
          · obtain ⟨z0, e0⟩ := List.getElem?_eq_some_iff.mp hq0
            by_cases hj0 : j = 0
            · subst hj0; rw [e0]; exact Int.le_refl _
            · have := asc_lt hac z0 hj (by omega)
              rw [e0] at this
              omega
          · obtain ⟨z1, e1⟩ := List.getElem?_eq_some_iff.mp hq1
            by_cases hj0 : j = vs2.length - 1
            · subst hj0; rw [e1]; exact Int.le_refl _
            · have := asc_lt hac hj z1 (by omega)
              rw [e1] at this
              omega
          · have := hle2 _ hpc
            rw [Int.mul_one, Int.mul_one] at this
            exact this
          · have := hle3 _ hpc
            omega
    · rintro i' σ' H2 hi' ⟨⟨o, rfl⟩, S2, vs, f, hPc⟩
      have hi2 : i' < us.length := by rw [hul]; exact hi'
      refine ⟨⟨_, _, SqT.of (S2 _ _ gT), List.getElem?_eq_getElem hi2⟩, ?_⟩
      rintro v H'' ⟨rfl, hv⟩
      have hv := hv _ (SqT.of (S2 _ _ gT))
      obtain ⟨c, q1, rfl, hq1, hc⟩ := (pT.same S2).at hv
      have e3 : cv.take (i' + 1) = cv.take i' ++ [q1] := by
        rw [List.take_succ, hq1]
        rfl
      have e4 : inCol (cv.take (i' + 1)) x z = inCol (cv.take i') x z ++ (if (decide (x ≤ q1.1) && decide (q1.1 < z)) = true then [q1] else []) := by
        rw [e3, inCol, List.filter_append]
        congr 1
        simp only [List.filter_cons, List.filter_nil]
      repeat walk_at "rd"
      refine iteD (fun h1 => ?_) (fun h1 => ?_)
      · repeat walk_at "rd"
        refine iteD (fun h2 => ?_) (fun h2 => ?_)
        · repeat walk_at "rd"
          refine ⟨vs, f, ?_, ⟨_, rfl⟩, ?_, ?_⟩
          · have e := hPc.length
            rw [e]
            refine Nat.lt_of_le_of_lt (List.length_filter_le _ _) ?_
            rw [List.length_take]
            exact Nat.lt_of_le_of_lt (Nat.min_le_left _ _) (Nat.lt_of_lt_of_le (Nat.lt_of_lt_of_le hi' hlen) (by decide))
          · exact S2.kpN n1 Kp.upd
          · refine ⟨_, upd_same, ?_⟩
            rw [e4, decide_eq_true h1, decide_eq_true h2, Bool.and_self, if_pos rfl]
            exact PairsAt.kpL Kp.upd f (hPc.snoc hc)
        · refine ⟨⟨_, rfl⟩, S2, vs, f, ?_⟩
          rw [e4, decide_eq_false h2, Bool.and_false, if_neg (by decide), List.append_nil]
          exact hPc
      · repeat walk_at "rd"
        refine iteF ?_
        refine ⟨⟨_, rfl⟩, S2, vs, f, ?_⟩
        rw [e4, decide_eq_false h1, Bool.false_and, if_neg (by decide), List.append_nil]
        exact hPc
end
section
variable {P : Program} {w : World} {K : PySem.W.Frag} {mg : Str → Option Value} {base : Heap} {a : Ad}
def spLaw (K : PySem.W.Frag) : Sp := fun vs H Q _ => ∃ (s : Addr) (ns : List Int), vs = [.ref s] ∧ SqL K H s (ns.map V.int) ∧ ns.length ≤ 63 ∧ ∀ H', Q (.bl true) H'
theorem sc_law : FnScope ["_law_script", "_law_k", "_law_purse_here", "_law_window_here", "_law_far_here", "_law_curve_here", "_law_heights_here", "_law_begin", "_law_wide", "_law_many", "_law_ends", "_law_fours", "_law_kept", "_law_found"] ["_law_script"] (defScope s_law) := ⟨rfl, rfl, rfl, by decide +kernel, rfl, by decide +kernel, by decide +kernel⟩
theorem ok_law (T : Txt K mg a) : FnOk P w K mg base CX0 7 a.f_law a.d_law ["_law_script"] (spLaw K) := by
  refine T.F_law.ok sc_law (fun vs H Q E h => ?_) (fun cdv A outer s H vs Q E hr h => ?_)
  · obtain ⟨s, ns, rfl, _⟩ := h
    rfl
  · obtain ⟨s, ns, rfl, hS, hn, k⟩ := h
    have hu64 := hr.units
    have hgd := hr.gd
    refine' ⟨_, QB.h ?pp, ?rr⟩
    case pp =>
     refine' qss_cons ?h535 ?h536
     case h535 =>
      refine' qs_for PassesOwn.never rfl ?h537 (qg_name (i := 1) sc_law.nd rfl (by first | exact Or.inl rfl | exact Or.inr rfl)) ?h538
      case h537 =>
       refine' qi_range1 rfl T.z_range ?h539
       case h539 =>
        refine' qa_c ?h540 qa_nil
        case h540 =>
         refine' qe_callBS (ca_max rfl) rfl T.z_max bt_max ?h541
         case h541 =>
          refine' qa_c qe_int ?h542
          case h542 =>
           refine' qa_c ?h543 qa_nil
           case h543 =>
            refine' qe_callBS (ca_min rfl) rfl T.z_min bt_min ?h544
            case h544 =>
             refine' qa_c ?h545 ?h546
             case h545 =>
              refine' qe_callBS (kc_len K rfl) rfl T.z_len bt_len ?h547
              case h547 =>
               exact qa_c (qv 0) qa_nil
             case h546 =>
              exact qa_c qe_int qa_nil
      case h538 =>
       refine' qss_cons ?h548 ?h549
       case h548 =>
        refine' qs_setS (i := 2) sc_law.nd rfl (by first | exact Or.inl rfl | exact Or.inr rfl) ?h550
        case h550 =>
         refine' qe_callS (ok_l_purse T) (hr.mono (by decide)) rfl T.m_l_purse T.F_l_purse.kp T.b_l_purse .nil pass0 ?h551
         case h551 =>
          refine' qa_c ?h552 ?h553
          case h552 =>
           refine' qe_callS (ok_l_cell T) (hr.mono (by decide)) rfl T.m_l_cell T.F_l_cell.kp T.b_l_cell .nil pass0 ?h554
           case h554 =>
            refine' qa_c (qv 0) ?h555
            case h555 =>
             exact qa_c (qv 1) qa_nil
          case h553 =>
           exact qa_c (qv 1) qa_nil
       case h549 =>
        refine' qss_cons ?h556 ?h557
        case h556 =>
         refine' qs_setS (i := 3) sc_law.nd rfl (by first | exact Or.inl rfl | exact Or.inr rfl) ?h558
         case h558 =>
          refine' qe_callS (ok_l_window T) (hr.mono (by decide)) rfl T.m_l_window T.F_l_window.kp T.b_l_window .nil pass0 ?h559
          case h559 =>
           exact qa_c (qv 2) qa_nil
        case h557 =>
         refine' qss_cons ?h560 ?h561
         case h560 =>
          refine' qs_setS (i := 4) sc_law.nd rfl (by first | exact Or.inl rfl | exact Or.inr rfl) ?h562
          case h562 =>
           refine' qe_callS (ok_l_far T) (hr.mono (by decide)) rfl T.m_l_far T.F_l_far.kp T.b_l_far .nil pass0 ?h563
           case h563 =>
            exact qa_c (qv 2) qa_nil
         case h561 =>
          refine' qss_cons ?h564 ?h565
          case h564 =>
           refine' qs_setS (i := 5) sc_law.nd rfl (by first | exact Or.inl rfl | exact Or.inr rfl) ?h566
           case h566 =>
            refine' qe_callS (ok_l_curve T) (hr.mono (by decide)) rfl T.m_l_curve T.F_l_curve.kp T.b_l_curve .nil pass0 ?h567
            case h567 =>
             refine' qa_c (qv 2) ?h568
             case h568 =>
              refine' qa_c (qv 3) ?h569
              case h569 =>
               exact qa_c (qv 4) qa_nil
          case h565 =>
           refine' qss_cons ?h570 ?h571
           case h570 =>
            refine' qs_setS (i := 6) sc_law.nd rfl (by first | exact Or.inl rfl | exact Or.inr rfl) ?h572
            case h572 =>
             refine' qe_callS (ok_l_heights T) (hr.mono (by decide)) rfl T.m_l_heights T.F_l_heights.kp T.b_l_heights .nil pass0 ?h573
             case h573 =>
              refine' qa_c (qv 2) ?h574
              case h574 =>
               exact qa_c (qv 4) qa_nil
           case h571 =>
            refine' qss_cons ?h575 ?h576
            case h575 =>
             refine' qs_asg (qv 3) ?h577
             case h577 =>
              refine' kg_tup (n := 3) K rfl rfl ?h578
              case h578 =>
               refine' qgs_cons (qg_name (i := 7) sc_law.nd rfl (by first | exact Or.inl rfl | exact Or.inr rfl)) ?h579
               case h579 =>
                refine' qgs_cons (qg_name (i := 8) sc_law.nd rfl (by first | exact Or.inl rfl | exact Or.inr rfl)) ?h580
                case h580 =>
                 exact qgs_cons (qg_name (i := 9) sc_law.nd rfl (by first | exact Or.inl rfl | exact Or.inr rfl)) qgs_nil
            case h576 =>
             refine' qss_cons ?h581 ?h582
             case h581 =>
              refine' qs_setC (N := ["_law_script", "_law_k", "_law_purse_here", "_law_window_here", "_law_far_here", "_law_curve_here", "_law_heights_here", "_law_begin", "_law_wide", "_law_many", "_law_ends", "_law_fours", "_law_kept", "_law_found"]) (sc := defScope s_law) (own := ["_law_j"]) (caps := ["_law_begin", "_law_wide"]) (ks := [7, 8]) (i := 10) rfl rfl rfl ⟨rfl, by decide +kernel, by decide +kernel, by decide +kernel, by decide +kernel, rfl, by decide +kernel⟩ sc_law.nd rfl (by first | exact Or.inl rfl | exact Or.inr rfl) ?h583 ?h584 ?h585 ?h586
              case h583 =>
               refine' qi_range1 rfl T.z_range ?h587
               case h587 =>
                exact qa_c (qv 9) qa_nil
              case h584 =>
               intro _ _ _ _ _
               exact qg_name (i := 0) (show List.Nodup (α := Str) ["_law_j", "_law_begin", "_law_wide"] from by decide +kernel) rfl (by first | exact Or.inl rfl | exact Or.inr rfl) (.inr rfl)
              case h585 =>
               intro _ _ _ _ _
               exact qifs_nil
              case h586 =>
               intro _ _ _ _ _
               refine' qe_op op_add (qv 1) ?h588
               case h588 =>
                exact qe_op op_mulG (qv 0) (qv 2)
             case h582 =>
              refine' qss_cons ?h589 ?h590
              case h589 =>
               refine' qs_setS (i := 11) sc_law.nd rfl (by first | exact Or.inl rfl | exact Or.inr rfl) ?h591
               case h591 =>
                refine' qe_callTyS (kc_tuple K rfl) rfl T.z_tuple bt_tuple ?h592
                case h592 =>
                 refine' qa_c ?h593 qa_nil
                 case h593 =>
                  refine' qe_comp (N := ["_law_script", "_law_k", "_law_purse_here", "_law_window_here", "_law_far_here", "_law_curve_here", "_law_heights_here", "_law_begin", "_law_wide", "_law_many", "_law_ends", "_law_fours", "_law_kept", "_law_found"]) (sc := defScope s_law) (own := ["_law_x"]) (caps := ["_law_curve_here", "_law_wide"]) (ks := [5, 8]) rfl rfl rfl ⟨rfl, by decide +kernel, by decide +kernel, by decide +kernel, by decide +kernel, rfl, by decide +kernel⟩ ?h594 ?h595 ?h596 ?h597
                  case h594 =>
                   exact ki_list K rfl (qv 10)
                  case h595 =>
                   intro _ _ _ _ _
                   exact qg_name (i := 0) (show List.Nodup (α := Str) ["_law_x", "_law_curve_here", "_law_wide"] from by decide +kernel) rfl (by first | exact Or.inl rfl | exact Or.inr rfl) (.inr rfl)
                  case h596 =>
                   intro _ _ _ _ _
                   exact qifs_nil
                  case h597 =>
                   intro _ _ _ _ _
                   refine' qe_callS (ok_l_four T) (hr.mono (by decide)) rfl T.m_l_four T.F_l_four.kp T.b_l_four .nil pass0 ?h598
                   case h598 =>
                    refine' qa_c (qv 1) ?h599
                    case h599 =>
                     refine' qa_c (qv 0) ?h600
                     case h600 =>
                      refine' qa_c ?h601 qa_nil
                      case h601 =>
                       exact qe_op op_add (qv 0) (qv 2)
              case h590 =>
               refine' qss_cons ?h602 ?h603
               case h602 =>
                refine' qs_setS (i := 12) sc_law.nd rfl (by first | exact Or.inl rfl | exact Or.inr rfl) ?h604
                case h604 =>
                 refine' qe_callBS (kc_repr K rfl hgd hu64) rfl T.z_repr bt_repr ?h605
                 case h605 =>
                  exact qa_c (qv 11) qa_nil
               case h603 =>
                refine' qss_cons ?h606 ?h607
                case h606 =>
                 refine' qs_setS (i := 13) sc_law.nd rfl (by first | exact Or.inl rfl | exact Or.inr rfl) ?h608
                 case h608 =>
                  refine' qe_callS (ok_dots_by T) hr rfl T.m_dots_by T.F_dots_by.kp T.b_dots_by .nil pass0 ?h609
                  case h609 =>
                   refine' qa_c (qv 11) ?h610
                   case h610 =>
                    refine' qa_c (qv 3) ?h611
                    case h611 =>
                     exact qa_c (qv 6) qa_nil
                case h607 =>
                 refine' qss_one ?h612
                 case h612 =>
                  refine' qs_if ?h613 ?h614 qss_nil
                  case h613 =>
                   refine' QW.pt ?h615
                   case h615 =>
                    refine' qw_or ?h616 ?h617
                    case h616 =>
                     refine' qt_cmpR (ko_neD K rfl hu64) (qv 13) ?h618 (nomark _)
                     case h618 =>
                      refine' qe_callS (ok_dots_of T) (hr.mono (by decide)) rfl T.m_dots_of T.F_dots_of.kp T.b_dots_of .nil pass0 ?h619
                      case h619 =>
                       refine' qa_c (qv 5) ?h620
                       case h620 =>
                        refine' qa_c (qv 3) ?h621
                        case h621 =>
                         exact qa_c (qv 6) qa_nil
                    case h617 =>
                     refine' qw_or1 ?h622
                     case h622 =>
                      refine' qt_cmpR (op_ne) ?h623 (qv 12) (nomark _)
                      case h623 =>
                       refine' qe_callBS (kc_repr K rfl hgd hu64) rfl T.z_repr bt_repr ?h624
                       case h624 =>
                        exact qa_c (qv 11) qa_nil
                  case h614 =>
                   refine' qss_one ?h625
                   case h625 =>
                    exact qs_ret qe_bl
     case h536 =>
      refine' qss_one ?h626
      case h626 =>
       exact qs_ret qe_bl
    case rr =>
    simp only [L2.start, List.length_cons, List.length_nil, List.map_cons, List.map_nil, Nat.reduceAdd, Nat.reduceSub, List.replicate_succ, List.replicate_zero, List.cons_append, List.nil_append]
    repeat walk_at "rd"
    generalize hj : (if (if (12 : Int) < ((ns.map V.int).length : Int) then (12 : Int) else ((ns.map V.int).length : Int)) > 1 then (if (12 : Int) < ((ns.map V.int).length : Int) then (12 : Int) else ((ns.map V.int).length : Int)) else 1) = j
    have hj1 : 1 ≤ j := by rw [← hj]; split <;> omega
    have hj2 : j ≤ 12 := by rw [← hj]; split <;> (try split) <;> omega
    refine rd_rng (by omega) (by omega) (rd_forR (fun i σ H' => (∃ v1 v2 v3 v4 v5 v6 v7 v8 v9 v10 v11 v12 v13, σ = [some (.ref s), v1, v2, v3, v4, v5, v6, v7, v8, v9, v10, v11, v12, v13]) ∧ Same H H') ⟨⟨_, _, _, _, _, _, _, _, _, _, _, _, _, rfl⟩, Same.refl H⟩ ?_ ?_)
    · rintro i σ H1 hi ⟨⟨v1, v2, v3, v4, v5, v6, v7, v8, v9, v10, v11, v12, v13, rfl⟩, S1⟩
      have hi2 : (i : Int) < 12 := by omega
      repeat walk_at "rd"
      refine ⟨s, ns, _, rfl, S1.seq hS, by omega, ?_⟩
      repeat walk_at "rd"
      refine ⟨_, _, rfl, by omega, by omega, fun p H2 n2 P2 S2 => ?_⟩
      repeat walk_at "rd"
      refine ⟨p, rfl, P2, fun q b y m H3 n3 f3 hb1 hb2 hy1 hy2 hm1 hm2 P3 K3 => ?_⟩
      repeat walk_at "rd"
      refine ⟨p, rfl, P3, fun x H4 hx1 hx2 P4 K4 => ?_⟩
      have f4 := K4 _ _ f3 (P3.ne_tup f3)
      repeat walk_at "rd"
      refine ⟨p, q, b, y, m, x, rfl, P4, f4, hb1, hb2, hy1, hy2, hm1, hm2, hx1, hx2, fun t cv H5 hT5 hasc hbp hlen P5 K5 => ?_⟩
      have f5 := K5 _ _ f4 (P4.ne_tup f4)
      repeat walk_at "rd"
      refine ⟨p, x, rfl, P5, hx1, hx2, fun c low tall rows H6 hh6 P6 K6 => ?_⟩
      have f6 := K6 _ _ f5 (P5.ne_tup f5)
      have hT6 : PrT H6 t cv := P5.prT hT5 K6
      have hW : Win H6 q b y m := ⟨f6, Bn.of (Int.lt_of_le_of_lt (show (-(2 ^ 190) : Int) ≤ -(10 ^ 50) - 10 by decide) hb1) (Int.lt_of_lt_of_le hb2 (by decide)), hy1, Bn.of (Int.lt_of_lt_of_le (by decide) (Int.le_of_lt hy1)) (Int.lt_of_le_of_lt hy2 (by decide)), hm1, by omega⟩
      have S16 : Same H1 H6 := (((((Kp.same S2).trans K3).trans K4).trans K5).trans K6).fresh n2
      repeat walk_at "rd"
      refine rd_rng (by omega) (by omega) ?_
      intro l7 n7
      refine comp_by m.toNat (fun i σ' H' => (∃ o, σ' = [o, some (.int b), some (.int y)]) ∧ Same H6 H' ∧ H' l7 = some (.lst (((List.range i).map fun (j : Nat) => b + (j : Int) * y).map V.int))) ?_ ?_ ?_
      · exact ⟨⟨none, rfl⟩, Same.new n7, upd_same⟩
      · rintro σ' H7 ⟨_, S7, f7⟩
        refine ⟨Nat.le_refl _, ?_⟩
        repeat walk_at "rd"
        intro l8 n8
        refine comp_by m.toNat (fun i σ' H' => (∃ o, σ' = [o, some (.ref t), some (.int y)]) ∧ Same H7 H' ∧ ∃ vs fs, H' l8 = some (.lst vs) ∧ Fours H' vs fs ∧ fs.length = i ∧ ∀ (k : Nat) o, fs[k]? = some o → FourOk cv (b + (k : Int) * y) (b + (k : Int) * y + y) o) ?_ ?_ ?_
        · exact ⟨⟨none, rfl⟩, Same.new n8, [], [], upd_same, .nil, rfl, fun k o h => by simp at h⟩
        · rintro σ'' H8 ⟨_, S8, vs, fs, f8, hF8, hfl, hO8⟩
          refine ⟨⟨_, SqL.of (S8 _ _ f7), by simp⟩, ?_⟩
          have hFO : FoursOk cv b y m fs := ⟨hfl, hO8⟩
          repeat walk_at "rd"
          refine rd_tupL (SqL.of f8) fun u H9 n9 f9 S9 => ?_
          have hF9 := hF8.same S9
          have S69 : Same H6 H9 := S7.trans (S8.trans S9)
          have hsh := fours_shown (os := fs) (fun qs hq => ?_) (by rw [hfl]; omega)
          rotate_left
          · obtain ⟨k', hk', hall⟩ := hFO.mem hq
            obtain ⟨i3, hi3, e3⟩ := List.getElem_of_mem hq
            rcases hO8 i3 _ (by rw [List.getElem?_eq_getElem hi3, e3]) with ⟨z, _⟩ | ⟨q0, q1, q2, q3, e4, _, _⟩
            · cases z
            · obtain rfl := Option.some.inj e4
              exact ⟨rfl, fun r hr => hbp r (hall r hr).1⟩
          repeat walk_at "rd"
          refine rd_repr (d := .tuple (fs.map fourD)) (.tup (SqT.of f9) hF9.dats) hsh.1 hsh.2.1 hsh.2.2.1 hsh.2.2.2 ?_
          repeat walk_at "rd"
          refine ⟨u, q, c, vs, fs, cv, b, y, m, low, tall, rows, rfl, f9, hF9, hFO, by omega, hW.same S69, hh6.same S69, hasc, hbp, fun u2 vs2 os2 kp H10 f10 hD10 hak hkept hO10 S10 => ?_⟩
          repeat walk_at "rd"
          have S610 := S69.trans S10
          refine ⟨t, q, c, cv, b, y, m, low, tall, rows, rfl, hT6.same S610, hW.same S610, hh6.same S610, hasc, hbp, by omega, fun u3 vs3 os3 H11 f11 hD11 hO11 S11 => ?_⟩
          have hO : DotsOk kp b y m low tall rows os3 := ⟨hO11.1, fun k' o hk => by
            have hlt := (List.getElem?_eq_some_iff.mp hk).1
            rw [hO11.1] at hlt
            exact kept_dots hy1 hh6.2.2.1 hasc hak hkept (by omega) (by omega) (hO11.2 k' o hk)⟩
          obtain rfl := hO.unique hO10
          refine rd_neDots (S11 _ _ f10) (hD10.same S11) f11 hD11 ?_
          repeat walk_at "rd"
          refine iteF ?_
          repeat walk_at "rd"
          have S911 := S10.trans S11
          refine rd_repr (d := .tuple (fs.map fourD)) (.tup (SqT.of (S911 _ _ f9)) (hF9.same S911).dats) hsh.1 hsh.2.1 hsh.2.2.1 hsh.2.2.2 ?_
          repeat walk_at "rd"
          refine rd_neS ?_
          repeat walk_at "rd"
          refine iteND (fun h => absurd rfl h) (fun _ => ?_)
          repeat walk_at "rd"
          exact ⟨⟨_, _, _, _, _, _, _, _, _, _, _, _, _, rfl⟩, S1.trans (S16.trans (S69.trans S911))⟩
        · rintro i' σ'' H8 hi' ⟨⟨o, rfl⟩, S8, vs, fs, f8, hF8, hfl, hO8⟩
          have hx0 : (((List.range m.toNat).map fun (j : Nat) => b + (j : Int) * y).map V.int)[i']? = some (.int (b + (i' : Int) * y)) := by
            rw [List.getElem?_map, List.getElem?_map, List.getElem?_range hi']
            rfl
          refine ⟨⟨_, _, SqL.of (S8 _ _ f7), hx0⟩, ?_⟩
          rintro xv H'' ⟨rfl, hx⟩
          have hx := hx _ (SqL.of (S8 _ _ f7))
          rw [hx0] at hx
          obtain rfl := Option.some.inj hx
          repeat walk_at "rd"
          refine iteT ?_
          repeat walk_at "rd"
          refine ⟨t, cv, _, _, rfl, (hT6.same S7).same S8, hasc, by omega, fun v o2 H9 hd9 hO9 S9 => ?_⟩
          have f9 := S9 _ _ f8
          refine ⟨vs, f9, ?_, ⟨_, rfl⟩, (S8.trans S9).kpN n8 Kp.upd, vs ++ [v], fs ++ [o2], upd_same, ?_, by simp [hfl], ?_⟩
          · rw [hF8.len, hfl]
            exact Nat.lt_of_lt_of_le hi' (Nat.le_trans (show m.toNat ≤ 1000 by omega) (by decide))
          · exact ((hF8.same S9).snoc hd9).mapP fun _ _ d => d.kpL Kp.upd f9
          · intro k' o' h'
            rw [List.getElem?_append] at h'
            split at h'
            · exact hO8 k' o' h'
            · have : k' = i' := by
                have := (List.getElem?_eq_some_iff.mp h').1
                simp at this
                omega
              subst this
              rw [hfl, Nat.sub_self] at h'
              have : o2 = o' := by simpa using h'
              subst this
              exact hO9
      · rintro i' σ' H7 hi' ⟨⟨o, rfl⟩, S7, f7⟩
        refine ⟨hi', ?_⟩
        rintro xv H'' ⟨rfl, rfl⟩
        repeat walk_at "rd"
        refine iteT ?_
        repeat walk_at "rd"
        refine ⟨_, f7, ?_, ⟨_, rfl⟩, S7.kpN n7 Kp.upd, ?_⟩
        · rw [List.length_map, List.length_map, List.length_range]
          exact Nat.lt_of_lt_of_le hi' (Nat.le_trans (show m.toNat ≤ 1000 by omega) (by decide))
        · rw [upd_same, List.range_succ, List.map_append, List.map_append]
          simp only [List.map_cons, List.map_nil, Int.zero_add]
    · rintro σ H1 ⟨⟨v1, v2, v3, v4, v5, v6, v7, v8, v9, v10, v11, v12, v13, rfl⟩, S1⟩
      repeat walk_at "rd"
      exact k H1
end
theorem all_mk {l : PySem.W.OpenLaw} {w : World} {K : PySem.W.Frag} {h : Heap} {mg : Str → Option Value} {fa : Addr} (X : K.In h) (G : h.Ns mainGlobals mg) (hfa : mg "law" = some (.ref fa))
    {f0 : Addr} {od0 an0 : Option Addr} {sl0 : Array (Option Value)} {oc0 kV0 dc0 pm0 cd0 ct0 : Value}
    {f1 : Addr} {od1 an1 : Option Addr} {sl1 : Array (Option Value)} {oc1 kV1 dc1 pm1 cd1 ct1 : Value}
    {f2 : Addr} {od2 an2 : Option Addr} {sl2 : Array (Option Value)} {oc2 kV2 dc2 pm2 cd2 ct2 : Value}
    {f3 : Addr} {od3 an3 : Option Addr} {sl3 : Array (Option Value)} {oc3 kV3 dc3 pm3 cd3 ct3 : Value}
    {f4 : Addr} {od4 an4 : Option Addr} {sl4 : Array (Option Value)} {oc4 kV4 dc4 pm4 cd4 ct4 : Value}
    {f5 : Addr} {od5 an5 : Option Addr} {sl5 : Array (Option Value)} {oc5 kV5 dc5 pm5 cd5 ct5 : Value}
    {f6 : Addr} {od6 an6 : Option Addr} {sl6 : Array (Option Value)} {oc6 kV6 dc6 pm6 cd6 ct6 : Value}
    {f7 : Addr} {od7 an7 : Option Addr} {sl7 : Array (Option Value)} {oc7 kV7 dc7 pm7 cd7 ct7 : Value}
    {f8 : Addr} {od8 an8 : Option Addr} {sl8 : Array (Option Value)} {oc8 kV8 dc8 pm8 cd8 ct8 : Value}
    {f9 : Addr} {od9 an9 : Option Addr} {sl9 : Array (Option Value)} {oc9 kV9 dc9 pm9 cd9 ct9 : Value}
    {f10 : Addr} {od10 an10 : Option Addr} {sl10 : Array (Option Value)} {oc10 kV10 dc10 pm10 cd10 ct10 : Value}
    {f11 : Addr} {od11 an11 : Option Addr} {sl11 : Array (Option Value)} {oc11 kV11 dc11 pm11 cd11 ct11 : Value}
    {f12 : Addr} {od12 an12 : Option Addr} {sl12 : Array (Option Value)} {oc12 kV12 dc12 pm12 cd12 ct12 : Value}
    {f13 : Addr} {od13 an13 : Option Addr} {sl13 : Array (Option Value)} {oc13 kV13 dc13 pm13 cd13 ct13 : Value}
    {f14 : Addr} {od14 an14 : Option Addr} {sl14 : Array (Option Value)} {oc14 kV14 dc14 pm14 cd14 ct14 : Value}
    {f15 : Addr} {od15 an15 : Option Addr} {sl15 : Array (Option Value)} {oc15 kV15 dc15 pm15 cd15 ct15 : Value}
    {f16 : Addr} {od16 an16 : Option Addr} {sl16 : Array (Option Value)} {oc16 kV16 dc16 pm16 cd16 ct16 : Value}
    {f17 : Addr} {od17 an17 : Option Addr} {sl17 : Array (Option Value)} {oc17 kV17 dc17 pm17 cd17 ct17 : Value}
    {f18 : Addr} {od18 an18 : Option Addr} {sl18 : Array (Option Value)} {oc18 kV18 dc18 pm18 cd18 ct18 : Value}
    {f19 : Addr} {od19 an19 : Option Addr} {sl19 : Array (Option Value)} {oc19 kV19 dc19 pm19 cd19 ct19 : Value}
    {f20 : Addr} {od20 an20 : Option Addr} {sl20 : Array (Option Value)} {oc20 kV20 dc20 pm20 cd20 ct20 : Value}
    {f21 : Addr} {od21 an21 : Option Addr} {sl21 : Array (Option Value)} {oc21 kV21 dc21 pm21 cd21 ct21 : Value}
    (a0 : PySem.W.nsIn K mainGlobals "is_whole" = some (some (.ref f0))) (l0 : K.lookup f0 = some ⟨oc0, od0, .func (PySem.W.fnOf "is_whole" "is_whole" (defArgs s_is_whole) (defBody s_is_whole) (defScope s_is_whole) .none kV0 dc0 pm0 an0 cd0 ct0), sl0⟩) (c0 : PySem.W.codeIn K cd0 "is_whole" = true) (k0 : PySem.W.keepIn K (.ref f0) = true)
    (a1 : PySem.W.nsIn K mainGlobals "curve_of" = some (some (.ref f1))) (l1 : K.lookup f1 = some ⟨oc1, od1, .func (PySem.W.fnOf "curve_of" "curve_of" (defArgs s_curve_of) (defBody s_curve_of) (defScope s_curve_of) .none kV1 dc1 pm1 an1 cd1 ct1), sl1⟩) (c1 : PySem.W.codeIn K cd1 "curve_of" = true) (k1 : PySem.W.keepIn K (.ref f1) = true)
    (a2 : PySem.W.nsIn K mainGlobals "part_of" = some (some (.ref f2))) (l2 : K.lookup f2 = some ⟨oc2, od2, .func (PySem.W.fnOf "part_of" "part_of" (defArgs s_part_of) (defBody s_part_of) (defScope s_part_of) .none kV2 dc2 pm2 an2 cd2 ct2), sl2⟩) (c2 : PySem.W.codeIn K cd2 "part_of" = true) (k2 : PySem.W.keepIn K (.ref f2) = true)
    (a3 : PySem.W.nsIn K mainGlobals "times_of" = some (some (.ref f3))) (l3 : K.lookup f3 = some ⟨oc3, od3, .func (PySem.W.fnOf "times_of" "times_of" (defArgs s_times_of) (defBody s_times_of) (defScope s_times_of) .none kV3 dc3 pm3 an3 cd3 ct3), sl3⟩) (c3 : PySem.W.codeIn K cd3 "times_of" = true) (k3 : PySem.W.keepIn K (.ref f3) = true)
    (a4 : PySem.W.nsIn K mainGlobals "columns_of" = some (some (.ref f4))) (l4 : K.lookup f4 = some ⟨oc4, od4, .func (PySem.W.fnOf "columns_of" "columns_of" (defArgs s_columns_of) (defBody s_columns_of) (defScope s_columns_of) .none kV4 dc4 pm4 an4 cd4 ct4), sl4⟩) (c4 : PySem.W.codeIn K cd4 "columns_of" = true) (k4 : PySem.W.keepIn K (.ref f4) = true)
    (a5 : PySem.W.nsIn K mainGlobals "kept_of" = some (some (.ref f5))) (l5 : K.lookup f5 = some ⟨oc5, od5, .func (PySem.W.fnOf "kept_of" "kept_of" (defArgs s_kept_of) (defBody s_kept_of) (defScope s_kept_of) .none kV5 dc5 pm5 an5 cd5 ct5), sl5⟩) (c5 : PySem.W.codeIn K cd5 "kept_of" = true) (k5 : PySem.W.keepIn K (.ref f5) = true)
    (a6 : PySem.W.nsIn K mainGlobals "dots_of" = some (some (.ref f6))) (l6 : K.lookup f6 = some ⟨oc6, od6, .func (PySem.W.fnOf "dots_of" "dots_of" (defArgs s_dots_of) (defBody s_dots_of) (defScope s_dots_of) .none kV6 dc6 pm6 an6 cd6 ct6), sl6⟩) (c6 : PySem.W.codeIn K cd6 "dots_of" = true) (k6 : PySem.W.keepIn K (.ref f6) = true)
    (a7 : PySem.W.nsIn K mainGlobals "dots_by" = some (some (.ref f7))) (l7 : K.lookup f7 = some ⟨oc7, od7, .func (PySem.W.fnOf "dots_by" "dots_by" (defArgs s_dots_by) (defBody s_dots_by) (defScope s_dots_by) .none kV7 dc7 pm7 an7 cd7 ct7), sl7⟩) (c7 : PySem.W.codeIn K cd7 "dots_by" = true) (k7 : PySem.W.keepIn K (.ref f7) = true)
    (a8 : PySem.W.nsIn K mainGlobals "column_dots" = some (some (.ref f8))) (l8 : K.lookup f8 = some ⟨oc8, od8, .func (PySem.W.fnOf "column_dots" "column_dots" (defArgs s_column_dots) (defBody s_column_dots) (defScope s_column_dots) .none kV8 dc8 pm8 an8 cd8 ct8), sl8⟩) (c8 : PySem.W.codeIn K cd8 "column_dots" = true) (k8 : PySem.W.keepIn K (.ref f8) = true)
    (a9 : PySem.W.nsIn K mainGlobals "rows_met" = some (some (.ref f9))) (l9 : K.lookup f9 = some ⟨oc9, od9, .func (PySem.W.fnOf "rows_met" "rows_met" (defArgs s_rows_met) (defBody s_rows_met) (defScope s_rows_met) .none kV9 dc9 pm9 an9 cd9 ct9), sl9⟩) (c9 : PySem.W.codeIn K cd9 "rows_met" = true) (k9 : PySem.W.keepIn K (.ref f9) = true)
    (a10 : PySem.W.nsIn K mainGlobals "row_at" = some (some (.ref f10))) (l10 : K.lookup f10 = some ⟨oc10, od10, .func (PySem.W.fnOf "row_at" "row_at" (defArgs s_row_at) (defBody s_row_at) (defScope s_row_at) .none kV10 dc10 pm10 an10 cd10 ct10), sl10⟩) (c10 : PySem.W.codeIn K cd10 "row_at" = true) (k10 : PySem.W.keepIn K (.ref f10) = true)
    (a11 : PySem.W.nsIn K mainGlobals "row_of" = some (some (.ref f11))) (l11 : K.lookup f11 = some ⟨oc11, od11, .func (PySem.W.fnOf "row_of" "row_of" (defArgs s_row_of) (defBody s_row_of) (defScope s_row_of) .none kV11 dc11 pm11 an11 cd11 ct11), sl11⟩) (c11 : PySem.W.codeIn K cd11 "row_of" = true) (k11 : PySem.W.keepIn K (.ref f11) = true)
    (a12 : PySem.W.nsIn K mainGlobals "_law_cell" = some (some (.ref f12))) (l12 : K.lookup f12 = some ⟨oc12, od12, .func (PySem.W.fnOf "_law_cell" "_law_cell" (defArgs s_l_cell) (defBody s_l_cell) (defScope s_l_cell) .none kV12 dc12 pm12 an12 cd12 ct12), sl12⟩) (c12 : PySem.W.codeIn K cd12 "_law_cell" = true) (k12 : PySem.W.keepIn K (.ref f12) = true)
    (a13 : PySem.W.nsIn K mainGlobals "_law_purse" = some (some (.ref f13))) (l13 : K.lookup f13 = some ⟨oc13, od13, .func (PySem.W.fnOf "_law_purse" "_law_purse" (defArgs s_l_purse) (defBody s_l_purse) (defScope s_l_purse) .none kV13 dc13 pm13 an13 cd13 ct13), sl13⟩) (c13 : PySem.W.codeIn K cd13 "_law_purse" = true) (k13 : PySem.W.keepIn K (.ref f13) = true)
    (a14 : PySem.W.nsIn K mainGlobals "_law_draw" = some (some (.ref f14))) (l14 : K.lookup f14 = some ⟨oc14, od14, .func (PySem.W.fnOf "_law_draw" "_law_draw" (defArgs s_l_draw) (defBody s_l_draw) (defScope s_l_draw) .none kV14 dc14 pm14 an14 cd14 ct14), sl14⟩) (c14 : PySem.W.codeIn K cd14 "_law_draw" = true) (k14 : PySem.W.keepIn K (.ref f14) = true)
    (a15 : PySem.W.nsIn K mainGlobals "_law_far" = some (some (.ref f15))) (l15 : K.lookup f15 = some ⟨oc15, od15, .func (PySem.W.fnOf "_law_far" "_law_far" (defArgs s_l_far) (defBody s_l_far) (defScope s_l_far) .none kV15 dc15 pm15 an15 cd15 ct15), sl15⟩) (c15 : PySem.W.codeIn K cd15 "_law_far" = true) (k15 : PySem.W.keepIn K (.ref f15) = true)
    (a16 : PySem.W.nsIn K mainGlobals "_law_window" = some (some (.ref f16))) (l16 : K.lookup f16 = some ⟨oc16, od16, .func (PySem.W.fnOf "_law_window" "_law_window" (defArgs s_l_window) (defBody s_l_window) (defScope s_l_window) .none kV16 dc16 pm16 an16 cd16 ct16), sl16⟩) (c16 : PySem.W.codeIn K cd16 "_law_window" = true) (k16 : PySem.W.keepIn K (.ref f16) = true)
    (a17 : PySem.W.nsIn K mainGlobals "_law_curve" = some (some (.ref f17))) (l17 : K.lookup f17 = some ⟨oc17, od17, .func (PySem.W.fnOf "_law_curve" "_law_curve" (defArgs s_l_curve) (defBody s_l_curve) (defScope s_l_curve) .none kV17 dc17 pm17 an17 cd17 ct17), sl17⟩) (c17 : PySem.W.codeIn K cd17 "_law_curve" = true) (k17 : PySem.W.keepIn K (.ref f17) = true)
    (a18 : PySem.W.nsIn K mainGlobals "_law_heights" = some (some (.ref f18))) (l18 : K.lookup f18 = some ⟨oc18, od18, .func (PySem.W.fnOf "_law_heights" "_law_heights" (defArgs s_l_heights) (defBody s_l_heights) (defScope s_l_heights) .none kV18 dc18 pm18 an18 cd18 ct18), sl18⟩) (c18 : PySem.W.codeIn K cd18 "_law_heights" = true) (k18 : PySem.W.keepIn K (.ref f18) = true)
    (a19 : PySem.W.nsIn K mainGlobals "_law_first" = some (some (.ref f19))) (l19 : K.lookup f19 = some ⟨oc19, od19, .func (PySem.W.fnOf "_law_first" "_law_first" (defArgs s_l_first) (defBody s_l_first) (defScope s_l_first) .none kV19 dc19 pm19 an19 cd19 ct19), sl19⟩) (c19 : PySem.W.codeIn K cd19 "_law_first" = true) (k19 : PySem.W.keepIn K (.ref f19) = true)
    (a20 : PySem.W.nsIn K mainGlobals "_law_four" = some (some (.ref f20))) (l20 : K.lookup f20 = some ⟨oc20, od20, .func (PySem.W.fnOf "_law_four" "_law_four" (defArgs s_l_four) (defBody s_l_four) (defScope s_l_four) .none kV20 dc20 pm20 an20 cd20 ct20), sl20⟩) (c20 : PySem.W.codeIn K cd20 "_law_four" = true) (k20 : PySem.W.keepIn K (.ref f20) = true)
    (a21 : PySem.W.nsIn K mainGlobals "law" = some (some (.ref f21))) (l21 : K.lookup f21 = some ⟨oc21, od21, .func (PySem.W.fnOf "law" "law" (defArgs s_law) (defBody s_law) (defScope s_law) .none kV21 dc21 pm21 an21 cd21 ct21), sl21⟩) (c21 : PySem.W.codeIn K cd21 "law" = true) (k21 : PySem.W.keepIn K (.ref f21) = true)
    (z_ValueError : PySem.W.nsIn K mainGlobals "ValueError" = some none)
    (z_abs : PySem.W.nsIn K mainGlobals "abs" = some none)
    (z_bool : PySem.W.nsIn K mainGlobals "bool" = some none)
    (z_int : PySem.W.nsIn K mainGlobals "int" = some none)
    (z_isinstance : PySem.W.nsIn K mainGlobals "isinstance" = some none)
    (z_len : PySem.W.nsIn K mainGlobals "len" = some none)
    (z_max : PySem.W.nsIn K mainGlobals "max" = some none)
    (z_min : PySem.W.nsIn K mainGlobals "min" = some none)
    (z_range : PySem.W.nsIn K mainGlobals "range" = some none)
    (z_repr : PySem.W.nsIn K mainGlobals "repr" = some none)
    (z_sorted : PySem.W.nsIn K mainGlobals "sorted" = some none)
    (z_tuple : PySem.W.nsIn K mainGlobals "tuple" = some none)
    (z_zip : PySem.W.nsIn K mainGlobals "zip" = some none)
    : ∃ fd : FuncData, (∀ (s : Shared) (v : Value), BindsTo s fd ⟨[v], []⟩ [("_law_script", v)]) ∧ ∀ base : Heap, K.In base → base.Ns mainGlobals mg → FnOk l.prog w K mg base CX0 7 fa fd ["_law_script"] (spLaw K) := by
  have e := hfa.symm.trans (PySem.W.mg_of X G a21)
  cases e
  have F0 := fun_mk (st := s_is_whole) l0 c0 k0
  have F1 := fun_mk (st := s_curve_of) l1 c1 k1
  have F2 := fun_mk (st := s_part_of) l2 c2 k2
  have F3 := fun_mk (st := s_times_of) l3 c3 k3
  have F4 := fun_mk (st := s_columns_of) l4 c4 k4
  have F5 := fun_mk (st := s_kept_of) l5 c5 k5
  have F6 := fun_mk (st := s_dots_of) l6 c6 k6
  have F7 := fun_mk (st := s_dots_by) l7 c7 k7
  have F8 := fun_mk (st := s_column_dots) l8 c8 k8
  have F9 := fun_mk (st := s_rows_met) l9 c9 k9
  have F10 := fun_mk (st := s_row_at) l10 c10 k10
  have F11 := fun_mk (st := s_row_of) l11 c11 k11
  have F12 := fun_mk (st := s_l_cell) l12 c12 k12
  have F13 := fun_mk (st := s_l_purse) l13 c13 k13
  have F14 := fun_mk (st := s_l_draw) l14 c14 k14
  have F15 := fun_mk (st := s_l_far) l15 c15 k15
  have F16 := fun_mk (st := s_l_window) l16 c16 k16
  have F17 := fun_mk (st := s_l_curve) l17 c17 k17
  have F18 := fun_mk (st := s_l_heights) l18 c18 k18
  have F19 := fun_mk (st := s_l_first) l19 c19 k19
  have F20 := fun_mk (st := s_l_four) l20 c20 k20
  have F21 := fun_mk (st := s_law) l21 c21 k21
  have T : Txt K mg ⟨f0, PySem.W.fnOf "is_whole" "is_whole" (defArgs s_is_whole) (defBody s_is_whole) (defScope s_is_whole) .none kV0 dc0 pm0 an0 cd0 ct0, f1, PySem.W.fnOf "curve_of" "curve_of" (defArgs s_curve_of) (defBody s_curve_of) (defScope s_curve_of) .none kV1 dc1 pm1 an1 cd1 ct1, f2, PySem.W.fnOf "part_of" "part_of" (defArgs s_part_of) (defBody s_part_of) (defScope s_part_of) .none kV2 dc2 pm2 an2 cd2 ct2, f3, PySem.W.fnOf "times_of" "times_of" (defArgs s_times_of) (defBody s_times_of) (defScope s_times_of) .none kV3 dc3 pm3 an3 cd3 ct3, f4, PySem.W.fnOf "columns_of" "columns_of" (defArgs s_columns_of) (defBody s_columns_of) (defScope s_columns_of) .none kV4 dc4 pm4 an4 cd4 ct4, f5, PySem.W.fnOf "kept_of" "kept_of" (defArgs s_kept_of) (defBody s_kept_of) (defScope s_kept_of) .none kV5 dc5 pm5 an5 cd5 ct5, f6, PySem.W.fnOf "dots_of" "dots_of" (defArgs s_dots_of) (defBody s_dots_of) (defScope s_dots_of) .none kV6 dc6 pm6 an6 cd6 ct6, f7, PySem.W.fnOf "dots_by" "dots_by" (defArgs s_dots_by) (defBody s_dots_by) (defScope s_dots_by) .none kV7 dc7 pm7 an7 cd7 ct7, f8, PySem.W.fnOf "column_dots" "column_dots" (defArgs s_column_dots) (defBody s_column_dots) (defScope s_column_dots) .none kV8 dc8 pm8 an8 cd8 ct8, f9, PySem.W.fnOf "rows_met" "rows_met" (defArgs s_rows_met) (defBody s_rows_met) (defScope s_rows_met) .none kV9 dc9 pm9 an9 cd9 ct9, f10, PySem.W.fnOf "row_at" "row_at" (defArgs s_row_at) (defBody s_row_at) (defScope s_row_at) .none kV10 dc10 pm10 an10 cd10 ct10, f11, PySem.W.fnOf "row_of" "row_of" (defArgs s_row_of) (defBody s_row_of) (defScope s_row_of) .none kV11 dc11 pm11 an11 cd11 ct11, f12, PySem.W.fnOf "_law_cell" "_law_cell" (defArgs s_l_cell) (defBody s_l_cell) (defScope s_l_cell) .none kV12 dc12 pm12 an12 cd12 ct12, f13, PySem.W.fnOf "_law_purse" "_law_purse" (defArgs s_l_purse) (defBody s_l_purse) (defScope s_l_purse) .none kV13 dc13 pm13 an13 cd13 ct13, f14, PySem.W.fnOf "_law_draw" "_law_draw" (defArgs s_l_draw) (defBody s_l_draw) (defScope s_l_draw) .none kV14 dc14 pm14 an14 cd14 ct14, f15, PySem.W.fnOf "_law_far" "_law_far" (defArgs s_l_far) (defBody s_l_far) (defScope s_l_far) .none kV15 dc15 pm15 an15 cd15 ct15, f16, PySem.W.fnOf "_law_window" "_law_window" (defArgs s_l_window) (defBody s_l_window) (defScope s_l_window) .none kV16 dc16 pm16 an16 cd16 ct16, f17, PySem.W.fnOf "_law_curve" "_law_curve" (defArgs s_l_curve) (defBody s_l_curve) (defScope s_l_curve) .none kV17 dc17 pm17 an17 cd17 ct17, f18, PySem.W.fnOf "_law_heights" "_law_heights" (defArgs s_l_heights) (defBody s_l_heights) (defScope s_l_heights) .none kV18 dc18 pm18 an18 cd18 ct18, f19, PySem.W.fnOf "_law_first" "_law_first" (defArgs s_l_first) (defBody s_l_first) (defScope s_l_first) .none kV19 dc19 pm19 an19 cd19 ct19, f20, PySem.W.fnOf "_law_four" "_law_four" (defArgs s_l_four) (defBody s_l_four) (defScope s_l_four) .none kV20 dc20 pm20 an20 cd20 ct20, fa, PySem.W.fnOf "law" "law" (defArgs s_law) (defBody s_law) (defScope s_law) .none kV21 dc21 pm21 an21 cd21 ct21⟩ := ⟨F0,
    (F0.binds (ps := ["thing"]) fun _ _ _ _ _ _ us hl => match us, hl with | [_], _ => rfl),
    (PySem.W.mg_of X G a0),
    F1,
    (F1.binds (ps := ["samples"]) fun _ _ _ _ _ _ us hl => match us, hl with | [_], _ => rfl),
    (PySem.W.mg_of X G a1),
    F2,
    (F2.binds (ps := ["curve", "begin", "end"]) fun _ _ _ _ _ _ us hl => match us, hl with | [_, _, _], _ => rfl),
    (PySem.W.mg_of X G a2),
    F3,
    (F3.binds (ps := ["window", "k"]) fun _ _ _ _ _ _ us hl => match us, hl with | [_, _], _ => rfl),
    (PySem.W.mg_of X G a3),
    F4,
    (F4.binds (ps := ["window"]) fun _ _ _ _ _ _ us hl => match us, hl with | [_], _ => rfl),
    (PySem.W.mg_of X G a4),
    F5,
    (F5.binds (ps := ["fours"]) fun _ _ _ _ _ _ us hl => match us, hl with | [_], _ => rfl),
    (PySem.W.mg_of X G a5),
    F6,
    (F6.binds (ps := ["curve", "window", "heights"]) fun _ _ _ _ _ _ us hl => match us, hl with | [_, _, _], _ => rfl),
    (PySem.W.mg_of X G a6),
    F7,
    (F7.binds (ps := ["fours", "window", "heights"]) fun _ _ _ _ _ _ us hl => match us, hl with | [_, _, _], _ => rfl),
    (PySem.W.mg_of X G a7),
    F8,
    (F8.binds (ps := ["samples", "times", "heights"]) fun _ _ _ _ _ _ us hl => match us, hl with | [_, _, _], _ => rfl),
    (PySem.W.mg_of X G a8),
    F9,
    (F9.binds (ps := ["samples", "times", "heights"]) fun _ _ _ _ _ _ us hl => match us, hl with | [_, _, _], _ => rfl),
    (PySem.W.mg_of X G a9),
    F10,
    (F10.binds (ps := ["one", "other", "t", "heights"]) fun _ _ _ _ _ _ us hl => match us, hl with | [_, _, _, _], _ => rfl),
    (PySem.W.mg_of X G a10),
    F11,
    (F11.binds (ps := ["height", "parts", "heights"]) fun _ _ _ _ _ _ us hl => match us, hl with | [_, _, _], _ => rfl),
    (PySem.W.mg_of X G a11),
    F12,
    (F12.binds (ps := ["_law_script", "_law_k"]) fun _ _ _ _ _ _ us hl => match us, hl with | [_, _], _ => rfl),
    (PySem.W.mg_of X G a12),
    F13,
    (F13.binds (ps := ["_law_cell_here", "_law_k"]) fun _ _ _ _ _ _ us hl => match us, hl with | [_, _], _ => rfl),
    (PySem.W.mg_of X G a13),
    F14,
    (F14.binds (ps := ["_law_purse_here", "_law_many"]) fun _ _ _ _ _ _ us hl => match us, hl with | [_, _], _ => rfl),
    (PySem.W.mg_of X G a14),
    F15,
    (F15.binds (ps := ["_law_purse_here"]) fun _ _ _ _ _ _ us hl => match us, hl with | [_], _ => rfl),
    (PySem.W.mg_of X G a15),
    F16,
    (F16.binds (ps := ["_law_purse_here"]) fun _ _ _ _ _ _ us hl => match us, hl with | [_], _ => rfl),
    (PySem.W.mg_of X G a16),
    F17,
    (F17.binds (ps := ["_law_purse_here", "_law_window_here", "_law_far_here"]) fun _ _ _ _ _ _ us hl => match us, hl with | [_, _, _], _ => rfl),
    (PySem.W.mg_of X G a17),
    F18,
    (F18.binds (ps := ["_law_purse_here", "_law_far_here"]) fun _ _ _ _ _ _ us hl => match us, hl with | [_, _], _ => rfl),
    (PySem.W.mg_of X G a18),
    F19,
    (F19.binds (ps := ["_law_samples", "_law_sign"]) fun _ _ _ _ _ _ us hl => match us, hl with | [_, _], _ => rfl),
    (PySem.W.mg_of X G a19),
    F20,
    (F20.binds (ps := ["_law_curve_here", "_law_x", "_law_z"]) fun _ _ _ _ _ _ us hl => match us, hl with | [_, _, _], _ => rfl),
    (PySem.W.mg_of X G a20),
    F21,
    (F21.binds (ps := ["_law_script"]) fun _ _ _ _ _ _ us hl => match us, hl with | [_], _ => rfl),
    (PySem.W.mg_of X G a21),
    (PySem.W.mg_none_of X G z_ValueError),
    (PySem.W.mg_none_of X G z_abs),
    (PySem.W.mg_none_of X G z_bool),
    (PySem.W.mg_none_of X G z_int),
    (PySem.W.mg_none_of X G z_isinstance),
    (PySem.W.mg_none_of X G z_len),
    (PySem.W.mg_none_of X G z_max),
    (PySem.W.mg_none_of X G z_min),
    (PySem.W.mg_none_of X G z_range),
    (PySem.W.mg_none_of X G z_repr),
    (PySem.W.mg_none_of X G z_sorted),
    (PySem.W.mg_none_of X G z_tuple),
    (PySem.W.mg_none_of X G z_zip)⟩
  exact ⟨PySem.W.fnOf "law" "law" (defArgs s_law) (defBody s_law) (defScope s_law) .none kV21 dc21 pm21 an21 cd21 ct21, fun s v => .of_eq rfl, fun base _ _ => ok_law T⟩
theorem walk {l : PySem.W.OpenLaw} {q : Program} {loose : List Str} {XP : (Str → Option Value) → Heap → Prop} {YP : World → Heap → Prop} {d : DefRec} {K : Params → PySem.W.Frag} (hn : l.most = some 63) (hdf : d.params.defaults = [])
    (hY : ∀ (w : World) (h : Heap), YP w h → (K w.params).In h)
    (F : ∀ (w : World) (mg : Str → Option Value) (fa : Addr) (h : Heap), (K w.params).In h → h.Ns mainGlobals mg → mg d.name = some (.ref fa) →
      ∃ fd : FuncData, (∀ (s : Shared) (u : Value), BindsTo s fd ⟨[u], []⟩ [("_law_script", u)]) ∧ ∀ base : Heap, (K w.params).In base → base.Ns mainGlobals mg → FnOk l.prog w (K w.params) mg base CX0 7 fa fd ["_law_script"] (spLaw (K w.params))) :
    PySem.W.WalkO q loose XP YP l.row.toRowW d [] (fun f vs => PySem.call f vs) :=
  L2.walk_of (n := 63) (k := 7) (x := "_law_script") (CX := fun _ => CX0) (sp := fun w => spLaw (K w.params)) hn (by decide) hdf ⟨rfl, by decide, by decide, rfl⟩ hY F (fun _ _ a ns hl _ hS => ⟨a, ns, rfl, hS, hl, fun _ => rfl⟩) fun _ _ _ _ _ z => z
end My
open PySem PySem.W PyProof.Rows
set_option maxRecDepth 100000 in
set_option maxHeartbeats 0 in
theorem PySem.Challenge.cw_fourpoints_k44_dots_by_fours_holds : PySem.Challenge.rw_fourpoints_k44_dots_by_fours.Holds := by
  w_on; o_law; k_head; (case hw => w_witness2)
  k_fill
  refine My.walk (l := PySem.Challenge.rw_fourpoints_k44_dots_by_fours) rfl rfl (fun w h Y => PySem.W.kIn_of Y) ?F
  case F =>
    intro w mg fa h KX G hmg
    refine' My.all_mk KX G hmg ?a0 ?l0 ?c0 ?k0 ?a1 ?l1 ?c1 ?k1 ?a2 ?l2 ?c2 ?k2 ?a3 ?l3 ?c3 ?k3 ?a4 ?l4 ?c4 ?k4 ?a5 ?l5 ?c5 ?k5 ?a6 ?l6 ?c6 ?k6 ?a7 ?l7 ?c7 ?k7 ?a8 ?l8 ?c8 ?k8 ?a9 ?l9 ?c9 ?k9 ?a10 ?l10 ?c10 ?k10 ?a11 ?l11 ?c11 ?k11 ?a12 ?l12 ?c12 ?k12 ?a13 ?l13 ?c13 ?k13 ?a14 ?l14 ?c14 ?k14 ?a15 ?l15 ?c15 ?k15 ?a16 ?l16 ?c16 ?k16 ?a17 ?l17 ?c17 ?k17 ?a18 ?l18 ?c18 ?k18 ?a19 ?l19 ?c19 ?k19 ?a20 ?l20 ?c20 ?k20 ?a21 ?l21 ?c21 ?k21 ?z_ValueError ?z_abs ?z_bool ?z_int ?z_isinstance ?z_len ?z_max ?z_min ?z_range ?z_repr ?z_sorted ?z_tuple ?z_zip
    (case a0 => k_is)
    (case l0 => k_is)
    (case c0 => k_is)
    (case k0 => k_is)
    (case a1 => k_is)
    (case l1 => k_is)
    (case c1 => k_is)
    (case k1 => k_is)
    (case a2 => k_is)
    (case l2 => k_is)
    (case c2 => k_is)
    (case k2 => k_is)
    (case a3 => k_is)
    (case l3 => k_is)
    (case c3 => k_is)
    (case k3 => k_is)
    (case a4 => k_is)
    (case l4 => k_is)
    (case c4 => k_is)
    (case k4 => k_is)
    (case a5 => k_is)
    (case l5 => k_is)
    (case c5 => k_is)
    (case k5 => k_is)
    (case a6 => k_is)
    (case l6 => k_is)
    (case c6 => k_is)
    (case k6 => k_is)
    (case a7 => k_is)
    (case l7 => k_is)
    (case c7 => k_is)
    (case k7 => k_is)
    (case a8 => k_is)
    (case l8 => k_is)
    (case c8 => k_is)
    (case k8 => k_is)
    (case a9 => k_is)
    (case l9 => k_is)
    (case c9 => k_is)
    (case k9 => k_is)
    (case a10 => k_is)
    (case l10 => k_is)
    (case c10 => k_is)
    (case k10 => k_is)
    (case a11 => k_is)
    (case l11 => k_is)
    (case c11 => k_is)
    (case k11 => k_is)
    (case a12 => k_is)
    (case l12 => k_is)
    (case c12 => k_is)
    (case k12 => k_is)
    (case a13 => k_is)
    (case l13 => k_is)
    (case c13 => k_is)
    (case k13 => k_is)
    (case a14 => k_is)
    (case l14 => k_is)
    (case c14 => k_is)
    (case k14 => k_is)
    (case a15 => k_is)
    (case l15 => k_is)
    (case c15 => k_is)
    (case k15 => k_is)
    (case a16 => k_is)
    (case l16 => k_is)
    (case c16 => k_is)
    (case k16 => k_is)
    (case a17 => k_is)
    (case l17 => k_is)
    (case c17 => k_is)
    (case k17 => k_is)
    (case a18 => k_is)
    (case l18 => k_is)
    (case c18 => k_is)
    (case k18 => k_is)
    (case a19 => k_is)
    (case l19 => k_is)
    (case c19 => k_is)
    (case k19 => k_is)
    (case a20 => k_is)
    (case l20 => k_is)
    (case c20 => k_is)
    (case k20 => k_is)
    (case a21 => k_is)
    (case l21 => k_is)
    (case c21 => k_is)
    (case k21 => k_is)
    (case z_ValueError => k_is)
    (case z_abs => k_is)
    (case z_bool => k_is)
    (case z_int => k_is)
    (case z_isinstance => k_is)
    (case z_len => k_is)
    (case z_max => k_is)
    (case z_min => k_is)
    (case z_range => k_is)
    (case z_repr => k_is)
    (case z_sorted => k_is)
    (case z_tuple => k_is)
    (case z_zip => k_is)

