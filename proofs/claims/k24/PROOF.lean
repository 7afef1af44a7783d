import PyProof.Rows.All
import Wide.All
import OpenK.AllK
import Wide.FinOn
import Lean
import PyProof.EqAt
import PyProof.EqKinds
import PyProof.TupleCall
import KE.KSortTup
import PyProof.CollectWalk
import PyProof.DictWalks
import PyProof.Rows.SortWalk
import KE.KItemsList
import PyProof.ReprText
import PyProof.Rows.StrIntSpec
import PyProof.RowDictHeap
import KE.KRevIter
import KE.KMinKey
import PyProof.P3In
import PySem.Challenge.RW_fourpoints_k24_windows_refused
-- CHANGE: your row's module here, as the last of these rows
set_option Elab.async false
set_option linter.all false
set_option maxRecDepth 100000
/-! THE HAND LAYER, for ints, bools, texts, own classes, LISTS and tuples (index, slices, in, append, pop ..), calls, loops. Paste it whole ahead of your own text; what your proof does not reach may be deleted. -/
namespace L2
open PySem PySem.Spec PyProof.Rows

/-- a key: an int or a str -/
abbrev Key := Sum Int Str
def keyIs : Key → Value → Bool
  | .inl k, v => Value.isInt k v
  | .inr x, v => Value.isStrOf x v
def keyH (w : World) : Key → Int
  | .inl k => hashInt k
  | .inr x => hashStr w x
theorem keyIs_shape : ∀ {k : Key} {v : Value}, keyIs k v = true → (∃ i t, k = Sum.inl i ∧ v = Value.int i t) ∨ (∃ x t, k = Sum.inr x ∧ v = Value.str x t)
  | .inl i, v, h => by
    obtain ⟨t, e⟩ := Value.isInt_shape (k := i) (v := v) h
    exact .inl ⟨i, t, rfl, e⟩
  | .inr x, v, h => by
    obtain ⟨t, e⟩ := Value.isStrOf_shape (x := x) (v := v) h
    exact .inr ⟨x, t, rfl, e⟩
theorem key_ll (a b : Int) : decide ((Sum.inl a : Key) = Sum.inl b) = (a == b) := by
  by_cases e : a = b
  · subst e; simp
  · have h : ¬ (Sum.inl a : Key) = Sum.inl b := fun q => e (Sum.inl.inj q)
    rw [decide_eq_false h]
    exact (beq_eq_false_iff_ne.mpr e).symm
theorem key_rr (a b : Str) : decide ((Sum.inr a : Key) = Sum.inr b) = decide (a = b) := by
  by_cases e : a = b
  · subst e; simp
  · have h : ¬ (Sum.inr a : Key) = Sum.inr b := fun q => e (Sum.inr.inj q)
    rw [decide_eq_false h, decide_eq_false e]
theorem key_lr (a : Int) (b : Str) : decide ((Sum.inl a : Key) = Sum.inr b) = false := decide_eq_false (fun q => nomatch q)
theorem key_rl (a : Str) (b : Int) : decide ((Sum.inr a : Key) = Sum.inl b) = false := decide_eq_false (fun q => nomatch q)

def mixKind (prog : Program) (w : World) : PySem.KeyKind prog w Key where
  is := keyIs
  hash := keyH w
  inj := fun v a b ha hb => by
    rcases keyIs_shape ha with ⟨i, t, rfl, rfl⟩ | ⟨x, t, rfl, rfl⟩
    · rcases keyIs_shape hb with ⟨j, u, rfl, e⟩ | ⟨y, u, rfl, e⟩
      · injection e with e1 _; rw [e1]
      · exact nomatch e
    · rcases keyIs_shape hb with ⟨j, u, rfl, e⟩ | ⟨y, u, rfl, e⟩
      · exact nomatch e
      · injection e with e1 _; rw [e1]
  byValue := fun k v h => by
    rcases keyIs_shape h with ⟨i, t, rfl, rfl⟩ | ⟨x, t, rfl, rfl⟩ <;> rfl
  pyHash := fun hv h => by
    rcases keyIs_shape hv with ⟨i, t, rfl, rfl⟩ | ⟨x, t, rfl, rfl⟩
    · exact wpAny_pyHash_int h
    · exact wpAny_pyHash_str h
  eqBool := fun hu hv h => by
    rcases keyIs_shape hu with ⟨i, t, rfl, rfl⟩ | ⟨x, t, rfl, rfl⟩
    · rcases keyIs_shape hv with ⟨j, u, rfl, rfl⟩ | ⟨y, u, rfl, rfl⟩
      · rw [key_ll] at h; exact wpAny_eqBool_int h
      · rw [key_lr] at h; exact SeqAt.EqAt.int_str i t y u _ _ _ _ h
    · rcases keyIs_shape hv with ⟨j, u, rfl, rfl⟩ | ⟨y, u, rfl, rfl⟩
      · rw [key_rl] at h; exact SeqAt.EqAt.str_int x t j u _ _ _ _ h
      · rw [key_rr] at h; exact wpAny_eqBool_str h
  «strs» := fun k x t v h => by
    rcases keyIs_shape h with ⟨i, u, rfl, e⟩ | ⟨y, u, rfl, e⟩
    · exact nomatch e
    · injection e with e1 _
      subst e1
      cases v <;> rfl

end L2

namespace L2
open PySem PySem.Spec PyProof.Rows

/-- a value, without the heap -/
inductive V where
  | non | bl (b : Bool) | int (i : Int) | str (x : Str) | byt (b : Array UInt8) | flt (b : UInt64) | ref (a : Addr) | ty (n : String)
  deriving DecidableEq

def RelV : V → Value → Prop
  | .non, u => u = Value.none
  | .bl b, u => u = Value.bool b
  | .int i, u => ∃ t, u = Value.int i t
  | .str x, u => ∃ t, u = Value.str x t
  | .byt b, u => ∃ t, u = Value.bytes b t
  | .flt b, u => ∃ t, u = Value.float b t
  | .ref a, u => u = Value.ref a
  | .ty n, u => u = Value.type n

abbrev Vals : List V → List Value → Prop := Paired RelV
theorem Vals.length {xs : List V} {us : List Value} (r : Vals xs us) : xs.length = us.length := Paired.length r
theorem Vals.get : ∀ {xs : List V} {us : List Value} {i : Nat} {x : V}, Vals xs us → xs[i]? = some x → ∃ u, us[i]? = some u ∧ RelV x u
  | _, _, _, _, .nil, e => by simp at e
  | _, _, 0, _, .cons r _, e => by simp at e; subst e; exact ⟨_, rfl, r⟩
  | _, _, i + 1, x, .cons _ t, e => by
    obtain ⟨u, h1, h2⟩ := Vals.get (i := i) (x := x) t (by simpa using e)
    exact ⟨u, by simpa using h1, h2⟩
theorem Vals.set {x : V} {u : Value} (r : RelV x u) : ∀ {xs : List V} {us : List Value} (i : Nat), Vals xs us → Vals (xs.set i x) (us.set i u)
  | _, _, _, .nil => .nil
  | _, _, 0, .cons _ t => .cons r t
  | _, _, i + 1, .cons q t => .cons q (Vals.set r i t)
theorem Vals.append : ∀ {xs ys : List V} {us ws : List Value}, Vals xs us → Vals ys ws → Vals (xs ++ ys) (us ++ ws)
  | _, _, _, _, .nil, s => s
  | _, _, _, _, .cons r t, s => .cons r (Vals.append t s)
theorem Vals.take : ∀ {xs : List V} {us : List Value} (n : Nat), Vals xs us → Vals (xs.take n) (us.take n)
  | _, _, 0, _ => .nil
  | _, _, _ + 1, .nil => .nil
  | _, _, n + 1, .cons r t => .cons r (Vals.take n t)
def RelO : Option V → Option Value → Prop
  | some v, some u => RelV v u
  | none, none => True
  | _, _ => False
def KV {κ : Type} : List (κ × V) → List (κ × Value) → Prop := Paired fun (p : κ × V) (q : κ × Value) => p.1 = q.1 ∧ RelV p.2 q.2

/-- a key of a dict (00_mix): an int or a text -/
def kV : Key → V
  | .inl i => .int i
  | .inr x => .str x

/-- what stands at a tracked address -/
inductive HO where
  /-- a list -/
  | lst (xs : List V)
  /-- a tuple (never changes) -/
  | tup (xs : List V)
  /-- a dict whose keys are ints and texts; one whose keys are tuples of ints and texts (the empty one is both) -/
  | dK (kvs : List (Key × V)) | dT (kvs : List (List Key × V))
  /-- a set of ints: its members, its size -/
  | set (S : Int → Bool) (n : Nat)
  /-- an instance of the class at C, its dict at dx, its attributes -/
  | ins (C dx : Addr) (fs : List (Str × V))
  /-- the dict of the instance at x -/
  | own (x : Addr)
  /-- the dict of an exception -/
  | xd (fs : List (Str × V))
  /-- a bound method, f of x -/
  | met (f x : Addr)
  /-- a range object lo, lo + 1, .. below hi -/
  | rng (lo hi : Int)
  /-- a thing that is known to the object (the script; a dict while a loop walks it): read, never written while it is so -/
  | frz (o : Obj) (u : HO)
  /-- a code object's table -/
  | tbl (ps : Array Value)
  /-- any other thing, by what is true of its one object (a def of one's own: SetO a S n := HO.ext fun h => ..) -/
  | ext (φ : Heap → Prop)

abbrev Hp := Addr → Option HO
def upd (H : Hp) (a : Addr) (o : HO) : Hp := fun b => if b = a then some o else H b
theorem upd_same {H : Hp} {a : Addr} {o : HO} : upd H a o a = some o := by unfold upd; rw [if_pos rfl]
theorem upd_ne {H : Hp} {a b : Addr} {o : HO} (h : b ≠ a) : upd H a o b = H b := by unfold upd; rw [if_neg h]
theorem ne_of_none {H : Hp} {a b : Addr} {o : HO} (h : H a = some o) (h' : H b = none) : a ≠ b := by
  intro e; subst e; rw [h] at h'; cases h'

section
variable (P : Program) (w : World)
def ObjOk (H : Hp) (h : Heap) (a : Addr) : HO → Prop
  | .lst xs => xs.length ≤ sizeLine ∧ ∃ (its : List Value) (n : Nat), Vals xs its ∧ h.get? a = some { cls := .type "list", data := .seq its.toArray n }
  | .tup xs => (xs.length ≤ sizeLine ∧ ((∀ i : Int, xs.head? ≠ some (.int i)) → ∃ o, h.get? a = some o ∧ o.dict = none ∧ o.slots = #[])) ∧ ∃ its : List Value, Vals xs its ∧ IsTup h a its.toArray
  | .dK kvs => kvs.length ≤ sizeLine ∧ (a == sysModules) = false ∧ ∃ vs, KV kvs vs ∧ h.DictOf (mixKind P w) a vs
  | .dT kvs => kvs.length ≤ sizeLine ∧ (a == sysModules) = false ∧ ∃ xs : List (List Key × Addr × Value),
      Paired (fun (p : List Key × V) (q : List Key × Addr × Value) => p.1 = q.1 ∧ H q.2.1 = some (.tup (p.1.map kV)) ∧ RelV p.2 q.2.2) kvs xs ∧
      ∃ o es ep, h.get? a = some o ∧ o.ExactDict ∧ o.data = .dict es ep ∧ es.toList = xs.map (entryOfKey (tupleKind (mixKind P w))) ∧ (xs.map (·.1)).Nodup
  | .set S n => h.SetOf (intKind P w) a S n
  | .ins C dx fs => H dx = some (.own a) ∧ fs.length ≤ 1000 ∧ dx ≠ a ∧ h.get? a = some (PySem.W.instObj C dx) ∧
      ∃ mA, h.Ns1 dx mA ∧ (∀ f, RelO (fs.lookup f) (mA f)) ∧ PySem.Within mA (fs.map (·.1))
  | .own _ => ∃ o, h.get? a = some o
  | .xd fs => ∃ mA, h.Ns1 a mA ∧ ∀ f, RelO (fs.lookup f) (mA f)
  | .rng lo hi => ∃ t u v, h.get? a = some { cls := .type "range", data := .fields #[.int lo t, .int hi u, .int 1 v] }
  | .frz o u => h.get? a = some o ∧ ObjOk H h a u
  | .tbl ps => h.get? a = some { cls := .none, data := .fields ps }
  | .met f x => h.get? a = some (PySem.W.methodObj (.ref f) (.ref x))
  | .ext φ => φ h ∧ (∃ o, h.get? a = some o) ∧ ∀ h1 h2 : Heap, φ h1 → (∀ o, h1.get? a = some o → h2.get? a = some o) → φ h2
/-- the abstract heap is held -/
def HOk (H : Hp) (h : Heap) : Prop := ∀ a o, H a = some o → ObjOk P w H h a o
end

section
variable {P : Program} {w : World} {H H' : Hp} {h h' : Heap} {a : Addr} {o : HO}
theorem ObjOk.lt (x : ObjOk P w H h a o) : a < h.objs.size := by
  cases o with
  | lst xs => obtain ⟨_, _, _, _, e⟩ := x; exact Heap.lt_size e
  | tup xs => obtain ⟨_, _, _, p⟩ := x; exact p.lt
  | dK kvs => obtain ⟨_, _, _, _, o, _, _, e, _⟩ := x; exact Heap.lt_size e
  | dT kvs => obtain ⟨_, _, _, _, o, _, _, e, _⟩ := x; exact Heap.lt_size e
  | set S n => obtain ⟨o, _, _, _, e, _⟩ := x; exact Heap.lt_size e
  | ins C dx fs => obtain ⟨_, _, _, e, _⟩ := x; exact Heap.lt_size e
  | own y => obtain ⟨_, e⟩ := x; exact Heap.lt_size e
  | xd fs => obtain ⟨_, ⟨_, _, _, e, _⟩, _⟩ := x; exact Heap.lt_size e
  | rng lo hi => obtain ⟨_, _, _, e⟩ := x; exact Heap.lt_size e
  | frz ob u => obtain ⟨e, _⟩ := x; exact Heap.lt_size e
  | tbl ps => exact Heap.lt_size (show h.get? a = some _ from x)
  | met f y => exact Heap.lt_size (show h.get? a = some _ from x)
  | ext φ => obtain ⟨_, ⟨_, e⟩, _⟩ := x; exact Heap.lt_size e
theorem Paired.mapP {α β : Type} {F G : α → β → Prop} : ∀ {l₁ : List α} {l₂ : List β}, Paired F l₁ l₂ → (∀ a b, F a b → G a b) → Paired G l₁ l₂
  | _, _, .nil, _ => .nil
  | _, _, .cons r t, f => .cons (f _ _ r) (Paired.mapP t f)
/-- what an object's description leans on: its own object, its own dict, the tuples -/
theorem ObjOk.stay (x : ObjOk P w H h a o) (k : ∀ b u, (b = a ∨ H b = some (.own a)) → h.get? b = some u → h'.get? b = some u)
    (ho : ∀ b, H b = some (.own a) → H' b = some (.own a)) (ht : ∀ b xs, H b = some (.tup xs) → H' b = some (.tup xs)) : ObjOk P w H' h' a o := by
  induction o with
  | lst xs => obtain ⟨z, its, n, r, e⟩ := x; exact ⟨z, its, n, r, k _ _ (.inl rfl) e⟩
  | tup xs =>
    obtain ⟨⟨z, pd⟩, its, r, ob, e, c⟩ := x
    exact ⟨⟨z, fun q => let ⟨od, ed, cd⟩ := pd q; ⟨od, k _ _ (.inl rfl) ed, cd⟩⟩, its, r, ob, k _ _ (.inl rfl) e, c⟩
  | dK kvs => obtain ⟨z, y, vs, r, ob, es, ep, e, c⟩ := x; exact ⟨z, y, vs, r, ob, es, ep, k _ _ (.inl rfl) e, c⟩
  | dT kvs =>
    obtain ⟨z, y, xs, r, ob, es, ep, e, c⟩ := x
    exact ⟨z, y, xs, Paired.mapP r fun p q z => ⟨z.1, ht _ _ z.2.1, z.2.2⟩, ob, es, ep, k _ _ (.inl rfl) e, c⟩
  | set S n => obtain ⟨ob, es, ep, t, e, c⟩ := x; exact ⟨ob, es, ep, t, k _ _ (.inl rfl) e, c⟩
  | ins C dx fs =>
    obtain ⟨d, z, ne, e, mA, ⟨od, es, ep, e2, c⟩, r⟩ := x
    exact ⟨ho _ d, z, ne, k _ _ (.inl rfl) e, mA, ⟨od, es, ep, k _ _ (.inr d) e2, c⟩, r⟩
  | own y => obtain ⟨ob, e⟩ := x; exact ⟨ob, k _ _ (.inl rfl) e⟩
  | xd fs => obtain ⟨mA, ⟨od, es, ep, e, c⟩, r⟩ := x; exact ⟨mA, ⟨od, es, ep, k _ _ (.inl rfl) e, c⟩, r⟩
  | rng lo hi => obtain ⟨t, u, v, e⟩ := x; exact ⟨t, u, v, k _ _ (.inl rfl) e⟩
  | frz ob u ih => obtain ⟨e, q⟩ := x; exact ⟨k _ _ (.inl rfl) e, ih q⟩
  | tbl ps =>
    have e : h.get? a = some { cls := .none, data := .fields ps } := x
    show h'.get? a = some { cls := .none, data := .fields ps }
    exact k a _ (.inl rfl) e
  | met f y =>
    have e : h.get? a = some (PySem.W.methodObj (.ref f) (.ref y)) := x
    show h'.get? a = some (PySem.W.methodObj (.ref f) (.ref y))
    exact k a _ (.inl rfl) e
  | ext φ => obtain ⟨p, ⟨o, e⟩, st⟩ := x; exact ⟨st _ _ p fun o q => k _ _ (.inl rfl) q, ⟨o, k _ _ (.inl rfl) e⟩, st⟩
theorem HOk.lt (x : HOk P w H h) (e : H a = some o) : a < h.objs.size := (x a o e).lt
theorem HOk.fresh (x : HOk P w H h) (e : h.objs.size ≤ a) : H a = none := by
  cases q : H a with
  | none => rfl
  | some u => exact absurd (Nat.lt_of_lt_of_le (x.lt q) e) (Nat.lt_irrefl _)
/-- every object of the heap is kept -/
theorem HOk.kept (x : HOk P w H h) (k : ∀ b u, h.get? b = some u → h'.get? b = some u) : HOk P w H h' := fun a o e =>
  (x a o e).stay (fun b u _ q => k b u q) (fun _ q => q) fun _ _ q => q
/-- a new object is laid and tracked -/
theorem HOk.laid (x : HOk P w H h) (k : ∀ b u, h.get? b = some u → h'.get? b = some u) (hp : h.objs.size ≤ a) (new : ObjOk P w (upd H a o) h' a o) : HOk P w (upd H a o) h' := fun b u e => by
  have hn := x.fresh hp
  by_cases hb : b = a
  · subst hb; rw [upd_same] at e; cases e; exact new
  · rw [upd_ne hb] at e
    exact (x b u e).stay (fun c v _ q => k c v q) (fun c q => by rw [upd_ne (ne_of_none q hn)]; exact q) fun c xs q => by rw [upd_ne (ne_of_none q hn)]; exact q
end

/-- what may be read as u: it is u, or a known u -/
def Rd (H : Hp) (a : Addr) (u : HO) : Prop := H a = some u ∨ ∃ o, H a = some (.frz o u)
theorem Rd.of {H : Hp} {a : Addr} {u : HO} (h : H a = some u) : Rd H a u := .inl h
theorem Rd.ok {P : Program} {w : World} {H : Hp} {h : Heap} {a : Addr} {u : HO} (r : Rd H a u) (x : HOk P w H h) : ObjOk P w H h a u := by
  rcases r with r | ⟨o, r⟩
  · exact x a u r
  · obtain ⟨_, q⟩ := x a _ r
    exact q
/-- what may be written -/
def Mut : Option HO → Prop
  | some (.lst _) => True
  | some (.dK _) => True
  | some (.dT _) => True
  | some (.set _ _) => True
  | some (.ins _ _ _) => True
  | some (.ext _) => True
  | _ => False
section
variable {P : Program} {w : World} {H : Hp} {h h' : Heap} {x e : Addr} {o' : HO}
/-- the object at e is changed: x itself, or the dict of the instance x -/
theorem HOk.write (ok : HOk P w H h) (mu : Mut (H x)) (he : e = x ∨ H e = some (.own x)) (k : ∀ b u, b ≠ e → h.get? b = some u → h'.get? b = some u) (heo : ∃ u, h'.get? e = some u)
    (new : ObjOk P w (upd H x o') h' x o') : HOk P w (upd H x o') h' := fun b u q => by
  have nown : ∀ c y, H c = some (.own y) → c ≠ x := fun c y r z => by subst z; rw [r] at mu; exact mu
  have ntup : ∀ c xs, H c = some (.tup xs) → c ≠ x := fun c xs r z => by subst z; rw [r] at mu; exact mu
  by_cases hb : b = x
  · subst hb; rw [upd_same] at q; cases q; exact new
  · rw [upd_ne hb] at q
    by_cases hbe : b = e
    · have q' : H b = some (.own x) := by
        rcases he with z | z
        · exact absurd (hbe.trans z) hb
        · rw [hbe]; exact z
      rw [q] at q'; cases q'
      obtain ⟨v, hv⟩ := heo
      exact ⟨v, by rw [hbe]; exact hv⟩
    · refine (ok b u q).stay (fun c v hc r => k c v ?_ r) (fun c r => by rw [upd_ne (nown c b r)]; exact r) fun c xs r => by rw [upd_ne (ntup c xs r)]; exact r
      rcases hc with rfl | hc
      · exact hbe
      · rintro rfl
        rcases he with z | z
        · exact nown c b hc z
        · rw [hc] at z; cases z; exact hb rfl
end

/-! ### kept unless tracked; of the frames at fs (the callers') the slots may change (an exception that passes writes there); of the records at ex (iterators) nothing is said -/
structure Un (fs ex : List Addr) (H H' : Hp) (h h' : Heap) : Prop where
  keep : ∀ b o, h.get? b = some o → H b = none → b ∉ fs → b ∉ ex → h'.get? b = some o
  slot : ∀ b o, h.get? b = some o → H b = none → b ∈ fs → b ∉ ex → ∃ sl, h'.get? b = some { o with slots := sl }
  free : ∀ b o, h.get? b = some o → H b = none → b ∉ ex → H' b = none
  there : ∀ b o, h.get? b = some o → b ∉ ex → ∃ o', h'.get? b = some o'
  tups : ∀ b xs, H b = some (.tup xs) → H' b = some (.tup xs)
  frzs : ∀ b o u, H b = some (.frz o u) → H' b = some (.frz o u)
  tbls : ∀ b ps, H b = some (.tbl ps) → ∃ more, H' b = some (.tbl (ps ++ more))
section
variable {fs fs' ex ex' : List Addr} {H H1 H2 : Hp} {h h1 h2 h' : Heap} {a x e : Addr} {o : HO}
theorem Un.any (u : Un fs ex H H1 h h1) {b : Addr} {ob : Obj} (q : h.get? b = some ob) (n : H b = none) (hx : b ∉ ex) : ∃ sl, h1.get? b = some { ob with slots := sl } := by
  by_cases hb : b ∈ fs
  · exact u.slot b ob q n hb hx
  · exact ⟨ob.slots, u.keep b ob q n hb hx⟩
theorem Un.trans (a : Un fs ex H H1 h h1) (b : Un fs ex H1 H2 h1 h2) : Un fs ex H H2 h h2 where
  keep := fun c ob q n hc hx => b.keep c ob (a.keep c ob q n hc hx) (a.free c ob q n hx) hc hx
  slot := fun c ob q n hc hx => by
    obtain ⟨sl, e1⟩ := a.slot c ob q n hc hx
    obtain ⟨sl', e2⟩ := b.slot c _ e1 (a.free c ob q n hx) hc hx
    exact ⟨sl', e2⟩
  free := fun c ob q n hx => by
    obtain ⟨o', e1⟩ := a.there c ob q hx
    exact b.free c o' e1 (a.free c ob q n hx) hx
  there := fun c ob q hx => by
    obtain ⟨o', e1⟩ := a.there c ob q hx
    exact b.there c o' e1 hx
  tups := fun c xs q => b.tups c xs (a.tups c xs q)
  frzs := fun c ob xs q => b.frzs c ob xs (a.frzs c ob xs q)
  tbls := fun c ps q => by
    obtain ⟨m1, e1⟩ := a.tbls c ps q
    obtain ⟨m2, e2⟩ := b.tbls c _ e1
    exact ⟨m1 ++ m2, by rw [e2, Array.append_assoc]⟩
theorem Un.kept (k : ∀ b u, h.get? b = some u → h'.get? b = some u) : Un fs ex H H h h' :=
  ⟨fun b ob q _ _ _ => k b ob q, fun b ob q _ _ _ => ⟨ob.slots, k b ob q⟩, fun _ _ _ n _ => n, fun b ob q _ => ⟨ob, k b ob q⟩, fun _ _ q => q, fun _ _ _ q => q, fun _ ps q => ⟨#[], by rw [q]; simp⟩⟩
theorem Un.refl : Un fs ex H H h h := Un.kept fun _ _ q => q
theorem Un.laid (k : ∀ b u, h.get? b = some u → h'.get? b = some u) (hp : h.objs.size ≤ a) (hn : H a = none) : Un fs ex H (upd H a o) h h' where
  keep := fun b u q _ _ _ => k b u q
  slot := fun b u q _ _ _ => ⟨u.slots, k b u q⟩
  free := fun b u q n _ => by rw [upd_ne (Nat.ne_of_lt (Nat.lt_of_lt_of_le (Heap.lt_size q) hp))]; exact n
  there := fun b u q _ => ⟨u, k b u q⟩
  tups := fun b xs q => by rw [upd_ne (ne_of_none q hn)]; exact q
  frzs := fun b u xs q => by rw [upd_ne (ne_of_none q hn)]; exact q
  tbls := fun b ps q => ⟨#[], by rw [upd_ne (ne_of_none q hn), q]; simp⟩
theorem Un.write (mu : Mut (H x)) (he : e = x ∨ H e = some (.own x)) (k : ∀ b u, b ≠ e → h.get? b = some u → h'.get? b = some u) (heo : ∃ u, h'.get? e = some u) : Un fs ex H (upd H x o) h h' := by
  have hx : ∀ b, H b = none → b ≠ x := fun b n z => by subst z; rw [n] at mu; exact mu
  have hb : ∀ b, H b = none → b ≠ e := fun b n z => by
    subst z
    rcases he with r | r
    · exact hx b n r
    · rw [n] at r; cases r
  have hm : ∀ b u, H b = some u → ¬ Mut (some u) → b ≠ x := fun b u q nm z => by subst z; rw [q] at mu; exact nm mu
  refine ⟨fun b u q n _ _ => k b u (hb b n) q, fun b u q n _ _ => ⟨u.slots, k b u (hb b n) q⟩, fun b u q n _ => by rw [upd_ne (hx b n)]; exact n, fun b u q _ => ?_,
    fun b xs q => by rw [upd_ne (hm b _ q fun z => z)]; exact q, fun b u xs q => by rw [upd_ne (hm b _ q fun z => z)]; exact q, fun b ps q => ⟨#[], by rw [upd_ne (hm b _ q fun z => z), q]; simp⟩⟩
  by_cases hbe : b = e
  · subst hbe; exact heo
  · exact ⟨u, k b u hbe q⟩
theorem Un.mono (u : Un fs ex H H1 h h1) (hs : ∀ b ∈ fs, b ∈ fs') (hx : ∀ b ∈ ex, b ∈ ex') : Un fs' ex' H H1 h h1 :=
  ⟨fun b ob q n hb he => u.keep b ob q n (fun z => hb (hs b z)) fun z => he (hx b z), fun _ _ q n _ he => u.any q n fun z => he (hx _ z), fun b ob q n he => u.free b ob q n fun z => he (hx b z), fun b ob q he => u.there b ob q fun z => he (hx b z), u.tups, u.frzs, u.tbls⟩
end

/-! ### the heap without what is tracked -/
def trk (h : Heap) (H : Hp) : List Addr := (List.range h.objs.size).filter fun a => (H a).isSome
def hidT (h : Heap) (H : Hp) : Heap := PySem.W.hideAll h (trk h H)
theorem hidT_size (h : Heap) (H : Hp) : (hidT h H).objs.size = h.objs.size := PySem.W.hideAll_size _ _
theorem hidT_get {h : Heap} {H : Hp} {b : Addr} {o : Obj} (e : h.get? b = some o) (n : H b = none) : (hidT h H).get? b = some o :=
  PySem.W.hideAll_get _ e fun hm => by
    have q : (H b).isSome = true := (List.mem_filter.mp hm).2
    rw [n] at q; simp at q
theorem of_hidT {h : Heap} {H : Hp} {b : Addr} {o : Obj} (e : (hidT h H).get? b = some o) : h.get? b = some o ∧ H b = none := by
  have e' : h.get? b = some o := PySem.W.of_hideAll (trk h H) e
  refine ⟨e', ?_⟩
  cases q : H b with
  | none => rfl
  | some x =>
    have hm : b ∈ trk h H := List.mem_filter.mpr ⟨List.mem_range.mpr (Heap.lt_size e'), by simp [q]⟩
    have z : (hidT h H).get? b = none := PySem.W.hideAll_none (trk h H) hm
    rw [z] at e; cases e

/-! ### OpenK's ledger, filled with every new object but one -/
def allNews (g h : Heap) (L : Addr) : List (Addr × Obj) := (List.range h.objs.size).filterMap fun a => if a = L ∨ (g.get? a).isSome = true then none else (h.get? a).map fun o => (a, o)
def rest (g h : Heap) (L d : Addr) : List (Addr × Obj) := (allNews g h L).filter fun p => decide (p.1 ≠ d)
end L2

namespace L2
open PySem PySem.Spec PyProof.Rows

/-- the module's facts, over the base: the heap at the law's entry without what is tracked there -/
structure Mod (K : PySem.W.Frag) (mg : Str → Option Value) (base : Heap) : Prop where
  kin : K.In base
  glob : base.Ns mainGlobals mg
  blt : ∃ mb, base.Ns builtinsNs mb ∧ ∀ x : Str, x ≠ "__name__" → mb x = bootBuiltins x
  nolimit : base.NoLimit

/-- the context: a def's body (or a comprehension's block) running. base: fixed through the whole law; s₀, H₀: the entry; outer: the frames whose slots others may change (a def's callers); stack: all frames that run;
   ex: iterators that were made ahead of the entry and are walked here (a comprehension's); fn: the names whose cells were made at the entry (a def: all; a comprehension's block: its own); calm: not within an except suite; pn: pins that every state bears; xe: what is wanted of an exception that leaves the code -/
structure Cx where
  prog : Program
  w : World
  K : PySem.W.Frag
  mg : Str → Option Value
  base : Heap
  A : Around
  N : List Str
  s₀ : Shared
  H₀ : Hp
  env : Env
  outer : List Env
  stack : List Env
  ex : List Addr
  fn : Str → Bool
  calm : Bool
  pn : List (Addr × Obj)
  xe : Value → Shared → Prop
/-- the callers' frames -/
def frs (l : List Env) : List Addr := l.filterMap (·.frame)
abbrev Cx.fs (X : Cx) : List Addr := frs X.outer

def Vis (sc : Scope) (x : Str) : Prop := sc.names.lookup x = some .local ∨ sc.names.lookup x = some .cell ∨ sc.names.lookup x = some .free
def Loc (sc : Scope) (x : Str) : Prop := sc.names.lookup x = some .local ∨ sc.names.lookup x = some .cell
def Look (env : Env) (h : Heap) (m : Str → Option Value) (x : Str) (u : Value) : Prop :=
  (env.kindOf x = some .local ∧ m x = some u) ∨ ((env.kindOf x = some .cell ∨ env.kindOf x = some .free) ∧ ∃ c, env.cells.lookup x = some c ∧ h.IsCell c (some u))

structure Cx.Ok (X : Cx) : Prop where
  mod : Mod X.K X.mg X.base
  kind : X.env.scope.kind = .function
  glob : X.env.globals = mainGlobals
  blt : X.env.builtins = builtinsNs
  above : X.s₀.heap.objs.size ≤ X.env.locals
  inj : ∀ x y c, X.env.cells.lookup x = some c → X.env.cells.lookup y = some c → x = y
  has : ∀ x, (X.env.kindOf x = some .cell ∨ X.env.kindOf x = some .free) → ∃ c, X.env.cells.lookup x = some c
  cab : ∀ x c, X.fn x = true → X.env.cells.lookup x = some c → X.s₀.heap.objs.size ≤ c
  hd : X.calm = true → X.A.handled = none
  frames : X.A.frames = some X.stack
  stk : X.stack = X.outer ∨ (X.stack = X.env :: X.outer ∧ X.env.frame = some X.env.locals)
  exf : ∀ b ∈ X.ex, b ≠ X.env.locals ∧ ∀ x c, X.env.cells.lookup x = some c → c ≠ b
  bs : ∀ b o, X.base.get? b = some o → X.s₀.heap.get? b = some o ∧ X.H₀ b = none
  bsz : X.base.objs.size ≤ X.s₀.heap.objs.size
  noex : ∀ b o, X.base.get? b = some o → b ∉ X.ex
  exfs : ∀ b ∈ X.ex, b ∉ X.fs
  funs : X.s₀.heap.FunFrames X.base X.outer
  frf : ∀ b ∈ X.fs, X.H₀ b = none

structure Inv (X : Cx) (pins : List (Addr × Obj)) (σ : List (Option V)) (H : Hp) (s : Shared) : Prop where
  ok : X.Ok
  os : s.os = X.s₀.os
  bare : AllBare s.gens
  base : Un X.fs X.ex X.H₀ H X.s₀.heap s.heap
  loc : ∃ m, s.heap.Ns X.env.locals m ∧ ∀ (i : Nat) (x : Str) (v : V), X.N[i]? = some x → σ[i]? = some (some v) → Vis X.env.scope x → ∃ u, RelV v u ∧ Look X.env s.heap m x u
  cell : ∀ x c, X.env.cells.lookup x = some c → ∃ v, s.heap.IsCell c v
  free : H X.env.locals = none
  freeC : ∀ x c, X.env.cells.lookup x = some c → H c = none
  pin : ∀ p ∈ X.pn ++ pins, s.heap.get? p.1 = some p.2 ∧ H p.1 = none ∧ p.1 ≠ X.env.locals ∧ p.1 ∉ X.fs ∧ ∀ v, p.2.data ≠ .cell v
  hok : HOk X.prog X.w H s.heap
  len : σ.length = X.N.length

section
variable {X : Cx} {pins : List (Addr × Obj)} {σ : List (Option V)} {H H' : Hp} {s : Shared} {h' : Heap}

theorem Cx.Ok.nofr (ok : X.Ok) {b : Addr} {o : Obj} (e : X.base.get? b = some o) : b ∉ X.fs := fun hb => by
  have := (ok.funs.mem hb).1
  rw [e] at this; cases this
theorem Inv.bs (I : Inv X pins σ H s) : ∀ b o, X.base.get? b = some o → s.heap.get? b = some o ∧ H b = none := fun b o e =>
  ⟨I.base.keep b o (I.ok.bs b o e).1 (I.ok.bs b o e).2 (I.ok.nofr e) (I.ok.noex b o e), I.base.free b o (I.ok.bs b o e).1 (I.ok.bs b o e).2 (I.ok.noex b o e)⟩
theorem Inv.bk (I : Inv X pins σ H s) : ∀ b o, X.base.get? b = some o → s.heap.get? b = some o := fun b o e => (I.bs b o e).1
theorem Inv.mod (I : Inv X pins σ H s) : Mod X.K X.mg X.base := I.ok.mod
theorem Inv.kIn (I : Inv X pins σ H s) : X.K.In s.heap := I.ok.mod.kin.keeps I.bk
theorem Inv.nolimit (I : Inv X pins σ H s) : s.heap.NoLimit := I.ok.mod.nolimit.keeps I.bk
/-- the frame over the base: for OpenK's rules (K.In X.base is I.mod.kin) -/
theorem Inv.fr (I : Inv X pins σ H s) : ∃ m, Fr X.base X.env.locals s.heap m :=
  let ⟨m, hn, _⟩ := I.loc
  ⟨m, hn, I.bk, Nat.le_trans I.ok.bsz I.ok.above⟩
theorem Inv.lt (I : Inv X pins σ H s) : X.env.locals < s.heap.objs.size := let ⟨_, hn, _⟩ := I.loc; hn.lt
theorem Inv.sz (I : Inv X pins σ H s) : X.s₀.heap.objs.size ≤ s.heap.objs.size := Nat.le_trans I.ok.above (Nat.le_of_lt I.lt)
theorem Inv.nofs (I : Inv X pins σ H s) {a : Addr} (h : s.heap.objs.size ≤ a) : a ∉ X.fs := fun hb => by
  obtain ⟨_, o, ho, _⟩ := I.ok.funs.mem hb
  exact absurd (Nat.lt_of_lt_of_le (Heap.lt_size ho) (Nat.le_trans I.sz h)) (Nat.lt_irrefl _)
theorem Inv.cne (I : Inv X pins σ H s) : ∀ x c, X.env.cells.lookup x = some c → c ≠ X.env.locals := fun x c e z => by
  obtain ⟨v, o, ho, hd⟩ := I.cell x c e
  obtain ⟨m, ⟨o', es, ep, ho', hd', _⟩, _⟩ := I.loc
  rw [z, ho'] at ho; cases ho; rw [hd'] at hd; cases hd
theorem Inv.funs (I : Inv X pins σ H s) : s.heap.FunFrames X.base X.outer := by
  have all : ∀ (l : List Env), (∀ b ∈ frs l, b ∈ X.fs) → X.s₀.heap.FunFrames X.base l → s.heap.FunFrames X.base l := by
    intro l
    induction l with
    | nil => intro _ _; trivial
    | cons env r ih =>
      intro hs hl
      obtain ⟨hk, ⟨L, o, hf, hn, ho, hd⟩, hr⟩ := hl
      have hL : L ∈ X.fs := hs L (by unfold frs; rw [List.filterMap_cons, hf]; exact List.mem_cons_self)
      obtain ⟨sl, e⟩ := I.base.slot L o ho (I.ok.frf L hL) hL fun z => I.ok.exfs L z hL
      exact ⟨hk, ⟨L, _, hf, hn, e, hd⟩, ih (fun b hb => hs b (by unfold frs; rw [List.filterMap_cons, hf]; exact List.mem_cons_of_mem _ hb)) hr⟩
  exact all X.outer (fun _ hb => hb) I.ok.funs

/-- the frames that run, for a call -/
theorem Inv.stack (I : Inv X pins σ H s) : s.heap.FunFrames X.base X.stack := by
  rcases I.ok.stk with e | ⟨e, hf⟩
  · rw [e]; exact I.funs
  · rw [e]
    obtain ⟨m, hn, _⟩ := I.loc
    refine .cons (by rw [I.ok.kind]; decide) hf hn ?_ I.funs
    exact Heap.get?_none_of_le (Nat.le_trans I.ok.bsz I.ok.above)
theorem Inv.stkSub (I : Inv X pins σ H s) : ∀ b ∈ frs X.stack, b ∈ X.env.locals :: X.fs := fun b hb => by
  rcases I.ok.stk with e | ⟨e, hf⟩
  · rw [e] at hb; exact List.mem_cons_of_mem _ hb
  · rw [e] at hb
    unfold frs at hb
    rw [List.filterMap_cons, hf] at hb
    exact hb
theorem Inv.stkFree (I : Inv X pins σ H s) : ∀ b ∈ frs X.stack, H b = none := fun b hb => by
  rcases List.mem_cons.mp (I.stkSub b hb) with e | hb
  · rw [e]; exact I.free
  · obtain ⟨_, o, ho, _⟩ := I.ok.funs.mem hb
    exact I.base.free b o ho (I.ok.frf b hb) fun z => I.ok.exfs b z hb

/-- THE STEP: the untracked objects but the frame and the records at ch are kept (the callers' frames up to slots), the frame's map is kept, the new abstract heap is held -/
theorem Inv.step {g' : Array GenState} {t' : Nat} {d' : Drawn} {ch : List Addr} (I : Inv X pins σ H s)
    (hch : ∀ b ∈ ch, (b ∈ X.ex ∨ X.s₀.heap.objs.size ≤ b) ∧ b ≠ X.env.locals ∧ (∀ x c, X.env.cells.lookup x = some c → c ≠ b) ∧ ∀ p ∈ X.pn ++ pins, p.1 ≠ b)
    (keep : ∀ b o, b ≠ X.env.locals → b ∉ X.fs → b ∉ ch → s.heap.get? b = some o → H b = none → h'.get? b = some o)
    (slot : ∀ b o, b ≠ X.env.locals → b ∈ X.fs → b ∉ ch → s.heap.get? b = some o → H b = none → ∃ sl, h'.get? b = some { o with slots := sl }) (free : ∀ b o, b ∉ ch → s.heap.get? b = some o → H b = none → H' b = none)
    (there : ∀ b o, b ∉ ch → s.heap.get? b = some o → ∃ o', h'.get? b = some o')
    (tups : ∀ b xs, H b = some (.tup xs) → H' b = some (.tup xs)) (frzs : ∀ b o u, H b = some (.frz o u) → H' b = some (.frz o u)) (tbls : ∀ b ps, H b = some (.tbl ps) → ∃ more, H' b = some (.tbl (ps ++ more)))
    (ns : ∀ m, s.heap.Ns X.env.locals m → h'.Ns X.env.locals m) (hok : HOk X.prog X.w H' h') (hg : AllBare g') :
    Inv X pins σ H' { s with heap := h', gens := g', drawn := d', toks := t' } := by
  have neL : ∀ b o, X.s₀.heap.get? b = some o → b ≠ X.env.locals := fun b o e => Nat.ne_of_lt (Nat.lt_of_lt_of_le (Heap.lt_size e) I.ok.above)
  have neC : ∀ b o, X.s₀.heap.get? b = some o → b ∉ X.ex → b ∉ ch := fun b o e hx hb => by
    rcases (hch b hb).1 with z | z
    · exact hx z
    · exact absurd (Nat.lt_of_lt_of_le (Heap.lt_size e) z) (Nat.lt_irrefl _)
  have cellK : ∀ x c, X.env.cells.lookup x = some c → ∀ v, s.heap.IsCell c v → h'.IsCell c v := fun x c e v ⟨o, ho, hd⟩ => by
    have nch : c ∉ ch := fun z => (hch c z).2.2.1 x c e rfl
    by_cases hc : c ∈ X.fs
    · obtain ⟨sl, q⟩ := slot c o (I.cne x c e) hc nch ho (I.freeC x c e)
      exact ⟨_, q, hd⟩
    · exact ⟨o, keep c o (I.cne x c e) hc nch ho (I.freeC x c e), hd⟩
  refine ⟨I.ok, I.os, hg, ⟨fun b o e n hb hx => ?_, fun b o e n hb hx => ?_, fun b o e n hx => ?_, fun b o e hx => ?_, fun b xs e => tups b xs (I.base.tups b xs e), fun b o xs e => frzs b o xs (I.base.frzs b o xs e), fun b ps e => ?_⟩, ?_, fun x c e => ?_, ?_, fun x c e => ?_, fun p hp => ?_, hok, I.len⟩
  · exact keep b o (neL b o e) hb (neC b o e hx) (I.base.keep b o e n hb hx) (I.base.free b o e n hx)
  · obtain ⟨sl, e1⟩ := I.base.slot b o e n hb hx
    obtain ⟨sl', e2⟩ := slot b _ (neL b o e) hb (neC b o e hx) e1 (I.base.free b o e n hx)
    exact ⟨sl', e2⟩
  · obtain ⟨o', e1⟩ := I.base.there b o e hx
    exact free b o' (neC b o e hx) e1 (I.base.free b o e n hx)
  · obtain ⟨o', e1⟩ := I.base.there b o e hx
    exact there b o' (neC b o e hx) e1
  · obtain ⟨m1, e1⟩ := I.base.tbls b ps e
    obtain ⟨m2, e2⟩ := tbls b _ e1
    exact ⟨m1 ++ m2, by rw [e2, Array.append_assoc]⟩
  · obtain ⟨m, hn, hl⟩ := I.loc
    refine ⟨m, ns m hn, fun i x v e1 e2 e3 => ?_⟩
    obtain ⟨u, r, l⟩ := hl i x v e1 e2 e3
    refine ⟨u, r, ?_⟩
    rcases l with l | ⟨k, c, e, z⟩
    · exact .inl l
    · exact .inr ⟨k, c, e, cellK x c e _ z⟩
  · obtain ⟨v, z⟩ := I.cell x c e
    exact ⟨v, cellK x c e v z⟩
  · obtain ⟨m, ⟨o, _, _, ho, _⟩, _⟩ := I.loc
    exact free _ o (fun z => (hch _ z).2.1 rfl) ho I.free
  · obtain ⟨v, o, ho, hd⟩ := I.cell x c e
    exact free c o (fun z => (hch c z).2.2.1 x c e rfl) ho (I.freeC x c e)
  · obtain ⟨e, n, ne, nf, d⟩ := I.pin p hp
    have nch : p.1 ∉ ch := fun z => (hch p.1 z).2.2.2 p hp rfl
    exact ⟨keep p.1 p.2 ne nf nch e n, free p.1 p.2 nch e n, ne, nf, d⟩
/-- .. where the frame's own object is kept too -/
theorem Inv.un {t' : Nat} (I : Inv X pins σ H s) (u : Un X.fs [] H H' s.heap h') (hok : HOk X.prog X.w H' h') : Inv X pins σ H' { s with heap := h', toks := t' } := by
  obtain ⟨m, ⟨o, es, ep, ho, r⟩, _⟩ := id I.loc
  obtain ⟨sl, hL⟩ := u.any ho I.free (by simp)
  exact I.step (g' := s.gens) (d' := s.drawn) (ch := []) (fun _ z => nomatch z) (fun b o _ hb _ e n => u.keep b o e n hb (by simp)) (fun b o _ hb _ e n => u.slot b o e n hb (by simp)) (fun b o _ e n => u.free b o e n (by simp)) (fun b o _ e => u.there b o e (by simp)) u.tups u.frzs u.tbls (fun m' hm => by
    obtain ⟨o', es', ep', ho', r'⟩ := hm
    rw [ho] at ho'; cases ho'
    exact ⟨_, es', ep', hL, r'⟩) hok I.bare
/-- behind a call (or a comprehension's block): the slots of this frame may have changed too, the records at ch may have turned -/
theorem Inv.call {g' : Array GenState} {t' : Nat} {d' : Drawn} {ch : List Addr} (I : Inv X pins σ H s) (u : Un (frs X.stack) ch H H' s.heap h') (hok : HOk X.prog X.w H' h') (hg : AllBare g')
    (hch : ∀ b ∈ ch, (b ∈ X.ex ∨ X.s₀.heap.objs.size ≤ b) ∧ b ≠ X.env.locals ∧ (∀ x c, X.env.cells.lookup x = some c → c ≠ b) ∧ ∀ p ∈ X.pn ++ pins, p.1 ≠ b) :
    Inv X pins σ H' { s with heap := h', gens := g', drawn := d', toks := t' } := by
  obtain ⟨m, ⟨o, es, ep, ho, r⟩, _⟩ := id I.loc
  obtain ⟨sl, hL⟩ := u.any ho I.free fun z => (hch _ z).2.1 rfl
  exact I.step (ch := ch) hch (fun b o hL hb hc e n => u.keep b o e n (fun z => (List.mem_cons.mp (I.stkSub b z)).elim hL hb) hc) (fun b o _ _ hc e n => u.any e n hc) (fun b o hc e n => u.free b o e n hc) (fun b o hc e => u.there b o e hc) u.tups u.frzs u.tbls (fun m' hm => by
    obtain ⟨o', es', ep', ho', r'⟩ := hm
    rw [ho] at ho'; cases ho'
    exact ⟨_, es', ep', hL, r'⟩) hok hg
/-- an untracked record of ours (an iterator) has turned -/
theorem Inv.turned {t' : Nat} {it : Addr} (I : Inv X pins σ H s) (k : ∀ b o, b ≠ it → s.heap.get? b = some o → h'.get? b = some o) (hn : H it = none) (hL : it ≠ X.env.locals)
    (h1 : it ∈ X.ex ∨ X.s₀.heap.objs.size ≤ it) (h2 : ∀ x c, X.env.cells.lookup x = some c → c ≠ it) (h3 : ∀ p ∈ X.pn ++ pins, p.1 ≠ it) : Inv X pins σ H { s with heap := h', toks := t' } := by
  have nit : ∀ b u, H b = some u → b ≠ it := fun b u e z => by rw [z, hn] at e; cases e
  refine I.step (g' := s.gens) (d' := s.drawn) (ch := [it]) (fun b hb => ?_) (fun b o _ _ hc e _ => k b o (fun z => hc (by simp [z])) e) (fun b o _ _ hc e _ => ⟨o.slots, k b o (fun z => hc (by simp [z])) e⟩) (fun _ _ _ _ n => n)
    (fun b o hc e => ⟨o, k b o (fun z => hc (by simp [z])) e⟩) (fun _ _ e => e) (fun _ _ _ e => e) (fun b ps e => ⟨#[], by rw [e]; simp⟩) (fun m hm => ?_) (fun b u e => ?_) I.bare
  · have e : b = it := by simpa using hb
    subst e
    exact ⟨h1, hL, h2, h3⟩
  · obtain ⟨o, es, ep, ho, r⟩ := hm
    exact ⟨o, es, ep, k _ o (Ne.symm hL) ho, r⟩
  · refine (I.hok b u e).stay (fun c v hc q => k c v ?_ q) (fun _ q => q) fun _ _ q => q
    rcases hc with z | z
    · rw [z]; exact nit b u e
    · exact nit c _ z
theorem Inv.tok (I : Inv X pins σ H s) (t : Nat) : Inv X pins σ H { s with toks := t } := I.un (h' := s.heap) (t' := t) Un.refl I.hok
/-- all objects kept -/
theorem Inv.kept {t' : Nat} (I : Inv X pins σ H s) (k : ∀ b u, s.heap.get? b = some u → h'.get? b = some u) : Inv X pins σ H { s with heap := h', toks := t' } := I.un (Un.kept k) (I.hok.kept k)
/-- a new object laid and tracked -/
theorem Inv.laid {a : Addr} {o : HO} {t' : Nat} (I : Inv X pins σ H s) (k : ∀ b u, s.heap.get? b = some u → h'.get? b = some u) (hp : s.heap.objs.size ≤ a) (new : ObjOk X.prog X.w (upd H a o) h' a o) :
    Inv X pins σ (upd H a o) { s with heap := h', toks := t' } := I.un (Un.laid k hp (I.hok.fresh hp)) (I.hok.laid k hp new)
/-- an object written -/
theorem Inv.write {x e : Addr} {o : HO} {t' : Nat} (I : Inv X pins σ H s) (mu : Mut (H x)) (he : e = x ∨ H e = some (.own x)) (k : ∀ b u, b ≠ e → s.heap.get? b = some u → h'.get? b = some u) (heo : ∃ u, h'.get? e = some u)
    (new : ObjOk X.prog X.w (upd H x o) h' x o) : Inv X pins σ (upd H x o) { s with heap := h', toks := t' } := I.un (Un.write mu he k heo) (I.hok.write mu he k heo new)
theorem Inv.pins_of {pins' : List (Addr × Obj)} (I : Inv X pins σ H s) (h : ∀ p ∈ pins', s.heap.get? p.1 = some p.2 ∧ H p.1 = none ∧ p.1 ≠ X.env.locals ∧ p.1 ∉ X.fs ∧ ∀ v, p.2.data ≠ .cell v) : Inv X pins' σ H s :=
  ⟨I.ok, I.os, I.bare, I.base, I.loc, I.cell, I.free, I.freeC, fun p hp => (List.mem_append.mp hp).elim (fun z => I.pin p (List.mem_append_left _ z)) (h p), I.hok, I.len⟩

theorem nodup_ix {N : List Str} (hN : N.Nodup) {i j : Nat} {x : Str} (a : N[i]? = some x) (b : N[j]? = some x) : i = j := by
  obtain ⟨h1, e1⟩ := List.getElem?_eq_some_iff.mp a
  obtain ⟨h2, e2⟩ := List.getElem?_eq_some_iff.mp b
  exact (List.getElem_inj hN).mp (e1.trans e2.symm)

/-- a name is stored; what changed -/
theorem store_ok2 {M : Model} {A : Around} {E : Value → Shared → Prop} {i : Nat} {x : Str} {v : V} {u : Value} {Q : Unit → Shared → Prop} (I : Inv X pins σ H s) (hN : X.N.Nodup) (hi : X.N[i]? = some x) (hx : Loc X.env.scope x) (r : RelV v u)
    (h : ∀ s', Inv X pins (σ.set i (some v)) H s' → (∃ a, Heap.SameBut a s.heap s'.heap ∧ (a = X.env.locals ∨ X.env.cells.lookup x = some a)) → Q () s') (hf : X.fn x = true ∨ X.env.scope.names.lookup x = some .local := by first | exact .inl rfl | exact .inr rfl | assumption) : wpAny M A (storeName X.env x u) Q E s := by
  obtain ⟨m, hn, hl⟩ := id I.loc
  have hcls : (X.env.scope.kind == .class || (X.env.scope.kind == .module && X.env.locals != X.env.globals)) = false := by rw [I.ok.kind]; rfl
  have hiσ : i < σ.length := by rw [I.len]; exact (List.getElem?_eq_some_iff.mp hi).1
  have cne := I.cne
  have tracked : ∀ {a : Addr} {h' : Heap}, (∃ o, s.heap.get? a = some o ∧ H a = none) → Heap.SameBut a s.heap h' → HOk X.prog X.w H h' := fun {a h'} ha hs b ob e => by
    obtain ⟨_, _, hfree⟩ := ha
    refine (I.hok b ob e).stay (fun c w' hc q => (hs.2 c ?_).trans q) (fun _ q => q) fun _ _ q => q
    rintro rfl
    rcases hc with rfl | hc
    · rw [hfree] at e; cases e
    · rw [hfree] at hc; cases hc
  rcases hx with hk | hk
  · refine wpAny_storeName_local hk hn (fun h' hn' hs => ?_) hcls
    obtain ⟨oL, _, _, hoL, _⟩ := id hn
    refine h _ ⟨I.ok, I.os, I.bare, ⟨fun b o e n hb hx => ?_, fun b o e n hb hx => ?_, I.base.free, fun b o e hx => ?_, I.base.tups, I.base.frzs, I.base.tbls⟩, ⟨_, hn', fun j y v' e1 e2 e3 => ?_⟩, fun y c e => ?_, I.free, I.freeC, fun p hp => ?_, tracked ⟨oL, hoL, I.free⟩ hs, by simpa using I.len⟩ ⟨_, hs, .inl rfl⟩
    · exact (hs.2 b (Nat.ne_of_lt (Nat.lt_of_lt_of_le (Heap.lt_size e) I.ok.above))).trans (I.base.keep b o e n hb hx)
    · obtain ⟨sl, e1⟩ := I.base.slot b o e n hb hx
      exact ⟨sl, (hs.2 b (Nat.ne_of_lt (Nat.lt_of_lt_of_le (Heap.lt_size e) I.ok.above))).trans e1⟩
    · obtain ⟨o', e1⟩ := I.base.there b o e hx
      exact ⟨o', (hs.2 b (Nat.ne_of_lt (Nat.lt_of_lt_of_le (Heap.lt_size e) I.ok.above))).trans e1⟩
    · by_cases hj : j = i
      · subst hj
        rw [hi] at e1; cases e1
        rw [List.getElem?_set_self hiσ] at e2
        cases e2
        exact ⟨u, r, .inl ⟨hk, by simp⟩⟩
      · rw [List.getElem?_set_ne (Ne.symm hj)] at e2
        obtain ⟨u', r', q⟩ := hl j y v' e1 e2 e3
        refine ⟨u', r', ?_⟩
        rcases q with ⟨k, e⟩ | ⟨k, c, e, z⟩
        · refine .inl ⟨k, ?_⟩
          have : y ≠ x := fun e => hj (nodup_ix hN e1 (e ▸ hi))
          simp [this, e]
        · exact .inr ⟨k, c, e, z.sameBut hs (cne y c e)⟩
    · obtain ⟨w', z⟩ := I.cell y c e
      exact ⟨w', z.sameBut hs (cne y c e)⟩
    · obtain ⟨e, n, ne, nf, d⟩ := I.pin p hp
      exact ⟨(hs.2 p.1 ne).trans e, n, ne, nf, d⟩
  · have hfn : X.fn x = true := by
      rcases hf with z | z
      · exact z
      · rw [z] at hk; cases hk
    obtain ⟨c, hc⟩ := I.ok.has x (.inl hk)
    obtain ⟨w', z⟩ := I.cell x c hc
    refine wpAny_storeName_cell I.ok.kind hk hc z (fun h' hc' hs => ?_)
    obtain ⟨oc, hoc, hocd⟩ := id z
    refine h { s with heap := h' } ⟨I.ok, I.os, I.bare, ⟨fun b o e n hb hx => ?_, fun b o e n hb hx => ?_, I.base.free, fun b o e hx => ?_, I.base.tups, I.base.frzs, I.base.tbls⟩, ⟨m, hn.sameBut hs (Ne.symm (cne x c hc)), fun j y v' e1 e2 e3 => ?_⟩, fun y c' e => ?_, I.free, I.freeC, fun p hp => ?_, tracked ⟨oc, hoc, I.freeC x c hc⟩ hs, by simpa using I.len⟩ ⟨c, hs, .inr hc⟩
    · exact (hs.2 b (Nat.ne_of_lt (Nat.lt_of_lt_of_le (Heap.lt_size e) (I.ok.cab x c hfn hc)))).trans (I.base.keep b o e n hb hx)
    · obtain ⟨sl, e1⟩ := I.base.slot b o e n hb hx
      exact ⟨sl, (hs.2 b (Nat.ne_of_lt (Nat.lt_of_lt_of_le (Heap.lt_size e) (I.ok.cab x c hfn hc)))).trans e1⟩
    · obtain ⟨o', e1⟩ := I.base.there b o e hx
      exact ⟨o', (hs.2 b (Nat.ne_of_lt (Nat.lt_of_lt_of_le (Heap.lt_size e) (I.ok.cab x c hfn hc)))).trans e1⟩
    · by_cases hj : j = i
      · subst hj
        rw [hi] at e1; cases e1
        rw [List.getElem?_set_self hiσ] at e2
        cases e2
        exact ⟨u, r, .inr ⟨.inl hk, c, hc, hc'⟩⟩
      · rw [List.getElem?_set_ne (Ne.symm hj)] at e2
        obtain ⟨u', r', q⟩ := hl j y v' e1 e2 e3
        refine ⟨u', r', ?_⟩
        rcases q with q | ⟨k, c', e, z'⟩
        · exact .inl q
        · refine .inr ⟨k, c', e, z'.sameBut hs ?_⟩
          rintro rfl
          exact hj (nodup_ix hN e1 (I.ok.inj _ _ _ e hc ▸ hi))
    · by_cases hcc : c' = c
      · subst hcc; exact ⟨_, hc'⟩
      · obtain ⟨w2, z2⟩ := I.cell y c' e
        exact ⟨w2, z2.sameBut hs hcc⟩
    · obtain ⟨e, n, ne, nf, d⟩ := I.pin p hp
      refine ⟨(hs.2 p.1 ?_).trans e, n, ne, nf, d⟩
      intro q
      rw [q, hoc] at e
      have q' : oc = p.2 := Option.some.inj e
      exact d w' (by rw [← q']; exact hocd)
theorem store_ok {M : Model} {A : Around} {E : Value → Shared → Prop} {i : Nat} {x : Str} {v : V} {u : Value} {Q : Unit → Shared → Prop} (I : Inv X pins σ H s) (hN : X.N.Nodup) (hi : X.N[i]? = some x) (hx : Loc X.env.scope x) (r : RelV v u)
    (h : ∀ s', Inv X pins (σ.set i (some v)) H s' → Q () s') (hf : X.fn x = true ∨ X.env.scope.names.lookup x = some .local := by first | exact .inl rfl | exact .inr rfl | assumption) : wpAny M A (storeName X.env x u) Q E s :=
  store_ok2 I hN hi hx r (fun s' I' _ => h s' I') hf
/-- behind a call or a block, the state as it is -/
theorem Inv.call' {s' : Shared} {ch : List Addr} (I : Inv X pins σ H s) (ho : s'.os = s.os) (u : Un (frs X.stack) ch H H' s.heap s'.heap) (hok : HOk X.prog X.w H' s'.heap) (hg : AllBare s'.gens)
    (hch : ∀ b ∈ ch, (b ∈ X.ex ∨ X.s₀.heap.objs.size ≤ b) ∧ b ≠ X.env.locals ∧ (∀ x c, X.env.cells.lookup x = some c → c ≠ b) ∧ ∀ p ∈ X.pn ++ pins, p.1 ≠ b) : Inv X pins σ H' s' := by
  obtain ⟨h', g', d', t', o'⟩ := s'
  have e : o' = s.os := ho
  subst e
  exact I.call (g' := g') (t' := t') (d' := d') u hok hg hch
end

/-! ### the judgements -/
/-- an exception: its class, its own dict's address (where it has one), the abstract heap behind it -/
abbrev XK := Value → Option Addr → Hp → Prop
abbrev St := List (Option V)
abbrev VK := V → Hp → Prop
/-- an expression's reading; a test's; an argument list's -/
abbrev TE := St → Hp → VK → Prop
abbrev TT := St → Hp → (Bool → Hp → Prop) → Prop
abbrev TA := St → Hp → (List V → Hp → Prop) → Prop
/-- what is wanted behind a statement -/
structure Ends where
  nx : St → Hp → Prop
  rt : VK
  bk : St → Hp → Prop := fun _ _ => False
  ct : St → Hp → Prop := fun _ _ => False
abbrev TS := Ends → St → Hp → Prop

def EP (X : Cx) (pins : List (Addr × Obj)) (σ : St) (Q : VK) (u : Value) (s' : Shared) : Prop := ∃ v H', Inv X pins σ H' s' ∧ RelV v u ∧ Q v H'
def TP (X : Cx) (pins : List (Addr × Obj)) (σ : St) (Q : Bool → Hp → Prop) (b : Bool) (s' : Shared) : Prop := ∃ H', Inv X pins σ H' s' ∧ Q b H'
def AP (X : Cx) (pins : List (Addr × Obj)) (σ : St) (Q : List V → Hp → Prop) (us : List Value) (s' : Shared) : Prop := ∃ vs H', Inv X pins σ H' s' ∧ Vals vs us ∧ Q vs H'
def SP (X : Cx) (pins : List (Addr × Obj)) (D : Ends) (f : Flow) (s' : Shared) : Prop :=
  match f with
  | .next => ∃ σ' H', Inv X pins σ' H' s' ∧ D.nx σ' H'
  | .brk => ∃ σ' H', Inv X pins σ' H' s' ∧ D.bk σ' H'
  | .cont => ∃ σ' H', Inv X pins σ' H' s' ∧ D.ct σ' H'
  | .ret u => ∃ v σ' H', Inv X pins σ' H' s' ∧ RelV v u ∧ D.rt v H'

def PE (X : Cx) (e : Expr) (t : TE) : Prop :=
  ∀ (pins : List (Addr × Obj)) (s : Shared) (σ : St) (H : Hp) (Q : VK), Inv X pins σ H s → t σ H Q → wpAny (model X.prog X.w) X.A (eval e X.env) (EP X pins σ Q) X.xe s
def PT (X : Cx) (e : Expr) (t : TT) : Prop :=
  ∀ (pins : List (Addr × Obj)) (s : Shared) (σ : St) (H : Hp) (Q : Bool → Hp → Prop), Inv X pins σ H s → t σ H Q → wpAny (model X.prog X.w) X.A (isTrue e X.env (eval e X.env)) (TP X pins σ Q) X.xe s
/-- a test whatever its 'whole' is (and, or) -/
def PW (X : Cx) (e : Expr) (t : TT) : Prop :=
  ∀ (whole : Sem Value) (pins : List (Addr × Obj)) (s : Shared) (σ : St) (H : Hp) (Q : Bool → Hp → Prop), Inv X pins σ H s → t σ H Q → wpAny (model X.prog X.w) X.A (isTrue e X.env whole) (TP X pins σ Q) X.xe s
theorem PW.pt {X : Cx} {e : Expr} {t : TT} (h : PW X e t) : PT X e t := h _
/-- an argument list (no star), from the left -/
def PA (X : Cx) (es : List Expr) (t : TA) : Prop :=
  ∀ (pos : Pos) (pins : List (Addr × Obj)) (s : Shared) (σ : St) (H : Hp) (Q : List V → Hp → Prop), Inv X pins σ H s → t σ H Q → wpAny (model X.prog X.w) X.A (spliced (backTo pos (starEach es X.env))) (AP X pins σ Q) X.xe s
def PS (X : Cx) (st : Stmt) (t : TS) : Prop :=
  ∀ (pins : List (Addr × Obj)) (s : Shared) (σ : St) (H : Hp) (D : Ends), Inv X pins σ H s → t D σ H → wpAny (model X.prog X.w) X.A (exec st X.env) (SP X pins D) X.xe s
def PSs (X : Cx) (st : List Stmt) (t : TS) : Prop :=
  ∀ (pins : List (Addr × Obj)) (s : Shared) (σ : St) (H : Hp) (D : Ends), Inv X pins σ H s → t D σ H → wpAny (model X.prog X.w) X.A (execs st X.env) (SP X pins D) X.xe s
/-- weaken the end -/
theorem thn {α : Type} {t : Sem α} {Q Q' : α → Shared → Prop} {M : Model} {A : Around} {E : Value → Shared → Prop} {s : Shared} (h : wpAny M A t Q E s) (hQ : ∀ a s, Q a s → Q' a s) : wpAny M A t Q' E s := wpAny_mono h hQ fun _ _ x => x
end L2

namespace L2
open PySem PySem.Spec PyProof.Rows
section
variable {X : Cx}

/-! ### names and constants -/
def tVar (i : Nat) : TE := fun σ H Q => ∃ v, σ[i]? = some (some v) ∧ Q v H
def tC (v : V) : TE := fun _ H Q => Q v H
theorem pe_var {i : Nat} {x : Str} {pos : Pos} (hN : X.N[i]? = some x) (hv : Vis X.env.scope x) (hd : (x == ("__debug__" : Str)) = false := by decide) (hcd : (x == ("__classdict__" : Str)) = false := by decide) : PE X (.Name x pos) (tVar i) := by
  intro pins s σ H Q I h
  obtain ⟨v, e, h⟩ := h
  obtain ⟨m, hn, hl⟩ := I.loc
  obtain ⟨u, r, l⟩ := hl i x v hN e hv
  have fin : EP X pins σ Q u s := ⟨v, H, I, r, h⟩
  rcases l with ⟨hk, hm⟩ | ⟨hk, c, hc, hcell⟩
  · exact wpAny_Name (wpAny_loadName_local I.ok.kind hk hn hm fin) hd
  · rcases hk with hk | hk
    · exact wpAny_Name (wpAny_loadName_cell I.ok.kind hk hc hcell fin) hd
    · exact wpAny_Name (wpAny_loadName_free I.ok.kind hk hc hcell fin hcd) hd
theorem pe_int {i j pos} : PE X (.Constant (.int i) j pos) (tC (.int i)) := fun _ _ _ H _ I h => wpAny_Constant_int ⟨.int i, H, I.tok _, ⟨_, rfl⟩, h⟩
theorem pe_bl {b j pos} : PE X (.Constant (.bool b) j pos) (tC (.bl b)) := fun _ _ _ H _ I h => Constant_bool ⟨.bl b, H, I, rfl, h⟩
theorem pe_non {j pos} : PE X (.Constant .none j pos) (tC .non) := fun _ _ _ H _ I h => Constant_none ⟨.non, H, I, rfl, h⟩
theorem pe_str {x j pos} : PE X (.Constant (.str x) j pos) (tC (.str x)) := fun _ _ _ H _ I h => Calls.Constant_str ⟨.str x, H, I.tok _, ⟨_, rfl⟩, h⟩

/-- a global name of the def -/
def Gl (X : Cx) (x : Str) : Prop := X.env.kindOf x = some .globalImplicit
theorem ld_glob {E : Value → Shared → Prop} {pins : List (Addr × Obj)} {s : Shared} {σ : St} {H : Hp} {x : Str} {u : Value} {pos : Pos} {Q : Value → Shared → Prop} (I : Inv X pins σ H s) (hg : Gl X x) (hm : X.mg x = some u) (h : Q u s)
    (hd : (x == ("__debug__" : Str)) = false := by decide) : wpAny (model X.prog X.w) X.A (eval (.Name x pos) X.env) Q E s :=
  Calls.Name_function_global I.ok.kind hg (Calls.loadGlobal_global (by rw [I.ok.glob]; exact I.mod.glob.keeps I.bk) hm h) hd
theorem ld_blt {E : Value → Shared → Prop} {pins : List (Addr × Obj)} {s : Shared} {σ : St} {H : Hp} {x : Str} {u : Value} {pos : Pos} {Q : Value → Shared → Prop} (I : Inv X pins σ H s) (hg : Gl X x) (hm : X.mg x = none) (hv : bootBuiltins x = some u) (h : Q u s)
    (hn : x ≠ "__name__" := by decide) (hd : (x == ("__debug__" : Str)) = false := by decide) : wpAny (model X.prog X.w) X.A (eval (.Name x pos) X.env) Q E s := by
  obtain ⟨mb, h1, h2⟩ := I.mod.blt
  exact Calls.Name_function_global I.ok.kind hg (Calls.loadGlobal_builtin (by rw [I.ok.glob]; exact I.mod.glob.keeps I.bk) hm (by rw [I.ok.blt]; exact h1.keeps I.bk) ((h2 x hn).trans hv) h) hd
/-- a module's constant, a class, a function, as a value -/
theorem pe_glob {x : Str} {v : V} {u : Value} {pos : Pos} (hg : Gl X x) (hm : X.mg x = some u) (r : RelV v u) (hd : (x == ("__debug__" : Str)) = false := by decide) : PE X (.Name x pos) (tC v) :=
  fun _ _ _ H _ I h => ld_glob I hg hm ⟨v, H, I, r, h⟩ hd
theorem pe_bltn {x : Str} {v : V} {u : Value} {pos : Pos} (hg : Gl X x) (hm : X.mg x = none) (hv : bootBuiltins x = some u) (r : RelV v u) (hn : x ≠ "__name__" := by decide) (hd : (x == ("__debug__" : Str)) = false := by decide) : PE X (.Name x pos) (tC v) :=
  fun _ _ _ H _ I h => ld_blt I hg hm hv ⟨v, H, I, r, h⟩ hn hd

/-! ### arithmetic -/
variable {a b : Expr} {ta tb : TE} {pos : Pos}
/-! ### comparisons -/
/-- a comparison as a value, as a test -/
def tB (t : TE) : TT := fun σ H Q => t σ H fun x H1 => ∃ c, x = .bl c ∧ Q c H1
/-- an expression whose value is a bool, as a test -/
theorem pt_val {e : Expr} {t : TE} (h : PE X e t) (he : ∀ whole, isTrue e X.env whole = (do let v ← whole; standAt e.pos; holding [v] (truthy v)) := by intro _; rfl) : PT X e (tB t) := by
  intro pins s σ H Q I hw
  refine isTrue_plain (thn (h pins s σ H _ I hw) fun v s1 ⟨x, H1, I1, r1, q1⟩ => ?_) (he _)
  obtain ⟨d, rfl, q⟩ := q1
  cases r1
  exact wpAny_truthy_bool ⟨H1, I1, q⟩

/-! ### and, or, not -/
variable {tA tB' : TT} {rest : List Expr}
def tAnd (t u : TT) : TT := fun σ H Q => t σ H fun c H1 => if c = true then u σ H1 Q else Q false H1
def tOr (t u : TT) : TT := fun σ H Q => t σ H fun c H1 => if c = true then Q true H1 else u σ H1 Q
def tNot (t : TT) : TT := fun σ H Q => t σ H fun c H1 => Q (!c) H1
theorem pw_or1 (ha : PT X a tA) : PW X (.BoolOp .Or [a] pos) tA := by
  intro wh pins s σ H Q I h
  refine isTrue_or (thn (ha pins s σ H Q I h) fun c s1 e => ?_)
  cases c with
  | false => exact isTrue_or_nil e
  | true => exact e
theorem pw_or (ha : PT X a tA) (hb : PW X (.BoolOp .Or (b :: rest) pos) tB') : PW X (.BoolOp .Or (a :: b :: rest) pos) (tOr tA tB') := by
  intro wh pins s σ H Q I h
  refine isTrue_or (thn (ha pins s σ H _ I h) fun c s1 ⟨H1, I1, q1⟩ => ?_)
  cases c with
  | true => exact ⟨H1, I1, q1⟩
  | false => exact hb wh pins s1 σ H1 Q I1 q1
theorem pt_not (ha : PT X a tA) : PT X (.UnaryOp .Not a pos) (tNot tA) := by
  intro pins s σ H Q I h
  exact isTrue_not (ha pins s σ H (fun c H1 => Q (!c) H1) I h)
/-- .. as values (bools) -/
def tAndV (ta tb : TE) : TE := fun σ H Q => ta σ H fun x H1 => ∃ c, x = .bl c ∧ if c = true then tb σ H1 Q else Q (.bl false) H1
def tOrV (ta tb : TE) : TE := fun σ H Q => ta σ H fun x H1 => ∃ c, x = .bl c ∧ if c = true then Q (.bl true) H1 else tb σ H1 Q
def tNotV (ta : TE) : TE := fun σ H Q => ta σ H fun x H1 => ∃ c, x = .bl c ∧ Q (.bl (!c)) H1
theorem pe_one {op} {t : TE} (h : PE X a t) : PE X (.BoolOp op [a] pos) t := fun pins s σ H Q I hw => BoolOp_one (h pins s σ H Q I hw)
theorem pe_and (ha : PE X a ta) (hb : PE X (.BoolOp .And (b :: rest) pos) tb) : PE X (.BoolOp .And (a :: b :: rest) pos) (tAndV ta tb) := by
  intro pins s σ H Q I h
  refine BoolOp_and (thn (ha pins s σ H _ I h) fun v s1 ⟨x, H1, I1, r1, q1⟩ => ?_)
  obtain ⟨c, rfl, q1⟩ := q1
  cases r1
  refine wpAny_truthy_bool ?_
  cases c with
  | true => exact hb pins s1 σ H1 Q I1 q1
  | false => exact ⟨.bl false, H1, I1, rfl, q1⟩
theorem pe_or (ha : PE X a ta) (hb : PE X (.BoolOp .Or (b :: rest) pos) tb) : PE X (.BoolOp .Or (a :: b :: rest) pos) (tOrV ta tb) := by
  intro pins s σ H Q I h
  refine BoolOp_or (thn (ha pins s σ H _ I h) fun v s1 ⟨x, H1, I1, r1, q1⟩ => ?_)
  obtain ⟨c, rfl, q1⟩ := q1
  cases r1
  refine wpAny_truthy_bool ?_
  cases c with
  | false => exact hb pins s1 σ H1 Q I1 q1
  | true => exact ⟨.bl true, H1, I1, rfl, q1⟩
theorem pe_not (ha : PE X a ta) : PE X (.UnaryOp .Not a pos) (tNotV ta) := by
  intro pins s σ H Q I h
  refine UnaryOp_ (thn (ha pins s σ H _ I h) fun v s1 ⟨x, H1, I1, r1, q1⟩ => ?_)
  obtain ⟨c, rfl, q1⟩ := q1
  cases r1
  exact not_of (wpAny_truthy_bool ⟨.bl (!c), H1, I1, rfl, q1⟩)
/-- a if t else b -/
def tIf (t : TT) (ta tb : TE) : TE := fun σ H Q => t σ H fun c H1 => if c = true then ta σ H1 Q else tb σ H1 Q
theorem pe_ifExp {c : Expr} (hc : PT X c tA) (ha : PE X a ta) (hb : PE X b tb) : PE X (.IfExp c a b pos) (tIf tA ta tb) := by
  intro pins s σ H Q I h
  refine wpAny_IfExp (thn (hc pins s σ H _ I h) fun d s1 ⟨H1, I1, q1⟩ => ?_)
  cases d with
  | true => exact ha pins s1 σ H1 Q I1 q1
  | false => exact hb pins s1 σ H1 Q I1 q1
end
end L2

namespace L2
open PySem PySem.Spec PyProof.Rows

/-! ### a list, a tuple that is read: tracked, frozen, or an object of the module -/
def SqL (K : PySem.W.Frag) (H : Hp) (a : Addr) (xs : List V) : Prop :=
  Rd H a (.lst xs) ∨
    ∃ (o : Obj) (its : Array Value) (n : Nat), K.lookup a = some o ∧ o.cls = .type "list" ∧ o.dict = none ∧ o.data = .seq its n ∧ its.size ≤ sizeLine ∧ Vals xs its.toList
def SqT (K : PySem.W.Frag) (H : Hp) (a : Addr) (xs : List V) : Prop :=
  Rd H a (.tup xs) ∨
    ∃ (o : Obj) (its : Array Value) (n : Nat), K.lookup a = some o ∧ o.cls = .type "tuple" ∧ o.data = .seq its n ∧ its.size ≤ sizeLine ∧ Vals xs its.toList
def absV : Value → Option V
  | .none => some .non
  | .bool b => some (.bl b)
  | .int i _ => some (.int i)
  | .str x _ => some (.str x)
  | .bytes b _ => some (.byt b)
  | .float b _ => some (.flt b)
  | .ref a => some (.ref a)
  | .type n => some (.ty n)
  | _ => none
theorem RelV.abs {x : V} {u : Value} (r : RelV x u) : absV u = some x := by
  cases x with
  | non => cases r; rfl
  | bl _ => cases r; rfl
  | int _ => obtain ⟨t, rfl⟩ := r; rfl
  | str _ => obtain ⟨t, rfl⟩ := r; rfl
  | byt _ => obtain ⟨t, rfl⟩ := r; rfl
  | flt _ => obtain ⟨t, rfl⟩ := r; rfl
  | ref _ => cases r; rfl
  | ty _ => cases r; rfl
theorem RelV.inj {x y : V} {u : Value} (r : RelV x u) (q : RelV y u) : x = y := Option.some.inj (r.abs.symm.trans q.abs)
theorem Vals.inj : ∀ {xs ys : List V} {us : List Value}, Vals xs us → Vals ys us → xs = ys
  | _, _, _, .nil, .nil => rfl
  | _, _, _, .cons r t, .cons r' t' => by rw [r.inj r', Vals.inj t t']
section
variable {X : Cx} {pins : List (Addr × Obj)} {σ : St} {H : Hp} {s : Shared} {a : Addr} {xs ys : List V}
theorem SqL.of {K : PySem.W.Frag} (h : H a = some (.lst xs)) : SqL K H a xs := .inl (.inl h)
theorem SqT.of {K : PySem.W.Frag} (h : H a = some (.tup xs)) : SqT K H a xs := .inl (.inl h)
theorem Inv.list (I : Inv X pins σ H s) (h : SqL X.K H a xs) : ∃ its : List Value, Vals xs its ∧ PlainL s.heap a its.toArray ∧ xs.length ≤ sizeLine := by
  rcases h with h | ⟨o, its, n, hk, hc, hd, hs, hz, r⟩
  · obtain ⟨z, its, n, r, e⟩ := h.ok I.hok
    exact ⟨its, r, ⟨_, n, e, rfl, rfl, rfl⟩, z⟩
  · refine ⟨its.toList, r, ⟨o, n, I.kIn a o hk, hc, hd, by simpa using hs⟩, ?_⟩
    have e := r.length
    simp only [Array.length_toList] at e
    omega
theorem Inv.tuple (I : Inv X pins σ H s) (h : SqT X.K H a xs) : ∃ its : List Value, Vals xs its ∧ IsTup s.heap a its.toArray ∧ xs.length ≤ sizeLine := by
  rcases h with h | ⟨o, its, n, hk, hc, hs, hz, r⟩
  · obtain ⟨z, its, r, p⟩ := h.ok I.hok
    exact ⟨its, r, p, z.1⟩
  · refine ⟨its.toList, r, ⟨o, I.kIn a o hk, hc, n, by simpa using hs⟩, ?_⟩
    have e := r.length
    simp only [Array.length_toList] at e
    omega
end

/-! ### another wish about exceptions -/
abbrev Cx.wish (X : Cx) (E : Value → Shared → Prop) : Cx := { X with xe := E }
/-- no exception leaves -/
abbrev Cx.nox (X : Cx) : Cx := X.wish fun _ _ => False
theorem Cx.Ok.wish {X : Cx} (ok : X.Ok) (E : Value → Shared → Prop) : (X.wish E).Ok :=
  ⟨ok.mod, ok.kind, ok.glob, ok.blt, ok.above, ok.inj, ok.has, ok.cab, ok.hd, ok.frames, ok.stk, ok.exf, ok.bs, ok.bsz, ok.noex, ok.exfs, ok.funs, ok.frf⟩
theorem Cx.Ok.unwish {X : Cx} {E : Value → Shared → Prop} (ok : (X.wish E).Ok) : X.Ok :=
  ⟨ok.mod, ok.kind, ok.glob, ok.blt, ok.above, ok.inj, ok.has, ok.cab, ok.hd, ok.frames, ok.stk, ok.exf, ok.bs, ok.bsz, ok.noex, ok.exfs, ok.funs, ok.frf⟩
section
variable {X : Cx} {pins : List (Addr × Obj)} {σ : St} {H : Hp} {s : Shared} {E : Value → Shared → Prop}
theorem Inv.wish (I : Inv X pins σ H s) (E : Value → Shared → Prop) : Inv (X.wish E) pins σ H s := ⟨I.ok.wish E, I.os, I.bare, I.base, I.loc, I.cell, I.free, I.freeC, I.pin, I.hok, I.len⟩
theorem Inv.unwish (I : Inv (X.wish E) pins σ H s) : Inv X pins σ H s := ⟨I.ok.unwish, I.os, I.bare, I.base, I.loc, I.cell, I.free, I.freeC, I.pin, I.hok, I.len⟩
theorem SP.unwish {D : Ends} {f : Flow} {s' : Shared} (h : SP (X.wish E) pins D f s') : SP X pins D f s' := by
  cases f with
  | next => obtain ⟨σ', H', I, q⟩ := h; exact ⟨σ', H', I.unwish, q⟩
  | brk => obtain ⟨σ', H', I, q⟩ := h; exact ⟨σ', H', I.unwish, q⟩
  | cont => obtain ⟨σ', H', I, q⟩ := h; exact ⟨σ', H', I.unwish, q⟩
  | ret u => obtain ⟨v, σ', H', I, r, q⟩ := h; exact ⟨v, σ', H', I.unwish, r, q⟩
theorem PE.nox {e : Expr} {t : TE} (h : PE X.nox e t) : PE X e t := fun pins s σ H Q I hw =>
  wpAny_mono (h pins s σ H Q (I.wish _) hw) (fun _ _ ⟨v, H', I', r, q⟩ => ⟨v, H', I'.unwish, r, q⟩) fun _ _ z => False.elim z
theorem PT.nox {e : Expr} {t : TT} (h : PT X.nox e t) : PT X e t := fun pins s σ H Q I hw =>
  wpAny_mono (h pins s σ H Q (I.wish _) hw) (fun _ _ ⟨H', I', q⟩ => ⟨H', I'.unwish, q⟩) fun _ _ z => False.elim z
theorem PSs.nox {st : List Stmt} {t : TS} (h : PSs X.nox st t) : PSs X st t := fun pins s σ H D I hw =>
  wpAny_mono (h pins s σ H D (I.wish _) hw) (fun _ _ q => q.unwish) fun _ _ z => False.elim z
end

/-! ### blocks and small statements -/
section
variable {X : Cx} {st : Stmt} {rest : List Stmt} {t u : TS} {e : Expr} {te : TE} {pos : Pos}
def tNext : TS := fun D σ H => D.nx σ H
def tSeq (t u : TS) : TS := fun D σ H => t { D with nx := u D } σ H
theorem pss_nil : PSs X [] tNext := fun _ _ σ H _ I h => wpAny_execs_nil ⟨σ, H, I, h⟩
theorem pss_cons (h1 : PS X st t) (h2 : PSs X rest u) : PSs X (st :: rest) (tSeq t u) := by
  intro pins s σ H D I h
  refine wpAny_execs_cons (thn (h1 pins s σ H { D with nx := u D } I h) fun f s1 q => ?_)
  cases f with
  | next =>
    obtain ⟨σ', H', I', q⟩ := q
    exact h2 pins s1 σ' H' D I' q
  | ret v => exact q
  | brk => exact q
  | cont => exact q
theorem pss_one (h1 : PS X st t) : PSs X [st] t := by
  intro pins s σ H D I h
  refine wpAny_execs_cons (thn (h1 pins s σ H D I h) fun f s1 q => ?_)
  cases f with
  | next => exact wpAny_execs_nil q
  | ret v => exact q
  | brk => exact q
  | cont => exact q
/-- in a def's body nothing is shown -/
theorem Inv.quiet {pins : List (Addr × Obj)} {σ : St} {H : Hp} {s : Shared} (I : Inv X pins σ H s) : interactive X.env = false := by simp [interactive, I.ok.kind]
/-- an expression whose value is dropped -/
def tDrop (te : TE) : TS := fun D σ H => te σ H fun _ H1 => D.nx σ H1
def tRet (te : TE) : TS := fun D σ H => te σ H D.rt
theorem ps_ret (he : PE X e te) : PS X (.Return (some e) pos) (tRet te) := by
  intro pins s σ H D I h
  exact wpAny_Return_some (thn (he pins s σ H _ I h) fun v s1 ⟨x, H1, I1, r1, q1⟩ => ⟨x, σ, H1, I1, r1, q1⟩)
def tRetN : TS := fun D _ H => D.rt .non H
def tIfS (c : TT) (t u : TS) : TS := fun D σ H => c σ H fun b H1 => if b = true then t D σ H1 else u D σ H1
theorem ps_if {c : Expr} {a b : List Stmt} {tc : TT} (hc : PT X c tc) (ha : PSs X a t) (hb : PSs X b u) : PS X (.If c a b pos) (tIfS tc t u) := by
  intro pins s σ H D I h
  refine wpAny_If (thn (hc pins s σ H _ I h) fun d s1 ⟨H1, I1, q1⟩ => ?_)
  cases d with
  | true => exact ha pins s1 σ H1 D I1 q1
  | false => exact hb pins s1 σ H1 D I1 q1
/-- code that the proof never comes to -/
def tNever : TS := fun _ _ _ => False
theorem ps_never : PS X st tNever := fun _ _ _ _ _ _ h => h.elim
end

/-! ### targets -/
abbrev TG := V → St → Hp → (St → Hp → Prop) → Prop
abbrev TGs := List V → St → Hp → (St → Hp → Prop) → Prop
def PG (X : Cx) (target : Expr) (t : TG) : Prop :=
  ∀ (pins : List (Addr × Obj)) (s : Shared) (σ : St) (H : Hp) (v : V) (u : Value) (Q : St → Hp → Prop), Inv X pins σ H s → RelV v u → t v σ H Q →
    wpAny (model X.prog X.w) X.A (assign target X.env u) (fun _ s' => ∃ σ' H', Inv X pins σ' H' s' ∧ Q σ' H') X.xe s
/-- several targets, one after another -/
def PGs (X : Cx) (ts : List Expr) (t : TGs) : Prop :=
  ∀ (pins : List (Addr × Obj)) (s : Shared) (σ : St) (H : Hp) (vs : List V) (us : List Value) (Q : St → Hp → Prop), Inv X pins σ H s → Vals vs us → t vs σ H Q →
    wpAny (model X.prog X.w) X.A (assignInOrder ((assignEach ts X.env).map (·.2)) us) (fun _ s' => ∃ σ' H', Inv X pins σ' H' s' ∧ Q σ' H') X.xe s
/-- o[i] = v, by values -/
abbrev TSet := V → V → V → Hp → (Hp → Prop) → Prop
def PSet (X : Cx) (t : TSet) : Prop :=
  ∀ (pins : List (Addr × Obj)) (s : Shared) (σ : St) (H : Hp) (o i v : V) (ov iv u : Value) (Q : Hp → Prop), Inv X pins σ H s → RelV o ov → RelV i iv → RelV v u → t o i v H Q →
    wpAny (model X.prog X.w) X.A (setItem ov iv u) (fun _ s' => ∃ H', Inv X pins σ H' s' ∧ Q H') X.xe s
/-- a op= b, by values -/
abbrev TIp := V → V → Hp → VK → Prop
section
variable {X : Cx} {pos : Pos}
def gName (i : Nat) : TG := fun v σ H Q => Q (σ.set i (some v)) H
theorem pg_name {i : Nat} {x : Str} (hN : X.N.Nodup) (hi : X.N[i]? = some x) (hx : Loc X.env.scope x) (hf : X.fn x = true ∨ X.env.scope.names.lookup x = some .local := by first | exact .inl rfl | exact .inr rfl | assumption) : PG X (.Name x pos) (gName i) := by
  intro pins s σ H v u Q I r h
  exact wpAny_assign_Name (store_ok I hN hi hx r (fun s' I' => ⟨_, H, I', h⟩) hf)
def gNil : TGs := fun vs σ H Q => vs = [] ∧ Q σ H
def gCons (t : TG) (u : TGs) : TGs := fun vs σ H Q => ∃ v r, vs = v :: r ∧ t v σ H fun σ' H' => u r σ' H' Q
theorem pgs_nil : PGs X [] gNil := by
  intro pins s σ H vs us Q I r h
  obtain ⟨e, h⟩ := h
  subst e
  cases r
  exact assignInOrder_nil ⟨σ, H, I, h⟩
theorem pgs_cons {e : Expr} {es : List Expr} {t : TG} {u : TGs} (h1 : PG X e t) (h2 : PGs X es u)
    (hs : (assignEach (e :: es) X.env).map (·.2) = assign e X.env :: (assignEach es X.env).map (·.2) := by rfl) : PGs X (e :: es) (gCons t u) := by
  intro pins s σ H vs us Q I r h
  obtain ⟨v, vr, e1, h⟩ := h
  subst e1
  cases r with
  | cons r rr =>
    rw [hs]
    refine assignInOrder_cons (thn (h1 pins s σ H _ _ _ I r h) fun _ s1 ⟨σ1, H1, I1, q1⟩ => ?_)
    exact h2 pins s1 σ1 H1 _ _ Q I1 rr q1
/-- (a, b, ..) = a tuple of that length -/
def gTup (K : PySem.W.Frag) (n : Nat) (t : TGs) : TG := fun v σ H Q => ∃ a xs, v = .ref a ∧ SqT K H a xs ∧ xs.length = n ∧ t xs σ H Q
theorem pg_tup {es : List Expr} {k : Nat} {t : TGs} {n : Nat} (hc : X.calm = true) (h : PGs X es t)
    (hn : (assignEach es X.env).length = n := by rfl) (hst : (assignEach es X.env).findIdx? (·.1) = none := by rfl) : PG X (.Tuple es k pos) (gTup X.K n t) := by
  intro pins s σ H v u Q I r hw
  obtain ⟨a, xs, e1, hq, hl, hw⟩ := hw
  subst e1
  cases r
  obtain ⟨its, rv, ht, hz⟩ := I.tuple hq
  refine assign_Tuple_tuple (I.ok.hd hc) ht (by simp [hn, ← hl, rv.length]) hst fun h' hx => ?_
  have I1 : Inv X pins σ H { s with heap := h' } := I.kept (t' := s.toks) fun b o e => hx b o (Nat.ne_of_lt (Heap.lt_size e)) e
  exact h pins _ σ H xs _ Q I1 (by simpa using rv) hw
/-- o[i] = .. -/
def gSub (to ti : TE) (t : TSet) : TG := fun v σ H Q => to σ H fun o H1 => ti σ H1 fun i H2 => t o i v H2 fun H3 => Q σ H3
theorem pg_sub {o i : Expr} {to ti : TE} {t : TSet} (ho : PE X o to) (hi : PE X i ti) (hs : PSet X t)
    (ha : ∀ v, assign (.Subscript o i pos) X.env v = (do
      let ov ← holding [v] (eval o X.env)
      let iv ← holding [v, ov] (eval i X.env)
      standAt pos
      holding [v, ov, iv] (setItem ov iv v)
      release [v, ov, iv] []) := by intro _; rfl) : PG X (.Subscript o i pos) (gSub to ti t) := by
  intro pins s σ H v u Q I r h
  rw [ha]
  refine wpAny_bind (wpAny_holding (thn (ho pins s σ H _ I h) fun ov s1 ⟨x, H1, I1, r1, q1⟩ => ?_))
  refine wpAny_bind (wpAny_holding (thn (hi pins s1 σ H1 _ I1 q1) fun iv s2 ⟨y, H2, I2, r2, q2⟩ => ?_))
  refine wpAny_bind (wpAny_standAt (wpAny_bind (wpAny_holding (thn (hs pins s2 σ H2 x y v ov iv u _ I2 r1 r2 r q2) fun _ s3 ⟨H3, I3, q3⟩ => ?_))))
  exact wpAny_release ⟨σ, H3, I3, q3⟩
/-- target = value -/
def tAsg (te : TE) (g : TG) : TS := fun D σ H => te σ H fun x H1 => g x σ H1 D.nx
theorem ps_asg {tg e : Expr} {te : TE} {g : TG} (he : PE X e te) (hg : PG X tg g) (hs : swapsWithSole [tg] e pos.line X.env = pure false := by rfl) (hw : swappedStores [tg] e X.env = pure none := by rfl)
    (h1 : (assignEach [tg] X.env).map (·.2) = [assign tg X.env] := by rfl) : PS X (.Assign [tg] e pos) (tAsg te g) := by
  intro pins s σ H D I h
  refine wpAny_Assign_stores (thn (he pins s σ H _ I h) fun v s1 ⟨x, H1, I1, r1, q1⟩ => ?_) hs hw
  rw [h1]
  exact thn (hg pins s1 σ H1 x v _ I1 r1 q1) fun _ s2 q => q
/-- name = value -/
theorem ps_set {i : Nat} {x : Str} {e : Expr} {te : TE} {pos' : Pos} (hN : X.N.Nodup) (hi : X.N[i]? = some x) (hx : Loc X.env.scope x) (he : PE X e te) (hs : swapsWith e (some (.Name x pos')) pos.line X.env = pure false := by rfl) (hf : X.fn x = true ∨ X.env.scope.names.lookup x = some .local := by first | exact .inl rfl | exact .inr rfl | assumption) :
    PS X (.Assign [.Name x pos'] e pos) (tAsg te (gName i)) := by
  intro pins s σ H D I h
  refine wpAny_Assign_Name (thn (he pins s σ H _ I h) fun v s1 ⟨y, H1, I1, r1, q1⟩ => ?_) hs
  exact store_ok I1 hN hi hx r1 (fun s2 I2 => ⟨_, H1, I2, q1⟩) hf
/-- a, b = x, y with plain local names: stored from the right; the pair itself is not tracked (the opening rows as in PyProof/Rows/TupAssign.lean:23) -/
def tPar (i j : Nat) (ta : TA) : TS := fun D σ H => ta σ H fun vs H1 => ∃ v w, vs = [v, w] ∧ D.nx ((σ.set i (some v)).set j (some w)) H1
/-- name op= e -/
def tAug (i : Nat) (te : TE) (ti : TIp) : TS := fun D σ H => ∃ x, σ[i]? = some (some x) ∧ te σ H fun y H1 => ti x y H1 fun z H2 => D.nx (σ.set i (some z)) H2
end

/-! ### while -/
section
variable {X : Cx} {pos : Pos}
end

/-! ### what a loop or a comprehension walks -/
/-- at turn i: it yields x (the heap may grow), or it stops -/
structure It where
  go : Nat → Hp → Prop
  yld : Nat → Hp → V → Hp → Prop
  stop : Nat → Hp → Prop
/-- the iterator's own objects may turn: they are not the frame's, not pinned, younger than the entry (or a comprehension's own) -/
def FpOk (X : Cx) (pins : List (Addr × Obj)) (H : Hp) (b : Addr) : Prop :=
  H b = none ∧ b ≠ X.env.locals ∧ b ∉ X.fs ∧ (b ∈ X.ex ∨ X.s₀.heap.objs.size ≤ b) ∧ (∀ x c, X.env.cells.lookup x = some c → c ≠ b) ∧ ∀ p ∈ X.pn ++ pins, p.1 ≠ b
theorem Inv.fpOk {X : Cx} {pins : List (Addr × Obj)} {σ : St} {H H' : Hp} {s : Shared} {b : Addr} (I : Inv X pins σ H s) (hb : s.heap.objs.size ≤ b) (hn : H' b = none) : FpOk X pins H' b := by
  refine ⟨hn, Nat.ne_of_gt (Nat.lt_of_lt_of_le I.lt hb), I.nofs hb, .inr (Nat.le_trans I.sz hb), fun x c e z => ?_, fun p hp z => ?_⟩
  · obtain ⟨v, q⟩ := I.cell x c e
    exact absurd (Nat.lt_of_lt_of_le q.lt (by rw [z]; exact hb)) (Nat.lt_irrefl _)
  · exact absurd (Nat.lt_of_lt_of_le (Heap.lt_size (I.pin p hp).1) (by rw [z]; exact hb)) (Nat.lt_irrefl _)
structure Turn (P : Program) (w : World) (K : PySem.W.Frag) (tg : Expr) (J : It) (fp : List Addr) (it : Addr) (tn : Nat → Heap → Prop) : Prop where
  mem : it ∈ fp
  obj : ∀ i h, tn i h → ∀ b ∈ fp, ∃ o, h.get? b = some o ∧ ∀ v, o.data ≠ .cell v
  keep : ∀ i h h', tn i h → (∀ b ∈ fp, ∀ o, h.get? b = some o → h'.get? b = some o) → tn i h'
  item : ∀ (X : Cx), X.prog = P → X.w = w → X.K = K → X.calm = true → ∀ (i : Nat) (pins : List (Addr × Obj)) (s : Shared) (σ : St) (H : Hp) (E : Value → Shared → Prop), Inv X pins σ H s → (∀ b ∈ fp, FpOk X pins H b) → tn i s.heap → J.go i H →
    wpAny (model P w) X.A (pyNext (.ref it)) (fun r s1 => ∃ u, r = some u ∧
      wpAny (model P w) X.A (letOwnedTupleGo tg (.ref it) u) (fun _ s2 => ∃ x H', Inv X pins σ H' s2 ∧ RelV x u ∧ J.yld i H x H' ∧ tn (i + 1) s2.heap ∧ ∀ b ∈ fp, H' b = none) E s1) E s
  done : ∀ (X : Cx), X.prog = P → X.w = w → X.K = K → X.calm = true → ∀ (i : Nat) (pins : List (Addr × Obj)) (s : Shared) (σ : St) (H : Hp) (E : Value → Shared → Prop), Inv X pins σ H s → (∀ b ∈ fp, FpOk X pins H b) → tn i s.heap → J.stop i H →
    wpAny (model P w) X.A (pyNext (.ref it)) (fun r s1 => r = none ∧ Inv X pins σ H s1) E s
  self : ∀ (A : Around) (i : Nat) (s : Shared) (Q : Value → Shared → Prop) (E : Value → Shared → Prop), tn i s.heap → Q (.ref it) s → wpAny (model P w) A (pyIter (.ref it)) Q E s
abbrev TI := St → Hp → (It → Hp → Prop) → Prop
/-- an iterator has come -/
def PIE (X : Cx) (pins : List (Addr × Obj)) (σ : St) (tg : Expr) (R : It → Hp → Prop) (itv : Value) (s2 : Shared) : Prop :=
  ∃ (it : Addr) (fp : List Addr) (tn : Nat → Heap → Prop) (J : It) (H' : Hp), itv = .ref it ∧ Inv X pins σ H' s2 ∧ Turn X.prog X.w X.K tg J fp it tn ∧ tn 0 s2.heap ∧ (∀ b ∈ fp, FpOk X pins H' b) ∧ R J H'
def PI (X : Cx) (tg iter : Expr) (wi : TI) : Prop :=
  ∀ (pins : List (Addr × Obj)) (s : Shared) (σ : St) (H : Hp) (R : It → Hp → Prop), Inv X pins σ H s → wi σ H R →
    wpAny (model X.prog X.w) X.A (eval iter X.env) (fun v s1 => wpAny (model X.prog X.w) X.A (pyIter v) (PIE X pins σ tg R) X.xe s1) X.xe s

/-- the step ahead of the store is nothing for an iterator that keeps no tuple -/
theorem go_of {M : Model} {A : Around} {E : Value → Shared → Prop} {s : Shared} {tg : Expr} {it : Addr} {u : Value} {o : Obj} {n : String} {vs : Array Value} {Q : Unit → Shared → Prop} (ho : s.heap.get? it = some o) (hc : o.cls = .type n) (hd : o.data = .fields vs)
    (hn : ["enumerate", "zip", "dict_itemiterator", "dict_reverseitemiterator", "odict_iterator", "itertools.zip_longest", "itertools.pairwise"].contains n = false) (hQ : Q () s) : wpAny M A (letOwnedTupleGo tg (.ref it) u) Q E s := by
  unfold letOwnedTupleGo
  cases tg <;> first
    | exact wpAny_pure hQ
    | (cases u <;> first
        | exact wpAny_pure hQ
        | (refine wpAny_bind (wpAny_load ho ?_)
           rw [hc, hd]
           show wpAny M A (if (["enumerate", "zip", "dict_itemiterator", "dict_reverseitemiterator", "odict_iterator", "itertools.zip_longest", "itertools.pairwise"].contains n && vs[0]? == some (rawInt _)) = true then _ else _) Q E s
           rw [if_neg (by intro h; rw [hn, Bool.false_and] at h; cases h)]
           exact wpAny_pure hQ))

/-- the list at a, as it stands at each turn (a loop may append to it) -/
def Itl (K : PySem.W.Frag) (a : Addr) : It :=
  ⟨fun i H => ∃ xs x, SqL K H a xs ∧ xs[i]? = some x, fun i H x H' => H' = H ∧ ∀ xs, SqL K H a xs → xs[i]? = some x, fun i H => ∃ xs, SqL K H a xs ∧ xs.length ≤ i⟩
def Itt (K : PySem.W.Frag) (a : Addr) : It :=
  ⟨fun i H => ∃ xs x, SqT K H a xs ∧ xs[i]? = some x, fun i H x H' => H' = H ∧ ∀ xs, SqT K H a xs → xs[i]? = some x, fun i H => ∃ xs, SqT K H a xs ∧ xs.length ≤ i⟩
/-- lo, lo + 1, .. (n of them) -/
def Itr (lo : Int) (n : Nat) : It := ⟨fun i _ => i < n, fun i H x H' => H' = H ∧ x = .int (lo + i), fun i _ => n ≤ i⟩
theorem turn_range {P : Program} {w : World} {K : PySem.W.Frag} {tg : Expr} (it : Addr) (lo : Int) (n : Nat) : Turn P w K tg (Itr lo n) [it] it (fun i h => IsRangeIter h it (lo + (i : Nat) * 1) ((n : Int) - (i : Nat)) 1) where
  mem := by simp
  obj := fun i h st b hb => by
    have e : b = it := by simpa using hb
    subst e
    exact ⟨_, st, fun v z => by
      have z' : Data.fields _ = Data.cell v := z
      cases z'⟩
  keep := fun i h h' st k => k it (by simp) _ st
  item := by
    intro X hP hw hK hc i pins s σ H E I hf st hg
    subst hP hw hK
    obtain ⟨f0, f1, f2, f3, f4, f5⟩ := hf it (by simp)
    have W := Walks.range (prog := X.prog) (w := X.w) (I.ok.hd hc) it lo 1 n
    refine W.item i s _ _ hg st fun v h' tk hv st' kk => ?_
    obtain ⟨t, rfl⟩ := hv
    have I1 : Inv X pins σ H { s with heap := h', toks := tk } := I.turned (fun b o hb e => kk b o (by simpa using hb) e) f0 f1 f3 f4 f5
    refine ⟨_, rfl, go_of (s := { s with heap := h', toks := tk }) (n := "range_iterator") st' rfl rfl (by decide) ⟨.int (lo + i), H, I1, ⟨t, ?_⟩, ⟨rfl, rfl⟩, st', fun b hb => (hf b hb).1⟩⟩
    rw [Int.mul_one]
  done := by
    intro X hP hw hK hc i pins s σ H E I hf st hg
    subst hP hw hK
    obtain ⟨f0, f1, f2, f3, f4, f5⟩ := hf it (by simp)
    exact wpAny_pyNext_range_end (I.ok.hd hc) st (by have : n ≤ i := hg; omega) fun h' eb => ⟨rfl, I.turned (t' := s.toks) (fun b o hb e => eb b o hb e) f0 f1 f3 f4 f5⟩
  self := fun _ _ _ _ _ st h => wpAny_pyIter_rangeiter st h
end L2

namespace L2
open PySem PySem.Spec PyProof.Rows
section
variable {X : Cx} {tg : Expr}
def iList (K : PySem.W.Frag) (tl : TE) : TI := fun σ H R => tl σ H fun x H1 => ∃ a, x = .ref a ∧ (∃ xs, SqL K H1 a xs) ∧ R (Itl K a) H1
def iTup (K : PySem.W.Frag) (tl : TE) : TI := fun σ H R => tl σ H fun x H1 => ∃ a, x = .ref a ∧ (∃ xs, SqT K H1 a xs) ∧ R (Itt K a) H1
/-- a range object just made, walked -/
theorem range_it {pins : List (Addr × Obj)} {σ : St} {H : Hp} {s : Shared} {R : It → Hp → Prop} {E : Value → Shared → Prop} {lo hi : Int} {t u v : Tok} {tk : Nat} (I : Inv X pins σ H s) (h1 : -(2 ^ 62) ≤ lo) (h2 : lo < 2 ^ 62) (h3 : -(2 ^ 62) ≤ hi) (h4 : hi < 2 ^ 62)
    (q : R (Itr lo (hi - lo).toNat) H) : wpAny (model X.prog X.w) X.A (pyIter (.ref s.heap.objs.size)) (PIE X pins σ tg R) E { s with heap := s.heap.push { cls := .type "range", data := .fields #[.int lo t, .int hi u, .int 1 v] }, toks := tk } := by
  refine wpAny_pyIter_range (IsRange.new ..) (small_one h1 h2 h3 h4) ?_
  have I1 : Inv X pins σ H { s with heap := s.heap.push { cls := .type "range", data := .fields #[.int lo t, .int hi u, .int 1 v] }, toks := tk } := I.kept fun b o e => Heap.get?_push_of_some _ e
  refine ⟨(s.heap.push { cls := .type "range", data := .fields #[.int lo t, .int hi u, .int 1 v] }).objs.size, [(s.heap.push { cls := .type "range", data := .fields #[.int lo t, .int hi u, .int 1 v] }).objs.size], _, _, H, rfl,
    I1.kept (t' := tk) fun b o e => Heap.get?_push_of_some _ e, turn_range _ lo (hi - lo).toNat, ?_, fun b hb => ?_, q⟩
  · have e1 : lo + ((0 : Nat) : Int) * 1 = lo := by simp
    have e2 : (((hi - lo).toNat : Nat) : Int) - ((0 : Nat) : Int) = Builtin.Range.rangeSize lo hi 1 := by rw [rangeSize_one]; split <;> omega
    show IsRangeIter _ _ (lo + ((0 : Nat) : Int) * 1) ((((hi - lo).toNat : Nat) : Int) - ((0 : Nat) : Int)) 1
    rw [e1, e2]
    exact Heap.get?_push_size _ rfl
  · have e : b = (s.heap.push { cls := .type "range", data := .fields #[.int lo t, .int hi u, .int 1 v] }).objs.size := by simpa using hb
    subst e
    exact I1.fpOk (Nat.le_refl _) (I1.hok.fresh (Nat.le_refl _))
def iRng1 (ta : TA) : TI := fun σ H R => ta σ H fun vs H1 => ∃ j : Int, vs = [.int j] ∧ -(2 ^ 62) ≤ j ∧ j < 2 ^ 62 ∧ R (Itr 0 j.toNat) H1
def iRng2 (ta : TA) : TI := fun σ H R => ta σ H fun vs H1 => ∃ i j : Int, vs = [.int i, .int j] ∧ (-(2 ^ 62) ≤ i ∧ i < 2 ^ 62 ∧ -(2 ^ 62) ≤ j ∧ j < 2 ^ 62) ∧ R (Itr i (j - i).toNat) H1
theorem pi_range1 {a : Expr} {ta : TA} {p pos : Pos} (hg : Gl X "range") (hm : X.mg "range" = none) (ha : PA X [a] ta) (hs : starEach [a] X.env = [(false, eval a X.env)] := by rfl) : PI X tg (.Call (.Name "range" p) [a] [] pos) (iRng1 ta) := by
  intro pins s σ H R I h
  refine Call_ (ld_blt I hg hm boot_range (PyProof.Rows.callWith_type1 (thn (ha pos pins s σ H _ I h) fun us s1 ⟨vs, H1, I1, r1, q1⟩ => ?_) hs rfl))
  obtain ⟨j, e, q1, q2, q⟩ := q1
  subst e
  cases r1 with
  | cons r rr =>
    cases rr
    obtain ⟨t, rfl⟩ := r
    exact call_range_1 (range_it I1 (by omega) (by omega) q1 q2 (by simpa using q))
/-! ### for -/
/-- W: the invariant by the turn and a measure; N: what the body is to reach -/
def tFor (wi : TI) (g : TG) (tb : TS) : TS := fun D σ H => wi σ H fun J H1 => ∃ W : Nat → Nat → St → Hp → Prop, (∃ m, W 0 m σ H1) ∧ ∀ i m σ H, W i m σ H →
  (J.stop i H ∧ D.nx σ H) ∨ (J.go i H ∧ ∃ N : St → Hp → Prop, (∀ σ' H', N σ' H' → ∃ m', m' < m ∧ W (i + 1) m' σ' H') ∧ ∀ x H', J.yld i H x H' → g x σ H' fun σ2 H2 => tb { D with nx := N, ct := N, bk := D.nx } σ2 H2)
/-- the records at fp as they stand -/
def pinsAt (fp : List Addr) (h : Heap) : List (Addr × Obj) := fp.filterMap fun b => (h.get? b).map fun o => (b, o)
theorem mem_pinsAt {fp : List Addr} {h : Heap} {b : Addr} {o : Obj} (hb : b ∈ fp) (e : h.get? b = some o) : (b, o) ∈ pinsAt fp h := List.mem_filterMap.mpr ⟨b, hb, by rw [e]; rfl⟩
theorem of_pinsAt {fp : List Addr} {h : Heap} {p : Addr × Obj} (hp : p ∈ pinsAt fp h) : p.1 ∈ fp ∧ h.get? p.1 = some p.2 := by
  obtain ⟨b, hb, e⟩ := List.mem_filterMap.mp hp
  cases q : h.get? b with
  | none => rw [q] at e; cases e
  | some o =>
    rw [q] at e
    have e' : (b, o) = p := Option.some.inj e
    subst e'
    exact ⟨hb, q⟩
theorem Inv.pinned {pins : List (Addr × Obj)} {σ : St} {H : Hp} {s : Shared} {fp : List Addr} (I : Inv X pins σ H s) (hf : ∀ b ∈ fp, FpOk X pins H b) (ho : ∀ b ∈ fp, ∃ o, s.heap.get? b = some o ∧ ∀ v, o.data ≠ .cell v) : Inv X (pins ++ pinsAt fp s.heap) σ H s :=
  I.pins_of fun p hp => (List.mem_append.mp hp).elim (fun z => I.pin p (List.mem_append_right _ z)) fun z => by
    obtain ⟨hb, e⟩ := of_pinsAt z
    obtain ⟨f0, f1, f2, _⟩ := hf p.1 hb
    obtain ⟨o, e', d⟩ := ho p.1 hb
    rw [e] at e'; cases e'
    exact ⟨e, f0, f1, f2, d⟩
theorem Inv.unpinned {pins pl : List (Addr × Obj)} {σ : St} {H : Hp} {s : Shared} (I : Inv X (pins ++ pl) σ H s) : Inv X pins σ H s := I.pins_of fun p hp => I.pin p (List.mem_append_right _ (List.mem_append_left _ hp))
theorem ps_for {iter : Expr} {body : List Stmt} {wi : TI} {g : TG} {tb : TS} {pos : Pos} (hp : PassesOwn (model X.prog X.w) X.A X.env X.xe) (hc : X.calm = true) (hi : PI X tg iter wi) (hg : PG X tg g) (hb : PSs X body tb)
    (hs : ∀ x, foldedSetIterable iter X.env x = pure x := by intro _; rfl) : PS X (.For tg iter body [] pos) (tFor wi g tb) := by
  intro pins s σ H D I h
  refine wpAny_For (thn (hi pins s σ H _ I h) fun v s1 h1 => thn h1 fun itv s2 h2 => ?_) hs
  obtain ⟨it, fp, tn, J, H2, e, I2, T, st2, f2, W, ⟨m0, w0⟩, turn⟩ := h2
  subst e
  -- what stays true of the iterator's objects through the loop
  have stat : ∀ {H' : Hp}, (∀ b ∈ fp, H' b = none) → ∀ b ∈ fp, FpOk X pins H' b := fun hn b hb => ⟨hn b hb, (f2 b hb).2⟩
  refine codeAny_forLoop_any (fun n s' => ∃ i σ' H', Inv X pins σ' H' s' ∧ tn i s'.heap ∧ (∀ b ∈ fp, H' b = none) ∧ W i n σ' H') ?_ m0 ⟨0, σ, H2, I2, st2, fun b hb => (f2 b hb).1, w0⟩
  rintro n s3 ⟨i, σ3, H3, I3, st3, fr3, w3⟩
  rcases turn i n σ3 H3 w3 with ⟨stop, qn⟩ | ⟨go, N, hN, step⟩
  · refine wpAny_passesOwn hp (thn (T.done X rfl rfl rfl hc i pins s3 σ3 H3 X.xe I3 (stat fr3) st3 stop) fun r s4 ⟨hr, I4⟩ => ?_)
    subst hr
    exact wpAny_execs_nil ⟨σ3, H3, I4, qn⟩
  · refine wpAny_passesOwn hp (thn (T.item X rfl rfl rfl hc i pins s3 σ3 H3 X.xe I3 (stat fr3) st3 go) fun r s4 ⟨u, hr, h4⟩ => ?_)
    subst hr
    refine wpAny_passesOwn hp (thn h4 fun _ s5 ⟨x, H5, I5, r5, y5, st5, fr5⟩ => ?_)
    have I5' := I5.pinned (stat fr5) (T.obj _ _ st5)
    refine wpAny_passesOwn hp (thn (hg _ s5 σ3 H5 x u _ I5' r5 (step x H5 y5)) fun _ s6 ⟨σ6, H6, I6, q6⟩ => ?_)
    refine wpAny_passesOwn hp (thn (hb _ s6 σ6 H6 _ I6 q6) fun f s7 q7 => ?_)
    have again : ∀ {σ7 : St} {H7 : Hp}, Inv X (pins ++ pinsAt fp s5.heap) σ7 H7 s7 → N σ7 H7 → ∃ m, m < n ∧ ∃ i σ' H', Inv X pins σ' H' s7 ∧ tn i s7.heap ∧ (∀ b ∈ fp, H' b = none) ∧ W i m σ' H' := fun {σ7 H7} I7 n7 => by
      obtain ⟨m', hm, w7⟩ := hN σ7 H7 n7
      refine ⟨m', hm, i + 1, σ7, H7, I7.unpinned, T.keep _ _ _ st5 fun b hb o e => (I7.pin (b, o) (List.mem_append_right _ (List.mem_append_right _ (mem_pinsAt hb e)))).1, fun b hb => ?_, w7⟩
      obtain ⟨o, e, d⟩ := T.obj _ _ st5 b hb
      exact (I7.pin (b, o) (List.mem_append_right _ (List.mem_append_right _ (mem_pinsAt hb e)))).2.1
    cases f with
    | next => obtain ⟨σ7, H7, I7, n7⟩ := q7; exact again I7 n7
    | cont => obtain ⟨σ7, H7, I7, n7⟩ := q7; exact again I7 n7
    | brk => obtain ⟨σ7, H7, I7, q7⟩ := q7; exact ⟨σ7, H7, I7.unpinned, q7⟩
    | ret v => obtain ⟨x7, σ7, H7, I7, r7, q7⟩ := q7; exact ⟨x7, σ7, H7, I7.unpinned, r7, q7⟩
end

/-! ### the forms one uses -/
theorem for_range {lo : Int} {n : Nat} {g : TG} {tb : TS} {D : Ends} {σ : St} {H : Hp} (Pv : Nat → St → Hp → Prop) (h0 : Pv 0 σ H)
    (hs : ∀ i σ H, i < n → Pv i σ H → g (.int (lo + i)) σ H fun σ2 H2 => tb { D with nx := Pv (i + 1), ct := Pv (i + 1), bk := D.nx } σ2 H2) (hd : ∀ σ H, Pv n σ H → D.nx σ H) :
    ∃ W : Nat → Nat → St → Hp → Prop, (∃ m, W 0 m σ H) ∧ ∀ i m σ H, W i m σ H →
      ((Itr lo n).stop i H ∧ D.nx σ H) ∨ ((Itr lo n).go i H ∧ ∃ N : St → Hp → Prop, (∀ σ' H', N σ' H' → ∃ m', m' < m ∧ W (i + 1) m' σ' H') ∧ ∀ x H', (Itr lo n).yld i H x H' → g x σ H' fun σ2 H2 => tb { D with nx := N, ct := N, bk := D.nx } σ2 H2) := by
  refine ⟨fun i m σ H => m = n - i ∧ i ≤ n ∧ Pv i σ H, ⟨n, by simp, Nat.zero_le _, h0⟩, ?_⟩
  rintro i m σ H ⟨rfl, hi, p⟩
  by_cases hlt : i < n
  · refine .inr ⟨hlt, Pv (i + 1), fun σ' H' p' => ⟨n - (i + 1), by omega, rfl, hlt, p'⟩, fun x H' y => ?_⟩
    obtain ⟨e, y⟩ := y
    subst e y
    exact hs i σ _ hlt p
  · have e : i = n := by omega
    subst e
    exact .inl ⟨Nat.le_refl _, hd σ H p⟩
end L2

namespace L2
open PySem PySem.Spec PyProof.Rows

abbrev R2 := V → V → Hp → VK → Prop
/-- a two-place operation on values: f is binaryOp op, inplaceOp op or compareOp op -/
def OpR (X : Cx) (f : Value → Value → Sem Value) (r : R2) : Prop :=
  ∀ (pins : List (Addr × Obj)) (s : Shared) (σ : St) (H : Hp) (x y : V) (v u : Value) (Q : VK), Inv X pins σ H s → RelV x v → RelV y u → r x y H Q →
    wpAny (model X.prog X.w) X.A (f v u) (EP X pins σ Q) X.xe s
/-- a one-place operation -/
def UnR (X : Cx) (f : Value → Sem Value) (r : V → Hp → VK → Prop) : Prop :=
  ∀ (pins : List (Addr × Obj)) (s : Shared) (σ : St) (H : Hp) (x : V) (v : Value) (Q : VK), Inv X pins σ H s → RelV x v → r x H Q →
    wpAny (model X.prog X.w) X.A (f v) (EP X pins σ Q) X.xe s
/-- a call of a value that is known (a builtin, a type) with values -/
def CallR (X : Cx) (f : Value) (r : List V → Hp → VK → Prop) : Prop :=
  ∀ (pins : List (Addr × Obj)) (s : Shared) (σ : St) (H : Hp) (xs : List V) (us : List Value) (Q : VK), Inv X pins σ H s → Vals xs us → r xs H Q →
    wpAny (model X.prog X.w) X.A (call f us) (EP X pins σ Q) X.xe s
def tOp (r : R2) (ta tb : TE) : TE := fun σ H Q => ta σ H fun x H1 => tb σ H1 fun y H2 => r x y H2 Q
def tUn (r : V → Hp → VK → Prop) (ta : TE) : TE := fun σ H Q => ta σ H fun x H1 => r x H1 Q
/-- ints in, under C, and a value out -/
def rI (C : Int → Int → Prop) (g : Int → Int → V) : R2 := fun x y H Q => ∃ i j, x = .int i ∧ y = .int j ∧ C i j ∧ Q (g i j) H
def rI0 (g : Int → Int → V) : R2 := fun x y H Q => ∃ i j, x = .int i ∧ y = .int j ∧ Q (g i j) H
def rU (g : Int → V) : V → Hp → VK → Prop := fun x H Q => ∃ i, x = .int i ∧ Q (g i) H

section
variable {X : Cx} {a b c : Expr} {ta tb tc : TE} {pos : Pos}

theorem binT (ha : PE X a ta) (hb : PE X b tb) {pins : List (Addr × Obj)} {s : Shared} {σ : St} {H : Hp} {R : V → V → Hp → Prop} (I : Inv X pins σ H s)
    (h : ta σ H fun x H1 => tb σ H1 fun y H2 => R x y H2) {Q : Value → Shared → Prop} {f : Value → Value → Sem Value}
    (hf : ∀ v u s2 x y H2, Inv X pins σ H2 s2 → RelV x v → RelV y u → R x y H2 → wpAny (model X.prog X.w) X.A (f v u) Q X.xe s2) :
    wpAny (model X.prog X.w) X.A (eval a X.env) (fun v s₁ => wpAny (model X.prog X.w) X.A (eval b X.env) (fun u s₂ => wpAny (model X.prog X.w) X.A (f v u) Q X.xe s₂) X.xe s₁) X.xe s := by
  refine thn (ha pins s σ H _ I h) fun v s1 ⟨x, H1, I1, r1, q1⟩ => ?_
  refine thn (hb pins s1 σ H1 _ I1 q1) fun u s2 ⟨y, H2, I2, r2, q2⟩ => ?_
  exact hf v u s2 x y H2 I2 r1 r2 q2

theorem pe_op {op : Operator} {r : R2} (ho : OpR X (binaryOp op) r) (ha : PE X a ta) (hb : PE X b tb) : PE X (.BinOp a op b pos) (tOp r ta tb) := by
  intro pins s σ H Q I h
  exact wpAny_BinOp (binT ha hb I h fun v u s2 x y H2 I2 rx ry q => ho pins s2 σ H2 x y v u Q I2 rx ry q)
theorem pe_un {op : UnaryOp} {r : V → Hp → VK → Prop} (ho : UnR X (unaryOp op) r) (ha : PE X a ta) : PE X (.UnaryOp op a pos) (tUn r ta) := by
  intro pins s σ H Q I h
  exact UnaryOp_ (thn (ha pins s σ H _ I h) fun v s1 ⟨x, H1, I1, r1, q1⟩ => ho pins s1 σ H1 x v Q I1 r1 q1)
/-! ### ints -/
theorem opI {f : Value → Value → Sem Value} {C : Int → Int → Prop} {g : Int → Int → Int}
    (rule : ∀ (i j : Int) (t u : Tok) (s : Shared) (Q : Value → Shared → Prop) (E : Value → Shared → Prop), C i j → Q (.int (g i j) s.toks) { s with toks := s.toks + 1 } → wpAny (model X.prog X.w) X.A (f (.int i t) (.int j u)) Q E s) :
    OpR X f (rI C fun i j => .int (g i j)) := by
  intro pins s σ H x y v u Q I rx ry h
  obtain ⟨i, j, rfl, rfl, hc, q⟩ := h
  obtain ⟨t, rfl⟩ := rx
  obtain ⟨t', rfl⟩ := ry
  exact rule i j t t' s _ _ hc ⟨.int (g i j), H, I.tok _, ⟨_, rfl⟩, q⟩
theorem opI0 {f : Value → Value → Sem Value} {g : Int → Int → Int}
    (rule : ∀ (i j : Int) (t u : Tok) (s : Shared) (Q : Value → Shared → Prop) (E : Value → Shared → Prop), Q (.int (g i j) s.toks) { s with toks := s.toks + 1 } → wpAny (model X.prog X.w) X.A (f (.int i t) (.int j u)) Q E s) :
    OpR X f (rI0 fun i j => .int (g i j)) := by
  intro pins s σ H x y v u Q I rx ry h
  obtain ⟨i, j, rfl, rfl, q⟩ := h
  obtain ⟨t, rfl⟩ := rx
  obtain ⟨t', rfl⟩ := ry
  exact rule i j t t' s _ _ ⟨.int (g i j), H, I.tok _, ⟨_, rfl⟩, q⟩
theorem opB0 {f : Value → Value → Sem Value} {g : Int → Int → Bool}
    (rule : ∀ (i j : Int) (t u : Tok) (s : Shared) (Q : Value → Shared → Prop) (E : Value → Shared → Prop), Q (.bool (g i j)) s → wpAny (model X.prog X.w) X.A (f (.int i t) (.int j u)) Q E s) :
    OpR X f (rI0 fun i j => .bl (g i j)) := by
  intro pins s σ H x y v u Q I rx ry h
  obtain ⟨i, j, rfl, rfl, q⟩ := h
  obtain ⟨t, rfl⟩ := rx
  obtain ⟨t', rfl⟩ := ry
  exact rule i j t t' s _ _ ⟨.bl (g i j), H, I, rfl, q⟩

def CPow (i j : Int) : Prop := 0 ≤ j ∧ j ≤ 1000000 ∧ i.natAbs < 2 ^ 64
theorem op_add : OpR X (binaryOp .Add) (rI0 fun i j => .int (i + j)) := opI0 fun _ _ _ _ _ _ _ q => add_int q
theorem op_sub : OpR X (binaryOp .Sub) (rI0 fun i j => .int (i - j)) := opI0 fun _ _ _ _ _ _ _ q => sub_int q
/-- % by a positive divisor of any size -/
theorem op_mod : OpR X (binaryOp .Mod) (rI (fun _ j => 0 < j) fun i j => .int (i % j)) := opI fun i j _ _ _ _ _ hc q => by
  have h1 : (0 : Int) < j := hc
  exact mod_int' (by omega) (by rw [Int.fmod_eq_emod_of_nonneg i (by omega)]; exact q)
theorem op_pow : OpR X (binaryOp .Pow) (rI CPow fun i j => .int (i ^ j.toNat)) := opI fun _ _ _ _ _ _ _ hc q => pow_int_small hc.1 hc.2.1 hc.2.2 q
theorem unI {f : Value → Sem Value} {g : Int → Int}
    (rule : ∀ (i : Int) (t : Tok) (s : Shared) (Q : Value → Shared → Prop) (E : Value → Shared → Prop), Q (.int (g i) s.toks) { s with toks := s.toks + 1 } → wpAny (model X.prog X.w) X.A (f (.int i t)) Q E s) :
    UnR X f (rU fun i => .int (g i)) := by
  intro pins s σ H x v Q I rx h
  obtain ⟨i, rfl, q⟩ := h
  obtain ⟨t, rfl⟩ := rx
  exact rule i t s _ _ ⟨.int (g i), H, I.tok _, ⟨_, rfl⟩, q⟩
theorem un_neg : UnR X (unaryOp .USub) (rU fun i => .int (-i)) := unI fun _ _ _ _ _ q => neg_int q
/-! ### bools among ints: n += (a < b) -/
end

/-! ### comparisons -/
/-- the scalars that == tells apart as data does -/
def scal : V → V → Bool
  | .non, .non => true | .non, .int _ => true | .int _, .non => true | .non, .bl _ => true | .bl _, .non => true | .non, .str _ => true | .str _, .non => true
  | .int _, .int _ => true | .bl _, .bl _ => true | .str _, .str _ => true | .byt _, .byt _ => true
  | .int _, .str _ => true | .str _, .int _ => true | .bl _, .str _ => true | .str _, .bl _ => true
  | _, _ => false
def rEq : R2 := fun x y H Q => scal x y = true ∧ Q (.bl (decide (x = y))) H
def rNe : R2 := fun x y H Q => scal x y = true ∧ Q (.bl (!decide (x = y))) H

theorem dec_int {i j : Int} : decide (V.int i = V.int j) = (i == j) := by
  rw [Bool.eq_iff_iff]
  simp
theorem dec_bl {i j : Bool} : decide (V.bl i = V.bl j) = (i == j) := by
  rw [Bool.eq_iff_iff]
  simp
theorem dec_str {i j : Str} : decide (V.str i = V.str j) = (i == j) := by
  rw [Bool.eq_iff_iff]
  simp
theorem dec_byt {i j : Array UInt8} : decide (V.byt i = V.byt j) = (i.toList == j.toList) := by
  rw [Bool.eq_iff_iff]
  cases i
  cases j
  simp

section
variable {X : Cx} {a b c : Expr} {ta tb tc : TE} {pos : Pos}
theorem fin_bl {pins : List (Addr × Obj)} {σ : St} {H : Hp} {s : Shared} {Q : VK} {k k' : Bool} (I : Inv X pins σ H s) (q : Q (.bl k) H) (e : k = k') : EP X pins σ Q (.bool k') s := by
  subst e
  exact ⟨.bl k, H, I, rfl, q⟩
theorem op_eq : OpR X (compareOp .Eq) rEq := by
  intro pins s σ H x y v u Q I rx ry h
  obtain ⟨hs, q⟩ := h
  cases x with
  | non =>
    cases rx
    cases y with
    | non => cases ry; exact PySem.EqNone.eq_none_none (fin_bl I q (by simp))
    | bl j => cases ry; exact PySem.EqNone.eq_none_bool (fin_bl I q (by simp))
    | int j => obtain ⟨t', rfl⟩ := ry; exact PySem.EqNone.eq_none_int (fin_bl I q (by simp))
    | str j => obtain ⟨t', rfl⟩ := ry; exact PySem.EqNone.eq_none_str (fin_bl I q (by simp))
    | _ => exact absurd (show false = true from hs) Bool.false_ne_true
  | bl i =>
    cases rx
    cases y with
    | non => cases ry; exact PySem.EqNone.eq_bool_none (fin_bl I q (by simp))
    | bl j => cases ry; exact eq_bool (fin_bl I q dec_bl)
    | str j => obtain ⟨t', rfl⟩ := ry; exact PySem.EqMixed.eq_bool_str (fin_bl I q (by simp))
    | _ => exact absurd (show false = true from hs) Bool.false_ne_true
  | int i =>
    obtain ⟨t, rfl⟩ := rx
    cases y with
    | non => cases ry; exact PySem.EqNone.eq_int_none (fin_bl I q (by simp))
    | int j => obtain ⟨t', rfl⟩ := ry; exact eq_int (fin_bl I q dec_int)
    | str j => obtain ⟨t', rfl⟩ := ry; exact PySem.EqMixed.eq_int_str (fin_bl I q (by simp))
    | _ => exact absurd (show false = true from hs) Bool.false_ne_true
  | str i =>
    obtain ⟨t, rfl⟩ := rx
    cases y with
    | non => cases ry; exact PySem.EqNone.eq_str_none (fin_bl I q (by simp))
    | bl j => cases ry; exact PySem.EqMixed.eq_str_bool (fin_bl I q (by simp))
    | int j => obtain ⟨t', rfl⟩ := ry; exact PySem.EqMixed.eq_str_int (fin_bl I q (by simp))
    | str j => obtain ⟨t', rfl⟩ := ry; exact eq_str (fin_bl I q dec_str)
    | _ => exact absurd (show false = true from hs) Bool.false_ne_true
  | byt i =>
    obtain ⟨t, rfl⟩ := rx
    cases y with
    | byt j => obtain ⟨t', rfl⟩ := ry; exact PySem.W.eq_bytes (fin_bl I q dec_byt)
    | _ => exact absurd (show false = true from hs) Bool.false_ne_true
  | _ => cases y <;> exact absurd (show false = true from hs) Bool.false_ne_true
theorem op_lt : OpR X (compareOp .Lt) (rI0 fun i j => .bl (decide (i < j))) := opB0 fun _ _ _ _ _ _ _ q => lt_int q
theorem op_le : OpR X (compareOp .LtE) (rI0 fun i j => .bl (decide (i ≤ j))) := opB0 fun _ _ _ _ _ _ _ q => le_int q
theorem op_gt : OpR X (compareOp .Gt) (rI0 fun i j => .bl (decide (j < i))) := opB0 fun _ _ _ _ _ _ _ q => gt_int q
theorem op_ge : OpR X (compareOp .GtE) (rI0 fun i j => .bl (decide (j ≤ i))) := opB0 fun _ _ _ _ _ _ _ q => ge_int q
/-- two rules for one operation: by cases -/
theorem OpR.or {f : Value → Value → Sem Value} {r r' : R2} (h : OpR X f r) (h' : OpR X f r') : OpR X f (fun x y H Q => r x y H Q ∨ r' x y H Q) := by
  intro pins s σ H x y v u Q I rx ry q
  rcases q with q | q
  · exact h pins s σ H x y v u Q I rx ry q
  · exact h' pins s σ H x y v u Q I rx ry q

theorem nomark (b : Expr) {op : CmpOp} (h : op ≠ .In := by decide) (h2 : op ≠ .NotIn := by decide) : behindInMarks op b = false := by
  have e1 : (op == CmpOp.In) = false := by cases op <;> first | rfl | exact absurd rfl h
  have e2 : (op == CmpOp.NotIn) = false := by cases op <;> first | rfl | exact absurd rfl h2
  cases b <;> simp [behindInMarks, e1, e2]
/-- a comparison as a value; hm: nomark b, or (for in, not in) by with_unfolding_all rfl -/
theorem pe_cmpR {op : CmpOp} {r : R2} (ho : OpR X (compareOp op) r) (ha : PE X a ta) (hb : PE X b tb) (hm : behindInMarks op b = false) : PE X (.Compare a [op] [b] pos) (tOp r ta tb) := by
  intro pins s σ H Q I h
  exact wpAny_Compare1 (binT ha hb I h fun v u s2 x y H2 I2 rx ry q => ho pins s2 σ H2 x y v u Q I2 rx ry q) hm
/-- a reading of a value as a test -/
def tTest (t : TE) : TT := fun σ H Q => t σ H fun x H' => ∃ k, x = .bl k ∧ Q k H'
theorem pt_cmpR {op : CmpOp} {r : R2} (ho : OpR X (compareOp op) r) (ha : PE X a ta) (hb : PE X b tb) (hm : behindInMarks op b = false) : PT X (.Compare a [op] [b] pos) (tTest (tOp r ta tb)) := by
  intro pins s σ H Q I h
  refine wpAny_isTrue_Compare1 (thn (ha pins s σ H _ I h) fun v s1 ⟨x, H1, I1, r1, q1⟩ => thn (hb pins s1 σ H1 _ I1 q1) fun u s2 ⟨y, H2, I2, r2, q2⟩ =>
    thn (ho pins s2 σ H2 x y v u _ I2 r1 r2 q2) fun c s3 ⟨z, H3, I3, r3, k, e, q3⟩ => ?_) hm
  subst e
  cases r3
  exact wpAny_truthy_bool ⟨H3, I3, q3⟩
/-- a op1 b op2 c -/
def tChain (r r' : R2) (ta tb tc : TE) : TE := fun σ H Q => ta σ H fun x H1 => tb σ H1 fun y H2 => r x y H2 fun z H3 => ∃ k, z = .bl k ∧
  (if k = true then tc σ H3 fun w' H4 => r' y w' H4 Q else Q (.bl false) H3)
theorem pt_chain {op op' : CmpOp} {r r' : R2} (ho : OpR X (compareOp op) r) (ho' : OpR X (compareOp op') r') (ha : PE X a ta) (hb : PE X b tb) (hc : PE X c tc)
    (hm : lastMarks [op, op'] [b, c] = false := by with_unfolding_all rfl) : PT X (.Compare a [op, op'] [b, c] pos) (tTest (tChain r r' ta tb tc)) := by
  intro pins s σ H Q I h
  refine isTrue_chain (thn (ha pins s σ H _ I h) fun v s1 ⟨x, H1, I1, r1, q1⟩ => test_link (thn (hb pins s1 σ H1 _ I1 q1) fun u s2 ⟨y, H2, I2, r2, q2⟩ =>
    thn (ho pins s2 σ H2 x y v u _ I2 r1 r2 q2) fun d s3 ⟨z, H3, I3, r3, k, e, q3⟩ => ?_)) hm
  subst e
  cases r3
  refine wpAny_truthy_bool ?_
  cases k with
  | false =>
    obtain ⟨k', e', q'⟩ := q3
    cases e'
    exact ite_ff ⟨H3, I3, q'⟩
  | true =>
    refine ite_tt (test_last (thn (hc pins s3 σ H3 _ I3 q3) fun w' s4 ⟨z', H4, I4, r4, q4⟩ => thn (ho' pins s4 σ H4 y z' u w' _ I4 r2 r4 q4) fun d' s5 ⟨z2, H5, I5, r5, k2, e2, q5⟩ => ?_))
    subst e2
    cases r5
    exact wpAny_truthy_bool ⟨H5, I5, q5⟩

/-! ### truth -/
theorem line63 : (sizeLine : Nat) < 2 ^ 63 := by rw [sizeLine_eq]; decide
/-! ### strs and bytes -/
/-! ### scalar builtins, by CallR -/
theorem vals1 {x : V} {us : List Value} (r : Vals [x] us) : ∃ u, us = [u] ∧ RelV x u := by
  cases r with
  | cons r1 r2 => cases r2; exact ⟨_, rfl, r1⟩
theorem vals2 {x y : V} {us : List Value} (r : Vals [x, y] us) : ∃ u w', us = [u, w'] ∧ RelV x u ∧ RelV y w' := by
  cases r with
  | cons r1 r2 =>
    cases r2 with
    | cons r3 r4 => cases r4; exact ⟨_, _, rfl, r1, r3⟩
theorem call_abs : CallR X (.builtin "abs") (fun xs H Q => ∃ i, xs = [.int i] ∧ Q (.int (if i < 0 then -i else i)) H) := by
  intro pins s σ H xs us Q I r h
  obtain ⟨i, rfl, q⟩ := h
  obtain ⟨u, rfl, t, rfl⟩ := vals1 r
  exact call_abs_int fun u tk => ⟨.int (if i < 0 then -i else i), H, I.tok _, ⟨_, rfl⟩, q⟩
theorem call_max2 (hc : X.calm = true) : CallR X (.builtin "max") (fun xs H Q => ∃ i j, xs = [.int i, .int j] ∧ Q (.int (if j > i then j else i)) H) := by
  intro pins s σ H xs us Q I r h
  obtain ⟨i, j, rfl, q⟩ := h
  obtain ⟨u, w', rfl, ⟨t, rfl⟩, ⟨t', rfl⟩⟩ := vals2 r
  refine max_two_ints (I.ok.hd hc) fun h' tk k => ⟨_, H, I.kept k, ?_, q⟩
  by_cases hj : j > i
  · rw [if_pos hj, if_pos hj]; exact ⟨_, rfl⟩
  · rw [if_neg hj, if_neg hj]; exact ⟨_, rfl⟩
theorem call_min2 (hc : X.calm = true) : CallR X (.builtin "min") (fun xs H Q => ∃ i j, xs = [.int i, .int j] ∧ Q (.int (if j < i then j else i)) H) := by
  intro pins s σ H xs us Q I r h
  obtain ⟨i, j, rfl, q⟩ := h
  obtain ⟨u, w', rfl, ⟨t, rfl⟩, ⟨t', rfl⟩⟩ := vals2 r
  refine min_two_ints (I.ok.hd hc) fun h' tk k => ⟨_, H, I.kept k, ?_, q⟩
  by_cases hj : j < i
  · rw [if_pos hj, if_pos hj]; exact ⟨_, rfl⟩
  · rw [if_neg hj, if_neg hj]; exact ⟨_, rfl⟩
theorem call_int1 : CallR X (.type "int") (fun xs H Q => (∃ i, xs = [.int i] ∧ Q (.int i) H) ∨ ∃ k, xs = [.bl k] ∧ Q (.int (if k then 1 else 0)) H) := by
  intro pins s σ H xs us Q I r h
  rcases h with ⟨i, rfl, q⟩ | ⟨k, rfl, q⟩
  · obtain ⟨u, rfl, t, rfl⟩ := vals1 r
    exact call_int_int ⟨.int i, H, I, ⟨_, rfl⟩, q⟩
  · obtain ⟨u, rfl, r1⟩ := vals1 r
    cases r1
    exact call_int_bool ⟨.int (if k then 1 else 0), H, I.tok _, ⟨_, rfl⟩, q⟩
end
end L2

namespace L2
open PySem PySem.Spec PyProof.Rows

/-! ### an instance, its attributes a map -/
structure ObjM (h : Heap) (x dx C : Addr) (mA : Str → Option Value) : Prop where
  obj : h.get? x = some (PySem.W.instObj C dx)
  ns : h.Ns1 dx mA
  ne : dx ≠ x

theorem lookIn_ns {h : Heap} {dx : Addr} {mA : Str → Option Value} (n : h.Ns1 dx mA) : ∃ od, h.get? dx = some od ∧ ∀ name, PySem.W.lookIn name od = some (mA name) := by
  obtain ⟨o, es, ep, ho, hd, hk, _, hm⟩ := n
  refine ⟨o, ho, fun name => ?_⟩
  have e := hm name
  unfold nsFind findBy at e
  rw [← Array.find?_toList] at e
  unfold PySem.W.lookIn
  rw [hd]
  dsimp only
  split
  · rename_i y q
    rw [q] at e
    exact congrArg some e
  · rename_i q
    rw [q] at e
    have a : es.toList.any (·.refKey) = false := by
      rw [List.any_eq_false]
      intro y hy
      obtain ⟨z, t, hkey⟩ := hk y (Array.mem_toList_iff.mp hy)
      simp [DictEntry.refKey, hkey]
    have a' : ¬ es.toList.any (·.refKey) = true := by rw [a]; exact Bool.false_ne_true
    rw [if_neg a']
    exact congrArg some e

theorem ObjM.look {h : Heap} {x dx C : Addr} {mA : Str → Option Value} (I : ObjM h x dx C mA) : ∃ od, PySem.W.InstAt h x (PySem.W.instObj C dx) C (some od) ∧ ∀ name, PySem.W.lookIn name od = some (mA name) :=
  let ⟨od, ho, hl⟩ := lookIn_ns I.ns
  ⟨od, ⟨I.obj, rfl, rfl, ho⟩, hl⟩

section
variable {prog : Program} {w : World} {A : Around} {E : Value → Shared → Prop} {s : Shared} {K : PySem.W.Frag} {x dx C f : Addr} {mA : Str → Option Value} {name : Str} {v : Value}

end

/-! ### the attributes as a list of pairs -/
def putF (f : Str) (v : V) : List (Str × V) → List (Str × V)
  | [] => [(f, v)]
  | (g, x) :: r => if g = f then (g, v) :: r else (g, x) :: putF f v r
section
variable {P : Program} {w : World} {H H' : Hp} {h h' : Heap} {a C dx : Addr} {fs fs' : List (Str × V)}
theorem ins_get (hok : HOk P w H h) (e : H a = some (.ins C dx fs)) : ∃ mA, ObjM h a dx C mA ∧ (∀ f, RelO (fs.lookup f) (mA f)) ∧ PySem.Within mA (fs.map (·.1)) ∧ fs.length ≤ 1000 ∧ H dx = some (.own a) := by
  obtain ⟨d, z, ne, ob, mA, n, r, q⟩ := (show ObjOk P w H h a (.ins C dx fs) from hok a _ e)
  exact ⟨mA, ⟨ob, n, ne⟩, r, q, z, d⟩
end

/-! ### what of the text a class must have -/
structure Cls (K : PySem.W.Frag) (C : Addr) : Prop where
  pg : PySem.W.plainGet K C Str.empty = true
  hd : PySem.W.hasDictIn K C = true
  po : PySem.W.plainOver K C = true
  sa : PySem.W.findIn K (.ref C) "__setattr__" = some (some (.builtin "object.__setattr__"))
theorem Cls.get {K : PySem.W.Frag} {C : Addr} (c : Cls K C) (f : Str) : PySem.W.plainGet K C f = true := c.pg
/-- no class of it has the name -/
def NoAttr (K : PySem.W.Frag) (C : Addr) (f : Str) : Prop := PySem.W.findIn K (.ref C) f = some none
section
variable {X : Cx} {pins : List (Addr × Obj)} {σ : St} {H : Hp} {s : Shared} {a C dx : Addr} {fs : List (Str × V)} {f : Str} {v : V} {A : Around} {E : Value → Shared → Prop}

/-- a new instance, tracked, without attributes -/
theorem Inv.made (I : Inv X pins σ H s) : Inv X pins σ (upd (upd H s.heap.objs.size (.own (s.heap.objs.size + 1))) (s.heap.objs.size + 1) (.ins C s.heap.objs.size []))
    { s with heap := (s.heap.push PySem.W.emptyDict).push (PySem.W.instObj C s.heap.objs.size) } := by
  have e1 : (s.heap.push PySem.W.emptyDict).get? s.heap.objs.size = some PySem.W.emptyDict := Heap.get?_push_size s.heap rfl
  have e2 : ((s.heap.push PySem.W.emptyDict).push (PySem.W.instObj C s.heap.objs.size)).get? (s.heap.objs.size + 1) = some (PySem.W.instObj C s.heap.objs.size) := by
    have := Heap.get?_push_size (s.heap.push PySem.W.emptyDict) (o := PySem.W.instObj C s.heap.objs.size) rfl
    rwa [Heap.size_push] at this
  have e3 : (s.heap.push PySem.W.emptyDict).Ns s.heap.objs.size (fun _ => none) := ⟨PySem.W.emptyDict, #[], _, e1, rfl, (fun e he => absurd he (by simp)), fun _ => rfl⟩
  have I1 := I.laid (a := s.heap.objs.size) (o := .own (s.heap.objs.size + 1)) (h' := s.heap.push PySem.W.emptyDict) (t' := s.toks) (fun b u q => Heap.get?_push_of_some _ q) (Nat.le_refl _) ⟨_, e1⟩
  refine I1.laid (a := s.heap.objs.size + 1) (o := .ins C s.heap.objs.size []) (t' := s.toks) (fun b u q => Heap.get?_push_of_some _ q) (Nat.le_of_eq (Heap.size_push _ _)) ?_
  have ne : s.heap.objs.size ≠ s.heap.objs.size + 1 := Nat.ne_of_lt (Nat.lt_succ_self _)
  refine ⟨by rw [upd_ne ne, upd_same], Nat.zero_le _, ne, e2, fun _ => none, (Heap.Ns1.of_empty e3).at fun o q => Heap.get?_push_of_some _ q, fun _ => True.intro, fun y hy => absurd rfl hy⟩

end

/-! ### readings and rules -/
/-- e.f, an attribute of the instance -/
def tFld (K : PySem.W.Frag) (ta : TE) (f : Str) : TE := fun σ H Q => ta σ H fun x H1 => ∃ a C dx fs v, x = .ref a ∧ H1 a = some (.ins C dx fs) ∧ Cls K C ∧ NoAttr K C f ∧ fs.lookup f = some v ∧ Q v H1
/-- e.f = value -/
def sFld (K : PySem.W.Frag) (ta tv : TE) (f : Str) : TS := fun D σ H => tv σ H fun y H1 => ta σ H1 fun x H2 => ∃ a C dx fs, x = .ref a ∧ H2 a = some (.ins C dx fs) ∧ Cls K C ∧ NoAttr K C f ∧ fs.length < 1000 ∧
  D.nx σ (upd H2 a (.ins C dx (putF f y fs)))
/-- e.f op= value -/
def sFldAug (K : PySem.W.Frag) (ta tv : TE) (rd : V → V → Hp → VK → Prop) (f : Str) : TS := fun D σ H => ta σ H fun x H1 => ∃ a C dx fs v, x = .ref a ∧ H1 a = some (.ins C dx fs) ∧ Cls K C ∧ NoAttr K C f ∧ fs.lookup f = some v ∧
  tv σ H1 fun y H2 => rd v y H2 fun z H3 => ∃ dx' fs', H3 a = some (.ins C dx' fs') ∧ fs'.length < 1000 ∧ D.nx σ (upd H3 a (.ins C dx' (putF f z fs')))

section
variable {X : Cx} {o e value : Expr} {f : Str} {pos pos' tpos : Pos} {ta tv : TE}
def rAdd : V → V → Hp → VK → Prop := fun x y H Q => ∃ i j, x = .int i ∧ y = .int j ∧ Q (.int (i + j)) H
end

/-! ### isinstance -/
section
variable {X : Cx} {pins : List (Addr × Obj)} {σ : St} {H : Hp} {s : Shared} {A : Around} {E : Value → Shared → Prop} {Q : Value → Shared → Prop} {c : Value} {b : Bool}
/-- the type of a value, as the fragment's deciders take it; for an instance its class -/
inductive TyOf (K : PySem.W.Frag) (H : Hp) : V → Value → Prop where
  | non : TyOf K H .non (.type "NoneType")
  | bl (x : Bool) : TyOf K H (.bl x) (.type "bool")
  | int (i : Int) : TyOf K H (.int i) (.type "int")
  | str (x : Str) : TyOf K H (.str x) (.type "str")
  | flt (x : UInt64) : TyOf K H (.flt x) (.type "float")
  | lst {a : Addr} {xs : List V} (e : H a = some (.lst xs)) : TyOf K H (.ref a) (.type "list")
  | frz {a : Addr} {o : Obj} {xs : List V} (e : H a = some (.frz o (.lst xs))) : TyOf K H (.ref a) (.type "list")
  | tup {a : Addr} {xs : List V} (e : H a = some (.tup xs)) : TyOf K H (.ref a) (.type "tuple")
  | dK {a : Addr} {kvs : List (Key × V)} (e : H a = some (.dK kvs)) : TyOf K H (.ref a) (.type "dict")
  | dT {a : Addr} {kvs : List (List Key × V)} (e : H a = some (.dT kvs)) : TyOf K H (.ref a) (.type "dict")
  | ins {a C dx : Addr} {fs : List (Str × V)} (e : H a = some (.ins C dx fs)) (cl : Cls K C) (ha : PySem.W.findIn K (.ref C) "__class__" = some (some (.builtin "object.__class__")))
      (hn : PySem.W.specialIn K (.builtin "object.__class__") "__get__" = some (some (.builtin "getset_descriptor.__get__"))) (htk : PySem.W.takesIn K (.builtin "object.__class__") = some true)
      (hm : PySem.W.mroIn K C (.type "object") = some true) : TyOf K H (.ref a) (.ref C)
/-- isinstance(x, c) for one class c, a built-in or an own one: kitOne's answer -/
theorem isinst_ok {x : V} {u t : Value} (I : Inv X pins σ H s) (rx : RelV x u) (ty : TyOf X.K H x t) (e : PySem.W.kitOne X.K t c = some b) (h : ∀ tk, Q (.bool b) { s with toks := tk }) :
    wpAny (model X.prog X.w) A (call (.builtin "isinstance") [u, c]) Q E s := by
  cases ty with
  | non => cases (show u = Value.none from rx); exact PySem.W.kia_one PySem.W.kitx_none I.kIn True.intro e (fun z => nomatch z) h
  | bl y => cases (show u = Value.bool y from rx); exact PySem.W.kia_one PySem.W.kitx_bool I.kIn True.intro e (fun z => nomatch z) h
  | int i => obtain ⟨t, q⟩ := (show ∃ t, u = Value.int i t from rx); cases q; exact PySem.W.kia_one PySem.W.kitx_int I.kIn True.intro e (fun z => nomatch z) h
  | str y => obtain ⟨t, q⟩ := (show ∃ t, u = Value.str y t from rx); cases q; exact PySem.W.kia_one PySem.W.kitx_str I.kIn True.intro e (fun z => nomatch z) h
  | flt y => obtain ⟨t, q⟩ := (show ∃ t, u = Value.float y t from rx); cases q; exact PySem.W.kia_one PySem.W.kitx_float I.kIn True.intro e (fun z => nomatch z) h
  | @lst a xs ea =>
    cases (show u = Value.ref a from rx)
    obtain ⟨_, _, n, _, h1⟩ := (show ObjOk X.prog X.w H s.heap a (.lst xs) from I.hok a _ ea)
    exact PySem.W.kia_one PySem.W.kitx_list I.kIn ⟨_, h1, rfl⟩ e (fun z => nomatch z) h
  | @frz a ob xs ea =>
    cases (show u = Value.ref a from rx)
    obtain ⟨_, _, _, n, _, h1⟩ := (show ObjOk X.prog X.w H s.heap a (.frz ob (.lst xs)) from I.hok a _ ea)
    exact PySem.W.kia_one PySem.W.kitx_list I.kIn ⟨_, h1, rfl⟩ e (fun z => nomatch z) h
  | @tup a xs ea =>
    cases (show u = Value.ref a from rx)
    obtain ⟨_, _, _, p⟩ := (show ObjOk X.prog X.w H s.heap a (.tup xs) from I.hok a _ ea)
    obtain ⟨o, h1, h2, _⟩ := p
    exact PySem.W.kia_one PySem.W.kitx_tuple I.kIn ⟨o, h1, h2⟩ e (fun z => nomatch z) h
  | @dK a kvs ea =>
    cases (show u = Value.ref a from rx)
    obtain ⟨_, _, vs, _, p⟩ := (show ObjOk X.prog X.w H s.heap a (.dK kvs) from I.hok a _ ea)
    obtain ⟨o, es, ep, h1, h2, _⟩ := p
    exact PySem.W.kia_one PySem.W.kitx_dict I.kIn ⟨o, h1, h2.1⟩ e (fun z => nomatch z) h
  | @dT a kvs ea =>
    cases (show u = Value.ref a from rx)
    obtain ⟨_, _, xs, _, o, es, ep, h1, h2, _⟩ := (show ObjOk X.prog X.w H s.heap a (.dT kvs) from I.hok a _ ea)
    exact PySem.W.kia_one PySem.W.kitx_dict I.kIn ⟨o, h1, h2.1⟩ e (fun z => nomatch z) h
  | @ins a C dx fs ea cl ha hn htk hm =>
    cases (show u = Value.ref a from rx)
    obtain ⟨mA, O, _⟩ := ins_get I.hok ea
    obtain ⟨od, J, _⟩ := O.look
    exact PySem.W.kia_one (PySem.W.kitx_own (cl.get _) cl.hd ha hn htk hm) I.kIn J e (fun z => nomatch z) h
end
end L2

namespace L2
open PySem PySem.Spec PyProof.Rows

/-! ### room -/
structure Room (k : Nat) (A : Around) : Prop where
  hd : A.handled = none
  dp : A.depth + 3 * k + 5 < recursionLimit
  un : A.units + 16 * k + 200 < cLine
  gd : A.guards = some []
theorem Room.mono {j k : Nat} {A : Around} (r : Room k A) (h : j ≤ k) : Room j A := ⟨r.hd, by have := r.dp; omega, by have := r.un; omega, r.gd⟩
theorem Room.deeper {k : Nat} {A : Around} (r : Room (k + 1) A) (env : Env) : Room k (A.deeper env) :=
  ⟨r.hd, by have := r.dp; show A.depth + 1 + 3 * k + 5 < _; omega, by have := r.un; show A.units + 3 + 16 * k + 200 < _; omega, r.gd⟩
theorem Room.depth {k : Nat} {A : Around} (r : Room k A) : A.depth < recursionLimit := by have := r.dp; omega
theorem Room.units {k : Nat} {A : Around} (r : Room k A) : A.units + 64 < cLine := by have := r.un; omega
/-! ### argument lists and displays -/
def tNil : TA := fun _ H Q => Q [] H
def tCons (ta : TE) (tr : TA) : TA := fun σ H Q => ta σ H fun x H1 => tr σ H1 fun xs H2 => Q (x :: xs) H2
section
variable {X : Cx} {e : Expr} {es : List Expr} {te : TE} {t : TA} {pos : Pos}
theorem pa_nil : PA X [] tNil := fun _ _ _ _ H Q I h => Calls.spliced_nil ⟨[], H, I, .nil, h⟩
theorem pa_cons (ha : PE X e te) (hr : PA X es t) (hs : starEach (e :: es) X.env = (false, eval e X.env) :: starEach es X.env := by rfl) : PA X (e :: es) (tCons te t) := by
  intro pos pins s σ H Q I h
  rw [hs]
  show wpAny _ _ (spliced ((false, eval e X.env) :: backTo pos (starEach es X.env))) _ _ s
  refine Calls.spliced_cons (thn (ha pins s σ H _ I h) fun u s1 ⟨x, H1, I1, r1, q1⟩ => ?_)
  exact thn (hr pos pins s1 σ H1 _ I1 q1) fun us s2 ⟨xs, H2, I2, r2, q2⟩ => ⟨x :: xs, H2, I2, .cons r1 r2, q2⟩

/-- a tuple, a list of written items -/
def tTup (t : TA) : TE := fun σ H Q => t σ H fun xs H1 => xs.length ≤ sizeLine ∧ ∀ p, H1 p = none → Q (.ref p) (upd H1 p (.tup xs))
def tLst (t : TA) : TE := fun σ H Q => t σ H fun xs H1 => xs.length ≤ sizeLine ∧ ∀ p, H1 p = none → Q (.ref p) (upd H1 p (.lst xs))
theorem pe_tup {x1} (h : PA X es t) : PE X (.Tuple es x1 pos) (tTup t) := by
  intro pins s σ H Q I hq
  refine wpAny_Tuple_spliced (thn (h pos pins s σ H _ I hq) fun us s1 ⟨xs, H1, I1, r, z, q⟩ => ⟨by rw [← r.length]; exact z, ?_⟩)
  have hf : H1 s1.heap.objs.size = none := I1.hok.fresh (Nat.le_refl _)
  refine ⟨.ref s1.heap.objs.size, upd H1 s1.heap.objs.size (.tup xs), I1.laid (t' := s1.toks) (fun b u e => Heap.get?_push_of_some _ e) (Nat.le_refl _) ?_, rfl, q _ hf⟩
  exact ⟨⟨z, fun _ => ⟨_, Heap.get?_push_size _ rfl, rfl, rfl⟩⟩, us, r, ⟨_, Heap.get?_push_size _ rfl, rfl, _, rfl⟩⟩
theorem pe_lst (h : PA X es t) : PE X (.List es pos) (tLst t) := by
  intro pins s σ H Q I hq
  refine wpAny_List_spliced (thn (h pos pins s σ H _ I hq) fun us s1 ⟨xs, H1, I1, r, z, q⟩ => ⟨by rw [← r.length]; exact z, ?_⟩)
  have hf : H1 s1.heap.objs.size = none := I1.hok.fresh (Nat.le_refl _)
  refine ⟨.ref s1.heap.objs.size, upd H1 s1.heap.objs.size (.lst xs), I1.laid (t' := s1.toks) (fun b u e => Heap.get?_push_of_some _ e) (Nat.le_refl _) ?_, rfl, q _ hf⟩
  exact ⟨z, us, 0, r, Heap.get?_push_size _ rfl⟩
end

/-! ### what a def promises -/
/-- a def's promise: the bound arguments in the parameters' order, the heap, the wanted end, the wanted exception -/
abbrev Sp := List V → Hp → VK → XK → Prop
/-- how an exception lies behind a call (file 08 gives it): the callers' frames, abstract heap and state ahead of the call, the wish, the exception, the state -/
abbrev CXT := List Env → Hp → Shared → XK → Value → Shared → Prop

/-- the state at a call -/
structure Env0 (P : Program) (w : World) (K : PySem.W.Frag) (mg : Str → Option Value) (base : Heap) (A : Around) (outer : List Env) (s : Shared) (H : Hp) : Prop where
  frames : A.frames = some outer
  mod : Mod K mg base
  bs : ∀ b o, base.get? b = some o → s.heap.get? b = some o ∧ H b = none
  bsz : base.objs.size ≤ s.heap.objs.size
  funs : s.heap.FunFrames base outer
  frf : ∀ b ∈ frs outer, H b = none
  hok : HOk P w H s.heap
  bare : AllBare s.gens
/-- a call's end -/
def CE (outer : List Env) (P : Program) (w : World) (H : Hp) (s : Shared) (Q : VK) (u : Value) (s' : Shared) : Prop :=
  ∃ v H', s'.os = s.os ∧ AllBare s'.gens ∧ Un (frs outer) [] H H' s.heap s'.heap ∧ HOk P w H' s'.heap ∧ RelV v u ∧ Q v H'
def CR (CX : CXT) (outer : List Env) (P : Program) (w : World) (H : Hp) (s : Shared) (Q : VK) (E : XK) (r : Result) (s' : Shared) : Prop :=
  match r with
  | .ok (.ret u) => CE outer P w H s Q u s'
  | .ok _ => False
  | .error e => CX outer H s E e s'
structure FnOk (P : Program) (w : World) (K : PySem.W.Frag) (mg : Str → Option Value) (base : Heap) (CX : CXT) (k : Nat) (f : Addr) (fd : FuncData) (ps : List Str) (sp : Sp) : Prop where
  len : ∀ vs H Q E, sp vs H Q E → vs.length = ps.length
  run : ∀ (A : Around) (outer : List Env) (s : Shared) (H : Hp) (args : Args) (us : List Value) (vs : List V) (Q : VK) (E : XK), Room k A → Env0 P w K mg base A outer s H → BindsTo s fd args (ps.zip us) → Vals vs us → sp vs H Q E →
    codeAny (model P w) A (.call (.ref f) args) (CR CX outer P w H s Q E) s
theorem FnOk.mono {P : Program} {w : World} {K : PySem.W.Frag} {mg : Str → Option Value} {base : Heap} {CX : CXT} {j k : Nat} {f : Addr} {fd : FuncData} {ps : List Str} {sp : Sp} (F : FnOk P w K mg base CX j f fd ps sp) (h : j ≤ k) :
    FnOk P w K mg base CX k f fd ps sp := ⟨F.len, fun A outer s H args us vs Q E hr => F.run A outer s H args us vs Q E (hr.mono h)⟩
section
variable {X : Cx} {pins : List (Addr × Obj)} {σ : St} {H : Hp} {s s' : Shared}
/-- from a body: what a callee wants -/
theorem Inv.env0 (I : Inv X pins σ H s) : Env0 X.prog X.w X.K X.mg X.base X.A X.stack s H :=
  ⟨I.ok.frames, I.ok.mod, I.bs, Nat.le_trans I.ok.bsz I.sz, I.stack, I.stkFree, I.hok, I.bare⟩
/-- behind a call -/
theorem Inv.after {Q : VK} {u : Value} (I : Inv X pins σ H s) (h : CE X.stack X.prog X.w H s Q u s') : EP X pins σ Q u s' := by
  obtain ⟨v, H', os, bare, un, hok, r, q⟩ := h
  obtain ⟨hh, g, d, t, os'⟩ := s'
  obtain rfl : os' = s.os := os
  exact ⟨v, H', I.call (h' := hh) (g' := g) (d' := d) (t' := t) (ch := []) un hok bare (fun b z => absurd z (by simp)), r, q⟩
end

/-! ### calls -/
/-- f(..): the written arguments, then the defaults dvs; E: what is wanted of an exception -/
def tCall (sp : Sp) (dvs : List V) (E : XK) (t : TA) : TE := fun σ H Q => t σ H fun vs H1 => sp (vs ++ dvs) H1 Q E
/-- o.m(..) of an instance of the class at C -/
def tMeth (C : Addr) (m : Str) (sp : Sp) (dvs : List V) (E : XK) (ta : TE) (t : TA) : TE := fun σ H Q => ta σ H fun x H1 => ∃ a dx fs, x = .ref a ∧ H1 a = some (.ins C dx fs) ∧ fs.lookup m = none ∧
  t σ H1 fun vs H2 => sp (x :: (vs ++ dvs)) H2 Q E
/-- C(..): a new instance and its dict, then __init__ -/
def tMake (C : Addr) (sp : Sp) (dvs : List V) (E : XK) (t : TA) : TE := fun σ H Q => t σ H fun vs H1 => ∀ x dx, H1 x = none → H1 dx = none → dx ≠ x →
  sp (.ref x :: (vs ++ dvs)) (upd (upd H1 dx (.own x)) x (.ins C dx [])) (fun v H2 => v = .non ∧ Q (.ref x) H2) E

/-- how the parameters are bound: us the positional arguments, kw the keywords' values by name, ds the defaults that fill up -/
def Binds (K : PySem.W.Frag) (fd : FuncData) (ps : List Str) (ds : List Value) : Prop :=
  ∀ (s : Shared) (us : List Value), K.In s.heap → (us ++ ds).length = ps.length → BindsTo s fd ⟨us, []⟩ (ps.zip (us ++ ds))
/-- every parameter is given -/
theorem Binds.all {K : PySem.W.Frag} {fd : FuncData} {ps : List Str} (h : ∀ us : List Value, us.length = ps.length → bindArgs fd ⟨us, []⟩ = pure (ps.zip us)) : Binds K fd ps [] := fun s us _ hl => by
  rw [List.append_nil] at hl ⊢
  exact .of_eq (h us hl)

/-- an exception of a callee reaches what this body wants of exceptions -/
def Passes (CX : CXT) (X : Cx) (E : XK) : Prop := ∀ (pins : List (Addr × Obj)) (σ : St) (H : Hp) (s : Shared) (e : Value) (s' : Shared), Inv X pins σ H s → CX X.stack H s E e s' → X.xe e s'

section
variable {X : Cx} {CX : CXT} {k : Nat} {f C : Addr} {fd : FuncData} {ps : List Str} {sp : Sp} {dvs : List V} {ds : List Value} {E : XK} {x m : Str} {p pos apos : Pos} {e o : Expr} {es : List Expr} {ta : TE} {t : TA}

/-- the callee runs -/
theorem run_fn {pins : List (Addr × Obj)} {σ : St} {H : Hp} {s : Shared} {Q : VK} {us : List Value} {vs : List V} (F : FnOk X.prog X.w X.K X.mg X.base CX k f fd ps sp) (hr : Room k X.A) (hb : Binds X.K fd ps ds) (hd : Vals dvs ds) (hx : Passes CX X E)
    (I : Inv X pins σ H s) (r : Vals vs us) (h : sp (vs ++ dvs) H Q E) : wpAny (model X.prog X.w) X.A (call (.ref f) us) (EP X pins σ Q) X.xe s := by
  have r2 : Vals (vs ++ dvs) (us ++ ds) := r.append hd
  have hl : (us ++ ds).length = ps.length := by rw [← r2.length]; exact F.len _ _ _ _ h
  refine wpAny_call (codeAny_mono (F.run X.A X.stack s H ⟨us, []⟩ (us ++ ds) (vs ++ dvs) Q E hr I.env0 (hb s us I.kIn hl) r2 h) fun r s' hq => ?_)
  cases r with
  | error e => exact hx pins σ H s e s' I hq
  | ok fl =>
    cases fl with
    | ret u => exact I.after hq
    | next => exact False.elim hq
    | brk => exact False.elim hq
    | cont => exact False.elim hq

theorem pe_call (F : FnOk X.prog X.w X.K X.mg X.base CX k f fd ps sp) (hr : Room k X.A) (hg : Gl X x) (hm : X.mg x = some (.ref f)) (hk : PySem.W.keepIn X.K (.ref f) = true) (hb : Binds X.K fd ps ds) (hd : Vals dvs ds) (hx : Passes CX X E)
    (ha : PA X (e :: es) t) (hdb : (x == ("__debug__" : Str)) = false := by decide) (he : starEach (e :: es) X.env = (false, eval e X.env) :: starEach es X.env := by rfl) (hpl : (backTo pos (starEach es X.env)).any (·.1) = false := by rfl) :
    PE X (.Call (.Name x p) (e :: es) [] pos) (tCall sp dvs E t) := by
  intro pins s σ H Q I h
  refine wpAny_Call_Name_kw (ld_glob I hg hm ?_ hdb)
  refine PySem.W.callWith_K (h₀ := X.base) I.ok.mod.kin hk (thn (ha pos pins s σ H _ I h) fun us s1 ⟨vs, H1, I1, r, q⟩ => ⟨I1.kIn, ?_⟩) he hpl
  exact run_fn F hr hb hd hx I1 r q
end

/-! ### keywords -/
section
variable {X : Cx} {CX : CXT} {k : Nat} {f C : Addr} {fd : FuncData} {ps ks : List Str} {sp : Sp} {E : XK} {x m : Str} {p pos apos kpos : Pos} {e o : Expr} {es : List Expr} {kws : List Keyword} {te ta : TE} {t tk : TA} {nm : Option Str}
variable {g : List Value → List Value → List Value} {gV : List V → List V → List V}
end

/-! ### a def's body keeps its promise -/
/-- names: the parameters first -/
structure FnScope (N P : List Str) (sc : Scope) : Prop where
  kind : sc.kind = .function
  co : sc.isCoroutine = false
  gen : sc.isGenerator = false
  nd : N.Nodup
  pre : N.take P.length = P
  par : ∀ x ∈ P, sc.names.lookup x = some .local ∨ sc.names.lookup x = some .cell
  nofree : ∀ y ∈ sc.names, y.2 ≠ .free

theorem bindL_out {kindOf : Str → Option NameKind} {x : Str} : ∀ {binds : List (Str × Value)} {m : Str → Option Value}, (∀ v, (x, v) ∉ binds) → bindL kindOf binds m x = m x
  | [], _, _ => rfl
  | (n, v) :: r, m, h => by
    unfold bindL
    rw [bindL_out fun w hw => h w (List.mem_cons_of_mem _ hw)]
    split
    · have : x ≠ n := by rintro rfl; exact h v List.mem_cons_self
      simp [this]
    · rfl
theorem bindC_out {kindOf : Str → Option NameKind} {x : Str} : ∀ {binds : List (Str × Value)} {m : Str → Option Value}, (∀ v, (x, v) ∉ binds) → bindC kindOf binds m x = m x
  | [], _, _ => rfl
  | (n, v) :: r, m, h => by
    unfold bindC
    rw [bindC_out fun w hw => h w (List.mem_cons_of_mem _ hw)]
    split
    · rfl
    · have : x ≠ n := by rintro rfl; exact h v List.mem_cons_self
      simp [this]
theorem bindL_get {kindOf : Str → Option NameKind} {x : Str} {v : Value} : ∀ {P : List Str} {vs : List Value} {i : Nat} {m : Str → Option Value}, P.Nodup → P[i]? = some x → vs[i]? = some v → kindOf x = some .local →
    bindL kindOf (P.zip vs) m x = some v
  | [], _, _, _, _, h, _, _ => by simp at h
  | _ :: _, [], _, _, _, _, h, _ => by simp at h
  | p :: P, w :: vs, 0, m, nd, h1, h2, hk => by
    simp at h1 h2; subst h1; subst h2
    show bindL kindOf ((p, w) :: P.zip vs) m p = _
    unfold bindL
    rw [bindL_out fun v hv => (List.nodup_cons.mp nd).1 (List.of_mem_zip hv).1, if_pos hk]
    simp
  | p :: P, w :: vs, i + 1, m, nd, h1, h2, hk => by
    show bindL kindOf ((p, w) :: P.zip vs) m x = _
    unfold bindL
    exact bindL_get (i := i) (List.nodup_cons.mp nd).2 (by simpa using h1) (by simpa using h2) hk
theorem bindC_get {kindOf : Str → Option NameKind} {x : Str} {v : Value} : ∀ {P : List Str} {vs : List Value} {i : Nat} {m : Str → Option Value}, P.Nodup → P[i]? = some x → vs[i]? = some v → kindOf x ≠ some .local →
    bindC kindOf (P.zip vs) m x = some v
  | [], _, _, _, _, h, _, _ => by simp at h
  | _ :: _, [], _, _, _, _, h, _ => by simp at h
  | p :: P, w :: vs, 0, m, nd, h1, h2, hk => by
    simp at h1 h2; subst h1; subst h2
    show bindC kindOf ((p, w) :: P.zip vs) m p = _
    unfold bindC
    rw [bindC_out fun v hv => (List.nodup_cons.mp nd).1 (List.of_mem_zip hv).1, if_neg hk]
    simp
  | p :: P, w :: vs, i + 1, m, nd, h1, h2, hk => by
    show bindC kindOf ((p, w) :: P.zip vs) m x = _
    unfold bindC
    exact bindC_get (i := i) (List.nodup_cons.mp nd).2 (by simpa using h1) (by simpa using h2) hk

/-- the names' values at the entry -/
def start (N : List Str) (vs : List V) : St := vs.map some ++ List.replicate (N.length - vs.length) none

/-- the context of a def's body, at its entry; an exception leaves the frame, then lies as CX says -/
def cxOf (CX : CXT) (P : Program) (w : World) (K : PySem.W.Frag) (mg : Str → Option Value) (base : Heap) (N : List Str) (qual : Str) (scope : Scope) (f : Addr) (cd : Value) (A : Around) (outer : List Env) (s : Shared) (H : Hp) (E : XK) : Cx where
  prog := P
  w := w
  K := K
  mg := mg
  base := base
  A := A.deeper (envOfC qual scope s.heap.objs.size f cd)
  N := N
  s₀ := s
  H₀ := H
  env := envOfC qual scope s.heap.objs.size f cd
  outer := outer
  stack := envOfC qual scope s.heap.objs.size f cd :: outer
  ex := []
  calm := true
  fn := fun _ => true
  pn := []
  xe := fun e s' => wpAny (model P w) (A.deeper (envOfC qual scope s.heap.objs.size f cd)) (leaving (envOfC qual scope s.heap.objs.size f cd) e) (fun _ s'' => CX outer H s E e s'') (fun e' s'' => CX outer H s E e' s'') s'

theorem cell_has {sc : Scope} {n : Nat} {x : Str} (h : sc.names.lookup x = some .cell) : ∃ c, (cellsFrom n sc.names []).lookup x = some c := by
  have q := PySem.W.cellsFrom_some sc.names n [] (.inl h)
  exact Option.isSome_iff_exists.mp q

theorem inv_start {CX : CXT} {P : Program} {w : World} {K : PySem.W.Frag} {mg : Str → Option Value} {base : Heap} {N ps : List Str} {qual : Str} {scope : Scope} {f : Addr} {cd : Value} {A : Around} {outer : List Env} {s s1 : Shared} {H : Hp} {E : XK} {us : List Value} {vs : List V}
    (S : FnScope N ps scope) (hd : A.handled = none) (e0 : Env0 P w K mg base A outer s H) (hl : vs.length = ps.length) (r : Vals vs us)
    (x : InCallC s s.heap.objs.size (bindL (envOfC qual scope s.heap.objs.size f cd).kindOf (ps.zip us) fun _ => none) (cellsFrom (s.heap.objs.size + 1) scope.names []) (bindC (envOfC qual scope s.heap.objs.size f cd).kindOf (ps.zip us) fun _ => none) s1) :
    Inv (cxOf CX P w K mg base N qual scope f cd A outer s H E) [] (start N vs) H s1 := by
  have hpl : ps.length ≤ N.length := by have := congrArg List.length S.pre; rw [List.length_take] at this; omega
  obtain ⟨h1, tk, rfl, hk⟩ := x.done
  have noA : ∀ b : Addr, b ∉ (cxOf CX P w K mg base N qual scope f cd A outer s H E).ex := fun b z => absurd (show b ∈ ([] : List Addr) from z) (by simp)
  refine ⟨⟨e0.mod, S.kind, rfl, rfl, Nat.le_refl _, fun y z c h1 h2 => ?_, fun y hy => ?_, fun y c _ h => ?_, fun _ => hd, Around.frames_deeper e0.frames, .inr ⟨rfl, rfl⟩, fun b z => absurd z (noA b), e0.bs, e0.bsz, fun b _ _ => noA b, fun b z => absurd z (noA b), e0.funs, e0.frf⟩,
    rfl, e0.bare, Un.kept hk, ⟨_, x.toInCall.ns, fun i y v h1 h2 h3 => ?_⟩, fun y c h => ⟨_, x.cell y c h⟩, e0.hok.fresh (Nat.le_refl _), fun y c h => ?_, fun p hp => absurd (show p ∈ ([] : List (Addr × Obj)) from hp) (by simp), e0.hok.kept hk, ?_⟩
  · exact name_of_addr x.apart (PySem.mem_of_lookup h1) (PySem.mem_of_lookup h2)
  · have hy : scope.names.lookup y = some .cell ∨ scope.names.lookup y = some .free := hy
    rcases hy with hy | hy
    · exact cell_has hy
    · exact absurd rfl (S.nofree _ (PySem.mem_of_lookup hy))
  · exact Nat.le_of_lt (x.above y c (PySem.mem_of_lookup h))
  · have hi : i < vs.length := by
      unfold start at h2
      by_cases hi : i < vs.length
      · exact hi
      · rw [List.getElem?_append_right (by simpa using hi)] at h2
        rw [List.getElem?_replicate] at h2
        split at h2 <;> cases h2
    have ha : vs[i]? = some v := by
      unfold start at h2
      rw [List.getElem?_append_left (by simpa using hi), List.getElem?_map] at h2
      cases e : vs[i]? with
      | none => rw [e] at h2; cases h2
      | some a => rw [e] at h2; cases h2; rfl
    obtain ⟨u, hu, rv⟩ := r.get ha
    have hp : ps[i]? = some y := by
      rw [← S.pre, List.getElem?_take_of_lt (by omega)]; exact h1
    have ndP : ps.Nodup := by rw [← S.pre]; exact S.nd.sublist (List.take_sublist _ _)
    refine ⟨u, rv, ?_⟩
    rcases S.par y (List.mem_of_getElem? hp) with k | k
    · exact .inl ⟨k, bindL_get ndP hp hu k⟩
    · obtain ⟨c, e⟩ := cell_has (n := s.heap.objs.size + 1) k
      refine .inr ⟨.inl k, c, e, ?_⟩
      have q := x.cell y c e
      rw [bindC_get ndP hp hu (by show scope.names.lookup y ≠ _; rw [k]; decide)] at q
      exact q
  · exact e0.hok.fresh (Nat.le_of_lt (x.above y c (PySem.mem_of_lookup h)))
  · unfold start
    show _ = N.length
    rw [List.length_append, List.length_map, List.length_replicate]
    omega

/-- THE RULE: a def (or a method) of the text, by its body. The body's reading t is chosen for each entry; it is run at the parameters' values -/
theorem fn_of {CX : CXT} {P : Program} {w : World} {K : PySem.W.Frag} {mg : Str → Option Value} {base : Heap} {k : Nat} {f : Addr} {name qual : Str} {params : Arguments} {body : List Stmt} {scope : Scope} {dV kV doc pm cdv ct oc : Value} {an od : Option Addr}
    {osl : Array (Option Value)} {N ps : List Str} {sp : Sp} (lk : K.lookup f = some ⟨oc, od, .func (PySem.W.fnOf name qual params body scope dV kV doc pm an cdv ct), osl⟩) (hcd : PySem.W.codeIn K cdv qual = true) (S : FnScope N ps scope)
    (len : ∀ vs H Q E, sp vs H Q E → vs.length = ps.length)
    (hbody : ∀ (A : Around) (outer : List Env) (s : Shared) (H : Hp) (vs : List V) (Q : VK) (E : XK), Room k (A.deeper (envOfC qual scope s.heap.objs.size f cdv)) → sp vs H Q E →
      ∃ t, PSs (cxOf CX P w K mg base N qual scope f cdv A outer s H E) body t ∧ t { nx := fun _ H' => Q .non H', rt := Q } (start N vs) H) :
    FnOk P w K mg base CX (k + 1) f (PySem.W.fnOf name qual params body scope dV kV doc pm an cdv ct) ps sp := by
  refine ⟨len, fun A outer s H args us vs Q E hr e0 hb r hsp => ?_⟩
  have hl := len _ _ _ _ hsp
  have KX : K.In s.heap := e0.mod.kin.keeps fun b o e => (e0.bs b o e).1
  have lim : s.heap.NoLimit := e0.mod.nolimit.keeps fun b o e => (e0.bs b o e).1
  have hkind : ∀ y ∈ ps.zip us, scope.names.lookup y.1 = some .local ∨ (scope.names.lookup y.1 = some .cell ∧ ((cellsFrom (s.heap.objs.size + 1) scope.names []).lookup y.1).isSome = true) := fun ⟨n, v⟩ hy => by
    rcases S.par n (List.of_mem_zip hy).1 with q | q
    · exact .inl q
    · exact .inr ⟨q, PySem.W.cellsFrom_some _ _ _ (.inl q)⟩
  refine codeAny_call_function hr.depth (KX _ _ lk) rfl S.co S.gen rfl (PySem.W.codeRec_of KX hcd) (hb _ _ _ _ ?_)
  refine wpAny_newFunctionEnv_cells S.kind hkind fun env he s1 x => ?_
  subst he
  refine ⟨lim.keeps x.toInCall.keep, codeAny_func ?_⟩
  obtain ⟨t, ht, hq⟩ := hbody A outer s H vs Q E (hr.deeper _) hsp
  have I : Inv (cxOf CX P w K mg base N qual scope f cdv A outer s H E) [] (start N vs) H s1 := inv_start S hr.hd e0 hl r x
  refine wpAny_mono (ht [] s1 (start N vs) H _ I hq) (fun fl s' hs => ?_) fun e s' hs => hs
  have fin : ∀ {σ' : St} {H' : Hp} {v : V} {u : Value}, Inv (cxOf CX P w K mg base N qual scope f cdv A outer s H E) [] σ' H' s' → RelV v u → Q v H' → CE outer P w H s Q u s' :=
    fun {σ' H' v u} J rv q => ⟨v, H', J.os, J.bare, J.base, J.hok, rv, q⟩
  cases fl with
  | ret u =>
    obtain ⟨v, σ', H', J, rv, q⟩ := hs
    exact fin J rv q
  | next =>
    obtain ⟨σ', H', J, q⟩ := hs
    exact fin (v := V.non) (u := Value.none) J rfl q
  | brk =>
    obtain ⟨_, _, _, q⟩ := hs
    exact False.elim q
  | cont =>
    obtain ⟨_, _, _, q⟩ := hs
    exact False.elim q
end L2

namespace L2
open PySem PySem.Spec PyProof.Rows
section
variable {X : Cx} {x : Str} {p pos : Pos} {e : Expr} {es : List Expr} {t : TA} {id T : String} {r : List V → Hp → VK → Prop}

def tCB (r : List V → Hp → VK → Prop) (t : TA) : TE := fun σ H Q => t σ H fun vs H1 => r vs H1 Q
/-- f(e, ..), f a built-in function -/
theorem pe_callB (hc : CallR X (.builtin id) r) (hg : Gl X x) (hm : X.mg x = none) (hv : bootBuiltins x = some (.builtin id)) (ha : PA X (e :: es) t) (hn : x ≠ "__name__" := by decide) (hdb : (x == ("__debug__" : Str)) = false := by decide)
    (he : starEach (e :: es) X.env = (false, eval e X.env) :: starEach es X.env := by rfl) (hpl : (backTo pos (starEach es X.env)).any (·.1) = false := by rfl) : PE X (.Call (.Name x p) (e :: es) [] pos) (tCB r t) := by
  intro pins s σ H Q I h
  refine wpAny_Call_Name_kw (ld_blt I hg hm hv ?_ hn hdb)
  exact PyProof.Rows.callWith_builtin1 (thn (ha pos pins s σ H _ I h) fun us s1 ⟨vs, H1, I1, r1, q1⟩ => hc pins s1 σ H1 vs us Q I1 r1 q1) he hpl
/-- T(e, ..), T a built-in type -/
theorem pe_callTy (hc : CallR X (.type T) r) (hg : Gl X x) (hm : X.mg x = none) (hv : bootBuiltins x = some (.type T)) (ha : PA X (e :: es) t) (hn : x ≠ "__name__" := by decide) (hdb : (x == ("__debug__" : Str)) = false := by decide)
    (he : starEach (e :: es) X.env = (false, eval e X.env) :: starEach es X.env := by rfl) (hpl : (backTo pos (starEach es X.env)).any (·.1) = false := by rfl) : PE X (.Call (.Name x p) (e :: es) [] pos) (tCB r t) := by
  intro pins s σ H Q I h
  refine wpAny_Call_Name_kw (ld_blt I hg hm hv ?_ hn hdb)
  exact PyProof.Rows.callWith_type1 (thn (ha pos pins s σ H _ I h) fun us s1 ⟨vs, H1, I1, r1, q1⟩ => hc pins s1 σ H1 vs us Q I1 r1 q1) he hpl
end
end L2

namespace HT
open PySem PyProof.Rows

section
open PySem.SeqAt
open PySem.AutoSeq1 (wpAny_loadPart')
open PySem.MeetsSeq PySem.MeetsSeq2 PySem.MeetsSeq3

end

section
variable {prog : Program} {w : World} {A : Around} {E : Value → Shared → Prop} {s : Shared}

/-! ### t[a:b], not the whole -/
end
end HT

namespace L2
open PySem PySem.Spec PyProof.Rows

/-! ### the parts of a slice -/
abbrev TO := St → Hp → (Option Int → Hp → Prop) → Prop
def tNoPart : TO := fun _ H Q => Q none H
def tPart (t : TE) : TO := fun σ H Q => t σ H fun x H1 => ∃ i, x = .int i ∧ Q (some i) H1

section
variable {X : Cx} {e : Expr} {te : TE} {lo hi : Option Expr} {tl th : TO} {pos p2 : Pos}

def tSl (r : V → Option Int → Option Int → Hp → VK → Prop) (te : TE) (tl th : TO) : TE := fun σ H Q => te σ H fun x H1 => tl σ H1 fun l H2 => th σ H2 fun u H3 => r x l u H3 Q
/-! ### t < u, t + u -/
end
end L2

namespace L2
open PySem PySem.Spec PyProof.Rows

/-! ### places -/
/-- the place that an index of any sign means -/
def ixN (n : Nat) (i : Int) : Option Nat := if 0 ≤ i then (if i < n then some i.toNat else none) else if -(n : Int) ≤ i then some (i + n).toNat else none
def atI {α : Type} (xs : List α) (i : Int) : Option α := (ixN xs.length i).bind fun j => xs[j]?
theorem ixN_seq {n : Nat} {i : Int} {j : Nat} (h : ixN n i = some j) : seqIndex? i n = some j ∧ j < n ∧ -(n : Int) ≤ i ∧ i < n := by
  unfold ixN at h
  by_cases h0 : 0 ≤ i
  · rw [if_pos h0] at h
    by_cases h1 : i < n
    · rw [if_pos h1] at h
      have e : i.toNat = j := Option.some.inj h
      exact ⟨by rw [seqIndex_of h0 h1, e], by omega, by omega, h1⟩
    · rw [if_neg h1] at h; cases h
  · rw [if_neg h0] at h
    by_cases h1 : -(n : Int) ≤ i
    · rw [if_pos h1] at h
      have e : (i + n).toNat = j := Option.some.inj h
      exact ⟨by rw [seqIndex_neg (by omega) h1, e], by omega, h1, by omega⟩
    · rw [if_neg h1] at h; cases h
theorem atI_get {α : Type} {xs : List α} {i : Int} {v : α} (h : atI xs i = some v) : ∃ j, seqIndex? i xs.length = some j ∧ xs[j]? = some v ∧ j < xs.length ∧ -(xs.length : Int) ≤ i ∧ i < xs.length := by
  unfold atI at h
  cases e : ixN xs.length i with
  | none => rw [e] at h; cases h
  | some j =>
    rw [e] at h
    obtain ⟨h1, h2, h3, h4⟩ := ixN_seq e
    exact ⟨j, h1, h, h2, h3, h4⟩
theorem atI_nat {α : Type} {xs : List α} {j : Nat} {v : α} (h : xs[j]? = some v) : atI xs (j : Int) = some v := by
  have hj : j < xs.length := (List.getElem?_eq_some_iff.mp h).1
  have e : ixN xs.length (j : Int) = some j := by
    unfold ixN
    rw [if_pos (by omega), if_pos (by omega)]; simp
  unfold atI; rw [e]; exact h
/-! ### what may be subscripted -/
/-- what stands as an index of a plain subscript -/
def PlainIx (b : Expr) : Prop := ∀ o i, subscripted b false o i = operate [o, i] (getItem o i)
/-- a subscript by values -/
def IxR (X : Cx) (r : R2) : Prop :=
  ∀ (value slice : Expr) (pins : List (Addr × Obj)) (s : Shared) (σ : St) (H : Hp) (x y : V) (v u : Value) (Q : VK), Inv X pins σ H s → RelV x v → RelV y u → r x y H Q →
    subscripted slice false v u = operate [v, u] (getItem v u) → wpAny (model X.prog X.w) X.A (subscriptTail value slice v u) (EP X pins σ Q) X.xe s
/-- a call of a builtin's method by values: the receiver, the arguments -/
def MtR (X : Cx) (id : String) (r : V → List V → Hp → VK → Prop) : Prop :=
  ∀ (pins : List (Addr × Obj)) (s : Shared) (σ : St) (H : Hp) (x : V) (xs : List V) (v : Value) (us : List Value) (Q : VK), Inv X pins σ H s → RelV x v → Vals xs us → r x xs H Q →
    wpAny (model X.prog X.w) X.A (call (.builtin id) (v :: us)) (EP X pins σ Q) X.xe s
section
variable {X : Cx} {a b : Expr} {ta tb : TE} {pos : Pos}
theorem IxR.or {r r' : R2} (h : IxR X r) (h' : IxR X r') : IxR X (fun x y H Q => r x y H Q ∨ r' x y H Q) := by
  intro value slice pins s σ H x y v u Q I rx ry q hs
  rcases q with q | q
  · exact h value slice pins s σ H x y v u Q I rx ry q hs
  · exact h' value slice pins s σ H x y v u Q I rx ry q hs
theorem MtR.or {id : String} {r r' : V → List V → Hp → VK → Prop} (h : MtR X id r) (h' : MtR X id r') : MtR X id (fun x xs H Q => r x xs H Q ∨ r' x xs H Q) := by
  intro pins s σ H x xs v us Q I rx rs q
  rcases q with q | q
  · exact h pins s σ H x xs v us Q I rx rs q
  · exact h' pins s σ H x xs v us Q I rx rs q
/-- a[b] -/
theorem pe_ix {r : R2} (hr : IxR X r) (ha : PE X a ta) (hb : PE X b tb) (hs : PlainIx b) : PE X (.Subscript a b pos) (tOp r ta tb) := by
  intro pins s σ H Q I h
  exact Subscript_ (binT ha hb I h fun v u s2 x y H2 I2 rx ry q => hr a b pins s2 σ H2 x y v u Q I2 rx ry q (hs _ _))

def rIxL (K : PySem.W.Frag) : R2 := fun x y H Q => ∃ p xs i v, x = .ref p ∧ y = .int i ∧ SqL K H p xs ∧ atI xs i = some v ∧ Q v H
def rIxT (K : PySem.W.Frag) : R2 := fun x y H Q => ∃ p xs i v, x = .ref p ∧ y = .int i ∧ SqT K H p xs ∧ atI xs i = some v ∧ Q v H
theorem ix_list : IxR X (rIxL X.K) := by
  intro value slice pins s σ H x y v u Q I rx ry h hs
  obtain ⟨p, xs, i, z, rfl, rfl, hq, he, q⟩ := h
  cases rx
  obtain ⟨t, rfl⟩ := ry
  obtain ⟨its, r, pl, hz⟩ := I.list hq
  obtain ⟨j, h1, h2, h3, h4, h5⟩ := atI_get he
  obtain ⟨w, ew, rw'⟩ := r.get h2
  have hl := r.length
  have hn := line63
  have fin : EP X pins σ Q w s := ⟨z, H, I, rw', q⟩
  by_cases h0 : 0 ≤ i
  · have hj : i.toNat = j := by
      rw [seqIndex_of h0 h5] at h1
      exact Option.some.inj h1
    exact item_listR pl.isList h0 (by omega) (by rw [hj]; simpa using ew) fin hs
  · have hj : (i + (its.toArray.size : Int)).toNat = j := by
      rw [seqIndex_neg (by omega) h4] at h1
      rw [List.size_toArray, ← hl]
      exact Option.some.inj h1
    exact subscriptTail_builtinR (x := w) pl.isList.typeIs slot_list_getitem.lookup
      (wpAny_getItem_list_neg (Q := fun r s' => r = w ∧ EP X pins σ Q r s') pl.isList (by omega) (by rw [List.size_toArray] <;> omega) (by omega) (by rw [hj]; simpa using ew) ⟨rfl, fin⟩) hs
/-! ### xs[i] = v, any sign -/
/-- the list's object behind a store -/
theorem mapSeq_set (its : List Value) (n j : Nat) (u : Value) : Obj.mapSeq (·.setIfInBounds j u) { cls := .type "list", data := .seq its.toArray n } = { cls := .type "list", data := .seq (its.set j u).toArray n } := by
  simp [Obj.mapSeq]
theorem Inv.lst {pins : List (Addr × Obj)} {σ : St} {H : Hp} {s : Shared} {p : Addr} {xs : List V} (I : Inv X pins σ H s) (h : H p = some (.lst xs)) :
    ∃ (its : List Value) (n : Nat), Vals xs its ∧ s.heap.get? p = some { cls := .type "list", data := .seq its.toArray n } ∧ xs.length ≤ sizeLine := by
  obtain ⟨z, its, n, r, e⟩ := I.hok p _ h
  exact ⟨its, n, r, e, z⟩
/-- the list at p is written by an update of its object -/
theorem Inv.lstUpd {pins : List (Addr × Obj)} {σ : St} {H : Hp} {s : Shared} {p : Addr} {xs ys : List V} {its its' : List Value} {n n' : Nat} {f : Obj → Obj} (I : Inv X pins σ H s) (h : H p = some (.lst xs))
    (ho : s.heap.get? p = some { cls := .type "list", data := .seq its.toArray n }) (hf : f { cls := .type "list", data := .seq its.toArray n } = { cls := .type "list", data := .seq its'.toArray n' }) (r : Vals ys its') (hz : ys.length ≤ sizeLine) (t : Nat) :
    Inv X pins σ (upd H p (.lst ys)) { s with heap := s.heap.update p f, toks := t } := by
  have e : (s.heap.update p f).get? p = some { cls := .type "list", data := .seq its'.toArray n' } := by
    rw [Heap.get?_update_self f ho (by rw [hf] <;> rfl), hf]
  refine I.write (x := p) (e := p) (by rw [h]; trivial) (.inl rfl) (fun b u hb q => (Heap.get?_update_other _ _ (Ne.symm hb)).trans q) ⟨_, e⟩ ?_
  exact ⟨hz, its', n', r, e⟩
def rSetL : V → V → V → Hp → (Hp → Prop) → Prop := fun o i v H Q => ∃ p xs k j, o = .ref p ∧ i = .int k ∧ H p = some (.lst xs) ∧ ixN xs.length k = some j ∧ Q (upd H p (.lst (xs.set j v)))
theorem set_list : PSet X rSetL := by
  intro pins s σ H o i v ov iv u Q I ro ri rv h
  obtain ⟨p, xs, k, j, rfl, rfl, hp, hj, q⟩ := h
  cases ro
  obtain ⟨t, rfl⟩ := ri
  obtain ⟨its, n, r, ho, hz⟩ := I.lst hp
  obtain ⟨h1, h2, h3, h4⟩ := ixN_seq hj
  have hl := r.length
  have hn := line63
  have I' : Inv X pins σ (upd H p (.lst (xs.set j v))) { s with heap := s.heap.update p (Obj.mapSeq (·.setIfInBounds j u)) } :=
    I.lstUpd hp ho (mapSeq_set its n j u) (r.set rv j) (by rw [List.length_set]; exact hz) s.toks
  by_cases h0 : 0 ≤ k
  · have hk : k.toNat = j := by
      rw [seqIndex_of h0 h4] at h1
      exact Option.some.inj h1
    exact PySem.W.ki_setAt ho h0 (by omega) (by rw [List.size_toArray, ← hl]; exact h4) (by rw [hk]; exact ⟨_, I', q⟩)
  · have hk : (k + (its.toArray.size : Int)).toNat = j := by
      rw [seqIndex_neg (by omega) h3] at h1
      rw [List.size_toArray, ← hl]
      exact Option.some.inj h1
    exact PySem.W.ki_setBack ho (by omega) (by rw [List.size_toArray, ← hl]; exact h3) (by omega) (by rw [hk]; exact ⟨_, I', q⟩)

/-! ### slices -/
/-! ### in, not in: flat items -/
/-! ### len, list(x), tuple(x) of any list or tuple that is read -/
theorem call_len_seq : CallR X (.builtin "len") (fun xs H Q => ∃ p ys, xs = [.ref p] ∧ (SqL X.K H p ys ∨ SqT X.K H p ys) ∧ Q (.int ys.length) H) := by
  intro pins s σ H xs us Q I r h
  obtain ⟨p, ys, rfl, hq, q⟩ := h
  obtain ⟨u, rfl, rx⟩ := vals1 r
  cases rx
  have hn := line63
  rcases hq with hq | hq
  · obtain ⟨its, r', pl, hz⟩ := I.list hq
    have hlen := r'.length
    exact Calls.call_len_list pl.isList (by simp only [List.size_toArray] <;> omega) ⟨.int ys.length, H, I.tok _, ⟨s.toks + 1, by rw [List.size_toArray, hlen]⟩, q⟩
  · obtain ⟨its, r', pl, hz⟩ := I.tuple hq
    have hlen := r'.length
    exact len_tuple pl (by simp only [List.size_toArray] <;> omega) ⟨.int ys.length, H, I.tok _, ⟨s.toks + 1, by rw [List.size_toArray, hlen]⟩, q⟩
theorem CallR.or {f : Value} {r r' : List V → Hp → VK → Prop} (h : CallR X f r) (h' : CallR X f r') : CallR X f (fun xs H Q => r xs H Q ∨ r' xs H Q) := by
  intro pins s σ H xs us Q I rs q
  rcases q with q | q
  · exact h pins s σ H xs us Q I rs q
  · exact h' pins s σ H xs us Q I rs q
/-! ### the call of a builtin's method: o.m(..) -/
/-- the value is of that builtin type -/
def tyV (K : PySem.W.Frag) (T : String) (x : V) (H : Hp) : Prop := match x with
  | .str _ => T = "str"
  | .int _ => T = "int"
  | .ref p => (T = "list" ∧ ∃ xs, SqL K H p xs) ∨ (T = "tuple" ∧ ∃ o, K.lookup p = some o ∧ o.cls = .type "tuple" ∧ o.dict = none) ∨
      (T = "dict" ∧ ((∃ kvs, H p = some (.dK kvs)) ∨ ∃ kvs, H p = some (.dT kvs))) ∨ (T = "set" ∧ ∃ S n, H p = some (.set S n))
  | _ => False
def tBM0 (K : PySem.W.Frag) (T : String) (r : V → List V → Hp → VK → Prop) (to : TE) : TE := fun σ H Q => to σ H fun x H1 => tyV K T x H1 ∧ r x [] H1 Q
def tBM (K : PySem.W.Frag) (T : String) (r : V → List V → Hp → VK → Prop) (to : TE) (t : TA) : TE := fun σ H Q => to σ H fun x H1 => tyV K T x H1 ∧ t σ H1 fun xs H2 => r x xs H2 Q
variable {o e : Expr} {es : List Expr} {to : TE} {t : TA} {name : Str} {apos cpos : Pos} {T id : String} {r : V → List V → Hp → VK → Prop}
/- xs.append(e), list.index on a module's tuple .. are MtR facts of 06m -/
end
end L2

namespace L2
open PySem PySem.Spec PyProof.Rows

/-! ### lists of values -/
theorem Vals.one : ∀ {x : V} {us : List Value}, Vals [x] us → ∃ u, us = [u] ∧ RelV x u
  | _, _, .cons r .nil => ⟨_, rfl, r⟩
theorem Vals.two : ∀ {x y : V} {us : List Value}, Vals [x, y] us → ∃ u v, us = [u, v] ∧ RelV x u ∧ RelV y v
  | _, _, _, .cons r (.cons q .nil) => ⟨_, _, rfl, r, q⟩
theorem Vals.eraseIdx : ∀ {xs : List V} {us : List Value} (i : Nat), Vals xs us → Vals (xs.eraseIdx i) (us.eraseIdx i)
  | _, _, _, .nil => .nil
  | _, _, 0, .cons _ t => t
  | _, _, i + 1, .cons r t => .cons r (Vals.eraseIdx i t)
section
variable {X : Cx} {pins : List (Addr × Obj)} {σ : St} {H : Hp} {s : Shared} {l b : Addr} {xs ys zs : List V}

/-! ### the two steps: a tracked list is rewritten, a new list is laid -/
theorem Inv.fresh (I : Inv X pins σ H s) : H s.heap.objs.size = none := I.hok.fresh (Nat.le_refl _)
end

section
variable {X : Cx}

/-! ### methods -/
/-! ### list + list, list += list, list * int -/
/-! ### del xs[i] -/
end

/-! ### xs[a:b] = ys -/
section
variable {prog : Program} {w : World} {A : Around} {E : Value → Shared → Prop} {s : Shared}
end

section
variable {X : Cx}
end
end L2

namespace Att
open PySem PySem.W PySem.Calls PyProof.Rows

/-! ### the script -/
theorem ints_of_wellAll {P : Params} {h : Heap} : ∀ (ns : List Int) (vs : List Value), WellAll P h vs (ns.map WData.int) → IntsAre vs ns := by
  intro ns
  induction ns with
  | nil =>
    intro vs w
    rw [List.map_nil] at w
    cases w
    exact .nil
  | cons n ns ih =>
    intro vs w
    rw [List.map_cons] at w
    cases w with
    | cons a b =>
      cases a
      exact .cons _ _ (ih _ b)

theorem script_of {l : OpenLaw} {n : Nat} (hn : l.most = some n) {P : Params} {h : Heap} {args : List WData} {vals : List Value}
    (hpre : l.row.toRowW.claim.pre args = true) (hwl : WellAll P h vals args) :
    ∃ a vs ns, vals = [Value.ref a] ∧ args = [WData.list (ns.map WData.int)] ∧ h.get? a = some { cls := .type "list", data := .seq vs.toArray } ∧ IntsAre vs ns ∧ ns.length ≤ n := by
  have hsh : WShape.hasAll [] args [.list .int] = true := (pre_splitW hpre).1
  have hc : l.pre.holds [] { args := args } = true := (pre_splitW hpre).2
  obtain ⟨d, r, rfl, h1, h2⟩ := hasAllW_cons hsh
  obtain rfl := hasAllW_nil h2
  obtain ⟨xs, rfl, h3⟩ := hasW_list h1
  obtain ⟨ns, rfl⟩ := items_int h3
  have hlen : ns.length ≤ n := by
    unfold OpenLaw.pre at hc
    have h4 : (WTm.not (.lt (.lit (.int (n : Int))) (.len (.arg 0)))).holds [] { args := [.list (ns.map .int)] } = true := by
      have h4 := (holds_andW hc).1
      rw [hn] at h4
      exact h4
    have h5 := condW_of h4 (w_not (w_lt w_lit (w_len_list (w_arg rfl))))
    rw [List.length_map] at h5
    refine Nat.le_of_not_lt fun q => ?_
    have q' : (n : Int) < ((ns.length : Nat) : Int) := by omega
    first
      | (rw [decide_eq_true q'] at h5; exact absurd h5 (by decide))
      | (simp at h5; omega)
  cases hwl with
  | cons w1 w2 =>
    cases w2
    cases w1 with
    | list ho hall => exact ⟨_, _, ns, rfl, rfl, ho, ints_of_wellAll ns _ hall, hlen⟩

theorem post_true (l : OpenLaw) (args : List WData) : l.row.toRowW.claim.post args (.bool true) args = true :=
  postW_of (r := l.row.toRowW) (X := (true == true))
    (show WShape.has [] (.bool true) .bool = true by first | rfl | decide | simp [WShape.has, WShape.arms, WShape.armsAll])
    (show (WTm.eq .res (.lit (.bool true))).value [] { args := args, res := some (.bool true), after := args } = some (.bool (true == true)) from w_eq_bool (w_res rfl) w_lit) rfl

/-! ### the attachment: holds_open's last premise (the goal 'hc' behind k_head) from a wpAny of the law's body -/
/-- the same from a codeAny of the CALL (for a layer whose function contracts speak of calls) -/
theorem attach_call {l : OpenLaw} {n : Nat} {q : Program} {loose : List Str} {XP : (Str → Option Value) → Heap → Prop} {YP : World → Heap → Prop} {d : DefRec}
    (hn : l.most = some n) (hdf : d.params.defaults = [])
    (call : ∀ (w : World) (s₀ s₁ : Shared) (mg mb : Str → Option Value) (fa : Addr) (o : Obj) (pm cd doc : Value) (a : Addr) (vs : List Value) (ns : List Int),
      Ground q loose [] XP w s₀ mg mb s₁.heap → YP w s₁.heap →
      s₁.heap.get? fa = some o → o.data = .func (docDef d.name d.params d.body d.scope pm cd doc) → s₁.heap.CodeRec cd d.name → mg d.name = some (.ref fa) →
      s₁.heap.get? a = some { cls := .type "list", data := .seq vs.toArray } → IntsAre vs ns → ns.length ≤ n → s₁.gens = #[] →
      codeAny (model l.prog w) callerA (.call (.ref fa) ⟨[.ref a], []⟩) (fun r s' => r = .ok (.ret (.bool true)) ∧ OldK s₁.heap s'.heap ∧ s'.os = s₁.os ∧ AllBare s'.gens) s₁) :
    WalkO q loose XP YP l.row.toRowW d [] (fun f vs => PySem.call f vs) := by
  intro w s₀ s₁ mg mb G Y fa o pm cd doc dV kV ho hd hcd hD hmg hg args vals as hpre hlay hrd hwl hlo
  obtain rfl : dV = .none := Dflts.none hD hdf
  obtain rfl : kV = .none := Dflts.noKw hD
  obtain ⟨a, vs, ns, rfl, rfl, hobj, hints, hlen⟩ := script_of hn hpre hwl
  refine enter_call (codeAny_mono (call w s₀ s₁ mg mb fa o pm cd doc a vs ns G Y ho (fd_plain hd) hcd hmg hobj hints hlen hg) fun r s' hq => ?_)
  obtain ⟨rfl, h2, h3, h4⟩ := hq
  exact ⟨.inl ⟨.bool true, .bool true, [], rfl, fun _ => rfl, .bool true, post_true l _, fun _ => ⟨List.Pairwise.nil, fun _ hm => (nomatch hm)⟩⟩, h2, h3, h4⟩

/-! ### rules over ANY heap (no ledger) from facts about the written part K: the library's own take a ledger (News) for what they write -/
section
variable {prog : Program} {w : World} {A : Around} {E : Value → Shared → Prop} {s : Shared} {K : Frag}

/-! the whole heap as the ledger: makes every rule that writes through a ledger a rule over any heap -/
def ledger (h : Heap) (L d : Addr) : List (Addr × Obj) := (List.range h.objs.size).filterMap fun a => if a = L ∨ a = d then none else (h.get? a).map fun o => (a, o)
end
end Att

namespace L2
open PySem PySem.Spec PyProof.Rows

theorem vals_ints : ∀ {vs : List Value} {ns : List Int}, IntsAre vs ns → Vals (ns.map V.int) vs
  | _, _, .nil => .nil
  | _, _, .cons n t h => .cons ⟨t, rfl⟩ (vals_ints h)

/-- nothing is tracked but the script, known to the object (or it is an object of the module) -/
def Only (H : Hp) : Prop := ∀ b, H b = none ∨ ∃ o xs, H b = some (.frz o (.lst xs))

/-- THE HEAD: the law's promise, at the heap behind the top. F, the promise of the law's def, may use that base is part of the heap (so K.In base, base.Ns mainGlobals mg stand in Mod) -/
theorem law_call {P : Program} {w : World} {K : PySem.W.Frag} {mg mb : Str → Option Value} {CX : CXT} {k : Nat} {fa a : Addr} {fd : FuncData} {x : Str} {sp : Sp} {s₁ : Shared} {vs : List Value} {ns : List Int}
    (KX : K.In s₁.heap) (hns : s₁.heap.Ns mainGlobals mg) (hb : s₁.heap.Ns builtinsNs mb) (hbb : ∀ x : Str, x ≠ "__name__" → mb x = bootBuiltins x) (hlim : s₁.heap.NoLimit) (hg : s₁.gens = #[])
    (ha : s₁.heap.get? a = some { cls := .type "list", data := .seq vs.toArray }) (hi : IntsAre vs ns) (hl : ns.length ≤ sizeLine) (hr : Room k callerA)
    (F : ∀ base : Heap, K.In base → base.Ns mainGlobals mg → FnOk P w K mg base CX k fa fd [x] sp) (hbind : ∀ (s : Shared) (u : Value), BindsTo s fd ⟨[u], []⟩ [(x, u)])
    (hsp : ∀ H : Hp, Only H → SqL K H a (ns.map V.int) → sp [.ref a] H (fun v _ => v = .bl true) fun _ _ _ => False)
    (hCX : ∀ H e s', CX [] H s₁ (fun _ _ _ => False) e s' → False) :
    codeAny (model P w) callerA (.call (.ref fa) ⟨[.ref a], []⟩) (fun r s' => r = .ok (.ret (.bool true)) ∧ OldK s₁.heap s'.heap ∧ s'.os = s₁.os ∧ AllBare s'.gens) s₁ := by
  have rv := vals_ints hi
  have lenV := hi.length
  -- from an abstract heap in which nothing but the script may be tracked
  have core : ∀ H : Hp, Only H → SqL K H a (ns.map V.int) → HOk P w H s₁.heap → (∀ b, H b ≠ none → b = a) → (H a ≠ none → K.lookup a = none) →
      codeAny (model P w) callerA (.call (.ref fa) ⟨[.ref a], []⟩) (fun r s' => r = .ok (.ret (.bool true)) ∧ OldK s₁.heap s'.heap ∧ s'.os = s₁.os ∧ AllBare s'.gens) s₁ := by
    intro H hO hS hok hA hK
    have base_of : ∀ {b : Addr} {o : Obj}, s₁.heap.get? b = some o → H b = none → (hidT s₁.heap H).get? b = some o := fun e n => hidT_get e n
    have noA : ∀ {b : Addr} {o : Obj} {es : Array DictEntry} {ep : Nat}, s₁.heap.get? b = some o → o.data = .dict es ep → H b = none := fun {b o es ep} e d => by
      cases q : H b with
      | none => rfl
      | some u =>
        have e' : b = a := hA b (by rw [q]; simp)
        subst e'
        rw [ha] at e; cases e
        have d' : Data.seq vs.toArray _ = Data.dict es ep := d
        cases d'
    have nsK : ∀ {b : Addr} {m : Str → Option Value}, s₁.heap.Ns b m → (hidT s₁.heap H).Ns b m := fun {b m} ⟨o, es, ep, e, d, r⟩ => ⟨o, es, ep, base_of e (noA e d), d, r⟩
    have hKb : K.In (hidT s₁.heap H) := fun b o e => base_of (KX b o e) (by
      cases q : H b with
      | none => rfl
      | some u =>
        have e' : b = a := hA b (by rw [q]; simp)
        subst e'
        rw [hK (by rw [q]; simp)] at e; cases e)
    have hM : Mod K mg (hidT s₁.heap H) := ⟨hKb, nsK hns, ⟨mb, nsK hb, hbb⟩, let ⟨mc, h1, h2⟩ := hlim; ⟨mc, nsK h1, h2⟩⟩
    have e0 : Env0 P w K mg (hidT s₁.heap H) callerA [] s₁ H := ⟨rfl, hM, fun b o e => of_hidT e, Nat.le_of_eq (hidT_size _ _), trivial, fun b hb => absurd (show b ∈ ([] : List Addr) from hb) (by simp), hok, .of_eq hg⟩
    refine codeAny_mono ((F _ hKb (nsK hns)).run callerA [] s₁ H ⟨[.ref a], []⟩ [.ref a] [.ref a] _ _ hr e0 (hbind s₁ (.ref a)) (.cons rfl .nil) (hsp H hO hS)) fun r s' h => ?_
    cases r with
    | error e => exact (hCX H e s' h).elim
    | ok fl =>
      cases fl with
      | next => exact False.elim h
      | brk => exact False.elim h
      | cont => exact False.elim h
      | ret u =>
        obtain ⟨v, H', os, bare, un, hok', r', q⟩ := h
        have q' : v = .bl true := q
        subst q'
        obtain rfl : u = Value.bool true := r'
        refine ⟨rfl, OldK.of_keep fun b o e => ?_, os, bare⟩
        cases q : H b with
        | none => exact un.keep b o e q (by intro z; exact absurd (show b ∈ ([] : List Addr) from z) (by simp)) (by simp)
        | some u =>
          rcases hO b with z | ⟨ob, xs, z⟩
          · rw [q] at z; cases z
          · have z2 := un.frzs b ob _ z
            obtain ⟨e1, _⟩ := hok b _ z
            obtain ⟨e2, _⟩ := hok' b _ z2
            rw [e] at e1; cases e1
            exact e2
  cases hk : K.lookup a with
  | some o =>
    -- the script is one of the module's own objects
    have e := KX a o hk
    rw [ha] at e
    cases e
    refine core (fun _ => none) (fun _ => .inl rfl) (.inr ⟨_, vs.toArray, _, hk, rfl, rfl, rfl, by rw [List.size_toArray, lenV]; exact hl, by simpa using rv⟩) (fun b u z => by have z' : (none : Option HO) = some u := z; cases z') (fun b z => absurd rfl z) fun z => absurd rfl z
  | none =>
    refine core (fun b => if b = a then some (.frz { cls := .type "list", data := .seq vs.toArray } (.lst (ns.map V.int))) else none) (fun b => ?_) (.inl (.inr ⟨{ cls := .type "list", data := .seq vs.toArray }, if_pos rfl⟩)) (fun b u z => ?_) (fun b z => ?_) fun _ => hk
    · by_cases hb : b = a
      · exact .inr ⟨_, _, if_pos hb⟩
      · exact .inl (if_neg hb)
    · by_cases hb : b = a
      · have z' := (if_pos hb).symm.trans z
        cases z'
        subst hb
        exact ⟨ha, by rw [List.length_map]; exact hl, vs, _, rv, ha⟩
      · have z' := (if_neg hb).symm.trans z
        cases z'
    · by_cases hb : b = a
      · exact hb
      · exact absurd (if_neg hb) z
end L2

namespace L2
open PySem PySem.Spec PyProof.Rows

/-- the goal that k_head leaves (case hc), from the law's promise. F gives the function object fd (K's own) once, then the promise over every base -/
theorem walk_of {l : PySem.W.OpenLaw} {n k : Nat} {q : Program} {loose : List Str} {XP : (Str → Option Value) → Heap → Prop} {YP : World → Heap → Prop} {d : DefRec} {K : Params → PySem.W.Frag} {CX : World → CXT} {sp : World → Sp} {x : Str}
    (hn : l.most = some n) (hn2 : n ≤ sizeLine) (hdf : d.params.defaults = []) (hr : Room k callerA)
    (hY : ∀ (w : World) (h : Heap), YP w h → (K w.params).In h)
    (F : ∀ (w : World) (mg : Str → Option Value) (fa : Addr) (h : Heap), (K w.params).In h → h.Ns mainGlobals mg → mg d.name = some (.ref fa) →
      ∃ fd : FuncData, (∀ (s : Shared) (u : Value), BindsTo s fd ⟨[u], []⟩ [(x, u)]) ∧
        ∀ base : Heap, (K w.params).In base → base.Ns mainGlobals mg → FnOk l.prog w (K w.params) mg base (CX w) k fa fd [x] (sp w))
    (hsp : ∀ (w : World) (H : Hp) (a : Addr) (ns : List Int), ns.length ≤ n → Only H → SqL (K w.params) H a (ns.map V.int) → sp w [.ref a] H (fun v _ => v = .bl true) fun _ _ _ => False)
    (hCX : ∀ (w : World) (H : Hp) (s : Shared) (e : Value) (s' : Shared), CX w [] H s (fun _ _ _ => False) e s' → False) :
    PySem.W.WalkO q loose XP YP l.row.toRowW d [] (fun f vs => PySem.call f vs) := by
  refine Att.attach_call hn hdf fun w s₀ s₁ mg mb fa o pm cd doc a vs ns G Y ho hd hcd hmg hobj hints hlen hg => ?_
  have KX := hY w _ Y
  obtain ⟨fd, hb, hF⟩ := F w mg fa _ KX G.T.g hmg
  exact law_call KX G.T.g G.T.b G.T.builtins G.T.nolimit hg hobj hints (Nat.le_trans hlen hn2) hr hF hb (fun H hO hS => hsp w H a ns hlen hO hS) fun H e s' => hCX w H s₁ e s'
end L2

/- THE LAST THEOREM (shape; LID, My.* are yours):
   My.Adr: a structure of the addresses that your layer names (classes, functions); My.Txt K t: a structure (Prop) of the equations over K;
   My.txt_mk : {K} {implicit addresses ..} (e1 : nsIn K mainGlobals "law" = some (some (.ref f))) (e2 : K.lookup f = some ⟨oc, od, .func (fnOf "law" "law" params body scope dV kV doc pm an cdv ct), sl⟩) (e3 : codeIn K cdv "law" = true) .. : ∃ t, My.Txt K t

(the tactic k_is has no namespace: write k_is) -/

/-! SHORT WORDS over the layer: a def of the text, its body, what a loop and a test want. -/
namespace L2
open PySem PySem.Spec PyProof.Rows

/-! ### the text by places -/
def defArgs (s : Stmt) : Arguments := match s with
  | .FunctionDef _ a _ _ _ _ _ _ _ _ => a
  | _ => { posonlyargs := [], args := [], vararg := none, kwonlyargs := [], kw_defaults := [], kwarg := none, defaults := [] }
def defBody (s : Stmt) : List Stmt := match s with
  | .FunctionDef _ _ b _ _ _ _ _ _ _ => b
  | _ => []
def defScope (s : Stmt) : Scope := match s with
  | .FunctionDef _ _ _ _ _ _ sc _ _ _ => sc
  | _ => { kind := .function, names := [], isGenerator := false, isCoroutine := false }

/-! ### no exception leaves a def -/
abbrev CX0 : CXT := fun _ _ _ _ _ _ => False
abbrev E0 : XK := fun _ _ _ => False
theorem pass0 {X : Cx} : Passes CX0 X E0 := fun _ _ _ _ _ _ _ h => h.elim

/-! ### a def (or method) of the text as it stands behind the top -/
structure Fun (K : PySem.W.Frag) (x qual : Str) (st : Stmt) (f : Addr) (fd : FuncData) : Prop where
  ex : ∃ (oc : Value) (od : Option Addr) (kV doc pm : Value) (an : Option Addr) (cdv ct : Value) (osl : Array (Option Value)),
    fd = PySem.W.fnOf x qual (defArgs st) (defBody st) (defScope st) .none kV doc pm an cdv ct ∧ K.lookup f = some ⟨oc, od, .func fd, osl⟩ ∧ PySem.W.codeIn K cdv qual = true
  kp : PySem.W.keepIn K (.ref f) = true
section
variable {P : Program} {w : World} {K : PySem.W.Frag} {mg : Str → Option Value} {base : Heap}
/-- THE RULE for a def: its body as a term of rules, and the reading of that term -/
theorem Fun.ok {x qual : Str} {st : Stmt} {f : Addr} {fd : FuncData} {N ps : List Str} {k : Nat} {sp : Sp} (F : Fun K x qual st f fd) (S : FnScope N ps (defScope st)) (len : ∀ vs H Q E, sp vs H Q E → vs.length = ps.length)
    (hbody : ∀ (cdv : Value) (A : Around) (outer : List Env) (s : Shared) (H : Hp) (vs : List V) (Q : VK) (E : XK), Room k (A.deeper (envOfC qual (defScope st) s.heap.objs.size f cdv)) → sp vs H Q E →
      ∃ t, PSs (cxOf CX0 P w K mg base N qual (defScope st) f cdv A outer s H E).nox (defBody st) t ∧ t { nx := fun _ H' => Q .non H', rt := Q } (start N vs) H) : FnOk P w K mg base CX0 (k + 1) f fd ps sp := by
  obtain ⟨oc, od, kV, doc, pm, an, cdv, ct, osl, rfl, lk, hcd⟩ := F.ex
  refine fn_of lk hcd S len fun A outer s H vs Q E hr hsp => ?_
  obtain ⟨t, h, q⟩ := hbody cdv A outer s H vs Q E hr hsp
  exact ⟨t, h.nox, q⟩
/-- how its arguments bind (no defaults): h is «fun _ _ _ _ _ _ us hl => match us, hl with | [_, _], _ => rfl», one _ a parameter -/
theorem Fun.binds {x qual : Str} {st : Stmt} {f : Addr} {fd : FuncData} {ps : List Str} (F : Fun K x qual st f fd)
    (h : ∀ (kV doc pm : Value) (an : Option Addr) (cdv ct : Value) (us : List Value), us.length = ps.length → bindArgs (PySem.W.fnOf x qual (defArgs st) (defBody st) (defScope st) .none kV doc pm an cdv ct) ⟨us, []⟩ = pure (ps.zip us)) : Binds K fd ps [] := by
  obtain ⟨oc, od, kV, doc, pm, an, cdv, ct, osl, rfl, lk, hcd⟩ := F.ex
  exact .all (h kV doc pm an cdv ct)
theorem fun_mk {x qual : Str} {st : Stmt} {f : Addr} {oc : Value} {od an : Option Addr} {osl : Array (Option Value)} {kV doc pm cdv ct : Value} (l : K.lookup f = some ⟨oc, od, .func (PySem.W.fnOf x qual (defArgs st) (defBody st) (defScope st) .none kV doc pm an cdv ct), osl⟩)
    (c : PySem.W.codeIn K cdv qual = true) (k : PySem.W.keepIn K (.ref f) = true) : Fun K x qual st f (PySem.W.fnOf x qual (defArgs st) (defBody st) (defScope st) .none kV doc pm an cdv ct) := ⟨⟨oc, od, kV, doc, pm, an, cdv, ct, osl, rfl, l, c⟩, k⟩
end
/-! ### expressions in short: the name that stands in the i-th slot -/
section
variable {X : Cx}
end

/-! ### tests -/
theorem iteF {A B : Prop} (h : B) : if false = true then A else B := by
  rw [if_neg Bool.false_ne_true]
  exact h
theorem iteT {A B : Prop} (h : A) : if true = true then A else B := by
  rw [if_pos rfl]
  exact h
/-! ### heaps -/
/-- all that was tracked is as it was -/
def Same (H H' : Hp) : Prop := ∀ b o, H b = some o → H' b = some o
theorem Same.refl (H : Hp) : Same H H := fun _ _ h => h
theorem Same.trans {H H1 H2 : Hp} (a : Same H H1) (b : Same H1 H2) : Same H H2 := fun c o h => b c o (a c o h)
theorem Same.free {H H' : Hp} (e : Same H H') {l : Addr} (h : H' l = Option.none) : H l = Option.none := by
  cases q : H l with
  | none => rfl
  | some o =>
    rw [e l o q] at h
    cases h
theorem Same.seq {K : PySem.W.Frag} {H H' : Hp} {a : Addr} {xs : List V} (e : Same H H') (h : SqL K H a xs) : SqL K H' a xs := by
  rcases h with (h | ⟨o, h⟩) | h
  · exact .inl (.inl (e _ _ h))
  · exact .inl (.inr ⟨o, e _ _ h⟩)
  · exact .inr h

end L2

set_option Elab.async false
set_option linter.all false
set_option maxRecDepth 100000
set_option maxHeartbeats 4000000
namespace L2
open PySem PySem.Spec PyProof.Rows PySem.W
/-! ### the tree of questions of a sort, answered by an order -/
section
variable {c : Nat → Nat → Bool} {n : Nat}
end
end L2

set_option Elab.async false
set_option linter.all false
set_option maxRecDepth 100000
set_option maxHeartbeats 4000000
namespace L2
open PySem PySem.Spec PyProof.Rows

/-! ### ints of any size -/
section
variable {X : Cx}
theorem op_mulG : OpR X (binaryOp .Mult) (rI IntMulOk fun i j => .int (i * j)) := opI fun _ _ _ _ _ _ _ hc q => mul_int q hc
def CDivB (_ j : Int) : Prop := 0 < j ∧ j.natAbs.log2 < 9000
theorem op_fdivB : OpR X (binaryOp .FloorDiv) (rI CDivB fun i j => .int (i / j)) := opI fun i j _ _ _ _ _ hc q => by
  have h1 : (0 : Int) < j := hc.1
  exact floordiv_int (by omega) (by rw [Int.fdiv_eq_ediv_of_nonneg i (by omega)]; exact q) (.inl (PyProof.noPylong_of_log2 hc.2))
theorem CDivB.of {i j : Int} (h : 0 < j) {k : Nat} (h2 : j < 2 ^ k) (hk : k ≤ 9000) : CDivB i j := by
  refine ⟨h, ?_⟩
  have h3 : j.natAbs < 2 ^ k := by
    have e : ((j.natAbs : Nat) : Int) = j := by omega
    have e2 : ((2 ^ k : Nat) : Int) = (2 : Int) ^ k := by simp
    have : ((j.natAbs : Nat) : Int) < ((2 ^ k : Nat) : Int) := by rw [e, e2]; exact h2
    exact Int.ofNat_lt.mp this
  have h4 : j.natAbs.log2 < k := (Nat.log2_lt (by omega)).mpr h3
  omega
theorem mulL {i j : Int} (h1 : -(2 ^ 64) < i) (h2 : i < 2 ^ 64) : IntMulOk i j := .of_left (intBits_le_64 h1 h2)
theorem mulR {i j : Int} (h1 : -(2 ^ 64) < j) (h2 : j < 2 ^ 64) : IntMulOk i j := .of_right (intBits_le_64 h1 h2)
end

/-! ### is True, is False -/
section
variable {X : Cx}
end

/-! ### all, any of a list of truths -/
section
variable {X : Cx}
end

/-! ### isinstance -/
section
variable {X : Cx}
def rIsi (K : PySem.W.Frag) : List V → Hp → VK → Prop := fun xs H Q => ∃ x n t b, xs = [x, .ty n] ∧ TyOf K H x t ∧ PySem.W.kitOne K t (.type n) = some b ∧ Q (.bl b) H
theorem call_isi : CallR X (.builtin "isinstance") (rIsi X.K) := by
  intro pins s σ H xs us Q I r h
  obtain ⟨x, n, t, b, rfl, ty, e, q⟩ := h
  obtain ⟨u, v, rfl, ru, rv⟩ := r.two
  obtain rfl : v = Value.type n := rv
  exact isinst_ok I ru ty e fun tk => ⟨.bl b, H, I.tok _, rfl, q⟩
end
end L2
namespace L2
open PySem PySem.Spec PyProof.Rows
/-! ### == of tuples of flat things -/
section
variable {X : Cx}
end
end L2

set_option Elab.async false
set_option linter.all false
set_option maxRecDepth 100000
set_option maxHeartbeats 4000000
namespace L2
open PySem PySem.Spec PyProof.Rows

/-! ### list comprehensions -/
def capSt (own : Nat) (ks : List Nat) (σ : St) : St := List.replicate own none ++ ks.map fun k => (σ[k]?).join

section
variable {prog : Program} {w : World} {A : Around} {R : Result → Shared → Prop} {s : Shared}
end

def tNoIf : TT := fun _ H Q => Q true H
section
variable {X : Cx}
def tComp (own : Nat) (ks : List Nat) (wi : TI) (g : TG) (tt : TT) (te : TE) : TE := fun σ H Q => wi σ H fun J H1 => ∀ l, H1 l = none →
  ∃ W : Nat → Nat → St → Hp → Prop, (∃ m, W 0 m (capSt own ks σ) (upd H1 l (.lst []))) ∧ ∀ i m σ' H', W i m σ' H' →
    (J.stop i H' ∧ Q (.ref l) H') ∨ (J.go i H' ∧ ∃ N : St → Hp → Prop, (∀ σ2 H2, N σ2 H2 → ∃ m', m' < m ∧ W (i + 1) m' σ2 H2) ∧
      ∀ x H'', J.yld i H' x H'' → g x σ' H'' fun σ2 H2 => tt σ2 H2 fun b H3 =>
        if b = true then te σ2 H3 fun v H4 => ∃ xs, H4 l = some (.lst xs) ∧ xs.length < sizeLine ∧ N σ2 (upd H4 l (.lst (xs ++ [v]))) else N σ2 H3)

end
end L2

set_option Elab.async false
set_option linter.all false
set_option maxRecDepth 100000
set_option maxHeartbeats 4000000
namespace L2
open PySem PySem.Spec PyProof.Rows

/-! ### names of Python's own -/
theorem bt_int : bootBuiltins "int" = some (.type "int") := by decide +kernel
theorem bt_bool : bootBuiltins "bool" = some (.type "bool") := by decide +kernel
theorem bt_len : bootBuiltins "len" = some (.builtin "len") := by decide +kernel
theorem bt_abs : bootBuiltins "abs" = some (.builtin "abs") := by decide +kernel
theorem bt_max : bootBuiltins "max" = some (.builtin "max") := by decide +kernel
theorem bt_min : bootBuiltins "min" = some (.builtin "min") := by decide +kernel
theorem bt_isinstance : bootBuiltins "isinstance" = some (.builtin "isinstance") := by decide +kernel

/-! ### arguments without a star -/
def isStar : Expr → Bool
  | .Starred _ _ => true
  | _ => false
def noStars (es : List Expr) : Bool := es.all fun e => !isStar e
theorem star_cons {e : Expr} {es : List Expr} {env : Env} (h : isStar e = false) : starEach (e :: es) env = (false, eval e env) :: starEach es env := by
  cases e <;> first | rfl | cases h
theorem star_of {e : Expr} {es : List Expr} {env : Env} (h : noStars (e :: es) = true) : starEach (e :: es) env = (false, eval e env) :: starEach es env := by
  refine star_cons ?_
  unfold noStars at h
  rw [List.all_cons, Bool.and_eq_true] at h
  simpa using h.1
theorem star_any {pos : Pos} {env : Env} : ∀ {es : List Expr}, noStars es = true → (backTo pos (starEach es env)).any (·.1) = false
  | [], _ => rfl
  | e :: es, h => by
    rw [star_of h]
    have h2 : noStars es = true := by
      unfold noStars at h ⊢
      rw [List.all_cons, Bool.and_eq_true] at h
      exact h.2
    exact star_any h2
theorem star_tail {e : Expr} {es : List Expr} (h : noStars (e :: es) = true) : noStars es = true := by
  unfold noStars at h ⊢
  rw [List.all_cons, Bool.and_eq_true] at h
  exact h.2
section
variable {X : Cx} {CX : CXT} {k : Nat} {f : Addr} {fd : FuncData} {ps : List Str} {sp : Sp} {dvs : List V} {ds : List Value} {E : XK} {x : Str} {p pos : Pos} {e : Expr} {es : List Expr} {te : TE} {t : TA} {id T : String} {r : List V → Hp → VK → Prop}
theorem pa_c (ha : PE X e te) (hr : PA X es t) (hs : isStar e = false := by rfl) : PA X (e :: es) (tCons te t) := pa_cons ha hr (star_cons hs)
theorem pe_callS (F : FnOk X.prog X.w X.K X.mg X.base CX k f fd ps sp) (hr : Room k X.A) (hg : Gl X x) (hm : X.mg x = some (.ref f)) (hk : PySem.W.keepIn X.K (.ref f) = true) (hb : Binds X.K fd ps ds) (hd : Vals dvs ds) (hx : Passes CX X E)
    (ha : PA X (e :: es) t) (hns : noStars (e :: es) = true := by rfl) (hdb : (x == ("__debug__" : Str)) = false := by decide) : PE X (.Call (.Name x p) (e :: es) [] pos) (tCall sp dvs E t) :=
  pe_call F hr hg hm hk hb hd hx ha hdb (star_of hns) (star_any (star_tail hns))
theorem pe_callBS (hc : CallR X (.builtin id) r) (hg : Gl X x) (hm : X.mg x = none) (hv : bootBuiltins x = some (.builtin id)) (ha : PA X (e :: es) t) (hns : noStars (e :: es) = true := by rfl) (hn : x ≠ "__name__" := by decide) (hdb : (x == ("__debug__" : Str)) = false := by decide) :
    PE X (.Call (.Name x p) (e :: es) [] pos) (tCB r t) := pe_callB hc hg hm hv ha hn hdb (star_of hns) (star_any (star_tail hns))
theorem pe_callTyS (hc : CallR X (.type T) r) (hg : Gl X x) (hm : X.mg x = none) (hv : bootBuiltins x = some (.type T)) (ha : PA X (e :: es) t) (hns : noStars (e :: es) = true := by rfl) (hn : x ≠ "__name__" := by decide) (hdb : (x == ("__debug__" : Str)) = false := by decide) :
    PE X (.Call (.Name x p) (e :: es) [] pos) (tCB r t) := pe_callTy hc hg hm hv ha hn hdb (star_of hns) (star_any (star_tail hns))
end
/-! ### values that are no comprehension -/
def isCompr : Expr → Bool
  | .ListComp _ _ _ _ => true
  | .SetComp _ _ _ _ => true
  | .DictComp _ _ _ _ _ => true
  | _ => false
theorem swaps_no {e : Expr} {tg : Option Expr} {n : Nat} {env : Env} (h : isCompr e = false) : swapsWith e tg n env = pure false := by
  cases e <;> first | rfl | cases h
section
variable {X : Cx} {e : Expr} {te : TE} {pos : Pos}
theorem ps_setS {i : Nat} {x : Str} {pos' : Pos} (hN : X.N.Nodup) (hi : X.N[i]? = some x) (hx : Loc X.env.scope x) (he : PE X e te) (hs : isCompr e = false := by rfl) (hf : X.fn x = true ∨ X.env.scope.names.lookup x = some .local := by first | exact .inl rfl | exact .inr rfl | assumption) :
    PS X (.Assign [.Name x pos'] e pos) (tAsg te (gName i)) := ps_set hN hi hx he (swaps_no hs) hf
end
/-! ### calls of Python's own, by name -/
def rLen (K : PySem.W.Frag) : List V → Hp → VK → Prop := fun xs H Q => ∃ p ys, xs = [.ref p] ∧ (SqL K H p ys ∨ SqT K H p ys) ∧ Q (.int ys.length) H
def rInt1 : List V → Hp → VK → Prop := fun xs H Q => (∃ i, xs = [.int i] ∧ Q (.int i) H) ∨ ∃ k, xs = [.bl k] ∧ Q (.int (if k then 1 else 0)) H
def rAbs : List V → Hp → VK → Prop := fun xs H Q => ∃ i, xs = [.int i] ∧ Q (.int (if i < 0 then -i else i)) H
def rMax : List V → Hp → VK → Prop := fun xs H Q => ∃ i j, xs = [.int i, .int j] ∧ Q (.int (if j > i then j else i)) H
def rMin : List V → Hp → VK → Prop := fun xs H Q => ∃ i j, xs = [.int i, .int j] ∧ Q (.int (if j < i then j else i)) H
def rIsB : R2 := fun x y H Q => ∃ b, y = .bl b ∧ Q (.bl (decide (x = .bl b))) H
def rNotB : R2 := fun x y H Q => ∃ b, y = .bl b ∧ Q (.bl (!decide (x = .bl b))) H
def rIsN : R2 := fun x y H Q => y = .non ∧ Q (.bl (decide (x = .non))) H
def rNotN : R2 := fun x y H Q => y = .non ∧ Q (.bl (!decide (x = .non))) H
section
variable {X : Cx}
theorem ca_len : CallR X (.builtin "len") (rLen X.K) := call_len_seq
theorem ca_int : CallR X (.type "int") rInt1 := call_int1
theorem ca_abs : CallR X (.builtin "abs") rAbs := call_abs
theorem ca_max (hc : X.calm = true) : CallR X (.builtin "max") rMax := call_max2 hc
theorem ca_min (hc : X.calm = true) : CallR X (.builtin "min") rMin := call_min2 hc
end
/-! ### the reading, rule by rule -/
section
variable {K : PySem.W.Frag} {σ : St} {H : Hp} {Q : VK} {D : Ends}
theorem rd_seq {t u : TS} (h : t { D with nx := u D } σ H) : tSeq t u D σ H := h
theorem rd_ret {te : TE} (h : te σ H D.rt) : tRet te D σ H := h
theorem rd_retN (h : D.rt .non H) : tRetN D σ H := h
theorem rd_drop {te : TE} (h : te σ H fun _ H1 => D.nx σ H1) : tDrop te D σ H := h
theorem rd_next (h : D.nx σ H) : tNext D σ H := h
theorem rd_asg {te : TE} {g : TG} (h : te σ H fun x H1 => g x σ H1 D.nx) : tAsg te g D σ H := h
theorem rd_gname {i : Nat} {v : V} {R : St → Hp → Prop} (h : R (σ.set i (some v)) H) : gName i v σ H R := h
theorem rd_gnil {R : St → Hp → Prop} (h : R σ H) : gNil [] σ H R := ⟨rfl, h⟩
theorem rd_gcons {t : TG} {u : TGs} {v : V} {r : List V} {R : St → Hp → Prop} (h : t v σ H fun σ' H' => u r σ' H' R) : gCons t u (v :: r) σ H R := ⟨v, r, rfl, h⟩
theorem rd_gsub {to ti : TE} {t : TSet} {v : V} {R : St → Hp → Prop} (h : to σ H fun o H1 => ti σ H1 fun i H2 => t o i v H2 fun H3 => R σ H3) : gSub to ti t v σ H R := h
theorem rd_ifS {c : TT} {t u : TS} (h : c σ H fun b H1 => if b = true then t D σ H1 else u D σ H1) : tIfS c t u D σ H := h
theorem rd_test {t : TE} {R : Bool → Hp → Prop} (h : t σ H fun x H' => ∃ k, x = .bl k ∧ R k H') : tTest t σ H R := h
theorem rd_B {t : TE} {R : Bool → Hp → Prop} (h : t σ H fun x H' => ∃ k, x = .bl k ∧ R k H') : tB t σ H R := h
theorem rd_k {b : Bool} {R : Bool → Prop} (h : R b) : ∃ k, V.bl b = .bl k ∧ R k := ⟨b, rfl, h⟩
theorem rd_and {t u : TT} {R : Bool → Hp → Prop} (h : t σ H fun c H1 => if c = true then u σ H1 R else R false H1) : tAnd t u σ H R := h
theorem rd_or {t u : TT} {R : Bool → Hp → Prop} (h : t σ H fun c H1 => if c = true then R true H1 else u σ H1 R) : tOr t u σ H R := h
theorem rd_not {t : TT} {R : Bool → Hp → Prop} (h : t σ H fun c H1 => R (!c) H1) : tNot t σ H R := h
theorem rd_andV {t u : TE} (h : t σ H fun x H1 => ∃ c, x = .bl c ∧ if c = true then u σ H1 Q else Q (.bl false) H1) : tAndV t u σ H Q := h
theorem rd_orV {t u : TE} (h : t σ H fun x H1 => ∃ c, x = .bl c ∧ if c = true then Q (.bl true) H1 else u σ H1 Q) : tOrV t u σ H Q := h
theorem rd_notV {t : TE} (h : t σ H fun x H1 => ∃ c, x = .bl c ∧ Q (.bl (!c)) H1) : tNotV t σ H Q := h
theorem rd_if {t : TT} {ta tb : TE} (h : t σ H fun c H1 => if c = true then ta σ H1 Q else tb σ H1 Q) : tIf t ta tb σ H Q := h
theorem rd_var {i : Nat} {v : V} (e : σ[i]? = some (some v)) (h : Q v H) : tVar i σ H Q := ⟨v, e, h⟩
theorem cpow_lit {i j : Int} (h1 : 0 ≤ j) (h2 : j ≤ 1000000) (h3 : i.natAbs < 2 ^ 64) : CPow i j := ⟨h1, h2, h3⟩
theorem rd_c {v : V} (h : Q v H) : tC v σ H Q := h
theorem rd_op {r : R2} {ta tb : TE} (h : ta σ H fun x H1 => tb σ H1 fun y H2 => r x y H2 Q) : tOp r ta tb σ H Q := h
theorem rd_un {r : V → Hp → VK → Prop} {ta : TE} (h : ta σ H fun x H1 => r x H1 Q) : tUn r ta σ H Q := h
theorem rd_I0 {g : Int → Int → V} {i j : Int} (h : Q (g i j) H) : rI0 g (.int i) (.int j) H Q := ⟨i, j, rfl, rfl, h⟩
theorem rd_I {C : Int → Int → Prop} {g : Int → Int → V} {i j : Int} (c : C i j) (h : Q (g i j) H) : rI C g (.int i) (.int j) H Q := ⟨i, j, rfl, rfl, c, h⟩
theorem rd_U {g : Int → V} {i : Int} (h : Q (g i) H) : rU g (.int i) H Q := ⟨i, rfl, h⟩
theorem rd_eqI {i j : Int} (h : Q (.bl (decide (V.int i = V.int j))) H) : rEq (.int i) (.int j) H Q := ⟨rfl, h⟩
theorem rd_neI {i j : Int} (h : Q (.bl (!decide (V.int i = V.int j))) H) : rNe (.int i) (.int j) H Q := ⟨rfl, h⟩
theorem rd_cb {r : List V → Hp → VK → Prop} {t : TA} (h : t σ H fun vs H1 => r vs H1 Q) : tCB r t σ H Q := h
theorem rd_call {sp : Sp} {dvs : List V} {E : XK} {t : TA} (h : t σ H fun vs H1 => sp (vs ++ dvs) H1 Q E) : tCall sp dvs E t σ H Q := h
theorem rd_cons {ta : TE} {tr : TA} {R : List V → Hp → Prop} (h : ta σ H fun x H1 => tr σ H1 fun xs H2 => R (x :: xs) H2) : tCons ta tr σ H R := h
theorem rd_nil {R : List V → Hp → Prop} (h : R [] H) : tNil σ H R := h
def rNew (n : Nat) (o : HO) (H : Hp) (Q : VK) : Prop := n ≤ sizeLine ∧ ∀ p, H p = none → Q (.ref p) (upd H p o)
theorem rd_tup {t : TA} (h : t σ H fun xs H1 => rNew xs.length (.tup xs) H1 Q) : tTup t σ H Q := h
theorem rd_lst {t : TA} (h : t σ H fun xs H1 => rNew xs.length (.lst xs) H1 Q) : tLst t σ H Q := h
/-- a new object: what is told of the heap behind it -/
theorem rd_new {n : Nat} {o : HO} (hz : n ≤ sizeLine) (h : ∀ p H2, H p = none → H2 p = some o → Same H H2 → Q (.ref p) H2) : rNew n o H Q :=
  ⟨hz, fun p hp => h p _ hp upd_same (fun b u e => by rw [upd_ne (ne_of_none e hp)]; exact e)⟩
theorem rd_chain {r r' : R2} {ta tb tc : TE} (h : ta σ H fun x H1 => tb σ H1 fun y H2 => r x y H2 fun z H3 => ∃ k, z = .bl k ∧ (if k = true then tc σ H3 fun w' H4 => r' y w' H4 Q else Q (.bl false) H3)) : tChain r r' ta tb tc σ H Q := h
theorem rd_ixL {p : Addr} {xs : List V} {i : Int} {v : V} (h1 : SqL K H p xs) (h2 : atI xs i = some v) (h : Q v H) : rIxL K (.ref p) (.int i) H Q := ⟨p, xs, i, v, rfl, rfl, h1, h2, h⟩
theorem rd_ixT {p : Addr} {xs : List V} {i : Int} {v : V} (h1 : SqT K H p xs) (h2 : atI xs i = some v) (h : Q v H) : rIxT K (.ref p) (.int i) H Q := ⟨p, xs, i, v, rfl, rfl, h1, h2, h⟩
theorem rd_setL {p : Addr} {xs : List V} {k : Int} {j : Nat} {v : V} {R : Hp → Prop} (h1 : H p = some (.lst xs)) (h2 : ixN xs.length k = some j) (h : R (upd H p (.lst (xs.set j v)))) : rSetL (.ref p) (.int k) v H R := ⟨p, xs, k, j, rfl, rfl, h1, h2, h⟩
def rFor (J : It) (g : TG) (tb : TS) (D : Ends) (σ : St) (H : Hp) : Prop := ∃ W : Nat → Nat → St → Hp → Prop, (∃ m, W 0 m σ H) ∧ ∀ i m σ H, W i m σ H →
  (J.stop i H ∧ D.nx σ H) ∨ (J.go i H ∧ ∃ N : St → Hp → Prop, (∀ σ' H', N σ' H' → ∃ m', m' < m ∧ W (i + 1) m' σ' H') ∧ ∀ x H', J.yld i H x H' → g x σ H' fun σ2 H2 => tb { D with nx := N, ct := N, bk := D.nx } σ2 H2)
theorem rd_for {wi : TI} {g : TG} {tb : TS} (h : wi σ H fun J H1 => rFor J g tb D σ H1) : tFor wi g tb D σ H := h
def rRng1 (vs : List V) (H : Hp) (R : It → Hp → Prop) : Prop := ∃ j : Int, vs = [.int j] ∧ -(2 ^ 62) ≤ j ∧ j < 2 ^ 62 ∧ R (Itr 0 j.toNat) H
theorem rd_rng1 {ta : TA} {R : It → Hp → Prop} (h : ta σ H fun vs H1 => rRng1 vs H1 R) : iRng1 ta σ H R := h
theorem rd_rng {j : Int} {R : It → Hp → Prop} (h1 : -(2 ^ 62) ≤ j) (h2 : j < 2 ^ 62) (h : R (Itr 0 j.toNat) H) : rRng1 [.int j] H R := ⟨j, rfl, h1, h2, h⟩
def rRng2 (vs : List V) (H : Hp) (R : It → Hp → Prop) : Prop := ∃ i j : Int, vs = [.int i, .int j] ∧ (-(2 ^ 62) ≤ i ∧ i < 2 ^ 62 ∧ -(2 ^ 62) ≤ j ∧ j < 2 ^ 62) ∧ R (Itr i (j - i).toNat) H
theorem rd_rng2 {ta : TA} {R : It → Hp → Prop} (h : ta σ H fun vs H1 => rRng2 vs H1 R) : iRng2 ta σ H R := h
theorem rd_int1 {b : Bool} (h : Q (.int (if b then 1 else 0)) H) : rInt1 [.bl b] H Q := .inr ⟨b, rfl, h⟩
theorem rd_abs {i : Int} (h : Q (.int (if i < 0 then -i else i)) H) : rAbs [.int i] H Q := ⟨i, rfl, h⟩
theorem rd_max {i j : Int} (h : Q (.int (if j > i then j else i)) H) : rMax [.int i, .int j] H Q := ⟨i, j, rfl, h⟩
theorem rd_min {i j : Int} (h : Q (.int (if j < i then j else i)) H) : rMin [.int i, .int j] H Q := ⟨i, j, rfl, h⟩
theorem rd_lenL {p : Addr} {ys : List V} (h1 : SqL K H p ys) (h : Q (.int ys.length) H) : rLen K [.ref p] H Q := ⟨p, ys, rfl, .inl h1, h⟩
theorem rd_lenT {p : Addr} {ys : List V} (h1 : SqT K H p ys) (h : Q (.int ys.length) H) : rLen K [.ref p] H Q := ⟨p, ys, rfl, .inr h1, h⟩
theorem rd_isi {x : V} {n : String} {t : Value} {b : Bool} (ty : TyOf K H x t) (e : PySem.W.kitOne K t (.type n) = some b) (h : Q (.bl b) H) : rIsi K [x, .ty n] H Q := ⟨x, n, t, b, rfl, ty, e, h⟩
theorem rd_isB {x : V} {b : Bool} (h : Q (.bl (decide (x = .bl b))) H) : rIsB x (.bl b) H Q := ⟨b, rfl, h⟩
theorem rd_notB {x : V} {b : Bool} (h : Q (.bl (!decide (x = .bl b))) H) : rNotB x (.bl b) H Q := ⟨b, rfl, h⟩
theorem rd_isN {x : V} (h : Q (.bl (decide (x = .non))) H) : rIsN x .non H Q := ⟨rfl, h⟩
theorem rd_notN {x : V} (h : Q (.bl (!decide (x = .non))) H) : rNotN x .non H Q := ⟨rfl, h⟩
theorem rd_gtup {n : Nat} {t : TGs} {p : Addr} {xs : List V} {R : St → Hp → Prop} (h1 : SqT K H p xs) (h2 : xs.length = n) (h : t xs σ H R) : gTup K n t (.ref p) σ H R := ⟨p, xs, rfl, h1, h2, h⟩
theorem rd_sl {r : V → Option Int → Option Int → Hp → VK → Prop} {te : TE} {tl th : TO} (h : te σ H fun x H1 => tl σ H1 fun l H2 => th σ H2 fun u H3 => r x l u H3 Q) : tSl r te tl th σ H Q := h
theorem rd_noPart {R : Option Int → Hp → Prop} (h : R none H) : tNoPart σ H R := h
theorem rd_part {t : TE} {R : Option Int → Hp → Prop} (h : t σ H fun x H1 => ∃ i, x = .int i ∧ R (some i) H1) : tPart t σ H R := h
theorem rd_i {i : Int} {R : Int → Prop} (h : R i) : ∃ j, V.int i = .int j ∧ R j := ⟨i, rfl, h⟩
theorem iteD {c A B : Prop} [Decidable c] (h1 : c → A) (h2 : ¬ c → B) : if decide c = true then A else B := by
  by_cases h : c
  · rw [decide_eq_true h]; exact iteT (h1 h)
  · rw [decide_eq_false h]; exact iteF (h2 h)
theorem dec_i {i j : Int} : decide (V.int i = V.int j) = decide (i = j) := by
  by_cases h : i = j
  · subst h; simp
  · rw [decide_eq_false h, decide_eq_false (fun z => h (V.int.inj z))]
/-- a loop over a range -/
theorem rd_forR {lo : Int} {n : Nat} {g : TG} {tb : TS} (Pv : Nat → St → Hp → Prop) (h0 : Pv 0 σ H)
    (hs : ∀ i σ H, i < n → Pv i σ H → g (.int (lo + i)) σ H fun σ2 H2 => tb { D with nx := Pv (i + 1), ct := Pv (i + 1), bk := D.nx } σ2 H2) (hd : ∀ σ H, Pv n σ H → D.nx σ H) :
    rFor (Itr lo n) g tb D σ H := for_range Pv h0 hs hd
/-- a comprehension's turns: l its list, σ0 its names at first -/
def rComp (J : It) (g : TG) (tt : TT) (te : TE) (l : Addr) (σ0 : St) (H : Hp) (Q : VK) : Prop :=
  ∃ W : Nat → Nat → St → Hp → Prop, (∃ m, W 0 m σ0 (upd H l (.lst []))) ∧ ∀ i m σ' H', W i m σ' H' →
    (J.stop i H' ∧ Q (.ref l) H') ∨ (J.go i H' ∧ ∃ N : St → Hp → Prop, (∀ σ2 H2, N σ2 H2 → ∃ m', m' < m ∧ W (i + 1) m' σ2 H2) ∧
      ∀ x H'', J.yld i H' x H'' → g x σ' H'' fun σ2 H2 => tt σ2 H2 fun b H3 =>
        if b = true then te σ2 H3 fun v H4 => ∃ xs, H4 l = some (.lst xs) ∧ xs.length < sizeLine ∧ N σ2 (upd H4 l (.lst (xs ++ [v]))) else N σ2 H3)
theorem rd_comp {own : Nat} {ks : List Nat} {wi : TI} {g : TG} {tt : TT} {te : TE} (h : wi σ H fun J H1 => ∀ l, H1 l = none → rComp J g tt te l (capSt own ks σ) H1 Q) : tComp own ks wi g tt te σ H Q := h
def rItT (K : PySem.W.Frag) (x : V) (H : Hp) (R : It → Hp → Prop) : Prop := ∃ a, x = .ref a ∧ (∃ xs, SqT K H a xs) ∧ R (Itt K a) H
def rItL (K : PySem.W.Frag) (x : V) (H : Hp) (R : It → Hp → Prop) : Prop := ∃ a, x = .ref a ∧ (∃ xs, SqL K H a xs) ∧ R (Itl K a) H
theorem rd_iTup {tl : TE} {R : It → Hp → Prop} (h : tl σ H fun x H1 => rItT K x H1 R) : iTup K tl σ H R := h
theorem rd_iList {tl : TE} {R : It → Hp → Prop} (h : tl σ H fun x H1 => rItL K x H1 R) : iList K tl σ H R := h
theorem rd_itT {p : Addr} {xs : List V} {R : It → Hp → Prop} (h1 : SqT K H p xs) (h : R (Itt K p) H) : rItT K (.ref p) H R := ⟨p, rfl, ⟨xs, h1⟩, h⟩
theorem rd_itL {p : Addr} {xs : List V} {R : It → Hp → Prop} (h1 : SqL K H p xs) (h : R (Itl K p) H) : rItL K (.ref p) H R := ⟨p, rfl, ⟨xs, h1⟩, h⟩
theorem rd_noIf {R : Bool → Hp → Prop} (h : R true H) : tNoIf σ H R := h
end
/-- a tuple, a list that stays -/
theorem Same.seqT {K : PySem.W.Frag} {H H' : Hp} {a : Addr} {xs : List V} (e : Same H H') (h : SqT K H a xs) : SqT K H' a xs := by
  rcases h with (h | ⟨o, h⟩) | h
  · exact .inl (.inl (e _ _ h))
  · exact .inl (.inr ⟨o, e _ _ h⟩)
  · exact .inr h
/-- all but p is as it was -/
def Kp (p : Addr) (H H' : Hp) : Prop := ∀ q o, H q = some o → q ≠ p → H' q = some o
theorem Kp.refl (p : Addr) (H : Hp) : Kp p H H := fun _ _ h _ => h
theorem Kp.trans {p : Addr} {H H1 H2 : Hp} (a : Kp p H H1) (b : Kp p H1 H2) : Kp p H H2 := fun q o h n => b q o (a q o h n) n
theorem Kp.upd {p : Addr} {H : Hp} {o : HO} : Kp p H (upd H p o) := fun q u h n => by rw [upd_ne n]; exact h
theorem Kp.same {p : Addr} {H H' : Hp} (a : Same H H') : Kp p H H' := fun q o h _ => a q o h
theorem Same.new {H : Hp} {l : Addr} {o : HO} (h : H l = none) : Same H (upd H l o) := fun b u e => by rw [upd_ne (ne_of_none e h)]; exact e
/-- two lists of one kind differ where one is new -/
theorem TyOf.same {K : PySem.W.Frag} {H H' : Hp} {x : V} {t : Value} (e : Same H H') (h : TyOf K H x t) : TyOf K H' x t := by
  cases h with
  | non => exact .non
  | bl x => exact .bl x
  | int i => exact .int i
  | str x => exact .str x
  | flt x => exact .flt x
  | lst h => exact .lst (e _ _ h)
  | frz h => exact .frz (e _ _ h)
  | tup h => exact .tup (e _ _ h)
  | dK h => exact .dK (e _ _ h)
  | dT h => exact .dT (e _ _ h)
  | ins h cl ha hn htk hm => exact .ins (e _ _ h) cl ha hn htk hm
/-- the two numbers that a cell is drawn from -/
def Pot (H : Hp) (p : Addr) : Prop := ∃ a b : Int, H p = some (.lst [.int a, .int b]) ∧ 0 ≤ a ∧ 0 ≤ b ∧ b < 2147483648
theorem Pot.same {H H' : Hp} {p : Addr} (h : Pot H p) (s : Same H H') : Pot H' p := by
  obtain ⟨x, y, h, r⟩ := h
  exact ⟨x, y, s _ _ h, r⟩
theorem Pot.neN {H : Hp} {p l : Addr} (h : Pot H p) (hl : H l = none) : l ≠ p := by
  obtain ⟨x, y, h, r⟩ := h
  exact (ne_of_none h hl).symm
theorem Kp.then {H H1 H2 : Hp} {p : Addr} (h : Kp p H H1) (s : Same H1 H2) : Kp p H H2 := h.trans (Kp.same s)
theorem Kp.free {H H1 : Hp} {p l : Addr} (h : Kp p H H1) (hp : Pot H1 p) (hl : H1 l = none) : H l = none := by
  cases e : H l with
  | none => rfl
  | some o =>
    have := h l o e (hp.neN hl)
    rw [hl] at this
    cases this
/-- a pot that was made here: all that was there before is as it was -/
theorem Kp.fresh {H H1 : Hp} {p : Addr} (h : Kp p H H1) (hp : H p = none) : Same H H1 := fun q o e => h q o e (ne_of_none e hp)
end L2

set_option Elab.async false
set_option linter.all false
set_option maxRecDepth 100000
set_option maxHeartbeats 4000000
namespace L2
open PySem PySem.Spec PyProof.Rows
/-! ### the judgements as structures (so that nothing is unfolded while a term is read) -/
structure QE (X : Cx) (e : Expr) (t : TE) : Prop where
  h : PE X e t
structure QT (X : Cx) (e : Expr) (t : TT) : Prop where
  h : PT X e t
structure QW (X : Cx) (e : Expr) (t : TT) : Prop where
  h : PW X e t
structure QA (X : Cx) (es : List Expr) (t : TA) : Prop where
  h : PA X es t
structure QS (X : Cx) (st : Stmt) (t : TS) : Prop where
  h : PS X st t
structure QB (X : Cx) (st : List Stmt) (t : TS) : Prop where
  h : PSs X st t
structure QG (X : Cx) (e : Expr) (t : TG) : Prop where
  h : PG X e t
structure QGs (X : Cx) (es : List Expr) (t : TGs) : Prop where
  h : PGs X es t
structure QI (X : Cx) (tg e : Expr) (t : TI) : Prop where
  h : PI X tg e t
def isSlc : Expr → Bool
  | .Slice _ _ _ _ => true
  | _ => false
theorem plainIx {b : Expr} (h : isSlc b = false) : PlainIx b := by
  intro o i
  cases b <;> first | rfl | cases h
def isPlainT : Expr → Bool
  | .UnaryOp _ _ _ => false
  | .BoolOp _ _ _ => false
  | .IfExp _ _ _ _ => false
  | .Compare _ _ _ _ => false
  | _ => true
theorem plainT {e : Expr} {env : Env} (h : isPlainT e = true) : ∀ whole, isTrue e env whole = (do let v ← whole; standAt e.pos; holding [v] (truthy v)) := by
  intro whole
  cases e <;> first | rfl | cases h
section
variable {X : Cx} {a b c e o : Expr} {es rest : List Expr} {ta tb tc te to ti : TE} {tA tB' : TT} {t tr : TA} {pos p p2 pos' : Pos} {x : Str}
theorem qv (i : Nat) {x : Str} {pos : Pos} (hN : X.N[i]? = some x := by rfl) (hv : Vis X.env.scope x := by first | exact Or.inl rfl | exact Or.inr (Or.inl rfl) | exact Or.inr (Or.inr rfl)) (hd : (x == ("__debug__" : Str)) = false := by decide)
    (hcd : (x == ("__classdict__" : Str)) = false := by decide) : QE X (.Name x pos) (tVar i) := ⟨pe_var hN hv hd hcd⟩
theorem qe_int {i j pos} : QE X (.Constant (.int i) j pos) (tC (.int i)) := ⟨pe_int⟩
theorem qe_bl {b j pos} : QE X (.Constant (.bool b) j pos) (tC (.bl b)) := ⟨pe_bl⟩
theorem qe_non {j pos} : QE X (.Constant .none j pos) (tC .non) := ⟨pe_non⟩
theorem qe_str {x j pos} : QE X (.Constant (.str x) j pos) (tC (.str x)) := ⟨pe_str⟩
theorem qe_glob {v : V} {u : Value} (hg : Gl X x) (hm : X.mg x = some u) (r : RelV v u) (hd : (x == ("__debug__" : Str)) = false := by decide) : QE X (.Name x pos) (tC v) := ⟨pe_glob hg hm r hd⟩
theorem qe_bltn {v : V} {u : Value} (hg : Gl X x) (hm : X.mg x = none) (hv : bootBuiltins x = some u) (r : RelV v u) (hn : x ≠ "__name__" := by decide) (hd : (x == ("__debug__" : Str)) = false := by decide) : QE X (.Name x pos) (tC v) := ⟨pe_bltn hg hm hv r hn hd⟩
theorem qe_op {op : Operator} {r : R2} (ho : OpR X (binaryOp op) r) (ha : QE X a ta) (hb : QE X b tb) : QE X (.BinOp a op b pos) (tOp r ta tb) := ⟨pe_op ho ha.h hb.h⟩
theorem qe_un {op : UnaryOp} {r : V → Hp → VK → Prop} (ho : UnR X (unaryOp op) r) (ha : QE X a ta) : QE X (.UnaryOp op a pos) (tUn r ta) := ⟨pe_un ho ha.h⟩
theorem qe_not (ha : QE X a ta) : QE X (.UnaryOp .Not a pos) (tNotV ta) := ⟨pe_not ha.h⟩
theorem qe_one {op} (h : QE X a ta) : QE X (.BoolOp op [a] pos) ta := ⟨pe_one h.h⟩
theorem qe_and (ha : QE X a ta) (hb : QE X (.BoolOp .And (b :: rest) pos) tb) : QE X (.BoolOp .And (a :: b :: rest) pos) (tAndV ta tb) := ⟨pe_and ha.h hb.h⟩
theorem qe_or (ha : QE X a ta) (hb : QE X (.BoolOp .Or (b :: rest) pos) tb) : QE X (.BoolOp .Or (a :: b :: rest) pos) (tOrV ta tb) := ⟨pe_or ha.h hb.h⟩
theorem qe_ifExp (hc : QT X c tA) (ha : QE X a ta) (hb : QE X b tb) : QE X (.IfExp c a b pos) (tIf tA ta tb) := ⟨pe_ifExp hc.h ha.h hb.h⟩
theorem qe_cmpR {op : CmpOp} {r : R2} (ho : OpR X (compareOp op) r) (ha : QE X a ta) (hb : QE X b tb) (hm : behindInMarks op b = false) : QE X (.Compare a [op] [b] pos) (tOp r ta tb) := ⟨pe_cmpR ho ha.h hb.h hm⟩
theorem qt_cmpR {op : CmpOp} {r : R2} (ho : OpR X (compareOp op) r) (ha : QE X a ta) (hb : QE X b tb) (hm : behindInMarks op b = false) : QT X (.Compare a [op] [b] pos) (tTest (tOp r ta tb)) := ⟨pt_cmpR ho ha.h hb.h hm⟩
theorem qt_chain {op op' : CmpOp} {r r' : R2} (ho : OpR X (compareOp op) r) (ho' : OpR X (compareOp op') r') (ha : QE X a ta) (hb : QE X b tb) (hc : QE X c tc)
    (hm : lastMarks [op, op'] [b, c] = false := by with_unfolding_all rfl) : QT X (.Compare a [op, op'] [b, c] pos) (tTest (tChain r r' ta tb tc)) := ⟨pt_chain ho ho' ha.h hb.h hc.h hm⟩
theorem qt_val (h : QE X e te) (he : isPlainT e = true := by rfl) : QT X e (tB te) := ⟨pt_val h.h (plainT he)⟩
theorem QW.pt (h : QW X e tA) : QT X e tA := ⟨h.h.pt⟩
theorem qw_or1 (ha : QT X a tA) : QW X (.BoolOp .Or [a] pos) tA := ⟨pw_or1 ha.h⟩
theorem qw_or (ha : QT X a tA) (hb : QW X (.BoolOp .Or (b :: rest) pos) tB') : QW X (.BoolOp .Or (a :: b :: rest) pos) (tOr tA tB') := ⟨pw_or ha.h hb.h⟩
theorem qt_not (ha : QT X a tA) : QT X (.UnaryOp .Not a pos) (tNot tA) := ⟨pt_not ha.h⟩
theorem qa_nil : QA X [] tNil := ⟨pa_nil⟩
theorem qa_c (ha : QE X e te) (hr : QA X es t) (hs : isStar e = false := by rfl) : QA X (e :: es) (tCons te t) := ⟨pa_c ha.h hr.h hs⟩
theorem qe_tup {x1} (h : QA X es t) : QE X (.Tuple es x1 pos) (tTup t) := ⟨pe_tup h.h⟩
theorem qe_lst (h : QA X es t) : QE X (.List es pos) (tLst t) := ⟨pe_lst h.h⟩
theorem qe_ix {r : R2} (hr : IxR X r) (ha : QE X a ta) (hb : QE X b tb) (hs : isSlc b = false := by rfl) : QE X (.Subscript a b pos) (tOp r ta tb) := ⟨pe_ix hr ha.h hb.h (plainIx hs)⟩
theorem qe_callS {CX : CXT} {k : Nat} {f : Addr} {fd : FuncData} {ps : List Str} {sp : Sp} {dvs : List V} {ds : List Value} {E : XK} (F : FnOk X.prog X.w X.K X.mg X.base CX k f fd ps sp) (hr : Room k X.A) (hg : Gl X x) (hm : X.mg x = some (.ref f)) (hk : PySem.W.keepIn X.K (.ref f) = true) (hb : Binds X.K fd ps ds) (hd : Vals dvs ds) (hx : Passes CX X E)
    (ha : QA X (e :: es) t) (hns : noStars (e :: es) = true := by rfl) (hdb : (x == ("__debug__" : Str)) = false := by decide) : QE X (.Call (.Name x p) (e :: es) [] pos) (tCall sp dvs E t) := ⟨pe_callS F hr hg hm hk hb hd hx ha.h hns hdb⟩
theorem qe_callBS {id : String} {r : List V → Hp → VK → Prop} (hc : CallR X (.builtin id) r) (hg : Gl X x) (hm : X.mg x = none) (hv : bootBuiltins x = some (.builtin id)) (ha : QA X (e :: es) t) (hns : noStars (e :: es) = true := by rfl) (hn : x ≠ "__name__" := by decide) (hdb : (x == ("__debug__" : Str)) = false := by decide) :
    QE X (.Call (.Name x p) (e :: es) [] pos) (tCB r t) := ⟨pe_callBS hc hg hm hv ha.h hns hn hdb⟩
theorem qe_callTyS {T : String} {r : List V → Hp → VK → Prop} (hc : CallR X (.type T) r) (hg : Gl X x) (hm : X.mg x = none) (hv : bootBuiltins x = some (.type T)) (ha : QA X (e :: es) t) (hns : noStars (e :: es) = true := by rfl) (hn : x ≠ "__name__" := by decide) (hdb : (x == ("__debug__" : Str)) = false := by decide) :
    QE X (.Call (.Name x p) (e :: es) [] pos) (tCB r t) := ⟨pe_callTyS hc hg hm hv ha.h hns hn hdb⟩
theorem qi_range1 {tg : Expr} (hg : Gl X "range") (hm : X.mg "range" = none) (ha : QA X [a] t) (hs : isStar a = false := by rfl) : QI X tg (.Call (.Name "range" p) [a] [] pos) (iRng1 t) := ⟨pi_range1 hg hm ha.h (star_cons hs)⟩
theorem qg_name {i : Nat} (hN : X.N.Nodup) (hi : X.N[i]? = some x) (hx : Loc X.env.scope x) (hf : X.fn x = true ∨ X.env.scope.names.lookup x = some .local := by first | exact .inl rfl | exact .inr rfl | assumption) : QG X (.Name x pos) (gName i) := ⟨pg_name hN hi hx hf⟩
theorem qgs_nil : QGs X [] gNil := ⟨pgs_nil⟩
theorem each_cons {e : Expr} {es : List Expr} {env : Env} (h : isStar e = false) : (assignEach (e :: es) env).map (·.2) = assign e env :: (assignEach es env).map (·.2) := by
  cases e <;> first | rfl | cases h
theorem qgs_cons {g : TG} {u : TGs} (h1 : QG X e g) (h2 : QGs X es u) (hs : isStar e = false := by rfl) : QGs X (e :: es) (gCons g u) := ⟨pgs_cons h1.h h2.h (each_cons hs)⟩
theorem qg_tup {k : Nat} {u : TGs} {n : Nat} (hc : X.calm = true) (h : QGs X es u) (hn : (assignEach es X.env).length = n := by rfl) (hst : (assignEach es X.env).findIdx? (·.1) = none := by rfl) : QG X (.Tuple es k pos) (gTup X.K n u) := ⟨pg_tup hc h.h hn hst⟩
theorem qg_sub {s : TSet} (ho : QE X o to) (hi : QE X e ti) (hs : PSet X s)
    (ha : ∀ v, assign (.Subscript o e pos) X.env v = (do
      let ov ← holding [v] (eval o X.env)
      let iv ← holding [v, ov] (eval e X.env)
      standAt pos
      holding [v, ov, iv] (setItem ov iv v)
      release [v, ov, iv] []) := by intro _; rfl) : QG X (.Subscript o e pos) (gSub to ti s) := ⟨pg_sub ho.h hi.h hs ha⟩
end
section
variable {X : Cx} {st : Stmt} {rest sa sb : List Stmt} {t u : TS} {e c : Expr} {te : TE} {tA : TT} {pos pos' : Pos} {x : Str}
theorem qss_nil : QB X [] tNext := ⟨pss_nil⟩
theorem qss_cons (h1 : QS X st t) (h2 : QB X rest u) : QB X (st :: rest) (tSeq t u) := ⟨pss_cons h1.h h2.h⟩
theorem qss_one (h1 : QS X st t) : QB X [st] t := ⟨pss_one h1.h⟩
theorem qs_ret (he : QE X e te) : QS X (.Return (some e) pos) (tRet te) := ⟨ps_ret he.h⟩
theorem qs_if (hc : QT X c tA) (ha : QB X sa t) (hb : QB X sb u) : QS X (.If c sa sb pos) (tIfS tA t u) := ⟨ps_if hc.h ha.h hb.h⟩
theorem qs_never : QS X st tNever := ⟨ps_never⟩
theorem qs_setS {i : Nat} (hN : X.N.Nodup) (hi : X.N[i]? = some x) (hx : Loc X.env.scope x) (he : QE X e te) (hs : isCompr e = false := by rfl) (hf : X.fn x = true ∨ X.env.scope.names.lookup x = some .local := by first | exact .inl rfl | exact .inr rfl | assumption) :
    QS X (.Assign [.Name x pos'] e pos) (tAsg te (gName i)) := ⟨ps_setS hN hi hx he.h hs hf⟩
theorem qs_asg {tg : Expr} {g : TG} (he : QE X e te) (hg : QG X tg g) (hs : isCompr e = false := by rfl) (hw : swappedStores [tg] e X.env = pure none := by rfl)
    (h1 : (assignEach [tg] X.env).map (·.2) = [assign tg X.env] := by rfl) : QS X (.Assign [tg] e pos) (tAsg te g) := ⟨ps_asg he.h hg.h (swaps_no hs) hw h1⟩
theorem qs_for {tg iter : Expr} {wi : TI} {g : TG} (hp : PassesOwn (model X.prog X.w) X.A X.env X.xe) (hc : X.calm = true) (hi : QI X tg iter wi) (hg : QG X tg g) (hb : QB X sa t)
    (hs : ∀ x, foldedSetIterable iter X.env x = pure x := by intro _; rfl) : QS X (.For tg iter sa [] pos) (tFor wi g t) := ⟨ps_for hp hc hi.h hg.h hb.h hs⟩
end
/-! ### the module's written part by its own letter (so that nothing of a comprehension's frame stands in a reading) -/
section
variable {X : Cx} {e : Expr} {es : List Expr} {te : TE} {pos : Pos} (K : PySem.W.Frag) (h : X.K = K)
include h
theorem kc_len : CallR X (.builtin "len") (rLen K) := h ▸ ca_len
theorem kc_isi : CallR X (.builtin "isinstance") (rIsi K) := h ▸ call_isi
theorem kx_list : IxR X (rIxL K) := h ▸ ix_list
theorem kg_tup {k : Nat} {u : TGs} {n : Nat} (hc : X.calm = true) (hg : QGs X es u) (hn : (assignEach es X.env).length = n := by rfl) (hst : (assignEach es X.env).findIdx? (·.1) = none := by rfl) : QG X (.Tuple es k pos) (gTup K n u) := h ▸ qg_tup hc hg hn hst
end
end L2

set_option Elab.async false
set_option linter.all false
set_option maxRecDepth 100000
set_option maxHeartbeats 4000000
namespace L2
open PySem PySem.Spec PyProof.Rows
/-! ### ranges whose ends are of any size -/
section
variable {X : Cx} {tg : Expr}
def rRngB (vs : List V) (H : Hp) (R : It → Hp → Prop) : Prop := ∃ i j : Int, vs = [.int i, .int j] ∧ R (Itr i (j - i).toNat) H
def iRngB (ta : TA) : TI := fun σ H R => ta σ H fun vs H1 => rRngB vs H1 R
end
section
variable {σ : St} {H : Hp}
theorem rd_rngB {ta : TA} {R : It → Hp → Prop} (h : ta σ H fun vs H1 => rRngB vs H1 R) : iRngB ta σ H R := h
theorem rd_rngBR {i j : Int} {R : It → Hp → Prop} (h : R (Itr i (j - i).toNat) H) : rRngB [.int i, .int j] H R := ⟨i, j, rfl, h⟩
end
/-! ### == and != of any data of ints, texts, tuples, lists -/
mutual
inductive Dat (K : PySem.W.Frag) (H : Hp) : V → PyData → Prop
  | non : Dat K H .non .none
  | bl (b : Bool) : Dat K H (.bl b) (.bool b)
  | int (i : Int) : Dat K H (.int i) (.int i)
  | str (x : Str) : Dat K H (.str x) (.str x)
  | tup {a : Addr} {xs : List V} {ds : List PyData} (h : SqT K H a xs) (r : Dats K H xs ds) : Dat K H (.ref a) (.tuple ds)
  | lst {a : Addr} {xs : List V} {ds : List PyData} (h : SqL K H a xs) (r : Dats K H xs ds) : Dat K H (.ref a) (.list ds)
inductive Dats (K : PySem.W.Frag) (H : Hp) : List V → List PyData → Prop
  | nil : Dats K H [] []
  | cons {x : V} {d : PyData} {xs : List V} {ds : List PyData} (h : Dat K H x d) (r : Dats K H xs ds) : Dats K H (x :: xs) (d :: ds)
end
section
variable {X : Cx} {pins : List (Addr × Obj)} {σ : St} {H : Hp} {s : Shared}
mutual
theorem Dat.reads (I : Inv X pins σ H s) : ∀ {x : V} {d : PyData} {u : Value}, Dat X.K H x d → RelV x u → ∃ as, Reads s.heap u d as
  | _, _, u, .non, r => by cases (show u = Value.none from r); exact ⟨_, .none⟩
  | _, _, u, .bl b, r => by cases (show u = Value.bool b from r); exact ⟨_, .bool b⟩
  | _, _, u, .int i, r => by obtain ⟨t, rfl⟩ := (show ∃ t, u = Value.int i t from r); exact ⟨_, .int i t⟩
  | _, _, u, .str x, r => by obtain ⟨t, rfl⟩ := (show ∃ t, u = Value.str x t from r); exact ⟨_, .str x t⟩
  | _, _, u, @Dat.tup _ _ a xs ds h rs, r => by
    cases (show u = Value.ref a from r)
    obtain ⟨its, rv, ⟨o, ho, hc, n, hd⟩, _⟩ := I.tuple h
    obtain ⟨as, ra⟩ := Dats.reads I rs rv
    exact ⟨_, .tuple ho hc hd (by simpa using ra)⟩
  | _, _, u, @Dat.lst _ _ a xs ds h rs, r => by
    cases (show u = Value.ref a from r)
    obtain ⟨its, rv, ⟨o, n, ho, hc, _, hd⟩, _⟩ := I.list h
    obtain ⟨as, ra⟩ := Dats.reads I rs rv
    exact ⟨_, .list ho hc hd (by simpa using ra)⟩
theorem Dats.reads (I : Inv X pins σ H s) : ∀ {xs : List V} {ds : List PyData} {us : List Value}, Dats X.K H xs ds → Vals xs us → ∃ as, ReadsAll s.heap us ds as
  | _, _, _, .nil, .nil => ⟨_, .nil⟩
  | _, _, _, .cons h r, .cons r1 r2 => by
    obtain ⟨as, ra⟩ := Dat.reads I h r1
    obtain ⟨bs, rb⟩ := Dats.reads I r r2
    exact ⟨_, .cons ra rb⟩
end
end
section
variable {X : Cx}
def rNeD (K : PySem.W.Frag) : R2 := fun x y H Q => ∃ d e, Dat K H x d ∧ Dat K H y e ∧ d.canLay0 = true ∧ e.canLay0 = true ∧ d.depth ≤ 60 ∧ Q (.bl (!PyData.eqv d e)) H
theorem ko_neD (K : PySem.W.Frag) (hK : X.K = K) (hu : X.A.units + 64 < cLine) : OpR X (compareOp .NotEq) (rNeD K) := by
  subst hK
  intro pins s σ H x y v u Q I rx ry h
  obtain ⟨d, e, h1, h2, c1, c2, hd, q⟩ := h
  obtain ⟨as, ra⟩ := h1.reads I rx
  obtain ⟨bs, rb⟩ := h2.reads I ry
  exact SeqAt.compareNe_reads ra rb c1 c2 (by have := Nat.min_le_left d.depth e.depth; omega) ⟨.bl _, H, I, rfl, q⟩
theorem rd_neD {K : PySem.W.Frag} {H : Hp} {Q : VK} {x y : V} {d e : PyData} (h1 : Dat K H x d) (h2 : Dat K H y e) (c1 : d.canLay0 = true) (c2 : e.canLay0 = true) (hd : d.depth ≤ 60) (h : Q (.bl (!PyData.eqv d e)) H) : rNeD K x y H Q := ⟨d, e, h1, h2, c1, c2, hd, h⟩
theorem rd_bm {K : PySem.W.Frag} {T : String} {r : V → List V → Hp → VK → Prop} {to : TE} {t : TA} {σ : St} {H : Hp} {Q : VK} (h : to σ H fun x H1 => tyV K T x H1 ∧ t σ H1 fun xs H2 => r x xs H2 Q) : tBM K T r to t σ H Q := h
end
/-! ### a tuple of pairs of ints -/
def PairsAt (H : Hp) (vs : List V) (l : List (Int × Int)) : Prop := Paired (fun v (p : Int × Int) => ∃ a, v = V.ref a ∧ H a = some (.tup [.int p.1, .int p.2])) vs l
theorem PairsAt.same {H H' : Hp} {vs : List V} {l : List (Int × Int)} (h : PairsAt H vs l) (s : Same H H') : PairsAt H' vs l := Paired.mapP h fun _ _ ⟨a, e, z⟩ => ⟨a, e, s _ _ z⟩
end L2

set_option Elab.async false
set_option linter.all false
set_option maxRecDepth 100000
set_option maxHeartbeats 4000000

namespace L2
open PySem PySem.Spec PyProof.Rows

/-! ### lists of pairs as tables -/
section
variable {κ : Type} [DecidableEq κ]
def valV (kvs : List (κ × V)) (k : κ) : Option V := (kvs.find? fun kv => decide (kv.1 = k)).map (·.2)
/-- in its place, or at the end -/
def putK (kvs : List (κ × V)) (k : κ) (v : V) : List (κ × V) :=
  if (kvs.any fun kv => decide (kv.1 = k)) = true then kvs.map (fun kv => if kv.1 = k then (kv.1, v) else kv) else kvs ++ [(k, v)]
theorem RelO.getD {o : Option V} {u : Option Value} {d : V} {d' : Value} (r : RelO o u) (rd : RelV d d') : RelV (o.getD d) (u.getD d') := by
  cases o with
  | none => cases u with
    | none => exact rd
    | some _ => exact (show False from r).elim
  | some _ => cases u with
    | none => exact (show False from r).elim
    | some _ => exact r

theorem KV.any {kvs : List (κ × V)} {vs : List (κ × Value)} (r : KV kvs vs) (k : κ) : (kvs.any fun kv => decide (kv.1 = k)) = vs.any fun kv => decide (kv.1 = k) := by
  unfold KV at r
  induction r with
  | nil => rfl
  | cons h t ih => rw [List.any_cons, List.any_cons, ih, h.1]
theorem KV.keys {kvs : List (κ × V)} {vs : List (κ × Value)} (r : KV kvs vs) : kvs.map (·.1) = vs.map (·.1) := by
  unfold KV at r
  induction r with
  | nil => rfl
  | cons h t ih => rw [List.map_cons, List.map_cons, ih, h.1]
theorem KV.length {kvs : List (κ × V)} {vs : List (κ × Value)} (r : KV kvs vs) : kvs.length = vs.length := Paired.length r
end


/-! ### a tracked dict, its keys ints and texts or tuples of these -/
section
variable {P : Program} {w : World} {H : Hp} {h : Heap} {a : Addr}
end

/-- what the dict at a holds at the key y -/
def DGet (H : Hp) (a : Addr) (y : V) (r : Option V) : Prop :=
  (∃ kvs k, Rd H a (.dK kvs) ∧ y = kV k ∧ r = valV kvs k) ∨ ∃ kvs k b, Rd H a (.dT kvs) ∧ y = .ref b ∧ H b = some (.tup (k.map kV)) ∧ r = valV kvs k
/-- the heap behind a[y] = v -/
def DPut (H : Hp) (a : Addr) (y v : V) (H' : Hp) : Prop :=
  (∃ kvs k, H a = some (.dK kvs) ∧ y = kV k ∧ kvs.length < sizeLine ∧ H' = upd H a (.dK (putK kvs k v))) ∨
  ∃ kvs k b, H a = some (.dT kvs) ∧ y = .ref b ∧ H b = some (.tup (k.map kV)) ∧ kvs.length < sizeLine ∧ H' = upd H a (.dT (putK kvs k v))
theorem DGet.k {H : Hp} {a : Addr} {kvs : List (Key × V)} {k : Key} (e : H a = some (.dK kvs)) : DGet H a (kV k) (valV kvs k) := .inl ⟨kvs, k, .inl e, rfl, rfl⟩
theorem DGet.t {H : Hp} {a b : Addr} {kvs : List (List Key × V)} {k : List Key} (e : H a = some (.dT kvs)) (eb : H b = some (.tup (k.map kV))) : DGet H a (.ref b) (valV kvs k) := .inr ⟨kvs, k, b, .inl e, rfl, eb, rfl⟩
theorem DPut.k {H : Hp} {a : Addr} {kvs : List (Key × V)} {k : Key} {v : V} (e : H a = some (.dK kvs)) (hl : kvs.length < sizeLine) : DPut H a (kV k) v (upd H a (.dK (putK kvs k v))) := .inl ⟨kvs, k, e, rfl, hl, rfl⟩
theorem DPut.t {H : Hp} {a b : Addr} {kvs : List (List Key × V)} {k : List Key} {v : V} (e : H a = some (.dT kvs)) (eb : H b = some (.tup (k.map kV))) (hl : kvs.length < sizeLine) :
    DPut H a (.ref b) v (upd H a (.dT (putK kvs k v))) := .inr ⟨kvs, k, b, e, rfl, eb, hl, rfl⟩


section
variable {X : Cx} {pins : List (Addr × Obj)} {σ : St} {H : Hp} {s : Shared} {a : Addr} {y v : V} {u r : Value} {o : Option V} {A : Around} {E : Value → Shared → Prop}

theorem Inv.big (I : Inv X pins σ H s) : sysModules < s.heap.objs.size := by
  have h : mainGlobals < s.heap.objs.size := (I.mod.glob.keeps I.bk).lt
  exact Nat.lt_trans (by decide) h

end

section
variable {X : Cx} {pins : List (Addr × Obj)} {σ : St} {H : Hp} {s : Shared} {a : Addr} {kvs : List (Key × V)} {k : Key} {u : Value} {A : Around} {E : Value → Shared → Prop}
end


/-! ### readings and rules -/
/-- d[y] -/
def tDGet (td ty : TE) : TE := fun σ H Q => td σ H fun x H1 => ty σ H1 fun y H2 => ∃ a v, x = .ref a ∧ DGet H2 a y (some v) ∧ Q v H2
/-- d[y] = v -/
def sDPut (td ty tv : TE) : TS := fun D σ H => tv σ H fun v H1 => td σ H1 fun x H2 => ty σ H2 fun y H3 => ∃ a H4, x = .ref a ∧ DPut H3 a y v H4 ∧ D.nx σ H4
section
variable {X : Cx} {o i e value : Expr} {pos pos' tpos : Pos} {td ty tv : TE}
end


/-! ### displays -/
/-- {}, to be a dict of the kind that is wanted -/
def tDNewK : TE := fun _ H Q => ∀ p, H p = none → Q (.ref p) (upd H p (.dK []))
def tDNewT : TE := fun _ H Q => ∀ p, H p = none → Q (.ref p) (upd H p (.dT []))
section
variable {X : Cx} {pos : Pos}
end

/-- the pairs of a display, from the left -/
def tPairs : List (TE × TE) → St → Hp → (List (V × V) → Hp → Prop) → Prop
  | [], _, H, Q => Q [] H
  | (tk, tv) :: r, σ, H, Q => tk σ H fun x H1 => tv σ H1 fun y H2 => tPairs r σ H2 fun ps H3 => Q ((x, y) :: ps) H3
def mergeK (kvs more : List (Key × V)) : List (Key × V) := more.foldl (fun acc kv => putK acc kv.1 kv.2) kvs
/-- {k: v, ..} with keys ints and texts; the new dict stands empty while the pairs are made -/
def tDisp (trs : List (TE × TE)) : TE := fun σ H Q => ∀ p, H p = none → tPairs trs σ (upd H p (.dK [])) fun ps H2 => H2 p = some (.dK []) ∧ ∃ kvs : List (Key × V), ps = kvs.map (fun kv => (kV kv.1, kv.2)) ∧ kvs.length ≤ 15 ∧ Q (.ref p) (upd H2 p (.dK (mergeK [] kvs)))
/-! ### methods -/
/-- a is a dict, whatever its keys -/
def IsD (H : Hp) (a : Addr) : Prop := (∃ kvs, Rd H a (.dK kvs)) ∨ ∃ kvs, Rd H a (.dT kvs)
section
variable {X : Cx} {pins : List (Addr × Obj)} {σ : St} {H : Hp} {s : Shared} {a : Addr} {y d : V} {u r : Value} {o : Option V} {A : Around} {E : Value → Shared → Prop}
end

def tDGet1 (td ty : TE) : TE := fun σ H Q => td σ H fun x H1 => ∃ a, x = .ref a ∧ IsD H1 a ∧ ty σ H1 fun y H2 => ∃ o, DGet H2 a y o ∧ Q (o.getD .non) H2
section
variable {X : Cx} {o e f : Expr} {apos cpos : Pos} {td ty tx : TE}
end

/-! ### dict(d): a copy -/
section
variable {X : Cx} {pins : List (Addr × Obj)} {σ : St} {H : Hp} {s : Shared} {a : Addr} {kvs : List (Key × V)} {A : Around} {E : Value → Shared → Prop}
end


section
variable {X : Cx} {pins : List (Addr × Obj)} {σ : St} {H : Hp} {s : Shared} {a : Addr} {y : V} {u : Value} {A : Around} {E : Value → Shared → Prop}
end
end L2

set_option Elab.async false
set_option linter.all false
set_option maxRecDepth 100000
set_option maxHeartbeats 4000000
namespace L2
open PySem PySem.Spec PyProof.Rows
/-! ### dict(a list of pairs) -/
section
variable {prog : Program} {w : World} {A : Around} {R : Result → Shared → Prop} {I : Addr} {fp wr : List Addr} {n : Nat} {P : Nat → Value → Prop} {St : Nat → Heap → Prop} {κ : Type} [DecidableEq κ] {knd : KeyKind prog w κ}
end
end L2

set_option Elab.async false
set_option linter.all false
set_option maxRecDepth 100000
set_option maxHeartbeats 4000000
namespace L2
open PySem PySem.Spec PyProof.Rows
section
variable {prog : Program} {w : World} {A : Around} {E : Value → Shared → Prop} {s : Shared} {κ : Type} [DecidableEq κ] {knd : KeyKind prog w κ}
end
theorem IntsAre.vals : ∀ {vs : List Value} {ns : List Int}, IntsAre vs ns → Vals (ns.map V.int) vs
  | _, _, .nil => .nil
  | _, _, .cons _ t h => .cons ⟨t, rfl⟩ (IntsAre.vals h)
end L2

set_option Elab.async false
set_option linter.all false
set_option maxRecDepth 100000
set_option maxHeartbeats 4000000
namespace L2
open PySem PySem.Spec PyProof.Rows
/-! ### unpacking a list -/
section
variable {prog : Program} {w : World} {A : Around} {E : Value → Shared → Prop} {I : Addr} {fp wr : List Addr} {n : Nat} {P : Nat → Value → Prop} {St : Nat → Heap → Prop}
end
section
variable {X : Cx} {pos : Pos}
end
/-! ### dicts, by their reading -/
section
variable {X : Cx} {o i value : Expr} {pos pos' : Pos} {td ty tv : TE}
end
section
variable {σ : St} {H : Hp} {Q : VK} {D : Ends}
def rDGet (x y : V) (H : Hp) (Q : VK) : Prop := ∃ a v, x = .ref a ∧ DGet H a y (some v) ∧ Q v H
theorem rd_dget0 {td ty : TE} (h : td σ H fun x H1 => ty σ H1 fun y H2 => rDGet x y H2 Q) : tDGet td ty σ H Q := h
def rDPut (v x y : V) (H : Hp) (R : Hp → Prop) : Prop := ∃ a H4, x = .ref a ∧ DPut H a y v H4 ∧ R H4
theorem rd_dput0 {td ty tv : TE} (h : tv σ H fun v H1 => td σ H1 fun x H2 => ty σ H2 fun y H3 => rDPut v x y H3 (D.nx σ)) : sDPut td ty tv D σ H := h
def rDNew (H : Hp) (Q : VK) : Prop := ∀ p, H p = none → Q (.ref p) (upd H p (.dK []))
theorem rd_dnew0 (h : rDNew H Q) : tDNewK σ H Q := h
end
/-! ### dicts of ints -/
def dkE (p : Int × Int) : Key × V := (.inl p.1, .int p.2)
def dkOf (m : List (Int × Int)) : List (Key × V) := m.map dkE
theorem PairsAt.length {H : Hp} {vs : List V} {l : List (Int × Int)} (h : PairsAt H vs l) : vs.length = l.length := Paired.length h
theorem PairsAt.at {H : Hp} : ∀ {vs : List V} {l : List (Int × Int)}, PairsAt H vs l → ∀ {i : Nat} {v : V}, vs[i]? = some v → ∃ a p, v = .ref a ∧ l[i]? = some p ∧ H a = some (.tup [.int p.1, .int p.2])
  | _, _, .nil, i, v, e => by simp at e
  | _, _, @Paired.cons _ _ _ _ p _ _ ⟨a, e1, z⟩ t, 0, v, e => by
    simp at e; subst e
    exact ⟨a, p, e1, rfl, z⟩
  | _, _, .cons _ t, i + 1, v, e => by
    obtain ⟨a, p, h1, h2, h3⟩ := PairsAt.at t (by simpa using e)
    exact ⟨a, p, h1, by simpa using h2, h3⟩
theorem PairsAt.kp {p : Addr} {H H' : Hp} (k : Kp p H H') {n : Nat} {xs : List V} (hp : H p = some (.lst xs)) : ∀ {vs : List V} {l : List (Int × Int)}, PairsAt H vs l → PairsAt H' vs l
  | _, _, .nil => .nil
  | _, _, .cons ⟨a, e, z⟩ t => .cons ⟨a, e, k _ _ z (fun c => by subst c; rw [hp] at z; cases z)⟩ (PairsAt.kp k (n := n) hp t)
/-! ### curves -/
end L2

set_option Elab.async false
set_option linter.all false
set_option maxRecDepth 100000
set_option maxHeartbeats 4000000
namespace L2
open PySem PySem.Spec PyProof.Rows
/-! ### t + u of any two tuples; what is told of the sum -/
/-! ### t[lo:hi], the whole too -/
/-! ### name op= e -/
section
variable {X : Cx} {pos pos' : Pos} {e : Expr} {te : TE}
theorem rd_aug {i : Nat} {r : R2} {D : Ends} {σ : St} {H : Hp} {x : V} (e1 : σ[i]? = some (some x)) (h : te σ H fun y H1 => r x y H1 fun z H2 => D.nx (σ.set i (some z)) H2) : tAug i te r D σ H := ⟨x, e1, h⟩
end
/-! ### while, by an invariant -/
end L2

set_option Elab.async false
set_option linter.all false
set_option maxRecDepth 100000
set_option maxHeartbeats 4000000
namespace L2
open PySem PySem.Spec PyProof.Rows
section
variable {K : PySem.W.Frag} {H : Hp} {Q : VK} {a b : Addr} {vs ws : List V} {l m : List (Int × Int)}
end
theorem PairsAt.kpL {p : Addr} {H H' : Hp} (k : Kp p H H') {xs : List V} (hp : H p = some (.lst xs)) {vs : List V} {l : List (Int × Int)} (h : PairsAt H vs l) : PairsAt H' vs l := PairsAt.kp k (n := 0) hp h
theorem PairsAt.take {H : Hp} : ∀ {vs : List V} {l : List (Int × Int)} (n : Nat), PairsAt H vs l → PairsAt H (vs.take n) (l.take n)
  | _, _, 0, _ => .nil
  | _, _, _ + 1, .nil => .nil
  | _, _, n + 1, .cons h t => .cons h (PairsAt.take n t)
theorem Pot.ne_tup {H : Hp} {p l : Addr} {xs : List V} (h : Pot H p) (hl : H l = some (.tup xs)) : l ≠ p := by
  obtain ⟨x, y, h, r⟩ := h
  intro e; subst e; rw [h] at hl; cases hl
theorem PairsAt.pot {p : Addr} {H H' : Hp} (k : Kp p H H') (hp : Pot H p) {vs : List V} {l : List (Int × Int)} (h : PairsAt H vs l) : PairsAt H' vs l := by
  obtain ⟨x, y, e, _⟩ := hp
  exact PairsAt.kpL k e h
/-- a tuple that stays while p changes -/
theorem SqT.kp {K : PySem.W.Frag} {p : Addr} {H H' : Hp} {a : Addr} {xs : List V} (k : Kp p H H') (hp : Pot H p) (h : SqT K H a xs) : SqT K H' a xs := by
  obtain ⟨x, y, hpp, _⟩ := hp
  rcases h with (h | ⟨o, h⟩) | h
  · exact .inl (.inl (k _ _ h (fun e => by subst e; rw [hpp] at h; cases h)))
  · exact .inl (.inr ⟨o, k _ _ h (fun e => by subst e; rw [hpp] at h; cases h)⟩)
  · exact .inr h
end L2

set_option Elab.async false
set_option linter.all false
set_option maxRecDepth 100000
set_option maxHeartbeats 4000000
namespace L2
open PySem PySem.Spec PyProof.Rows
section
variable {K : PySem.W.Frag} {H H' : Hp} {Q : VK} {a b : Addr} {xs ys : List V} {cv l m : List (Int × Int)}
end
end L2

set_option Elab.async false
set_option linter.all false
set_option maxRecDepth 100000
set_option maxHeartbeats 4000000
namespace L2
open PySem PySem.Spec PyProof.Rows
/-! ### name = [a comprehension], where the store comes ahead of the letting go -/
section
variable {X : Cx}
end
end L2

set_option Elab.async false
set_option linter.all false
set_option maxRecDepth 100000
set_option maxHeartbeats 4000000
namespace L2
open PySem PySem.Spec PyProof.Rows
section
variable {K : PySem.W.Frag} {H H' : Hp} {a p l : Addr} {cv : List (Int × Int)} {xs : List V}
theorem Pot.kp (h : Pot H p) (k : Kp l H H') (n : p ≠ l) : Pot H' p := by
  obtain ⟨x, y, h, r⟩ := h
  exact ⟨x, y, k _ _ h n, r⟩
end
end L2

set_option Elab.async false
set_option linter.all false
set_option maxRecDepth 100000
set_option maxHeartbeats 4000000
namespace L2
open PySem PySem.Spec PyProof.Rows
/-! ### xs[::-1] -/
section
variable {X : Cx} {e st : Expr} {te : TE} {pos p2 : Pos}
end
section
variable {K : PySem.W.Frag} {H : Hp} {Q : VK} {a : Addr} {xs : List V} {l : List (Int × Int)}
end
/-! ### range(i, j, -1) -/
def Itd (lo : Int) (n : Nat) : It := ⟨fun i _ => i < n, fun i H x H' => H' = H ∧ x = .int (lo + i * (-1)), fun i _ => n ≤ i⟩
section
variable {X : Cx} {tg : Expr}
def rRngD (vs : List V) (H : Hp) (R : It → Hp → Prop) : Prop := ∃ i j : Int, vs = [.int i, .int j, .int (-1)] ∧ (-(2 ^ 62) ≤ i ∧ i < 2 ^ 62 ∧ -(2 ^ 62) ≤ j ∧ j < 2 ^ 62) ∧ R (Itd i (i - j).toNat) H
def iRngD (ta : TA) : TI := fun σ H R => ta σ H fun vs H1 => rRngD vs H1 R
end
section
variable {σ : St} {H : Hp}
theorem rd_rngD {ta : TA} {R : It → Hp → Prop} (h : ta σ H fun vs H1 => rRngD vs H1 R) : iRngD ta σ H R := h
end
/-! ### texts: join, +, ==, index -/
section
variable {X : Cx}
theorem rd_bm0 {K : PySem.W.Frag} {T : String} {r : V → List V → Hp → VK → Prop} {to : TE} {σ : St} {H : Hp} {Q : VK} (h : to σ H fun x H1 => tyV K T x H1 ∧ r x [] H1 Q) : tBM0 K T r to σ H Q := h
end
end L2

set_option Elab.async false
set_option linter.all false
set_option maxRecDepth 100000
set_option maxHeartbeats 4000000
namespace L2
open PySem PySem.Spec PyProof.Rows
/-! ### a walk over a list or a tuple, whichever it is -/
def rItS (K : PySem.W.Frag) (x : V) (H : Hp) (R : It → Hp → Prop) : Prop := (∃ a, x = .ref a ∧ (∃ xs, SqL K H a xs) ∧ R (Itl K a) H) ∨ (∃ a, x = .ref a ∧ (∃ xs, SqT K H a xs) ∧ R (Itt K a) H)
def iSeq (K : PySem.W.Frag) (tl : TE) : TI := fun σ H R => tl σ H fun x H1 => rItS K x H1 R
section
variable {K : PySem.W.Frag} {σ : St} {H : Hp} {D : Ends}
theorem rd_iSeq {tl : TE} {R : It → Hp → Prop} (h : tl σ H fun x H1 => rItS K x H1 R) : iSeq K tl σ H R := h
end
end L2

set_option Elab.async false
set_option linter.all false
set_option maxRecDepth 100000
set_option maxHeartbeats 4000000
namespace L2
open PySem PySem.Spec PyProof.Rows
section
variable {X : Cx} {pos : Pos}
def rPar (i j : Nat) (vs : List V) (D : Ends) (σ : St) (H : Hp) : Prop := ∃ v w, vs = [v, w] ∧ D.nx ((σ.set i (some v)).set j (some w)) H
theorem rd_par0 {i j : Nat} {ta : TA} {D : Ends} {σ : St} {H : Hp} (h : ta σ H fun vs H1 => rPar i j vs D σ H1) : tPar i j ta D σ H := h
theorem rd_par {i j : Nat} {v w : V} {D : Ends} {σ : St} {H : Hp} (h : D.nx ((σ.set i (some v)).set j (some w)) H) : rPar i j [v, w] D σ H := ⟨v, w, rfl, h⟩
end
end L2

set_option Elab.async false
set_option linter.all false
set_option maxRecDepth 100000
set_option maxHeartbeats 4000000
namespace L2
open PySem PySem.Spec PyProof.Rows PySem.W
/-! ### a sort asks of its items alone -/
section
variable {n : Nat}
end
/-! ### pairs of ints, by order -/
def ltP (p q : Int × Int) : Bool := decide (p.1 < q.1) || (decide (p.1 = q.1) && decide (p.2 < q.2))
section
variable {prog : Program} {w : World} {A : Around} {E : Value → Shared → Prop} {s : Shared}
end
end L2

set_option Elab.async false
set_option linter.all false
set_option maxRecDepth 100000
set_option maxHeartbeats 4000000
namespace L2
open PySem PySem.Spec PyProof.Rows PySem.W
/-! ### several new objects at once -/
section
variable {X : Cx} {pins : List (Addr × Obj)} {σ : St} {H H' : Hp} {s : Shared} {h' : Heap}
theorem Inv.old (I : Inv X pins σ H s) {b : Addr} {o : HO} (e : H b = some o) : b < s.heap.objs.size := by
  by_cases h : b < s.heap.objs.size
  · exact h
  · rw [I.hok.fresh (Nat.le_of_not_lt h)] at e
    cases e
theorem Inv.many {t' : Nat} (I : Inv X pins σ H s) (k : ∀ b u, s.heap.get? b = some u → h'.get? b = some u) (hs : ∀ b, b < s.heap.objs.size → H' b = H b) (new : ∀ b o, s.heap.objs.size ≤ b → H' b = some o → ObjOk X.prog X.w H' h' b o) :
    Inv X pins σ H' { s with heap := h', toks := t' } := by
  have old : ∀ b o, H b = some o → H' b = some o := fun b o e => (hs b (I.old e)).trans e
  refine I.un ⟨fun b u q _ _ _ => k b u q, fun b u q _ _ _ => ⟨u.slots, k b u q⟩, fun b u q n _ => (hs b (Heap.lt_size q)).trans n, fun b u q _ => ⟨u, k b u q⟩, fun b xs q => old _ _ q, fun b u xs q => old _ _ q, fun b ps q => ⟨#[], by rw [old _ _ q]; simp⟩⟩ fun b u e => ?_
  by_cases hb : b < s.heap.objs.size
  · rw [hs b hb] at e
    exact (I.hok b u e).stay (fun c v _ q => k c v q) (fun c q => old _ _ q) fun c xs q => old _ _ q
  · exact new b u (Nat.le_of_not_lt hb) e
end
/-! ### sorted(d.items()) -/
section
variable {X : Cx} {o : Expr} {to : TE} {apos cpos : Pos}
def tItemsOf (to : TE) : (σ : St) → Hp → (Addr → List (Int × Int) → Hp → Prop) → Prop := fun σ H R => to σ H fun x H1 => ∃ a m, x = .ref a ∧ H1 a = some (.dK (dkOf m)) ∧ R a m H1
end
def rSortedIt : Addr → List (Int × Int) → Hp → VK → Prop := fun a m H Q => m.Nodup ∧ m.length < 64 ∧
  ∀ (l : Addr) (vs : List V) (cv : List (Int × Int)) (H' : Hp), H l = none → H' l = some (.lst vs) → PairsAt H' vs cv → cv.Perm m → cv.Pairwise (fun p q => ltP p q = true) → Same H H' → Q (.ref l) H'
section
variable {X : Cx} {o : Expr} {to : TE} {apos cpos pos p : Pos}
def tSortedIt (to : TE) : TE := fun σ H Q => tItemsOf to σ H fun a m H1 => rSortedIt a m H1 Q
end
section
variable {σ : St} {H : Hp} {Q : VK} {to : TE}
def rItems (x : V) (H : Hp) (Q : VK) : Prop := ∃ a m, x = .ref a ∧ H a = some (.dK (dkOf m)) ∧ rSortedIt a m H Q
theorem rd_sortedIt0 (h : to σ H fun x H1 => rItems x H1 Q) : tSortedIt to σ H Q := h
end
end L2

set_option Elab.async false
set_option linter.all false
set_option maxRecDepth 100000
set_option maxHeartbeats 4000000
namespace L2
open PySem PySem.Spec PyProof.Rows PySem.W
/-! ### zip of two lists or tuples -/
section
variable {prog : Program} {w : World} {A : Around} {E : Value → Shared → Prop} {s : Shared}
end
end L2

set_option Elab.async false
set_option linter.all false
set_option maxRecDepth 100000
set_option maxHeartbeats 4000000
namespace L2
open PySem PySem.Spec PyProof.Rows PySem.W
section
variable {X : Cx} {pins : List (Addr × Obj)} {σ : St} {H H' : Hp} {s : Shared} {h' : Heap}
end
/-- a list (true) or a tuple, also one of the text's own -/
def SqB (b : Bool) (K : PySem.W.Frag) (H : Hp) (a : Addr) (xs : List V) : Prop := if b then SqL K H a xs else SqT K H a xs
theorem SqB.same {b : Bool} {K : PySem.W.Frag} {H H' : Hp} {a : Addr} {xs : List V} (h : SqB b K H a xs) (s : Same H H') : SqB b K H' a xs := by
  cases b with
  | true => exact s.seq h
  | false => exact s.seqT h
def Itz (K : PySem.W.Frag) (b1 : Bool) (p1 : Addr) (b2 : Bool) (p2 : Addr) : It :=
  ⟨fun i H => ∃ xs ys, SqB b1 K H p1 xs ∧ SqB b2 K H p2 ys ∧ i < xs.length ∧ i < ys.length,
   fun i H x H' => ∃ T a b, H T = none ∧ x = .ref T ∧ H' = upd H T (.tup [a, b]) ∧ (∀ xs, SqB b1 K H p1 xs → xs[i]? = some a) ∧ ∀ ys, SqB b2 K H p2 ys → ys[i]? = some b,
   fun i H => ∃ xs ys, SqB b1 K H p1 xs ∧ SqB b2 K H p2 ys ∧ (xs.length ≤ i ∨ ys.length ≤ i)⟩
/-! ### zip(a, b), made -/
section
variable {X : Cx} {tg : Expr}
def rZip (K : PySem.W.Frag) (vs : List V) (H : Hp) (R : It → Hp → Prop) : Prop := ∃ b1 b2 l1 l2 xs ys, vs = [.ref l1, .ref l2] ∧ SqB b1 K H l1 xs ∧ SqB b2 K H l2 ys ∧ R (Itz K b1 l1 b2 l2) H
def iZip (K : PySem.W.Frag) (ta : TA) : TI := fun σ H R => ta σ H fun vs H1 => rZip K vs H1 R
end
section
variable {K : PySem.W.Frag} {σ : St} {H : Hp} {D : Ends}
theorem rd_iZip {ta : TA} {R : It → Hp → Prop} (h : ta σ H fun vs H1 => rZip K vs H1 R) : iZip K ta σ H R := h
end
end L2

set_option Elab.async false
set_option linter.all false
set_option maxRecDepth 100000
set_option maxHeartbeats 4000000
namespace L2
open PySem PySem.Spec PyProof.Rows
/-! ### min, max of a list of ints -/
section
variable {X : Cx}
end
/-! ### how big numbers are -/
/-! ### a run of dots: none, or a pair -/
end L2

set_option Elab.async false
set_option linter.all false
set_option maxRecDepth 100000
set_option maxHeartbeats 4000000
namespace L2
open PySem PySem.Spec PyProof.Rows
end L2

set_option Elab.async false
set_option linter.all false
set_option maxRecDepth 100000
set_option maxHeartbeats 4000000
namespace L2
open PySem PySem.Spec PyProof.Rows
section
variable {X : Cx}
/-! ### list.extend(a tuple) -/
/-! ### repr -/
end
/-! ### how long a text of data is -/
end L2

set_option Elab.async false
set_option linter.all false
set_option maxRecDepth 100000
set_option maxHeartbeats 4000000
namespace L2
open PySem PySem.Spec PyProof.Rows
section
variable {X : Cx}
/-! ### {k: v} -/
def rDisp (p : Addr) (x y : V) (H2 : Hp) (Q : VK) : Prop := H2 p = some (.dK []) ∧ ∃ kvs : List (Key × V), [(x, y)] = kvs.map (fun kv => (kV kv.1, kv.2)) ∧ kvs.length ≤ 15 ∧ Q (.ref p) (upd H2 p (.dK (mergeK [] kvs)))
theorem rd_disp0 {σ : St} {H : Hp} {Q : VK} {tk tv : TE} (h : ∀ p, H p = none → tk σ (upd H p (.dK [])) fun x H1 => tv σ H1 fun y H2 => rDisp p x y H2 Q) : tDisp [(tk, tv)] σ H Q := h
/-! ### repr of any thing -/
mutual
theorem Dat.same {K : PySem.W.Frag} {H H' : Hp} (s : Same H H') : ∀ {x : V} {d : PyData}, Dat K H x d → Dat K H' x d
  | _, _, .non => .non
  | _, _, .bl b => .bl b
  | _, _, .int i => .int i
  | _, _, .str x => .str x
  | _, _, .tup h r => .tup (s.seqT h) (Dats.same s r)
  | _, _, .lst h r => .lst (s.seq h) (Dats.same s r)
theorem Dats.same {K : PySem.W.Frag} {H H' : Hp} (s : Same H H') : ∀ {x : List V} {d : List PyData}, Dats K H x d → Dats K H' x d
  | _, _, .nil => .nil
  | _, _, .cons h r => .cons (Dat.same s h) (Dats.same s r)
end
end
end L2

set_option Elab.async false
set_option linter.all false
set_option maxRecDepth 100000
set_option maxHeartbeats 4000000
namespace L2
open PySem PySem.Spec PyProof.Rows PySem.W
/-! ### sorted(a list of pairs) -/
section
variable {X : Cx} {pins : List (Addr × Obj)} {σ : St} {H : Hp} {s : Shared}
end
section
variable {prog : Program} {w : World} {A : Around} {E : Value → Shared → Prop} {s : Shared}
end
/-! ### for x in reversed(a list) -/
def Itv (K : PySem.W.Frag) (l : Addr) (n : Nat) : It :=
  ⟨fun i H => ∃ xs, SqL K H l xs ∧ xs.length = n ∧ i < n, fun i H x H' => H' = H ∧ ∀ xs, SqL K H l xs → xs[n - 1 - i]? = some x, fun i H => n ≤ i⟩
section
variable {X : Cx} {tg : Expr}
def rRev (K : PySem.W.Frag) (vs : List V) (H : Hp) (R : It → Hp → Prop) : Prop := ∃ l xs, vs = [.ref l] ∧ SqL K H l xs ∧ R (Itv K l xs.length) H
def iRev (K : PySem.W.Frag) (ta : TA) : TI := fun σ H R => ta σ H fun vs H1 => rRev K vs H1 R
end
section
variable {K : PySem.W.Frag} {σ : St} {H : Hp} {D : Ends}
theorem rd_iRev {ta : TA} {R : It → Hp → Prop} (h : ta σ H fun vs H1 => rRev K vs H1 R) : iRev K ta σ H R := h
end
/-! ### divmod by a big number -/
end L2

set_option Elab.async false
set_option linter.all false
set_option maxRecDepth 100000
set_option maxHeartbeats 4000000
namespace L2
open PySem PySem.Spec PyProof.Rows PySem.W
/-! ### min, max with a key -/
section
variable {X : Cx} {k : Nat} {f : Addr} {fd : FuncData} {ps : List Str} {sp : Sp}
def rMinKeyL (K : PySem.W.Frag) (sp : Sp) (vs : List V) (H : Hp) (Q : VK) : Prop := ∃ (l : Addr) (us : List V) (kf : Nat → Int), vs = [.ref l] ∧ SqL K H l us ∧ us ≠ [] ∧ (∀ i v, us[i]? = some v → ∀ Q : VK, Q (.int (kf i)) H → sp [v] H Q E0) ∧
  ∀ i v, us[i]? = some v → (∀ j, j < us.length → kf i ≤ kf j ∧ (j < i → kf i < kf j)) → Q v H
def tMinKeyL (K : PySem.W.Frag) (sp : Sp) (t : TA) : TE := fun σ H Q => t σ H fun vs H1 => rMinKeyL K sp vs H1 Q
theorem rd_minkeyL0 {K : PySem.W.Frag} {sp : Sp} {t : TA} {σ : St} {H : Hp} {Q : VK} (h : t σ H fun vs H1 => rMinKeyL K sp vs H1 Q) : tMinKeyL K sp t σ H Q := h

def rMinKeyT (K : PySem.W.Frag) (sp : Sp) (vs : List V) (H : Hp) (Q : VK) : Prop := ∃ (l : Addr) (us : List V) (kf : Nat → Int), vs = [.ref l] ∧ SqT K H l us ∧ us ≠ [] ∧ (∀ i v, us[i]? = some v → ∀ Q : VK, Q (.int (kf i)) H → sp [v] H Q E0) ∧
  ∀ i v, us[i]? = some v → (∀ j, j < us.length → kf i ≤ kf j ∧ (j < i → kf i < kf j)) → Q v H
def tMinKeyT (K : PySem.W.Frag) (sp : Sp) (t : TA) : TE := fun σ H Q => t σ H fun vs H1 => rMinKeyT K sp vs H1 Q
theorem rd_minkeyT0 {K : PySem.W.Frag} {sp : Sp} {t : TA} {σ : St} {H : Hp} {Q : VK} (h : t σ H fun vs H1 => rMinKeyT K sp vs H1 Q) : tMinKeyT K sp t σ H Q := h

def rMaxKeyL (K : PySem.W.Frag) (sp : Sp) (vs : List V) (H : Hp) (Q : VK) : Prop := ∃ (l : Addr) (us : List V) (kf : Nat → Int), vs = [.ref l] ∧ SqL K H l us ∧ us ≠ [] ∧ (∀ i v, us[i]? = some v → ∀ Q : VK, Q (.int (kf i)) H → sp [v] H Q E0) ∧
  ∀ i v, us[i]? = some v → (∀ j, j < us.length → kf i ≥ kf j ∧ (j < i → kf i > kf j)) → Q v H
def tMaxKeyL (K : PySem.W.Frag) (sp : Sp) (t : TA) : TE := fun σ H Q => t σ H fun vs H1 => rMaxKeyL K sp vs H1 Q
theorem rd_maxkeyL0 {K : PySem.W.Frag} {sp : Sp} {t : TA} {σ : St} {H : Hp} {Q : VK} (h : t σ H fun vs H1 => rMaxKeyL K sp vs H1 Q) : tMaxKeyL K sp t σ H Q := h

def rMaxKeyT (K : PySem.W.Frag) (sp : Sp) (vs : List V) (H : Hp) (Q : VK) : Prop := ∃ (l : Addr) (us : List V) (kf : Nat → Int), vs = [.ref l] ∧ SqT K H l us ∧ us ≠ [] ∧ (∀ i v, us[i]? = some v → ∀ Q : VK, Q (.int (kf i)) H → sp [v] H Q E0) ∧
  ∀ i v, us[i]? = some v → (∀ j, j < us.length → kf i ≥ kf j ∧ (j < i → kf i > kf j)) → Q v H
def tMaxKeyT (K : PySem.W.Frag) (sp : Sp) (t : TA) : TE := fun σ H Q => t σ H fun vs H1 => rMaxKeyT K sp vs H1 Q
theorem rd_maxkeyT0 {K : PySem.W.Frag} {sp : Sp} {t : TA} {σ : St} {H : Hp} {Q : VK} (h : t σ H fun vs H1 => rMaxKeyT K sp vs H1 Q) : tMaxKeyT K sp t σ H Q := h
end
end L2

set_option Elab.async false
set_option linter.all false
set_option maxRecDepth 100000
set_option maxHeartbeats 4000000
namespace L2
open PySem PySem.Spec PyProof.Rows
/-! ### x not in a list of data -/
section
variable {X : Cx}
end
end L2

set_option Elab.async false
set_option linter.all false
set_option maxRecDepth 100000
set_option maxHeartbeats 4000000
namespace L2
open PySem PySem.Spec PyProof.Rows
/-! ### {k: v}, k a tuple of ints and texts -/
section
variable {prog : Program} {w : World} {A : Around} {E : Value → Shared → Prop}
end
section
variable {X : Cx}
def rDispT (p : Addr) (x y : V) (H2 : Hp) (Q : VK) : Prop := ∃ (b : Addr) (ks : List Key), x = .ref b ∧ H2 b = some (.tup (ks.map kV)) ∧ H2 p = some (.dT []) ∧ Q (.ref p) (upd H2 p (.dT [(ks, y)]))
def tDispT (tk tv : TE) : TE := fun σ H Q => ∀ p, H p = none → tk σ (upd H p (.dT [])) fun x H1 => tv σ H1 fun y H2 => rDispT p x y H2 Q
theorem rd_dispT0 {σ : St} {H : Hp} {Q : VK} {tk tv : TE} (h : ∀ p, H p = none → tk σ (upd H p (.dT [])) fun x H1 => tv σ H1 fun y H2 => rDispT p x y H2 Q) : tDispT tk tv σ H Q := h
end
end L2

set_option Elab.async false
set_option linter.all false
set_option maxRecDepth 100000
set_option maxHeartbeats 4000000
namespace L2
open PySem PySem.Spec PyProof.Rows PySem.W
/-! ### objects: attributes, methods, making -/
section
variable {X : Cx} {o e value : Expr} {f m : Str} {pos pos' tpos apos : Pos} {ta tv : TE} {t : TA}
def rFld (K : PySem.W.Frag) (f : Str) (x : V) (H : Hp) (Q : VK) : Prop := ∃ a C dx fs v, x = .ref a ∧ H a = some (.ins C dx fs) ∧ Cls K C ∧ NoAttr K C f ∧ fs.lookup f = some v ∧ Q v H
def rSetF (K : PySem.W.Frag) (f : Str) (y x : V) (H : Hp) (R : Hp → Prop) : Prop := ∃ a C dx fs, x = .ref a ∧ H a = some (.ins C dx fs) ∧ Cls K C ∧ NoAttr K C f ∧ fs.length < 1000 ∧ R (upd H a (.ins C dx (putF f y fs)))
section
variable {CX : CXT} {k : Nat} {fa C : Addr} {fd : FuncData} {ps : List Str} {sp : Sp} {dvs : List V} {ds : List Value} {E : XK} {es : List Expr} {x : Str} {p : Pos}
end
end
section
variable {K : PySem.W.Frag} {σ : St} {H : Hp} {Q : VK} {D : Ends} {f m : Str} {ta tv : TE} {t : TA} {C : Addr} {sp : Sp} {dvs : List V} {E : XK}
theorem rd_fld0 (h : ta σ H fun x H1 => rFld K f x H1 Q) : tFld K ta f σ H Q := h
theorem rd_setF0 (h : tv σ H fun y H1 => ta σ H1 fun x H2 => rSetF K f y x H2 (D.nx σ)) : sFld K ta tv f D σ H := h
def rFldAug (K : PySem.W.Frag) (f : Str) (tv : TE) (σ : St) (R : Hp → Prop) (x : V) (H : Hp) : Prop := ∃ a C dx fs v, x = .ref a ∧ H a = some (.ins C dx fs) ∧ Cls K C ∧ NoAttr K C f ∧ fs.lookup f = some v ∧
  tv σ H fun y H2 => rAdd v y H2 fun z H3 => ∃ dx' fs', H3 a = some (.ins C dx' fs') ∧ fs'.length < 1000 ∧ R (upd H3 a (.ins C dx' (putF f z fs')))
theorem rd_fldaug0 (h : ta σ H fun x H1 => rFldAug K f tv σ (D.nx σ) x H1) : sFldAug K ta tv rAdd f D σ H := h
def rMethO (C : Addr) (m : Str) (x : V) (H : Hp) (R : Prop) : Prop := ∃ a dx fs, x = .ref a ∧ H a = some (.ins C dx fs) ∧ fs.lookup m = none ∧ R
theorem rd_meth0 (h : ta σ H fun x H1 => rMethO C m x H1 (t σ H1 fun vs H2 => sp (x :: (vs ++ dvs)) H2 Q E)) : tMeth C m sp dvs E ta t σ H Q := h
def rMake (C : Addr) (sp : Sp) (dvs : List V) (E : XK) (vs : List V) (H : Hp) (Q : VK) : Prop := ∀ x dx, H x = none → H dx = none → dx ≠ x → sp (.ref x :: (vs ++ dvs)) (upd (upd H dx (.own x)) x (.ins C dx [])) (fun v H2 => v = .non ∧ Q (.ref x) H2) E
theorem rd_make0 (h : t σ H fun vs H1 => rMake C sp dvs E vs H1 Q) : tMake C sp dvs E t σ H Q := h
end
/-! ### a def with defaults -/
/-! ### self.f += e; d.get(k), d[k] = v with a tuple for k -/
section
variable {K : PySem.W.Frag} {σ : St} {H : Hp} {Q : VK} {f : Str} {tv td ty : TE} {C : Addr}
def rDGetV (a : Addr) (y : V) (H : Hp) (Q : VK) : Prop := ∃ o, DGet H a y o ∧ Q (o.getD .non) H
def rDGetM (ty : TE) (σ : St) (Q : VK) (x : V) (H : Hp) : Prop := ∃ a, x = .ref a ∧ IsD H a ∧ ty σ H fun y H2 => rDGetV a y H2 Q
theorem rd_dgetm0 (h : td σ H fun x H1 => rDGetM ty σ Q x H1) : tDGet1 td ty σ H Q := h
end
section
variable {X : Cx} {o e : Expr} {apos cpos pos p : Pos} {td ty to : TE}
def rDNewT (H : Hp) (Q : VK) : Prop := ∀ p, H p = none → Q (.ref p) (upd H p (.dT []))
theorem rd_dnewT0 {σ : St} {H : Hp} {Q : VK} (h : rDNewT H Q) : tDNewT σ H Q := h
/-! ### list(d.items()) -/
def rListIt (a : Addr) (m : List (Int × Int)) (H : Hp) (Q : VK) : Prop := m.length ≤ 1000 ∧ ∀ (l : Addr) (vs : List V) (H' : Hp), H l = none → H' l = some (.lst vs) → PairsAt H' vs m → Same H H' → Q (.ref l) H'
def tListIt (to : TE) : TE := fun σ H Q => tItemsOf to σ H fun a m H1 => rListIt a m H1 Q
def rItemsL (x : V) (H : Hp) (Q : VK) : Prop := ∃ a m, x = .ref a ∧ H a = some (.dK (dkOf m)) ∧ rListIt a m H Q
theorem rd_listIt0 {σ : St} {H : Hp} {Q : VK} (h : to σ H fun x H1 => rItemsL x H1 Q) : tListIt to σ H Q := h
end
section
variable {X : Cx} {k : Nat} {f C : Addr} {fd : FuncData} {ps : List Str} {sp : Sp} {x kw : Str} {p pos kpos : Pos} {e : Expr} {te : TE} {E : XK} {CX : CXT}
def tMakeK (C : Addr) (sp : Sp) (E : XK) (te : TE) : TE := fun σ H Q => te σ H fun v H1 => rMake C sp [] E [v] H1 Q
theorem rd_makeK0 {σ : St} {H : Hp} {Q : VK} (h : te σ H fun v H1 => rMake C sp [] E [v] H1 Q) : tMakeK C sp E te σ H Q := h
end
end L2

set_option Elab.async false
set_option linter.all false
set_option maxRecDepth 100000
set_option maxHeartbeats 4000000
namespace L2
open PySem PySem.Spec PyProof.Rows PySem.W
/-! ### exceptions: how one lies behind a call -/
theorem ObjOk.there {P : Program} {w : World} {H : Hp} {h : Heap} {a : Addr} {o : HO} (x : ObjOk P w H h a o) : ∃ ob, h.get? a = some ob := by
  cases o with
  | lst xs => obtain ⟨_, _, _, _, e⟩ := x; exact ⟨_, e⟩
  | tup xs => obtain ⟨_, _, _, p⟩ := x; obtain ⟨o, e, _⟩ := p; exact ⟨_, e⟩
  | dK kvs => obtain ⟨_, _, _, _, o, _, _, e, _⟩ := x; exact ⟨_, e⟩
  | dT kvs => obtain ⟨_, _, _, _, o, _, _, e, _⟩ := x; exact ⟨_, e⟩
  | set S n => obtain ⟨o, _, _, _, e, _⟩ := x; exact ⟨_, e⟩
  | ins C dx fs => obtain ⟨_, _, _, e, _⟩ := x; exact ⟨_, e⟩
  | own y => exact x
  | xd fs => obtain ⟨_, ⟨_, _, _, e, _⟩, _⟩ := x; exact ⟨_, e⟩
  | rng lo hi => obtain ⟨_, _, _, e⟩ := x; exact ⟨_, e⟩
  | frz ob u => obtain ⟨e, _⟩ := x; exact ⟨_, e⟩
  | tbl ps => exact ⟨_, (show h.get? a = some _ from x)⟩
  | met f y => exact ⟨_, (show h.get? a = some _ from x)⟩
  | ext φ => obtain ⟨_, e, _⟩ := x; exact e
/-- what is old (of h0) or tracked stands in B, the frames fs apart -/
def Cov (B : Heap) (H' : Hp) (h0 h' : Heap) (fs : List Addr) : Prop := ∀ b o, h'.get? b = some o → b ∉ fs → ((∃ u, H' b = some u) ∨ ∃ o0, h0.get? b = some o0) → B.get? b = some o
def CX1 (P : Program) (w : World) : CXT := fun l H s E ev s' => ∃ (e : Addr) (C a0 : Value) (B : Heap) (H' : Hp), ev = .ref e ∧ s'.os = s.os ∧ AllBare s'.gens ∧ Un (frs l) [] H H' s.heap s'.heap ∧ HOk P w H' s'.heap ∧
  s.heap.get? e = none ∧ H' e = none ∧ Heap.FlyingW B l e C a0 s'.heap ∧ Cov B H' s.heap s'.heap (frs l) ∧ E C none H'
section
variable {P : Program} {w : World} {H H' : Hp} {h0 h' h'' B : Heap} {fs : List Addr}
/-- a station of the exception: B stays, the rest but for slots -/
theorem fly_step (hok : HOk P w H' h') (un : Un fs [] H H' h0 h') (cov : Cov B H' h0 h' fs) (st : B.StaysIn h'') (up : h'.UpToSlots h'') (fr : ∀ b ∈ fs, H' b = none ∧ ∃ o, h'.get? b = some o ∧ ∀ vs, o.data ≠ .fields vs) :
    HOk P w H' h'' ∧ Un fs [] H H' h0 h'' ∧ Cov B H' h0 h'' fs := by
  have trk : ∀ b u, H' b = some u → b ∉ fs := fun b u e hb => by rw [(fr b hb).1] at e; cases e
  have old : ∀ b o0, h0.get? b = some o0 → ∃ o', h''.get? b = some o' := fun b o0 e => by
    obtain ⟨o', e'⟩ := un.there b o0 e (by simp)
    by_cases hb : b ∈ fs
    · obtain ⟨_, o, ho, hd⟩ := fr b hb
      obtain ⟨sl, q⟩ := up b o ho hd
      exact ⟨_, q⟩
    · exact ⟨o', st _ _ (cov b o' e' hb (.inr ⟨o0, e⟩))⟩
  refine ⟨fun b u e => (hok b u e).stay (fun c v hc q => ?_) (fun _ q => q) fun _ _ q => q, ⟨fun b o e n hb hx => ?_, fun b o e n hb hx => ?_, un.free, fun b o e _ => old b o e, un.tups, un.frzs, un.tbls⟩, fun b o e hb ht => ?_⟩
  · have hc' : ∃ u, H' c = some u := by
      rcases hc with rfl | hc
      · exact ⟨_, e⟩
      · exact ⟨_, hc⟩
    obtain ⟨u', hu'⟩ := hc'
    exact st _ _ (cov c v q (trk c u' hu') (.inl ⟨u', hu'⟩))
  · exact st _ _ (cov b o (un.keep b o e n hb hx) hb (.inr ⟨o, e⟩))
  · obtain ⟨sl, q⟩ := un.slot b o e n hb hx
    obtain ⟨_, o2, ho2, hd⟩ := fr b hb
    rw [q] at ho2
    cases ho2
    obtain ⟨sl2, q2⟩ := up b _ q hd
    exact ⟨sl2, q2⟩
  · have : ∃ o1, h'.get? b = some o1 := by
      rcases ht with ⟨u, hu⟩ | ⟨o0, ho0⟩
      · exact (hok b u hu).there
      · exact un.there b o0 ho0 (by simp)
    obtain ⟨o1, h1⟩ := this
    have hB := cov b o1 h1 hb ht
    have := st _ _ hB
    rw [e] at this
    cases this
    exact hB
end
section
variable {P : Program} {w : World} {K : PySem.W.Frag} {mg : Str → Option Value} {base : Heap} {N : List Str} {qual : Str} {scope : Scope} {f : Addr} {cd : Value} {A : Around} {outer : List Env} {s : Shared} {H : Hp} {E : XK}
/-- the context of a def that may raise -/
abbrev cxE (P : Program) (w : World) (K : PySem.W.Frag) (mg : Str → Option Value) (base : Heap) (N : List Str) (qual : Str) (scope : Scope) (f : Addr) (cd : Value) (A : Around) (outer : List Env) (s : Shared) (H : Hp) (E : XK) : Cx := cxOf (CX1 P w) P w K mg base N qual scope f cd A outer s H E
theorem frs_cons {env : Env} {l : List Env} {L : Addr} (h : env.frame = some L) : frs (env :: l) = L :: frs l := by
  unfold frs
  rw [List.filterMap_cons, h]
/-- of the frames of a def's body: what is wanted of them at a station -/
theorem fr_free {X : Cx} {pins : List (Addr × Obj)} {σ : St} {H1 : Hp} {s1 : Shared} (I : Inv X pins σ H1 s1) {B h : Heap} {l : List Env} (hl : h.FunFrames B l) (hs : ∀ b ∈ frs l, b ∈ frs X.stack) : ∀ b ∈ frs l, H1 b = none ∧ ∃ o, h.get? b = some o ∧ ∀ vs, o.data ≠ .fields vs :=
  fun b hb => ⟨I.stkFree b (hs b hb), (hl.mem hb).2⟩
end
/-! ### raise -/
theorem exc_obj {K : PySem.W.Frag} {h : Heap} {C : Addr} {bmB : List Value} {newId : String} (X : K.In h) (q : excIn K C bmB newId = true) :
    ∃ bm N nm q bs hdct sn sub ab col dd k0 k1 k2 k3 k5 mN, h.get? C = some (excClassObj nm q C N bs bm hdct sn sub ab col dd k0 k1 k2 k3 k5 newId) ∧ h.Ns N mN ∧ mN "__init__" = none ∧ OwnTail h bmB bm := by
  unfold excIn at q
  split at q
  · rename_i dd cd sl ho
    split at q
    · rename_i C' bm k0 k1 k2 k3 n k5 hm hs
      simp only [Bool.and_eq_true, beq_iff_eq, Bool.not_eq_true'] at q
      obtain ⟨⟨⟨⟨⟨rfl, rfl⟩, hdel⟩, ht⟩, hok⟩, hni⟩ := q
      obtain ⟨nm, bs, mro, ns, qn, hd, sn, sub, ab, col, del⟩ := cd
      dsimp only at hm hdel hok hni
      subst hm hdel
      have hsl : sl = #[k0, k1, k2, k3, some (.builtin n), k5] := by
        obtain ⟨l⟩ := sl
        simp only at hs
        rw [hs]
      subst hsl
      exact ⟨bm, ns, nm, qn, bs, hd, sn, sub, ab, col, dd, k0, k1, k2, k3, k5, _, X _ _ ho, .of_isNs (isNs_of_in X hok), nsMap_none_of_in X hok hni, tail_of_in X ht⟩
    · cases q
  · cases q
/-- an exception class of the text, of ValueError's kind -/
def ExcC (K : PySem.W.Frag) (C : Addr) : Prop := excIn K C [.type "ValueError", .type "Exception", .type "BaseException", .type "object"] "ValueError.__new__" = true
section
variable {P : Program} {w : World} {K : PySem.W.Frag} {mg : Str → Option Value} {base : Heap} {N : List Str} {qual : Str} {scope : Scope} {f : Addr} {cd : Value} {A : Around} {outer : List Env} {s : Shared} {H : Hp} {E : XK}
  {x : Str} {np cpos pos : Pos} {e₀ : Expr} {es : List Expr} {t : TA} {C : Addr}
def tRaise (E : XK) (C : Addr) (t : TA) : TS := fun _ σ H => t σ H fun vs H1 => vs.length ≤ sizeLine ∧ E (.ref C) none H1
theorem ps_raise (hC : ExcC K C) (hg : Gl (cxE P w K mg base N qual scope f cd A outer s H E) x) (hm : mg x = some (.ref C)) (ha : PA (cxE P w K mg base N qual scope f cd A outer s H E) (e₀ :: es) t)
    (hdb : (x == ("__debug__" : Str)) = false := by decide)
    (he : starEach (e₀ :: es) (cxE P w K mg base N qual scope f cd A outer s H E).env = (false, eval e₀ (cxE P w K mg base N qual scope f cd A outer s H E).env) :: starEach es (cxE P w K mg base N qual scope f cd A outer s H E).env := by rfl)
    (hpl : (backTo cpos (starEach es (cxE P w K mg base N qual scope f cd A outer s H E).env)).any (·.1) = false := by rfl) :
    PS (cxE P w K mg base N qual scope f cd A outer s H E) (.Raise (some (.Call (.Name x np) (e₀ :: es) [] cpos)) none pos) (tRaise E C t) := by
  intro pins s1 σ H1 D I h
  have hh : (cxE P w K mg base N qual scope f cd A outer s H E).A.handled = none := I.ok.hd rfl
  obtain ⟨bm, N', nm, qn, bs, hdct, sn, sub, ab, col, dd, k0, k1, k2, k3, k5, mN, hCo, hN, hni, TL⟩ := exc_obj I.ok.mod.kin hC
  have FB := PySem.F.excBase_ValueError
  refine wpAny_Raise_call_subT (C := C) (nm := nm) (q := qn) (N := N') (bs := bs) (bm := bm) (hdct := hdct) (sn := sn) (sub := sub) (ab := ab) (col := col) (dd := dd) (k0 := k0) (k1 := k1) (k2 := k2) (k3 := k3) (k5 := k5)
    FB (mN := mN) (TL.hasType FB.hasBase) hh (by rw [he]; show (false || (backTo cpos (starEach es _)).any (·.1)) = false; rw [hpl]; rfl) hni (ld_glob I hg hm ⟨rfl, ?_⟩ hdb)
  have hA := ha cpos pins s1 σ H1 _ I h
  rw [he] at hA ⊢
  refine Calls.evalArgs_plain (wpAny_mono hA (fun vs s2 ⟨xs, H2, I2, r, z, q⟩ => ⟨rfl, by rw [← r.length]; exact z, I2.bk _ _ hCo, hN.keeps I2.bk, TL.keeps I2.bk, fun h' e hx => ?_⟩) fun _ _ y => y)
  -- the exception is made: it leaves the frame
  have hfr : (cxE P w K mg base N qual scope f cd A outer s H E).A.frames = some ((cxE P w K mg base N qual scope f cd A outer s H E).env :: outer) := I.ok.frames
  have efr : frs ((cxE P w K mg base N qual scope f cd A outer s H E).env :: outer) = s.heap.objs.size :: frs outer := frs_cons rfl
  have stk := I2.stack
  have hin : ∀ env ∈ ((cxE P w K mg base N qual scope f cd A outer s H E).env :: outer), ∀ b, env.frame = some b → b ∈ frs ((cxE P w K mg base N qual scope f cd A outer s H E).env :: outer) := fun env he b hb => List.mem_filterMap.mpr ⟨env, he, hb⟩
  show wpAny (model P w) _ (leaving _ (.ref e)) _ _ { s2 with heap := h' }
  refine wpAny_leaves_madeW (base := hideAll s2.heap (frs ((cxE P w K mg base N qual scope f cd A outer s H E).env :: outer))) (L := s.heap.objs.size) hfr rfl (fun b o q => of_hideAll _ q) (funFrames_hide stk hin) hx fun h'' t' fl2 htup hbt up => ?_
  have I3 : Inv (cxE P w K mg base N qual scope f cd A outer s H E) pins σ H2 { s2 with heap := h' } := I2.kept (h' := h') (t' := s2.toks) hx.keeps
  have cov : Cov (hideAll s2.heap (frs ((cxE P w K mg base N qual scope f cd A outer s H E).env :: outer))) H2 s.heap h' (frs outer) := fun b o hb hn ht => by
    have : ∃ o1, s2.heap.get? b = some o1 := by
      rcases ht with ⟨u, hu⟩ | ⟨o0, ho0⟩
      · exact (I2.hok b u hu).there
      · exact I2.base.there b o0 ho0 (show b ∉ ([] : List Addr) by simp)
    obtain ⟨o1, h1⟩ := this
    have h2 := hx.keeps _ _ h1
    rw [hb] at h2
    cases h2
    refine hideAll_get _ h1 fun z => ?_
    rw [efr] at z
    rcases List.mem_cons.mp z with rfl | z
    · rcases ht with ⟨u, hu⟩ | ⟨o0, h0⟩
      · have z3 : H2 s.heap.objs.size = none := I2.free
        rw [z3] at hu; cases hu
      · exact Nat.lt_irrefl _ (Heap.lt_size h0)
    · exact hn z
  have flo : h'.FunFrames (hideAll s2.heap (frs ((cxE P w K mg base N qual scope f cd A outer s H E).env :: outer))) outer := by
    obtain ⟨_, _, k⟩ := (funFrames_hide stk hin : s2.heap.FunFrames (hideAll s2.heap (frs ((cxE P w K mg base N qual scope f cd A outer s H E).env :: outer))) ((cxE P w K mg base N qual scope f cd A outer s H E).env :: outer))
    exact k.of_keeps fun b o hb _ => ⟨o, hx.keeps b o hb, rfl⟩
  obtain ⟨hok3, un3, cov3⟩ := fly_step (I3.hok) (show Un (frs outer) [] H H2 s.heap h' from I3.base) cov fl2.1 up (fr_free I3 flo fun b hb => by
    show b ∈ frs ((cxE P w K mg base N qual scope f cd A outer s H E).env :: outer)
    rw [efr]; exact List.mem_cons_of_mem _ hb)
  refine ⟨e, .ref C, .ref t', _, H2, rfl, I2.os, I2.bare, un3, hok3, ?_, ?_, fl2, cov3, q⟩
  · cases z : s.heap.get? e with
    | none => rfl
    | some o =>
      obtain ⟨o', e'⟩ := I2.base.there e o z (show e ∉ ([] : List Addr) by simp)
      rw [hx.new] at e'; cases e'
  · cases z : H2 e with
    | none => rfl
    | some u =>
      obtain ⟨o', e'⟩ := (I2.hok e u z).there
      rw [hx.new] at e'; cases e'
end
section
variable {P : Program} {w : World} {K : PySem.W.Frag} {mg : Str → Option Value} {base : Heap}
theorem FnOk.or {k : Nat} {CX : CXT} {f : Addr} {fd : FuncData} {ps : List Str} {sp sq : Sp} (F : FnOk P w K mg base CX k f fd ps sp) (G : FnOk P w K mg base CX k f fd ps sq) : FnOk P w K mg base CX k f fd ps (fun vs H Q E => sp vs H Q E ∨ sq vs H Q E) :=
  ⟨fun vs H Q E h => h.elim (F.len vs H Q E) (G.len vs H Q E), fun A outer s H args us vs Q E hr he hb hv hs => hs.elim (F.run A outer s H args us vs Q E hr he hb hv) (G.run A outer s H args us vs Q E hr he hb hv)⟩
theorem Fun.okx {x qual : Str} {st : Stmt} {f : Addr} {fd : FuncData} {N ps : List Str} {k : Nat} {sp : Sp} (F : Fun K x qual st f fd) (S : FnScope N ps (defScope st)) (len : ∀ vs H Q E, sp vs H Q E → vs.length = ps.length)
    (hbody : ∀ (cdv : Value) (A : Around) (outer : List Env) (s : Shared) (H : Hp) (vs : List V) (Q : VK) (E : XK), Room k (A.deeper (envOfC qual (defScope st) s.heap.objs.size f cdv)) → sp vs H Q E →
      ∃ t, PSs (cxE P w K mg base N qual (defScope st) f cdv A outer s H E) (defBody st) t ∧ t { nx := fun _ H' => Q .non H', rt := Q } (start N vs) H) : FnOk P w K mg base (CX1 P w) (k + 1) f fd ps sp := by
  obtain ⟨oc, od, kV, doc, pm, an, cdv, ct, osl, rfl, lk, hcd⟩ := F.ex
  exact fn_of lk hcd S len fun A outer s H vs Q E hr hsp => hbody cdv A outer s H vs Q E hr hsp
end
end L2

set_option Elab.async false
set_option linter.all false
set_option maxRecDepth 100000
set_option maxHeartbeats 4000000
namespace L2
open PySem PySem.Spec PyProof.Rows PySem.W
/-! ### a name goes behind an except suite -/
theorem find_eraseIdx {α : Type} (p : α → Bool) : ∀ (l : List α) (i : Nat), (∀ a, l[i]? = some a → p a = false) → (l.eraseIdx i).find? p = l.find? p
  | [], _, _ => by simp
  | a :: l, 0, h => by
    have := h a rfl
    rw [List.eraseIdx_cons_zero, List.find?_cons, this]
  | a :: l, i + 1, h => by
    rw [List.eraseIdx_cons_succ, List.find?_cons, List.find?_cons, find_eraseIdx p l i fun b hb => h b (by simpa using hb)]
theorem ns_erase {es : Array DictEntry} (hk : StrKeys es) {name : Str} {i : Nat} (hi : es.findIdx? (fun e => e.key.isStr name) = some i) (x : Str) (hx : x ≠ name) :
    nsFind (es.eraseIdxIfInBounds i) x = nsFind es x := by
  obtain ⟨l⟩ := es
  simp only [nsFind, findBy, List.eraseIdxIfInBounds_toArray, List.find?_toArray, List.findIdx?_toArray] at hi ⊢
  rw [find_eraseIdx]
  intro a ha
  obtain ⟨hlt, hp, _⟩ := List.findIdx?_eq_some_iff_getElem.mp hi
  have ea : l[i] = a := by
    rw [List.getElem?_eq_getElem hlt] at ha
    exact Option.some.inj ha
  rw [ea] at hp
  obtain ⟨n, t, h⟩ := hk a (by simpa using List.mem_of_getElem? ha)
  rw [h] at hp ⊢
  have e1 : n = name := by simpa [Value.isStr] using hp
  have e2 : n ≠ x := fun z => hx (z.symm.trans e1)
  simpa [Value.isStr] using e2
section
variable {M : Model} {A : Around} {E : Value → Shared → Prop} {s : Shared}
theorem nsDel_ok {a : Addr} {m : Str → Option Value} {name : Str} {Q : Bool → Shared → Prop} (hn : s.heap.Ns a m)
    (hQ : ∀ h' m', h'.Ns a m' → (∀ x, x ≠ name → m' x = m x) → Heap.SameBut a s.heap h' → Q (m name).isSome { s with heap := h' }) : wpAny M A (nsDel a name) Q E s := by
  obtain ⟨o, es, ep, ho, hd, hk, hm⟩ := id hn
  have hany : es.any (·.refKey) = false := by
    rw [Array.any_eq_false']; intro e he; obtain ⟨n, t, h⟩ := hk e he; simp [DictEntry.refKey, h]
  have hsome : (m name).isSome = es.any (·.key.isStr name) := by
    rw [← hm name]; simp only [nsFind, findBy, Option.isSome_map]
    rw [Bool.eq_iff_iff]; simp only [Array.find?_isSome, Array.any_eq_true]
    constructor
    · rintro ⟨x, hx, hp⟩; obtain ⟨i, hi, rfl⟩ := Array.mem_iff_getElem.mp hx; exact ⟨i, hi, hp⟩
    · rintro ⟨i, hi, hp⟩; exact ⟨_, Array.getElem_mem hi, hp⟩
  have hhas : nsHas name o = pure (es.any (·.key.isStr name)) := by
    rw [nsHas_eq]; unfold nsHasByArray; rw [hd]
    show (if (es.any fun x => x.key.isStr name) = true then _ else _) = _
    generalize (es.any fun x => x.key.isStr name) = b
    cases b <;> simp [hany]
  unfold nsDel
  refine wpAny_bind (wpAny_loadPart ho ?_)
  rw [hhas]
  refine wpAny_bind (wpAny_pure ?_)
  rw [← hsome]
  cases hmn : (m name).isSome
  · have := hQ s.heap m hn (fun _ _ => rfl) (.refl ..)
    rw [hmn] at this
    exact wpAny_pure this
  · refine wpAny_bind (wpAny_updatePart ho (wpAny_pure ?_))
    have key : ∃ m', (s.heap.update a (Obj.dropName name)).Ns a m' ∧ ∀ x, x ≠ name → m' x = m x := by
      obtain ⟨cl, d, dt, sl⟩ := o
      subst hd
      cases hi : es.findIdx? (·.key.isStr name) with
      | some i => exact ⟨_, ⟨_, _, ep + 1, Heap.get?_update_self _ ho (by simp only [Obj.dropName_eq, Obj.dropNameByArray, hi] <;> rfl), (by simp only [Obj.dropName_eq, Obj.dropNameByArray, hi] <;> rfl), hk.erase i, fun _ => rfl⟩, fun x hx => by rw [← hm x]; exact ns_erase hk hi x hx⟩
      | none => exact ⟨_, ⟨_, _, ep, Heap.get?_update_self _ ho (by simp only [Obj.dropName_eq, Obj.dropNameByArray, hi] <;> rfl), (by simp only [Obj.dropName_eq, Obj.dropNameByArray, hi] <;> rfl), hk, fun _ => rfl⟩, fun x _ => hm x⟩
    obtain ⟨m', hm', hx'⟩ := key
    have := hQ _ m' hm' hx' (Heap.SameBut.update ..)
    rw [hmn] at this
    exact this
theorem nameGoes_ok {env : Env} {n : Str} {pos : Pos} {m : Str → Option Value} {Q : Unit → Shared → Prop} (hl : env.kindOf n = some .local) (hn : s.heap.Ns env.locals m)
    (hp : (env.scope.kind == .class || (env.scope.kind == .module && env.locals != env.globals)) = false)
    (h : ∀ h' m', h'.Ns env.locals m' → (∀ x, x ≠ n → m' x = m x) → Heap.SameBut env.locals s.heap h' → Q () { s with heap := h', toks := s.toks + 1 }) :
    wpAny M A (do bindName env n .none; unbindBehindTheSuite env n pos) Q E s := by
  refine wpAny_bind (wpAny_bindName (wpAny_storeName_local hl hn (fun h₁ hn₁ hs₁ => ?_) hp))
  unfold unbindBehindTheSuite
  refine wpAny_onRaise ?_
  unfold unbindName
  refine wpAny_bind (wpAny_point (wpAny_bind ?_))
  unfold deleteName
  simp only [hl, hp]
  rw [if_neg (by decide)]
  refine wpAny_bind (nsDel_ok hn₁ fun h₂ m₂ hn₂ hm₂ hs₂ => ?_)
  simp only [if_true, Option.isSome_some, Bool.not_true, Bool.false_eq_true, if_false]
  exact wpAny_pure (wpAny_point (h h₂ m₂ hn₂ (fun x hx => by rw [hm₂ x hx, if_neg hx]) (hs₁.trans hs₂)))
end
section
variable {X : Cx} {pins : List (Addr × Obj)} {σ : St} {H : Hp} {s : Shared}
/-- .. and the state behind -/
theorem goes_ok {M : Model} {A : Around} {E : Value → Shared → Prop} {i : Nat} {n : Str} {pos : Pos} {Q : Unit → Shared → Prop} (I : Inv X pins σ H s) (hN : X.N.Nodup) (hi : X.N[i]? = some n) (hl : X.env.scope.names.lookup n = some .local)
    (h : ∀ s', Inv X pins (σ.set i none) H s' → Q () s') : wpAny M A (do bindName X.env n .none; unbindBehindTheSuite X.env n pos) Q E s := by
  obtain ⟨m, hn, hlk⟩ := id I.loc
  have hcls : (X.env.scope.kind == .class || (X.env.scope.kind == .module && X.env.locals != X.env.globals)) = false := by rw [I.ok.kind]; rfl
  obtain ⟨oL, _, _, hoL, _⟩ := id hn
  refine nameGoes_ok hl hn hcls fun h' m' hn' hm' hs => h _ ?_
  refine ⟨I.ok, I.os, I.bare, ⟨fun b o e n hb hx => ?_, fun b o e n hb hx => ?_, I.base.free, fun b o e hx => ?_, I.base.tups, I.base.frzs, I.base.tbls⟩, ⟨m', hn', fun j y v' e1 e2 e3 => ?_⟩, fun y c e => ?_, I.free, I.freeC, fun p hp => ?_, fun b ob e => ?_, by simpa using I.len⟩
  · exact (hs.2 b (Nat.ne_of_lt (Nat.lt_of_lt_of_le (Heap.lt_size e) I.ok.above))).trans (I.base.keep b o e n hb hx)
  · obtain ⟨sl, e1⟩ := I.base.slot b o e n hb hx
    exact ⟨sl, (hs.2 b (Nat.ne_of_lt (Nat.lt_of_lt_of_le (Heap.lt_size e) I.ok.above))).trans e1⟩
  · obtain ⟨o', e1⟩ := I.base.there b o e hx
    exact ⟨o', (hs.2 b (Nat.ne_of_lt (Nat.lt_of_lt_of_le (Heap.lt_size e) I.ok.above))).trans e1⟩
  · by_cases hj : j = i
    · subst hj
      rw [List.getElem?_set] at e2
      split at e2
      · split at e2 <;> cases e2
      · rename_i z; exact absurd rfl z
    · rw [List.getElem?_set_ne (Ne.symm hj)] at e2
      obtain ⟨u', r', q⟩ := hlk j y v' e1 e2 e3
      have hy : y ≠ n := fun e => hj (nodup_ix hN e1 (e ▸ hi))
      refine ⟨u', r', ?_⟩
      rcases q with ⟨k, e⟩ | ⟨k, c, e, z⟩
      · exact .inl ⟨k, by rw [hm' y hy]; exact e⟩
      · exact .inr ⟨k, c, e, z.sameBut hs (I.cne y c e)⟩
  · obtain ⟨w', z⟩ := I.cell y c e
    exact ⟨w', z.sameBut hs (I.cne y c e)⟩
  · obtain ⟨e, n, ne, nf, d⟩ := I.pin p hp
    exact ⟨(hs.2 p.1 ne).trans e, n, ne, nf, d⟩
  · refine (I.hok b ob e).stay (fun c w' hc q => (hs.2 c ?_).trans q) (fun _ q => q) fun _ _ q => q
    rintro rfl
    rcases hc with z | hc
    · have := I.free
      rw [z, e] at this; cases this
    · have := I.free
      rw [hc] at this; cases this
end
/-! ### the context of an except suite; the exception is tracked by its class -/
def excO (e : Addr) (C : Value) : HO := .ext fun h => ∃ oe, h.get? e = some oe ∧ oe.cls = C
abbrev Cx.suite (X : Cx) (e : Addr) : Cx := { X with A := X.A.mark (some (.ref e)), calm := false, xe := fun _ _ => False }
section
variable {X : Cx} {pins : List (Addr × Obj)} {σ : St} {H : Hp} {s : Shared} {e : Addr}
/-- where only what is around differs -/
theorem Inv.around {A' : Around} {xe' : Value → Shared → Prop} (I : Inv X pins σ H s) (hf : A'.frames = X.A.frames) : Inv { X with A := A', calm := false, xe := xe' } pins σ H s :=
  ⟨⟨I.ok.mod, I.ok.kind, I.ok.glob, I.ok.blt, I.ok.above, I.ok.inj, I.ok.has, I.ok.cab, (fun z => nomatch z), hf.trans I.ok.frames, I.ok.stk, I.ok.exf, I.ok.bs, I.ok.bsz, I.ok.noex, I.ok.exfs, I.ok.funs, I.ok.frf⟩,
    I.os, I.bare, I.base, I.loc, I.cell, I.free, I.freeC, I.pin, I.hok, I.len⟩
theorem Inv.toSuite (I : Inv X pins σ H s) : Inv (X.suite e) pins σ H s := I.around rfl
theorem Inv.ofSuite (ok : X.Ok) (I : Inv (X.suite e) pins σ H s) : Inv X pins σ H s :=
  ⟨ok, I.os, I.bare, I.base, I.loc, I.cell, I.free, I.freeC, I.pin, I.hok, I.len⟩
/-- a new untracked thing is tracked from here on -/
theorem Inv.track {u : HO} (I : Inv X pins σ H s) (h1 : X.s₀.heap.get? e = none) (h2 : H e = none) (h3 : e ≠ X.env.locals) (h4 : ∀ x c, X.env.cells.lookup x = some c → c ≠ e) (h5 : ∀ p ∈ X.pn ++ pins, p.1 ≠ e) (new : ObjOk X.prog X.w (upd H e u) s.heap e u) : Inv X pins σ (upd H e u) s := by
  have ne : ∀ b o, X.s₀.heap.get? b = some o → b ≠ e := fun b o q z => by rw [z, h1] at q; cases q
  refine ⟨I.ok, I.os, I.bare, ⟨I.base.keep, I.base.slot, fun b o q n hx => ?_, I.base.there, fun b xs q => ?_, fun b o xs q => ?_, fun b ps q => ?_⟩, I.loc, I.cell, ?_, fun x c q => ?_, fun p hp => ?_, fun b v q => ?_, I.len⟩
  · rw [upd_ne (ne b o q)]; exact I.base.free b o q n hx
  · have := I.base.tups b xs q
    rw [upd_ne (ne_of_none this h2)]; exact this
  · have := I.base.frzs b o xs q
    rw [upd_ne (ne_of_none this h2)]; exact this
  · obtain ⟨m, z⟩ := I.base.tbls b ps q
    exact ⟨m, by rw [upd_ne (ne_of_none z h2)]; exact z⟩
  · rw [upd_ne (Ne.symm h3)]; exact I.free
  · rw [upd_ne (h4 x c q)]; exact I.freeC x c q
  · obtain ⟨a, b, c⟩ := I.pin p hp
    exact ⟨a, by rw [upd_ne (h5 p hp)]; exact b, c⟩
  · by_cases hb : b = e
    · subst hb; rw [upd_same] at q; cases q; exact new
    · rw [upd_ne hb] at q
      exact (I.hok b v q).stay (fun _ _ _ q => q) (fun c r => by rw [upd_ne (ne_of_none r h2)]; exact r) fun c xs r => by rw [upd_ne (ne_of_none r h2)]; exact r
end
/-! ### an exception that has come into this frame -/
def Fl (X : Cx) (H1 : Hp) (s0 : Shared) (e : Addr) (C : Value) (H' : Hp) (s3 : Shared) : Prop := ∃ (a0 : Value) (B : Heap), s3.os = s0.os ∧ AllBare s3.gens ∧ Un (frs X.stack) [] H1 H' s0.heap s3.heap ∧ HOk X.prog X.w H' s3.heap ∧
  s0.heap.get? e = none ∧ H' e = none ∧ Heap.FlyingW B X.stack e C a0 s3.heap ∧ Cov B H' s0.heap s3.heap (frs X.stack)
section
variable {X : Cx} {pins : List (Addr × Obj)} {σ : St} {H1 H' : Hp} {s0 s3 : Shared} {e : Addr} {C : Value}
theorem Fl.inv (F : Fl X H1 s0 e C H' s3) (I : Inv X pins σ H1 s0) : Inv X pins σ H' s3 := by
  obtain ⟨a0, B, os, bare, un, hok, _⟩ := F
  exact I.call' (ch := []) os un hok bare (fun b z => absurd z (by simp))
theorem exc_new {P : Program} {w : World} {H : Hp} {h : Heap} {e : Addr} {oe : Obj} {C : Value} (he : h.get? e = some oe) (hc : oe.cls = C) : ObjOk P w (upd H e (excO e C)) h e (excO e C) := ⟨⟨oe, he, hc⟩, ⟨oe, he⟩, fun h1 h2 ⟨o, q, c⟩ k => ⟨o, k o q, c⟩⟩
theorem Fl.suite (F : Fl X H1 s0 e C H' s3) (I : Inv X pins σ H1 s0) (hst : X.stack = X.env :: X.outer) (hfr : X.env.frame = some X.env.locals) (hex : X.ex = []) : ∃ oe, oe.cls = C ∧ s3.heap.get? e = some oe ∧ H' e = none ∧ Inv (X.suite e) pins σ (upd H' e (excO e C)) s3 := by
  have I3 := F.inv I
  obtain ⟨a0, B, os, bare, un, hok, hen, heH, fl, cov⟩ := F
  obtain ⟨oe, vs, T, oT, ts, he, hc, hd, _⟩ := fl.2.2.2
  have nfr : e ∉ frs X.stack := fun z => by
    obtain ⟨_, o, ho, hn⟩ := fl.2.2.1.mem z
    rw [he] at ho; cases ho
    exact hn vs hd
  have efr : frs X.stack = X.env.locals :: X.fs := by rw [hst]; exact frs_cons hfr
  rw [efr] at nfr
  refine ⟨oe, hc.1, he, heH, (I3.track (u := excO e C) ?_ heH (fun z => nfr (by rw [z]; exact List.mem_cons_self)) (fun x c q z => ?_) (fun p hp z => ?_) (exc_new he hc.1)).toSuite⟩
  · cases z : X.s₀.heap.get? e with
    | none => rfl
    | some o =>
      obtain ⟨o', e'⟩ := I.base.there e o z (by rw [hex]; simp)
      rw [hen] at e'; cases e'
  · obtain ⟨v, o, ho, hdc⟩ := I3.cell x c q
    rw [z, he] at ho; cases ho
    rw [hd] at hdc; cases hdc
  · have := (I.pin p hp).1
    rw [z, hen] at this; cases this
/-- a station in this frame -/
theorem Fl.step {h' : Heap} {g : Shared → Shared} (F : Fl X H1 s0 e C H' s3) (I : Inv X pins σ H1 s0) {l : Prop} (st : ∀ a0 B, Heap.FlyingW B X.stack e C a0 s3.heap → Heap.FlyingW B X.stack e C a0 h') (up : s3.heap.UpToSlots h') : Fl X H1 s0 e C H' { s3 with heap := h' } := by
  have I3 := F.inv I
  obtain ⟨a0, B, os, bare, un, hok, hen, heH, fl, cov⟩ := F
  have fl2 := st a0 B fl
  obtain ⟨hok3, un3, cov3⟩ := fly_step hok un cov fl2.1 up (fr_free I3 fl.2.2.1 fun b hb => hb)
  exact ⟨a0, B, os, bare, un3, hok3, hen, heH, fl2, cov3⟩
end
/-! ### what may raise: a call in a try's body -/
abbrev TX := St → Hp → VK → XK → Prop
/-- how an exception lies in this frame -/
def XP (X : Cx) (pins : List (Addr × Obj)) (σ : St) (E : XK) (ev : Value) (s' : Shared) : Prop := ∃ H1 s1 e C H', Inv X pins σ H1 s1 ∧ ev = .ref e ∧ Fl X H1 s1 e C H' s' ∧ E C none H'
structure QX (X : Cx) (e : Expr) (t : TX) : Prop where
  h : ∀ (pins : List (Addr × Obj)) (s : Shared) (σ : St) (H : Hp) (Q : VK) (E : XK), Inv X pins σ H s → t σ H Q E → wpAny (model X.prog X.w) X.A (eval e X.env) (EP X pins σ Q) (XP X pins σ E) s
section
variable {X : Cx} {k : Nat} {f C : Addr} {fd : FuncData} {ps : List Str} {sp : Sp} {dvs : List V} {ds : List Value} {E : XK} {x m : Str} {p pos apos : Pos} {e o : Expr} {es : List Expr} {ta : TE} {t : TA}
theorem PA.nox {es : List Expr} {t : TA} (h : PA X.nox es t) : PA X es t := fun pos pins s σ H Q I hw =>
  wpAny_mono (h pos pins s σ H Q (I.wish _) hw) (fun _ _ ⟨vs, H', I', r, q⟩ => ⟨vs, H', I'.unwish, r, q⟩) fun _ _ z => False.elim z

theorem run_fnX {pins : List (Addr × Obj)} {σ : St} {H : Hp} {s : Shared} {Q : VK} {us : List Value} {vs : List V} (F : FnOk X.prog X.w X.K X.mg X.base (CX1 X.prog X.w) k f fd ps sp) (hr : Room k X.A) (hb : Binds X.K fd ps ds) (hd : Vals dvs ds)
    (I : Inv X pins σ H s) (r : Vals vs us) (h : sp (vs ++ dvs) H Q E) : wpAny (model X.prog X.w) X.A (call (.ref f) us) (EP X pins σ Q) (XP X pins σ E) s := by
  have r2 : Vals (vs ++ dvs) (us ++ ds) := r.append hd
  have hl : (us ++ ds).length = ps.length := by rw [← r2.length]; exact F.len _ _ _ _ h
  refine wpAny_call (codeAny_mono (F.run X.A X.stack s H ⟨us, []⟩ (us ++ ds) (vs ++ dvs) Q E hr I.env0 (hb s us I.kIn hl) r2 h) fun r s' hq => ?_)
  cases r with
  | error e =>
    obtain ⟨e, C, a0, B, H', rfl, q1, q2, q3, q4, q5, q6, q7, q8, q⟩ := hq
    exact ⟨H, s, e, C, H', I, rfl, ⟨a0, B, q1, q2, q3, q4, q5, q6, q7, q8⟩, q⟩
  | ok fl =>
    cases fl with
    | ret u => exact I.after hq
    | next => exact False.elim hq
    | brk => exact False.elim hq
    | cont => exact False.elim hq
def tCallX (sp : Sp) (dvs : List V) (t : TA) : TX := fun σ H Q E => t σ H fun vs H1 => sp (vs ++ dvs) H1 Q E
def tMethX (C : Addr) (m : Str) (sp : Sp) (dvs : List V) (ta : TE) (t : TA) : TX := fun σ H Q E => ta σ H fun x H1 => rMethO C m x H1 (t σ H1 fun vs H2 => sp (x :: (vs ++ dvs)) H2 Q E)
theorem qx_call (F : FnOk X.prog X.w X.K X.mg X.base (CX1 X.prog X.w) k f fd ps sp) (hr : Room k X.A) (hg : Gl X x) (hm : X.mg x = some (.ref f)) (hk : PySem.W.keepIn X.K (.ref f) = true) (hb : Binds X.K fd ps ds) (hd : Vals dvs ds)
    (ha : QA X.nox (e :: es) t) (hns : noStars (e :: es) = true := by rfl) (hdb : (x == ("__debug__" : Str)) = false := by decide) : QX X (.Call (.Name x p) (e :: es) [] pos) (tCallX sp dvs t) := by
  refine ⟨?_⟩
  intro pins s σ H Q E I h
  refine wpAny_Call_Name_kw (ld_glob I hg hm ?_ hdb)
  refine PySem.W.callWith_K (h₀ := X.base) I.ok.mod.kin hk (wpAny_mono (ha.h pos pins s σ H _ (I.wish _) h) (fun us s1 ⟨vs, H1, I1, r, q⟩ => ⟨I1.kIn, ?_⟩) fun _ _ z => False.elim z) (star_of hns) (star_any (star_tail hns))
  exact run_fnX F hr hb hd I1.unwish r q
end
/-! ### a try's body -/
abbrev TBX := Ends → XK → St → Hp → Prop
structure QBX (X : Cx) (st : List Stmt) (t : TBX) : Prop where
  h : ∀ (pins : List (Addr × Obj)) (s : Shared) (σ : St) (H : Hp) (D : Ends) (E : XK), Inv X pins σ H s → t D E σ H → wpAny (model X.prog X.w) X.A (execs st X.env) (SP X pins D) (XP X pins σ E) s
def tDropX (t : TX) : TBX := fun D E σ H => t σ H (fun _ H1 => D.nx σ H1) E
def tAsgX (t : TX) (i : Nat) : TBX := fun D E σ H => t σ H (fun v H1 => D.nx (σ.set i (some v)) H1) E
section
variable {X : Cx} {e : Expr} {t : TX} {pos pos' : Pos} {x : Str} {i : Nat}
theorem one_bx {st : Stmt} {E : Value → Shared → Prop} {pins : List (Addr × Obj)} {D : Ends} {s : Shared} (h : wpAny (model X.prog X.w) X.A (exec st X.env) (SP X pins D) E s) : wpAny (model X.prog X.w) X.A (execs [st] X.env) (SP X pins D) E s := by
  refine wpAny_execs_cons (thn h fun f s1 q => ?_)
  cases f with
  | next => exact wpAny_execs_nil q
  | ret v => exact q
  | brk => exact q
  | cont => exact q
theorem qbx_expr (he : QX X e t) (hs : isCompr e = false := by rfl) : QBX X [.Expr e pos] (tDropX t) := ⟨fun pins s σ H D E I h =>
  one_bx (wpAny_Expr_any (thn (he.h pins s σ H _ E I h) fun v s1 ⟨x, H1, I1, r1, q1⟩ => ⟨σ, H1, I1, q1⟩) I.quiet (swaps_no hs))⟩
end
/-! ### the clauses -/
abbrev TH := Value → Ends → St → Hp → Prop
structure QH (X : Cx) (hs : List ExceptHandler) (t : TH) : Prop where
  h : ∀ (pins : List (Addr × Obj)) (σ : St) (H1 : Hp) (s0 : Shared) (e : Addr) (C : Value) (H' : Hp) (s3 : Shared) (D : Ends), Inv X pins σ H1 s0 → Fl X H1 s0 e C H' s3 → t C D σ H' → wpAny (model X.prog X.w) X.A (handleBy (.ref e) X.env hs) (SP X pins D) X.xe s3
section
variable {X : Cx}
def tNoH : TH := fun _ _ _ _ => False
theorem qh_nil : QH X [] tNoH := ⟨fun _ _ _ _ _ _ _ _ _ _ _ h => False.elim h⟩
theorem exc_match {M : Model} {A : Around} {E : Value → Shared → Prop} {s : Shared} {K : PySem.W.Frag} {T e : Addr} {oe : Obj} {b : Bool} {Q : Bool → Shared → Prop} (hK : K.In s.heap) (hT : ExcC K T) (he : s.heap.get? e = some oe) (hsub : subIn K oe.cls (.ref T) = some b) (hq : Q b s) : wpAny M A (excMatches (.ref e) (.ref T)) Q E s := by
  obtain ⟨bm, N', nm, qn, bs, hdct, sn, sub, ab, col, dd, k0, k1, k2, k3, k5, mN, hC, hN, hni, TL⟩ := exc_obj hK hT
  obtain ⟨h, g, d, tk, os⟩ := s
  have hbase := TL.hasType PySem.F.excBase_ValueError.hasBase
  have hcB : (Value.ref T :: bm).contains (.type "BaseException") = true := by rw [List.contains_cons, hbase, Bool.or_true]
  have f := tc_notTuple
  have L := looks_subIn (M := M) hK hsub
  unfold excMatches
  repeat (first | with_reducible refine wpAny_loadPart_at he ?_ | with_reducible refine wpAny_loadPart_at hC ?_ | (with_reducible refine wpAny_isSubtype_exc hC ?_; rw [hcB]) | with_reducible refine L.at ?_ | wp_step)
  cases b <;> (wp_walk; exact hq)

theorem SP.ofSuite {pins : List (Addr × Obj)} {e : Addr} {D : Ends} {f : Flow} {s' : Shared} (ok : X.Ok) (h : SP (X.suite e) pins D f s') : SP X pins D f s' := by
  cases f with
  | next => obtain ⟨σ', H', I, q⟩ := h; exact ⟨σ', H', I.ofSuite ok, q⟩
  | brk => obtain ⟨σ', H', I, q⟩ := h; exact ⟨σ', H', I.ofSuite ok, q⟩
  | cont => obtain ⟨σ', H', I, q⟩ := h; exact ⟨σ', H', I.ofSuite ok, q⟩
  | ret u => obtain ⟨v, σ', H', I, r, q⟩ := h; exact ⟨v, σ', H', I.ofSuite ok, r, q⟩
/-- behind a suite whose name goes -/
abbrev Ends.gone (D : Ends) (i : Nat) : Ends := { nx := fun σ H => D.nx (σ.set i none) H, rt := D.rt, bk := fun σ H => D.bk (σ.set i none) H, ct := fun σ H => D.ct (σ.set i none) H }
variable {x n : Str} {np pos : Pos} {T : Addr} {b₀ : Stmt} {suite : List Stmt} {rest : List ExceptHandler} {ts : Addr → TS} {tr : TH} {i : Nat}
def rSuite (C : Value) (H : Hp) (R : Addr → Hp → Prop) : Prop := ∀ e, H e = none → R e (upd H e (excO e C))
def rClause (K : PySem.W.Frag) (T : Addr) (C : Value) (A B : Prop) : Prop := ∃ b, subIn K C (.ref T) = some b ∧ if b = true then A else B
def tH0 (K : PySem.W.Frag) (T : Addr) (ts : Addr → TS) (tr : TH) : TH := fun C D σ H => rClause K T C (rSuite C H fun e H2 => ts e D σ H2) (tr C D σ H)
def tHN (K : PySem.W.Frag) (T : Addr) (i : Nat) (ts : Addr → TS) (tr : TH) : TH := fun C D σ H => rClause K T C (rSuite C H fun e H2 => ts e (D.gone i) (σ.set i (some (.ref e))) H2) (tr C D σ H)
theorem qh_consN (K : PySem.W.Frag) (hK : X.K = K) (hst : X.stack = X.env :: X.outer) (hfr : X.env.frame = some X.env.locals) (hex : X.ex = []) (hN : X.N.Nodup) (hi : X.N[i]? = some n) (hl : X.env.scope.names.lookup n = some .local) (hg : Gl X x) (hm : X.mg x = some (.ref T)) (hT : ExcC K T)
    (hs : ∀ e : Addr, QB (X.suite e) (b₀ :: suite) (ts e)) (hr : QH X rest tr) (hdb : (x == ("__debug__" : Str)) = false := by decide) :
    QH X (.ExceptHandler (some (.Name x np)) (some n) (b₀ :: suite) pos :: rest) (tHN K T i ts tr) := by
  subst hK
  refine ⟨?_⟩
  intro pins σ H1 s0 e C H' s3 D I F h
  obtain ⟨oe, rfl, he3, heH, IS⟩ := F.suite I hst hfr hex
  obtain ⟨b, hsub, h⟩ := h
  refine wpAny_handleBy_cons (codeAny_handlers_test ?_) (by intro q; cases q)
  refine ld_glob IS hg hm ?_ hdb
  refine exc_match IS.kIn hT he3 hsub ?_
  cases b with
  | false => exact hr.h pins σ H1 s0 e _ H' s3 D I F h
  | true =>
    have okX := I.ok
    refine codeAny_handlers_suite_as ?_
    have F2 := F
    obtain ⟨a0, B, q1, q2, q3, q4, q5, q6, q7, q8⟩ := F2
    refine lands_againW q7 fun h' fl' up => ?_
    have I3 := F.inv I
    obtain ⟨hok3, un3, cov3⟩ := fly_step q4 q3 q8 fl'.1 up (fr_free I3 q7.2.2.1 fun b hb => hb)
    have F3 : Fl X H1 s0 e oe.cls H' { s3 with heap := h' } := ⟨a0, B, q1, q2, un3, hok3, q5, q6, fl', cov3⟩
    obtain ⟨oe4, ec4, _, _, IS4⟩ := F3.suite I hst hfr hex
    have hf : (X.suite e).fn n = true ∨ (X.suite e).env.scope.names.lookup n = some .local := .inr hl
    refine store_ok (X := X.suite e) (v := .ref e) IS4 hN hi (.inl hl) rfl (fun s5 IS5 => ?_) hf
    have := (hs e).h pins _ _ _ (D.gone i) IS5 (h e q6)
    refine wpAny_mono this (fun f s6 hsp => ?_) fun _ _ z => False.elim z
    show wpAny (model X.prog X.w) X.A (do bindName X.env n .none; unbindBehindTheSuite X.env n pos) (fun _ s₃ => SP X pins D f s₃) X.xe s6
    cases f with
    | next => obtain ⟨σ', H', I, q⟩ := hsp; exact goes_ok (I.ofSuite okX) hN hi hl fun s7 I7 => ⟨_, _, I7, q⟩
    | brk => obtain ⟨σ', H', I, q⟩ := hsp; exact goes_ok (I.ofSuite okX) hN hi hl fun s7 I7 => ⟨_, _, I7, q⟩
    | cont => obtain ⟨σ', H', I, q⟩ := hsp; exact goes_ok (I.ofSuite okX) hN hi hl fun s7 I7 => ⟨_, _, I7, q⟩
    | ret u => obtain ⟨v, σ', H', I, r, q⟩ := hsp; exact goes_ok (I.ofSuite okX) hN hi hl fun s7 I7 => ⟨_, _, _, I7, r, q⟩
end
/-! ### try -/
section
variable {X : Cx} {body : List Stmt} {h₀ : ExceptHandler} {hs : List ExceptHandler} {pos : Pos} {tb : TBX} {th : TH}
def tTry (tb : TBX) (th : TH) : TS := fun D σ H => tb D (fun C _ H' => th C D σ H') σ H
theorem qs_try (hst : X.stack = X.env :: X.outer) (hfr : X.env.frame = some X.env.locals) (hb : QBX X body tb) (hh : QH X (h₀ :: hs) th) : QS X (.Try body (h₀ :: hs) [] [] pos) (tTry tb th) := by
  refine ⟨?_⟩
  intro pins s σ H D I h
  refine wpAny_Try_except (wpAny_mono (hb.h pins s σ H D _ I h) (fun f s1 q => ?_) fun ev s1 ⟨H1, s0, e, C, H', I1, eq, F, q⟩ => ?_)
  · cases f with
    | next => exact wpAny_execs_nil q
    | brk => exact q
    | cont => exact q
    | ret u => exact q
  · subst eq
    have I3 := F.inv I1
    have F2 := F
    obtain ⟨a0, B, q1, q2, q3, q4, q5, q6, q7, q8⟩ := F2
    have hfrs : X.A.frames = some (X.env :: X.outer) := by rw [← hst]; exact I.ok.frames
    have q7' : Heap.FlyingW B (X.env :: X.outer) e C a0 s1.heap := by rw [← hst]; exact q7
    refine wpAny_looks_onW hfrs hfr q7' fun h4 hheld up4 => ?_
    refine wpAny_landsW hheld fun h5 fl5 up5 => ?_
    have fl5' : Heap.FlyingW B X.stack e C a0 h5 := by rw [hst]; exact fl5
    obtain ⟨hok3, un3, cov3⟩ := fly_step q4 q3 q8 fl5'.1 (up4.trans up5) (fr_free I3 q7.2.2.1 fun b hb => hb)
    exact hh.h pins σ H1 s0 e C H' { s1 with heap := h5 } D I1 ⟨a0, B, q1, q2, un3, hok3, q5, q6, fl5', cov3⟩ q
end
end L2

set_option Elab.async false
set_option linter.all false
set_option maxRecDepth 100000
set_option maxHeartbeats 4000000
namespace L2
open PySem PySem.Spec PyProof.Rows PySem.W PySem.Builtin PySem.Builtin.ObjectAttr PySem.Builtin.Getset_descriptor
/-! ### isinstance of an exception -/
/-- what is asked of an exception's class -/
structure ExcA (K : PySem.W.Frag) (C : Addr) : Prop where
  ga : findIn K (.ref C) "__getattribute__" = some (some (.builtin "BaseException.__getattribute__"))
  gt : findIn K (.ref C) "__getattr__" = some none
  cl : findIn K (.ref C) "__class__" = some (some (.builtin "object.__class__"))
  ob : mroIn K C (.type "object") = some true
  be : mroIn K C (.type "BaseException") = some true
section
variable {prog : Program} {w : World} {A : Around} {E : Value → Shared → Prop} {h : Heap} {g : Array GenState} {d : Drawn} {t : Nat} {os : OsState} {a C : Addr} {o : Obj} {K : PySem.W.Frag}
theorem exc_ty {M : Model} (hx : h.get? a = some o) (hc : o.cls = .ref C) : Looks M h (typeOf (.ref a)) (.ref C) := hc ▸ (Looks.ld hx).andThen .now
theorem class_get_exc {R : Result → Shared → Prop} {tp : Value} (X : K.In h) (hx : h.get? a = some o) (hc : o.cls = .ref C) (F : ExcA K C) (hq : R (.ok (.ret (.ref C))) ⟨h, g, d, t, os⟩) :
    codeAny (model prog w) A (.call (.builtin "getset_descriptor.__get__") ⟨[.builtin "object.__class__", .ref a, tp], []⟩) R ⟨h, g, d, t, os⟩ := by
  have L0 := exc_ty (M := model prog w) hx hc
  have L1 := looks_mroIn (M := model prog w) X F.ob
  refine codeAny_call_builtin KF.slot_gs.plain KF.entry_gs (KF.slot_gs.check _ _ _ _ _ _ _ _ KF.type_class (KF.args_gs _ _ _) ?_)
  unfold Builtin.«getset_descriptor.__get__» descrGet
  rw [dga_obj]
  refine wpAny_bind (wpAny_pure ?_)
  unfold descrGetter descrCheckInstance descrNameAndClass isInstance
  simp only [KF.owner_class]
  repeat lk
  refine ⟨Code.quiet_builtin _ (by decide +kernel), codeAny_builtin KF.entry_class ?_⟩
  unfold Builtin.«object.__class__» shownTypeOf
  repeat lk
  exact hq
theorem check_ga_exc {M : Model} {nameV : Value} {Q : Unit → Shared → Prop} (X : K.In h) (hx : h.get? a = some o) (hc : o.cls = .ref C) (F : ExcA K C) (hq : Q () ⟨h, g, d, t, os⟩) : wpAny M A (checkBuiltinCall "BaseException.__getattribute__" ⟨[.ref a, nameV], []⟩) Q E ⟨h, g, d, t, os⟩ := by
  have hk : builtinKind "BaseException.__getattribute__" = some .slot := by decide +kernel
  have hsplit : splitId "BaseException.__getattribute__" = some ("BaseException", "__getattribute__") := by decide +kernel
  have ha := PySem.F.args_bexc_ga (.ref a) nameV
  have L0 := exc_ty (M := M) hx hc
  have L1 := looks_mroIn (M := M) X F.be
  simp only [checkBuiltinCall, hk, hsplit]
  refine wpAny_bind ?_
  unfold isInstance
  repeat (first | with_reducible refine L0.at ?_ | with_reducible refine L1.at ?_ | wp_step)
  exact hq
theorem class_entry_exc {tk : Tok} {Q : Fin → Shared → Prop} (X : K.In h) (hx : h.get? a = some o) (hc : o.cls = .ref C) (F : ExcA K C) (hq : Q (.done (.ret (.ref C))) ⟨h, g, d, t, os⟩) :
    wpAny (model prog w) A (Builtin.«object.__getattribute__» ⟨[.ref a, .str "__class__" tk], []⟩) Q E ⟨h, g, d, t, os⟩ := by
  have hT5 : (⟨h, g, d, t, os⟩ : Shared).TypeIs (.builtin "object.__class__") "getset_descriptor" := PySem.F.typeOf_object_class
  have f5 := PySem.F.typeOf_object_class
  have f6 := PySem.F.slot_gs_get.lookup
  have f7 := PySem.F.slot_gs_set.lookup
  have L2 := looks_findIn (M := model prog w) X F.cl
  repeat (any_goals (first | assumption | (with_reducible refine wpAny_loadPart_at hx ?_; rw [hc]) | with_reducible refine L2.at ?_ | wp_step))
  refine class_get_exc X hx hc F ?_
  repeat (any_goals (first | assumption | wp_step))
theorem class_call_exc {tk : Tok} {R : Result → Shared → Prop} (X : K.In h) (hx : h.get? a = some o) (hc : o.cls = .ref C) (F : ExcA K C) (hq : R (.ok (.ret (.ref C))) ⟨h, g, d, t, os⟩) :
    codeAny (model prog w) A (.call (.builtin "BaseException.__getattribute__") ⟨[.ref a, .str "__class__" tk], []⟩) R ⟨h, g, d, t, os⟩ :=
  codeAny_call_builtin PySem.F.attr_ValueError.ga.plain PySem.F.entry_bexc_ga (check_ga_exc X hx hc F (class_entry_exc X hx hc F hq))
theorem class_by_exc {tk : Tok} {Q : Value → Shared → Prop} (X : K.In h) (hx : h.get? a = some o) (hc : o.cls = .ref C) (F : ExcA K C) (hq : Q (.ref C) ⟨h, g, d, t, os⟩) :
    wpAny (model prog w) A (getAttrBy (.ref a) (.str "__class__" tk) false) Q E ⟨h, g, d, t, os⟩ := by
  have f3 := PySem.F.attr_ValueError.ga.bind (.ref a)
  have hx2 : (Value.builtin "BaseException.__getattribute__" == Value.builtin "object.__getattribute__") = false := by decide +kernel
  have hx1 : (onTheHeap (Value.ref C) && Value.builtin "BaseException.__getattribute__" == Value.builtin "object.__getattribute__") = false := by rw [hx2]; rfl
  have L1 := looks_findIn (M := model prog w) X F.ga
  have L2 := looks_findIn (M := model prog w) X F.gt
  repeat (any_goals (first | assumption | (with_reducible refine wpAny_loadPart_at hx ?_; rw [hc]) | with_reducible refine L1.at ?_ | with_reducible refine L2.at ?_ | wp_step))
  refine class_call_exc X hx hc F ?_
  repeat (any_goals (first | assumption | wp_step))
theorem class_attr_exc {Q : Option Value → Shared → Prop} (X : K.In h) (hx : h.get? a = some o) (hc : o.cls = .ref C) (F : ExcA K C) (hq : Q (some (.ref C)) ⟨h, g, d, t + 1, os⟩) : wpAny (model prog w) A (getAttr? (.ref a) "__class__") Q E ⟨h, g, d, t, os⟩ := by
  unfold getAttr? getAttrBy?
  repeat (any_goals (first | assumption | with_reducible apply class_by_exc X hx hc F | wp_step))
end
section
variable {K : PySem.W.Frag}
theorem kitx_exc {e C : Addr} (hC : ExcC K C) (F : ExcA K C) : KitX K (.ref e) (.ref C) (fun h => ∃ oe, h.get? e = some oe ∧ oe.cls = .ref C) where
  ty := fun _ _ _ ⟨oe, h1, h2⟩ => exc_ty h1 h2
  it := fun _ h X _ => by
    obtain ⟨bm, N', nm, qn, bs, hdct, sn, sub, ab, col, dd, k0, k1, k2, k3, k5, mN, hCo, _⟩ := exc_obj X hC
    intro A' Q' E' s' k q
    unfold isType loadHead
    exact wpAny_bind (wpAny_loadPart (k _ _ hCo) (wpAny_pure q))
  ne := fun h tp dd its n sl X htp => by
    obtain ⟨bm, N', nm, qn, bs, hdct, sn, sub, ab, col, dd', k0, k1, k2, k3, k5, mN, hCo, _⟩ := exc_obj X hC
    refine Bool.eq_false_iff.mpr fun q => ?_
    have e : C = tp := Value.ref.inj (beq_iff_eq.mp q)
    subst e
    have z := congrArg Obj.data (Option.some.inj (hCo.symm.trans htp))
    unfold excClassObj at z
    cases z
  ca := fun {_ _ _ _ _ s} X ⟨oe, h1, h2⟩ k => by
    obtain ⟨h, g, d, t, os⟩ := s
    exact class_attr_exc X h1 h2 F k
end
/-- the classes asked for, as values -/
def ClsV : V → Value → Prop
  | .ref T, u => u = .ref T
  | .ty n, u => u = .type n
  | _, _ => False
def rIsiE (K : PySem.W.Frag) : List V → Hp → VK → Prop := fun xs H Q => ∃ e C y u b, xs = [.ref e, y] ∧ H e = some (excO e (.ref C)) ∧ ExcC K C ∧ ExcA K C ∧ ClsV y u ∧ PySem.W.kitOne K (.ref C) u = some b ∧ Q (.bl b) H
theorem clsv_rel {y : V} {u v : Value} (h : ClsV y u) (r : RelV y v) : v = u := by
  cases y <;> first | exact False.elim h | (obtain rfl := h; exact r)
section
variable {X : Cx}
theorem call_isiE : CallR X (.builtin "isinstance") (rIsiE X.K) := by
  intro pins s σ H xs us Q I r h
  obtain ⟨e, C, y, u, b, rfl, he, hC, F, hy, hk, q⟩ := h
  obtain ⟨v1, v2, rfl, r1, r2⟩ := r.two
  obtain rfl : v1 = Value.ref e := r1
  obtain rfl := clsv_rel hy r2
  obtain ⟨p, _⟩ := (show ObjOk X.prog X.w H s.heap e (excO e (.ref C)) from I.hok e _ he)
  exact PySem.W.kia_one (kitx_exc hC F) I.kIn p hk (fun z => nomatch z) fun tk => ⟨.bl b, H, I.tok _, rfl, q⟩
theorem kc_isiE (K : PySem.W.Frag) (h : X.K = K) : CallR X (.builtin "isinstance") (rIsiE K) := h ▸ call_isiE
end
/-! ### a def called while an exception is handled: nothing leaves it, and it makes no loop -/
structure FnOkN (P : Program) (w : World) (K : PySem.W.Frag) (mg : Str → Option Value) (base : Heap) (k : Nat) (f : Addr) (fd : FuncData) (ps : List Str) (sp : Sp) : Prop where
  len : ∀ vs H Q E, sp vs H Q E → vs.length = ps.length
  run : ∀ (A : Around) (outer : List Env) (s : Shared) (H : Hp) (args : Args) (us : List Value) (vs : List V) (Q : VK) (E : XK), Room k { A with handled := none } → Env0 P w K mg base A outer s H → BindsTo s fd args (ps.zip us) → Vals vs us → sp vs H Q E →
    codeAny (model P w) A (.call (.ref f) args) (CR CX0 outer P w H s Q E) s
abbrev cxN (P : Program) (w : World) (K : PySem.W.Frag) (mg : Str → Option Value) (base : Heap) (N : List Str) (qual : Str) (scope : Scope) (f : Addr) (cd : Value) (A : Around) (outer : List Env) (s : Shared) (H : Hp) : Cx := { cxOf CX0 P w K mg base N qual scope f cd A outer s H E0 with calm := false, xe := fun _ _ => False }
theorem Fun.okN {P : Program} {w : World} {K : PySem.W.Frag} {mg : Str → Option Value} {base : Heap} {x qual : Str} {st : Stmt} {f : Addr} {fd : FuncData} {N ps : List Str} {k : Nat} {sp : Sp} (F : Fun K x qual st f fd) (S : FnScope N ps (defScope st)) (len : ∀ vs H Q E, sp vs H Q E → vs.length = ps.length)
    (hbody : ∀ (cdv : Value) (A : Around) (outer : List Env) (s : Shared) (H : Hp) (vs : List V) (Q : VK) (E : XK), sp vs H Q E →
      ∃ t, PSs (cxN P w K mg base N qual (defScope st) f cdv A outer s H) (defBody st) t ∧ t { nx := fun _ H' => Q .non H', rt := Q } (start N vs) H) : FnOkN P w K mg base (k + 1) f fd ps sp := by
  obtain ⟨oc, od, kV, doc, pm, an, cdv, ct, osl, rfl, lk, hcd⟩ := F.ex
  refine ⟨len, fun A outer s H args us vs Q E hr e0 hb r hsp => ?_⟩
  have hl := len _ _ _ _ hsp
  have KX : K.In s.heap := e0.mod.kin.keeps fun b o e => (e0.bs b o e).1
  have lim : s.heap.NoLimit := e0.mod.nolimit.keeps fun b o e => (e0.bs b o e).1
  have hkind : ∀ y ∈ ps.zip us, (defScope st).names.lookup y.1 = some .local ∨ ((defScope st).names.lookup y.1 = some .cell ∧ ((cellsFrom (s.heap.objs.size + 1) (defScope st).names []).lookup y.1).isSome = true) := fun ⟨n, v⟩ hy => by
    rcases S.par n (List.of_mem_zip hy).1 with q | q
    · exact .inl q
    · exact .inr ⟨q, PySem.W.cellsFrom_some _ _ _ (.inl q)⟩
  refine codeAny_call_function (show A.depth < recursionLimit from hr.depth) (KX _ _ lk) rfl S.co S.gen rfl (PySem.W.codeRec_of KX hcd) (hb _ _ _ _ ?_)
  refine wpAny_newFunctionEnv_cells S.kind hkind fun env he s1 x => ?_
  subst he
  refine ⟨lim.keeps x.toInCall.keep, codeAny_func ?_⟩
  obtain ⟨t, ht, hq⟩ := hbody cdv A outer s H vs Q E hsp
  have e0' : Env0 P w K mg base { A with handled := none } outer s H := ⟨e0.frames, e0.mod, e0.bs, e0.bsz, e0.funs, e0.frf, e0.hok, e0.bare⟩
  have I0 : Inv (cxOf CX0 P w K mg base N qual (defScope st) f cdv { A with handled := none } outer s H E0) [] (start N vs) H s1 := inv_start S rfl e0' hl r x
  have I : Inv (cxN P w K mg base N qual (defScope st) f cdv A outer s H) [] (start N vs) H s1 := I0.around (A' := A.deeper (envOfC qual (defScope st) s.heap.objs.size f cdv)) (xe' := fun _ _ => False) rfl
  refine wpAny_mono (ht [] s1 (start N vs) H _ I hq) (fun fl s' hs => ?_) fun e s' hs => False.elim hs
  have fin : ∀ {σ' : St} {H' : Hp} {v : V} {u : Value}, Inv (cxN P w K mg base N qual (defScope st) f cdv A outer s H) [] σ' H' s' → RelV v u → Q v H' → CE outer P w H s Q u s' :=
    fun {σ' H' v u} J rv q => ⟨v, H', J.os, J.bare, J.base, J.hok, rv, q⟩
  cases fl with
  | ret u =>
    obtain ⟨v, σ', H', J, rv, q⟩ := hs
    exact fin J rv q
  | next =>
    obtain ⟨σ', H', J, q⟩ := hs
    exact fin (v := V.non) (u := Value.none) J rfl q
  | brk =>
    obtain ⟨_, _, _, q⟩ := hs
    exact False.elim q
  | cont =>
    obtain ⟨_, _, _, q⟩ := hs
    exact False.elim q
section
variable {X : Cx} {k : Nat} {f : Addr} {fd : FuncData} {ps : List Str} {sp : Sp} {dvs : List V} {ds : List Value} {x : Str} {p pos : Pos} {e : Expr} {es : List Expr} {t : TA}
theorem qe_callN (F : FnOkN X.prog X.w X.K X.mg X.base k f fd ps sp) (hr : Room k { X.A with handled := none }) (hg : Gl X x) (hm : X.mg x = some (.ref f)) (hk : PySem.W.keepIn X.K (.ref f) = true) (hb : Binds X.K fd ps ds) (hd : Vals dvs ds)
    (ha : QA X (e :: es) t) (hns : noStars (e :: es) = true := by rfl) (hdb : (x == ("__debug__" : Str)) = false := by decide) : QE X (.Call (.Name x p) (e :: es) [] pos) (tCall sp dvs E0 t) := by
  refine ⟨?_⟩
  intro pins s σ H Q I h
  refine wpAny_Call_Name_kw (ld_glob I hg hm ?_ hdb)
  refine PySem.W.callWith_K (h₀ := X.base) I.ok.mod.kin hk (thn (ha.h pos pins s σ H _ I h) fun us s1 ⟨vs, H1, I1, r, q⟩ => ⟨I1.kIn, ?_⟩) (star_of hns) (star_any (star_tail hns))
  have r2 : Vals (vs ++ dvs) (us ++ ds) := r.append hd
  have hl : (us ++ ds).length = ps.length := by rw [← r2.length]; exact F.len _ _ _ _ q
  refine wpAny_call (codeAny_mono (F.run X.A X.stack s1 H1 ⟨us, []⟩ (us ++ ds) (vs ++ dvs) Q E0 hr I1.env0 (hb s1 us I1.kIn hl) r2 q) fun r s' hq => ?_)
  cases r with
  | error e => exact False.elim hq
  | ok fl =>
    cases fl with
    | ret u => exact I1.after hq
    | next => exact False.elim hq
    | brk => exact False.elim hq
    | cont => exact False.elim hq
end
/-! ### how they are read -/
section
variable {K : PySem.W.Frag} {σ : St} {H : Hp} {Q : VK} {D : Ends} {E : XK} {C T e : Addr} {t : TA} {tb : TBX} {th : TH} {ts : Addr → TS} {tr : TH} {i : Nat}
def rRaise (E : XK) (C : Addr) (vs : List V) (H : Hp) : Prop := vs.length ≤ sizeLine ∧ E (.ref C) none H
theorem rd_raise0 (h : t σ H fun vs H1 => rRaise E C vs H1) : tRaise E C t D σ H := h
theorem rd_raise {vs : List V} (h : vs.length ≤ 1000) (q : E (.ref C) none H) : rRaise E C vs H := ⟨Nat.le_trans h (by decide), q⟩
theorem rd_try (h : tb D (fun C _ H' => th C D σ H') σ H) : tTry tb th D σ H := h
theorem rd_callX {sp : Sp} {dvs : List V} (h : t σ H fun vs H1 => sp (vs ++ dvs) H1 Q E) : tCallX sp dvs t σ H Q E := h
theorem rd_methX {m : Str} {sp : Sp} {dvs : List V} {ta : TE} (h : ta σ H fun x H1 => rMethO C m x H1 (t σ H1 fun vs H2 => sp (x :: (vs ++ dvs)) H2 Q E)) : tMethX C m sp dvs ta t σ H Q E := h
theorem rd_dropX {u : TX} (h : u σ H (fun _ H1 => D.nx σ H1) E) : tDropX u D E σ H := h
theorem rd_asgX {u : TX} (h : u σ H (fun v H1 => D.nx (σ.set i (some v)) H1) E) : tAsgX u i D E σ H := h
theorem rd_clause {C : Value} {A B : Prop} {b : Bool} (hs : subIn K C (.ref T) = some b) (h : if b = true then A else B) : rClause K T C A B := ⟨b, hs, h⟩
theorem rd_h0 {C : Value} (h : rClause K T C (rSuite C H fun e H2 => ts e D σ H2) (tr C D σ H)) : tH0 K T ts tr C D σ H := h
theorem rd_hN {C : Value} (h : rClause K T C (rSuite C H fun e H2 => ts e (D.gone i) (σ.set i (some (.ref e))) H2) (tr C D σ H)) : tHN K T i ts tr C D σ H := h
theorem rd_suite {C : Value} {R : Addr → Hp → Prop} (h : ∀ e H2, H e = none → H2 e = some (excO e C) → Same H H2 → R e H2) : rSuite C H R := fun e he => h e _ he upd_same (Same.new he)
theorem rd_isiE {y : V} {u : Value} {b : Bool} (he : H e = some (excO e (.ref C))) (hC : ExcC K C) (F : ExcA K C) (hy : ClsV y u) (hk : PySem.W.kitOne K (.ref C) u = some b) (q : Q (.bl b) H) : rIsiE K [.ref e, y] H Q := ⟨e, C, y, u, b, rfl, he, hC, F, hy, hk, q⟩
end
end L2
namespace L2
open PySem PySem.Spec PyProof.Rows PySem.W
theorem Room.clr {k : Nat} {A : Around} {v : Option Value} (r : Room k A) : Room k { A.mark v with handled := none } := ⟨rfl, r.dp, r.un, r.gd⟩
section
variable {P : Program} {w : World} {K : PySem.W.Frag} {mg : Str → Option Value} {base : Heap} {N : List Str} {qual : Str} {scope : Scope} {f : Addr} {cd : Value} {A : Around} {outer : List Env} {s : Shared} {H : Hp} {E : XK}
  {x : Str} {np cpos pos : Pos} {e₀ : Expr} {es : List Expr} {t : TA} {C : Addr}
theorem qs_raise (hC : ExcC K C) (hg : Gl (cxE P w K mg base N qual scope f cd A outer s H E) x) (hm : mg x = some (.ref C)) (ha : QA (cxE P w K mg base N qual scope f cd A outer s H E) (e₀ :: es) t)
    (hns : noStars (e₀ :: es) = true := by rfl) (hdb : (x == ("__debug__" : Str)) = false := by decide) :
    QS (cxE P w K mg base N qual scope f cd A outer s H E) (.Raise (some (.Call (.Name x np) (e₀ :: es) [] cpos)) none pos) (tRaise E C t) := ⟨ps_raise hC hg hm ha.h hdb (star_of hns) (star_any (star_tail hns))⟩
end
end L2

set_option Elab.async false
set_option linter.all false
set_option maxRecDepth 100000
set_option maxHeartbeats 1000000
namespace My
open PySem L2
def top (i : Nat) : Stmt := PySem.Challenge.pw_fourpoints_k24_windows_refused.main.body.getD i (.Pass ⟨0, 0, 0, 0⟩)
abbrev s_is_whole : Stmt := top 11
abbrev s_times_of : Stmt := top 13
abbrev s_widened : Stmt := top 14
abbrev s_narrowed : Stmt := top 15
abbrev s_l_nth : Stmt := top 17
abbrev s_l_pot : Stmt := top 18
abbrev s_l_take : Stmt := top 19
abbrev s_l_window : Stmt := top 20
abbrev s_l_wrong : Stmt := top 21
abbrev s_l_is_another : Stmt := top 22
abbrev s_l_no_column : Stmt := top 23
abbrev s_l_no_half : Stmt := top 24
abbrev s_law : Stmt := top 25
set_option genInjectivity false in
set_option genSizeOf false in
set_option genSizeOfSpec false in
structure Ad where
  f_is_whole : Addr
  d_is_whole : FuncData
  f_times_of : Addr
  d_times_of : FuncData
  f_widened : Addr
  d_widened : FuncData
  f_narrowed : Addr
  d_narrowed : FuncData
  f_l_nth : Addr
  d_l_nth : FuncData
  f_l_pot : Addr
  d_l_pot : FuncData
  f_l_take : Addr
  d_l_take : FuncData
  f_l_window : Addr
  d_l_window : FuncData
  f_l_wrong : Addr
  d_l_wrong : FuncData
  f_l_is_another : Addr
  d_l_is_another : FuncData
  f_l_no_column : Addr
  d_l_no_column : FuncData
  f_l_no_half : Addr
  d_l_no_half : FuncData
  f_law : Addr
  d_law : FuncData
  C_FourPointsError : Addr
  C_NoText : Addr
  C_NoColumn : Addr
  C_NotHalf : Addr
  C_OutOfTimes : Addr
  C_NoSample : Addr
  C_NoWatch : Addr
  C_NoName : Addr
  C_NotApart : Addr
structure Txt (K : PySem.W.Frag) (mg : Str → Option Value) (a : Ad) : Prop where
  F_is_whole : Fun K "is_whole" "is_whole" s_is_whole a.f_is_whole a.d_is_whole
  b_is_whole : Binds K a.d_is_whole ["thing"] []
  m_is_whole : mg "is_whole" = some (.ref a.f_is_whole)
  F_times_of : Fun K "times_of" "times_of" s_times_of a.f_times_of a.d_times_of
  b_times_of : Binds K a.d_times_of ["window", "k"] []
  m_times_of : mg "times_of" = some (.ref a.f_times_of)
  F_widened : Fun K "widened" "widened" s_widened a.f_widened a.d_widened
  b_widened : Binds K a.d_widened ["window"] []
  m_widened : mg "widened" = some (.ref a.f_widened)
  F_narrowed : Fun K "narrowed" "narrowed" s_narrowed a.f_narrowed a.d_narrowed
  b_narrowed : Binds K a.d_narrowed ["window"] []
  m_narrowed : mg "narrowed" = some (.ref a.f_narrowed)
  F_l_nth : Fun K "_law_nth" "_law_nth" s_l_nth a.f_l_nth a.d_l_nth
  b_l_nth : Binds K a.d_l_nth ["_law_script", "_law_k"] []
  m_l_nth : mg "_law_nth" = some (.ref a.f_l_nth)
  F_l_pot : Fun K "_law_pot" "_law_pot" s_l_pot a.f_l_pot a.d_l_pot
  b_l_pot : Binds K a.d_l_pot ["_law_cell"] []
  m_l_pot : mg "_law_pot" = some (.ref a.f_l_pot)
  F_l_take : Fun K "_law_take" "_law_take" s_l_take a.f_l_take a.d_l_take
  b_l_take : Binds K a.d_l_take ["_law_pot_here", "_law_many"] []
  m_l_take : mg "_law_take" = some (.ref a.f_l_take)
  F_l_window : Fun K "_law_window" "_law_window" s_l_window a.f_l_window a.d_l_window
  b_l_window : Binds K a.d_l_window ["_law_pot_here"] []
  m_l_window : mg "_law_window" = some (.ref a.f_l_window)
  F_l_wrong : Fun K "_law_wrong" "_law_wrong" s_l_wrong a.f_l_wrong a.d_l_wrong
  b_l_wrong : Binds K a.d_l_wrong ["_law_pot_here", "_law_many"] []
  m_l_wrong : mg "_law_wrong" = some (.ref a.f_l_wrong)
  F_l_is_another : Fun K "_law_is_another" "_law_is_another" s_l_is_another a.f_l_is_another a.d_l_is_another
  b_l_is_another : Binds K a.d_l_is_another ["_law_e"] []
  m_l_is_another : mg "_law_is_another" = some (.ref a.f_l_is_another)
  F_l_no_column : Fun K "_law_no_column" "_law_no_column" s_l_no_column a.f_l_no_column a.d_l_no_column
  b_l_no_column : Binds K a.d_l_no_column ["_law_window_here", "_law_k"] []
  m_l_no_column : mg "_law_no_column" = some (.ref a.f_l_no_column)
  F_l_no_half : Fun K "_law_no_half" "_law_no_half" s_l_no_half a.f_l_no_half a.d_l_no_half
  b_l_no_half : Binds K a.d_l_no_half ["_law_window_here"] []
  m_l_no_half : mg "_law_no_half" = some (.ref a.f_l_no_half)
  F_law : Fun K "law" "law" s_law a.f_law a.d_law
  b_law : Binds K a.d_law ["_law_script"] []
  m_law : mg "law" = some (.ref a.f_law)
  x_FourPointsError : ExcC K a.C_FourPointsError
  y_FourPointsError : ExcA K a.C_FourPointsError
  m_FourPointsError : mg "FourPointsError" = some (.ref a.C_FourPointsError)
  x_NoText : ExcC K a.C_NoText
  y_NoText : ExcA K a.C_NoText
  m_NoText : mg "NoText" = some (.ref a.C_NoText)
  x_NoColumn : ExcC K a.C_NoColumn
  y_NoColumn : ExcA K a.C_NoColumn
  m_NoColumn : mg "NoColumn" = some (.ref a.C_NoColumn)
  x_NotHalf : ExcC K a.C_NotHalf
  y_NotHalf : ExcA K a.C_NotHalf
  m_NotHalf : mg "NotHalf" = some (.ref a.C_NotHalf)
  x_OutOfTimes : ExcC K a.C_OutOfTimes
  y_OutOfTimes : ExcA K a.C_OutOfTimes
  m_OutOfTimes : mg "OutOfTimes" = some (.ref a.C_OutOfTimes)
  x_NoSample : ExcC K a.C_NoSample
  y_NoSample : ExcA K a.C_NoSample
  m_NoSample : mg "NoSample" = some (.ref a.C_NoSample)
  x_NoWatch : ExcC K a.C_NoWatch
  y_NoWatch : ExcA K a.C_NoWatch
  m_NoWatch : mg "NoWatch" = some (.ref a.C_NoWatch)
  x_NoName : ExcC K a.C_NoName
  y_NoName : ExcA K a.C_NoName
  m_NoName : mg "NoName" = some (.ref a.C_NoName)
  x_NotApart : ExcC K a.C_NotApart
  y_NotApart : ExcA K a.C_NotApart
  m_NotApart : mg "NotApart" = some (.ref a.C_NotApart)
  u_NoColumn_FourPointsError : PySem.W.subIn K (.ref a.C_NoColumn) (.ref a.C_FourPointsError) = some true
  k_NoColumn_FourPointsError : PySem.W.kitOne K (.ref a.C_NoColumn) (.ref a.C_FourPointsError) = some true
  u_NoColumn_NoText : PySem.W.subIn K (.ref a.C_NoColumn) (.ref a.C_NoText) = some false
  k_NoColumn_NoText : PySem.W.kitOne K (.ref a.C_NoColumn) (.ref a.C_NoText) = some false
  u_NoColumn_NoColumn : PySem.W.subIn K (.ref a.C_NoColumn) (.ref a.C_NoColumn) = some true
  k_NoColumn_NoColumn : PySem.W.kitOne K (.ref a.C_NoColumn) (.ref a.C_NoColumn) = some true
  u_NoColumn_NotHalf : PySem.W.subIn K (.ref a.C_NoColumn) (.ref a.C_NotHalf) = some false
  k_NoColumn_NotHalf : PySem.W.kitOne K (.ref a.C_NoColumn) (.ref a.C_NotHalf) = some false
  u_NoColumn_OutOfTimes : PySem.W.subIn K (.ref a.C_NoColumn) (.ref a.C_OutOfTimes) = some false
  k_NoColumn_OutOfTimes : PySem.W.kitOne K (.ref a.C_NoColumn) (.ref a.C_OutOfTimes) = some false
  u_NoColumn_NoSample : PySem.W.subIn K (.ref a.C_NoColumn) (.ref a.C_NoSample) = some false
  k_NoColumn_NoSample : PySem.W.kitOne K (.ref a.C_NoColumn) (.ref a.C_NoSample) = some false
  u_NoColumn_NoWatch : PySem.W.subIn K (.ref a.C_NoColumn) (.ref a.C_NoWatch) = some false
  k_NoColumn_NoWatch : PySem.W.kitOne K (.ref a.C_NoColumn) (.ref a.C_NoWatch) = some false
  u_NoColumn_NoName : PySem.W.subIn K (.ref a.C_NoColumn) (.ref a.C_NoName) = some false
  k_NoColumn_NoName : PySem.W.kitOne K (.ref a.C_NoColumn) (.ref a.C_NoName) = some false
  u_NoColumn_NotApart : PySem.W.subIn K (.ref a.C_NoColumn) (.ref a.C_NotApart) = some false
  k_NoColumn_NotApart : PySem.W.kitOne K (.ref a.C_NoColumn) (.ref a.C_NotApart) = some false
  u_NotHalf_FourPointsError : PySem.W.subIn K (.ref a.C_NotHalf) (.ref a.C_FourPointsError) = some true
  k_NotHalf_FourPointsError : PySem.W.kitOne K (.ref a.C_NotHalf) (.ref a.C_FourPointsError) = some true
  u_NotHalf_NoText : PySem.W.subIn K (.ref a.C_NotHalf) (.ref a.C_NoText) = some false
  k_NotHalf_NoText : PySem.W.kitOne K (.ref a.C_NotHalf) (.ref a.C_NoText) = some false
  u_NotHalf_NoColumn : PySem.W.subIn K (.ref a.C_NotHalf) (.ref a.C_NoColumn) = some false
  k_NotHalf_NoColumn : PySem.W.kitOne K (.ref a.C_NotHalf) (.ref a.C_NoColumn) = some false
  u_NotHalf_NotHalf : PySem.W.subIn K (.ref a.C_NotHalf) (.ref a.C_NotHalf) = some true
  k_NotHalf_NotHalf : PySem.W.kitOne K (.ref a.C_NotHalf) (.ref a.C_NotHalf) = some true
  u_NotHalf_OutOfTimes : PySem.W.subIn K (.ref a.C_NotHalf) (.ref a.C_OutOfTimes) = some false
  k_NotHalf_OutOfTimes : PySem.W.kitOne K (.ref a.C_NotHalf) (.ref a.C_OutOfTimes) = some false
  u_NotHalf_NoSample : PySem.W.subIn K (.ref a.C_NotHalf) (.ref a.C_NoSample) = some false
  k_NotHalf_NoSample : PySem.W.kitOne K (.ref a.C_NotHalf) (.ref a.C_NoSample) = some false
  u_NotHalf_NoWatch : PySem.W.subIn K (.ref a.C_NotHalf) (.ref a.C_NoWatch) = some false
  k_NotHalf_NoWatch : PySem.W.kitOne K (.ref a.C_NotHalf) (.ref a.C_NoWatch) = some false
  u_NotHalf_NoName : PySem.W.subIn K (.ref a.C_NotHalf) (.ref a.C_NoName) = some false
  k_NotHalf_NoName : PySem.W.kitOne K (.ref a.C_NotHalf) (.ref a.C_NoName) = some false
  u_NotHalf_NotApart : PySem.W.subIn K (.ref a.C_NotHalf) (.ref a.C_NotApart) = some false
  k_NotHalf_NotApart : PySem.W.kitOne K (.ref a.C_NotHalf) (.ref a.C_NotApart) = some false
  z_ValueError : mg "ValueError" = none
  z_abs : mg "abs" = none
  z_bool : mg "bool" = none
  z_int : mg "int" = none
  z_isinstance : mg "isinstance" = none
  z_len : mg "len" = none
  z_max : mg "max" = none
  z_min : mg "min" = none
  z_range : mg "range" = none
local macro_rules | `(tactic| walk_at "sd") => `(tactic| first
  | (show (0 : Int) < _; omega)
  | decide
  | exact mulL (by omega) (by omega)
  | exact mulR (by omega) (by omega)
  | exact CDivB.of (k := 250) (by omega) (by omega) (by decide)
  | exact Or.inr ⟨by omega, by omega⟩
  | exact Or.inl ⟨by omega, by omega⟩
  | exact cpow_lit (by omega) (by omega) (by decide))
local macro_rules | `(tactic| walk_at "hp") => `(tactic| first
  | assumption
  | exact upd_same
  | (rw [upd_ne (by assumption)]; assumption)
  | (rw [upd_ne (Ne.symm (by assumption))]; assumption)
  | (rw [upd_ne (by assumption)]; rw [upd_ne (by assumption)]; assumption))
local macro_rules | `(tactic| walk_at "rd") => `(tactic| first
  | with_reducible refine rd_seq ?_
  | with_reducible refine rd_raise0 ?_
  | with_reducible refine rd_try ?_
  | with_reducible refine rd_dropX ?_
  | with_reducible refine rd_asgX ?_
  | with_reducible refine rd_callX ?_
  | with_reducible refine rd_methX ?_
  | with_reducible refine rd_h0 ?_
  | with_reducible refine rd_hN ?_
  | with_reducible refine rd_dget0 ?_
  | with_reducible refine rd_disp0 ?_
  | with_reducible refine rd_iZip ?_
  | with_reducible refine rd_iRev ?_
  | with_reducible refine rd_fld0 ?_
  | with_reducible refine rd_setF0 ?_
  | with_reducible refine rd_fldaug0 ?_
  | with_reducible refine rd_meth0 ?_
  | with_reducible refine rd_make0 ?_
  | with_reducible refine rd_makeK0 ?_
  | with_reducible refine rd_dgetm0 ?_
  | with_reducible refine rd_dnewT0 ?_
  | with_reducible refine rd_listIt0 ?_
  | with_reducible refine rd_dispT0 ?_
  | with_reducible refine rd_minkeyL0 ?_
  | with_reducible refine rd_maxkeyL0 ?_
  | with_reducible refine rd_minkeyT0 ?_
  | with_reducible refine rd_maxkeyT0 ?_
  | with_reducible refine rd_sortedIt0 ?_
  | with_reducible refine rd_par0 ?_
  | with_reducible refine rd_par ?_
  | with_reducible refine rd_rngD ?_
  | with_reducible refine rd_bm0 ?_
  | with_reducible refine rd_iSeq ?_
  | with_reducible refine rd_dput0 ?_
  | with_reducible refine rd_dnew0 ?_
  | ((with_reducible refine' rd_aug ?e ?_); (case e => rfl))
  | with_reducible refine rd_ret ?_
  | with_reducible refine rd_retN ?_
  | with_reducible refine rd_drop ?_
  | with_reducible refine rd_next ?_
  | with_reducible refine rd_asg ?_
  | with_reducible refine rd_gname ?_
  | with_reducible refine rd_gnil ?_
  | with_reducible refine rd_gcons ?_
  | with_reducible refine rd_gsub ?_
  | with_reducible refine rd_ifS ?_
  | with_reducible refine rd_test ?_
  | with_reducible refine rd_B ?_
  | with_reducible refine rd_and ?_
  | with_reducible refine rd_or ?_
  | with_reducible refine rd_not ?_
  | with_reducible refine rd_andV ?_
  | with_reducible refine rd_orV ?_
  | with_reducible refine rd_notV ?_
  | with_reducible refine rd_if ?_
  | ((with_reducible refine' rd_var ?e ?_); (case e => rfl))
  | with_reducible refine rd_c ?_
  | with_reducible refine rd_op ?_
  | with_reducible refine rd_un ?_
  | with_reducible refine rd_I0 ?_
  | ((with_reducible refine rd_I (C := CPow) ?c ?_); (case c => exact cpow_lit (by decide) (by decide) (by decide)); (simp only [Int.reduceToNat, Int.reducePow]))
  | ((with_reducible refine rd_I ?c ?_); (case c => walk_at "sd"))
  | with_reducible refine rd_U ?_
  | with_reducible refine rd_eqI ?_
  | with_reducible refine rd_neI ?_
  | with_reducible refine rd_cb ?_
  | with_reducible refine rd_call ?_
  | with_reducible refine rd_cons ?_
  | with_reducible refine rd_nil ?_
  | with_reducible refine rd_tup ?_
  | with_reducible refine rd_lst ?_
  | with_reducible refine rd_chain ?_
  | with_reducible refine rd_noIf ?_
  | with_reducible refine rd_k ?_
  | with_reducible refine rd_int1 ?_
  | with_reducible refine rd_abs ?_
  | with_reducible refine rd_max ?_
  | with_reducible refine rd_min ?_
  | with_reducible refine rd_i ?_
  | with_reducible refine rd_sl ?_
  | with_reducible refine rd_noPart ?_
  | with_reducible refine rd_part ?_
  | with_reducible refine rd_isB ?_
  | with_reducible refine rd_notB ?_
  | with_reducible refine rd_isN ?_
  | with_reducible refine rd_notN ?_
  | ((with_reducible refine' rd_lenL ?s ?_); (case s => first | assumption | exact SqL.of (by assumption)))
  | ((with_reducible refine' rd_lenT ?s ?_); (case s => first | assumption | exact SqT.of (by assumption)))
  | with_reducible refine rd_for ?_
  | with_reducible refine rd_rng1 ?_
  | with_reducible refine rd_rng2 ?_
  | with_reducible refine rd_comp ?_
  | with_reducible refine rd_rngB ?_
  | with_reducible refine rd_rngBR ?_
  | with_reducible refine rd_bm ?_
  | with_reducible refine rd_iTup ?_
  | with_reducible refine rd_iList ?_
  | ((with_reducible refine' rd_itT ?s ?_); (case s => first | assumption | exact SqT.of (by assumption)))
  | ((with_reducible refine' rd_itL ?s ?_); (case s => first | assumption | exact SqL.of (by assumption)))
  | ((with_reducible refine' rd_ixL ?s ?e ?_); (case s => exact SqL.of (by assumption)); (case e => rfl))
  | ((with_reducible refine' rd_ixT ?s ?e ?_); (case s => first | assumption | exact SqT.of (by assumption)); (case e => rfl))
  | ((with_reducible refine' rd_gtup ?s ?e ?_); (case s => first | assumption | exact SqT.of (by assumption)); (case e => rfl)))
def spNth (K : PySem.W.Frag) : Sp := fun vs H Q _ => ∃ (s : Addr) (ns : List Int) (k : Int), vs = [.ref s, .int k] ∧ SqL K H s (ns.map V.int) ∧ 0 ≤ k ∧ Q (.int (ns.getD k.toNat 0)) H
def spPot : Sp := fun vs H Q _ => ∃ c : Int, vs = [.int c] ∧ ∀ (p : Addr) (H' : Hp), H p = none → Pot H' p → Same H H' → Q (.ref p) H'
def spTake : Sp := fun vs H Q _ => ∃ (p : Addr) (n : Int), vs = [.ref p, .int n] ∧ Pot H p ∧ 0 < n ∧ n < 2 ^ 250 ∧ ∀ (d : Int) (H' : Hp), 0 ≤ d → d < n → Pot H' p → Kp p H H' → Q (.int d) H'
section
variable {P : Program} {w : World} {K : PySem.W.Frag} {mg : Str → Option Value} {base : Heap} {a : Ad}
theorem sc_l_nth : FnScope ["_law_script", "_law_k"] ["_law_script", "_law_k"] (defScope s_l_nth) := ⟨rfl, rfl, rfl, by decide +kernel, rfl, by decide +kernel, by decide +kernel⟩
theorem ok_l_nth (T : Txt K mg a) : FnOk P w K mg base CX0 1 a.f_l_nth a.d_l_nth ["_law_script", "_law_k"] (spNth K) := by
  refine T.F_l_nth.ok sc_l_nth (fun vs H Q E h => ?_) (fun cdv A outer s H vs Q E hr h => ?_)
  · obtain ⟨p, ns, k, rfl, _⟩ := h
    rfl
  · obtain ⟨p, ns, k, rfl, hS, hk, q⟩ := h
    refine' ⟨_, QB.h ?pp, ?rr⟩
    case pp =>
     refine' qss_one ?h1
     case h1 =>
      refine' qs_ret ?h2
      case h2 =>
       refine' qe_ifExp ?h3 ?h4 qe_int
       case h3 =>
        refine' qt_cmpR (op_lt) (qv 1) ?h5 (nomark _)
        case h5 =>
         refine' qe_callBS (kc_len K rfl) rfl T.z_len bt_len ?h6
         case h6 =>
          exact qa_c (qv 0) qa_nil
       case h4 =>
        exact qe_ix (kx_list K rfl) (qv 0) (qv 1)
    case rr =>
    simp only [L2.start, List.length_cons, List.length_nil, List.map_cons, List.map_nil, Nat.reduceAdd, Nat.reduceSub, List.replicate_succ, List.replicate_zero, List.cons_append, List.nil_append]
    repeat walk_at "rd"
    rw [List.length_map]
    refine iteD (fun h => ?_) (fun h => ?_)
    · repeat walk_at "rd"
      obtain ⟨n, rfl⟩ : ∃ n : Nat, k = (n : Int) := ⟨k.toNat, by omega⟩
      have hk2 : n < ns.length := by omega
      refine rd_ixL (v := .int (ns.getD n 0)) hS (atI_nat ?_) q
      rw [List.getElem?_map, List.getElem?_eq_getElem hk2]
      simp [List.getD, hk2]
    · repeat walk_at "rd"
      have e : ns.getD k.toNat 0 = 0 := by
        rw [List.getD, List.getElem?_eq_none (by omega)]
        rfl
      rw [e] at q
      exact q
theorem sc_l_pot : FnScope ["_law_cell"] ["_law_cell"] (defScope s_l_pot) := ⟨rfl, rfl, rfl, by decide +kernel, rfl, by decide +kernel, by decide +kernel⟩
theorem ok_l_pot (T : Txt K mg a) : FnOk P w K mg base CX0 1 a.f_l_pot a.d_l_pot ["_law_cell"] spPot := by
  refine T.F_l_pot.ok sc_l_pot (fun vs H Q E h => ?_) (fun cdv A outer s H vs Q E hr h => ?_)
  · obtain ⟨c, rfl, _⟩ := h
    rfl
  · obtain ⟨c, rfl, k⟩ := h
    refine' ⟨_, QB.h ?pp, ?rr⟩
    case pp =>
     refine' qss_one ?h7
     case h7 =>
      refine' qs_ret ?h8
      case h8 =>
       refine' qe_lst ?h9
       case h9 =>
        refine' qa_c ?h10 ?h11
        case h10 =>
         refine' qe_op op_mulG (qv 0) ?h12
         case h12 =>
          refine' qe_callTyS ca_int rfl T.z_int bt_int ?h13
          case h13 =>
           refine' qa_c ?h14 qa_nil
           case h14 =>
            refine' qe_cmpR (op_ge) (qv 0) ?h15 (nomark _)
            case h15 =>
             exact qe_op op_pow qe_int qe_int
        case h11 =>
         refine' qa_c ?h16 qa_nil
         case h16 =>
          refine' qe_op op_mod ?h17 qe_int
          case h17 =>
           refine' qe_op op_add ?h18 qe_int
           case h18 =>
            exact qe_op op_mulG (qv 0) qe_int
    case rr =>
    simp only [L2.start, List.length_cons, List.length_nil, List.map_cons, List.map_nil, Nat.reduceAdd, Nat.reduceSub, List.replicate_succ, List.replicate_zero, List.cons_append, List.nil_append]
    repeat walk_at "rd"
    refine rd_new (by show 2 ≤ sizeLine; decide) fun p H2 hp f2 S2 => ?_
    refine k p H2 hp ⟨_, _, f2, ?_, Int.emod_nonneg _ (by decide), ?_⟩ S2
    · split
      · rename_i h
        have := of_decide_eq_true h
        omega
      · omega
    · exact Int.lt_of_lt_of_le (Int.emod_lt_of_pos _ (by decide)) (by decide)
theorem sc_l_take : FnScope ["_law_pot_here", "_law_many", "_law_digit"] ["_law_pot_here", "_law_many"] (defScope s_l_take) := ⟨rfl, rfl, rfl, by decide +kernel, rfl, by decide +kernel, by decide +kernel⟩
theorem ok_l_take (T : Txt K mg a) : FnOk P w K mg base CX0 1 a.f_l_take a.d_l_take ["_law_pot_here", "_law_many"] spTake := by
  refine T.F_l_take.ok sc_l_take (fun vs H Q E h => ?_) (fun cdv A outer s H vs Q E hr h => ?_)
  · obtain ⟨p, n, rfl, _⟩ := h
    rfl
  · obtain ⟨p, n, rfl, ⟨x, y, hp, hx, hy, hy2⟩, hn, hn2, k⟩ := h
    have hdiv : ∀ i : Int, CDivB i n := fun i => CDivB.of (k := 250) hn hn2 (by decide)
    refine' ⟨_, QB.h ?pp, ?rr⟩
    case pp =>
     refine' qss_cons ?h19 ?h20
     case h19 =>
      refine' qs_if ?h21 ?h22 qss_nil
      case h21 =>
       refine' qt_cmpR (op_gt) ?h23 qe_int (nomark _)
       case h23 =>
        exact qe_ix (kx_list K rfl) (qv 0) qe_int
      case h22 =>
       refine' qss_cons ?h24 ?h25
       case h24 =>
        refine' qs_setS (i := 2) sc_l_take.nd rfl (by first | exact Or.inl rfl | exact Or.inr rfl) ?h26
        case h26 =>
         refine' qe_op op_mod ?h27 (qv 1)
         case h27 =>
          exact qe_ix (kx_list K rfl) (qv 0) qe_int
       case h25 =>
        refine' qss_cons ?h28 ?h29
        case h28 =>
         refine' qs_asg ?h30 ?h31
         case h30 =>
          refine' qe_op op_fdivB ?h32 (qv 1)
          case h32 =>
           exact qe_ix (kx_list K rfl) (qv 0) qe_int
         case h31 =>
          exact qg_sub (qv 0) qe_int set_list
        case h29 =>
         refine' qss_one ?h33
         case h33 =>
          exact qs_ret (qv 2)
     case h20 =>
      refine' qss_cons ?h34 ?h35
      case h34 =>
       refine' qs_asg ?h36 ?h37
       case h36 =>
        refine' qe_op op_mod ?h38 qe_int
        case h38 =>
         refine' qe_op op_add ?h39 qe_int
         case h39 =>
          refine' qe_op op_mulG ?h40 qe_int
          case h40 =>
           exact qe_ix (kx_list K rfl) (qv 0) qe_int
       case h37 =>
        exact qg_sub (qv 0) qe_int set_list
      case h35 =>
       refine' qss_one ?h41
       case h41 =>
        refine' qs_ret ?h42
        case h42 =>
         refine' qe_op op_mod ?h43 (qv 1)
         case h43 =>
          refine' qe_op op_fdivB ?h44 qe_int
          case h44 =>
           refine' qe_op op_mod ?h45 qe_int
           case h45 =>
            refine' qe_op op_mulG ?h46 ?h47
            case h46 =>
             exact qe_ix (kx_list K rfl) (qv 0) qe_int
            case h47 =>
             exact qe_ix (kx_list K rfl) (qv 0) qe_int
    case rr =>
    simp only [L2.start, List.length_cons, List.length_nil, List.map_cons, List.map_nil, Nat.reduceAdd, Nat.reduceSub, List.replicate_succ, List.replicate_zero, List.cons_append, List.nil_append]
    repeat walk_at "rd"
    refine iteD (fun h => ?_) (fun h => ?_)
    · repeat walk_at "rd"
      refine rd_setL hp (by rfl) ?_
      repeat walk_at "rd"
      exact k _ _ (Int.emod_nonneg _ (by omega)) (Int.emod_lt_of_pos _ hn) ⟨_, _, upd_same, Int.ediv_nonneg hx (by omega), hy, hy2⟩ Kp.upd
    · repeat walk_at "rd"
      refine rd_setL hp (by rfl) ?_
      have hs : upd H p (.lst [V.int x, V.int ((y * 39373 + 3001) % 2147483587)]) p = some (.lst [V.int x, V.int ((y * 39373 + 3001) % 2147483587)]) := upd_same
      have h0 : 0 ≤ (y * 39373 + 3001) % 2147483587 := Int.emod_nonneg _ (by decide)
      have h1 : (y * 39373 + 3001) % 2147483587 < 2147483587 := Int.emod_lt_of_pos _ (by decide)
      repeat walk_at "rd"
      exact k _ _ (Int.emod_nonneg _ (by omega)) (Int.emod_lt_of_pos _ hn) ⟨_, _, upd_same, hx, h0, Int.lt_of_lt_of_le h1 (by decide)⟩ Kp.upd
end
theorem k_bl_int (K : PySem.W.Frag) : PySem.W.kitOne K (.type "bool") (.type "int") = some true := by kernel_rfl
theorem k_int_int (K : PySem.W.Frag) : PySem.W.kitOne K (.type "int") (.type "int") = some true := by kernel_rfl
theorem k_non_int (K : PySem.W.Frag) : PySem.W.kitOne K (.type "NoneType") (.type "int") = some false := by kernel_rfl
theorem k_bl_bool (K : PySem.W.Frag) : PySem.W.kitOne K (.type "bool") (.type "bool") = some true := by kernel_rfl
theorem k_int_bool (K : PySem.W.Frag) : PySem.W.kitOne K (.type "int") (.type "bool") = some false := by kernel_rfl
theorem k_tup_tup (K : PySem.W.Frag) : PySem.W.kitOne K (.type "tuple") (.type "tuple") = some true := by kernel_rfl
theorem k_str_int (K : PySem.W.Frag) : PySem.W.kitOne K (.type "str") (.type "int") = some false := by kernel_rfl
theorem k_tup_int (K : PySem.W.Frag) : PySem.W.kitOne K (.type "tuple") (.type "int") = some false := by kernel_rfl
theorem k_lst_int (K : PySem.W.Frag) : PySem.W.kitOne K (.type "list") (.type "int") = some false := by kernel_rfl
abbrev win (b y m : Int) : List V := [.int b, .int y, .int m]
/-- no whole number -/
def NoInt (K : PySem.W.Frag) (H : Hp) (x : V) : Prop := ∃ t, TyOf K H x t ∧ PySem.W.kitOne K t (.type "int") = some false
/-- no column's number -/
def Bad (K : PySem.W.Frag) (H : Hp) (x : V) (m : Int) : Prop := (∃ k : Int, x = .int k ∧ ¬ (0 ≤ k ∧ k < m)) ∨ NoInt K H x
def spWhole (K : PySem.W.Frag) : Sp := fun vs H Q _ => ∃ x : V, vs = [x] ∧ ((∃ i : Int, x = .int i ∧ Q (.bl true) H) ∨ (NoInt K H x ∧ Q (.bl false) H))
section
variable {P : Program} {w : World} {K : PySem.W.Frag} {mg : Str → Option Value} {base : Heap} {a : Ad}
theorem sc_is_whole : FnScope ["thing"] ["thing"] (defScope s_is_whole) := ⟨rfl, rfl, rfl, by decide +kernel, rfl, by decide +kernel, by decide +kernel⟩
theorem ok_is_whole (T : Txt K mg a) : FnOk P w K mg base CX0 1 a.f_is_whole a.d_is_whole ["thing"] (spWhole K) := by
  refine T.F_is_whole.ok sc_is_whole (fun vs H Q E h => ?_) (fun cdv A outer s H vs Q E hr h => ?_)
  · obtain ⟨x, rfl, _⟩ := h
    rfl
  · obtain ⟨x, rfl, h⟩ := h
    refine' ⟨_, QB.h ?pp, ?rr⟩
    case pp =>
     refine' qss_one ?h48
     case h48 =>
      refine' qs_ret ?h49
      case h49 =>
       refine' qe_and ?h50 ?h51
       case h50 =>
        refine' qe_callBS (kc_isi K rfl) rfl T.z_isinstance bt_isinstance ?h52
        case h52 =>
         refine' qa_c (qv 0) ?h53
         case h53 =>
          exact qa_c (qe_bltn (v := .ty "int") rfl T.z_int bt_int rfl) qa_nil
       case h51 =>
        refine' qe_one ?h54
        case h54 =>
         refine' qe_not ?h55
         case h55 =>
          refine' qe_callBS (kc_isi K rfl) rfl T.z_isinstance bt_isinstance ?h56
          case h56 =>
           refine' qa_c (qv 0) ?h57
           case h57 =>
            exact qa_c (qe_bltn (v := .ty "bool") rfl T.z_bool bt_bool rfl) qa_nil
    case rr =>
    simp only [L2.start, List.length_cons, List.length_nil, List.map_cons, List.map_nil, Nat.reduceAdd, Nat.reduceSub, List.replicate_succ, List.replicate_zero, List.cons_append, List.nil_append]
    repeat walk_at "rd"
    rcases h with ⟨i, rfl, q⟩ | ⟨⟨t, ht, hk⟩, q⟩
    · refine rd_isi (.int i) (k_int_int _) (rd_k (iteT ?_))
      repeat walk_at "rd"
      refine rd_isi (.int i) (k_int_bool _) ?_
      repeat walk_at "rd"
      exact q
    · refine rd_isi ht hk (rd_k (iteF ?_))
      repeat walk_at "rd"
      exact q
def spTimes (K : PySem.W.Frag) : Sp := fun vs H Q _ => ∃ (p : Addr) (b y m k : Int), vs = [.ref p, .int k] ∧ SqT K H p (win b y m) ∧ 0 ≤ k ∧ k < m ∧ m ≤ 1000 ∧
  ∀ (u : Addr) (H' : Hp), H u = none → H' u = some (.tup [.int (b + k * y), .int (b + k * y + y)]) → Same H H' → Q (.ref u) H'
theorem sc_times_of : FnScope ["window", "k", "begin", "wide", "many", "first"] ["window", "k"] (defScope s_times_of) := ⟨rfl, rfl, rfl, by decide +kernel, rfl, by decide +kernel, by decide +kernel⟩
theorem ok_times_of (T : Txt K mg a) : FnOk P w K mg base CX0 2 a.f_times_of a.d_times_of ["window", "k"] (spTimes K) := by
  refine T.F_times_of.ok sc_times_of (fun vs H Q E h => ?_) (fun cdv A outer s H vs Q E hr h => ?_)
  · obtain ⟨p, b, y, m, t, rfl, _⟩ := h
    rfl
  · obtain ⟨p, b, y, m, i, rfl, hT, h0, h1, h2, k⟩ := h
    refine' ⟨_, QB.h ?pp, ?rr⟩
    case pp =>
     refine' qss_cons ?h58 ?h59
     case h58 =>
      refine' qs_asg (qv 0) ?h60
      case h60 =>
       refine' kg_tup (n := 3) K rfl rfl ?h61
       case h61 =>
        refine' qgs_cons (qg_name (i := 2) sc_times_of.nd rfl (by first | exact Or.inl rfl | exact Or.inr rfl)) ?h62
        case h62 =>
         refine' qgs_cons (qg_name (i := 3) sc_times_of.nd rfl (by first | exact Or.inl rfl | exact Or.inr rfl)) ?h63
         case h63 =>
          exact qgs_cons (qg_name (i := 4) sc_times_of.nd rfl (by first | exact Or.inl rfl | exact Or.inr rfl)) qgs_nil
     case h59 =>
      refine' qss_cons ?h64 ?h65
      case h64 =>
       refine' qs_if ?h66 ?h67 qss_nil
       case h66 =>
        refine' QW.pt ?h68
        case h68 =>
         refine' qw_or ?h69 ?h70
         case h69 =>
          refine' qt_not ?h71
          case h71 =>
           refine' qt_val ?h72
           case h72 =>
            refine' qe_callS (ok_is_whole T) hr rfl T.m_is_whole T.F_is_whole.kp T.b_is_whole .nil pass0 ?h73
            case h73 =>
             exact qa_c (qv 1) qa_nil
         case h70 =>
          refine' qw_or1 ?h74
          case h74 =>
           refine' qt_not ?h75
           case h75 =>
            exact qt_chain op_le op_lt qe_int (qv 1) (qv 4)
       case h67 =>
        exact qss_one qs_never
      case h65 =>
       refine' qss_cons ?h76 ?h77
       case h76 =>
        refine' qs_setS (i := 5) sc_times_of.nd rfl (by first | exact Or.inl rfl | exact Or.inr rfl) ?h78
        case h78 =>
         refine' qe_op op_add (qv 2) ?h79
         case h79 =>
          exact qe_op op_mulG (qv 1) (qv 3)
       case h77 =>
        refine' qss_one ?h80
        case h80 =>
         refine' qs_ret ?h81
         case h81 =>
          refine' qe_tup ?h82
          case h82 =>
           refine' qa_c (qv 5) ?h83
           case h83 =>
            refine' qa_c ?h84 qa_nil
            case h84 =>
             exact qe_op op_add (qv 5) (qv 3)
    case rr =>
    simp only [L2.start, List.length_cons, List.length_nil, List.map_cons, List.map_nil, Nat.reduceAdd, Nat.reduceSub, List.replicate_succ, List.replicate_zero, List.cons_append, List.nil_append]
    repeat walk_at "rd"
    refine ⟨_, rfl, .inl ⟨i, rfl, ?_⟩⟩
    repeat walk_at "rd"
    refine iteF ?_
    repeat walk_at "rd"
    refine iteD (fun _ => ?_) (fun h => absurd h0 h)
    repeat walk_at "rd"
    rw [decide_eq_true h1]
    refine iteF ?_
    repeat walk_at "rd"
    exact rd_new (by show 2 ≤ sizeLine; decide) fun u H2 hu f2 S2 => k u H2 hu f2 S2
def spTimesX (K : PySem.W.Frag) (C : Addr) : Sp := fun vs H _ E => ∃ (p : Addr) (b y m : Int) (x : V), vs = [.ref p, x] ∧ SqT K H p (win b y m) ∧ Bad K H x m ∧ E (.ref C) none H
theorem okx_times_of (T : Txt K mg a) : FnOk P w K mg base (CX1 P w) 2 a.f_times_of a.d_times_of ["window", "k"] (spTimesX K a.C_NoColumn) := by
  refine T.F_times_of.okx sc_times_of (fun vs H Q E h => ?_) (fun cdv A outer s H vs Q E hr h => ?_)
  · obtain ⟨p, b, y, m, x, rfl, _⟩ := h
    rfl
  · obtain ⟨p, b, y, m, x, rfl, hT, hB, k⟩ := h
    refine' ⟨_, QB.h ?pp, ?rr⟩
    case pp =>
     refine' qss_cons ?h85 ?h86
     case h85 =>
      refine' qs_asg (qv 0) ?h87
      case h87 =>
       refine' kg_tup (n := 3) K rfl rfl ?h88
       case h88 =>
        refine' qgs_cons (qg_name (i := 2) sc_times_of.nd rfl (by first | exact Or.inl rfl | exact Or.inr rfl)) ?h89
        case h89 =>
         refine' qgs_cons (qg_name (i := 3) sc_times_of.nd rfl (by first | exact Or.inl rfl | exact Or.inr rfl)) ?h90
         case h90 =>
          exact qgs_cons (qg_name (i := 4) sc_times_of.nd rfl (by first | exact Or.inl rfl | exact Or.inr rfl)) qgs_nil
     case h86 =>
      refine' qss_cons ?h91 ?h92
      case h91 =>
       refine' qs_if ?h93 ?h94 qss_nil
       case h93 =>
        refine' QW.pt ?h95
        case h95 =>
         refine' qw_or ?h96 ?h97
         case h96 =>
          refine' qt_not ?h98
          case h98 =>
           refine' qt_val ?h99
           case h99 =>
            refine' qe_callS (ok_is_whole T) hr rfl T.m_is_whole T.F_is_whole.kp T.b_is_whole .nil pass0 ?h100
            case h100 =>
             exact qa_c (qv 1) qa_nil
         case h97 =>
          refine' qw_or1 ?h101
          case h101 =>
           refine' qt_not ?h102
           case h102 =>
            exact qt_chain op_le op_lt qe_int (qv 1) (qv 4)
       case h94 =>
        refine' qss_one ?h103
        case h103 =>
         refine' qs_raise T.x_NoColumn rfl T.m_NoColumn ?h104
         case h104 =>
          exact qa_c qe_str qa_nil
      case h92 =>
       refine' qss_cons qs_never ?h105
       case h105 =>
        exact qss_one qs_never
    case rr =>
    simp only [L2.start, List.length_cons, List.length_nil, List.map_cons, List.map_nil, Nat.reduceAdd, Nat.reduceSub, List.replicate_succ, List.replicate_zero, List.cons_append, List.nil_append]
    repeat walk_at "rd"
    rcases hB with ⟨i, rfl, hi⟩ | hN
    · refine ⟨_, rfl, .inl ⟨i, rfl, ?_⟩⟩
      repeat walk_at "rd"
      refine iteF ?_
      repeat walk_at "rd"
      refine iteD (fun h0 => ?_) (fun h0 => ?_)
      · repeat walk_at "rd"
        rw [decide_eq_false (show ¬ i < m from fun z => hi ⟨h0, z⟩)]
        refine iteT ?_
        repeat walk_at "rd"
        exact rd_raise (by decide) k
      · repeat walk_at "rd"
        refine iteT ?_
        repeat walk_at "rd"
        exact rd_raise (by decide) k
    · refine ⟨_, rfl, .inr ⟨hN, ?_⟩⟩
      repeat walk_at "rd"
      refine iteT ?_
      repeat walk_at "rd"
      exact rd_raise (by decide) k
def spWiden (K : PySem.W.Frag) : Sp := fun vs H Q _ => ∃ (p : Addr) (b y m : Int), vs = [.ref p] ∧ H p = some (.tup (win b y m)) ∧ ∀ (u : Addr) (H' : Hp), H' u = some (.tup (win b (y * 2) m)) → Same H H' → Q (.ref u) H'
theorem sc_widened : FnScope ["window", "begin", "wide", "many"] ["window"] (defScope s_widened) := ⟨rfl, rfl, rfl, by decide +kernel, rfl, by decide +kernel, by decide +kernel⟩
theorem ok_widened (T : Txt K mg a) : FnOk P w K mg base CX0 1 a.f_widened a.d_widened ["window"] (spWiden K) := by
  refine T.F_widened.ok sc_widened (fun vs H Q E h => ?_) (fun cdv A outer s H vs Q E hr h => ?_)
  · obtain ⟨p, b, y, m, rfl, _⟩ := h
    rfl
  · obtain ⟨p, b, y, m, rfl, hT, k⟩ := h
    refine' ⟨_, QB.h ?pp, ?rr⟩
    case pp =>
     refine' qss_cons ?h106 ?h107
     case h106 =>
      refine' qs_asg (qv 0) ?h108
      case h108 =>
       refine' kg_tup (n := 3) K rfl rfl ?h109
       case h109 =>
        refine' qgs_cons (qg_name (i := 1) sc_widened.nd rfl (by first | exact Or.inl rfl | exact Or.inr rfl)) ?h110
        case h110 =>
         refine' qgs_cons (qg_name (i := 2) sc_widened.nd rfl (by first | exact Or.inl rfl | exact Or.inr rfl)) ?h111
         case h111 =>
          exact qgs_cons (qg_name (i := 3) sc_widened.nd rfl (by first | exact Or.inl rfl | exact Or.inr rfl)) qgs_nil
     case h107 =>
      refine' qss_one ?h112
      case h112 =>
       refine' qs_ret ?h113
       case h113 =>
        refine' qe_tup ?h114
        case h114 =>
         refine' qa_c (qv 1) ?h115
         case h115 =>
          refine' qa_c ?h116 ?h117
          case h116 =>
           exact qe_op op_mulG (qv 2) qe_int
          case h117 =>
           exact qa_c (qv 3) qa_nil
    case rr =>
    simp only [L2.start, List.length_cons, List.length_nil, List.map_cons, List.map_nil, Nat.reduceAdd, Nat.reduceSub, List.replicate_succ, List.replicate_zero, List.cons_append, List.nil_append]
    repeat walk_at "rd"
    exact rd_new (by show 3 ≤ sizeLine; decide) fun u H2 hu f2 S2 => k u H2 f2 S2
def spNarrow (K : PySem.W.Frag) : Sp := fun vs H Q _ => ∃ (p : Addr) (b y m : Int), vs = [.ref p] ∧ H p = some (.tup (win b y m)) ∧ y % 2 = 0 ∧ ∀ (u : Addr) (H' : Hp), H' u = some (.tup (win b (y / 2) m)) → Same H H' → Q (.ref u) H'
theorem sc_narrowed : FnScope ["window", "begin", "wide", "many"] ["window"] (defScope s_narrowed) := ⟨rfl, rfl, rfl, by decide +kernel, rfl, by decide +kernel, by decide +kernel⟩
theorem ok_narrowed (T : Txt K mg a) : FnOk P w K mg base CX0 1 a.f_narrowed a.d_narrowed ["window"] (spNarrow K) := by
  refine T.F_narrowed.ok sc_narrowed (fun vs H Q E h => ?_) (fun cdv A outer s H vs Q E hr h => ?_)
  · obtain ⟨p, b, y, m, rfl, _⟩ := h
    rfl
  · obtain ⟨p, b, y, m, rfl, hT, hy, k⟩ := h
    refine' ⟨_, QB.h ?pp, ?rr⟩
    case pp =>
     refine' qss_cons ?h118 ?h119
     case h118 =>
      refine' qs_asg (qv 0) ?h120
      case h120 =>
       refine' kg_tup (n := 3) K rfl rfl ?h121
       case h121 =>
        refine' qgs_cons (qg_name (i := 1) sc_narrowed.nd rfl (by first | exact Or.inl rfl | exact Or.inr rfl)) ?h122
        case h122 =>
         refine' qgs_cons (qg_name (i := 2) sc_narrowed.nd rfl (by first | exact Or.inl rfl | exact Or.inr rfl)) ?h123
         case h123 =>
          exact qgs_cons (qg_name (i := 3) sc_narrowed.nd rfl (by first | exact Or.inl rfl | exact Or.inr rfl)) qgs_nil
     case h119 =>
      refine' qss_cons ?h124 ?h125
      case h124 =>
       refine' qs_if ?h126 ?h127 qss_nil
       case h126 =>
        refine' qt_cmpR (op_eq) ?h128 qe_int (nomark _)
        case h128 =>
         exact qe_op op_mod (qv 2) qe_int
       case h127 =>
        exact qss_one qs_never
      case h125 =>
       refine' qss_one ?h129
       case h129 =>
        refine' qs_ret ?h130
        case h130 =>
         refine' qe_tup ?h131
         case h131 =>
          refine' qa_c (qv 1) ?h132
          case h132 =>
           refine' qa_c ?h133 ?h134
           case h133 =>
            exact qe_op op_fdivB (qv 2) qe_int
           case h134 =>
            exact qa_c (qv 3) qa_nil
    case rr =>
    simp only [L2.start, List.length_cons, List.length_nil, List.map_cons, List.map_nil, Nat.reduceAdd, Nat.reduceSub, List.replicate_succ, List.replicate_zero, List.cons_append, List.nil_append]
    repeat walk_at "rd"
    rw [dec_i]
    refine iteD (fun h => ?_) (fun _ => ?_)
    · rw [hy] at h; cases h
    · repeat walk_at "rd"
      exact rd_new (by show 3 ≤ sizeLine; decide) fun u H2 hu f2 S2 => k u H2 f2 S2
def spNarrowX (K : PySem.W.Frag) (C : Addr) : Sp := fun vs H _ E => ∃ (p : Addr) (b y m : Int), vs = [.ref p] ∧ H p = some (.tup (win b y m)) ∧ y % 2 = 1 ∧ E (.ref C) none H
theorem okx_narrowed (T : Txt K mg a) : FnOk P w K mg base (CX1 P w) 1 a.f_narrowed a.d_narrowed ["window"] (spNarrowX K a.C_NotHalf) := by
  refine T.F_narrowed.okx sc_narrowed (fun vs H Q E h => ?_) (fun cdv A outer s H vs Q E hr h => ?_)
  · obtain ⟨p, b, y, m, rfl, _⟩ := h
    rfl
  · obtain ⟨p, b, y, m, rfl, hT, hy, k⟩ := h
    refine' ⟨_, QB.h ?pp, ?rr⟩
    case pp =>
     refine' qss_cons ?h135 ?h136
     case h135 =>
      refine' qs_asg (qv 0) ?h137
      case h137 =>
       refine' kg_tup (n := 3) K rfl rfl ?h138
       case h138 =>
        refine' qgs_cons (qg_name (i := 1) sc_narrowed.nd rfl (by first | exact Or.inl rfl | exact Or.inr rfl)) ?h139
        case h139 =>
         refine' qgs_cons (qg_name (i := 2) sc_narrowed.nd rfl (by first | exact Or.inl rfl | exact Or.inr rfl)) ?h140
         case h140 =>
          exact qgs_cons (qg_name (i := 3) sc_narrowed.nd rfl (by first | exact Or.inl rfl | exact Or.inr rfl)) qgs_nil
     case h136 =>
      refine' qss_cons ?h141 ?h142
      case h141 =>
       refine' qs_if ?h143 ?h144 qss_nil
       case h143 =>
        refine' qt_cmpR (op_eq) ?h145 qe_int (nomark _)
        case h145 =>
         exact qe_op op_mod (qv 2) qe_int
       case h144 =>
        refine' qss_one ?h146
        case h146 =>
         refine' qs_raise T.x_NotHalf rfl T.m_NotHalf ?h147
         case h147 =>
          exact qa_c qe_str qa_nil
      case h142 =>
       exact qss_one qs_never
    case rr =>
    simp only [L2.start, List.length_cons, List.length_nil, List.map_cons, List.map_nil, Nat.reduceAdd, Nat.reduceSub, List.replicate_succ, List.replicate_zero, List.cons_append, List.nil_append]
    repeat walk_at "rd"
    rw [dec_i]
    refine iteD (fun _ => ?_) (fun h => absurd hy h)
    repeat walk_at "rd"
    exact rd_raise (by decide) k
theorem at2 {x y : Int} {b : Bool} : atI [V.int x, V.int y] (if b then 1 else 0) = some (.int (if b then y else x)) := by cases b <;> rfl
def spWindow : Sp := fun vs H Q _ => ∃ p, vs = [.ref p] ∧ Pot H p ∧ ∀ (u : Addr) (b y m : Int) (H' : Hp), 1 ≤ y → y ≤ 100000000000000000000000000000000000000000000000000000000 → 1 ≤ m → m ≤ 200 → u ≠ p → H' u = some (.tup (win b y m)) → Pot H' p → Kp p H H' → Q (.ref u) H'
theorem sc_l_window : FnScope ["_law_pot_here", "_law_begin", "_law_wide"] ["_law_pot_here"] (defScope s_l_window) := ⟨rfl, rfl, rfl, by decide +kernel, rfl, by decide +kernel, by decide +kernel⟩
theorem ok_l_window (T : Txt K mg a) : FnOk P w K mg base CX0 2 a.f_l_window a.d_l_window ["_law_pot_here"] spWindow := by
  refine T.F_l_window.ok sc_l_window (fun vs H Q E h => ?_) (fun cdv A outer s H vs Q E hr h => ?_)
  · obtain ⟨p, rfl, _⟩ := h
    rfl
  · obtain ⟨p, rfl, hp, k⟩ := h
    refine' ⟨_, QB.h ?pp, ?rr⟩
    case pp =>
     refine' qss_cons ?h148 ?h149
     case h148 =>
      refine' qs_setS (i := 1) sc_l_window.nd rfl (by first | exact Or.inl rfl | exact Or.inr rfl) ?h150
      case h150 =>
       refine' qe_ix (kx_list K rfl) ?h151 ?h152
       case h151 =>
        refine' qe_lst ?h153
        case h153 =>
         refine' qa_c ?h154 ?h155
         case h154 =>
          refine' qe_op op_sub ?h156 qe_int
          case h156 =>
           refine' qe_callS (ok_l_take T) hr rfl T.m_l_take T.F_l_take.kp T.b_l_take .nil pass0 ?h157
           case h157 =>
            refine' qa_c (qv 0) ?h158
            case h158 =>
             exact qa_c qe_int qa_nil
         case h155 =>
          refine' qa_c ?h159 qa_nil
          case h159 =>
           refine' qe_op op_sub ?h160 ?h161
           case h160 =>
            refine' qe_callS (ok_l_take T) hr rfl T.m_l_take T.F_l_take.kp T.b_l_take .nil pass0 ?h162
            case h162 =>
             refine' qa_c (qv 0) ?h163
             case h163 =>
              refine' qa_c ?h164 qa_nil
              case h164 =>
               refine' qe_op op_mulG qe_int ?h165
               case h165 =>
                exact qe_op op_pow qe_int qe_int
           case h161 =>
            exact qe_op op_pow qe_int qe_int
       case h152 =>
        refine' qe_callTyS ca_int rfl T.z_int bt_int ?h166
        case h166 =>
         refine' qa_c ?h167 qa_nil
         case h167 =>
          refine' qe_cmpR (op_eq) ?h168 qe_int (nomark _)
          case h168 =>
           refine' qe_callS (ok_l_take T) hr rfl T.m_l_take T.F_l_take.kp T.b_l_take .nil pass0 ?h169
           case h169 =>
            refine' qa_c (qv 0) ?h170
            case h170 =>
             exact qa_c qe_int qa_nil
     case h149 =>
      refine' qss_cons ?h171 ?h172
      case h171 =>
       refine' qs_setS (i := 2) sc_l_window.nd rfl (by first | exact Or.inl rfl | exact Or.inr rfl) ?h173
       case h173 =>
        refine' qe_ix (kx_list K rfl) ?h174 ?h175
        case h174 =>
         refine' qe_lst ?h176
         case h176 =>
          refine' qa_c ?h177 ?h178
          case h177 =>
           refine' qe_op op_add qe_int ?h179
           case h179 =>
            refine' qe_callS (ok_l_take T) hr rfl T.m_l_take T.F_l_take.kp T.b_l_take .nil pass0 ?h180
            case h180 =>
             refine' qa_c (qv 0) ?h181
             case h181 =>
              exact qa_c qe_int qa_nil
          case h178 =>
           refine' qa_c ?h182 qa_nil
           case h182 =>
            refine' qe_op op_add qe_int ?h183
            case h183 =>
             refine' qe_callS (ok_l_take T) hr rfl T.m_l_take T.F_l_take.kp T.b_l_take .nil pass0 ?h184
             case h184 =>
              refine' qa_c (qv 0) ?h185
              case h185 =>
               refine' qa_c ?h186 qa_nil
               case h186 =>
                exact qe_op op_pow qe_int qe_int
        case h175 =>
         refine' qe_callTyS ca_int rfl T.z_int bt_int ?h187
         case h187 =>
          refine' qa_c ?h188 qa_nil
          case h188 =>
           refine' qe_cmpR (op_eq) ?h189 qe_int (nomark _)
           case h189 =>
            refine' qe_callS (ok_l_take T) hr rfl T.m_l_take T.F_l_take.kp T.b_l_take .nil pass0 ?h190
            case h190 =>
             refine' qa_c (qv 0) ?h191
             case h191 =>
              exact qa_c qe_int qa_nil
      case h172 =>
       refine' qss_one ?h192
       case h192 =>
        refine' qs_ret ?h193
        case h193 =>
         refine' qe_tup ?h194
         case h194 =>
          refine' qa_c (qv 1) ?h195
          case h195 =>
           refine' qa_c (qv 2) ?h196
           case h196 =>
            refine' qa_c ?h197 qa_nil
            case h197 =>
             refine' qe_op op_add qe_int ?h198
             case h198 =>
              refine' qe_callS (ok_l_take T) hr rfl T.m_l_take T.F_l_take.kp T.b_l_take .nil pass0 ?h199
              case h199 =>
               refine' qa_c (qv 0) ?h200
               case h200 =>
                exact qa_c qe_int qa_nil
    case rr =>
    simp only [L2.start, List.length_cons, List.length_nil, List.map_cons, List.map_nil, Nat.reduceAdd, Nat.reduceSub, List.replicate_succ, List.replicate_zero, List.cons_append, List.nil_append]
    repeat walk_at "rd"
    refine ⟨p, _, rfl, hp, by decide, by decide, fun d0 H0 h0 h0' P0 K0 => ?_⟩
    repeat walk_at "rd"
    refine ⟨p, _, rfl, P0, by decide, by decide, fun d1 H1 h1 h1' P1 K1 => ?_⟩
    repeat walk_at "rd"
    refine rd_new (by show 2 ≤ sizeLine; decide) fun l1 G1 hl1 f1 S1 => ?_
    repeat walk_at "rd"
    refine ⟨p, _, rfl, P1.same S1, by decide, by decide, fun d4 H4 _ _ P4 K4 => ?_⟩
    repeat walk_at "rd"
    refine rd_ixL (SqL.of (K4 _ _ f1 (P1.neN hl1))) at2 ?_
    repeat walk_at "rd"
    refine ⟨p, _, rfl, P4, by decide, by decide, fun d5 H5 h5 h5' P5 K5 => ?_⟩
    repeat walk_at "rd"
    refine ⟨p, _, rfl, P5, by decide, by decide, fun d6 H6 h6 h6' P6 K6 => ?_⟩
    repeat walk_at "rd"
    refine rd_new (by show 2 ≤ sizeLine; decide) fun l2 G2 hl2 f2 S2 => ?_
    repeat walk_at "rd"
    refine ⟨p, _, rfl, P6.same S2, by decide, by decide, fun d7 H7 _ _ P7 K7 => ?_⟩
    repeat walk_at "rd"
    refine rd_ixL (SqL.of (K7 _ _ f2 (P6.neN hl2))) at2 ?_
    repeat walk_at "rd"
    refine ⟨p, _, rfl, P7, by decide, by decide, fun d8 H8 h8 h8' P8 K8 => ?_⟩
    repeat walk_at "rd"
    refine rd_new (by show 3 ≤ sizeLine; decide) fun u G3 hu f3 S3 => ?_
    have KA : Kp p H H8 := (((((((K0.trans K1).then S1).trans K4).trans K5).trans K6).then S2).trans K7).trans K8
    exact k u _ _ _ G3 (by split <;> omega) (by split <;> omega) (by omega) (by omega) (P8.neN hu) f3 (P8.same S3) (KA.then S3)
def spWrong (K : PySem.W.Frag) : Sp := fun vs H Q _ => ∃ (p : Addr) (m : Int), vs = [.ref p, .int m] ∧ Pot H p ∧ 1 ≤ m ∧ ∀ (x : V) (H' : Hp), Bad K H' x m → Pot H' p → Kp p H H' → Q x H'
theorem sc_l_wrong : FnScope ["_law_pot_here", "_law_many", "_law_far", "_law_things"] ["_law_pot_here", "_law_many"] (defScope s_l_wrong) := ⟨rfl, rfl, rfl, by decide +kernel, rfl, by decide +kernel, by decide +kernel⟩
theorem ok_l_wrong (T : Txt K mg a) : FnOk P w K mg base CX0 2 a.f_l_wrong a.d_l_wrong ["_law_pot_here", "_law_many"] (spWrong K) := by
  refine T.F_l_wrong.ok sc_l_wrong (fun vs H Q E h => ?_) (fun cdv A outer s H vs Q E hr h => ?_)
  · obtain ⟨p, m, rfl, _⟩ := h
    rfl
  · obtain ⟨p, m, rfl, hp, hm, k⟩ := h
    refine' ⟨_, QB.h ?pp, ?rr⟩
    case pp =>
     refine' qss_cons ?h201 ?h202
     case h201 =>
      refine' qs_setS (i := 2) sc_l_wrong.nd rfl (by first | exact Or.inl rfl | exact Or.inr rfl) ?h203
      case h203 =>
       refine' qe_callS (ok_l_take T) hr rfl T.m_l_take T.F_l_take.kp T.b_l_take .nil pass0 ?h204
       case h204 =>
        refine' qa_c (qv 0) ?h205
        case h205 =>
         refine' qa_c ?h206 qa_nil
         case h206 =>
          exact qe_op op_pow qe_int qe_int
     case h202 =>
      refine' qss_cons ?h207 ?h208
      case h207 =>
       refine' qs_setS (i := 3) sc_l_wrong.nd rfl (by first | exact Or.inl rfl | exact Or.inr rfl) ?h209
       case h209 =>
        refine' qe_lst ?h210
        case h210 =>
         refine' qa_c ?h211 ?h212
         case h211 =>
          exact qe_un un_neg qe_int
         case h212 =>
          refine' qa_c (qv 1) ?h213
          case h213 =>
           refine' qa_c ?h214 ?h215
           case h214 =>
            refine' qe_op op_add ?h216 (qv 2)
            case h216 =>
             exact qe_op op_add (qv 1) qe_int
           case h215 =>
            refine' qa_c ?h217 ?h218
            case h217 =>
             refine' qe_op op_sub ?h219 (qv 2)
             case h219 =>
              exact qe_un un_neg qe_int
            case h218 =>
             refine' qa_c qe_non ?h220
             case h220 =>
              refine' qa_c qe_str ?h221
              case h221 =>
               refine' qa_c qe_str ?h222
               case h222 =>
                refine' qa_c qe_str ?h223
                case h223 =>
                 refine' qa_c ?h224 ?h225
                 case h224 =>
                  exact qe_tup qa_nil
                 case h225 =>
                  refine' qa_c ?h226 ?h227
                  case h226 =>
                   refine' qe_tup ?h228
                   case h228 =>
                    exact qa_c qe_int qa_nil
                  case h227 =>
                   refine' qa_c ?h229 ?h230
                   case h229 =>
                    exact qe_lst qa_nil
                   case h230 =>
                    refine' qa_c ?h231 ?h232
                    case h231 =>
                     refine' qe_lst ?h233
                     case h233 =>
                      exact qa_c qe_int qa_nil
                    case h232 =>
                     refine' qa_c ?h234 ?h235
                     case h234 =>
                      refine' qe_tup ?h236
                      case h236 =>
                       refine' qa_c qe_int ?h237
                       case h237 =>
                        refine' qa_c qe_int ?h238
                        case h238 =>
                         exact qa_c qe_int qa_nil
                     case h235 =>
                      refine' qa_c ?h239 qa_nil
                      case h239 =>
                       exact qe_op op_add (qv 1) qe_int
      case h208 =>
       refine' qss_one ?h240
       case h240 =>
        refine' qs_ret ?h241
        case h241 =>
         refine' qe_ix (kx_list K rfl) (qv 3) ?h242
         case h242 =>
          refine' qe_callS (ok_l_take T) hr rfl T.m_l_take T.F_l_take.kp T.b_l_take .nil pass0 ?h243
          case h243 =>
           refine' qa_c (qv 0) ?h244
           case h244 =>
            refine' qa_c ?h245 qa_nil
            case h245 =>
             refine' qe_callBS (kc_len K rfl) rfl T.z_len bt_len ?h246
             case h246 =>
              exact qa_c (qv 3) qa_nil
    case rr =>
    simp only [L2.start, List.length_cons, List.length_nil, List.map_cons, List.map_nil, Nat.reduceAdd, Nat.reduceSub, List.replicate_succ, List.replicate_zero, List.cons_append, List.nil_append]
    repeat walk_at "rd"
    refine ⟨p, _, rfl, hp, by decide, by decide, fun d0 H0 h0 h0' P0 K0 => ?_⟩
    repeat walk_at "rd"
    refine rd_new (by show 0 ≤ sizeLine; decide) fun t1 H1 n1 f1 S1 => ?_
    repeat walk_at "rd"
    refine rd_new (by show 1 ≤ sizeLine; decide) fun t2 H2 n2 f2 S2 => ?_
    repeat walk_at "rd"
    refine rd_new (by show 0 ≤ sizeLine; decide) fun t3 H3 n3 f3 S3 => ?_
    repeat walk_at "rd"
    refine rd_new (by show 1 ≤ sizeLine; decide) fun t4 H4 n4 f4 S4 => ?_
    repeat walk_at "rd"
    refine rd_new (by show 3 ≤ sizeLine; decide) fun t5 H5 n5 f5 S5 => ?_
    repeat walk_at "rd"
    refine rd_new (by show 14 ≤ sizeLine; decide) fun l6 H6 n6 f6 S6 => ?_
    have P6 := (((((P0.same S1).same S2).same S3).same S4).same S5).same S6
    repeat walk_at "rd"
    refine ⟨p, _, rfl, P6, by show (0 : Int) < 14; decide, by show (14 : Int) < _; decide, fun d7 H7 h7 h7' P7 K7 => ?_⟩
    have K6 : Kp p H H6 := ((((((K0.then S1).then S2).then S3).then S4).then S5).then S6)
    have P5 := ((((P0.same S1).same S2).same S3).same S4).same S5
    have g1 := K7 _ _ (S6 _ _ (S5 _ _ (S4 _ _ (S3 _ _ (S2 _ _ f1))))) (P6.ne_tup (S6 _ _ (S5 _ _ (S4 _ _ (S3 _ _ (S2 _ _ f1))))))
    have g2 := K7 _ _ (S6 _ _ (S5 _ _ (S4 _ _ (S3 _ _ f2)))) (P6.ne_tup (S6 _ _ (S5 _ _ (S4 _ _ (S3 _ _ f2)))))
    have g3 := K7 _ _ (S6 _ _ (S5 _ _ (S4 _ _ f3))) (((P0.same S1).same S2).neN n3)
    have g4 := K7 _ _ (S6 _ _ (S5 _ _ f4)) ((((P0.same S1).same S2).same S3).neN n4)
    have g5 := K7 _ _ (S6 _ _ f5) (P6.ne_tup (S6 _ _ f5))
    have g6 := K7 _ _ f6 (P5.neN n6)
    repeat walk_at "rd"
    obtain ⟨n7, rfl⟩ : ∃ n : Nat, d7 = (n : Int) := ⟨d7.toNat, by omega⟩
    have h14 : (n7 : Int) < 14 := h7'
    have hx : ∃ x, [V.int (-1), .int m, .int (m + 1 + d0), .int (-1 - d0), .non, .str "", .str "0", .str "a", .ref t1, .ref t2, .ref t3, .ref t4, .ref t5, .int (m + 1)][n7]? = some x ∧ Bad K H7 x m := by
      have : n7 < 14 := by omega
      match n7, this with
      | 0, _ => exact ⟨_, rfl, .inl ⟨_, rfl, by omega⟩⟩
      | 1, _ => exact ⟨_, rfl, .inl ⟨_, rfl, by omega⟩⟩
      | 2, _ => exact ⟨_, rfl, .inl ⟨_, rfl, by omega⟩⟩
      | 3, _ => exact ⟨_, rfl, .inl ⟨_, rfl, by omega⟩⟩
      | 4, _ => exact ⟨_, rfl, .inr ⟨_, .non, k_non_int _⟩⟩
      | 5, _ => exact ⟨_, rfl, .inr ⟨_, .str _, k_str_int _⟩⟩
      | 6, _ => exact ⟨_, rfl, .inr ⟨_, .str _, k_str_int _⟩⟩
      | 7, _ => exact ⟨_, rfl, .inr ⟨_, .str _, k_str_int _⟩⟩
      | 8, _ => exact ⟨_, rfl, .inr ⟨_, .tup g1, k_tup_int _⟩⟩
      | 9, _ => exact ⟨_, rfl, .inr ⟨_, .tup g2, k_tup_int _⟩⟩
      | 10, _ => exact ⟨_, rfl, .inr ⟨_, .lst g3, k_lst_int _⟩⟩
      | 11, _ => exact ⟨_, rfl, .inr ⟨_, .lst g4, k_lst_int _⟩⟩
      | 12, _ => exact ⟨_, rfl, .inr ⟨_, .tup g5, k_tup_int _⟩⟩
      | 13, _ => exact ⟨_, rfl, .inl ⟨_, rfl, by omega⟩⟩
    obtain ⟨x, hx, hB⟩ := hx
    refine rd_ixL (SqL.of g6) (atI_nat hx) ?_
    exact k x H7 hB P7 (K6.trans K7)
def spAnother (K : PySem.W.Frag) (a : Ad) : Sp := fun vs H Q _ => ∃ (e C : Addr), vs = [.ref e] ∧ H e = some (excO e (.ref C)) ∧ ExcC K C ∧ ExcA K C ∧ (∀ x ∈ [a.C_NoName, a.C_NoSample, a.C_NoText, a.C_NotApart, a.C_NoWatch, a.C_OutOfTimes], PySem.W.kitOne K (.ref C) (.ref x) = some false) ∧ Q (.bl false) H
theorem sc_l_is_another : FnScope ["_law_e"] ["_law_e"] (defScope s_l_is_another) := ⟨rfl, rfl, rfl, by decide +kernel, rfl, by decide +kernel, by decide +kernel⟩
theorem okN_l_is_another (T : Txt K mg a) : FnOkN P w K mg base 1 a.f_l_is_another a.d_l_is_another ["_law_e"] (spAnother K a) := by
  refine T.F_l_is_another.okN sc_l_is_another (fun vs H Q E h => ?_) (fun cdv A outer s H vs Q E h => ?_)
  · obtain ⟨e, C, rfl, _⟩ := h
    rfl
  · obtain ⟨e, C, rfl, he, hC, hA, hk, q⟩ := h
    refine' ⟨_, QB.h ?pp, ?rr⟩
    case pp =>
     refine' qss_cons ?h247 ?h248
     case h247 =>
      refine' qs_if ?h249 ?h250 qss_nil
      case h249 =>
       refine' QW.pt ?h251
       case h251 =>
        refine' qw_or ?h252 ?h253
        case h252 =>
         refine' qt_val ?h254
         case h254 =>
          refine' qe_callBS (kc_isiE K rfl) rfl T.z_isinstance bt_isinstance ?h255
          case h255 =>
           refine' qa_c (qv 0) ?h256
           case h256 =>
            exact qa_c (qe_glob (v := V.ref a.C_NoName) rfl T.m_NoName rfl) qa_nil
        case h253 =>
         refine' qw_or ?h257 ?h258
         case h257 =>
          refine' qt_val ?h259
          case h259 =>
           refine' qe_callBS (kc_isiE K rfl) rfl T.z_isinstance bt_isinstance ?h260
           case h260 =>
            refine' qa_c (qv 0) ?h261
            case h261 =>
             exact qa_c (qe_glob (v := V.ref a.C_NoSample) rfl T.m_NoSample rfl) qa_nil
         case h258 =>
          refine' qw_or1 ?h262
          case h262 =>
           refine' qt_val ?h263
           case h263 =>
            refine' qe_callBS (kc_isiE K rfl) rfl T.z_isinstance bt_isinstance ?h264
            case h264 =>
             refine' qa_c (qv 0) ?h265
             case h265 =>
              exact qa_c (qe_glob (v := V.ref a.C_NoText) rfl T.m_NoText rfl) qa_nil
      case h250 =>
       refine' qss_one ?h266
       case h266 =>
        exact qs_ret qe_bl
     case h248 =>
      refine' qss_one ?h267
      case h267 =>
       refine' qs_ret ?h268
       case h268 =>
        refine' qe_or ?h269 ?h270
        case h269 =>
         refine' qe_callBS (kc_isiE K rfl) rfl T.z_isinstance bt_isinstance ?h271
         case h271 =>
          refine' qa_c (qv 0) ?h272
          case h272 =>
           exact qa_c (qe_glob (v := V.ref a.C_NotApart) rfl T.m_NotApart rfl) qa_nil
        case h270 =>
         refine' qe_or ?h273 ?h274
         case h273 =>
          refine' qe_callBS (kc_isiE K rfl) rfl T.z_isinstance bt_isinstance ?h275
          case h275 =>
           refine' qa_c (qv 0) ?h276
           case h276 =>
            exact qa_c (qe_glob (v := V.ref a.C_NoWatch) rfl T.m_NoWatch rfl) qa_nil
         case h274 =>
          refine' qe_one ?h277
          case h277 =>
           refine' qe_callBS (kc_isiE K rfl) rfl T.z_isinstance bt_isinstance ?h278
           case h278 =>
            refine' qa_c (qv 0) ?h279
            case h279 =>
             exact qa_c (qe_glob (v := V.ref a.C_OutOfTimes) rfl T.m_OutOfTimes rfl) qa_nil
    case rr =>
    simp only [L2.start, List.length_cons, List.length_nil, List.map_cons, List.map_nil, Nat.reduceAdd, Nat.reduceSub, List.replicate_succ, List.replicate_zero, List.cons_append, List.nil_append]
    repeat walk_at "rd"
    refine rd_isiE he hC hA rfl (hk a.C_NoName (by simp)) (rd_k (iteF ?_))
    repeat walk_at "rd"
    refine rd_isiE he hC hA rfl (hk a.C_NoSample (by simp)) (rd_k (iteF ?_))
    repeat walk_at "rd"
    refine rd_isiE he hC hA rfl (hk a.C_NoText (by simp)) (rd_k (iteF ?_))
    repeat walk_at "rd"
    refine rd_isiE he hC hA rfl (hk a.C_NotApart (by simp)) (rd_k (iteF ?_))
    repeat walk_at "rd"
    refine rd_isiE he hC hA rfl (hk a.C_NoWatch (by simp)) (rd_k (iteF ?_))
    repeat walk_at "rd"
    refine rd_isiE he hC hA rfl (hk a.C_OutOfTimes (by simp)) ?_
    repeat walk_at "rd"
    exact q
def spNoCol (K : PySem.W.Frag) : Sp := fun vs H Q _ => ∃ (p : Addr) (b y m : Int) (x : V), vs = [.ref p, x] ∧ H p = some (.tup (win b y m)) ∧ Bad K H x m ∧ ∀ H', Same H H' → Q (.bl true) H'
theorem sc_l_no_column : FnScope ["_law_window_here", "_law_k", "_law_e"] ["_law_window_here", "_law_k"] (defScope s_l_no_column) := ⟨rfl, rfl, rfl, by decide +kernel, rfl, by decide +kernel, by decide +kernel⟩
theorem ok_l_no_column (T : Txt K mg a) : FnOk P w K mg base CX0 3 a.f_l_no_column a.d_l_no_column ["_law_window_here", "_law_k"] (spNoCol K) := by
  refine T.F_l_no_column.ok sc_l_no_column (fun vs H Q E h => ?_) (fun cdv A outer s H vs Q E hr h => ?_)
  · obtain ⟨p, b, y, m, x, rfl, _⟩ := h
    rfl
  · obtain ⟨p, b, y, m, x, rfl, hT, hB, k⟩ := h
    refine' ⟨_, QB.h ?pp, ?rr⟩
    case pp =>
     refine' qss_cons ?h280 ?h281
     case h280 =>
      refine' qs_try rfl rfl ?h282 ?h283
      case h282 =>
       refine' qbx_expr ?h284
       case h284 =>
        refine' qx_call (okx_times_of T) (hr.mono (by decide)) rfl T.m_times_of T.F_times_of.kp T.b_times_of .nil ?h285
        case h285 =>
         refine' qa_c (qv 0) ?h286
         case h286 =>
          exact qa_c (qv 1) qa_nil
      case h283 =>
       refine' qh_consN (i := 2) K rfl rfl rfl rfl sc_l_no_column.nd rfl rfl rfl T.m_FourPointsError T.x_FourPointsError ?h287 qh_nil
       case h287 =>
        intro _
        refine' qss_one ?h288
        case h288 =>
         refine' qs_ret ?h289
         case h289 =>
          refine' qe_and ?h290 ?h291
          case h290 =>
           refine' qe_callBS (kc_isiE K rfl) rfl T.z_isinstance bt_isinstance ?h292
           case h292 =>
            refine' qa_c (qv 2) ?h293
            case h293 =>
             exact qa_c (qe_glob (v := V.ref a.C_NoColumn) rfl T.m_NoColumn rfl) qa_nil
          case h291 =>
           refine' qe_and ?h294 ?h295
           case h294 =>
            refine' qe_not ?h296
            case h296 =>
             refine' qe_callBS (kc_isiE K rfl) rfl T.z_isinstance bt_isinstance ?h297
             case h297 =>
              refine' qa_c (qv 2) ?h298
              case h298 =>
               exact qa_c (qe_glob (v := V.ref a.C_NotHalf) rfl T.m_NotHalf rfl) qa_nil
           case h295 =>
            refine' qe_one ?h299
            case h299 =>
             refine' qe_not ?h300
             case h300 =>
              refine' qe_callN (okN_l_is_another T) (Room.clr (hr.mono (by decide))) rfl T.m_l_is_another T.F_l_is_another.kp T.b_l_is_another .nil ?h301
              case h301 =>
               exact qa_c (qv 2) qa_nil
     case h281 =>
      refine' qss_one ?h302
      case h302 =>
       exact qs_ret qe_bl
    case rr =>
    simp only [L2.start, List.length_cons, List.length_nil, List.map_cons, List.map_nil, Nat.reduceAdd, Nat.reduceSub, List.replicate_succ, List.replicate_zero, List.cons_append, List.nil_append]
    repeat walk_at "rd"
    refine ⟨p, b, y, m, x, rfl, SqT.of hT, hB, ?_⟩
    repeat walk_at "rd"
    refine rd_clause T.u_NoColumn_FourPointsError (iteT ?_)
    refine rd_suite fun e H2 n2 f2 S2 => ?_
    repeat walk_at "rd"
    refine rd_isiE f2 T.x_NoColumn T.y_NoColumn rfl T.k_NoColumn_NoColumn (rd_k (iteT ?_))
    repeat walk_at "rd"
    refine rd_isiE f2 T.x_NoColumn T.y_NoColumn rfl T.k_NoColumn_NotHalf ?_
    repeat walk_at "rd"
    refine iteT ?_
    repeat walk_at "rd"
    refine ⟨e, _, rfl, f2, T.x_NoColumn, T.y_NoColumn, ?_, ?_⟩
    · intro x hx
      simp only [List.mem_cons, List.not_mem_nil, or_false] at hx
      rcases hx with rfl | rfl | rfl | rfl | rfl | rfl
      · exact T.k_NoColumn_NoName
      · exact T.k_NoColumn_NoSample
      · exact T.k_NoColumn_NoText
      · exact T.k_NoColumn_NotApart
      · exact T.k_NoColumn_NoWatch
      · exact T.k_NoColumn_OutOfTimes
    repeat walk_at "rd"
    exact k H2 S2
def spNoHalf (K : PySem.W.Frag) : Sp := fun vs H Q _ => ∃ (p : Addr) (b y m : Int), vs = [.ref p] ∧ H p = some (.tup (win b y m)) ∧ y % 2 = 1 ∧ ∀ H', Same H H' → Q (.bl true) H'
theorem sc_l_no_half : FnScope ["_law_window_here", "_law_e"] ["_law_window_here"] (defScope s_l_no_half) := ⟨rfl, rfl, rfl, by decide +kernel, rfl, by decide +kernel, by decide +kernel⟩
theorem ok_l_no_half (T : Txt K mg a) : FnOk P w K mg base CX0 2 a.f_l_no_half a.d_l_no_half ["_law_window_here"] (spNoHalf K) := by
  refine T.F_l_no_half.ok sc_l_no_half (fun vs H Q E h => ?_) (fun cdv A outer s H vs Q E hr h => ?_)
  · obtain ⟨p, b, y, m, rfl, _⟩ := h
    rfl
  · obtain ⟨p, b, y, m, rfl, hT, hy, k⟩ := h
    refine' ⟨_, QB.h ?pp, ?rr⟩
    case pp =>
     refine' qss_cons ?h303 ?h304
     case h303 =>
      refine' qs_try rfl rfl ?h305 ?h306
      case h305 =>
       refine' qbx_expr ?h307
       case h307 =>
        refine' qx_call (okx_narrowed T) (hr.mono (by decide)) rfl T.m_narrowed T.F_narrowed.kp T.b_narrowed .nil ?h308
        case h308 =>
         exact qa_c (qv 0) qa_nil
      case h306 =>
       refine' qh_consN (i := 1) K rfl rfl rfl rfl sc_l_no_half.nd rfl rfl rfl T.m_FourPointsError T.x_FourPointsError ?h309 qh_nil
       case h309 =>
        intro _
        refine' qss_one ?h310
        case h310 =>
         refine' qs_ret ?h311
         case h311 =>
          refine' qe_and ?h312 ?h313
          case h312 =>
           refine' qe_callBS (kc_isiE K rfl) rfl T.z_isinstance bt_isinstance ?h314
           case h314 =>
            refine' qa_c (qv 1) ?h315
            case h315 =>
             exact qa_c (qe_glob (v := V.ref a.C_NotHalf) rfl T.m_NotHalf rfl) qa_nil
          case h313 =>
           refine' qe_and ?h316 ?h317
           case h316 =>
            refine' qe_not ?h318
            case h318 =>
             refine' qe_callBS (kc_isiE K rfl) rfl T.z_isinstance bt_isinstance ?h319
             case h319 =>
              refine' qa_c (qv 1) ?h320
              case h320 =>
               exact qa_c (qe_glob (v := V.ref a.C_NoColumn) rfl T.m_NoColumn rfl) qa_nil
           case h317 =>
            refine' qe_one ?h321
            case h321 =>
             refine' qe_not ?h322
             case h322 =>
              refine' qe_callN (okN_l_is_another T) (Room.clr (hr.mono (by decide))) rfl T.m_l_is_another T.F_l_is_another.kp T.b_l_is_another .nil ?h323
              case h323 =>
               exact qa_c (qv 1) qa_nil
     case h304 =>
      refine' qss_one ?h324
      case h324 =>
       exact qs_ret qe_bl
    case rr =>
    simp only [L2.start, List.length_cons, List.length_nil, List.map_cons, List.map_nil, Nat.reduceAdd, Nat.reduceSub, List.replicate_succ, List.replicate_zero, List.cons_append, List.nil_append]
    repeat walk_at "rd"
    refine ⟨p, b, y, m, rfl, hT, hy, ?_⟩
    repeat walk_at "rd"
    refine rd_clause T.u_NotHalf_FourPointsError (iteT ?_)
    refine rd_suite fun e H2 n2 f2 S2 => ?_
    repeat walk_at "rd"
    refine rd_isiE f2 T.x_NotHalf T.y_NotHalf rfl T.k_NotHalf_NotHalf (rd_k (iteT ?_))
    repeat walk_at "rd"
    refine rd_isiE f2 T.x_NotHalf T.y_NotHalf rfl T.k_NotHalf_NoColumn ?_
    repeat walk_at "rd"
    refine iteT ?_
    repeat walk_at "rd"
    refine ⟨e, _, rfl, f2, T.x_NotHalf, T.y_NotHalf, ?_, ?_⟩
    · intro x hx
      simp only [List.mem_cons, List.not_mem_nil, or_false] at hx
      rcases hx with rfl | rfl | rfl | rfl | rfl | rfl
      · exact T.k_NotHalf_NoName
      · exact T.k_NotHalf_NoSample
      · exact T.k_NotHalf_NoText
      · exact T.k_NotHalf_NotApart
      · exact T.k_NotHalf_NoWatch
      · exact T.k_NotHalf_OutOfTimes
    repeat walk_at "rd"
    exact k H2 S2
theorem rd_ne2 {H : Hp} {Q : VK} {p q : Addr} {x y : Int} (h1 : H p = some (.tup [.int x, .int y])) (h2 : H q = some (.tup [.int x, .int y])) (k : Q (.bl false) H) : rNeD K (.ref p) (.ref q) H Q := by
  refine rd_neD (d := .tuple [.int x, .int y]) (.tup (SqT.of h1) (.cons (.int _) (.cons (.int _) .nil))) (.tup (SqT.of h2) (.cons (.int _) (.cons (.int _) .nil))) rfl rfl ?_ ?_
  · simp [PyData.depth, PyData.depthAll]
  · rw [PySem.SeqAt.eqv_refl _ rfl]
    exact k
theorem rd_ne3 {H : Hp} {Q : VK} {p q : Addr} {x y z : Int} (h1 : H p = some (.tup [.int x, .int y, .int z])) (h2 : H q = some (.tup [.int x, .int y, .int z])) (k : Q (.bl false) H) : rNeD K (.ref p) (.ref q) H Q := by
  refine rd_neD (d := .tuple [.int x, .int y, .int z]) (.tup (SqT.of h1) (.cons (.int _) (.cons (.int _) (.cons (.int _) .nil)))) (.tup (SqT.of h2) (.cons (.int _) (.cons (.int _) (.cons (.int _) .nil)))) rfl rfl ?_ ?_
  · simp [PyData.depth, PyData.depthAll]
  · rw [PySem.SeqAt.eqv_refl _ rfl]
    exact k
def spLaw (K : PySem.W.Frag) : Sp := fun vs H Q _ => ∃ (s : Addr) (ns : List Int), vs = [.ref s] ∧ SqL K H s (ns.map V.int) ∧ ns.length ≤ 63 ∧ ∀ H', Q (.bl true) H'
theorem sc_law : FnScope ["_law_script", "_law_place", "_law_pot_here", "_law_window_here", "_law_begin", "_law_wide", "_law_many", "_law_last", "_law_odd"] ["_law_script"] (defScope s_law) := ⟨rfl, rfl, rfl, by decide +kernel, rfl, by decide +kernel, by decide +kernel⟩
theorem ok_law (T : Txt K mg a) : FnOk P w K mg base CX0 4 a.f_law a.d_law ["_law_script"] (spLaw K) := by
  refine T.F_law.ok sc_law (fun vs H Q E h => ?_) (fun cdv A outer s H vs Q E hr h => ?_)
  · obtain ⟨s, ns, rfl, _⟩ := h
    rfl
  · obtain ⟨s, ns, rfl, hS, hn, k⟩ := h
    have hu64 := hr.units
    refine' ⟨_, QB.h ?pp, ?rr⟩
    case pp =>
     refine' qss_cons ?h325 ?h326
     case h325 =>
      refine' qs_for PassesOwn.never rfl ?h327 (qg_name (i := 1) sc_law.nd rfl (by first | exact Or.inl rfl | exact Or.inr rfl)) ?h328
      case h327 =>
       refine' qi_range1 rfl T.z_range ?h329
       case h329 =>
        refine' qa_c ?h330 qa_nil
        case h330 =>
         refine' qe_callBS (ca_max rfl) rfl T.z_max bt_max ?h331
         case h331 =>
          refine' qa_c qe_int ?h332
          case h332 =>
           refine' qa_c ?h333 qa_nil
           case h333 =>
            refine' qe_callBS (ca_min rfl) rfl T.z_min bt_min ?h334
            case h334 =>
             refine' qa_c qe_int ?h335
             case h335 =>
              refine' qa_c ?h336 qa_nil
              case h336 =>
               refine' qe_callBS (kc_len K rfl) rfl T.z_len bt_len ?h337
               case h337 =>
                exact qa_c (qv 0) qa_nil
      case h328 =>
       refine' qss_cons ?h338 ?h339
       case h338 =>
        refine' qs_setS (i := 2) sc_law.nd rfl (by first | exact Or.inl rfl | exact Or.inr rfl) ?h340
        case h340 =>
         refine' qe_callS (ok_l_pot T) (hr.mono (by decide)) rfl T.m_l_pot T.F_l_pot.kp T.b_l_pot .nil pass0 ?h341
         case h341 =>
          refine' qa_c ?h342 qa_nil
          case h342 =>
           refine' qe_op op_add ?h343 ?h344
           case h343 =>
            refine' qe_callS (ok_l_nth T) (hr.mono (by decide)) rfl T.m_l_nth T.F_l_nth.kp T.b_l_nth .nil pass0 ?h345
            case h345 =>
             refine' qa_c (qv 0) ?h346
             case h346 =>
              exact qa_c (qv 1) qa_nil
           case h344 =>
            refine' qe_op op_mulG ?h347 ?h348
            case h347 =>
             exact qe_op op_mulG qe_int (qv 1)
            case h348 =>
             refine' qe_callTyS ca_int rfl T.z_int bt_int ?h349
             case h349 =>
              refine' qa_c ?h350 qa_nil
              case h350 =>
               refine' qe_cmpR (op_lt) ?h351 ?h352 (nomark _)
               case h351 =>
                refine' qe_callBS ca_abs rfl T.z_abs bt_abs ?h353
                case h353 =>
                 refine' qa_c ?h354 qa_nil
                 case h354 =>
                  refine' qe_callS (ok_l_nth T) (hr.mono (by decide)) rfl T.m_l_nth T.F_l_nth.kp T.b_l_nth .nil pass0 ?h355
                  case h355 =>
                   refine' qa_c (qv 0) ?h356
                   case h356 =>
                    exact qa_c (qv 1) qa_nil
               case h352 =>
                exact qe_op op_pow qe_int qe_int
       case h339 =>
        refine' qss_cons ?h357 ?h358
        case h357 =>
         refine' qs_setS (i := 3) sc_law.nd rfl (by first | exact Or.inl rfl | exact Or.inr rfl) ?h359
         case h359 =>
          refine' qe_callS (ok_l_window T) (hr.mono (by decide)) rfl T.m_l_window T.F_l_window.kp T.b_l_window .nil pass0 ?h360
          case h360 =>
           exact qa_c (qv 2) qa_nil
        case h358 =>
         refine' qss_cons ?h361 ?h362
         case h361 =>
          refine' qs_asg (qv 3) ?h363
          case h363 =>
           refine' kg_tup (n := 3) K rfl rfl ?h364
           case h364 =>
            refine' qgs_cons (qg_name (i := 4) sc_law.nd rfl (by first | exact Or.inl rfl | exact Or.inr rfl)) ?h365
            case h365 =>
             refine' qgs_cons (qg_name (i := 5) sc_law.nd rfl (by first | exact Or.inl rfl | exact Or.inr rfl)) ?h366
             case h366 =>
              exact qgs_cons (qg_name (i := 6) sc_law.nd rfl (by first | exact Or.inl rfl | exact Or.inr rfl)) qgs_nil
         case h362 =>
          refine' qss_cons ?h367 ?h368
          case h367 =>
           refine' qs_setS (i := 7) sc_law.nd rfl (by first | exact Or.inl rfl | exact Or.inr rfl) ?h369
           case h369 =>
            refine' qe_tup ?h370
            case h370 =>
             refine' qa_c ?h371 ?h372
             case h371 =>
              refine' qe_op op_add (qv 4) ?h373
              case h373 =>
               refine' qe_op op_mulG ?h374 (qv 5)
               case h374 =>
                exact qe_op op_sub (qv 6) qe_int
             case h372 =>
              refine' qa_c ?h375 qa_nil
              case h375 =>
               refine' qe_op op_add (qv 4) ?h376
               case h376 =>
                exact qe_op op_mulG (qv 6) (qv 5)
          case h368 =>
           refine' qss_cons ?h377 ?h378
           case h377 =>
            refine' qs_if ?h379 ?h380 qss_nil
            case h379 =>
             refine' QW.pt ?h381
             case h381 =>
              refine' qw_or ?h382 ?h383
              case h382 =>
               refine' qt_cmpR (ko_neD K rfl hu64) ?h384 (qv 7) (nomark _)
               case h384 =>
                refine' qe_callS (ok_times_of T) (hr.mono (by decide)) rfl T.m_times_of T.F_times_of.kp T.b_times_of .nil pass0 ?h385
                case h385 =>
                 refine' qa_c (qv 3) ?h386
                 case h386 =>
                  refine' qa_c ?h387 qa_nil
                  case h387 =>
                   exact qe_op op_sub (qv 6) qe_int
              case h383 =>
               refine' qw_or ?h388 ?h389
               case h388 =>
                refine' qt_not ?h390
                case h390 =>
                 refine' qt_val ?h391
                 case h391 =>
                  refine' qe_callS (ok_l_no_column T) hr rfl T.m_l_no_column T.F_l_no_column.kp T.b_l_no_column .nil pass0 ?h392
                  case h392 =>
                   refine' qa_c (qv 3) ?h393
                   case h393 =>
                    exact qa_c (qv 6) qa_nil
               case h389 =>
                refine' qw_or1 ?h394
                case h394 =>
                 refine' qt_not ?h395
                 case h395 =>
                  refine' qt_val ?h396
                  case h396 =>
                   refine' qe_callS (ok_l_no_column T) hr rfl T.m_l_no_column T.F_l_no_column.kp T.b_l_no_column .nil pass0 ?h397
                   case h397 =>
                    refine' qa_c (qv 3) ?h398
                    case h398 =>
                     refine' qa_c ?h399 qa_nil
                     case h399 =>
                      exact qe_un un_neg qe_int
            case h380 =>
             refine' qss_one ?h400
             case h400 =>
              exact qs_ret qe_bl
           case h378 =>
            refine' qss_cons ?h401 ?h402
            case h401 =>
             refine' qs_if ?h403 ?h404 qss_nil
             case h403 =>
              refine' QW.pt ?h405
              case h405 =>
               refine' qw_or ?h406 ?h407
               case h406 =>
                refine' qt_not ?h408
                case h408 =>
                 refine' qt_val ?h409
                 case h409 =>
                  refine' qe_callS (ok_l_no_column T) hr rfl T.m_l_no_column T.F_l_no_column.kp T.b_l_no_column .nil pass0 ?h410
                  case h410 =>
                   refine' qa_c (qv 3) ?h411
                   case h411 =>
                    refine' qa_c ?h412 qa_nil
                    case h412 =>
                     refine' qe_callS (ok_l_wrong T) (hr.mono (by decide)) rfl T.m_l_wrong T.F_l_wrong.kp T.b_l_wrong .nil pass0 ?h413
                     case h413 =>
                      refine' qa_c (qv 2) ?h414
                      case h414 =>
                       exact qa_c (qv 6) qa_nil
               case h407 =>
                refine' qw_or1 ?h415
                case h415 =>
                 refine' qt_cmpR (ko_neD K rfl hu64) ?h416 ?h417 (nomark _)
                 case h416 =>
                  refine' qe_callS (ok_times_of T) (hr.mono (by decide)) rfl T.m_times_of T.F_times_of.kp T.b_times_of .nil pass0 ?h418
                  case h418 =>
                   refine' qa_c (qv 3) ?h419
                   case h419 =>
                    exact qa_c qe_int qa_nil
                 case h417 =>
                  refine' qe_tup ?h420
                  case h420 =>
                   refine' qa_c (qv 4) ?h421
                   case h421 =>
                    refine' qa_c ?h422 qa_nil
                    case h422 =>
                     exact qe_op op_add (qv 4) (qv 5)
             case h404 =>
              refine' qss_one ?h423
              case h423 =>
               exact qs_ret qe_bl
            case h402 =>
             refine' qss_cons ?h424 ?h425
             case h424 =>
              refine' qs_setS (i := 8) sc_law.nd rfl (by first | exact Or.inl rfl | exact Or.inr rfl) ?h426
              case h426 =>
               refine' qe_tup ?h427
               case h427 =>
                refine' qa_c (qv 4) ?h428
                case h428 =>
                 refine' qa_c ?h429 ?h430
                 case h429 =>
                  refine' qe_op op_add ?h431 qe_int
                  case h431 =>
                   refine' qe_op op_mulG qe_int ?h432
                   case h432 =>
                    exact qe_op op_fdivB (qv 5) qe_int
                 case h430 =>
                  exact qa_c (qv 6) qa_nil
             case h425 =>
              refine' qss_one ?h433
              case h433 =>
               refine' qs_if ?h434 ?h435 qss_nil
               case h434 =>
                refine' QW.pt ?h436
                case h436 =>
                 refine' qw_or ?h437 ?h438
                 case h437 =>
                  refine' qt_not ?h439
                  case h439 =>
                   refine' qt_val ?h440
                   case h440 =>
                    refine' qe_callS (ok_l_no_half T) (hr.mono (by decide)) rfl T.m_l_no_half T.F_l_no_half.kp T.b_l_no_half .nil pass0 ?h441
                    case h441 =>
                     exact qa_c (qv 8) qa_nil
                 case h438 =>
                  refine' qw_or ?h442 ?h443
                  case h442 =>
                   refine' qt_cmpR (ko_neD K rfl hu64) ?h444 (qv 8) (nomark _)
                   case h444 =>
                    refine' qe_callS (ok_narrowed T) (hr.mono (by decide)) rfl T.m_narrowed T.F_narrowed.kp T.b_narrowed .nil pass0 ?h445
                    case h445 =>
                     refine' qa_c ?h446 qa_nil
                     case h446 =>
                      refine' qe_callS (ok_widened T) (hr.mono (by decide)) rfl T.m_widened T.F_widened.kp T.b_widened .nil pass0 ?h447
                      case h447 =>
                       exact qa_c (qv 8) qa_nil
                  case h443 =>
                   refine' qw_or1 ?h448
                   case h448 =>
                    refine' qt_not ?h449
                    case h449 =>
                     refine' qt_val ?h450
                     case h450 =>
                      refine' qe_callS (ok_l_no_half T) (hr.mono (by decide)) rfl T.m_l_no_half T.F_l_no_half.kp T.b_l_no_half .nil pass0 ?h451
                      case h451 =>
                       exact qa_c (qv 8) qa_nil
               case h435 =>
                refine' qss_one ?h452
                case h452 =>
                 exact qs_ret qe_bl
     case h326 =>
      refine' qss_one ?h453
      case h453 =>
       exact qs_ret qe_bl
    case rr =>
    simp only [L2.start, List.length_cons, List.length_nil, List.map_cons, List.map_nil, Nat.reduceAdd, Nat.reduceSub, List.replicate_succ, List.replicate_zero, List.cons_append, List.nil_append]
    repeat walk_at "rd"
    generalize hj : (if (if ((ns.map V.int).length : Int) < 9 then ((ns.map V.int).length : Int) else 9) > 1 then (if ((ns.map V.int).length : Int) < 9 then ((ns.map V.int).length : Int) else 9) else 1) = j
    have hj1 : 1 ≤ j := by rw [← hj]; split <;> omega
    have hj2 : j ≤ 9 := by rw [← hj]; split <;> (try split) <;> omega
    refine rd_rng (by omega) (by omega) ?_
    refine rd_forR (fun i σ H2 => (∃ v1 v2 v3 v4 v5 v6 v7 v8, σ = [some (.ref s), v1, v2, v3, v4, v5, v6, v7, v8]) ∧ Same H H2) ⟨⟨_, _, _, _, _, _, _, _, rfl⟩, Same.refl H⟩ ?_ ?_
    · rintro i σ H2 hi ⟨⟨v1, v2, v3, v4, v5, v6, v7, v8, rfl⟩, S2⟩
      have hi2 : (i : Int) < 9 := by omega
      have hS2 := S2.seq hS
      repeat walk_at "rd"
      refine ⟨s, ns, _, rfl, hS2, by omega, ?_⟩
      repeat walk_at "rd"
      refine ⟨s, ns, _, rfl, hS2, by omega, ?_⟩
      repeat walk_at "rd"
      refine ⟨_, rfl, fun p H3 n3 P3 S3 => ?_⟩
      repeat walk_at "rd"
      refine ⟨p, rfl, P3, fun u b y m H4 hy hy2 hm hm2 nup f4 P4 K4 => ?_⟩
      have S24 : Same H2 H4 := ((Kp.same S3).trans K4).fresh n3
      repeat walk_at "rd"
      refine rd_new (by show 2 ≤ sizeLine; decide) fun t5 H5 n5 f5 S5 => ?_
      have g5 := S5 _ _ f4
      have em : b + m * y = b + (m - 1) * y + y := by rw [Int.sub_mul, Int.one_mul]; omega
      rw [em] at f5
      repeat walk_at "rd"
      refine ⟨u, b, y, m, m - 1, rfl, SqT.of g5, by omega, by omega, by omega, fun u6 H6 n6 f6 S6 => ?_⟩
      have g6 := S6 _ _ g5
      repeat walk_at "rd"
      refine rd_ne2 f6 (S6 _ _ f5) ?_
      repeat walk_at "rd"
      refine iteF ?_
      repeat walk_at "rd"
      refine ⟨u, b, y, m, _, rfl, g6, .inl ⟨m, rfl, by omega⟩, fun H7 S7 => ?_⟩
      have g7 := S7 _ _ g6
      repeat walk_at "rd"
      refine iteF ?_
      repeat walk_at "rd"
      refine ⟨u, b, y, m, _, rfl, g7, .inl ⟨-1, rfl, by omega⟩, fun H8 S8 => ?_⟩
      have g8 := S8 _ _ g7
      repeat walk_at "rd"
      refine iteF ?_
      have S48 : Same H4 H8 := S5.trans (S6.trans (S7.trans S8))
      repeat walk_at "rd"
      refine ⟨p, m, rfl, P4.same S48, hm, fun x H9 hB P9 K9 => ?_⟩
      have g9 := K9 _ _ g8 nup
      repeat walk_at "rd"
      refine ⟨u, b, y, m, x, rfl, g9, hB, fun H10 S10 => ?_⟩
      have g10 := S10 _ _ g9
      repeat walk_at "rd"
      refine iteF ?_
      repeat walk_at "rd"
      refine ⟨u, b, y, m, 0, rfl, SqT.of g10, by omega, by omega, by omega, fun u11 H11 n11 f11 S11 => ?_⟩
      rw [Int.zero_mul, Int.add_zero] at f11
      repeat walk_at "rd"
      refine rd_new (by show 2 ≤ sizeLine; decide) fun t12 H12 n12 f12 S12 => ?_
      refine rd_ne2 (S12 _ _ f11) f12 ?_
      repeat walk_at "rd"
      refine iteF ?_
      have S13' : Same H2 H12 := (((((Kp.same S3).trans K4).then S48).trans K9).then (S10.trans (S11.trans S12))).fresh n3
      repeat walk_at "rd"
      refine rd_new (by show 3 ≤ sizeLine; decide) fun t13 H13 n13 f13 S13 => ?_
      have ho : (2 * (y / 2) + 1) % 2 = 1 := by omega
      repeat walk_at "rd"
      refine ⟨t13, _, _, _, rfl, f13, ho, fun H14 S14 => ?_⟩
      have f14 := S14 _ _ f13
      repeat walk_at "rd"
      refine iteF ?_
      repeat walk_at "rd"
      refine ⟨t13, _, _, _, rfl, f14, fun u15 H15 f15 S15 => ?_⟩
      repeat walk_at "rd"
      refine ⟨u15, _, _, _, rfl, f15, by omega, fun u16 H16 f16 S16 => ?_⟩
      rw [show (2 * (y / 2) + 1) * 2 / 2 = 2 * (y / 2) + 1 by omega] at f16
      have g16 := S16 _ _ (S15 _ _ f14)
      repeat walk_at "rd"
      refine rd_ne3 f16 g16 ?_
      repeat walk_at "rd"
      refine iteF ?_
      repeat walk_at "rd"
      refine ⟨t13, _, _, _, rfl, g16, ho, fun H17 S17 => ?_⟩
      repeat walk_at "rd"
      refine iteF ?_
      repeat walk_at "rd"
      exact ⟨⟨_, _, _, _, _, _, _, _, rfl⟩, (((((S2.trans S13').trans S13).trans S14).trans S15).trans S16).trans S17⟩
    · rintro σ H2 ⟨⟨v1, v2, v3, v4, v5, v6, v7, v8, rfl⟩, S2⟩
      repeat walk_at "rd"
      exact k H2
end
theorem all_mk {l : PySem.W.OpenLaw} {w : World} {K : PySem.W.Frag} {h : Heap} {mg : Str → Option Value} {fa : Addr} (X : K.In h) (G : h.Ns mainGlobals mg) (hfa : mg "law" = some (.ref fa))
    {C_FourPointsError : Addr}
    {C_NoText : Addr}
    {C_NoColumn : Addr}
    {C_NotHalf : Addr}
    {C_OutOfTimes : Addr}
    {C_NoSample : Addr}
    {C_NoWatch : Addr}
    {C_NoName : Addr}
    {C_NotApart : Addr}
    {f0 : Addr} {od0 an0 : Option Addr} {sl0 : Array (Option Value)} {oc0 kV0 dc0 pm0 cd0 ct0 : Value}
    {f1 : Addr} {od1 an1 : Option Addr} {sl1 : Array (Option Value)} {oc1 kV1 dc1 pm1 cd1 ct1 : Value}
    {f2 : Addr} {od2 an2 : Option Addr} {sl2 : Array (Option Value)} {oc2 kV2 dc2 pm2 cd2 ct2 : Value}
    {f3 : Addr} {od3 an3 : Option Addr} {sl3 : Array (Option Value)} {oc3 kV3 dc3 pm3 cd3 ct3 : Value}
    {f4 : Addr} {od4 an4 : Option Addr} {sl4 : Array (Option Value)} {oc4 kV4 dc4 pm4 cd4 ct4 : Value}
    {f5 : Addr} {od5 an5 : Option Addr} {sl5 : Array (Option Value)} {oc5 kV5 dc5 pm5 cd5 ct5 : Value}
    {f6 : Addr} {od6 an6 : Option Addr} {sl6 : Array (Option Value)} {oc6 kV6 dc6 pm6 cd6 ct6 : Value}
    {f7 : Addr} {od7 an7 : Option Addr} {sl7 : Array (Option Value)} {oc7 kV7 dc7 pm7 cd7 ct7 : Value}
    {f8 : Addr} {od8 an8 : Option Addr} {sl8 : Array (Option Value)} {oc8 kV8 dc8 pm8 cd8 ct8 : Value}
    {f9 : Addr} {od9 an9 : Option Addr} {sl9 : Array (Option Value)} {oc9 kV9 dc9 pm9 cd9 ct9 : Value}
    {f10 : Addr} {od10 an10 : Option Addr} {sl10 : Array (Option Value)} {oc10 kV10 dc10 pm10 cd10 ct10 : Value}
    {f11 : Addr} {od11 an11 : Option Addr} {sl11 : Array (Option Value)} {oc11 kV11 dc11 pm11 cd11 ct11 : Value}
    {f12 : Addr} {od12 an12 : Option Addr} {sl12 : Array (Option Value)} {oc12 kV12 dc12 pm12 cd12 ct12 : Value}
    (aC_FourPointsError : PySem.W.nsIn K mainGlobals "FourPointsError" = some (some (.ref C_FourPointsError))) (ex_FourPointsError : PySem.W.excIn K C_FourPointsError [.type "ValueError", .type "Exception", .type "BaseException", .type "object"] "ValueError.__new__" = true) (ga_FourPointsError : PySem.W.findIn K (.ref C_FourPointsError) "__getattribute__" = some (some (.builtin "BaseException.__getattribute__"))) (gt_FourPointsError : PySem.W.findIn K (.ref C_FourPointsError) "__getattr__" = some none) (cl_FourPointsError : PySem.W.findIn K (.ref C_FourPointsError) "__class__" = some (some (.builtin "object.__class__"))) (ob_FourPointsError : PySem.W.mroIn K C_FourPointsError (.type "object") = some true) (be_FourPointsError : PySem.W.mroIn K C_FourPointsError (.type "BaseException") = some true)
    (aC_NoText : PySem.W.nsIn K mainGlobals "NoText" = some (some (.ref C_NoText))) (ex_NoText : PySem.W.excIn K C_NoText [.type "ValueError", .type "Exception", .type "BaseException", .type "object"] "ValueError.__new__" = true) (ga_NoText : PySem.W.findIn K (.ref C_NoText) "__getattribute__" = some (some (.builtin "BaseException.__getattribute__"))) (gt_NoText : PySem.W.findIn K (.ref C_NoText) "__getattr__" = some none) (cl_NoText : PySem.W.findIn K (.ref C_NoText) "__class__" = some (some (.builtin "object.__class__"))) (ob_NoText : PySem.W.mroIn K C_NoText (.type "object") = some true) (be_NoText : PySem.W.mroIn K C_NoText (.type "BaseException") = some true)
    (aC_NoColumn : PySem.W.nsIn K mainGlobals "NoColumn" = some (some (.ref C_NoColumn))) (ex_NoColumn : PySem.W.excIn K C_NoColumn [.type "ValueError", .type "Exception", .type "BaseException", .type "object"] "ValueError.__new__" = true) (ga_NoColumn : PySem.W.findIn K (.ref C_NoColumn) "__getattribute__" = some (some (.builtin "BaseException.__getattribute__"))) (gt_NoColumn : PySem.W.findIn K (.ref C_NoColumn) "__getattr__" = some none) (cl_NoColumn : PySem.W.findIn K (.ref C_NoColumn) "__class__" = some (some (.builtin "object.__class__"))) (ob_NoColumn : PySem.W.mroIn K C_NoColumn (.type "object") = some true) (be_NoColumn : PySem.W.mroIn K C_NoColumn (.type "BaseException") = some true)
    (aC_NotHalf : PySem.W.nsIn K mainGlobals "NotHalf" = some (some (.ref C_NotHalf))) (ex_NotHalf : PySem.W.excIn K C_NotHalf [.type "ValueError", .type "Exception", .type "BaseException", .type "object"] "ValueError.__new__" = true) (ga_NotHalf : PySem.W.findIn K (.ref C_NotHalf) "__getattribute__" = some (some (.builtin "BaseException.__getattribute__"))) (gt_NotHalf : PySem.W.findIn K (.ref C_NotHalf) "__getattr__" = some none) (cl_NotHalf : PySem.W.findIn K (.ref C_NotHalf) "__class__" = some (some (.builtin "object.__class__"))) (ob_NotHalf : PySem.W.mroIn K C_NotHalf (.type "object") = some true) (be_NotHalf : PySem.W.mroIn K C_NotHalf (.type "BaseException") = some true)
    (aC_OutOfTimes : PySem.W.nsIn K mainGlobals "OutOfTimes" = some (some (.ref C_OutOfTimes))) (ex_OutOfTimes : PySem.W.excIn K C_OutOfTimes [.type "ValueError", .type "Exception", .type "BaseException", .type "object"] "ValueError.__new__" = true) (ga_OutOfTimes : PySem.W.findIn K (.ref C_OutOfTimes) "__getattribute__" = some (some (.builtin "BaseException.__getattribute__"))) (gt_OutOfTimes : PySem.W.findIn K (.ref C_OutOfTimes) "__getattr__" = some none) (cl_OutOfTimes : PySem.W.findIn K (.ref C_OutOfTimes) "__class__" = some (some (.builtin "object.__class__"))) (ob_OutOfTimes : PySem.W.mroIn K C_OutOfTimes (.type "object") = some true) (be_OutOfTimes : PySem.W.mroIn K C_OutOfTimes (.type "BaseException") = some true)
    (aC_NoSample : PySem.W.nsIn K mainGlobals "NoSample" = some (some (.ref C_NoSample))) (ex_NoSample : PySem.W.excIn K C_NoSample [.type "ValueError", .type "Exception", .type "BaseException", .type "object"] "ValueError.__new__" = true) (ga_NoSample : PySem.W.findIn K (.ref C_NoSample) "__getattribute__" = some (some (.builtin "BaseException.__getattribute__"))) (gt_NoSample : PySem.W.findIn K (.ref C_NoSample) "__getattr__" = some none) (cl_NoSample : PySem.W.findIn K (.ref C_NoSample) "__class__" = some (some (.builtin "object.__class__"))) (ob_NoSample : PySem.W.mroIn K C_NoSample (.type "object") = some true) (be_NoSample : PySem.W.mroIn K C_NoSample (.type "BaseException") = some true)
    (aC_NoWatch : PySem.W.nsIn K mainGlobals "NoWatch" = some (some (.ref C_NoWatch))) (ex_NoWatch : PySem.W.excIn K C_NoWatch [.type "ValueError", .type "Exception", .type "BaseException", .type "object"] "ValueError.__new__" = true) (ga_NoWatch : PySem.W.findIn K (.ref C_NoWatch) "__getattribute__" = some (some (.builtin "BaseException.__getattribute__"))) (gt_NoWatch : PySem.W.findIn K (.ref C_NoWatch) "__getattr__" = some none) (cl_NoWatch : PySem.W.findIn K (.ref C_NoWatch) "__class__" = some (some (.builtin "object.__class__"))) (ob_NoWatch : PySem.W.mroIn K C_NoWatch (.type "object") = some true) (be_NoWatch : PySem.W.mroIn K C_NoWatch (.type "BaseException") = some true)
    (aC_NoName : PySem.W.nsIn K mainGlobals "NoName" = some (some (.ref C_NoName))) (ex_NoName : PySem.W.excIn K C_NoName [.type "ValueError", .type "Exception", .type "BaseException", .type "object"] "ValueError.__new__" = true) (ga_NoName : PySem.W.findIn K (.ref C_NoName) "__getattribute__" = some (some (.builtin "BaseException.__getattribute__"))) (gt_NoName : PySem.W.findIn K (.ref C_NoName) "__getattr__" = some none) (cl_NoName : PySem.W.findIn K (.ref C_NoName) "__class__" = some (some (.builtin "object.__class__"))) (ob_NoName : PySem.W.mroIn K C_NoName (.type "object") = some true) (be_NoName : PySem.W.mroIn K C_NoName (.type "BaseException") = some true)
    (aC_NotApart : PySem.W.nsIn K mainGlobals "NotApart" = some (some (.ref C_NotApart))) (ex_NotApart : PySem.W.excIn K C_NotApart [.type "ValueError", .type "Exception", .type "BaseException", .type "object"] "ValueError.__new__" = true) (ga_NotApart : PySem.W.findIn K (.ref C_NotApart) "__getattribute__" = some (some (.builtin "BaseException.__getattribute__"))) (gt_NotApart : PySem.W.findIn K (.ref C_NotApart) "__getattr__" = some none) (cl_NotApart : PySem.W.findIn K (.ref C_NotApart) "__class__" = some (some (.builtin "object.__class__"))) (ob_NotApart : PySem.W.mroIn K C_NotApart (.type "object") = some true) (be_NotApart : PySem.W.mroIn K C_NotApart (.type "BaseException") = some true)
    (u_NoColumn_FourPointsError : PySem.W.subIn K (.ref C_NoColumn) (.ref C_FourPointsError) = some true) (k_NoColumn_FourPointsError : PySem.W.kitOne K (.ref C_NoColumn) (.ref C_FourPointsError) = some true)
    (u_NoColumn_NoText : PySem.W.subIn K (.ref C_NoColumn) (.ref C_NoText) = some false) (k_NoColumn_NoText : PySem.W.kitOne K (.ref C_NoColumn) (.ref C_NoText) = some false)
    (u_NoColumn_NoColumn : PySem.W.subIn K (.ref C_NoColumn) (.ref C_NoColumn) = some true) (k_NoColumn_NoColumn : PySem.W.kitOne K (.ref C_NoColumn) (.ref C_NoColumn) = some true)
    (u_NoColumn_NotHalf : PySem.W.subIn K (.ref C_NoColumn) (.ref C_NotHalf) = some false) (k_NoColumn_NotHalf : PySem.W.kitOne K (.ref C_NoColumn) (.ref C_NotHalf) = some false)
    (u_NoColumn_OutOfTimes : PySem.W.subIn K (.ref C_NoColumn) (.ref C_OutOfTimes) = some false) (k_NoColumn_OutOfTimes : PySem.W.kitOne K (.ref C_NoColumn) (.ref C_OutOfTimes) = some false)
    (u_NoColumn_NoSample : PySem.W.subIn K (.ref C_NoColumn) (.ref C_NoSample) = some false) (k_NoColumn_NoSample : PySem.W.kitOne K (.ref C_NoColumn) (.ref C_NoSample) = some false)
    (u_NoColumn_NoWatch : PySem.W.subIn K (.ref C_NoColumn) (.ref C_NoWatch) = some false) (k_NoColumn_NoWatch : PySem.W.kitOne K (.ref C_NoColumn) (.ref C_NoWatch) = some false)
    (u_NoColumn_NoName : PySem.W.subIn K (.ref C_NoColumn) (.ref C_NoName) = some false) (k_NoColumn_NoName : PySem.W.kitOne K (.ref C_NoColumn) (.ref C_NoName) = some false)
    (u_NoColumn_NotApart : PySem.W.subIn K (.ref C_NoColumn) (.ref C_NotApart) = some false) (k_NoColumn_NotApart : PySem.W.kitOne K (.ref C_NoColumn) (.ref C_NotApart) = some false)
    (u_NotHalf_FourPointsError : PySem.W.subIn K (.ref C_NotHalf) (.ref C_FourPointsError) = some true) (k_NotHalf_FourPointsError : PySem.W.kitOne K (.ref C_NotHalf) (.ref C_FourPointsError) = some true)
    (u_NotHalf_NoText : PySem.W.subIn K (.ref C_NotHalf) (.ref C_NoText) = some false) (k_NotHalf_NoText : PySem.W.kitOne K (.ref C_NotHalf) (.ref C_NoText) = some false)
    (u_NotHalf_NoColumn : PySem.W.subIn K (.ref C_NotHalf) (.ref C_NoColumn) = some false) (k_NotHalf_NoColumn : PySem.W.kitOne K (.ref C_NotHalf) (.ref C_NoColumn) = some false)
    (u_NotHalf_NotHalf : PySem.W.subIn K (.ref C_NotHalf) (.ref C_NotHalf) = some true) (k_NotHalf_NotHalf : PySem.W.kitOne K (.ref C_NotHalf) (.ref C_NotHalf) = some true)
    (u_NotHalf_OutOfTimes : PySem.W.subIn K (.ref C_NotHalf) (.ref C_OutOfTimes) = some false) (k_NotHalf_OutOfTimes : PySem.W.kitOne K (.ref C_NotHalf) (.ref C_OutOfTimes) = some false)
    (u_NotHalf_NoSample : PySem.W.subIn K (.ref C_NotHalf) (.ref C_NoSample) = some false) (k_NotHalf_NoSample : PySem.W.kitOne K (.ref C_NotHalf) (.ref C_NoSample) = some false)
    (u_NotHalf_NoWatch : PySem.W.subIn K (.ref C_NotHalf) (.ref C_NoWatch) = some false) (k_NotHalf_NoWatch : PySem.W.kitOne K (.ref C_NotHalf) (.ref C_NoWatch) = some false)
    (u_NotHalf_NoName : PySem.W.subIn K (.ref C_NotHalf) (.ref C_NoName) = some false) (k_NotHalf_NoName : PySem.W.kitOne K (.ref C_NotHalf) (.ref C_NoName) = some false)
    (u_NotHalf_NotApart : PySem.W.subIn K (.ref C_NotHalf) (.ref C_NotApart) = some false) (k_NotHalf_NotApart : PySem.W.kitOne K (.ref C_NotHalf) (.ref C_NotApart) = some false)
    (a0 : PySem.W.nsIn K mainGlobals "is_whole" = some (some (.ref f0)))
    (l0 : K.lookup f0 = some ⟨oc0, od0, .func (PySem.W.fnOf "is_whole" "is_whole" (defArgs s_is_whole) (defBody s_is_whole) (defScope s_is_whole) .none kV0 dc0 pm0 an0 cd0 ct0), sl0⟩) (c0 : PySem.W.codeIn K cd0 "is_whole" = true) (k0 : PySem.W.keepIn K (.ref f0) = true)
    (a1 : PySem.W.nsIn K mainGlobals "times_of" = some (some (.ref f1)))
    (l1 : K.lookup f1 = some ⟨oc1, od1, .func (PySem.W.fnOf "times_of" "times_of" (defArgs s_times_of) (defBody s_times_of) (defScope s_times_of) .none kV1 dc1 pm1 an1 cd1 ct1), sl1⟩) (c1 : PySem.W.codeIn K cd1 "times_of" = true) (k1 : PySem.W.keepIn K (.ref f1) = true)
    (a2 : PySem.W.nsIn K mainGlobals "widened" = some (some (.ref f2)))
    (l2 : K.lookup f2 = some ⟨oc2, od2, .func (PySem.W.fnOf "widened" "widened" (defArgs s_widened) (defBody s_widened) (defScope s_widened) .none kV2 dc2 pm2 an2 cd2 ct2), sl2⟩) (c2 : PySem.W.codeIn K cd2 "widened" = true) (k2 : PySem.W.keepIn K (.ref f2) = true)
    (a3 : PySem.W.nsIn K mainGlobals "narrowed" = some (some (.ref f3)))
    (l3 : K.lookup f3 = some ⟨oc3, od3, .func (PySem.W.fnOf "narrowed" "narrowed" (defArgs s_narrowed) (defBody s_narrowed) (defScope s_narrowed) .none kV3 dc3 pm3 an3 cd3 ct3), sl3⟩) (c3 : PySem.W.codeIn K cd3 "narrowed" = true) (k3 : PySem.W.keepIn K (.ref f3) = true)
    (a4 : PySem.W.nsIn K mainGlobals "_law_nth" = some (some (.ref f4)))
    (l4 : K.lookup f4 = some ⟨oc4, od4, .func (PySem.W.fnOf "_law_nth" "_law_nth" (defArgs s_l_nth) (defBody s_l_nth) (defScope s_l_nth) .none kV4 dc4 pm4 an4 cd4 ct4), sl4⟩) (c4 : PySem.W.codeIn K cd4 "_law_nth" = true) (k4 : PySem.W.keepIn K (.ref f4) = true)
    (a5 : PySem.W.nsIn K mainGlobals "_law_pot" = some (some (.ref f5)))
    (l5 : K.lookup f5 = some ⟨oc5, od5, .func (PySem.W.fnOf "_law_pot" "_law_pot" (defArgs s_l_pot) (defBody s_l_pot) (defScope s_l_pot) .none kV5 dc5 pm5 an5 cd5 ct5), sl5⟩) (c5 : PySem.W.codeIn K cd5 "_law_pot" = true) (k5 : PySem.W.keepIn K (.ref f5) = true)
    (a6 : PySem.W.nsIn K mainGlobals "_law_take" = some (some (.ref f6)))
    (l6 : K.lookup f6 = some ⟨oc6, od6, .func (PySem.W.fnOf "_law_take" "_law_take" (defArgs s_l_take) (defBody s_l_take) (defScope s_l_take) .none kV6 dc6 pm6 an6 cd6 ct6), sl6⟩) (c6 : PySem.W.codeIn K cd6 "_law_take" = true) (k6 : PySem.W.keepIn K (.ref f6) = true)
    (a7 : PySem.W.nsIn K mainGlobals "_law_window" = some (some (.ref f7)))
    (l7 : K.lookup f7 = some ⟨oc7, od7, .func (PySem.W.fnOf "_law_window" "_law_window" (defArgs s_l_window) (defBody s_l_window) (defScope s_l_window) .none kV7 dc7 pm7 an7 cd7 ct7), sl7⟩) (c7 : PySem.W.codeIn K cd7 "_law_window" = true) (k7 : PySem.W.keepIn K (.ref f7) = true)
    (a8 : PySem.W.nsIn K mainGlobals "_law_wrong" = some (some (.ref f8)))
    (l8 : K.lookup f8 = some ⟨oc8, od8, .func (PySem.W.fnOf "_law_wrong" "_law_wrong" (defArgs s_l_wrong) (defBody s_l_wrong) (defScope s_l_wrong) .none kV8 dc8 pm8 an8 cd8 ct8), sl8⟩) (c8 : PySem.W.codeIn K cd8 "_law_wrong" = true) (k8 : PySem.W.keepIn K (.ref f8) = true)
    (a9 : PySem.W.nsIn K mainGlobals "_law_is_another" = some (some (.ref f9)))
    (l9 : K.lookup f9 = some ⟨oc9, od9, .func (PySem.W.fnOf "_law_is_another" "_law_is_another" (defArgs s_l_is_another) (defBody s_l_is_another) (defScope s_l_is_another) .none kV9 dc9 pm9 an9 cd9 ct9), sl9⟩) (c9 : PySem.W.codeIn K cd9 "_law_is_another" = true) (k9 : PySem.W.keepIn K (.ref f9) = true)
    (a10 : PySem.W.nsIn K mainGlobals "_law_no_column" = some (some (.ref f10)))
    (l10 : K.lookup f10 = some ⟨oc10, od10, .func (PySem.W.fnOf "_law_no_column" "_law_no_column" (defArgs s_l_no_column) (defBody s_l_no_column) (defScope s_l_no_column) .none kV10 dc10 pm10 an10 cd10 ct10), sl10⟩) (c10 : PySem.W.codeIn K cd10 "_law_no_column" = true) (k10 : PySem.W.keepIn K (.ref f10) = true)
    (a11 : PySem.W.nsIn K mainGlobals "_law_no_half" = some (some (.ref f11)))
    (l11 : K.lookup f11 = some ⟨oc11, od11, .func (PySem.W.fnOf "_law_no_half" "_law_no_half" (defArgs s_l_no_half) (defBody s_l_no_half) (defScope s_l_no_half) .none kV11 dc11 pm11 an11 cd11 ct11), sl11⟩) (c11 : PySem.W.codeIn K cd11 "_law_no_half" = true) (k11 : PySem.W.keepIn K (.ref f11) = true)
    (a12 : PySem.W.nsIn K mainGlobals "law" = some (some (.ref f12)))
    (l12 : K.lookup f12 = some ⟨oc12, od12, .func (PySem.W.fnOf "law" "law" (defArgs s_law) (defBody s_law) (defScope s_law) .none kV12 dc12 pm12 an12 cd12 ct12), sl12⟩) (c12 : PySem.W.codeIn K cd12 "law" = true) (k12 : PySem.W.keepIn K (.ref f12) = true)
    (z_ValueError : PySem.W.nsIn K mainGlobals "ValueError" = some none)
    (z_abs : PySem.W.nsIn K mainGlobals "abs" = some none)
    (z_bool : PySem.W.nsIn K mainGlobals "bool" = some none)
    (z_int : PySem.W.nsIn K mainGlobals "int" = some none)
    (z_isinstance : PySem.W.nsIn K mainGlobals "isinstance" = some none)
    (z_len : PySem.W.nsIn K mainGlobals "len" = some none)
    (z_max : PySem.W.nsIn K mainGlobals "max" = some none)
    (z_min : PySem.W.nsIn K mainGlobals "min" = some none)
    (z_range : PySem.W.nsIn K mainGlobals "range" = some none)
    : ∃ fd : FuncData, (∀ (s : Shared) (v : Value), BindsTo s fd ⟨[v], []⟩ [("_law_script", v)]) ∧ ∀ base : Heap, K.In base → base.Ns mainGlobals mg → FnOk l.prog w K mg base CX0 4 fa fd ["_law_script"] (spLaw K) := by
  have e := hfa.symm.trans (PySem.W.mg_of X G a12)
  cases e
  have F0 := fun_mk (st := s_is_whole) l0 c0 k0
  have F1 := fun_mk (st := s_times_of) l1 c1 k1
  have F2 := fun_mk (st := s_widened) l2 c2 k2
  have F3 := fun_mk (st := s_narrowed) l3 c3 k3
  have F4 := fun_mk (st := s_l_nth) l4 c4 k4
  have F5 := fun_mk (st := s_l_pot) l5 c5 k5
  have F6 := fun_mk (st := s_l_take) l6 c6 k6
  have F7 := fun_mk (st := s_l_window) l7 c7 k7
  have F8 := fun_mk (st := s_l_wrong) l8 c8 k8
  have F9 := fun_mk (st := s_l_is_another) l9 c9 k9
  have F10 := fun_mk (st := s_l_no_column) l10 c10 k10
  have F11 := fun_mk (st := s_l_no_half) l11 c11 k11
  have F12 := fun_mk (st := s_law) l12 c12 k12
  have T : Txt K mg ⟨f0, PySem.W.fnOf "is_whole" "is_whole" (defArgs s_is_whole) (defBody s_is_whole) (defScope s_is_whole) .none kV0 dc0 pm0 an0 cd0 ct0, f1, PySem.W.fnOf "times_of" "times_of" (defArgs s_times_of) (defBody s_times_of) (defScope s_times_of) .none kV1 dc1 pm1 an1 cd1 ct1, f2, PySem.W.fnOf "widened" "widened" (defArgs s_widened) (defBody s_widened) (defScope s_widened) .none kV2 dc2 pm2 an2 cd2 ct2, f3, PySem.W.fnOf "narrowed" "narrowed" (defArgs s_narrowed) (defBody s_narrowed) (defScope s_narrowed) .none kV3 dc3 pm3 an3 cd3 ct3, f4, PySem.W.fnOf "_law_nth" "_law_nth" (defArgs s_l_nth) (defBody s_l_nth) (defScope s_l_nth) .none kV4 dc4 pm4 an4 cd4 ct4, f5, PySem.W.fnOf "_law_pot" "_law_pot" (defArgs s_l_pot) (defBody s_l_pot) (defScope s_l_pot) .none kV5 dc5 pm5 an5 cd5 ct5, f6, PySem.W.fnOf "_law_take" "_law_take" (defArgs s_l_take) (defBody s_l_take) (defScope s_l_take) .none kV6 dc6 pm6 an6 cd6 ct6, f7, PySem.W.fnOf "_law_window" "_law_window" (defArgs s_l_window) (defBody s_l_window) (defScope s_l_window) .none kV7 dc7 pm7 an7 cd7 ct7, f8, PySem.W.fnOf "_law_wrong" "_law_wrong" (defArgs s_l_wrong) (defBody s_l_wrong) (defScope s_l_wrong) .none kV8 dc8 pm8 an8 cd8 ct8, f9, PySem.W.fnOf "_law_is_another" "_law_is_another" (defArgs s_l_is_another) (defBody s_l_is_another) (defScope s_l_is_another) .none kV9 dc9 pm9 an9 cd9 ct9, f10, PySem.W.fnOf "_law_no_column" "_law_no_column" (defArgs s_l_no_column) (defBody s_l_no_column) (defScope s_l_no_column) .none kV10 dc10 pm10 an10 cd10 ct10, f11, PySem.W.fnOf "_law_no_half" "_law_no_half" (defArgs s_l_no_half) (defBody s_l_no_half) (defScope s_l_no_half) .none kV11 dc11 pm11 an11 cd11 ct11, fa, PySem.W.fnOf "law" "law" (defArgs s_law) (defBody s_law) (defScope s_law) .none kV12 dc12 pm12 an12 cd12 ct12, C_FourPointsError, C_NoText, C_NoColumn, C_NotHalf, C_OutOfTimes, C_NoSample, C_NoWatch, C_NoName, C_NotApart⟩ := ⟨F0,
    (F0.binds (ps := ["thing"]) fun _ _ _ _ _ _ us hl => match us, hl with | [_], _ => rfl),
    (PySem.W.mg_of X G a0),
    F1,
    (F1.binds (ps := ["window", "k"]) fun _ _ _ _ _ _ us hl => match us, hl with | [_, _], _ => rfl),
    (PySem.W.mg_of X G a1),
    F2,
    (F2.binds (ps := ["window"]) fun _ _ _ _ _ _ us hl => match us, hl with | [_], _ => rfl),
    (PySem.W.mg_of X G a2),
    F3,
    (F3.binds (ps := ["window"]) fun _ _ _ _ _ _ us hl => match us, hl with | [_], _ => rfl),
    (PySem.W.mg_of X G a3),
    F4,
    (F4.binds (ps := ["_law_script", "_law_k"]) fun _ _ _ _ _ _ us hl => match us, hl with | [_, _], _ => rfl),
    (PySem.W.mg_of X G a4),
    F5,
    (F5.binds (ps := ["_law_cell"]) fun _ _ _ _ _ _ us hl => match us, hl with | [_], _ => rfl),
    (PySem.W.mg_of X G a5),
    F6,
    (F6.binds (ps := ["_law_pot_here", "_law_many"]) fun _ _ _ _ _ _ us hl => match us, hl with | [_, _], _ => rfl),
    (PySem.W.mg_of X G a6),
    F7,
    (F7.binds (ps := ["_law_pot_here"]) fun _ _ _ _ _ _ us hl => match us, hl with | [_], _ => rfl),
    (PySem.W.mg_of X G a7),
    F8,
    (F8.binds (ps := ["_law_pot_here", "_law_many"]) fun _ _ _ _ _ _ us hl => match us, hl with | [_, _], _ => rfl),
    (PySem.W.mg_of X G a8),
    F9,
    (F9.binds (ps := ["_law_e"]) fun _ _ _ _ _ _ us hl => match us, hl with | [_], _ => rfl),
    (PySem.W.mg_of X G a9),
    F10,
    (F10.binds (ps := ["_law_window_here", "_law_k"]) fun _ _ _ _ _ _ us hl => match us, hl with | [_, _], _ => rfl),
    (PySem.W.mg_of X G a10),
    F11,
    (F11.binds (ps := ["_law_window_here"]) fun _ _ _ _ _ _ us hl => match us, hl with | [_], _ => rfl),
    (PySem.W.mg_of X G a11),
    F12,
    (F12.binds (ps := ["_law_script"]) fun _ _ _ _ _ _ us hl => match us, hl with | [_], _ => rfl),
    (PySem.W.mg_of X G a12),
    ex_FourPointsError,
    ⟨ga_FourPointsError, gt_FourPointsError, cl_FourPointsError, ob_FourPointsError, be_FourPointsError⟩,
    (PySem.W.mg_of X G aC_FourPointsError),
    ex_NoText,
    ⟨ga_NoText, gt_NoText, cl_NoText, ob_NoText, be_NoText⟩,
    (PySem.W.mg_of X G aC_NoText),
    ex_NoColumn,
    ⟨ga_NoColumn, gt_NoColumn, cl_NoColumn, ob_NoColumn, be_NoColumn⟩,
    (PySem.W.mg_of X G aC_NoColumn),
    ex_NotHalf,
    ⟨ga_NotHalf, gt_NotHalf, cl_NotHalf, ob_NotHalf, be_NotHalf⟩,
    (PySem.W.mg_of X G aC_NotHalf),
    ex_OutOfTimes,
    ⟨ga_OutOfTimes, gt_OutOfTimes, cl_OutOfTimes, ob_OutOfTimes, be_OutOfTimes⟩,
    (PySem.W.mg_of X G aC_OutOfTimes),
    ex_NoSample,
    ⟨ga_NoSample, gt_NoSample, cl_NoSample, ob_NoSample, be_NoSample⟩,
    (PySem.W.mg_of X G aC_NoSample),
    ex_NoWatch,
    ⟨ga_NoWatch, gt_NoWatch, cl_NoWatch, ob_NoWatch, be_NoWatch⟩,
    (PySem.W.mg_of X G aC_NoWatch),
    ex_NoName,
    ⟨ga_NoName, gt_NoName, cl_NoName, ob_NoName, be_NoName⟩,
    (PySem.W.mg_of X G aC_NoName),
    ex_NotApart,
    ⟨ga_NotApart, gt_NotApart, cl_NotApart, ob_NotApart, be_NotApart⟩,
    (PySem.W.mg_of X G aC_NotApart),
    u_NoColumn_FourPointsError,
    k_NoColumn_FourPointsError,
    u_NoColumn_NoText,
    k_NoColumn_NoText,
    u_NoColumn_NoColumn,
    k_NoColumn_NoColumn,
    u_NoColumn_NotHalf,
    k_NoColumn_NotHalf,
    u_NoColumn_OutOfTimes,
    k_NoColumn_OutOfTimes,
    u_NoColumn_NoSample,
    k_NoColumn_NoSample,
    u_NoColumn_NoWatch,
    k_NoColumn_NoWatch,
    u_NoColumn_NoName,
    k_NoColumn_NoName,
    u_NoColumn_NotApart,
    k_NoColumn_NotApart,
    u_NotHalf_FourPointsError,
    k_NotHalf_FourPointsError,
    u_NotHalf_NoText,
    k_NotHalf_NoText,
    u_NotHalf_NoColumn,
    k_NotHalf_NoColumn,
    u_NotHalf_NotHalf,
    k_NotHalf_NotHalf,
    u_NotHalf_OutOfTimes,
    k_NotHalf_OutOfTimes,
    u_NotHalf_NoSample,
    k_NotHalf_NoSample,
    u_NotHalf_NoWatch,
    k_NotHalf_NoWatch,
    u_NotHalf_NoName,
    k_NotHalf_NoName,
    u_NotHalf_NotApart,
    k_NotHalf_NotApart,
    (PySem.W.mg_none_of X G z_ValueError),
    (PySem.W.mg_none_of X G z_abs),
    (PySem.W.mg_none_of X G z_bool),
    (PySem.W.mg_none_of X G z_int),
    (PySem.W.mg_none_of X G z_isinstance),
    (PySem.W.mg_none_of X G z_len),
    (PySem.W.mg_none_of X G z_max),
    (PySem.W.mg_none_of X G z_min),
    (PySem.W.mg_none_of X G z_range)⟩
  exact ⟨PySem.W.fnOf "law" "law" (defArgs s_law) (defBody s_law) (defScope s_law) .none kV12 dc12 pm12 an12 cd12 ct12, fun s v => .of_eq rfl, fun base _ _ => ok_law T⟩
theorem walk {l : PySem.W.OpenLaw} {q : Program} {loose : List Str} {XP : (Str → Option Value) → Heap → Prop} {YP : World → Heap → Prop} {d : DefRec} {K : Params → PySem.W.Frag} (hn : l.most = some 63) (hdf : d.params.defaults = [])
    (hY : ∀ (w : World) (h : Heap), YP w h → (K w.params).In h)
    (F : ∀ (w : World) (mg : Str → Option Value) (fa : Addr) (h : Heap), (K w.params).In h → h.Ns mainGlobals mg → mg d.name = some (.ref fa) →
      ∃ fd : FuncData, (∀ (s : Shared) (u : Value), BindsTo s fd ⟨[u], []⟩ [("_law_script", u)]) ∧ ∀ base : Heap, (K w.params).In base → base.Ns mainGlobals mg → FnOk l.prog w (K w.params) mg base CX0 4 fa fd ["_law_script"] (spLaw (K w.params))) :
    PySem.W.WalkO q loose XP YP l.row.toRowW d [] (fun f vs => PySem.call f vs) :=
  L2.walk_of (n := 63) (k := 4) (x := "_law_script") (CX := fun _ => CX0) (sp := fun w => spLaw (K w.params)) hn (by decide) hdf ⟨rfl, by decide, by decide, rfl⟩ hY F (fun _ _ a ns hl _ hS => ⟨a, ns, rfl, hS, hl, fun _ => rfl⟩) fun _ _ _ _ _ z => z
end My
open PySem PySem.W PyProof.Rows
set_option maxRecDepth 100000 in
set_option maxHeartbeats 0 in
theorem PySem.Challenge.cw_fourpoints_k24_windows_refused_holds : PySem.Challenge.rw_fourpoints_k24_windows_refused.Holds := by
  w_on; o_law; k_head; (case hw => w_witness2)
  k_fill
  refine My.walk (l := PySem.Challenge.rw_fourpoints_k24_windows_refused) rfl rfl (fun w h Y => PySem.W.kIn_of Y) ?F
  case F =>
    intro w mg fa h KX G hmg
    refine' My.all_mk KX G hmg ?aC_FourPointsError ?ex_FourPointsError ?ga_FourPointsError ?gt_FourPointsError ?cl_FourPointsError ?ob_FourPointsError ?be_FourPointsError ?aC_NoText ?ex_NoText ?ga_NoText ?gt_NoText ?cl_NoText ?ob_NoText ?be_NoText ?aC_NoColumn ?ex_NoColumn ?ga_NoColumn ?gt_NoColumn ?cl_NoColumn ?ob_NoColumn ?be_NoColumn ?aC_NotHalf ?ex_NotHalf ?ga_NotHalf ?gt_NotHalf ?cl_NotHalf ?ob_NotHalf ?be_NotHalf ?aC_OutOfTimes ?ex_OutOfTimes ?ga_OutOfTimes ?gt_OutOfTimes ?cl_OutOfTimes ?ob_OutOfTimes ?be_OutOfTimes ?aC_NoSample ?ex_NoSample ?ga_NoSample ?gt_NoSample ?cl_NoSample ?ob_NoSample ?be_NoSample ?aC_NoWatch ?ex_NoWatch ?ga_NoWatch ?gt_NoWatch ?cl_NoWatch ?ob_NoWatch ?be_NoWatch ?aC_NoName ?ex_NoName ?ga_NoName ?gt_NoName ?cl_NoName ?ob_NoName ?be_NoName ?aC_NotApart ?ex_NotApart ?ga_NotApart ?gt_NotApart ?cl_NotApart ?ob_NotApart ?be_NotApart ?u_NoColumn_FourPointsError ?k_NoColumn_FourPointsError ?u_NoColumn_NoText ?k_NoColumn_NoText ?u_NoColumn_NoColumn ?k_NoColumn_NoColumn ?u_NoColumn_NotHalf ?k_NoColumn_NotHalf ?u_NoColumn_OutOfTimes ?k_NoColumn_OutOfTimes ?u_NoColumn_NoSample ?k_NoColumn_NoSample ?u_NoColumn_NoWatch ?k_NoColumn_NoWatch ?u_NoColumn_NoName ?k_NoColumn_NoName ?u_NoColumn_NotApart ?k_NoColumn_NotApart ?u_NotHalf_FourPointsError ?k_NotHalf_FourPointsError ?u_NotHalf_NoText ?k_NotHalf_NoText ?u_NotHalf_NoColumn ?k_NotHalf_NoColumn ?u_NotHalf_NotHalf ?k_NotHalf_NotHalf ?u_NotHalf_OutOfTimes ?k_NotHalf_OutOfTimes ?u_NotHalf_NoSample ?k_NotHalf_NoSample ?u_NotHalf_NoWatch ?k_NotHalf_NoWatch ?u_NotHalf_NoName ?k_NotHalf_NoName ?u_NotHalf_NotApart ?k_NotHalf_NotApart ?a0 ?l0 ?c0 ?k0 ?a1 ?l1 ?c1 ?k1 ?a2 ?l2 ?c2 ?k2 ?a3 ?l3 ?c3 ?k3 ?a4 ?l4 ?c4 ?k4 ?a5 ?l5 ?c5 ?k5 ?a6 ?l6 ?c6 ?k6 ?a7 ?l7 ?c7 ?k7 ?a8 ?l8 ?c8 ?k8 ?a9 ?l9 ?c9 ?k9 ?a10 ?l10 ?c10 ?k10 ?a11 ?l11 ?c11 ?k11 ?a12 ?l12 ?c12 ?k12 ?z_ValueError ?z_abs ?z_bool ?z_int ?z_isinstance ?z_len ?z_max ?z_min ?z_range
    (case aC_FourPointsError => k_is)
    (case ex_FourPointsError => k_exc)
    (case ga_FourPointsError => k_is)
    (case gt_FourPointsError => k_is)
    (case cl_FourPointsError => k_is)
    (case ob_FourPointsError => k_is)
    (case be_FourPointsError => k_is)
    (case aC_NoText => k_is)
    (case ex_NoText => k_exc)
    (case ga_NoText => k_is)
    (case gt_NoText => k_is)
    (case cl_NoText => k_is)
    (case ob_NoText => k_is)
    (case be_NoText => k_is)
    (case aC_NoColumn => k_is)
    (case ex_NoColumn => k_exc)
    (case ga_NoColumn => k_is)
    (case gt_NoColumn => k_is)
    (case cl_NoColumn => k_is)
    (case ob_NoColumn => k_is)
    (case be_NoColumn => k_is)
    (case aC_NotHalf => k_is)
    (case ex_NotHalf => k_exc)
    (case ga_NotHalf => k_is)
    (case gt_NotHalf => k_is)
    (case cl_NotHalf => k_is)
    (case ob_NotHalf => k_is)
    (case be_NotHalf => k_is)
    (case aC_OutOfTimes => k_is)
    (case ex_OutOfTimes => k_exc)
    (case ga_OutOfTimes => k_is)
    (case gt_OutOfTimes => k_is)
    (case cl_OutOfTimes => k_is)
    (case ob_OutOfTimes => k_is)
    (case be_OutOfTimes => k_is)
    (case aC_NoSample => k_is)
    (case ex_NoSample => k_exc)
    (case ga_NoSample => k_is)
    (case gt_NoSample => k_is)
    (case cl_NoSample => k_is)
    (case ob_NoSample => k_is)
    (case be_NoSample => k_is)
    (case aC_NoWatch => k_is)
    (case ex_NoWatch => k_exc)
    (case ga_NoWatch => k_is)
    (case gt_NoWatch => k_is)
    (case cl_NoWatch => k_is)
    (case ob_NoWatch => k_is)
    (case be_NoWatch => k_is)
    (case aC_NoName => k_is)
    (case ex_NoName => k_exc)
    (case ga_NoName => k_is)
    (case gt_NoName => k_is)
    (case cl_NoName => k_is)
    (case ob_NoName => k_is)
    (case be_NoName => k_is)
    (case aC_NotApart => k_is)
    (case ex_NotApart => k_exc)
    (case ga_NotApart => k_is)
    (case gt_NotApart => k_is)
    (case cl_NotApart => k_is)
    (case ob_NotApart => k_is)
    (case be_NotApart => k_is)
    (case u_NoColumn_FourPointsError => k_is)
    (case k_NoColumn_FourPointsError => kit_is)
    (case u_NoColumn_NoText => k_is)
    (case k_NoColumn_NoText => kit_is)
    (case u_NoColumn_NoColumn => k_is)
    (case k_NoColumn_NoColumn => kit_is)
    (case u_NoColumn_NotHalf => k_is)
    (case k_NoColumn_NotHalf => kit_is)
    (case u_NoColumn_OutOfTimes => k_is)
    (case k_NoColumn_OutOfTimes => kit_is)
    (case u_NoColumn_NoSample => k_is)
    (case k_NoColumn_NoSample => kit_is)
    (case u_NoColumn_NoWatch => k_is)
    (case k_NoColumn_NoWatch => kit_is)
    (case u_NoColumn_NoName => k_is)
    (case k_NoColumn_NoName => kit_is)
    (case u_NoColumn_NotApart => k_is)
    (case k_NoColumn_NotApart => kit_is)
    (case u_NotHalf_FourPointsError => k_is)
    (case k_NotHalf_FourPointsError => kit_is)
    (case u_NotHalf_NoText => k_is)
    (case k_NotHalf_NoText => kit_is)
    (case u_NotHalf_NoColumn => k_is)
    (case k_NotHalf_NoColumn => kit_is)
    (case u_NotHalf_NotHalf => k_is)
    (case k_NotHalf_NotHalf => kit_is)
    (case u_NotHalf_OutOfTimes => k_is)
    (case k_NotHalf_OutOfTimes => kit_is)
    (case u_NotHalf_NoSample => k_is)
    (case k_NotHalf_NoSample => kit_is)
    (case u_NotHalf_NoWatch => k_is)
    (case k_NotHalf_NoWatch => kit_is)
    (case u_NotHalf_NoName => k_is)
    (case k_NotHalf_NoName => kit_is)
    (case u_NotHalf_NotApart => k_is)
    (case k_NotHalf_NotApart => kit_is)
    (case a0 => k_is)
    (case l0 => k_is)
    (case c0 => k_is)
    (case k0 => k_is)
    (case a1 => k_is)
    (case l1 => k_is)
    (case c1 => k_is)
    (case k1 => k_is)
    (case a2 => k_is)
    (case l2 => k_is)
    (case c2 => k_is)
    (case k2 => k_is)
    (case a3 => k_is)
    (case l3 => k_is)
    (case c3 => k_is)
    (case k3 => k_is)
    (case a4 => k_is)
    (case l4 => k_is)
    (case c4 => k_is)
    (case k4 => k_is)
    (case a5 => k_is)
    (case l5 => k_is)
    (case c5 => k_is)
    (case k5 => k_is)
    (case a6 => k_is)
    (case l6 => k_is)
    (case c6 => k_is)
    (case k6 => k_is)
    (case a7 => k_is)
    (case l7 => k_is)
    (case c7 => k_is)
    (case k7 => k_is)
    (case a8 => k_is)
    (case l8 => k_is)
    (case c8 => k_is)
    (case k8 => k_is)
    (case a9 => k_is)
    (case l9 => k_is)
    (case c9 => k_is)
    (case k9 => k_is)
    (case a10 => k_is)
    (case l10 => k_is)
    (case c10 => k_is)
    (case k10 => k_is)
    (case a11 => k_is)
    (case l11 => k_is)
    (case c11 => k_is)
    (case k11 => k_is)
    (case a12 => k_is)
    (case l12 => k_is)
    (case c12 => k_is)
    (case k12 => k_is)
    (case z_ValueError => k_is)
    (case z_abs => k_is)
    (case z_bool => k_is)
    (case z_int => k_is)
    (case z_isinstance => k_is)
    (case z_len => k_is)
    (case z_max => k_is)
    (case z_min => k_is)
    (case z_range => k_is)

