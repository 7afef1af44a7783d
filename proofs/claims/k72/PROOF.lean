import PyProof.Rows.All
import Wide.All
import OpenK.AllK
import Wide.FinOn
import Lean
import PyProof.EqAt
import PyProof.EqKinds
import PyProof.TupleCall
import KE.KSortTup
import PyProof.CollectWalk
import PyProof.DictWalks
import PyProof.Rows.SortWalk
import KE.KItemsList
import PyProof.ReprText
import PyProof.Rows.StrIntSpec
import PyProof.RowDictHeap
import KE.KRevIter
import KE.KMinKey
import PyProof.P3In
import KE.KIntText
import PyProof.StrLawsTight
import PyProof.StrWalks
import PyProof.ListRange
import PySem.Challenge.RW_fourpoints_k72_columns_asked_for
-- CHANGE: your row's module here, as the last of these rows
set_option Elab.async false
set_option linter.all false
set_option maxRecDepth 100000
namespace L2
open PySem PySem.Spec PyProof.Rows
abbrev Key := Sum Int Str
def keyIs : Key → Value → Bool
  | .inl k, v => Value.isInt k v
  | .inr x, v => Value.isStrOf x v
def keyH (w : World) : Key → Int
  | .inl k => hashInt k
  | .inr x => hashStr w x
theorem keyIs_shape : ∀ {k : Key} {v : Value}, keyIs k v = true → (∃ i t, k = Sum.inl i ∧ v = Value.int i t) ∨ (∃ x t, k = Sum.inr x ∧ v = Value.str x t)
  | .inl i, v, h => by
    obtain ⟨t, e⟩ := Value.isInt_shape (k := i) (v := v) h
    exact .inl ⟨i, t, rfl, e⟩
  | .inr x, v, h => by
    obtain ⟨t, e⟩ := Value.isStrOf_shape (x := x) (v := v) h
    exact .inr ⟨x, t, rfl, e⟩
theorem keyIs_int (i : Int) (t : Tok) : keyIs (.inl i) (.int i t) = true := by simp [keyIs, Value.isInt]
theorem keyIs_str (x : Str) (t : Tok) : keyIs (.inr x) (.str x t) = true := by simp [keyIs, Value.isStrOf]
theorem key_ll (a b : Int) : decide ((Sum.inl a : Key) = Sum.inl b) = (a == b) := by
  by_cases e : a = b
  · subst e; simp
  · have h : ¬ (Sum.inl a : Key) = Sum.inl b := fun q => e (Sum.inl.inj q)
    rw [decide_eq_false h]
    exact (beq_eq_false_iff_ne.mpr e).symm
theorem key_rr (a b : Str) : decide ((Sum.inr a : Key) = Sum.inr b) = decide (a = b) := by
  by_cases e : a = b
  · subst e; simp
  · have h : ¬ (Sum.inr a : Key) = Sum.inr b := fun q => e (Sum.inr.inj q)
    rw [decide_eq_false h, decide_eq_false e]
theorem key_lr (a : Int) (b : Str) : decide ((Sum.inl a : Key) = Sum.inr b) = false := decide_eq_false (fun q => nomatch q)
theorem key_rl (a : Str) (b : Int) : decide ((Sum.inr a : Key) = Sum.inl b) = false := decide_eq_false (fun q => nomatch q)
def mixKind (prog : Program) (w : World) : PySem.KeyKind prog w Key where
  is := keyIs
  hash := keyH w
  inj := fun v a b ha hb => by
    rcases keyIs_shape ha with ⟨i, t, rfl, rfl⟩ | ⟨x, t, rfl, rfl⟩
    · rcases keyIs_shape hb with ⟨j, u, rfl, e⟩ | ⟨y, u, rfl, e⟩
      · injection e with e1 _; rw [e1]
      · exact nomatch e
    · rcases keyIs_shape hb with ⟨j, u, rfl, e⟩ | ⟨y, u, rfl, e⟩
      · exact nomatch e
      · injection e with e1 _; rw [e1]
  byValue := fun k v h => by
    rcases keyIs_shape h with ⟨i, t, rfl, rfl⟩ | ⟨x, t, rfl, rfl⟩ <;> rfl
  pyHash := fun hv h => by
    rcases keyIs_shape hv with ⟨i, t, rfl, rfl⟩ | ⟨x, t, rfl, rfl⟩
    · exact wpAny_pyHash_int h
    · exact wpAny_pyHash_str h
  eqBool := fun hu hv h => by
    rcases keyIs_shape hu with ⟨i, t, rfl, rfl⟩ | ⟨x, t, rfl, rfl⟩
    · rcases keyIs_shape hv with ⟨j, u, rfl, rfl⟩ | ⟨y, u, rfl, rfl⟩
      · rw [key_ll] at h; exact wpAny_eqBool_int h
      · rw [key_lr] at h; exact SeqAt.EqAt.int_str i t y u _ _ _ _ h
    · rcases keyIs_shape hv with ⟨j, u, rfl, rfl⟩ | ⟨y, u, rfl, rfl⟩
      · rw [key_rl] at h; exact SeqAt.EqAt.str_int x t j u _ _ _ _ h
      · rw [key_rr] at h; exact wpAny_eqBool_str h
  «strs» := fun k x t v h => by
    rcases keyIs_shape h with ⟨i, u, rfl, e⟩ | ⟨y, u, rfl, e⟩
    · exact nomatch e
    · injection e with e1 _
      subst e1
      cases v <;> rfl
theorem mixKind_int (prog : Program) (w : World) (i : Int) (t : Tok) : (mixKind prog w).is (.inl i) (.int i t) = true := keyIs_int i t
theorem mixKind_str (prog : Program) (w : World) (x : Str) (t : Tok) : (mixKind prog w).is (.inr x) (.str x t) = true := keyIs_str x t
end L2
namespace L2
open PySem PySem.Spec PyProof.Rows
inductive V where
  | non | bl (b : Bool) | int (i : Int) | str (x : Str) | byt (b : Array UInt8) | flt (b : UInt64) | ref (a : Addr) | ty (n : String)
  deriving DecidableEq
def RelV : V → Value → Prop
  | .non, u => u = Value.none
  | .bl b, u => u = Value.bool b
  | .int i, u => ∃ t, u = Value.int i t
  | .str x, u => ∃ t, u = Value.str x t
  | .byt b, u => ∃ t, u = Value.bytes b t
  | .flt b, u => ∃ t, u = Value.float b t
  | .ref a, u => u = Value.ref a
  | .ty n, u => u = Value.type n
abbrev Vals : List V → List Value → Prop := Paired RelV
theorem Vals.length {xs : List V} {us : List Value} (r : Vals xs us) : xs.length = us.length := Paired.length r
theorem Vals.get : ∀ {xs : List V} {us : List Value} {i : Nat} {x : V}, Vals xs us → xs[i]? = some x → ∃ u, us[i]? = some u ∧ RelV x u
  | _, _, _, _, .nil, e => by simp at e
  | _, _, 0, _, .cons r _, e => by simp at e; subst e; exact ⟨_, rfl, r⟩
  | _, _, i + 1, x, .cons _ t, e => by
    obtain ⟨u, h1, h2⟩ := Vals.get (i := i) (x := x) t (by simpa using e)
    exact ⟨u, by simpa using h1, h2⟩
theorem Vals.set {x : V} {u : Value} (r : RelV x u) : ∀ {xs : List V} {us : List Value} (i : Nat), Vals xs us → Vals (xs.set i x) (us.set i u)
  | _, _, _, .nil => .nil
  | _, _, 0, .cons _ t => .cons r t
  | _, _, i + 1, .cons q t => .cons q (Vals.set r i t)
theorem Vals.append : ∀ {xs ys : List V} {us ws : List Value}, Vals xs us → Vals ys ws → Vals (xs ++ ys) (us ++ ws)
  | _, _, _, _, .nil, s => s
  | _, _, _, _, .cons r t, s => .cons r (Vals.append t s)
theorem Vals.take : ∀ {xs : List V} {us : List Value} (n : Nat), Vals xs us → Vals (xs.take n) (us.take n)
  | _, _, 0, _ => .nil
  | _, _, _ + 1, .nil => .nil
  | _, _, n + 1, .cons r t => .cons r (Vals.take n t)
theorem Vals.drop : ∀ {xs : List V} {us : List Value} (n : Nat), Vals xs us → Vals (xs.drop n) (us.drop n)
  | _, _, 0, r => r
  | _, _, _ + 1, .nil => .nil
  | _, _, n + 1, .cons _ t => Vals.drop n t
theorem Vals.none_of : ∀ {xs : List V} {us : List Value} {i : Nat}, Vals xs us → xs[i]? = none → us[i]? = none := fun {xs us i} r e => by
  have h1 := r.length
  have h2 : xs.length ≤ i := List.getElem?_eq_none_iff.mp e
  exact List.getElem?_eq_none_iff.mpr (by omega)
def RelO : Option V → Option Value → Prop
  | some v, some u => RelV v u
  | none, none => True
  | _, _ => False
def KV {κ : Type} : List (κ × V) → List (κ × Value) → Prop := Paired fun (p : κ × V) (q : κ × Value) => p.1 = q.1 ∧ RelV p.2 q.2
def kV : Key → V
  | .inl i => .int i
  | .inr x => .str x
inductive HO where
  /-- a list -/
  | lst (xs : List V)
  /-- a tuple (never changes) -/
  | tup (xs : List V)
  /-- a dict whose keys are ints and texts; one whose keys are tuples of ints and texts (the empty one is both) -/
  | dK (kvs : List (Key × V)) | dT (kvs : List (List Key × V))
  /-- a set of ints: its members, its size -/
  | set (S : Int → Bool) (n : Nat)
  /-- an instance of the class at C, its dict at dx, its attributes -/
  | ins (C dx : Addr) (fs : List (Str × V))
  /-- the dict of the instance at x -/
  | own (x : Addr)
  /-- the dict of an exception -/
  | xd (fs : List (Str × V))
  /-- a bound method, f of x -/
  | met (f x : Addr)
  /-- a range object lo, lo + 1, .. below hi -/
  | rng (lo hi : Int)
  /-- a thing that is known to the object (the script; a dict while a loop walks it): read, never written while it is so -/
  | frz (o : Obj) (u : HO)
  /-- a code object's table -/
  | tbl (ps : Array Value)
  /-- any other thing, by what is true of its one object (a def of one's own: SetO a S n := HO.ext fun h => ..) -/
  | ext (φ : Heap → Prop)
abbrev Hp := Addr → Option HO
def upd (H : Hp) (a : Addr) (o : HO) : Hp := fun b => if b = a then some o else H b
theorem upd_same {H : Hp} {a : Addr} {o : HO} : upd H a o a = some o := by unfold upd; rw [if_pos rfl]
theorem upd_ne {H : Hp} {a b : Addr} {o : HO} (h : b ≠ a) : upd H a o b = H b := by unfold upd; rw [if_neg h]
theorem ne_of {H : Hp} {a b : Addr} {o u : HO} (h : H a = some o) (h' : H b = some u) (d : o ≠ u) : a ≠ b := by
  intro e; subst e; rw [h] at h'; exact d (Option.some.inj h')
theorem ne_of_none {H : Hp} {a b : Addr} {o : HO} (h : H a = some o) (h' : H b = none) : a ≠ b := by
  intro e; subst e; rw [h] at h'; cases h'
section
variable (P : Program) (w : World)
def ObjOk (H : Hp) (h : Heap) (a : Addr) : HO → Prop
  | .lst xs => xs.length ≤ sizeLine ∧ ∃ (its : List Value) (n : Nat), Vals xs its ∧ h.get? a = some { cls := .type "list", data := .seq its.toArray n }
  | .tup xs => (xs.length ≤ sizeLine ∧ ((∀ i : Int, xs.head? ≠ some (.int i)) → ∃ o, h.get? a = some o ∧ o.dict = none ∧ o.slots = #[])) ∧ ∃ its : List Value, Vals xs its ∧ IsTup h a its.toArray
  | .dK kvs => kvs.length ≤ sizeLine ∧ (a == sysModules) = false ∧ ∃ vs, KV kvs vs ∧ h.DictOf (mixKind P w) a vs
  | .dT kvs => kvs.length ≤ sizeLine ∧ (a == sysModules) = false ∧ ∃ xs : List (List Key × Addr × Value),
      Paired (fun (p : List Key × V) (q : List Key × Addr × Value) => p.1 = q.1 ∧ H q.2.1 = some (.tup (p.1.map kV)) ∧ RelV p.2 q.2.2) kvs xs ∧
      ∃ o es ep, h.get? a = some o ∧ o.ExactDict ∧ o.data = .dict es ep ∧ es.toList = xs.map (entryOfKey (tupleKind (mixKind P w))) ∧ (xs.map (·.1)).Nodup
  | .set S n => h.SetOf (intKind P w) a S n
  | .ins C dx fs => H dx = some (.own a) ∧ fs.length ≤ 1000 ∧ dx ≠ a ∧ h.get? a = some (PySem.W.instObj C dx) ∧
      ∃ mA, h.Ns1 dx mA ∧ (∀ f, RelO (fs.lookup f) (mA f)) ∧ PySem.Within mA (fs.map (·.1))
  | .own _ => ∃ o, h.get? a = some o
  | .xd fs => ∃ mA, h.Ns1 a mA ∧ ∀ f, RelO (fs.lookup f) (mA f)
  | .rng lo hi => ∃ t u v, h.get? a = some { cls := .type "range", data := .fields #[.int lo t, .int hi u, .int 1 v] }
  | .frz o u => h.get? a = some o ∧ ObjOk H h a u
  | .tbl ps => h.get? a = some { cls := .none, data := .fields ps }
  | .met f x => h.get? a = some (PySem.W.methodObj (.ref f) (.ref x))
  | .ext φ => φ h ∧ (∃ o, h.get? a = some o) ∧ ∀ h1 h2 : Heap, φ h1 → (∀ o, h1.get? a = some o → h2.get? a = some o) → φ h2
def HOk (H : Hp) (h : Heap) : Prop := ∀ a o, H a = some o → ObjOk P w H h a o
end
section
variable {P : Program} {w : World} {H H' : Hp} {h h' : Heap} {a : Addr} {o : HO}
theorem ObjOk.lt (x : ObjOk P w H h a o) : a < h.objs.size := by
  cases o with
  | lst xs => obtain ⟨_, _, _, _, e⟩ := x; exact Heap.lt_size e
  | tup xs => obtain ⟨_, _, _, p⟩ := x; exact p.lt
  | dK kvs => obtain ⟨_, _, _, _, o, _, _, e, _⟩ := x; exact Heap.lt_size e
  | dT kvs => obtain ⟨_, _, _, _, o, _, _, e, _⟩ := x; exact Heap.lt_size e
  | set S n => obtain ⟨o, _, _, _, e, _⟩ := x; exact Heap.lt_size e
  | ins C dx fs => obtain ⟨_, _, _, e, _⟩ := x; exact Heap.lt_size e
  | own y => obtain ⟨_, e⟩ := x; exact Heap.lt_size e
  | xd fs => obtain ⟨_, ⟨_, _, _, e, _⟩, _⟩ := x; exact Heap.lt_size e
  | rng lo hi => obtain ⟨_, _, _, e⟩ := x; exact Heap.lt_size e
  | frz ob u => obtain ⟨e, _⟩ := x; exact Heap.lt_size e
  | tbl ps => exact Heap.lt_size (show h.get? a = some _ from x)
  | met f y => exact Heap.lt_size (show h.get? a = some _ from x)
  | ext φ => obtain ⟨_, ⟨_, e⟩, _⟩ := x; exact Heap.lt_size e
theorem Paired.mapP {α β : Type} {F G : α → β → Prop} : ∀ {l₁ : List α} {l₂ : List β}, Paired F l₁ l₂ → (∀ a b, F a b → G a b) → Paired G l₁ l₂
  | _, _, .nil, _ => .nil
  | _, _, .cons r t, f => .cons (f _ _ r) (Paired.mapP t f)
theorem ObjOk.stay (x : ObjOk P w H h a o) (k : ∀ b u, (b = a ∨ H b = some (.own a)) → h.get? b = some u → h'.get? b = some u)
    (ho : ∀ b, H b = some (.own a) → H' b = some (.own a)) (ht : ∀ b xs, H b = some (.tup xs) → H' b = some (.tup xs)) : ObjOk P w H' h' a o := by
  induction o with
  | lst xs => obtain ⟨z, its, n, r, e⟩ := x; exact ⟨z, its, n, r, k _ _ (.inl rfl) e⟩
  | tup xs =>
    obtain ⟨⟨z, pd⟩, its, r, ob, e, c⟩ := x
    exact ⟨⟨z, fun q => let ⟨od, ed, cd⟩ := pd q; ⟨od, k _ _ (.inl rfl) ed, cd⟩⟩, its, r, ob, k _ _ (.inl rfl) e, c⟩
  | dK kvs => obtain ⟨z, y, vs, r, ob, es, ep, e, c⟩ := x; exact ⟨z, y, vs, r, ob, es, ep, k _ _ (.inl rfl) e, c⟩
  | dT kvs =>
    obtain ⟨z, y, xs, r, ob, es, ep, e, c⟩ := x
    exact ⟨z, y, xs, Paired.mapP r fun p q z => ⟨z.1, ht _ _ z.2.1, z.2.2⟩, ob, es, ep, k _ _ (.inl rfl) e, c⟩
  | set S n => obtain ⟨ob, es, ep, t, e, c⟩ := x; exact ⟨ob, es, ep, t, k _ _ (.inl rfl) e, c⟩
  | ins C dx fs =>
    obtain ⟨d, z, ne, e, mA, ⟨od, es, ep, e2, c⟩, r⟩ := x
    exact ⟨ho _ d, z, ne, k _ _ (.inl rfl) e, mA, ⟨od, es, ep, k _ _ (.inr d) e2, c⟩, r⟩
  | own y => obtain ⟨ob, e⟩ := x; exact ⟨ob, k _ _ (.inl rfl) e⟩
  | xd fs => obtain ⟨mA, ⟨od, es, ep, e, c⟩, r⟩ := x; exact ⟨mA, ⟨od, es, ep, k _ _ (.inl rfl) e, c⟩, r⟩
  | rng lo hi => obtain ⟨t, u, v, e⟩ := x; exact ⟨t, u, v, k _ _ (.inl rfl) e⟩
  | frz ob u ih => obtain ⟨e, q⟩ := x; exact ⟨k _ _ (.inl rfl) e, ih q⟩
  | tbl ps =>
    have e : h.get? a = some { cls := .none, data := .fields ps } := x
    show h'.get? a = some { cls := .none, data := .fields ps }
    exact k a _ (.inl rfl) e
  | met f y =>
    have e : h.get? a = some (PySem.W.methodObj (.ref f) (.ref y)) := x
    show h'.get? a = some (PySem.W.methodObj (.ref f) (.ref y))
    exact k a _ (.inl rfl) e
  | ext φ => obtain ⟨p, ⟨o, e⟩, st⟩ := x; exact ⟨st _ _ p fun o q => k _ _ (.inl rfl) q, ⟨o, k _ _ (.inl rfl) e⟩, st⟩
theorem HOk.lt (x : HOk P w H h) (e : H a = some o) : a < h.objs.size := (x a o e).lt
theorem HOk.fresh (x : HOk P w H h) (e : h.objs.size ≤ a) : H a = none := by
  cases q : H a with
  | none => rfl
  | some u => exact absurd (Nat.lt_of_lt_of_le (x.lt q) e) (Nat.lt_irrefl _)
theorem HOk.kept (x : HOk P w H h) (k : ∀ b u, h.get? b = some u → h'.get? b = some u) : HOk P w H h' := fun a o e =>
  (x a o e).stay (fun b u _ q => k b u q) (fun _ q => q) fun _ _ q => q
theorem HOk.laid (x : HOk P w H h) (k : ∀ b u, h.get? b = some u → h'.get? b = some u) (hp : h.objs.size ≤ a) (new : ObjOk P w (upd H a o) h' a o) : HOk P w (upd H a o) h' := fun b u e => by
  have hn := x.fresh hp
  by_cases hb : b = a
  · subst hb; rw [upd_same] at e; cases e; exact new
  · rw [upd_ne hb] at e
    exact (x b u e).stay (fun c v _ q => k c v q) (fun c q => by rw [upd_ne (ne_of_none q hn)]; exact q) fun c xs q => by rw [upd_ne (ne_of_none q hn)]; exact q
end
def Rd (H : Hp) (a : Addr) (u : HO) : Prop := H a = some u ∨ ∃ o, H a = some (.frz o u)
theorem Rd.of {H : Hp} {a : Addr} {u : HO} (h : H a = some u) : Rd H a u := .inl h
theorem Rd.ok {P : Program} {w : World} {H : Hp} {h : Heap} {a : Addr} {u : HO} (r : Rd H a u) (x : HOk P w H h) : ObjOk P w H h a u := by
  rcases r with r | ⟨o, r⟩
  · exact x a u r
  · obtain ⟨_, q⟩ := x a _ r
    exact q
def Mut : Option HO → Prop
  | some (.lst _) => True
  | some (.dK _) => True
  | some (.dT _) => True
  | some (.set _ _) => True
  | some (.ins _ _ _) => True
  | some (.ext _) => True
  | _ => False
section
variable {P : Program} {w : World} {H : Hp} {h h' : Heap} {x e : Addr} {o' : HO}
theorem HOk.write (ok : HOk P w H h) (mu : Mut (H x)) (he : e = x ∨ H e = some (.own x)) (k : ∀ b u, b ≠ e → h.get? b = some u → h'.get? b = some u) (heo : ∃ u, h'.get? e = some u)
    (new : ObjOk P w (upd H x o') h' x o') : HOk P w (upd H x o') h' := fun b u q => by
  have nown : ∀ c y, H c = some (.own y) → c ≠ x := fun c y r z => by subst z; rw [r] at mu; exact mu
  have ntup : ∀ c xs, H c = some (.tup xs) → c ≠ x := fun c xs r z => by subst z; rw [r] at mu; exact mu
  by_cases hb : b = x
  · subst hb; rw [upd_same] at q; cases q; exact new
  · rw [upd_ne hb] at q
    by_cases hbe : b = e
    · have q' : H b = some (.own x) := by
        rcases he with z | z
        · exact absurd (hbe.trans z) hb
        · rw [hbe]; exact z
      rw [q] at q'; cases q'
      obtain ⟨v, hv⟩ := heo
      exact ⟨v, by rw [hbe]; exact hv⟩
    · refine (ok b u q).stay (fun c v hc r => k c v ?_ r) (fun c r => by rw [upd_ne (nown c b r)]; exact r) fun c xs r => by rw [upd_ne (ntup c xs r)]; exact r
      rcases hc with rfl | hc
      · exact hbe
      · rintro rfl
        rcases he with z | z
        · exact nown c b hc z
        · rw [hc] at z; cases z; exact hb rfl
end
structure Un (fs ex : List Addr) (H H' : Hp) (h h' : Heap) : Prop where
  keep : ∀ b o, h.get? b = some o → H b = none → b ∉ fs → b ∉ ex → h'.get? b = some o
  slot : ∀ b o, h.get? b = some o → H b = none → b ∈ fs → b ∉ ex → ∃ sl, h'.get? b = some { o with slots := sl }
  free : ∀ b o, h.get? b = some o → H b = none → b ∉ ex → H' b = none
  there : ∀ b o, h.get? b = some o → b ∉ ex → ∃ o', h'.get? b = some o'
  tups : ∀ b xs, H b = some (.tup xs) → H' b = some (.tup xs)
  frzs : ∀ b o u, H b = some (.frz o u) → H' b = some (.frz o u)
  tbls : ∀ b ps, H b = some (.tbl ps) → ∃ more, H' b = some (.tbl (ps ++ more))
section
variable {fs fs' ex ex' : List Addr} {H H1 H2 : Hp} {h h1 h2 h' : Heap} {a x e : Addr} {o : HO}
theorem Un.any (u : Un fs ex H H1 h h1) {b : Addr} {ob : Obj} (q : h.get? b = some ob) (n : H b = none) (hx : b ∉ ex) : ∃ sl, h1.get? b = some { ob with slots := sl } := by
  by_cases hb : b ∈ fs
  · exact u.slot b ob q n hb hx
  · exact ⟨ob.slots, u.keep b ob q n hb hx⟩
theorem Un.trans (a : Un fs ex H H1 h h1) (b : Un fs ex H1 H2 h1 h2) : Un fs ex H H2 h h2 where
  keep := fun c ob q n hc hx => b.keep c ob (a.keep c ob q n hc hx) (a.free c ob q n hx) hc hx
  slot := fun c ob q n hc hx => by
    obtain ⟨sl, e1⟩ := a.slot c ob q n hc hx
    obtain ⟨sl', e2⟩ := b.slot c _ e1 (a.free c ob q n hx) hc hx
    exact ⟨sl', e2⟩
  free := fun c ob q n hx => by
    obtain ⟨o', e1⟩ := a.there c ob q hx
    exact b.free c o' e1 (a.free c ob q n hx) hx
  there := fun c ob q hx => by
    obtain ⟨o', e1⟩ := a.there c ob q hx
    exact b.there c o' e1 hx
  tups := fun c xs q => b.tups c xs (a.tups c xs q)
  frzs := fun c ob xs q => b.frzs c ob xs (a.frzs c ob xs q)
  tbls := fun c ps q => by
    obtain ⟨m1, e1⟩ := a.tbls c ps q
    obtain ⟨m2, e2⟩ := b.tbls c _ e1
    exact ⟨m1 ++ m2, by rw [e2, Array.append_assoc]⟩
theorem Un.kept (k : ∀ b u, h.get? b = some u → h'.get? b = some u) : Un fs ex H H h h' :=
  ⟨fun b ob q _ _ _ => k b ob q, fun b ob q _ _ _ => ⟨ob.slots, k b ob q⟩, fun _ _ _ n _ => n, fun b ob q _ => ⟨ob, k b ob q⟩, fun _ _ q => q, fun _ _ _ q => q, fun _ ps q => ⟨#[], by rw [q]; simp⟩⟩
theorem Un.refl : Un fs ex H H h h := Un.kept fun _ _ q => q
theorem Un.laid (k : ∀ b u, h.get? b = some u → h'.get? b = some u) (hp : h.objs.size ≤ a) (hn : H a = none) : Un fs ex H (upd H a o) h h' where
  keep := fun b u q _ _ _ => k b u q
  slot := fun b u q _ _ _ => ⟨u.slots, k b u q⟩
  free := fun b u q n _ => by rw [upd_ne (Nat.ne_of_lt (Nat.lt_of_lt_of_le (Heap.lt_size q) hp))]; exact n
  there := fun b u q _ => ⟨u, k b u q⟩
  tups := fun b xs q => by rw [upd_ne (ne_of_none q hn)]; exact q
  frzs := fun b u xs q => by rw [upd_ne (ne_of_none q hn)]; exact q
  tbls := fun b ps q => ⟨#[], by rw [upd_ne (ne_of_none q hn), q]; simp⟩
theorem Un.write (mu : Mut (H x)) (he : e = x ∨ H e = some (.own x)) (k : ∀ b u, b ≠ e → h.get? b = some u → h'.get? b = some u) (heo : ∃ u, h'.get? e = some u) : Un fs ex H (upd H x o) h h' := by
  have hx : ∀ b, H b = none → b ≠ x := fun b n z => by subst z; rw [n] at mu; exact mu
  have hb : ∀ b, H b = none → b ≠ e := fun b n z => by
    subst z
    rcases he with r | r
    · exact hx b n r
    · rw [n] at r; cases r
  have hm : ∀ b u, H b = some u → ¬ Mut (some u) → b ≠ x := fun b u q nm z => by subst z; rw [q] at mu; exact nm mu
  refine ⟨fun b u q n _ _ => k b u (hb b n) q, fun b u q n _ _ => ⟨u.slots, k b u (hb b n) q⟩, fun b u q n _ => by rw [upd_ne (hx b n)]; exact n, fun b u q _ => ?_,
    fun b xs q => by rw [upd_ne (hm b _ q fun z => z)]; exact q, fun b u xs q => by rw [upd_ne (hm b _ q fun z => z)]; exact q, fun b ps q => ⟨#[], by rw [upd_ne (hm b _ q fun z => z), q]; simp⟩⟩
  by_cases hbe : b = e
  · subst hbe; exact heo
  · exact ⟨u, k b u hbe q⟩
theorem Un.mono (u : Un fs ex H H1 h h1) (hs : ∀ b ∈ fs, b ∈ fs') (hx : ∀ b ∈ ex, b ∈ ex') : Un fs' ex' H H1 h h1 :=
  ⟨fun b ob q n hb he => u.keep b ob q n (fun z => hb (hs b z)) fun z => he (hx b z), fun _ _ q n _ he => u.any q n fun z => he (hx _ z), fun b ob q n he => u.free b ob q n fun z => he (hx b z), fun b ob q he => u.there b ob q fun z => he (hx b z), u.tups, u.frzs, u.tbls⟩
end
def trk (h : Heap) (H : Hp) : List Addr := (List.range h.objs.size).filter fun a => (H a).isSome
def hidT (h : Heap) (H : Hp) : Heap := PySem.W.hideAll h (trk h H)
theorem hidT_size (h : Heap) (H : Hp) : (hidT h H).objs.size = h.objs.size := PySem.W.hideAll_size _ _
theorem hidT_get {h : Heap} {H : Hp} {b : Addr} {o : Obj} (e : h.get? b = some o) (n : H b = none) : (hidT h H).get? b = some o :=
  PySem.W.hideAll_get _ e fun hm => by
    have q : (H b).isSome = true := (List.mem_filter.mp hm).2
    rw [n] at q; simp at q
theorem of_hidT {h : Heap} {H : Hp} {b : Addr} {o : Obj} (e : (hidT h H).get? b = some o) : h.get? b = some o ∧ H b = none := by
  have e' : h.get? b = some o := PySem.W.of_hideAll (trk h H) e
  refine ⟨e', ?_⟩
  cases q : H b with
  | none => rfl
  | some x =>
    have hm : b ∈ trk h H := List.mem_filter.mpr ⟨List.mem_range.mpr (Heap.lt_size e'), by simp [q]⟩
    have z : (hidT h H).get? b = none := PySem.W.hideAll_none (trk h H) hm
    rw [z] at e; cases e
def allNews (g h : Heap) (L : Addr) : List (Addr × Obj) := (List.range h.objs.size).filterMap fun a => if a = L ∨ (g.get? a).isSome = true then none else (h.get? a).map fun o => (a, o)
def rest (g h : Heap) (L d : Addr) : List (Addr × Obj) := (allNews g h L).filter fun p => decide (p.1 ≠ d)
end L2
namespace L2
open PySem PySem.Spec PyProof.Rows
structure Mod (K : PySem.W.Frag) (mg : Str → Option Value) (base : Heap) : Prop where
  kin : K.In base
  glob : base.Ns mainGlobals mg
  blt : ∃ mb, base.Ns builtinsNs mb ∧ ∀ x : Str, x ≠ "__name__" → mb x = bootBuiltins x
  nolimit : base.NoLimit
structure Cx where
  prog : Program
  w : World
  K : PySem.W.Frag
  mg : Str → Option Value
  base : Heap
  A : Around
  N : List Str
  s₀ : Shared
  H₀ : Hp
  env : Env
  outer : List Env
  stack : List Env
  ex : List Addr
  fn : Str → Bool
  calm : Bool
  pn : List (Addr × Obj)
  xe : Value → Shared → Prop
def frs (l : List Env) : List Addr := l.filterMap (·.frame)
abbrev Cx.fs (X : Cx) : List Addr := frs X.outer
def Vis (sc : Scope) (x : Str) : Prop := sc.names.lookup x = some .local ∨ sc.names.lookup x = some .cell ∨ sc.names.lookup x = some .free
def Loc (sc : Scope) (x : Str) : Prop := sc.names.lookup x = some .local ∨ sc.names.lookup x = some .cell
def Look (env : Env) (h : Heap) (m : Str → Option Value) (x : Str) (u : Value) : Prop :=
  (env.kindOf x = some .local ∧ m x = some u) ∨ ((env.kindOf x = some .cell ∨ env.kindOf x = some .free) ∧ ∃ c, env.cells.lookup x = some c ∧ h.IsCell c (some u))
structure Cx.Ok (X : Cx) : Prop where
  mod : Mod X.K X.mg X.base
  kind : X.env.scope.kind = .function
  glob : X.env.globals = mainGlobals
  blt : X.env.builtins = builtinsNs
  above : X.s₀.heap.objs.size ≤ X.env.locals
  inj : ∀ x y c, X.env.cells.lookup x = some c → X.env.cells.lookup y = some c → x = y
  has : ∀ x, (X.env.kindOf x = some .cell ∨ X.env.kindOf x = some .free) → ∃ c, X.env.cells.lookup x = some c
  cab : ∀ x c, X.fn x = true → X.env.cells.lookup x = some c → X.s₀.heap.objs.size ≤ c
  hd : X.calm = true → X.A.handled = none
  frames : X.A.frames = some X.stack
  stk : X.stack = X.outer ∨ (X.stack = X.env :: X.outer ∧ X.env.frame = some X.env.locals)
  exf : ∀ b ∈ X.ex, b ≠ X.env.locals ∧ ∀ x c, X.env.cells.lookup x = some c → c ≠ b
  bs : ∀ b o, X.base.get? b = some o → X.s₀.heap.get? b = some o ∧ X.H₀ b = none
  bsz : X.base.objs.size ≤ X.s₀.heap.objs.size
  noex : ∀ b o, X.base.get? b = some o → b ∉ X.ex
  exfs : ∀ b ∈ X.ex, b ∉ X.fs
  funs : X.s₀.heap.FunFrames X.base X.outer
  frf : ∀ b ∈ X.fs, X.H₀ b = none
structure Inv (X : Cx) (pins : List (Addr × Obj)) (σ : List (Option V)) (H : Hp) (s : Shared) : Prop where
  ok : X.Ok
  os : s.os = X.s₀.os
  bare : AllBare s.gens
  base : Un X.fs X.ex X.H₀ H X.s₀.heap s.heap
  loc : ∃ m, s.heap.Ns X.env.locals m ∧ ∀ (i : Nat) (x : Str) (v : V), X.N[i]? = some x → σ[i]? = some (some v) → Vis X.env.scope x → ∃ u, RelV v u ∧ Look X.env s.heap m x u
  cell : ∀ x c, X.env.cells.lookup x = some c → ∃ v, s.heap.IsCell c v
  free : H X.env.locals = none
  freeC : ∀ x c, X.env.cells.lookup x = some c → H c = none
  pin : ∀ p ∈ X.pn ++ pins, s.heap.get? p.1 = some p.2 ∧ H p.1 = none ∧ p.1 ≠ X.env.locals ∧ p.1 ∉ X.fs ∧ ∀ v, p.2.data ≠ .cell v
  hok : HOk X.prog X.w H s.heap
  len : σ.length = X.N.length
section
variable {X : Cx} {pins : List (Addr × Obj)} {σ : List (Option V)} {H H' : Hp} {s : Shared} {h' : Heap}
theorem Cx.Ok.nofr (ok : X.Ok) {b : Addr} {o : Obj} (e : X.base.get? b = some o) : b ∉ X.fs := fun hb => by
  have := (ok.funs.mem hb).1
  rw [e] at this; cases this
theorem Inv.bs (I : Inv X pins σ H s) : ∀ b o, X.base.get? b = some o → s.heap.get? b = some o ∧ H b = none := fun b o e =>
  ⟨I.base.keep b o (I.ok.bs b o e).1 (I.ok.bs b o e).2 (I.ok.nofr e) (I.ok.noex b o e), I.base.free b o (I.ok.bs b o e).1 (I.ok.bs b o e).2 (I.ok.noex b o e)⟩
theorem Inv.bk (I : Inv X pins σ H s) : ∀ b o, X.base.get? b = some o → s.heap.get? b = some o := fun b o e => (I.bs b o e).1
theorem Inv.mod (I : Inv X pins σ H s) : Mod X.K X.mg X.base := I.ok.mod
theorem Inv.kIn (I : Inv X pins σ H s) : X.K.In s.heap := I.ok.mod.kin.keeps I.bk
theorem Inv.nolimit (I : Inv X pins σ H s) : s.heap.NoLimit := I.ok.mod.nolimit.keeps I.bk
theorem Inv.fr (I : Inv X pins σ H s) : ∃ m, Fr X.base X.env.locals s.heap m :=
  let ⟨m, hn, _⟩ := I.loc
  ⟨m, hn, I.bk, Nat.le_trans I.ok.bsz I.ok.above⟩
theorem Inv.lt (I : Inv X pins σ H s) : X.env.locals < s.heap.objs.size := let ⟨_, hn, _⟩ := I.loc; hn.lt
theorem Inv.sz (I : Inv X pins σ H s) : X.s₀.heap.objs.size ≤ s.heap.objs.size := Nat.le_trans I.ok.above (Nat.le_of_lt I.lt)
theorem Inv.nofs (I : Inv X pins σ H s) {a : Addr} (h : s.heap.objs.size ≤ a) : a ∉ X.fs := fun hb => by
  obtain ⟨_, o, ho, _⟩ := I.ok.funs.mem hb
  exact absurd (Nat.lt_of_lt_of_le (Heap.lt_size ho) (Nat.le_trans I.sz h)) (Nat.lt_irrefl _)
theorem Inv.cne (I : Inv X pins σ H s) : ∀ x c, X.env.cells.lookup x = some c → c ≠ X.env.locals := fun x c e z => by
  obtain ⟨v, o, ho, hd⟩ := I.cell x c e
  obtain ⟨m, ⟨o', es, ep, ho', hd', _⟩, _⟩ := I.loc
  rw [z, ho'] at ho; cases ho; rw [hd'] at hd; cases hd
theorem Inv.funs (I : Inv X pins σ H s) : s.heap.FunFrames X.base X.outer := by
  have all : ∀ (l : List Env), (∀ b ∈ frs l, b ∈ X.fs) → X.s₀.heap.FunFrames X.base l → s.heap.FunFrames X.base l := by
    intro l
    induction l with
    | nil => intro _ _; trivial
    | cons env r ih =>
      intro hs hl
      obtain ⟨hk, ⟨L, o, hf, hn, ho, hd⟩, hr⟩ := hl
      have hL : L ∈ X.fs := hs L (by unfold frs; rw [List.filterMap_cons, hf]; exact List.mem_cons_self)
      obtain ⟨sl, e⟩ := I.base.slot L o ho (I.ok.frf L hL) hL fun z => I.ok.exfs L z hL
      exact ⟨hk, ⟨L, _, hf, hn, e, hd⟩, ih (fun b hb => hs b (by unfold frs; rw [List.filterMap_cons, hf]; exact List.mem_cons_of_mem _ hb)) hr⟩
  exact all X.outer (fun _ hb => hb) I.ok.funs
theorem Inv.stack (I : Inv X pins σ H s) : s.heap.FunFrames X.base X.stack := by
  rcases I.ok.stk with e | ⟨e, hf⟩
  · rw [e]; exact I.funs
  · rw [e]
    obtain ⟨m, hn, _⟩ := I.loc
    refine .cons (by rw [I.ok.kind]; decide) hf hn ?_ I.funs
    exact Heap.get?_none_of_le (Nat.le_trans I.ok.bsz I.ok.above)
theorem Inv.stkSub (I : Inv X pins σ H s) : ∀ b ∈ frs X.stack, b ∈ X.env.locals :: X.fs := fun b hb => by
  rcases I.ok.stk with e | ⟨e, hf⟩
  · rw [e] at hb; exact List.mem_cons_of_mem _ hb
  · rw [e] at hb
    unfold frs at hb
    rw [List.filterMap_cons, hf] at hb
    exact hb
theorem Inv.stkFree (I : Inv X pins σ H s) : ∀ b ∈ frs X.stack, H b = none := fun b hb => by
  rcases List.mem_cons.mp (I.stkSub b hb) with e | hb
  · rw [e]; exact I.free
  · obtain ⟨_, o, ho, _⟩ := I.ok.funs.mem hb
    exact I.base.free b o ho (I.ok.frf b hb) fun z => I.ok.exfs b z hb
theorem Inv.step {g' : Array GenState} {t' : Nat} {d' : Drawn} {ch : List Addr} (I : Inv X pins σ H s)
    (hch : ∀ b ∈ ch, (b ∈ X.ex ∨ X.s₀.heap.objs.size ≤ b) ∧ b ≠ X.env.locals ∧ (∀ x c, X.env.cells.lookup x = some c → c ≠ b) ∧ ∀ p ∈ X.pn ++ pins, p.1 ≠ b)
    (keep : ∀ b o, b ≠ X.env.locals → b ∉ X.fs → b ∉ ch → s.heap.get? b = some o → H b = none → h'.get? b = some o)
    (slot : ∀ b o, b ≠ X.env.locals → b ∈ X.fs → b ∉ ch → s.heap.get? b = some o → H b = none → ∃ sl, h'.get? b = some { o with slots := sl }) (free : ∀ b o, b ∉ ch → s.heap.get? b = some o → H b = none → H' b = none)
    (there : ∀ b o, b ∉ ch → s.heap.get? b = some o → ∃ o', h'.get? b = some o')
    (tups : ∀ b xs, H b = some (.tup xs) → H' b = some (.tup xs)) (frzs : ∀ b o u, H b = some (.frz o u) → H' b = some (.frz o u)) (tbls : ∀ b ps, H b = some (.tbl ps) → ∃ more, H' b = some (.tbl (ps ++ more)))
    (ns : ∀ m, s.heap.Ns X.env.locals m → h'.Ns X.env.locals m) (hok : HOk X.prog X.w H' h') (hg : AllBare g') :
    Inv X pins σ H' { s with heap := h', gens := g', drawn := d', toks := t' } := by
  have neL : ∀ b o, X.s₀.heap.get? b = some o → b ≠ X.env.locals := fun b o e => Nat.ne_of_lt (Nat.lt_of_lt_of_le (Heap.lt_size e) I.ok.above)
  have neC : ∀ b o, X.s₀.heap.get? b = some o → b ∉ X.ex → b ∉ ch := fun b o e hx hb => by
    rcases (hch b hb).1 with z | z
    · exact hx z
    · exact absurd (Nat.lt_of_lt_of_le (Heap.lt_size e) z) (Nat.lt_irrefl _)
  have cellK : ∀ x c, X.env.cells.lookup x = some c → ∀ v, s.heap.IsCell c v → h'.IsCell c v := fun x c e v ⟨o, ho, hd⟩ => by
    have nch : c ∉ ch := fun z => (hch c z).2.2.1 x c e rfl
    by_cases hc : c ∈ X.fs
    · obtain ⟨sl, q⟩ := slot c o (I.cne x c e) hc nch ho (I.freeC x c e)
      exact ⟨_, q, hd⟩
    · exact ⟨o, keep c o (I.cne x c e) hc nch ho (I.freeC x c e), hd⟩
  refine ⟨I.ok, I.os, hg, ⟨fun b o e n hb hx => ?_, fun b o e n hb hx => ?_, fun b o e n hx => ?_, fun b o e hx => ?_, fun b xs e => tups b xs (I.base.tups b xs e), fun b o xs e => frzs b o xs (I.base.frzs b o xs e), fun b ps e => ?_⟩, ?_, fun x c e => ?_, ?_, fun x c e => ?_, fun p hp => ?_, hok, I.len⟩
  · exact keep b o (neL b o e) hb (neC b o e hx) (I.base.keep b o e n hb hx) (I.base.free b o e n hx)
  · obtain ⟨sl, e1⟩ := I.base.slot b o e n hb hx
    obtain ⟨sl', e2⟩ := slot b _ (neL b o e) hb (neC b o e hx) e1 (I.base.free b o e n hx)
    exact ⟨sl', e2⟩
  · obtain ⟨o', e1⟩ := I.base.there b o e hx
    exact free b o' (neC b o e hx) e1 (I.base.free b o e n hx)
  · obtain ⟨o', e1⟩ := I.base.there b o e hx
    exact there b o' (neC b o e hx) e1
  · obtain ⟨m1, e1⟩ := I.base.tbls b ps e
    obtain ⟨m2, e2⟩ := tbls b _ e1
    exact ⟨m1 ++ m2, by rw [e2, Array.append_assoc]⟩
  · obtain ⟨m, hn, hl⟩ := I.loc
    refine ⟨m, ns m hn, fun i x v e1 e2 e3 => ?_⟩
    obtain ⟨u, r, l⟩ := hl i x v e1 e2 e3
    refine ⟨u, r, ?_⟩
    rcases l with l | ⟨k, c, e, z⟩
    · exact .inl l
    · exact .inr ⟨k, c, e, cellK x c e _ z⟩
  · obtain ⟨v, z⟩ := I.cell x c e
    exact ⟨v, cellK x c e v z⟩
  · obtain ⟨m, ⟨o, _, _, ho, _⟩, _⟩ := I.loc
    exact free _ o (fun z => (hch _ z).2.1 rfl) ho I.free
  · obtain ⟨v, o, ho, hd⟩ := I.cell x c e
    exact free c o (fun z => (hch c z).2.2.1 x c e rfl) ho (I.freeC x c e)
  · obtain ⟨e, n, ne, nf, d⟩ := I.pin p hp
    have nch : p.1 ∉ ch := fun z => (hch p.1 z).2.2.2 p hp rfl
    exact ⟨keep p.1 p.2 ne nf nch e n, free p.1 p.2 nch e n, ne, nf, d⟩
theorem Inv.un {t' : Nat} (I : Inv X pins σ H s) (u : Un X.fs [] H H' s.heap h') (hok : HOk X.prog X.w H' h') : Inv X pins σ H' { s with heap := h', toks := t' } := by
  obtain ⟨m, ⟨o, es, ep, ho, r⟩, _⟩ := id I.loc
  obtain ⟨sl, hL⟩ := u.any ho I.free (by simp)
  exact I.step (g' := s.gens) (d' := s.drawn) (ch := []) (fun _ z => nomatch z) (fun b o _ hb _ e n => u.keep b o e n hb (by simp)) (fun b o _ hb _ e n => u.slot b o e n hb (by simp)) (fun b o _ e n => u.free b o e n (by simp)) (fun b o _ e => u.there b o e (by simp)) u.tups u.frzs u.tbls (fun m' hm => by
    obtain ⟨o', es', ep', ho', r'⟩ := hm
    rw [ho] at ho'; cases ho'
    exact ⟨_, es', ep', hL, r'⟩) hok I.bare
theorem Inv.call {g' : Array GenState} {t' : Nat} {d' : Drawn} {ch : List Addr} (I : Inv X pins σ H s) (u : Un (frs X.stack) ch H H' s.heap h') (hok : HOk X.prog X.w H' h') (hg : AllBare g')
    (hch : ∀ b ∈ ch, (b ∈ X.ex ∨ X.s₀.heap.objs.size ≤ b) ∧ b ≠ X.env.locals ∧ (∀ x c, X.env.cells.lookup x = some c → c ≠ b) ∧ ∀ p ∈ X.pn ++ pins, p.1 ≠ b) :
    Inv X pins σ H' { s with heap := h', gens := g', drawn := d', toks := t' } := by
  obtain ⟨m, ⟨o, es, ep, ho, r⟩, _⟩ := id I.loc
  obtain ⟨sl, hL⟩ := u.any ho I.free fun z => (hch _ z).2.1 rfl
  exact I.step (ch := ch) hch (fun b o hL hb hc e n => u.keep b o e n (fun z => (List.mem_cons.mp (I.stkSub b z)).elim hL hb) hc) (fun b o _ _ hc e n => u.any e n hc) (fun b o hc e n => u.free b o e n hc) (fun b o hc e => u.there b o e hc) u.tups u.frzs u.tbls (fun m' hm => by
    obtain ⟨o', es', ep', ho', r'⟩ := hm
    rw [ho] at ho'; cases ho'
    exact ⟨_, es', ep', hL, r'⟩) hok hg
theorem Inv.turned {t' : Nat} {it : Addr} (I : Inv X pins σ H s) (k : ∀ b o, b ≠ it → s.heap.get? b = some o → h'.get? b = some o) (hn : H it = none) (hL : it ≠ X.env.locals)
    (h1 : it ∈ X.ex ∨ X.s₀.heap.objs.size ≤ it) (h2 : ∀ x c, X.env.cells.lookup x = some c → c ≠ it) (h3 : ∀ p ∈ X.pn ++ pins, p.1 ≠ it) : Inv X pins σ H { s with heap := h', toks := t' } := by
  have nit : ∀ b u, H b = some u → b ≠ it := fun b u e z => by rw [z, hn] at e; cases e
  refine I.step (g' := s.gens) (d' := s.drawn) (ch := [it]) (fun b hb => ?_) (fun b o _ _ hc e _ => k b o (fun z => hc (by simp [z])) e) (fun b o _ _ hc e _ => ⟨o.slots, k b o (fun z => hc (by simp [z])) e⟩) (fun _ _ _ _ n => n)
    (fun b o hc e => ⟨o, k b o (fun z => hc (by simp [z])) e⟩) (fun _ _ e => e) (fun _ _ _ e => e) (fun b ps e => ⟨#[], by rw [e]; simp⟩) (fun m hm => ?_) (fun b u e => ?_) I.bare
  · have e : b = it := by simpa using hb
    subst e
    exact ⟨h1, hL, h2, h3⟩
  · obtain ⟨o, es, ep, ho, r⟩ := hm
    exact ⟨o, es, ep, k _ o (Ne.symm hL) ho, r⟩
  · refine (I.hok b u e).stay (fun c v hc q => k c v ?_ q) (fun _ q => q) fun _ _ q => q
    rcases hc with z | z
    · rw [z]; exact nit b u e
    · exact nit c _ z
theorem Inv.tok (I : Inv X pins σ H s) (t : Nat) : Inv X pins σ H { s with toks := t } := I.un (h' := s.heap) (t' := t) Un.refl I.hok
theorem Inv.kept {t' : Nat} (I : Inv X pins σ H s) (k : ∀ b u, s.heap.get? b = some u → h'.get? b = some u) : Inv X pins σ H { s with heap := h', toks := t' } := I.un (Un.kept k) (I.hok.kept k)
theorem Inv.laid {a : Addr} {o : HO} {t' : Nat} (I : Inv X pins σ H s) (k : ∀ b u, s.heap.get? b = some u → h'.get? b = some u) (hp : s.heap.objs.size ≤ a) (new : ObjOk X.prog X.w (upd H a o) h' a o) :
    Inv X pins σ (upd H a o) { s with heap := h', toks := t' } := I.un (Un.laid k hp (I.hok.fresh hp)) (I.hok.laid k hp new)
theorem Inv.write {x e : Addr} {o : HO} {t' : Nat} (I : Inv X pins σ H s) (mu : Mut (H x)) (he : e = x ∨ H e = some (.own x)) (k : ∀ b u, b ≠ e → s.heap.get? b = some u → h'.get? b = some u) (heo : ∃ u, h'.get? e = some u)
    (new : ObjOk X.prog X.w (upd H x o) h' x o) : Inv X pins σ (upd H x o) { s with heap := h', toks := t' } := I.un (Un.write mu he k heo) (I.hok.write mu he k heo new)
theorem Inv.pins_of {pins' : List (Addr × Obj)} (I : Inv X pins σ H s) (h : ∀ p ∈ pins', s.heap.get? p.1 = some p.2 ∧ H p.1 = none ∧ p.1 ≠ X.env.locals ∧ p.1 ∉ X.fs ∧ ∀ v, p.2.data ≠ .cell v) : Inv X pins' σ H s :=
  ⟨I.ok, I.os, I.bare, I.base, I.loc, I.cell, I.free, I.freeC, fun p hp => (List.mem_append.mp hp).elim (fun z => I.pin p (List.mem_append_left _ z)) (h p), I.hok, I.len⟩
theorem nodup_ix {N : List Str} (hN : N.Nodup) {i j : Nat} {x : Str} (a : N[i]? = some x) (b : N[j]? = some x) : i = j := by
  obtain ⟨h1, e1⟩ := List.getElem?_eq_some_iff.mp a
  obtain ⟨h2, e2⟩ := List.getElem?_eq_some_iff.mp b
  exact (List.getElem_inj hN).mp (e1.trans e2.symm)
theorem store_ok2 {M : Model} {A : Around} {E : Value → Shared → Prop} {i : Nat} {x : Str} {v : V} {u : Value} {Q : Unit → Shared → Prop} (I : Inv X pins σ H s) (hN : X.N.Nodup) (hi : X.N[i]? = some x) (hx : Loc X.env.scope x) (r : RelV v u)
    (h : ∀ s', Inv X pins (σ.set i (some v)) H s' → (∃ a, Heap.SameBut a s.heap s'.heap ∧ (a = X.env.locals ∨ X.env.cells.lookup x = some a)) → Q () s') (hf : X.fn x = true ∨ X.env.scope.names.lookup x = some .local := by first | exact .inl rfl | exact .inr rfl | assumption) : wpAny M A (storeName X.env x u) Q E s := by
  obtain ⟨m, hn, hl⟩ := id I.loc
  have hcls : (X.env.scope.kind == .class || (X.env.scope.kind == .module && X.env.locals != X.env.globals)) = false := by rw [I.ok.kind]; rfl
  have hiσ : i < σ.length := by rw [I.len]; exact (List.getElem?_eq_some_iff.mp hi).1
  have cne := I.cne
  have tracked : ∀ {a : Addr} {h' : Heap}, (∃ o, s.heap.get? a = some o ∧ H a = none) → Heap.SameBut a s.heap h' → HOk X.prog X.w H h' := fun {a h'} ha hs b ob e => by
    obtain ⟨_, _, hfree⟩ := ha
    refine (I.hok b ob e).stay (fun c w' hc q => (hs.2 c ?_).trans q) (fun _ q => q) fun _ _ q => q
    rintro rfl
    rcases hc with rfl | hc
    · rw [hfree] at e; cases e
    · rw [hfree] at hc; cases hc
  rcases hx with hk | hk
  · refine wpAny_storeName_local hk hn (fun h' hn' hs => ?_) hcls
    obtain ⟨oL, _, _, hoL, _⟩ := id hn
    refine h _ ⟨I.ok, I.os, I.bare, ⟨fun b o e n hb hx => ?_, fun b o e n hb hx => ?_, I.base.free, fun b o e hx => ?_, I.base.tups, I.base.frzs, I.base.tbls⟩, ⟨_, hn', fun j y v' e1 e2 e3 => ?_⟩, fun y c e => ?_, I.free, I.freeC, fun p hp => ?_, tracked ⟨oL, hoL, I.free⟩ hs, by simpa using I.len⟩ ⟨_, hs, .inl rfl⟩
    · exact (hs.2 b (Nat.ne_of_lt (Nat.lt_of_lt_of_le (Heap.lt_size e) I.ok.above))).trans (I.base.keep b o e n hb hx)
    · obtain ⟨sl, e1⟩ := I.base.slot b o e n hb hx
      exact ⟨sl, (hs.2 b (Nat.ne_of_lt (Nat.lt_of_lt_of_le (Heap.lt_size e) I.ok.above))).trans e1⟩
    · obtain ⟨o', e1⟩ := I.base.there b o e hx
      exact ⟨o', (hs.2 b (Nat.ne_of_lt (Nat.lt_of_lt_of_le (Heap.lt_size e) I.ok.above))).trans e1⟩
    · by_cases hj : j = i
      · subst hj
        rw [hi] at e1; cases e1
        rw [List.getElem?_set_self hiσ] at e2
        cases e2
        exact ⟨u, r, .inl ⟨hk, by simp⟩⟩
      · rw [List.getElem?_set_ne (Ne.symm hj)] at e2
        obtain ⟨u', r', q⟩ := hl j y v' e1 e2 e3
        refine ⟨u', r', ?_⟩
        rcases q with ⟨k, e⟩ | ⟨k, c, e, z⟩
        · refine .inl ⟨k, ?_⟩
          have : y ≠ x := fun e => hj (nodup_ix hN e1 (e ▸ hi))
          simp [this, e]
        · exact .inr ⟨k, c, e, z.sameBut hs (cne y c e)⟩
    · obtain ⟨w', z⟩ := I.cell y c e
      exact ⟨w', z.sameBut hs (cne y c e)⟩
    · obtain ⟨e, n, ne, nf, d⟩ := I.pin p hp
      exact ⟨(hs.2 p.1 ne).trans e, n, ne, nf, d⟩
  · have hfn : X.fn x = true := by
      rcases hf with z | z
      · exact z
      · rw [z] at hk; cases hk
    obtain ⟨c, hc⟩ := I.ok.has x (.inl hk)
    obtain ⟨w', z⟩ := I.cell x c hc
    refine wpAny_storeName_cell I.ok.kind hk hc z (fun h' hc' hs => ?_)
    obtain ⟨oc, hoc, hocd⟩ := id z
    refine h { s with heap := h' } ⟨I.ok, I.os, I.bare, ⟨fun b o e n hb hx => ?_, fun b o e n hb hx => ?_, I.base.free, fun b o e hx => ?_, I.base.tups, I.base.frzs, I.base.tbls⟩, ⟨m, hn.sameBut hs (Ne.symm (cne x c hc)), fun j y v' e1 e2 e3 => ?_⟩, fun y c' e => ?_, I.free, I.freeC, fun p hp => ?_, tracked ⟨oc, hoc, I.freeC x c hc⟩ hs, by simpa using I.len⟩ ⟨c, hs, .inr hc⟩
    · exact (hs.2 b (Nat.ne_of_lt (Nat.lt_of_lt_of_le (Heap.lt_size e) (I.ok.cab x c hfn hc)))).trans (I.base.keep b o e n hb hx)
    · obtain ⟨sl, e1⟩ := I.base.slot b o e n hb hx
      exact ⟨sl, (hs.2 b (Nat.ne_of_lt (Nat.lt_of_lt_of_le (Heap.lt_size e) (I.ok.cab x c hfn hc)))).trans e1⟩
    · obtain ⟨o', e1⟩ := I.base.there b o e hx
      exact ⟨o', (hs.2 b (Nat.ne_of_lt (Nat.lt_of_lt_of_le (Heap.lt_size e) (I.ok.cab x c hfn hc)))).trans e1⟩
    · by_cases hj : j = i
      · subst hj
        rw [hi] at e1; cases e1
        rw [List.getElem?_set_self hiσ] at e2
        cases e2
        exact ⟨u, r, .inr ⟨.inl hk, c, hc, hc'⟩⟩
      · rw [List.getElem?_set_ne (Ne.symm hj)] at e2
        obtain ⟨u', r', q⟩ := hl j y v' e1 e2 e3
        refine ⟨u', r', ?_⟩
        rcases q with q | ⟨k, c', e, z'⟩
        · exact .inl q
        · refine .inr ⟨k, c', e, z'.sameBut hs ?_⟩
          rintro rfl
          exact hj (nodup_ix hN e1 (I.ok.inj _ _ _ e hc ▸ hi))
    · by_cases hcc : c' = c
      · subst hcc; exact ⟨_, hc'⟩
      · obtain ⟨w2, z2⟩ := I.cell y c' e
        exact ⟨w2, z2.sameBut hs hcc⟩
    · obtain ⟨e, n, ne, nf, d⟩ := I.pin p hp
      refine ⟨(hs.2 p.1 ?_).trans e, n, ne, nf, d⟩
      intro q
      rw [q, hoc] at e
      have q' : oc = p.2 := Option.some.inj e
      exact d w' (by rw [← q']; exact hocd)
theorem store_ok {M : Model} {A : Around} {E : Value → Shared → Prop} {i : Nat} {x : Str} {v : V} {u : Value} {Q : Unit → Shared → Prop} (I : Inv X pins σ H s) (hN : X.N.Nodup) (hi : X.N[i]? = some x) (hx : Loc X.env.scope x) (r : RelV v u)
    (h : ∀ s', Inv X pins (σ.set i (some v)) H s' → Q () s') (hf : X.fn x = true ∨ X.env.scope.names.lookup x = some .local := by first | exact .inl rfl | exact .inr rfl | assumption) : wpAny M A (storeName X.env x u) Q E s :=
  store_ok2 I hN hi hx r (fun s' I' _ => h s' I') hf
theorem Inv.call' {s' : Shared} {ch : List Addr} (I : Inv X pins σ H s) (ho : s'.os = s.os) (u : Un (frs X.stack) ch H H' s.heap s'.heap) (hok : HOk X.prog X.w H' s'.heap) (hg : AllBare s'.gens)
    (hch : ∀ b ∈ ch, (b ∈ X.ex ∨ X.s₀.heap.objs.size ≤ b) ∧ b ≠ X.env.locals ∧ (∀ x c, X.env.cells.lookup x = some c → c ≠ b) ∧ ∀ p ∈ X.pn ++ pins, p.1 ≠ b) : Inv X pins σ H' s' := by
  obtain ⟨h', g', d', t', o'⟩ := s'
  have e : o' = s.os := ho
  subst e
  exact I.call (g' := g') (t' := t') (d' := d') u hok hg hch
end
abbrev XK := Value → Option Addr → Hp → Prop
abbrev St := List (Option V)
abbrev VK := V → Hp → Prop
abbrev TE := St → Hp → VK → Prop
abbrev TT := St → Hp → (Bool → Hp → Prop) → Prop
abbrev TA := St → Hp → (List V → Hp → Prop) → Prop
structure Ends where
  nx : St → Hp → Prop
  rt : VK
  bk : St → Hp → Prop := fun _ _ => False
  ct : St → Hp → Prop := fun _ _ => False
abbrev TS := Ends → St → Hp → Prop
def EP (X : Cx) (pins : List (Addr × Obj)) (σ : St) (Q : VK) (u : Value) (s' : Shared) : Prop := ∃ v H', Inv X pins σ H' s' ∧ RelV v u ∧ Q v H'
def TP (X : Cx) (pins : List (Addr × Obj)) (σ : St) (Q : Bool → Hp → Prop) (b : Bool) (s' : Shared) : Prop := ∃ H', Inv X pins σ H' s' ∧ Q b H'
def AP (X : Cx) (pins : List (Addr × Obj)) (σ : St) (Q : List V → Hp → Prop) (us : List Value) (s' : Shared) : Prop := ∃ vs H', Inv X pins σ H' s' ∧ Vals vs us ∧ Q vs H'
def SP (X : Cx) (pins : List (Addr × Obj)) (D : Ends) (f : Flow) (s' : Shared) : Prop :=
  match f with
  | .next => ∃ σ' H', Inv X pins σ' H' s' ∧ D.nx σ' H'
  | .brk => ∃ σ' H', Inv X pins σ' H' s' ∧ D.bk σ' H'
  | .cont => ∃ σ' H', Inv X pins σ' H' s' ∧ D.ct σ' H'
  | .ret u => ∃ v σ' H', Inv X pins σ' H' s' ∧ RelV v u ∧ D.rt v H'
def PE (X : Cx) (e : Expr) (t : TE) : Prop :=
  ∀ (pins : List (Addr × Obj)) (s : Shared) (σ : St) (H : Hp) (Q : VK), Inv X pins σ H s → t σ H Q → wpAny (model X.prog X.w) X.A (eval e X.env) (EP X pins σ Q) X.xe s
def PT (X : Cx) (e : Expr) (t : TT) : Prop :=
  ∀ (pins : List (Addr × Obj)) (s : Shared) (σ : St) (H : Hp) (Q : Bool → Hp → Prop), Inv X pins σ H s → t σ H Q → wpAny (model X.prog X.w) X.A (isTrue e X.env (eval e X.env)) (TP X pins σ Q) X.xe s
def PW (X : Cx) (e : Expr) (t : TT) : Prop :=
  ∀ (whole : Sem Value) (pins : List (Addr × Obj)) (s : Shared) (σ : St) (H : Hp) (Q : Bool → Hp → Prop), Inv X pins σ H s → t σ H Q → wpAny (model X.prog X.w) X.A (isTrue e X.env whole) (TP X pins σ Q) X.xe s
theorem PW.pt {X : Cx} {e : Expr} {t : TT} (h : PW X e t) : PT X e t := h _
def PA (X : Cx) (es : List Expr) (t : TA) : Prop :=
  ∀ (pos : Pos) (pins : List (Addr × Obj)) (s : Shared) (σ : St) (H : Hp) (Q : List V → Hp → Prop), Inv X pins σ H s → t σ H Q → wpAny (model X.prog X.w) X.A (spliced (backTo pos (starEach es X.env))) (AP X pins σ Q) X.xe s
def PS (X : Cx) (st : Stmt) (t : TS) : Prop :=
  ∀ (pins : List (Addr × Obj)) (s : Shared) (σ : St) (H : Hp) (D : Ends), Inv X pins σ H s → t D σ H → wpAny (model X.prog X.w) X.A (exec st X.env) (SP X pins D) X.xe s
def PSs (X : Cx) (st : List Stmt) (t : TS) : Prop :=
  ∀ (pins : List (Addr × Obj)) (s : Shared) (σ : St) (H : Hp) (D : Ends), Inv X pins σ H s → t D σ H → wpAny (model X.prog X.w) X.A (execs st X.env) (SP X pins D) X.xe s
theorem thn {α : Type} {t : Sem α} {Q Q' : α → Shared → Prop} {M : Model} {A : Around} {E : Value → Shared → Prop} {s : Shared} (h : wpAny M A t Q E s) (hQ : ∀ a s, Q a s → Q' a s) : wpAny M A t Q' E s := wpAny_mono h hQ fun _ _ x => x
end L2
namespace L2
open PySem PySem.Spec PyProof.Rows
section
variable {X : Cx}
def tVar (i : Nat) : TE := fun σ H Q => ∃ v, σ[i]? = some (some v) ∧ Q v H
def tC (v : V) : TE := fun _ H Q => Q v H
theorem pe_var {i : Nat} {x : Str} {pos : Pos} (hN : X.N[i]? = some x) (hv : Vis X.env.scope x) (hd : (x == ("__debug__" : Str)) = false := by decide) (hcd : (x == ("__classdict__" : Str)) = false := by decide) : PE X (.Name x pos) (tVar i) := by
  intro pins s σ H Q I h
  obtain ⟨v, e, h⟩ := h
  obtain ⟨m, hn, hl⟩ := I.loc
  obtain ⟨u, r, l⟩ := hl i x v hN e hv
  have fin : EP X pins σ Q u s := ⟨v, H, I, r, h⟩
  rcases l with ⟨hk, hm⟩ | ⟨hk, c, hc, hcell⟩
  · exact wpAny_Name (wpAny_loadName_local I.ok.kind hk hn hm fin) hd
  · rcases hk with hk | hk
    · exact wpAny_Name (wpAny_loadName_cell I.ok.kind hk hc hcell fin) hd
    · exact wpAny_Name (wpAny_loadName_free I.ok.kind hk hc hcell fin hcd) hd
theorem pe_int {i j pos} : PE X (.Constant (.int i) j pos) (tC (.int i)) := fun _ _ _ H _ I h => wpAny_Constant_int ⟨.int i, H, I.tok _, ⟨_, rfl⟩, h⟩
theorem pe_bl {b j pos} : PE X (.Constant (.bool b) j pos) (tC (.bl b)) := fun _ _ _ H _ I h => Constant_bool ⟨.bl b, H, I, rfl, h⟩
theorem pe_non {j pos} : PE X (.Constant .none j pos) (tC .non) := fun _ _ _ H _ I h => Constant_none ⟨.non, H, I, rfl, h⟩
theorem pe_str {x j pos} : PE X (.Constant (.str x) j pos) (tC (.str x)) := fun _ _ _ H _ I h => Calls.Constant_str ⟨.str x, H, I.tok _, ⟨_, rfl⟩, h⟩
def Gl (X : Cx) (x : Str) : Prop := X.env.kindOf x = some .globalImplicit
theorem ld_glob {E : Value → Shared → Prop} {pins : List (Addr × Obj)} {s : Shared} {σ : St} {H : Hp} {x : Str} {u : Value} {pos : Pos} {Q : Value → Shared → Prop} (I : Inv X pins σ H s) (hg : Gl X x) (hm : X.mg x = some u) (h : Q u s)
    (hd : (x == ("__debug__" : Str)) = false := by decide) : wpAny (model X.prog X.w) X.A (eval (.Name x pos) X.env) Q E s :=
  Calls.Name_function_global I.ok.kind hg (Calls.loadGlobal_global (by rw [I.ok.glob]; exact I.mod.glob.keeps I.bk) hm h) hd
theorem ld_blt {E : Value → Shared → Prop} {pins : List (Addr × Obj)} {s : Shared} {σ : St} {H : Hp} {x : Str} {u : Value} {pos : Pos} {Q : Value → Shared → Prop} (I : Inv X pins σ H s) (hg : Gl X x) (hm : X.mg x = none) (hv : bootBuiltins x = some u) (h : Q u s)
    (hn : x ≠ "__name__" := by decide) (hd : (x == ("__debug__" : Str)) = false := by decide) : wpAny (model X.prog X.w) X.A (eval (.Name x pos) X.env) Q E s := by
  obtain ⟨mb, h1, h2⟩ := I.mod.blt
  exact Calls.Name_function_global I.ok.kind hg (Calls.loadGlobal_builtin (by rw [I.ok.glob]; exact I.mod.glob.keeps I.bk) hm (by rw [I.ok.blt]; exact h1.keeps I.bk) ((h2 x hn).trans hv) h) hd
theorem pe_glob {x : Str} {v : V} {u : Value} {pos : Pos} (hg : Gl X x) (hm : X.mg x = some u) (r : RelV v u) (hd : (x == ("__debug__" : Str)) = false := by decide) : PE X (.Name x pos) (tC v) :=
  fun _ _ _ H _ I h => ld_glob I hg hm ⟨v, H, I, r, h⟩ hd
theorem pe_bltn {x : Str} {v : V} {u : Value} {pos : Pos} (hg : Gl X x) (hm : X.mg x = none) (hv : bootBuiltins x = some u) (r : RelV v u) (hn : x ≠ "__name__" := by decide) (hd : (x == ("__debug__" : Str)) = false := by decide) : PE X (.Name x pos) (tC v) :=
  fun _ _ _ H _ I h => ld_blt I hg hm hv ⟨v, H, I, r, h⟩ hn hd
variable {a b : Expr} {ta tb : TE} {pos : Pos}
def tB (t : TE) : TT := fun σ H Q => t σ H fun x H1 => ∃ c, x = .bl c ∧ Q c H1
theorem pt_val {e : Expr} {t : TE} (h : PE X e t) (he : ∀ whole, isTrue e X.env whole = (do let v ← whole; standAt e.pos; holding [v] (truthy v)) := by intro _; rfl) : PT X e (tB t) := by
  intro pins s σ H Q I hw
  refine isTrue_plain (thn (h pins s σ H _ I hw) fun v s1 ⟨x, H1, I1, r1, q1⟩ => ?_) (he _)
  obtain ⟨d, rfl, q⟩ := q1
  cases r1
  exact wpAny_truthy_bool ⟨H1, I1, q⟩
variable {tA tB' : TT} {rest : List Expr}
def tAnd (t u : TT) : TT := fun σ H Q => t σ H fun c H1 => if c = true then u σ H1 Q else Q false H1
def tOr (t u : TT) : TT := fun σ H Q => t σ H fun c H1 => if c = true then Q true H1 else u σ H1 Q
def tNot (t : TT) : TT := fun σ H Q => t σ H fun c H1 => Q (!c) H1
theorem pw_and1 (ha : PT X a tA) : PW X (.BoolOp .And [a] pos) tA := by
  intro wh pins s σ H Q I h
  refine isTrue_and (thn (ha pins s σ H Q I h) fun c s1 e => ?_)
  cases c with
  | true => exact isTrue_and_nil e
  | false => exact e
theorem pw_or1 (ha : PT X a tA) : PW X (.BoolOp .Or [a] pos) tA := by
  intro wh pins s σ H Q I h
  refine isTrue_or (thn (ha pins s σ H Q I h) fun c s1 e => ?_)
  cases c with
  | false => exact isTrue_or_nil e
  | true => exact e
theorem pw_and (ha : PT X a tA) (hb : PW X (.BoolOp .And (b :: rest) pos) tB') : PW X (.BoolOp .And (a :: b :: rest) pos) (tAnd tA tB') := by
  intro wh pins s σ H Q I h
  refine isTrue_and (thn (ha pins s σ H _ I h) fun c s1 ⟨H1, I1, q1⟩ => ?_)
  cases c with
  | true => exact hb wh pins s1 σ H1 Q I1 q1
  | false => exact ⟨H1, I1, q1⟩
theorem pw_or (ha : PT X a tA) (hb : PW X (.BoolOp .Or (b :: rest) pos) tB') : PW X (.BoolOp .Or (a :: b :: rest) pos) (tOr tA tB') := by
  intro wh pins s σ H Q I h
  refine isTrue_or (thn (ha pins s σ H _ I h) fun c s1 ⟨H1, I1, q1⟩ => ?_)
  cases c with
  | true => exact ⟨H1, I1, q1⟩
  | false => exact hb wh pins s1 σ H1 Q I1 q1
theorem pt_not (ha : PT X a tA) : PT X (.UnaryOp .Not a pos) (tNot tA) := by
  intro pins s σ H Q I h
  exact isTrue_not (ha pins s σ H (fun c H1 => Q (!c) H1) I h)
def tAndV (ta tb : TE) : TE := fun σ H Q => ta σ H fun x H1 => ∃ c, x = .bl c ∧ if c = true then tb σ H1 Q else Q (.bl false) H1
def tOrV (ta tb : TE) : TE := fun σ H Q => ta σ H fun x H1 => ∃ c, x = .bl c ∧ if c = true then Q (.bl true) H1 else tb σ H1 Q
def tNotV (ta : TE) : TE := fun σ H Q => ta σ H fun x H1 => ∃ c, x = .bl c ∧ Q (.bl (!c)) H1
theorem pe_one {op} {t : TE} (h : PE X a t) : PE X (.BoolOp op [a] pos) t := fun pins s σ H Q I hw => BoolOp_one (h pins s σ H Q I hw)
theorem pe_and (ha : PE X a ta) (hb : PE X (.BoolOp .And (b :: rest) pos) tb) : PE X (.BoolOp .And (a :: b :: rest) pos) (tAndV ta tb) := by
  intro pins s σ H Q I h
  refine BoolOp_and (thn (ha pins s σ H _ I h) fun v s1 ⟨x, H1, I1, r1, q1⟩ => ?_)
  obtain ⟨c, rfl, q1⟩ := q1
  cases r1
  refine wpAny_truthy_bool ?_
  cases c with
  | true => exact hb pins s1 σ H1 Q I1 q1
  | false => exact ⟨.bl false, H1, I1, rfl, q1⟩
theorem pe_not (ha : PE X a ta) : PE X (.UnaryOp .Not a pos) (tNotV ta) := by
  intro pins s σ H Q I h
  refine UnaryOp_ (thn (ha pins s σ H _ I h) fun v s1 ⟨x, H1, I1, r1, q1⟩ => ?_)
  obtain ⟨c, rfl, q1⟩ := q1
  cases r1
  exact not_of (wpAny_truthy_bool ⟨.bl (!c), H1, I1, rfl, q1⟩)
def tIf (t : TT) (ta tb : TE) : TE := fun σ H Q => t σ H fun c H1 => if c = true then ta σ H1 Q else tb σ H1 Q
theorem pe_ifExp {c : Expr} (hc : PT X c tA) (ha : PE X a ta) (hb : PE X b tb) : PE X (.IfExp c a b pos) (tIf tA ta tb) := by
  intro pins s σ H Q I h
  refine wpAny_IfExp (thn (hc pins s σ H _ I h) fun d s1 ⟨H1, I1, q1⟩ => ?_)
  cases d with
  | true => exact ha pins s1 σ H1 Q I1 q1
  | false => exact hb pins s1 σ H1 Q I1 q1
end
end L2
namespace L2
open PySem PySem.Spec PyProof.Rows
def SqL (K : PySem.W.Frag) (H : Hp) (a : Addr) (xs : List V) : Prop :=
  Rd H a (.lst xs) ∨
    ∃ (o : Obj) (its : Array Value) (n : Nat), K.lookup a = some o ∧ o.cls = .type "list" ∧ o.dict = none ∧ o.data = .seq its n ∧ its.size ≤ sizeLine ∧ Vals xs its.toList
def SqT (K : PySem.W.Frag) (H : Hp) (a : Addr) (xs : List V) : Prop :=
  Rd H a (.tup xs) ∨
    ∃ (o : Obj) (its : Array Value) (n : Nat), K.lookup a = some o ∧ o.cls = .type "tuple" ∧ o.data = .seq its n ∧ its.size ≤ sizeLine ∧ Vals xs its.toList
def absV : Value → Option V
  | .none => some .non
  | .bool b => some (.bl b)
  | .int i _ => some (.int i)
  | .str x _ => some (.str x)
  | .bytes b _ => some (.byt b)
  | .float b _ => some (.flt b)
  | .ref a => some (.ref a)
  | .type n => some (.ty n)
  | _ => none
theorem RelV.abs {x : V} {u : Value} (r : RelV x u) : absV u = some x := by
  cases x with
  | non => cases r; rfl
  | bl _ => cases r; rfl
  | int _ => obtain ⟨t, rfl⟩ := r; rfl
  | str _ => obtain ⟨t, rfl⟩ := r; rfl
  | byt _ => obtain ⟨t, rfl⟩ := r; rfl
  | flt _ => obtain ⟨t, rfl⟩ := r; rfl
  | ref _ => cases r; rfl
  | ty _ => cases r; rfl
theorem RelV.inj {x y : V} {u : Value} (r : RelV x u) (q : RelV y u) : x = y := Option.some.inj (r.abs.symm.trans q.abs)
theorem Vals.inj : ∀ {xs ys : List V} {us : List Value}, Vals xs us → Vals ys us → xs = ys
  | _, _, _, .nil, .nil => rfl
  | _, _, _, .cons r t, .cons r' t' => by rw [r.inj r', Vals.inj t t']
section
variable {X : Cx} {pins : List (Addr × Obj)} {σ : St} {H : Hp} {s : Shared} {a : Addr} {xs ys : List V}
theorem SqL.of {K : PySem.W.Frag} (h : H a = some (.lst xs)) : SqL K H a xs := .inl (.inl h)
theorem SqT.of {K : PySem.W.Frag} (h : H a = some (.tup xs)) : SqT K H a xs := .inl (.inl h)
theorem Inv.list (I : Inv X pins σ H s) (h : SqL X.K H a xs) : ∃ its : List Value, Vals xs its ∧ PlainL s.heap a its.toArray ∧ xs.length ≤ sizeLine := by
  rcases h with h | ⟨o, its, n, hk, hc, hd, hs, hz, r⟩
  · obtain ⟨z, its, n, r, e⟩ := h.ok I.hok
    exact ⟨its, r, ⟨_, n, e, rfl, rfl, rfl⟩, z⟩
  · refine ⟨its.toList, r, ⟨o, n, I.kIn a o hk, hc, hd, by simpa using hs⟩, ?_⟩
    have e := r.length
    simp only [Array.length_toList] at e
    omega
theorem Inv.tuple (I : Inv X pins σ H s) (h : SqT X.K H a xs) : ∃ its : List Value, Vals xs its ∧ IsTup s.heap a its.toArray ∧ xs.length ≤ sizeLine := by
  rcases h with h | ⟨o, its, n, hk, hc, hs, hz, r⟩
  · obtain ⟨z, its, r, p⟩ := h.ok I.hok
    exact ⟨its, r, p, z.1⟩
  · refine ⟨its.toList, r, ⟨o, I.kIn a o hk, hc, n, by simpa using hs⟩, ?_⟩
    have e := r.length
    simp only [Array.length_toList] at e
    omega
theorem Inv.list_inj (I : Inv X pins σ H s) (h : SqL X.K H a xs) (h' : SqL X.K H a ys) : xs = ys := by
  obtain ⟨its, r, ⟨o, n, e, _, _, d⟩, _⟩ := I.list h
  obtain ⟨its', r', ⟨o', n', e', _, _, d'⟩, _⟩ := I.list h'
  rw [e] at e'; cases e'
  rw [d] at d'
  injection d' with d1 _
  have : its = its' := by simpa using congrArg Array.toList d1
  subst this
  exact r.inj r'
theorem Inv.tuple_inj (I : Inv X pins σ H s) (h : SqT X.K H a xs) (h' : SqT X.K H a ys) : xs = ys := by
  obtain ⟨its, r, ⟨o, e, _, n, d⟩, _⟩ := I.tuple h
  obtain ⟨its', r', ⟨o', e', _, n', d'⟩, _⟩ := I.tuple h'
  rw [e] at e'; cases e'
  rw [d] at d'
  injection d' with d1 _
  have : its = its' := by simpa using congrArg Array.toList d1
  subst this
  exact r.inj r'
end
abbrev Cx.wish (X : Cx) (E : Value → Shared → Prop) : Cx := { X with xe := E }
abbrev Cx.nox (X : Cx) : Cx := X.wish fun _ _ => False
theorem Cx.Ok.wish {X : Cx} (ok : X.Ok) (E : Value → Shared → Prop) : (X.wish E).Ok :=
  ⟨ok.mod, ok.kind, ok.glob, ok.blt, ok.above, ok.inj, ok.has, ok.cab, ok.hd, ok.frames, ok.stk, ok.exf, ok.bs, ok.bsz, ok.noex, ok.exfs, ok.funs, ok.frf⟩
theorem Cx.Ok.unwish {X : Cx} {E : Value → Shared → Prop} (ok : (X.wish E).Ok) : X.Ok :=
  ⟨ok.mod, ok.kind, ok.glob, ok.blt, ok.above, ok.inj, ok.has, ok.cab, ok.hd, ok.frames, ok.stk, ok.exf, ok.bs, ok.bsz, ok.noex, ok.exfs, ok.funs, ok.frf⟩
section
variable {X : Cx} {pins : List (Addr × Obj)} {σ : St} {H : Hp} {s : Shared} {E : Value → Shared → Prop}
theorem Inv.wish (I : Inv X pins σ H s) (E : Value → Shared → Prop) : Inv (X.wish E) pins σ H s := ⟨I.ok.wish E, I.os, I.bare, I.base, I.loc, I.cell, I.free, I.freeC, I.pin, I.hok, I.len⟩
theorem Inv.unwish (I : Inv (X.wish E) pins σ H s) : Inv X pins σ H s := ⟨I.ok.unwish, I.os, I.bare, I.base, I.loc, I.cell, I.free, I.freeC, I.pin, I.hok, I.len⟩
theorem SP.unwish {D : Ends} {f : Flow} {s' : Shared} (h : SP (X.wish E) pins D f s') : SP X pins D f s' := by
  cases f with
  | next => obtain ⟨σ', H', I, q⟩ := h; exact ⟨σ', H', I.unwish, q⟩
  | brk => obtain ⟨σ', H', I, q⟩ := h; exact ⟨σ', H', I.unwish, q⟩
  | cont => obtain ⟨σ', H', I, q⟩ := h; exact ⟨σ', H', I.unwish, q⟩
  | ret u => obtain ⟨v, σ', H', I, r, q⟩ := h; exact ⟨v, σ', H', I.unwish, r, q⟩
theorem PE.nox {e : Expr} {t : TE} (h : PE X.nox e t) : PE X e t := fun pins s σ H Q I hw =>
  wpAny_mono (h pins s σ H Q (I.wish _) hw) (fun _ _ ⟨v, H', I', r, q⟩ => ⟨v, H', I'.unwish, r, q⟩) fun _ _ z => False.elim z
theorem PT.nox {e : Expr} {t : TT} (h : PT X.nox e t) : PT X e t := fun pins s σ H Q I hw =>
  wpAny_mono (h pins s σ H Q (I.wish _) hw) (fun _ _ ⟨H', I', q⟩ => ⟨H', I'.unwish, q⟩) fun _ _ z => False.elim z
theorem PSs.nox {st : List Stmt} {t : TS} (h : PSs X.nox st t) : PSs X st t := fun pins s σ H D I hw =>
  wpAny_mono (h pins s σ H D (I.wish _) hw) (fun _ _ q => q.unwish) fun _ _ z => False.elim z
end
section
variable {X : Cx} {st : Stmt} {rest : List Stmt} {t u : TS} {e : Expr} {te : TE} {pos : Pos}
def tNext : TS := fun D σ H => D.nx σ H
def tSeq (t u : TS) : TS := fun D σ H => t { D with nx := u D } σ H
theorem pss_nil : PSs X [] tNext := fun _ _ σ H _ I h => wpAny_execs_nil ⟨σ, H, I, h⟩
theorem pss_cons (h1 : PS X st t) (h2 : PSs X rest u) : PSs X (st :: rest) (tSeq t u) := by
  intro pins s σ H D I h
  refine wpAny_execs_cons (thn (h1 pins s σ H { D with nx := u D } I h) fun f s1 q => ?_)
  cases f with
  | next =>
    obtain ⟨σ', H', I', q⟩ := q
    exact h2 pins s1 σ' H' D I' q
  | ret v => exact q
  | brk => exact q
  | cont => exact q
theorem pss_one (h1 : PS X st t) : PSs X [st] t := by
  intro pins s σ H D I h
  refine wpAny_execs_cons (thn (h1 pins s σ H D I h) fun f s1 q => ?_)
  cases f with
  | next => exact wpAny_execs_nil q
  | ret v => exact q
  | brk => exact q
  | cont => exact q
theorem Inv.quiet {pins : List (Addr × Obj)} {σ : St} {H : Hp} {s : Shared} (I : Inv X pins σ H s) : interactive X.env = false := by simp [interactive, I.ok.kind]
def tDrop (te : TE) : TS := fun D σ H => te σ H fun _ H1 => D.nx σ H1
theorem ps_expr (he : PE X e te) (hs : swapsWith e none pos.line X.env = pure false := by rfl) : PS X (.Expr e pos) (tDrop te) := by
  intro pins s σ H D I h
  exact wpAny_Expr_any (thn (he pins s σ H _ I h) fun v s1 ⟨x, H1, I1, r1, q1⟩ => ⟨σ, H1, I1, q1⟩) I.quiet hs
def tRet (te : TE) : TS := fun D σ H => te σ H D.rt
theorem ps_ret (he : PE X e te) : PS X (.Return (some e) pos) (tRet te) := by
  intro pins s σ H D I h
  exact wpAny_Return_some (thn (he pins s σ H _ I h) fun v s1 ⟨x, H1, I1, r1, q1⟩ => ⟨x, σ, H1, I1, r1, q1⟩)
def tRetN : TS := fun D _ H => D.rt .non H
def tIfS (c : TT) (t u : TS) : TS := fun D σ H => c σ H fun b H1 => if b = true then t D σ H1 else u D σ H1
theorem ps_if {c : Expr} {a b : List Stmt} {tc : TT} (hc : PT X c tc) (ha : PSs X a t) (hb : PSs X b u) : PS X (.If c a b pos) (tIfS tc t u) := by
  intro pins s σ H D I h
  refine wpAny_If (thn (hc pins s σ H _ I h) fun d s1 ⟨H1, I1, q1⟩ => ?_)
  cases d with
  | true => exact ha pins s1 σ H1 D I1 q1
  | false => exact hb pins s1 σ H1 D I1 q1
def tNever : TS := fun _ _ _ => False
theorem ps_never : PS X st tNever := fun _ _ _ _ _ _ h => h.elim
end
abbrev TG := V → St → Hp → (St → Hp → Prop) → Prop
abbrev TGs := List V → St → Hp → (St → Hp → Prop) → Prop
def PG (X : Cx) (target : Expr) (t : TG) : Prop :=
  ∀ (pins : List (Addr × Obj)) (s : Shared) (σ : St) (H : Hp) (v : V) (u : Value) (Q : St → Hp → Prop), Inv X pins σ H s → RelV v u → t v σ H Q →
    wpAny (model X.prog X.w) X.A (assign target X.env u) (fun _ s' => ∃ σ' H', Inv X pins σ' H' s' ∧ Q σ' H') X.xe s
def PGs (X : Cx) (ts : List Expr) (t : TGs) : Prop :=
  ∀ (pins : List (Addr × Obj)) (s : Shared) (σ : St) (H : Hp) (vs : List V) (us : List Value) (Q : St → Hp → Prop), Inv X pins σ H s → Vals vs us → t vs σ H Q →
    wpAny (model X.prog X.w) X.A (assignInOrder ((assignEach ts X.env).map (·.2)) us) (fun _ s' => ∃ σ' H', Inv X pins σ' H' s' ∧ Q σ' H') X.xe s
abbrev TSet := V → V → V → Hp → (Hp → Prop) → Prop
def PSet (X : Cx) (t : TSet) : Prop :=
  ∀ (pins : List (Addr × Obj)) (s : Shared) (σ : St) (H : Hp) (o i v : V) (ov iv u : Value) (Q : Hp → Prop), Inv X pins σ H s → RelV o ov → RelV i iv → RelV v u → t o i v H Q →
    wpAny (model X.prog X.w) X.A (setItem ov iv u) (fun _ s' => ∃ H', Inv X pins σ H' s' ∧ Q H') X.xe s
abbrev TIp := V → V → Hp → VK → Prop
def PIp (X : Cx) (op : Operator) (t : TIp) : Prop :=
  ∀ (pins : List (Addr × Obj)) (s : Shared) (σ : St) (H : Hp) (x y : V) (v u : Value) (Q : VK), Inv X pins σ H s → RelV x v → RelV y u → t x y H Q →
    wpAny (model X.prog X.w) X.A (inplaceOp op v u) (EP X pins σ Q) X.xe s
section
variable {X : Cx} {pos : Pos}
def gName (i : Nat) : TG := fun v σ H Q => Q (σ.set i (some v)) H
theorem pg_name {i : Nat} {x : Str} (hN : X.N.Nodup) (hi : X.N[i]? = some x) (hx : Loc X.env.scope x) (hf : X.fn x = true ∨ X.env.scope.names.lookup x = some .local := by first | exact .inl rfl | exact .inr rfl | assumption) : PG X (.Name x pos) (gName i) := by
  intro pins s σ H v u Q I r h
  exact wpAny_assign_Name (store_ok I hN hi hx r (fun s' I' => ⟨_, H, I', h⟩) hf)
def gNil : TGs := fun vs σ H Q => vs = [] ∧ Q σ H
def gCons (t : TG) (u : TGs) : TGs := fun vs σ H Q => ∃ v r, vs = v :: r ∧ t v σ H fun σ' H' => u r σ' H' Q
theorem pgs_nil : PGs X [] gNil := by
  intro pins s σ H vs us Q I r h
  obtain ⟨e, h⟩ := h
  subst e
  cases r
  exact assignInOrder_nil ⟨σ, H, I, h⟩
theorem pgs_cons {e : Expr} {es : List Expr} {t : TG} {u : TGs} (h1 : PG X e t) (h2 : PGs X es u)
    (hs : (assignEach (e :: es) X.env).map (·.2) = assign e X.env :: (assignEach es X.env).map (·.2) := by rfl) : PGs X (e :: es) (gCons t u) := by
  intro pins s σ H vs us Q I r h
  obtain ⟨v, vr, e1, h⟩ := h
  subst e1
  cases r with
  | cons r rr =>
    rw [hs]
    refine assignInOrder_cons (thn (h1 pins s σ H _ _ _ I r h) fun _ s1 ⟨σ1, H1, I1, q1⟩ => ?_)
    exact h2 pins s1 σ1 H1 _ _ Q I1 rr q1
def gTup (K : PySem.W.Frag) (n : Nat) (t : TGs) : TG := fun v σ H Q => ∃ a xs, v = .ref a ∧ SqT K H a xs ∧ xs.length = n ∧ t xs σ H Q
theorem pg_tup {es : List Expr} {k : Nat} {t : TGs} {n : Nat} (hc : X.calm = true) (h : PGs X es t)
    (hn : (assignEach es X.env).length = n := by rfl) (hst : (assignEach es X.env).findIdx? (·.1) = none := by rfl) : PG X (.Tuple es k pos) (gTup X.K n t) := by
  intro pins s σ H v u Q I r hw
  obtain ⟨a, xs, e1, hq, hl, hw⟩ := hw
  subst e1
  cases r
  obtain ⟨its, rv, ht, hz⟩ := I.tuple hq
  refine assign_Tuple_tuple (I.ok.hd hc) ht (by simp [hn, ← hl, rv.length]) hst fun h' hx => ?_
  have I1 : Inv X pins σ H { s with heap := h' } := I.kept (t' := s.toks) fun b o e => hx b o (Nat.ne_of_lt (Heap.lt_size e)) e
  exact h pins _ σ H xs _ Q I1 (by simpa using rv) hw
def gSub (to ti : TE) (t : TSet) : TG := fun v σ H Q => to σ H fun o H1 => ti σ H1 fun i H2 => t o i v H2 fun H3 => Q σ H3
theorem pg_sub {o i : Expr} {to ti : TE} {t : TSet} (ho : PE X o to) (hi : PE X i ti) (hs : PSet X t)
    (ha : ∀ v, assign (.Subscript o i pos) X.env v = (do
      let ov ← holding [v] (eval o X.env)
      let iv ← holding [v, ov] (eval i X.env)
      standAt pos
      holding [v, ov, iv] (setItem ov iv v)
      release [v, ov, iv] []) := by intro _; rfl) : PG X (.Subscript o i pos) (gSub to ti t) := by
  intro pins s σ H v u Q I r h
  rw [ha]
  refine wpAny_bind (wpAny_holding (thn (ho pins s σ H _ I h) fun ov s1 ⟨x, H1, I1, r1, q1⟩ => ?_))
  refine wpAny_bind (wpAny_holding (thn (hi pins s1 σ H1 _ I1 q1) fun iv s2 ⟨y, H2, I2, r2, q2⟩ => ?_))
  refine wpAny_bind (wpAny_standAt (wpAny_bind (wpAny_holding (thn (hs pins s2 σ H2 x y v ov iv u _ I2 r1 r2 r q2) fun _ s3 ⟨H3, I3, q3⟩ => ?_))))
  exact wpAny_release ⟨σ, H3, I3, q3⟩
def tAsg (te : TE) (g : TG) : TS := fun D σ H => te σ H fun x H1 => g x σ H1 D.nx
theorem ps_asg {tg e : Expr} {te : TE} {g : TG} (he : PE X e te) (hg : PG X tg g) (hs : swapsWithSole [tg] e pos.line X.env = pure false := by rfl) (hw : swappedStores [tg] e X.env = pure none := by rfl)
    (h1 : (assignEach [tg] X.env).map (·.2) = [assign tg X.env] := by rfl) : PS X (.Assign [tg] e pos) (tAsg te g) := by
  intro pins s σ H D I h
  refine wpAny_Assign_stores (thn (he pins s σ H _ I h) fun v s1 ⟨x, H1, I1, r1, q1⟩ => ?_) hs hw
  rw [h1]
  exact thn (hg pins s1 σ H1 x v _ I1 r1 q1) fun _ s2 q => q
theorem ps_set {i : Nat} {x : Str} {e : Expr} {te : TE} {pos' : Pos} (hN : X.N.Nodup) (hi : X.N[i]? = some x) (hx : Loc X.env.scope x) (he : PE X e te) (hs : swapsWith e (some (.Name x pos')) pos.line X.env = pure false := by rfl) (hf : X.fn x = true ∨ X.env.scope.names.lookup x = some .local := by first | exact .inl rfl | exact .inr rfl | assumption) :
    PS X (.Assign [.Name x pos'] e pos) (tAsg te (gName i)) := by
  intro pins s σ H D I h
  refine wpAny_Assign_Name (thn (he pins s σ H _ I h) fun v s1 ⟨y, H1, I1, r1, q1⟩ => ?_) hs
  exact store_ok I1 hN hi hx r1 (fun s2 I2 => ⟨_, H1, I2, q1⟩) hf
def tPar (i j : Nat) (ta : TA) : TS := fun D σ H => ta σ H fun vs H1 => ∃ v w, vs = [v, w] ∧ D.nx ((σ.set i (some v)).set j (some w)) H1
def tAug (i : Nat) (te : TE) (ti : TIp) : TS := fun D σ H => ∃ x, σ[i]? = some (some x) ∧ te σ H fun y H1 => ti x y H1 fun z H2 => D.nx (σ.set i (some z)) H2
theorem ps_aug {i : Nat} {x : Str} {e : Expr} {te : TE} {op : Operator} {ti : TIp} {pos' : Pos} (hN : X.N.Nodup) (hi : X.N[i]? = some x) (hx : Loc X.env.scope x) (he : PE X e te) (ho : PIp X op ti) (hf : X.fn x = true ∨ X.env.scope.names.lookup x = some .local := by first | exact .inl rfl | exact .inr rfl | assumption) :
    PS X (.AugAssign (.Name x pos') op e pos) (tAug i te ti) := by
  intro pins s σ H D I h
  obtain ⟨v, e1, h⟩ := h
  obtain ⟨m, hn, hl⟩ := I.loc
  have vis : Vis X.env.scope x := by rcases hx with k | k; exact .inl k; exact .inr (.inl k)
  obtain ⟨u, r, l⟩ := hl i x v hi e1 vis
  refine wpAny_AugAssign_Name ?_
  have go : wpAny (model X.prog X.w) X.A (eval e X.env) (fun w s₂ => wpAny (model X.prog X.w) X.A (inplaceOp op u w) (fun r s₃ => wpAny (model X.prog X.w) X.A (storeName X.env x r) (fun _ => SP X pins D .next) X.xe s₃) X.xe s₂) X.xe s := by
    refine thn (he pins s σ H _ I h) fun w s1 ⟨y, H1, I1, r1, q1⟩ => ?_
    refine thn (ho pins s1 σ H1 v y u w _ I1 r r1 q1) fun z s2 ⟨zv, H2, I2, r2, q2⟩ => ?_
    exact store_ok I2 hN hi hx r2 (fun s3 I3 => ⟨_, H2, I3, q2⟩) hf
  rcases l with ⟨hk, hm⟩ | ⟨hk, c, hc, hcell⟩
  · exact wpAny_loadName_local I.ok.kind hk hn hm go
  · rcases hk with hk | hk
    · exact wpAny_loadName_cell I.ok.kind hk hc hcell go
    · rcases hx with k | k
      · have : X.env.scope.names.lookup x = some .free := hk
        rw [k] at this; cases this
      · have : X.env.scope.names.lookup x = some .free := hk
        rw [k] at this; cases this
end
section
variable {X : Cx} {pos : Pos}
def tWhile (c : TT) (tb : TS) : TS := fun D σ H => ∃ W : Nat → St → Hp → Prop, (∃ m, W m σ H) ∧ ∀ m σ H, W m σ H →
  c σ H fun b H1 => if b = true then ∃ N : St → Hp → Prop, (∀ σ' H', N σ' H' → ∃ m', m' < m ∧ W m' σ' H') ∧ tb { D with nx := N, ct := N, bk := D.nx } σ H1 else D.nx σ H1
theorem ps_while {c : Expr} {body : List Stmt} {tc : TT} {tb : TS} (hp : PassesOwn (model X.prog X.w) X.A X.env X.xe) (hc : PT X c tc) (hb : PSs X body tb) : PS X (.While c body [] pos) (tWhile tc tb) := by
  intro pins s σ H D I h
  obtain ⟨W, ⟨m0, w0⟩, turn⟩ := h
  refine wpAny_While (codeAny_whileLoop (fun n s' => ∃ σ' H', Inv X pins σ' H' s' ∧ W n σ' H') ?_ m0 ⟨σ, H, I, w0⟩)
  rintro n s1 ⟨σ1, H1, I1, w1⟩
  refine wpAny_passesOwn hp (thn (hc pins s1 σ1 H1 _ I1 (turn n σ1 H1 w1)) fun b s2 ⟨H2, I2, q2⟩ => ?_)
  cases b with
  | true =>
    obtain ⟨N, hN, q2⟩ := q2
    rw [if_pos rfl]
    refine wpAny_passesOwn hp (thn (hb pins s2 σ1 H2 _ I2 q2) fun f s3 q3 => ?_)
    cases f with
    | next =>
      obtain ⟨σ3, H3, I3, n3⟩ := q3
      obtain ⟨m', hm, w3⟩ := hN σ3 H3 n3
      exact ⟨m', hm, σ3, H3, I3, w3⟩
    | cont =>
      obtain ⟨σ3, H3, I3, n3⟩ := q3
      obtain ⟨m', hm, w3⟩ := hN σ3 H3 n3
      exact ⟨m', hm, σ3, H3, I3, w3⟩
    | brk => exact q3
    | ret v => exact q3
  | false =>
    rw [if_neg Bool.false_ne_true]
    exact wpAny_execs_nil ⟨σ1, H2, I2, q2⟩
end
structure It where
  go : Nat → Hp → Prop
  yld : Nat → Hp → V → Hp → Prop
  stop : Nat → Hp → Prop
def FpOk (X : Cx) (pins : List (Addr × Obj)) (H : Hp) (b : Addr) : Prop :=
  H b = none ∧ b ≠ X.env.locals ∧ b ∉ X.fs ∧ (b ∈ X.ex ∨ X.s₀.heap.objs.size ≤ b) ∧ (∀ x c, X.env.cells.lookup x = some c → c ≠ b) ∧ ∀ p ∈ X.pn ++ pins, p.1 ≠ b
theorem Inv.fpOk {X : Cx} {pins : List (Addr × Obj)} {σ : St} {H H' : Hp} {s : Shared} {b : Addr} (I : Inv X pins σ H s) (hb : s.heap.objs.size ≤ b) (hn : H' b = none) : FpOk X pins H' b := by
  refine ⟨hn, Nat.ne_of_gt (Nat.lt_of_lt_of_le I.lt hb), I.nofs hb, .inr (Nat.le_trans I.sz hb), fun x c e z => ?_, fun p hp z => ?_⟩
  · obtain ⟨v, q⟩ := I.cell x c e
    exact absurd (Nat.lt_of_lt_of_le q.lt (by rw [z]; exact hb)) (Nat.lt_irrefl _)
  · exact absurd (Nat.lt_of_lt_of_le (Heap.lt_size (I.pin p hp).1) (by rw [z]; exact hb)) (Nat.lt_irrefl _)
structure Turn (P : Program) (w : World) (K : PySem.W.Frag) (tg : Expr) (J : It) (fp : List Addr) (it : Addr) (tn : Nat → Heap → Prop) : Prop where
  mem : it ∈ fp
  obj : ∀ i h, tn i h → ∀ b ∈ fp, ∃ o, h.get? b = some o ∧ ∀ v, o.data ≠ .cell v
  keep : ∀ i h h', tn i h → (∀ b ∈ fp, ∀ o, h.get? b = some o → h'.get? b = some o) → tn i h'
  item : ∀ (X : Cx), X.prog = P → X.w = w → X.K = K → X.calm = true → ∀ (i : Nat) (pins : List (Addr × Obj)) (s : Shared) (σ : St) (H : Hp) (E : Value → Shared → Prop), Inv X pins σ H s → (∀ b ∈ fp, FpOk X pins H b) → tn i s.heap → J.go i H →
    wpAny (model P w) X.A (pyNext (.ref it)) (fun r s1 => ∃ u, r = some u ∧
      wpAny (model P w) X.A (letOwnedTupleGo tg (.ref it) u) (fun _ s2 => ∃ x H', Inv X pins σ H' s2 ∧ RelV x u ∧ J.yld i H x H' ∧ tn (i + 1) s2.heap ∧ ∀ b ∈ fp, H' b = none) E s1) E s
  done : ∀ (X : Cx), X.prog = P → X.w = w → X.K = K → X.calm = true → ∀ (i : Nat) (pins : List (Addr × Obj)) (s : Shared) (σ : St) (H : Hp) (E : Value → Shared → Prop), Inv X pins σ H s → (∀ b ∈ fp, FpOk X pins H b) → tn i s.heap → J.stop i H →
    wpAny (model P w) X.A (pyNext (.ref it)) (fun r s1 => r = none ∧ Inv X pins σ H s1) E s
  self : ∀ (A : Around) (i : Nat) (s : Shared) (Q : Value → Shared → Prop) (E : Value → Shared → Prop), tn i s.heap → Q (.ref it) s → wpAny (model P w) A (pyIter (.ref it)) Q E s
abbrev TI := St → Hp → (It → Hp → Prop) → Prop
def PIE (X : Cx) (pins : List (Addr × Obj)) (σ : St) (tg : Expr) (R : It → Hp → Prop) (itv : Value) (s2 : Shared) : Prop :=
  ∃ (it : Addr) (fp : List Addr) (tn : Nat → Heap → Prop) (J : It) (H' : Hp), itv = .ref it ∧ Inv X pins σ H' s2 ∧ Turn X.prog X.w X.K tg J fp it tn ∧ tn 0 s2.heap ∧ (∀ b ∈ fp, FpOk X pins H' b) ∧ R J H'
def PI (X : Cx) (tg iter : Expr) (wi : TI) : Prop :=
  ∀ (pins : List (Addr × Obj)) (s : Shared) (σ : St) (H : Hp) (R : It → Hp → Prop), Inv X pins σ H s → wi σ H R →
    wpAny (model X.prog X.w) X.A (eval iter X.env) (fun v s1 => wpAny (model X.prog X.w) X.A (pyIter v) (PIE X pins σ tg R) X.xe s1) X.xe s
theorem go_of {M : Model} {A : Around} {E : Value → Shared → Prop} {s : Shared} {tg : Expr} {it : Addr} {u : Value} {o : Obj} {n : String} {vs : Array Value} {Q : Unit → Shared → Prop} (ho : s.heap.get? it = some o) (hc : o.cls = .type n) (hd : o.data = .fields vs)
    (hn : ["enumerate", "zip", "dict_itemiterator", "dict_reverseitemiterator", "odict_iterator", "itertools.zip_longest", "itertools.pairwise"].contains n = false) (hQ : Q () s) : wpAny M A (letOwnedTupleGo tg (.ref it) u) Q E s := by
  unfold letOwnedTupleGo
  cases tg <;> first
    | exact wpAny_pure hQ
    | (cases u <;> first
        | exact wpAny_pure hQ
        | (refine wpAny_bind (wpAny_load ho ?_)
           rw [hc, hd]
           show wpAny M A (if (["enumerate", "zip", "dict_itemiterator", "dict_reverseitemiterator", "odict_iterator", "itertools.zip_longest", "itertools.pairwise"].contains n && vs[0]? == some (rawInt _)) = true then _ else _) Q E s
           rw [if_neg (by intro h; rw [hn, Bool.false_and] at h; cases h)]
           exact wpAny_pure hQ))
def Itl (K : PySem.W.Frag) (a : Addr) : It :=
  ⟨fun i H => ∃ xs x, SqL K H a xs ∧ xs[i]? = some x, fun i H x H' => H' = H ∧ ∀ xs, SqL K H a xs → xs[i]? = some x, fun i H => ∃ xs, SqL K H a xs ∧ xs.length ≤ i⟩
def Itt (K : PySem.W.Frag) (a : Addr) : It :=
  ⟨fun i H => ∃ xs x, SqT K H a xs ∧ xs[i]? = some x, fun i H x H' => H' = H ∧ ∀ xs, SqT K H a xs → xs[i]? = some x, fun i H => ∃ xs, SqT K H a xs ∧ xs.length ≤ i⟩
def Itr (lo : Int) (n : Nat) : It := ⟨fun i _ => i < n, fun i H x H' => H' = H ∧ x = .int (lo + i), fun i _ => n ≤ i⟩
theorem turn_list {P : Program} {w : World} {K : PySem.W.Frag} {tg : Expr} (a it : Addr) : Turn P w K tg (Itl K a) [it] it (fun i h => h.IsListIter it a i) where
  mem := by simp
  obj := fun i h st b hb => by
    have e : b = it := by simpa using hb
    subst e
    obtain ⟨o, e, c, d⟩ := st
    exact ⟨o, e, fun v z => by rw [d] at z; cases z⟩
  keep := fun i h h' st k => st.at fun o e => k it (by simp) o e
  item := by
    intro X hP hw hK hc i pins s σ H E I hf st hg
    subst hP hw hK
    obtain ⟨xs, x, hq, hx⟩ := hg
    obtain ⟨its, rv, p, hz⟩ := I.list hq
    obtain ⟨u, hu, ru⟩ := rv.get hx
    obtain ⟨f0, f1, f2, f3, f4, f5⟩ := hf it (by simp)
    refine wpAny_pyNext_list_item st p.isList (x := u) (by simpa using hu) fun h' st' sb => ?_
    have I1 : Inv X pins σ H { s with heap := h' } := I.turned (t' := s.toks) (fun b o hb e => (sb.2 b hb).trans e) f0 f1 f3 f4 f5
    obtain ⟨o, e, c, d⟩ := id st'
    exact ⟨u, rfl, go_of (s := { s with heap := h' }) e c d (by decide) ⟨x, H, I1, ru, ⟨rfl, fun ys hy => by rw [I.list_inj hy hq]; exact hx⟩, st', fun b hb => (hf b hb).1⟩⟩
  done := by
    intro X hP hw hK hc i pins s σ H E I hf st hg
    subst hP hw hK
    obtain ⟨xs, hq, hx⟩ := hg
    obtain ⟨its, rv, p, hz⟩ := I.list hq
    obtain ⟨f0, f1, f2, f3, f4, f5⟩ := hf it (by simp)
    have hl := rv.length
    exact wpAny_pyNext_list_end (I.ok.hd hc) st p.isList (by simp; omega) fun h' eb => ⟨rfl, I.turned (t' := s.toks) (fun b o hb e => eb b o hb e) f0 f1 f3 f4 f5⟩
  self := fun _ _ _ _ _ st h => wpAny_pyIter_listiter st h
theorem turn_tuple {P : Program} {w : World} {K : PySem.W.Frag} {tg : Expr} (a it : Addr) : Turn P w K tg (Itt K a) [it] it (fun i h => h.IsTupleIter it a i) where
  mem := by simp
  obj := fun i h st b hb => by
    have e : b = it := by simpa using hb
    subst e
    obtain ⟨o, e, c, d⟩ := st
    exact ⟨o, e, fun v z => by rw [d] at z; cases z⟩
  keep := fun i h h' st k => st.at fun o e => k it (by simp) o e
  item := by
    intro X hP hw hK hc i pins s σ H E I hf st hg
    subst hP hw hK
    obtain ⟨xs, x, hq, hx⟩ := hg
    obtain ⟨its, rv, p, hz⟩ := I.tuple hq
    obtain ⟨u, hu, ru⟩ := rv.get hx
    obtain ⟨f0, f1, f2, f3, f4, f5⟩ := hf it (by simp)
    refine wpAny_pyNext_tuple_item st (show s.heap.IsTuple a its.toArray from p) (x := u) (by simpa using hu) fun h' st' sb => ?_
    have I1 : Inv X pins σ H { s with heap := h' } := I.turned (t' := s.toks) (fun b o hb e => (sb.2 b hb).trans e) f0 f1 f3 f4 f5
    obtain ⟨o, e, c, d⟩ := id st'
    exact ⟨u, rfl, go_of (s := { s with heap := h' }) e c d (by decide) ⟨x, H, I1, ru, ⟨rfl, fun ys hy => by rw [I.tuple_inj hy hq]; exact hx⟩, st', fun b hb => (hf b hb).1⟩⟩
  done := by
    intro X hP hw hK hc i pins s σ H E I hf st hg
    subst hP hw hK
    obtain ⟨xs, hq, hx⟩ := hg
    obtain ⟨its, rv, p, hz⟩ := I.tuple hq
    obtain ⟨f0, f1, f2, f3, f4, f5⟩ := hf it (by simp)
    have hl := rv.length
    exact wpAny_pyNext_tuple_end (I.ok.hd hc) st (show s.heap.IsTuple a its.toArray from p) (by simp; omega) fun h' eb => ⟨rfl, I.turned (t' := s.toks) (fun b o hb e => eb b o hb e) f0 f1 f3 f4 f5⟩
  self := fun _ _ _ _ _ st h => wpAny_pyIter_tupleiter st h
theorem turn_range {P : Program} {w : World} {K : PySem.W.Frag} {tg : Expr} (it : Addr) (lo : Int) (n : Nat) : Turn P w K tg (Itr lo n) [it] it (fun i h => IsRangeIter h it (lo + (i : Nat) * 1) ((n : Int) - (i : Nat)) 1) where
  mem := by simp
  obj := fun i h st b hb => by
    have e : b = it := by simpa using hb
    subst e
    exact ⟨_, st, fun v z => by
      have z' : Data.fields _ = Data.cell v := z
      cases z'⟩
  keep := fun i h h' st k => k it (by simp) _ st
  item := by
    intro X hP hw hK hc i pins s σ H E I hf st hg
    subst hP hw hK
    obtain ⟨f0, f1, f2, f3, f4, f5⟩ := hf it (by simp)
    have W := Walks.range (prog := X.prog) (w := X.w) (I.ok.hd hc) it lo 1 n
    refine W.item i s _ _ hg st fun v h' tk hv st' kk => ?_
    obtain ⟨t, rfl⟩ := hv
    have I1 : Inv X pins σ H { s with heap := h', toks := tk } := I.turned (fun b o hb e => kk b o (by simpa using hb) e) f0 f1 f3 f4 f5
    refine ⟨_, rfl, go_of (s := { s with heap := h', toks := tk }) (n := "range_iterator") st' rfl rfl (by decide) ⟨.int (lo + i), H, I1, ⟨t, ?_⟩, ⟨rfl, rfl⟩, st', fun b hb => (hf b hb).1⟩⟩
    rw [Int.mul_one]
  done := by
    intro X hP hw hK hc i pins s σ H E I hf st hg
    subst hP hw hK
    obtain ⟨f0, f1, f2, f3, f4, f5⟩ := hf it (by simp)
    exact wpAny_pyNext_range_end (I.ok.hd hc) st (by have : n ≤ i := hg; omega) fun h' eb => ⟨rfl, I.turned (t' := s.toks) (fun b o hb e => eb b o hb e) f0 f1 f3 f4 f5⟩
  self := fun _ _ _ _ _ st h => wpAny_pyIter_rangeiter st h
end L2
namespace L2
open PySem PySem.Spec PyProof.Rows
section
variable {X : Cx} {tg : Expr}
def iList (K : PySem.W.Frag) (tl : TE) : TI := fun σ H R => tl σ H fun x H1 => ∃ a, x = .ref a ∧ (∃ xs, SqL K H1 a xs) ∧ R (Itl K a) H1
def iTup (K : PySem.W.Frag) (tl : TE) : TI := fun σ H R => tl σ H fun x H1 => ∃ a, x = .ref a ∧ (∃ xs, SqT K H1 a xs) ∧ R (Itt K a) H1
theorem pi_list {l : Expr} {tl : TE} (hl : PE X l tl) : PI X tg l (iList X.K tl) := by
  intro pins s σ H R I h
  refine thn (hl pins s σ H _ I h) fun v s1 ⟨x, H1, I1, r1, q1⟩ => ?_
  obtain ⟨a, e, ⟨xs, hq⟩, q⟩ := q1
  subst e
  cases r1
  obtain ⟨its, rv, p, hz⟩ := I1.list hq
  refine wpAny_pyIter_list p.isList ?_
  refine ⟨s1.heap.objs.size, [s1.heap.objs.size], _, _, H1, rfl, I1.kept (t' := s1.toks) fun b o e => Heap.get?_push_of_some _ e, turn_list a _, ⟨_, Heap.get?_push_size _ rfl, rfl, rfl⟩, fun b hb => ?_, q⟩
  have e : b = s1.heap.objs.size := by simpa using hb
  subst e
  exact I1.fpOk (Nat.le_refl _) (I1.hok.fresh (Nat.le_refl _))
theorem pi_tup {l : Expr} {tl : TE} (hl : PE X l tl) : PI X tg l (iTup X.K tl) := by
  intro pins s σ H R I h
  refine thn (hl pins s σ H _ I h) fun v s1 ⟨x, H1, I1, r1, q1⟩ => ?_
  obtain ⟨a, e, ⟨xs, hq⟩, q⟩ := q1
  subst e
  cases r1
  obtain ⟨its, rv, p, hz⟩ := I1.tuple hq
  refine wpAny_pyIter_tuple (show s1.heap.IsTuple a its.toArray from p) ?_
  refine ⟨s1.heap.objs.size, [s1.heap.objs.size], _, _, H1, rfl, I1.kept (t' := s1.toks) fun b o e => Heap.get?_push_of_some _ e, turn_tuple a _, ⟨_, Heap.get?_push_size _ rfl, rfl, rfl⟩, fun b hb => ?_, q⟩
  have e : b = s1.heap.objs.size := by simpa using hb
  subst e
  exact I1.fpOk (Nat.le_refl _) (I1.hok.fresh (Nat.le_refl _))
theorem range_it {pins : List (Addr × Obj)} {σ : St} {H : Hp} {s : Shared} {R : It → Hp → Prop} {E : Value → Shared → Prop} {lo hi : Int} {t u v : Tok} {tk : Nat} (I : Inv X pins σ H s) (h1 : -(2 ^ 62) ≤ lo) (h2 : lo < 2 ^ 62) (h3 : -(2 ^ 62) ≤ hi) (h4 : hi < 2 ^ 62)
    (q : R (Itr lo (hi - lo).toNat) H) : wpAny (model X.prog X.w) X.A (pyIter (.ref s.heap.objs.size)) (PIE X pins σ tg R) E { s with heap := s.heap.push { cls := .type "range", data := .fields #[.int lo t, .int hi u, .int 1 v] }, toks := tk } := by
  refine wpAny_pyIter_range (IsRange.new ..) (small_one h1 h2 h3 h4) ?_
  have I1 : Inv X pins σ H { s with heap := s.heap.push { cls := .type "range", data := .fields #[.int lo t, .int hi u, .int 1 v] }, toks := tk } := I.kept fun b o e => Heap.get?_push_of_some _ e
  refine ⟨(s.heap.push { cls := .type "range", data := .fields #[.int lo t, .int hi u, .int 1 v] }).objs.size, [(s.heap.push { cls := .type "range", data := .fields #[.int lo t, .int hi u, .int 1 v] }).objs.size], _, _, H, rfl,
    I1.kept (t' := tk) fun b o e => Heap.get?_push_of_some _ e, turn_range _ lo (hi - lo).toNat, ?_, fun b hb => ?_, q⟩
  · have e1 : lo + ((0 : Nat) : Int) * 1 = lo := by simp
    have e2 : (((hi - lo).toNat : Nat) : Int) - ((0 : Nat) : Int) = Builtin.Range.rangeSize lo hi 1 := by rw [rangeSize_one]; split <;> omega
    show IsRangeIter _ _ (lo + ((0 : Nat) : Int) * 1) ((((hi - lo).toNat : Nat) : Int) - ((0 : Nat) : Int)) 1
    rw [e1, e2]
    exact Heap.get?_push_size _ rfl
  · have e : b = (s.heap.push { cls := .type "range", data := .fields #[.int lo t, .int hi u, .int 1 v] }).objs.size := by simpa using hb
    subst e
    exact I1.fpOk (Nat.le_refl _) (I1.hok.fresh (Nat.le_refl _))
def iRng1 (ta : TA) : TI := fun σ H R => ta σ H fun vs H1 => ∃ j : Int, vs = [.int j] ∧ -(2 ^ 62) ≤ j ∧ j < 2 ^ 62 ∧ R (Itr 0 j.toNat) H1
def iRng2 (ta : TA) : TI := fun σ H R => ta σ H fun vs H1 => ∃ i j : Int, vs = [.int i, .int j] ∧ (-(2 ^ 62) ≤ i ∧ i < 2 ^ 62 ∧ -(2 ^ 62) ≤ j ∧ j < 2 ^ 62) ∧ R (Itr i (j - i).toNat) H1
theorem pi_range1 {a : Expr} {ta : TA} {p pos : Pos} (hg : Gl X "range") (hm : X.mg "range" = none) (ha : PA X [a] ta) (hs : starEach [a] X.env = [(false, eval a X.env)] := by rfl) : PI X tg (.Call (.Name "range" p) [a] [] pos) (iRng1 ta) := by
  intro pins s σ H R I h
  refine Call_ (ld_blt I hg hm boot_range (PyProof.Rows.callWith_type1 (thn (ha pos pins s σ H _ I h) fun us s1 ⟨vs, H1, I1, r1, q1⟩ => ?_) hs rfl))
  obtain ⟨j, e, q1, q2, q⟩ := q1
  subst e
  cases r1 with
  | cons r rr =>
    cases rr
    obtain ⟨t, rfl⟩ := r
    exact call_range_1 (range_it I1 (by omega) (by omega) q1 q2 (by simpa using q))
def tFor (wi : TI) (g : TG) (tb : TS) : TS := fun D σ H => wi σ H fun J H1 => ∃ W : Nat → Nat → St → Hp → Prop, (∃ m, W 0 m σ H1) ∧ ∀ i m σ H, W i m σ H →
  (J.stop i H ∧ D.nx σ H) ∨ (J.go i H ∧ ∃ N : St → Hp → Prop, (∀ σ' H', N σ' H' → ∃ m', m' < m ∧ W (i + 1) m' σ' H') ∧ ∀ x H', J.yld i H x H' → g x σ H' fun σ2 H2 => tb { D with nx := N, ct := N, bk := D.nx } σ2 H2)
def pinsAt (fp : List Addr) (h : Heap) : List (Addr × Obj) := fp.filterMap fun b => (h.get? b).map fun o => (b, o)
theorem mem_pinsAt {fp : List Addr} {h : Heap} {b : Addr} {o : Obj} (hb : b ∈ fp) (e : h.get? b = some o) : (b, o) ∈ pinsAt fp h := List.mem_filterMap.mpr ⟨b, hb, by rw [e]; rfl⟩
theorem of_pinsAt {fp : List Addr} {h : Heap} {p : Addr × Obj} (hp : p ∈ pinsAt fp h) : p.1 ∈ fp ∧ h.get? p.1 = some p.2 := by
  obtain ⟨b, hb, e⟩ := List.mem_filterMap.mp hp
  cases q : h.get? b with
  | none => rw [q] at e; cases e
  | some o =>
    rw [q] at e
    have e' : (b, o) = p := Option.some.inj e
    subst e'
    exact ⟨hb, q⟩
theorem Inv.pinned {pins : List (Addr × Obj)} {σ : St} {H : Hp} {s : Shared} {fp : List Addr} (I : Inv X pins σ H s) (hf : ∀ b ∈ fp, FpOk X pins H b) (ho : ∀ b ∈ fp, ∃ o, s.heap.get? b = some o ∧ ∀ v, o.data ≠ .cell v) : Inv X (pins ++ pinsAt fp s.heap) σ H s :=
  I.pins_of fun p hp => (List.mem_append.mp hp).elim (fun z => I.pin p (List.mem_append_right _ z)) fun z => by
    obtain ⟨hb, e⟩ := of_pinsAt z
    obtain ⟨f0, f1, f2, _⟩ := hf p.1 hb
    obtain ⟨o, e', d⟩ := ho p.1 hb
    rw [e] at e'; cases e'
    exact ⟨e, f0, f1, f2, d⟩
theorem Inv.unpinned {pins pl : List (Addr × Obj)} {σ : St} {H : Hp} {s : Shared} (I : Inv X (pins ++ pl) σ H s) : Inv X pins σ H s := I.pins_of fun p hp => I.pin p (List.mem_append_right _ (List.mem_append_left _ hp))
theorem ps_for {iter : Expr} {body : List Stmt} {wi : TI} {g : TG} {tb : TS} {pos : Pos} (hp : PassesOwn (model X.prog X.w) X.A X.env X.xe) (hc : X.calm = true) (hi : PI X tg iter wi) (hg : PG X tg g) (hb : PSs X body tb)
    (hs : ∀ x, foldedSetIterable iter X.env x = pure x := by intro _; rfl) : PS X (.For tg iter body [] pos) (tFor wi g tb) := by
  intro pins s σ H D I h
  refine wpAny_For (thn (hi pins s σ H _ I h) fun v s1 h1 => thn h1 fun itv s2 h2 => ?_) hs
  obtain ⟨it, fp, tn, J, H2, e, I2, T, st2, f2, W, ⟨m0, w0⟩, turn⟩ := h2
  subst e
  -- what stays true of the iterator's objects through the loop
  have stat : ∀ {H' : Hp}, (∀ b ∈ fp, H' b = none) → ∀ b ∈ fp, FpOk X pins H' b := fun hn b hb => ⟨hn b hb, (f2 b hb).2⟩
  refine codeAny_forLoop_any (fun n s' => ∃ i σ' H', Inv X pins σ' H' s' ∧ tn i s'.heap ∧ (∀ b ∈ fp, H' b = none) ∧ W i n σ' H') ?_ m0 ⟨0, σ, H2, I2, st2, fun b hb => (f2 b hb).1, w0⟩
  rintro n s3 ⟨i, σ3, H3, I3, st3, fr3, w3⟩
  rcases turn i n σ3 H3 w3 with ⟨stop, qn⟩ | ⟨go, N, hN, step⟩
  · refine wpAny_passesOwn hp (thn (T.done X rfl rfl rfl hc i pins s3 σ3 H3 X.xe I3 (stat fr3) st3 stop) fun r s4 ⟨hr, I4⟩ => ?_)
    subst hr
    exact wpAny_execs_nil ⟨σ3, H3, I4, qn⟩
  · refine wpAny_passesOwn hp (thn (T.item X rfl rfl rfl hc i pins s3 σ3 H3 X.xe I3 (stat fr3) st3 go) fun r s4 ⟨u, hr, h4⟩ => ?_)
    subst hr
    refine wpAny_passesOwn hp (thn h4 fun _ s5 ⟨x, H5, I5, r5, y5, st5, fr5⟩ => ?_)
    have I5' := I5.pinned (stat fr5) (T.obj _ _ st5)
    refine wpAny_passesOwn hp (thn (hg _ s5 σ3 H5 x u _ I5' r5 (step x H5 y5)) fun _ s6 ⟨σ6, H6, I6, q6⟩ => ?_)
    refine wpAny_passesOwn hp (thn (hb _ s6 σ6 H6 _ I6 q6) fun f s7 q7 => ?_)
    have again : ∀ {σ7 : St} {H7 : Hp}, Inv X (pins ++ pinsAt fp s5.heap) σ7 H7 s7 → N σ7 H7 → ∃ m, m < n ∧ ∃ i σ' H', Inv X pins σ' H' s7 ∧ tn i s7.heap ∧ (∀ b ∈ fp, H' b = none) ∧ W i m σ' H' := fun {σ7 H7} I7 n7 => by
      obtain ⟨m', hm, w7⟩ := hN σ7 H7 n7
      refine ⟨m', hm, i + 1, σ7, H7, I7.unpinned, T.keep _ _ _ st5 fun b hb o e => (I7.pin (b, o) (List.mem_append_right _ (List.mem_append_right _ (mem_pinsAt hb e)))).1, fun b hb => ?_, w7⟩
      obtain ⟨o, e, d⟩ := T.obj _ _ st5 b hb
      exact (I7.pin (b, o) (List.mem_append_right _ (List.mem_append_right _ (mem_pinsAt hb e)))).2.1
    cases f with
    | next => obtain ⟨σ7, H7, I7, n7⟩ := q7; exact again I7 n7
    | cont => obtain ⟨σ7, H7, I7, n7⟩ := q7; exact again I7 n7
    | brk => obtain ⟨σ7, H7, I7, q7⟩ := q7; exact ⟨σ7, H7, I7.unpinned, q7⟩
    | ret v => obtain ⟨x7, σ7, H7, I7, r7, q7⟩ := q7; exact ⟨x7, σ7, H7, I7.unpinned, r7, q7⟩
end
theorem for_list {K : PySem.W.Frag} {a : Addr} {xs : List V} {g : TG} {tb : TS} {D : Ends} {σ : St} {H : Hp} (Pv : Nat → St → Hp → Prop) (h0 : Pv 0 σ H) (hl : ∀ i σ H, i ≤ xs.length → Pv i σ H → SqL K H a xs)
    (hs : ∀ i x σ H, xs[i]? = some x → Pv i σ H → g x σ H fun σ2 H2 => tb { D with nx := Pv (i + 1), ct := Pv (i + 1), bk := D.nx } σ2 H2) (hd : ∀ σ H, Pv xs.length σ H → D.nx σ H) :
    ∃ W : Nat → Nat → St → Hp → Prop, (∃ m, W 0 m σ H) ∧ ∀ i m σ H, W i m σ H →
      ((Itl K a).stop i H ∧ D.nx σ H) ∨ ((Itl K a).go i H ∧ ∃ N : St → Hp → Prop, (∀ σ' H', N σ' H' → ∃ m', m' < m ∧ W (i + 1) m' σ' H') ∧ ∀ x H', (Itl K a).yld i H x H' → g x σ H' fun σ2 H2 => tb { D with nx := N, ct := N, bk := D.nx } σ2 H2) := by
  refine ⟨fun i m σ H => m = xs.length - i ∧ i ≤ xs.length ∧ Pv i σ H, ⟨xs.length, by simp, Nat.zero_le _, h0⟩, ?_⟩
  rintro i m σ H ⟨rfl, hi, p⟩
  have q := hl i σ H hi p
  by_cases hlt : i < xs.length
  · refine .inr ⟨⟨xs, xs[i], q, by simp [hlt]⟩, Pv (i + 1), fun σ' H' p' => ⟨xs.length - (i + 1), by omega, rfl, hlt, p'⟩, fun x H' y => ?_⟩
    obtain ⟨e, y⟩ := y
    subst e
    exact hs i x σ _ (y xs q) p
  · have e : i = xs.length := by omega
    subst e
    exact .inl ⟨⟨xs, q, Nat.le_refl _⟩, hd σ H p⟩
theorem for_tup {K : PySem.W.Frag} {a : Addr} {xs : List V} {g : TG} {tb : TS} {D : Ends} {σ : St} {H : Hp} (Pv : Nat → St → Hp → Prop) (h0 : Pv 0 σ H) (hl : ∀ i σ H, i ≤ xs.length → Pv i σ H → SqT K H a xs)
    (hs : ∀ i x σ H, xs[i]? = some x → Pv i σ H → g x σ H fun σ2 H2 => tb { D with nx := Pv (i + 1), ct := Pv (i + 1), bk := D.nx } σ2 H2) (hd : ∀ σ H, Pv xs.length σ H → D.nx σ H) :
    ∃ W : Nat → Nat → St → Hp → Prop, (∃ m, W 0 m σ H) ∧ ∀ i m σ H, W i m σ H →
      ((Itt K a).stop i H ∧ D.nx σ H) ∨ ((Itt K a).go i H ∧ ∃ N : St → Hp → Prop, (∀ σ' H', N σ' H' → ∃ m', m' < m ∧ W (i + 1) m' σ' H') ∧ ∀ x H', (Itt K a).yld i H x H' → g x σ H' fun σ2 H2 => tb { D with nx := N, ct := N, bk := D.nx } σ2 H2) := by
  refine ⟨fun i m σ H => m = xs.length - i ∧ i ≤ xs.length ∧ Pv i σ H, ⟨xs.length, by simp, Nat.zero_le _, h0⟩, ?_⟩
  rintro i m σ H ⟨rfl, hi, p⟩
  have q := hl i σ H hi p
  by_cases hlt : i < xs.length
  · refine .inr ⟨⟨xs, xs[i], q, by simp [hlt]⟩, Pv (i + 1), fun σ' H' p' => ⟨xs.length - (i + 1), by omega, rfl, hlt, p'⟩, fun x H' y => ?_⟩
    obtain ⟨e, y⟩ := y
    subst e
    exact hs i x σ _ (y xs q) p
  · have e : i = xs.length := by omega
    subst e
    exact .inl ⟨⟨xs, q, Nat.le_refl _⟩, hd σ H p⟩
theorem for_range {lo : Int} {n : Nat} {g : TG} {tb : TS} {D : Ends} {σ : St} {H : Hp} (Pv : Nat → St → Hp → Prop) (h0 : Pv 0 σ H)
    (hs : ∀ i σ H, i < n → Pv i σ H → g (.int (lo + i)) σ H fun σ2 H2 => tb { D with nx := Pv (i + 1), ct := Pv (i + 1), bk := D.nx } σ2 H2) (hd : ∀ σ H, Pv n σ H → D.nx σ H) :
    ∃ W : Nat → Nat → St → Hp → Prop, (∃ m, W 0 m σ H) ∧ ∀ i m σ H, W i m σ H →
      ((Itr lo n).stop i H ∧ D.nx σ H) ∨ ((Itr lo n).go i H ∧ ∃ N : St → Hp → Prop, (∀ σ' H', N σ' H' → ∃ m', m' < m ∧ W (i + 1) m' σ' H') ∧ ∀ x H', (Itr lo n).yld i H x H' → g x σ H' fun σ2 H2 => tb { D with nx := N, ct := N, bk := D.nx } σ2 H2) := by
  refine ⟨fun i m σ H => m = n - i ∧ i ≤ n ∧ Pv i σ H, ⟨n, by simp, Nat.zero_le _, h0⟩, ?_⟩
  rintro i m σ H ⟨rfl, hi, p⟩
  by_cases hlt : i < n
  · refine .inr ⟨hlt, Pv (i + 1), fun σ' H' p' => ⟨n - (i + 1), by omega, rfl, hlt, p'⟩, fun x H' y => ?_⟩
    obtain ⟨e, y⟩ := y
    subst e y
    exact hs i σ _ hlt p
  · have e : i = n := by omega
    subst e
    exact .inl ⟨Nat.le_refl _, hd σ H p⟩
end L2
namespace L2
open PySem PySem.Spec PyProof.Rows
abbrev R2 := V → V → Hp → VK → Prop
def OpR (X : Cx) (f : Value → Value → Sem Value) (r : R2) : Prop :=
  ∀ (pins : List (Addr × Obj)) (s : Shared) (σ : St) (H : Hp) (x y : V) (v u : Value) (Q : VK), Inv X pins σ H s → RelV x v → RelV y u → r x y H Q →
    wpAny (model X.prog X.w) X.A (f v u) (EP X pins σ Q) X.xe s
def UnR (X : Cx) (f : Value → Sem Value) (r : V → Hp → VK → Prop) : Prop :=
  ∀ (pins : List (Addr × Obj)) (s : Shared) (σ : St) (H : Hp) (x : V) (v : Value) (Q : VK), Inv X pins σ H s → RelV x v → r x H Q →
    wpAny (model X.prog X.w) X.A (f v) (EP X pins σ Q) X.xe s
def CallR (X : Cx) (f : Value) (r : List V → Hp → VK → Prop) : Prop :=
  ∀ (pins : List (Addr × Obj)) (s : Shared) (σ : St) (H : Hp) (xs : List V) (us : List Value) (Q : VK), Inv X pins σ H s → Vals xs us → r xs H Q →
    wpAny (model X.prog X.w) X.A (call f us) (EP X pins σ Q) X.xe s
def tOp (r : R2) (ta tb : TE) : TE := fun σ H Q => ta σ H fun x H1 => tb σ H1 fun y H2 => r x y H2 Q
def tUn (r : V → Hp → VK → Prop) (ta : TE) : TE := fun σ H Q => ta σ H fun x H1 => r x H1 Q
def rI (C : Int → Int → Prop) (g : Int → Int → V) : R2 := fun x y H Q => ∃ i j, x = .int i ∧ y = .int j ∧ C i j ∧ Q (g i j) H
def rI0 (g : Int → Int → V) : R2 := fun x y H Q => ∃ i j, x = .int i ∧ y = .int j ∧ Q (g i j) H
def rU (g : Int → V) : V → Hp → VK → Prop := fun x H Q => ∃ i, x = .int i ∧ Q (g i) H
section
variable {X : Cx} {a b c : Expr} {ta tb tc : TE} {pos : Pos}
theorem binT (ha : PE X a ta) (hb : PE X b tb) {pins : List (Addr × Obj)} {s : Shared} {σ : St} {H : Hp} {R : V → V → Hp → Prop} (I : Inv X pins σ H s)
    (h : ta σ H fun x H1 => tb σ H1 fun y H2 => R x y H2) {Q : Value → Shared → Prop} {f : Value → Value → Sem Value}
    (hf : ∀ v u s2 x y H2, Inv X pins σ H2 s2 → RelV x v → RelV y u → R x y H2 → wpAny (model X.prog X.w) X.A (f v u) Q X.xe s2) :
    wpAny (model X.prog X.w) X.A (eval a X.env) (fun v s₁ => wpAny (model X.prog X.w) X.A (eval b X.env) (fun u s₂ => wpAny (model X.prog X.w) X.A (f v u) Q X.xe s₂) X.xe s₁) X.xe s := by
  refine thn (ha pins s σ H _ I h) fun v s1 ⟨x, H1, I1, r1, q1⟩ => ?_
  refine thn (hb pins s1 σ H1 _ I1 q1) fun u s2 ⟨y, H2, I2, r2, q2⟩ => ?_
  exact hf v u s2 x y H2 I2 r1 r2 q2
theorem pe_op {op : Operator} {r : R2} (ho : OpR X (binaryOp op) r) (ha : PE X a ta) (hb : PE X b tb) : PE X (.BinOp a op b pos) (tOp r ta tb) := by
  intro pins s σ H Q I h
  exact wpAny_BinOp (binT ha hb I h fun v u s2 x y H2 I2 rx ry q => ho pins s2 σ H2 x y v u Q I2 rx ry q)
theorem pe_un {op : UnaryOp} {r : V → Hp → VK → Prop} (ho : UnR X (unaryOp op) r) (ha : PE X a ta) : PE X (.UnaryOp op a pos) (tUn r ta) := by
  intro pins s σ H Q I h
  exact UnaryOp_ (thn (ha pins s σ H _ I h) fun v s1 ⟨x, H1, I1, r1, q1⟩ => ho pins s1 σ H1 x v Q I1 r1 q1)
theorem opI {f : Value → Value → Sem Value} {C : Int → Int → Prop} {g : Int → Int → Int}
    (rule : ∀ (i j : Int) (t u : Tok) (s : Shared) (Q : Value → Shared → Prop) (E : Value → Shared → Prop), C i j → Q (.int (g i j) s.toks) { s with toks := s.toks + 1 } → wpAny (model X.prog X.w) X.A (f (.int i t) (.int j u)) Q E s) :
    OpR X f (rI C fun i j => .int (g i j)) := by
  intro pins s σ H x y v u Q I rx ry h
  obtain ⟨i, j, rfl, rfl, hc, q⟩ := h
  obtain ⟨t, rfl⟩ := rx
  obtain ⟨t', rfl⟩ := ry
  exact rule i j t t' s _ _ hc ⟨.int (g i j), H, I.tok _, ⟨_, rfl⟩, q⟩
theorem opI0 {f : Value → Value → Sem Value} {g : Int → Int → Int}
    (rule : ∀ (i j : Int) (t u : Tok) (s : Shared) (Q : Value → Shared → Prop) (E : Value → Shared → Prop), Q (.int (g i j) s.toks) { s with toks := s.toks + 1 } → wpAny (model X.prog X.w) X.A (f (.int i t) (.int j u)) Q E s) :
    OpR X f (rI0 fun i j => .int (g i j)) := by
  intro pins s σ H x y v u Q I rx ry h
  obtain ⟨i, j, rfl, rfl, q⟩ := h
  obtain ⟨t, rfl⟩ := rx
  obtain ⟨t', rfl⟩ := ry
  exact rule i j t t' s _ _ ⟨.int (g i j), H, I.tok _, ⟨_, rfl⟩, q⟩
theorem opB0 {f : Value → Value → Sem Value} {g : Int → Int → Bool}
    (rule : ∀ (i j : Int) (t u : Tok) (s : Shared) (Q : Value → Shared → Prop) (E : Value → Shared → Prop), Q (.bool (g i j)) s → wpAny (model X.prog X.w) X.A (f (.int i t) (.int j u)) Q E s) :
    OpR X f (rI0 fun i j => .bl (g i j)) := by
  intro pins s σ H x y v u Q I rx ry h
  obtain ⟨i, j, rfl, rfl, q⟩ := h
  obtain ⟨t, rfl⟩ := rx
  obtain ⟨t', rfl⟩ := ry
  exact rule i j t t' s _ _ ⟨.bl (g i j), H, I, rfl, q⟩
def CPow (i j : Int) : Prop := 0 ≤ j ∧ j ≤ 1000000 ∧ i.natAbs < 2 ^ 64
def CMul (i j : Int) : Prop := (-(2 ^ 64) < i ∧ i < 2 ^ 64) ∨ (-(2 ^ 64) < j ∧ j < 2 ^ 64)
theorem CMul.ok {i j : Int} (h : CMul i j) : IntMulOk i j := by
  rcases h with ⟨h1, h2⟩ | ⟨h1, h2⟩
  · exact .of_left (intBits_le_64 h1 h2)
  · exact .of_right (intBits_le_64 h1 h2)
theorem op_add : OpR X (binaryOp .Add) (rI0 fun i j => .int (i + j)) := opI0 fun _ _ _ _ _ _ _ q => add_int q
theorem op_sub : OpR X (binaryOp .Sub) (rI0 fun i j => .int (i - j)) := opI0 fun _ _ _ _ _ _ _ q => sub_int q
theorem op_mod : OpR X (binaryOp .Mod) (rI (fun _ j => 0 < j) fun i j => .int (i % j)) := opI fun i j _ _ _ _ _ hc q => by
  have h1 : (0 : Int) < j := hc
  exact mod_int' (by omega) (by rw [Int.fmod_eq_emod_of_nonneg i (by omega)]; exact q)
theorem op_pow : OpR X (binaryOp .Pow) (rI CPow fun i j => .int (i ^ j.toNat)) := opI fun _ _ _ _ _ _ _ hc q => pow_int_small hc.1 hc.2.1 hc.2.2 q
theorem iop_add : OpR X (inplaceOp .Add) (rI0 fun i j => .int (i + j)) := opI0 fun _ _ _ _ _ _ _ q => iadd_int q
theorem iop_mul : OpR X (inplaceOp .Mult) (rI CMul fun i j => .int (i * j)) := opI fun _ _ _ _ _ _ _ hc q => imul_int q hc.ok
theorem unI {f : Value → Sem Value} {g : Int → Int}
    (rule : ∀ (i : Int) (t : Tok) (s : Shared) (Q : Value → Shared → Prop) (E : Value → Shared → Prop), Q (.int (g i) s.toks) { s with toks := s.toks + 1 } → wpAny (model X.prog X.w) X.A (f (.int i t)) Q E s) :
    UnR X f (rU fun i => .int (g i)) := by
  intro pins s σ H x v Q I rx h
  obtain ⟨i, rfl, q⟩ := h
  obtain ⟨t, rfl⟩ := rx
  exact rule i t s _ _ ⟨.int (g i), H, I.tok _, ⟨_, rfl⟩, q⟩
theorem un_neg : UnR X (unaryOp .USub) (rU fun i => .int (-i)) := unI fun _ _ _ _ _ q => neg_int q
end
def scal : V → V → Bool
  | .non, .non => true | .non, .int _ => true | .int _, .non => true | .non, .bl _ => true | .bl _, .non => true | .non, .str _ => true | .str _, .non => true
  | .int _, .int _ => true | .bl _, .bl _ => true | .str _, .str _ => true | .byt _, .byt _ => true
  | .int _, .str _ => true | .str _, .int _ => true | .bl _, .str _ => true | .str _, .bl _ => true
  | _, _ => false
def rEq : R2 := fun x y H Q => scal x y = true ∧ Q (.bl (decide (x = y))) H
def rNe : R2 := fun x y H Q => scal x y = true ∧ Q (.bl (!decide (x = y))) H
theorem dec_int {i j : Int} : decide (V.int i = V.int j) = (i == j) := by
  rw [Bool.eq_iff_iff]
  simp
theorem dec_bl {i j : Bool} : decide (V.bl i = V.bl j) = (i == j) := by
  rw [Bool.eq_iff_iff]
  simp
theorem dec_str {i j : Str} : decide (V.str i = V.str j) = (i == j) := by
  rw [Bool.eq_iff_iff]
  simp
theorem dec_byt {i j : Array UInt8} : decide (V.byt i = V.byt j) = (i.toList == j.toList) := by
  rw [Bool.eq_iff_iff]
  cases i
  cases j
  simp
section
variable {X : Cx} {a b c : Expr} {ta tb tc : TE} {pos : Pos}
theorem fin_bl {pins : List (Addr × Obj)} {σ : St} {H : Hp} {s : Shared} {Q : VK} {k k' : Bool} (I : Inv X pins σ H s) (q : Q (.bl k) H) (e : k = k') : EP X pins σ Q (.bool k') s := by
  subst e
  exact ⟨.bl k, H, I, rfl, q⟩
theorem op_eq : OpR X (compareOp .Eq) rEq := by
  intro pins s σ H x y v u Q I rx ry h
  obtain ⟨hs, q⟩ := h
  cases x with
  | non =>
    cases rx
    cases y with
    | non => cases ry; exact PySem.EqNone.eq_none_none (fin_bl I q (by simp))
    | bl j => cases ry; exact PySem.EqNone.eq_none_bool (fin_bl I q (by simp))
    | int j => obtain ⟨t', rfl⟩ := ry; exact PySem.EqNone.eq_none_int (fin_bl I q (by simp))
    | str j => obtain ⟨t', rfl⟩ := ry; exact PySem.EqNone.eq_none_str (fin_bl I q (by simp))
    | _ => exact absurd (show false = true from hs) Bool.false_ne_true
  | bl i =>
    cases rx
    cases y with
    | non => cases ry; exact PySem.EqNone.eq_bool_none (fin_bl I q (by simp))
    | bl j => cases ry; exact eq_bool (fin_bl I q dec_bl)
    | str j => obtain ⟨t', rfl⟩ := ry; exact PySem.EqMixed.eq_bool_str (fin_bl I q (by simp))
    | _ => exact absurd (show false = true from hs) Bool.false_ne_true
  | int i =>
    obtain ⟨t, rfl⟩ := rx
    cases y with
    | non => cases ry; exact PySem.EqNone.eq_int_none (fin_bl I q (by simp))
    | int j => obtain ⟨t', rfl⟩ := ry; exact eq_int (fin_bl I q dec_int)
    | str j => obtain ⟨t', rfl⟩ := ry; exact PySem.EqMixed.eq_int_str (fin_bl I q (by simp))
    | _ => exact absurd (show false = true from hs) Bool.false_ne_true
  | str i =>
    obtain ⟨t, rfl⟩ := rx
    cases y with
    | non => cases ry; exact PySem.EqNone.eq_str_none (fin_bl I q (by simp))
    | bl j => cases ry; exact PySem.EqMixed.eq_str_bool (fin_bl I q (by simp))
    | int j => obtain ⟨t', rfl⟩ := ry; exact PySem.EqMixed.eq_str_int (fin_bl I q (by simp))
    | str j => obtain ⟨t', rfl⟩ := ry; exact eq_str (fin_bl I q dec_str)
    | _ => exact absurd (show false = true from hs) Bool.false_ne_true
  | byt i =>
    obtain ⟨t, rfl⟩ := rx
    cases y with
    | byt j => obtain ⟨t', rfl⟩ := ry; exact PySem.W.eq_bytes (fin_bl I q dec_byt)
    | _ => exact absurd (show false = true from hs) Bool.false_ne_true
  | _ => cases y <;> exact absurd (show false = true from hs) Bool.false_ne_true
theorem op_ne : OpR X (compareOp .NotEq) rNe := by
  intro pins s σ H x y v u Q I rx ry h
  obtain ⟨hs, q⟩ := h
  cases x with
  | non =>
    cases rx
    cases y with
    | non => cases ry; exact PySem.EqNone.ne_none_none (fin_bl I q (by simp))
    | bl j => cases ry; exact PySem.EqNone.ne_none_bool (fin_bl I q (by simp))
    | int j => obtain ⟨t', rfl⟩ := ry; exact PySem.EqNone.ne_none_int (fin_bl I q (by simp))
    | str j => obtain ⟨t', rfl⟩ := ry; exact PySem.EqNone.ne_none_str (fin_bl I q (by simp))
    | _ => exact absurd (show false = true from hs) Bool.false_ne_true
  | bl i =>
    cases rx
    cases y with
    | non => cases ry; exact PySem.EqNone.ne_bool_none (fin_bl I q (by simp))
    | bl j => cases ry; exact ne_bool (fin_bl I q (congrArg not dec_bl))
    | str j => obtain ⟨t', rfl⟩ := ry; exact PySem.EqMixed.ne_bool_str (fin_bl I q (by simp))
    | _ => exact absurd (show false = true from hs) Bool.false_ne_true
  | int i =>
    obtain ⟨t, rfl⟩ := rx
    cases y with
    | non => cases ry; exact PySem.EqNone.ne_int_none (fin_bl I q (by simp))
    | int j => obtain ⟨t', rfl⟩ := ry; exact ne_int (fin_bl I q (congrArg not dec_int))
    | str j => obtain ⟨t', rfl⟩ := ry; exact PySem.EqMixed.ne_int_str (fin_bl I q (by simp))
    | _ => exact absurd (show false = true from hs) Bool.false_ne_true
  | str i =>
    obtain ⟨t, rfl⟩ := rx
    cases y with
    | non => cases ry; exact PySem.EqNone.ne_str_none (fin_bl I q (by simp))
    | bl j => cases ry; exact PySem.EqMixed.ne_str_bool (fin_bl I q (by simp))
    | int j => obtain ⟨t', rfl⟩ := ry; exact PySem.EqMixed.ne_str_int (fin_bl I q (by simp))
    | str j => obtain ⟨t', rfl⟩ := ry; exact ne_str (fin_bl I q (congrArg not dec_str))
    | _ => exact absurd (show false = true from hs) Bool.false_ne_true
  | byt i =>
    obtain ⟨t, rfl⟩ := rx
    cases y with
    | byt j => obtain ⟨t', rfl⟩ := ry; exact PySem.W.ne_bytes (fin_bl I q (congrArg not dec_byt))
    | _ => exact absurd (show false = true from hs) Bool.false_ne_true
  | _ => cases y <;> exact absurd (show false = true from hs) Bool.false_ne_true
theorem op_lt : OpR X (compareOp .Lt) (rI0 fun i j => .bl (decide (i < j))) := opB0 fun _ _ _ _ _ _ _ q => lt_int q
theorem op_le : OpR X (compareOp .LtE) (rI0 fun i j => .bl (decide (i ≤ j))) := opB0 fun _ _ _ _ _ _ _ q => le_int q
theorem op_gt : OpR X (compareOp .Gt) (rI0 fun i j => .bl (decide (j < i))) := opB0 fun _ _ _ _ _ _ _ q => gt_int q
theorem op_ge : OpR X (compareOp .GtE) (rI0 fun i j => .bl (decide (j ≤ i))) := opB0 fun _ _ _ _ _ _ _ q => ge_int q
theorem op_isN : OpR X (compareOp .Is) (fun x y H Q => y = .non ∧ Q (.bl (decide (x = .non))) H) := by
  intro pins s σ H x y v u Q I rx ry h
  obtain ⟨rfl, q⟩ := h
  cases ry
  refine is_none_gen (fin_bl I q ?_)
  cases x <;> first
    | (cases rx; rfl)
    | (obtain ⟨t, rfl⟩ := rx; rfl)
theorem op_notN : OpR X (compareOp .IsNot) (fun x y H Q => y = .non ∧ Q (.bl (!decide (x = .non))) H) := by
  intro pins s σ H x y v u Q I rx ry h
  obtain ⟨rfl, q⟩ := h
  cases ry
  refine isnot_none_gen (fin_bl I q ?_)
  cases x <;> first
    | (cases rx; rfl)
    | (obtain ⟨t, rfl⟩ := rx; rfl)
theorem OpR.or {f : Value → Value → Sem Value} {r r' : R2} (h : OpR X f r) (h' : OpR X f r') : OpR X f (fun x y H Q => r x y H Q ∨ r' x y H Q) := by
  intro pins s σ H x y v u Q I rx ry q
  rcases q with q | q
  · exact h pins s σ H x y v u Q I rx ry q
  · exact h' pins s σ H x y v u Q I rx ry q
theorem nomark (b : Expr) {op : CmpOp} (h : op ≠ .In := by decide) (h2 : op ≠ .NotIn := by decide) : behindInMarks op b = false := by
  have e1 : (op == CmpOp.In) = false := by cases op <;> first | rfl | exact absurd rfl h
  have e2 : (op == CmpOp.NotIn) = false := by cases op <;> first | rfl | exact absurd rfl h2
  cases b <;> simp [behindInMarks, e1, e2]
theorem pe_cmpR {op : CmpOp} {r : R2} (ho : OpR X (compareOp op) r) (ha : PE X a ta) (hb : PE X b tb) (hm : behindInMarks op b = false) : PE X (.Compare a [op] [b] pos) (tOp r ta tb) := by
  intro pins s σ H Q I h
  exact wpAny_Compare1 (binT ha hb I h fun v u s2 x y H2 I2 rx ry q => ho pins s2 σ H2 x y v u Q I2 rx ry q) hm
def tTest (t : TE) : TT := fun σ H Q => t σ H fun x H' => ∃ k, x = .bl k ∧ Q k H'
theorem pt_cmpR {op : CmpOp} {r : R2} (ho : OpR X (compareOp op) r) (ha : PE X a ta) (hb : PE X b tb) (hm : behindInMarks op b = false) : PT X (.Compare a [op] [b] pos) (tTest (tOp r ta tb)) := by
  intro pins s σ H Q I h
  refine wpAny_isTrue_Compare1 (thn (ha pins s σ H _ I h) fun v s1 ⟨x, H1, I1, r1, q1⟩ => thn (hb pins s1 σ H1 _ I1 q1) fun u s2 ⟨y, H2, I2, r2, q2⟩ =>
    thn (ho pins s2 σ H2 x y v u _ I2 r1 r2 q2) fun c s3 ⟨z, H3, I3, r3, k, e, q3⟩ => ?_) hm
  subst e
  cases r3
  exact wpAny_truthy_bool ⟨H3, I3, q3⟩
def tChain (r r' : R2) (ta tb tc : TE) : TE := fun σ H Q => ta σ H fun x H1 => tb σ H1 fun y H2 => r x y H2 fun z H3 => ∃ k, z = .bl k ∧
  (if k = true then tc σ H3 fun w' H4 => r' y w' H4 Q else Q (.bl false) H3)
theorem pe_chain {op op' : CmpOp} {r r' : R2} (ho : OpR X (compareOp op) r) (ho' : OpR X (compareOp op') r') (ha : PE X a ta) (hb : PE X b tb) (hc : PE X c tc)
    (hm : lastMarks [op, op'] [b, c] = false := by with_unfolding_all rfl) : PE X (.Compare a [op, op'] [b, c] pos) (tChain r r' ta tb tc) := by
  intro pins s σ H Q I h
  refine Compare_chain (thn (ha pins s σ H _ I h) fun v s1 ⟨x, H1, I1, r1, q1⟩ => chain_link (thn (hb pins s1 σ H1 _ I1 q1) fun u s2 ⟨y, H2, I2, r2, q2⟩ =>
    thn (ho pins s2 σ H2 x y v u _ I2 r1 r2 q2) fun d s3 ⟨z, H3, I3, r3, k, e, q3⟩ => ?_)) hm
  subst e
  cases r3
  refine wpAny_truthy_bool ?_
  cases k with
  | false => exact ite_ff ⟨.bl false, H3, I3, rfl, q3⟩
  | true => exact ite_tt (chain_last (thn (hc pins s3 σ H3 _ I3 q3) fun w' s4 ⟨z', H4, I4, r4, q4⟩ => ho' pins s4 σ H4 y z' u w' Q I4 r2 r4 q4))
theorem pt_chain {op op' : CmpOp} {r r' : R2} (ho : OpR X (compareOp op) r) (ho' : OpR X (compareOp op') r') (ha : PE X a ta) (hb : PE X b tb) (hc : PE X c tc)
    (hm : lastMarks [op, op'] [b, c] = false := by with_unfolding_all rfl) : PT X (.Compare a [op, op'] [b, c] pos) (tTest (tChain r r' ta tb tc)) := by
  intro pins s σ H Q I h
  refine isTrue_chain (thn (ha pins s σ H _ I h) fun v s1 ⟨x, H1, I1, r1, q1⟩ => test_link (thn (hb pins s1 σ H1 _ I1 q1) fun u s2 ⟨y, H2, I2, r2, q2⟩ =>
    thn (ho pins s2 σ H2 x y v u _ I2 r1 r2 q2) fun d s3 ⟨z, H3, I3, r3, k, e, q3⟩ => ?_)) hm
  subst e
  cases r3
  refine wpAny_truthy_bool ?_
  cases k with
  | false =>
    obtain ⟨k', e', q'⟩ := q3
    cases e'
    exact ite_ff ⟨H3, I3, q'⟩
  | true =>
    refine ite_tt (test_last (thn (hc pins s3 σ H3 _ I3 q3) fun w' s4 ⟨z', H4, I4, r4, q4⟩ => thn (ho' pins s4 σ H4 y z' u w' _ I4 r2 r4 q4) fun d' s5 ⟨z2, H5, I5, r5, k2, e2, q5⟩ => ?_))
    subst e2
    cases r5
    exact wpAny_truthy_bool ⟨H5, I5, q5⟩
theorem line63 : (sizeLine : Nat) < 2 ^ 63 := by rw [sizeLine_eq]; decide
theorem vals1 {x : V} {us : List Value} (r : Vals [x] us) : ∃ u, us = [u] ∧ RelV x u := by
  cases r with
  | cons r1 r2 => cases r2; exact ⟨_, rfl, r1⟩
theorem vals2 {x y : V} {us : List Value} (r : Vals [x, y] us) : ∃ u w', us = [u, w'] ∧ RelV x u ∧ RelV y w' := by
  cases r with
  | cons r1 r2 =>
    cases r2 with
    | cons r3 r4 => cases r4; exact ⟨_, _, rfl, r1, r3⟩
theorem call_abs : CallR X (.builtin "abs") (fun xs H Q => ∃ i, xs = [.int i] ∧ Q (.int (if i < 0 then -i else i)) H) := by
  intro pins s σ H xs us Q I r h
  obtain ⟨i, rfl, q⟩ := h
  obtain ⟨u, rfl, t, rfl⟩ := vals1 r
  exact call_abs_int fun u tk => ⟨.int (if i < 0 then -i else i), H, I.tok _, ⟨_, rfl⟩, q⟩
theorem call_max2 (hc : X.calm = true) : CallR X (.builtin "max") (fun xs H Q => ∃ i j, xs = [.int i, .int j] ∧ Q (.int (if j > i then j else i)) H) := by
  intro pins s σ H xs us Q I r h
  obtain ⟨i, j, rfl, q⟩ := h
  obtain ⟨u, w', rfl, ⟨t, rfl⟩, ⟨t', rfl⟩⟩ := vals2 r
  refine max_two_ints (I.ok.hd hc) fun h' tk k => ⟨_, H, I.kept k, ?_, q⟩
  by_cases hj : j > i
  · rw [if_pos hj, if_pos hj]; exact ⟨_, rfl⟩
  · rw [if_neg hj, if_neg hj]; exact ⟨_, rfl⟩
theorem call_min2 (hc : X.calm = true) : CallR X (.builtin "min") (fun xs H Q => ∃ i j, xs = [.int i, .int j] ∧ Q (.int (if j < i then j else i)) H) := by
  intro pins s σ H xs us Q I r h
  obtain ⟨i, j, rfl, q⟩ := h
  obtain ⟨u, w', rfl, ⟨t, rfl⟩, ⟨t', rfl⟩⟩ := vals2 r
  refine min_two_ints (I.ok.hd hc) fun h' tk k => ⟨_, H, I.kept k, ?_, q⟩
  by_cases hj : j < i
  · rw [if_pos hj, if_pos hj]; exact ⟨_, rfl⟩
  · rw [if_neg hj, if_neg hj]; exact ⟨_, rfl⟩
end
end L2
namespace L2
open PySem PySem.Spec PyProof.Rows
structure ObjM (h : Heap) (x dx C : Addr) (mA : Str → Option Value) : Prop where
  obj : h.get? x = some (PySem.W.instObj C dx)
  ns : h.Ns1 dx mA
  ne : dx ≠ x
theorem lookIn_ns {h : Heap} {dx : Addr} {mA : Str → Option Value} (n : h.Ns1 dx mA) : ∃ od, h.get? dx = some od ∧ ∀ name, PySem.W.lookIn name od = some (mA name) := by
  obtain ⟨o, es, ep, ho, hd, hk, _, hm⟩ := n
  refine ⟨o, ho, fun name => ?_⟩
  have e := hm name
  unfold nsFind findBy at e
  rw [← Array.find?_toList] at e
  unfold PySem.W.lookIn
  rw [hd]
  dsimp only
  split
  · rename_i y q
    rw [q] at e
    exact congrArg some e
  · rename_i q
    rw [q] at e
    have a : es.toList.any (·.refKey) = false := by
      rw [List.any_eq_false]
      intro y hy
      obtain ⟨z, t, hkey⟩ := hk y (Array.mem_toList_iff.mp hy)
      simp [DictEntry.refKey, hkey]
    have a' : ¬ es.toList.any (·.refKey) = true := by rw [a]; exact Bool.false_ne_true
    rw [if_neg a']
    exact congrArg some e
theorem ObjM.look {h : Heap} {x dx C : Addr} {mA : Str → Option Value} (I : ObjM h x dx C mA) : ∃ od, PySem.W.InstAt h x (PySem.W.instObj C dx) C (some od) ∧ ∀ name, PySem.W.lookIn name od = some (mA name) :=
  let ⟨od, ho, hl⟩ := lookIn_ns I.ns
  ⟨od, ⟨I.obj, rfl, rfl, ho⟩, hl⟩
section
variable {prog : Program} {w : World} {A : Around} {E : Value → Shared → Prop} {s : Shared} {K : PySem.W.Frag} {x dx C f : Addr} {mA : Str → Option Value} {name : Str} {v : Value}
theorem get_map {expr : Bool} {Q : Value → Shared → Prop} (X : K.In s.heap) (I : ObjM s.heap x dx C mA) (hg : PySem.W.plainGet K C name = true) (hh : PySem.W.hasDictIn K C = true)
    (ha : PySem.W.findIn K (.ref C) name = some none) (hv : mA name = some v) (hv' : PySem.W.handedIn v = true) (h : Q v { s with toks := s.toks + 1 }) :
    wpAny (model prog w) A (getAttr (.ref x) name expr) Q E s := by
  obtain ⟨od, J, hl⟩ := I.look
  exact PySem.W.get_value X J (PySem.W.plainGet_of hg).1 (PySem.W.findObj_own hh ha rfl (by rw [hl, hv])) hv' h
theorem get_meth {pl : Sem Bool} {Q : Value × List Value → Shared → Prop} (X : K.In s.heap) (I : ObjM s.heap x dx C mA) (hg : PySem.W.plainGet K C name = true)
    (hf : PySem.W.findIn K (.ref C) name = some (some (.ref f))) (ht : PySem.W.isFn K (.ref f) = true) (hv : mA name = none) (h : Q (.ref f, [.ref x]) s) :
    wpAny (model prog w) A (getMethod (.ref x) name pl) Q E s := by
  obtain ⟨od, J, hl⟩ := I.look
  exact PySem.W.method_fn X J (PySem.W.plainGet_of hg).1 (PySem.W.plainGet_of hg).2 hf (beq_iff_eq.mp ht) (by show (PySem.W.lookIn name od).map (·.isSome) = some false; rw [hl, hv]; rfl) h
theorem set_map {ns : List Str} {Q : Unit → Shared → Prop} (X : K.In s.heap) (I : ObjM s.heap x dx C mA)
    (hs : PySem.W.findIn K (.ref C) "__setattr__" = some (some (.builtin "object.__setattr__"))) (hp : PySem.W.plainOver K C = true) (ht : PySem.W.takerIn K C name = some none) (hh : PySem.W.hasDictIn K C = true)
    (hw : PySem.Within mA ns) (hsz : ns.length ≤ sizeLine)
    (h : ∀ h', ObjM h' x dx C (fun y => if y = name then some v else mA y) → Heap.SameBut dx s.heap h' → Q () { s with heap := h', toks := s.toks + 2 }) :
    wpAny (model prog w) A (setAttr (.ref x) name v) Q E s := by
  obtain ⟨od, J, hl⟩ := I.look
  refine PySem.W.set_plain X J hs (PySem.W.osa_open (s := { s with toks := s.toks + 1 }) (r := none) X J hp ht fun b => ?_)
  obtain ⟨cd, hc, hd'⟩ := PySem.W.any_some hh
  have hx : s.heap.get? x = some ⟨.ref C, some dx, .plain, #[]⟩ := I.obj
  refine wpAny_bind (wpAny_pure (wpAny_bind (wpAny_bind (wpAny_loadPart hx (wpAny_bind (PySem.W.Looks.here (s := { s with toks := s.toks + 1 }) (PySem.W.looks_clsIn X hc) ?_))))))
  rw [hd']
  refine wpAny_pure (a := some dx) (wpAny_bind (wpAny_pure (wpAny_bind ?_)))
  refine wpAny_nsSet1 (s := { s with toks := s.toks + 1 }) I.ns fun h' hn2 hs2 => ?_
  obtain ⟨oD, esD, epD, hoD, hdD, hcD⟩ := hn2.count (PySem.Within.cons name v hw)
  refine wpAny_bind (wpAny_lookBehind hoD (by rw [hdD]; exact pastItsLine_dict (Nat.le_trans hcD (by rw [List.length_cons]; omega))) ?_)
  exact wpAny_pure (h _ ⟨(hs2.2 _ (Ne.symm I.ne)).trans I.obj, hn2, I.ne⟩ hs2)
theorem make_map {R : Result → Shared → Prop} {vs : List Value} {kw : List (Str × Value)} (X : K.In s.heap) (hm : PySem.W.makesIn K C = true)
    (hi : PySem.W.findIn K (.ref C) "__init__" = some (some (.ref f))) (hf : PySem.W.typeIn K (.ref f) = some (.type "function"))
    (h : codeAny (model prog w) (A.under (.builtin "type.__call__" ⟨.ref C :: vs, kw⟩)) (.call (.ref f) ⟨.ref (s.heap.objs.size + 1) :: vs, kw⟩) (PySem.W.InitBack (s.heap.objs.size + 1) R)
      { s with heap := (s.heap.push PySem.W.emptyDict).push (PySem.W.instObj C s.heap.objs.size) }) :
    codeAny (model prog w) A (.call (.ref C) ⟨vs, kw⟩) R s := by
  obtain ⟨hh, g, d, t, os⟩ := s
  exact PySem.W.make_core (PySem.W.makes_of X hm) (PySem.W.looks_findIn X hi) (fun self => PySem.W.bind_fn X self hf) (.inl rfl) h
end
def putF (f : Str) (v : V) : List (Str × V) → List (Str × V)
  | [] => [(f, v)]
  | (g, x) :: r => if g = f then (g, v) :: r else (g, x) :: putF f v r
theorem lookup_putF (f g : Str) (v : V) : ∀ fs : List (Str × V), (putF f v fs).lookup g = if g = f then some v else fs.lookup g
  | [] => by
    show List.lookup g [(f, v)] = _
    by_cases h : g = f
    · have hb : (g == f) = true := beq_iff_eq.mpr h
      simp only [List.lookup, hb, if_pos h]
    · have hb : (g == f) = false := beq_eq_false_iff_ne.mpr h
      simp only [List.lookup, hb, if_neg h]
  | (k, x) :: r => by
    have ih := lookup_putF f g v r
    rw [show putF f v ((k, x) :: r) = (if k = f then (k, v) :: r else (k, x) :: putF f v r) from rfl]
    by_cases hk : k = f
    · rw [if_pos hk]
      by_cases h : g = k
      · have hb : (g == k) = true := beq_iff_eq.mpr h
        simp only [List.lookup, hb, if_pos (h.trans hk)]
      · have hb : (g == k) = false := beq_eq_false_iff_ne.mpr h
        simp only [List.lookup, hb, if_neg (fun e : g = f => h (e.trans hk.symm))]
    · rw [if_neg hk]
      by_cases h : g = k
      · have hb : (g == k) = true := beq_iff_eq.mpr h
        simp only [List.lookup, hb, if_neg (fun e : g = f => hk (h.symm.trans e))]
      · have hb : (g == k) = false := beq_eq_false_iff_ne.mpr h
        simp only [List.lookup, hb]
        exact ih
theorem keys_putF (f : Str) (v : V) : ∀ fs : List (Str × V), f ∈ (putF f v fs).map (·.1) ∧ ∀ g, g ∈ fs.map (·.1) → g ∈ (putF f v fs).map (·.1)
  | [] => ⟨by simp [putF], fun g h => by simp at h⟩
  | (k, x) :: r => by
    obtain ⟨i1, i2⟩ := keys_putF f v r
    rw [show putF f v ((k, x) :: r) = (if k = f then (k, v) :: r else (k, x) :: putF f v r) from rfl]
    by_cases hk : k = f
    · rw [if_pos hk]
      subst hk
      exact ⟨by simp, fun g h => by simpa using h⟩
    · rw [if_neg hk]
      refine ⟨?_, fun g h => ?_⟩
      · rw [List.map_cons]
        exact List.mem_cons_of_mem _ i1
      · rw [List.map_cons] at h ⊢
        rcases List.mem_cons.mp h with e | e
        · exact List.mem_cons.mpr (.inl e)
        · exact List.mem_cons_of_mem _ (i2 g e)
theorem length_putF (f : Str) (v : V) : ∀ fs : List (Str × V), (putF f v fs).length ≤ fs.length + 1
  | [] => by simp [putF]
  | (k, x) :: r => by
    have ih := length_putF f v r
    rw [show putF f v ((k, x) :: r) = (if k = f then (k, v) :: r else (k, x) :: putF f v r) from rfl]
    by_cases hk : k = f
    · rw [if_pos hk, List.length_cons, List.length_cons]; omega
    · rw [if_neg hk, List.length_cons, List.length_cons]; omega
theorem RelO.some_of {v : V} {o : Option Value} (r : RelO (some v) o) : ∃ u, o = some u ∧ RelV v u := by
  cases o with
  | none => exact (show False from r).elim
  | some u => exact ⟨u, rfl, r⟩
theorem RelO.none_of {o : Option Value} (r : RelO none o) : o = none := by
  cases o with
  | none => rfl
  | some u => exact (show False from r).elim
theorem handed_of {v : V} {u : Value} (r : RelV v u) : PySem.W.handedIn u = true := by
  cases v with
  | non => cases (show u = Value.none from r); rfl
  | bl b => cases (show u = Value.bool b from r); rfl
  | int i => obtain ⟨t, e⟩ := (show ∃ t, u = Value.int i t from r); cases e; rfl
  | str x => obtain ⟨t, e⟩ := (show ∃ t, u = Value.str x t from r); cases e; rfl
  | byt b => obtain ⟨t, e⟩ := (show ∃ t, u = Value.bytes b t from r); cases e; rfl
  | flt b => obtain ⟨t, e⟩ := (show ∃ t, u = Value.float b t from r); cases e; rfl
  | ref a => cases (show u = Value.ref a from r); rfl
  | ty n => cases (show u = Value.type n from r); rfl
section
variable {P : Program} {w : World} {H H' : Hp} {h h' : Heap} {a C dx : Addr} {fs fs' : List (Str × V)}
theorem ins_get (hok : HOk P w H h) (e : H a = some (.ins C dx fs)) : ∃ mA, ObjM h a dx C mA ∧ (∀ f, RelO (fs.lookup f) (mA f)) ∧ PySem.Within mA (fs.map (·.1)) ∧ fs.length ≤ 1000 ∧ H dx = some (.own a) := by
  obtain ⟨d, z, ne, ob, mA, n, r, q⟩ := (show ObjOk P w H h a (.ins C dx fs) from hok a _ e)
  exact ⟨mA, ⟨ob, n, ne⟩, r, q, z, d⟩
end
structure Cls (K : PySem.W.Frag) (C : Addr) : Prop where
  pg : PySem.W.plainGet K C Str.empty = true
  hd : PySem.W.hasDictIn K C = true
  po : PySem.W.plainOver K C = true
  sa : PySem.W.findIn K (.ref C) "__setattr__" = some (some (.builtin "object.__setattr__"))
theorem Cls.get {K : PySem.W.Frag} {C : Addr} (c : Cls K C) (f : Str) : PySem.W.plainGet K C f = true := c.pg
def NoAttr (K : PySem.W.Frag) (C : Addr) (f : Str) : Prop := PySem.W.findIn K (.ref C) f = some none
theorem NoAttr.taker {K : PySem.W.Frag} {C : Addr} {f : Str} (n : NoAttr K C f) : PySem.W.takerIn K C f = some none := by
  unfold PySem.W.takerIn
  rw [show PySem.W.findIn K (.ref C) f = some none from n]
  rfl
structure Meth (K : PySem.W.Frag) (C : Addr) (m : Str) (f : Addr) : Prop where
  at_ : PySem.W.findIn K (.ref C) m = some (some (.ref f))
  fn : PySem.W.isFn K (.ref f) = true
  kp : PySem.W.keepIn K (.ref f) = true
section
variable {X : Cx} {pins : List (Addr × Obj)} {σ : St} {H : Hp} {s : Shared} {a C dx : Addr} {fs : List (Str × V)} {f : Str} {v : V} {A : Around} {E : Value → Shared → Prop}
theorem getattr_ok {b : Bool} {Q : Value → Shared → Prop} (I : Inv X pins σ H s) (e : H a = some (.ins C dx fs)) (c : Cls X.K C) (n : NoAttr X.K C f) (l : fs.lookup f = some v)
    (h : ∀ u s', Inv X pins σ H s' → RelV v u → Q u s') : wpAny (model X.prog X.w) A (getAttr (.ref a) f b) Q E s := by
  obtain ⟨mA, O, r, _, _, _⟩ := ins_get I.hok e
  obtain ⟨u, hu, ru⟩ := RelO.some_of (v := v) (o := mA f) (by rw [← l]; exact r f)
  exact get_map I.kIn O (c.get f) c.hd n hu (handed_of ru) (h u _ (I.tok _) ru)
theorem getmeth_ok {m : Str} {g : Addr} {pl : Sem Bool} {Q : Value × List Value → Shared → Prop} (I : Inv X pins σ H s) (e : H a = some (.ins C dx fs)) (c : Cls X.K C) (k : Meth X.K C m g) (l : fs.lookup m = none)
    (h : Q (.ref g, [.ref a]) s) : wpAny (model X.prog X.w) A (getMethod (.ref a) m pl) Q E s := by
  obtain ⟨mA, O, r, _, _, _⟩ := ins_get I.hok e
  have hn : mA m = none := RelO.none_of (by rw [← l]; exact r m)
  exact get_meth I.kIn O (c.get m) k.at_ k.fn hn h
theorem setattr_ok {y : V} {u : Value} {Q : Unit → Shared → Prop} (I : Inv X pins σ H s) (e : H a = some (.ins C dx fs)) (c : Cls X.K C) (n : NoAttr X.K C f) (hl : fs.length < 1000) (ry : RelV y u)
    (h : ∀ s', Inv X pins σ (upd H a (.ins C dx (putF f y fs))) s' → Q () s') : wpAny (model X.prog X.w) A (setAttr (.ref a) f u) Q E s := by
  obtain ⟨mA, O, r, wi, _, ho⟩ := ins_get I.hok e
  have hz : (fs.map (·.1)).length ≤ sizeLine := by rw [List.length_map, sizeLine_eq]; omega
  refine set_map I.kIn O c.sa c.po n.taker c.hd wi hz fun h' O' sb => h _ ?_
  have hd : ∃ o, h'.get? dx = some o := let ⟨o, _, _, e', _⟩ := O'.ns; ⟨o, e'⟩
  refine I.write (x := a) (e := dx) (by rw [e]; exact True.intro) (.inr ho) (fun b q hb z => (sb.2 b hb).trans z) hd ?_
  refine ⟨by rw [upd_ne O.ne]; exact ho, ?_, O.ne, O'.obj, _, O'.ns, fun g => ?_, fun g hg => ?_⟩
  · have := length_putF f y fs; omega
  · show RelO ((putF f y fs).lookup g) (if g = f then some u else mA g)
    rw [lookup_putF]
    by_cases q : g = f
    · rw [if_pos q, if_pos q]; exact ry
    · rw [if_neg q, if_neg q]; exact r g
  · by_cases q : g = f
    · rw [q]; exact (keys_putF f y fs).1
    · refine (keys_putF f y fs).2 g (wi g fun z => hg ?_)
      show (if g = f then some u else mA g) = none
      rw [if_neg q]; exact z
theorem Inv.made (I : Inv X pins σ H s) : Inv X pins σ (upd (upd H s.heap.objs.size (.own (s.heap.objs.size + 1))) (s.heap.objs.size + 1) (.ins C s.heap.objs.size []))
    { s with heap := (s.heap.push PySem.W.emptyDict).push (PySem.W.instObj C s.heap.objs.size) } := by
  have e1 : (s.heap.push PySem.W.emptyDict).get? s.heap.objs.size = some PySem.W.emptyDict := Heap.get?_push_size s.heap rfl
  have e2 : ((s.heap.push PySem.W.emptyDict).push (PySem.W.instObj C s.heap.objs.size)).get? (s.heap.objs.size + 1) = some (PySem.W.instObj C s.heap.objs.size) := by
    have := Heap.get?_push_size (s.heap.push PySem.W.emptyDict) (o := PySem.W.instObj C s.heap.objs.size) rfl
    rwa [Heap.size_push] at this
  have e3 : (s.heap.push PySem.W.emptyDict).Ns s.heap.objs.size (fun _ => none) := ⟨PySem.W.emptyDict, #[], _, e1, rfl, (fun e he => absurd he (by simp)), fun _ => rfl⟩
  have I1 := I.laid (a := s.heap.objs.size) (o := .own (s.heap.objs.size + 1)) (h' := s.heap.push PySem.W.emptyDict) (t' := s.toks) (fun b u q => Heap.get?_push_of_some _ q) (Nat.le_refl _) ⟨_, e1⟩
  refine I1.laid (a := s.heap.objs.size + 1) (o := .ins C s.heap.objs.size []) (t' := s.toks) (fun b u q => Heap.get?_push_of_some _ q) (Nat.le_of_eq (Heap.size_push _ _)) ?_
  have ne : s.heap.objs.size ≠ s.heap.objs.size + 1 := Nat.ne_of_lt (Nat.lt_succ_self _)
  refine ⟨by rw [upd_ne ne, upd_same], Nat.zero_le _, ne, e2, fun _ => none, (Heap.Ns1.of_empty e3).at fun o q => Heap.get?_push_of_some _ q, fun _ => True.intro, fun y hy => absurd rfl hy⟩
theorem attr_of {prog : Program} {w : World} {env : Env} {e : Expr} {f : Str} {pos : Pos} {s : Shared} {Q : Value → Shared → Prop} (hb : attributeBase e f env (eval e env) = eval e env)
    (h : wpAny (model prog w) A (eval e env) (fun o s₁ => wpAny (model prog w) A (getAttr o f true) Q E s₁) E s) : wpAny (model prog w) A (eval (.Attribute e f pos) env) Q E s :=
  Attribute_any_ h (by rw [arm_eval_Attribute, hb])
end
def tFld (K : PySem.W.Frag) (ta : TE) (f : Str) : TE := fun σ H Q => ta σ H fun x H1 => ∃ a C dx fs v, x = .ref a ∧ H1 a = some (.ins C dx fs) ∧ Cls K C ∧ NoAttr K C f ∧ fs.lookup f = some v ∧ Q v H1
def sFld (K : PySem.W.Frag) (ta tv : TE) (f : Str) : TS := fun D σ H => tv σ H fun y H1 => ta σ H1 fun x H2 => ∃ a C dx fs, x = .ref a ∧ H2 a = some (.ins C dx fs) ∧ Cls K C ∧ NoAttr K C f ∧ fs.length < 1000 ∧
  D.nx σ (upd H2 a (.ins C dx (putF f y fs)))
def InOp (X : Cx) (op : Operator) (rd : V → V → Hp → VK → Prop) : Prop :=
  ∀ (pins : List (Addr × Obj)) (s : Shared) (σ : St) (H : Hp) (x y : V) (u v : Value) (Q : VK), Inv X pins σ H s → RelV x u → RelV y v → rd x y H Q → wpAny (model X.prog X.w) X.A (inplaceOp op u v) (EP X pins σ Q) X.xe s
def sFldAug (K : PySem.W.Frag) (ta tv : TE) (rd : V → V → Hp → VK → Prop) (f : Str) : TS := fun D σ H => ta σ H fun x H1 => ∃ a C dx fs v, x = .ref a ∧ H1 a = some (.ins C dx fs) ∧ Cls K C ∧ NoAttr K C f ∧ fs.lookup f = some v ∧
  tv σ H1 fun y H2 => rd v y H2 fun z H3 => ∃ dx' fs', H3 a = some (.ins C dx' fs') ∧ fs'.length < 1000 ∧ D.nx σ (upd H3 a (.ins C dx' (putF f z fs')))
section
variable {X : Cx} {o e value : Expr} {f : Str} {pos pos' tpos : Pos} {ta tv : TE}
theorem pe_fld (he : PE X e ta) (hb : attributeBase e f X.env (eval e X.env) = eval e X.env) : PE X (.Attribute e f pos) (tFld X.K ta f) := by
  intro pins s σ H Q I h
  refine attr_of hb (thn (he pins s σ H _ I h) fun u s1 ⟨x, H1, I1, rx, a, C, dx, fs, v, ex, ea, c, n, l, q⟩ => ?_)
  subst ex
  obtain rfl : u = Value.ref a := rx
  exact getattr_ok I1 ea c n l fun u' s2 I2 ru => ⟨v, H1, I2, ru, q⟩
theorem ps_fld (ha : PE X o ta) (hv : PE X value tv) (hs : swapsWith value (some (.Attribute o f pos')) pos.line X.env = pure false) : PS X (.Assign [.Attribute o f pos'] value pos) (sFld X.K ta tv f) := by
  intro pins s σ H D I h
  refine plainObj_wpAny_Assign_Attribute (thn (hv pins s σ H _ I h) fun u s1 ⟨y, H1, I1, ry, q⟩ => thn (ha pins s1 σ H1 _ I1 q) fun ov s2 ⟨x, H2, I2, rx, a, C, dx, fs, ex, ea, c, n, l, q2⟩ => ?_) hs
  subst ex
  obtain rfl : ov = Value.ref a := rx
  exact setattr_ok I2 ea c n l ry fun s3 I3 => ⟨σ, _, I3, q2⟩
theorem ps_fldaug {op : Operator} {rd : V → V → Hp → VK → Prop} (ha : PE X o ta) (hv : PE X value tv) (hop : InOp X op rd) : PS X (.AugAssign (.Attribute o f tpos) op value pos) (sFldAug X.K ta tv rd f) := by
  intro pins s σ H D I h
  refine wpAny_AugAssign_AttributeAny (thn (ha pins s σ H _ I h) fun ov s1 ⟨x, H1, I1, rx, a, C, dx, fs, v, ex, ea, c, n, l, q⟩ => ?_)
  subst ex
  obtain rfl : ov = Value.ref a := rx
  refine getattr_ok I1 ea c n l fun u s2 I2 ru => thn (hv pins s2 σ H1 _ I2 q) fun w3 s3 ⟨y, H2, I3, ry, q3⟩ => thn (hop pins s3 σ H2 v y u w3 _ I3 ru ry q3) fun w4 s4 ⟨z, H3, I4, rz, dx', fs', ea', l', q4⟩ => ?_
  exact setattr_ok I4 ea' c n l' rz fun s5 I5 => ⟨σ, _, I5, q4⟩
def rAdd : V → V → Hp → VK → Prop := fun x y H Q => ∃ i j, x = .int i ∧ y = .int j ∧ Q (.int (i + j)) H
theorem in_add : InOp X .Add rAdd := by
  rintro pins s σ H x y u v Q I rx ry ⟨i, j, rfl, rfl, q⟩
  obtain ⟨t, rfl⟩ := (show ∃ t, u = Value.int i t from rx)
  obtain ⟨t', rfl⟩ := (show ∃ t', v = Value.int j t' from ry)
  exact PyProof.Rows.iadd_int ⟨.int (i + j), H, I.tok _, ⟨_, rfl⟩, q⟩
end
section
variable {X : Cx} {pins : List (Addr × Obj)} {σ : St} {H : Hp} {s : Shared} {A : Around} {E : Value → Shared → Prop} {Q : Value → Shared → Prop} {c : Value} {b : Bool}
inductive TyOf (K : PySem.W.Frag) (H : Hp) : V → Value → Prop where
  | non : TyOf K H .non (.type "NoneType")
  | bl (x : Bool) : TyOf K H (.bl x) (.type "bool")
  | int (i : Int) : TyOf K H (.int i) (.type "int")
  | str (x : Str) : TyOf K H (.str x) (.type "str")
  | flt (x : UInt64) : TyOf K H (.flt x) (.type "float")
  | lst {a : Addr} {xs : List V} (e : H a = some (.lst xs)) : TyOf K H (.ref a) (.type "list")
  | frz {a : Addr} {o : Obj} {xs : List V} (e : H a = some (.frz o (.lst xs))) : TyOf K H (.ref a) (.type "list")
  | tup {a : Addr} {xs : List V} (e : H a = some (.tup xs)) : TyOf K H (.ref a) (.type "tuple")
  | dK {a : Addr} {kvs : List (Key × V)} (e : H a = some (.dK kvs)) : TyOf K H (.ref a) (.type "dict")
  | dT {a : Addr} {kvs : List (List Key × V)} (e : H a = some (.dT kvs)) : TyOf K H (.ref a) (.type "dict")
  | ins {a C dx : Addr} {fs : List (Str × V)} (e : H a = some (.ins C dx fs)) (cl : Cls K C) (ha : PySem.W.findIn K (.ref C) "__class__" = some (some (.builtin "object.__class__")))
      (hn : PySem.W.specialIn K (.builtin "object.__class__") "__get__" = some (some (.builtin "getset_descriptor.__get__"))) (htk : PySem.W.takesIn K (.builtin "object.__class__") = some true)
      (hm : PySem.W.mroIn K C (.type "object") = some true) : TyOf K H (.ref a) (.ref C)
theorem isinst_ok {x : V} {u t : Value} (I : Inv X pins σ H s) (rx : RelV x u) (ty : TyOf X.K H x t) (e : PySem.W.kitOne X.K t c = some b) (h : ∀ tk, Q (.bool b) { s with toks := tk }) :
    wpAny (model X.prog X.w) A (call (.builtin "isinstance") [u, c]) Q E s := by
  cases ty with
  | non => cases (show u = Value.none from rx); exact PySem.W.kia_one PySem.W.kitx_none I.kIn True.intro e (fun z => nomatch z) h
  | bl y => cases (show u = Value.bool y from rx); exact PySem.W.kia_one PySem.W.kitx_bool I.kIn True.intro e (fun z => nomatch z) h
  | int i => obtain ⟨t, q⟩ := (show ∃ t, u = Value.int i t from rx); cases q; exact PySem.W.kia_one PySem.W.kitx_int I.kIn True.intro e (fun z => nomatch z) h
  | str y => obtain ⟨t, q⟩ := (show ∃ t, u = Value.str y t from rx); cases q; exact PySem.W.kia_one PySem.W.kitx_str I.kIn True.intro e (fun z => nomatch z) h
  | flt y => obtain ⟨t, q⟩ := (show ∃ t, u = Value.float y t from rx); cases q; exact PySem.W.kia_one PySem.W.kitx_float I.kIn True.intro e (fun z => nomatch z) h
  | @lst a xs ea =>
    cases (show u = Value.ref a from rx)
    obtain ⟨_, _, n, _, h1⟩ := (show ObjOk X.prog X.w H s.heap a (.lst xs) from I.hok a _ ea)
    exact PySem.W.kia_one PySem.W.kitx_list I.kIn ⟨_, h1, rfl⟩ e (fun z => nomatch z) h
  | @frz a ob xs ea =>
    cases (show u = Value.ref a from rx)
    obtain ⟨_, _, _, n, _, h1⟩ := (show ObjOk X.prog X.w H s.heap a (.frz ob (.lst xs)) from I.hok a _ ea)
    exact PySem.W.kia_one PySem.W.kitx_list I.kIn ⟨_, h1, rfl⟩ e (fun z => nomatch z) h
  | @tup a xs ea =>
    cases (show u = Value.ref a from rx)
    obtain ⟨_, _, _, p⟩ := (show ObjOk X.prog X.w H s.heap a (.tup xs) from I.hok a _ ea)
    obtain ⟨o, h1, h2, _⟩ := p
    exact PySem.W.kia_one PySem.W.kitx_tuple I.kIn ⟨o, h1, h2⟩ e (fun z => nomatch z) h
  | @dK a kvs ea =>
    cases (show u = Value.ref a from rx)
    obtain ⟨_, _, vs, _, p⟩ := (show ObjOk X.prog X.w H s.heap a (.dK kvs) from I.hok a _ ea)
    obtain ⟨o, es, ep, h1, h2, _⟩ := p
    exact PySem.W.kia_one PySem.W.kitx_dict I.kIn ⟨o, h1, h2.1⟩ e (fun z => nomatch z) h
  | @dT a kvs ea =>
    cases (show u = Value.ref a from rx)
    obtain ⟨_, _, xs, _, o, es, ep, h1, h2, _⟩ := (show ObjOk X.prog X.w H s.heap a (.dT kvs) from I.hok a _ ea)
    exact PySem.W.kia_one PySem.W.kitx_dict I.kIn ⟨o, h1, h2.1⟩ e (fun z => nomatch z) h
  | @ins a C dx fs ea cl ha hn htk hm =>
    cases (show u = Value.ref a from rx)
    obtain ⟨mA, O, _⟩ := ins_get I.hok ea
    obtain ⟨od, J, _⟩ := O.look
    exact PySem.W.kia_one (PySem.W.kitx_own (cl.get _) cl.hd ha hn htk hm) I.kIn J e (fun z => nomatch z) h
end
end L2
namespace L2
open PySem PySem.Spec PyProof.Rows
structure Room (k : Nat) (A : Around) : Prop where
  hd : A.handled = none
  dp : A.depth + 3 * k + 5 < recursionLimit
  un : A.units + 16 * k + 200 < cLine
  gd : A.guards = some []
theorem Room.mono {j k : Nat} {A : Around} (r : Room k A) (h : j ≤ k) : Room j A := ⟨r.hd, by have := r.dp; omega, by have := r.un; omega, r.gd⟩
theorem Room.deeper {k : Nat} {A : Around} (r : Room (k + 1) A) (env : Env) : Room k (A.deeper env) :=
  ⟨r.hd, by have := r.dp; show A.depth + 1 + 3 * k + 5 < _; omega, by have := r.un; show A.units + 3 + 16 * k + 200 < _; omega, r.gd⟩
theorem Room.in1 {k : Nat} {A : Around} (r : Room (k + 1) A) : Room k A.in1 :=
  ⟨r.hd, by have := r.dp; show A.depth + 3 * k + 5 < _; omega, by have := r.un; show A.units + 1 + 16 * k + 200 < _; omega, r.gd⟩
theorem make_depth {A : Around} {C : Addr} {us : List Value} {kw : List (Str × Value)} : (A.under (.builtin "type.__call__" ⟨.ref C :: us, kw⟩)).depth = A.depth + 1 := by
  first | rfl | simp [Around.under, Code.weight, Code.isCreation, Code.isGuard, Code.isCaller, Code.frames, Code.isFrame, guardIds]
theorem make_units {A : Around} {C : Addr} {us : List Value} {kw : List (Str × Value)} : (A.under (.builtin "type.__call__" ⟨.ref C :: us, kw⟩)).units = A.units + 1 := by
  first | rfl | simp [Around.under, Code.cUnits, Code.frames, Code.isFrame]
theorem make_guards {A : Around} {C : Addr} {us : List Value} {kw : List (Str × Value)} : (A.under (.builtin "type.__call__" ⟨.ref C :: us, kw⟩)).guards = A.guards := by
  have e : pushGuards [] A.guards = A.guards := by cases A.guards <;> rfl
  first | exact e | rfl | simp [Around.under, Code.guards, Code.isGuard, guardIds, pushGuards]
theorem Room.make {k : Nat} {A : Around} (r : Room (k + 1) A) (C : Addr) (us : List Value) (kw : List (Str × Value)) : Room k (A.under (.builtin "type.__call__" ⟨.ref C :: us, kw⟩)) :=
  ⟨r.hd, by have := r.dp; rw [make_depth]; omega, by have := r.un; rw [make_units]; omega, (make_guards).trans r.gd⟩
theorem Room.depth {k : Nat} {A : Around} (r : Room k A) : A.depth < recursionLimit := by have := r.dp; omega
theorem Room.units {k : Nat} {A : Around} (r : Room k A) : A.units + 64 < cLine := by have := r.un; omega
def tNil : TA := fun _ H Q => Q [] H
def tCons (ta : TE) (tr : TA) : TA := fun σ H Q => ta σ H fun x H1 => tr σ H1 fun xs H2 => Q (x :: xs) H2
section
variable {X : Cx} {e : Expr} {es : List Expr} {te : TE} {t : TA} {pos : Pos}
theorem pa_nil : PA X [] tNil := fun _ _ _ _ H Q I h => Calls.spliced_nil ⟨[], H, I, .nil, h⟩
theorem pa_cons (ha : PE X e te) (hr : PA X es t) (hs : starEach (e :: es) X.env = (false, eval e X.env) :: starEach es X.env := by rfl) : PA X (e :: es) (tCons te t) := by
  intro pos pins s σ H Q I h
  rw [hs]
  show wpAny _ _ (spliced ((false, eval e X.env) :: backTo pos (starEach es X.env))) _ _ s
  refine Calls.spliced_cons (thn (ha pins s σ H _ I h) fun u s1 ⟨x, H1, I1, r1, q1⟩ => ?_)
  exact thn (hr pos pins s1 σ H1 _ I1 q1) fun us s2 ⟨xs, H2, I2, r2, q2⟩ => ⟨x :: xs, H2, I2, .cons r1 r2, q2⟩
def tTup (t : TA) : TE := fun σ H Q => t σ H fun xs H1 => xs.length ≤ sizeLine ∧ ∀ p, H1 p = none → Q (.ref p) (upd H1 p (.tup xs))
def tLst (t : TA) : TE := fun σ H Q => t σ H fun xs H1 => xs.length ≤ sizeLine ∧ ∀ p, H1 p = none → Q (.ref p) (upd H1 p (.lst xs))
theorem pe_tup {x1} (h : PA X es t) : PE X (.Tuple es x1 pos) (tTup t) := by
  intro pins s σ H Q I hq
  refine wpAny_Tuple_spliced (thn (h pos pins s σ H _ I hq) fun us s1 ⟨xs, H1, I1, r, z, q⟩ => ⟨by rw [← r.length]; exact z, ?_⟩)
  have hf : H1 s1.heap.objs.size = none := I1.hok.fresh (Nat.le_refl _)
  refine ⟨.ref s1.heap.objs.size, upd H1 s1.heap.objs.size (.tup xs), I1.laid (t' := s1.toks) (fun b u e => Heap.get?_push_of_some _ e) (Nat.le_refl _) ?_, rfl, q _ hf⟩
  exact ⟨⟨z, fun _ => ⟨_, Heap.get?_push_size _ rfl, rfl, rfl⟩⟩, us, r, ⟨_, Heap.get?_push_size _ rfl, rfl, _, rfl⟩⟩
theorem pe_lst (h : PA X es t) : PE X (.List es pos) (tLst t) := by
  intro pins s σ H Q I hq
  refine wpAny_List_spliced (thn (h pos pins s σ H _ I hq) fun us s1 ⟨xs, H1, I1, r, z, q⟩ => ⟨by rw [← r.length]; exact z, ?_⟩)
  have hf : H1 s1.heap.objs.size = none := I1.hok.fresh (Nat.le_refl _)
  refine ⟨.ref s1.heap.objs.size, upd H1 s1.heap.objs.size (.lst xs), I1.laid (t' := s1.toks) (fun b u e => Heap.get?_push_of_some _ e) (Nat.le_refl _) ?_, rfl, q _ hf⟩
  exact ⟨z, us, 0, r, Heap.get?_push_size _ rfl⟩
end
abbrev Sp := List V → Hp → VK → XK → Prop
abbrev CXT := List Env → Hp → Shared → XK → Value → Shared → Prop
structure Env0 (P : Program) (w : World) (K : PySem.W.Frag) (mg : Str → Option Value) (base : Heap) (A : Around) (outer : List Env) (s : Shared) (H : Hp) : Prop where
  frames : A.frames = some outer
  mod : Mod K mg base
  bs : ∀ b o, base.get? b = some o → s.heap.get? b = some o ∧ H b = none
  bsz : base.objs.size ≤ s.heap.objs.size
  funs : s.heap.FunFrames base outer
  frf : ∀ b ∈ frs outer, H b = none
  hok : HOk P w H s.heap
  bare : AllBare s.gens
def CE (outer : List Env) (P : Program) (w : World) (H : Hp) (s : Shared) (Q : VK) (u : Value) (s' : Shared) : Prop :=
  ∃ v H', s'.os = s.os ∧ AllBare s'.gens ∧ Un (frs outer) [] H H' s.heap s'.heap ∧ HOk P w H' s'.heap ∧ RelV v u ∧ Q v H'
def CR (CX : CXT) (outer : List Env) (P : Program) (w : World) (H : Hp) (s : Shared) (Q : VK) (E : XK) (r : Result) (s' : Shared) : Prop :=
  match r with
  | .ok (.ret u) => CE outer P w H s Q u s'
  | .ok _ => False
  | .error e => CX outer H s E e s'
structure FnOk (P : Program) (w : World) (K : PySem.W.Frag) (mg : Str → Option Value) (base : Heap) (CX : CXT) (k : Nat) (f : Addr) (fd : FuncData) (ps : List Str) (sp : Sp) : Prop where
  len : ∀ vs H Q E, sp vs H Q E → vs.length = ps.length
  run : ∀ (A : Around) (outer : List Env) (s : Shared) (H : Hp) (args : Args) (us : List Value) (vs : List V) (Q : VK) (E : XK), Room k A → Env0 P w K mg base A outer s H → BindsTo s fd args (ps.zip us) → Vals vs us → sp vs H Q E →
    codeAny (model P w) A (.call (.ref f) args) (CR CX outer P w H s Q E) s
theorem FnOk.mono {P : Program} {w : World} {K : PySem.W.Frag} {mg : Str → Option Value} {base : Heap} {CX : CXT} {j k : Nat} {f : Addr} {fd : FuncData} {ps : List Str} {sp : Sp} (F : FnOk P w K mg base CX j f fd ps sp) (h : j ≤ k) :
    FnOk P w K mg base CX k f fd ps sp := ⟨F.len, fun A outer s H args us vs Q E hr => F.run A outer s H args us vs Q E (hr.mono h)⟩
theorem FnOk.imp {P : Program} {w : World} {K : PySem.W.Frag} {mg : Str → Option Value} {base : Heap} {CX : CXT} {k : Nat} {f : Addr} {fd : FuncData} {ps : List Str} {sp sp' : Sp} (F : FnOk P w K mg base CX k f fd ps sp)
    (h : ∀ vs H Q E, sp' vs H Q E → sp vs H Q E) : FnOk P w K mg base CX k f fd ps sp' :=
  ⟨fun vs H Q E q => F.len vs H Q E (h _ _ _ _ q), fun A outer s H args us vs Q E hr he hb hv hs => F.run A outer s H args us vs Q E hr he hb hv (h _ _ _ _ hs)⟩
theorem Env0.make {P : Program} {w : World} {K : PySem.W.Frag} {mg : Str → Option Value} {base : Heap} {A : Around} {outer : List Env} {s : Shared} {H : Hp} (e : Env0 P w K mg base A outer s H) (C : Addr) (us : List Value) (kw : List (Str × Value)) :
    Env0 P w K mg base (A.under (.builtin "type.__call__" ⟨.ref C :: us, kw⟩)) outer s H := ⟨by first | exact e.frames | (simpa [Around.under, Code.envs, Code.isFrame, pushEnvs] using e.frames), e.mod, e.bs, e.bsz, e.funs, e.frf, e.hok, e.bare⟩
theorem Env0.in1 {P : Program} {w : World} {K : PySem.W.Frag} {mg : Str → Option Value} {base : Heap} {A : Around} {outer : List Env} {s : Shared} {H : Hp} (e : Env0 P w K mg base A outer s H) :
    Env0 P w K mg base A.in1 outer s H := ⟨e.frames, e.mod, e.bs, e.bsz, e.funs, e.frf, e.hok, e.bare⟩
section
variable {X : Cx} {pins : List (Addr × Obj)} {σ : St} {H : Hp} {s s' : Shared}
theorem Inv.env0 (I : Inv X pins σ H s) : Env0 X.prog X.w X.K X.mg X.base X.A X.stack s H :=
  ⟨I.ok.frames, I.ok.mod, I.bs, Nat.le_trans I.ok.bsz I.sz, I.stack, I.stkFree, I.hok, I.bare⟩
theorem Inv.after {Q : VK} {u : Value} (I : Inv X pins σ H s) (h : CE X.stack X.prog X.w H s Q u s') : EP X pins σ Q u s' := by
  obtain ⟨v, H', os, bare, un, hok, r, q⟩ := h
  obtain ⟨hh, g, d, t, os'⟩ := s'
  obtain rfl : os' = s.os := os
  exact ⟨v, H', I.call (h' := hh) (g' := g) (d' := d) (t' := t) (ch := []) un hok bare (fun b z => absurd z (by simp)), r, q⟩
end
def tCall (sp : Sp) (dvs : List V) (E : XK) (t : TA) : TE := fun σ H Q => t σ H fun vs H1 => sp (vs ++ dvs) H1 Q E
def tMeth (C : Addr) (m : Str) (sp : Sp) (dvs : List V) (E : XK) (ta : TE) (t : TA) : TE := fun σ H Q => ta σ H fun x H1 => ∃ a dx fs, x = .ref a ∧ H1 a = some (.ins C dx fs) ∧ fs.lookup m = none ∧
  t σ H1 fun vs H2 => sp (x :: (vs ++ dvs)) H2 Q E
def tMake (C : Addr) (sp : Sp) (dvs : List V) (E : XK) (t : TA) : TE := fun σ H Q => t σ H fun vs H1 => ∀ x dx, H1 x = none → H1 dx = none → dx ≠ x →
  sp (.ref x :: (vs ++ dvs)) (upd (upd H1 dx (.own x)) x (.ins C dx [])) (fun v H2 => v = .non ∧ Q (.ref x) H2) E
def Binds (K : PySem.W.Frag) (fd : FuncData) (ps : List Str) (ds : List Value) : Prop :=
  ∀ (s : Shared) (us : List Value), K.In s.heap → (us ++ ds).length = ps.length → BindsTo s fd ⟨us, []⟩ (ps.zip (us ++ ds))
theorem Binds.all {K : PySem.W.Frag} {fd : FuncData} {ps : List Str} (h : ∀ us : List Value, us.length = ps.length → bindArgs fd ⟨us, []⟩ = pure (ps.zip us)) : Binds K fd ps [] := fun s us _ hl => by
  rw [List.append_nil] at hl ⊢
  exact .of_eq (h us hl)
def Passes (CX : CXT) (X : Cx) (E : XK) : Prop := ∀ (pins : List (Addr × Obj)) (σ : St) (H : Hp) (s : Shared) (e : Value) (s' : Shared), Inv X pins σ H s → CX X.stack H s E e s' → X.xe e s'
section
variable {X : Cx} {CX : CXT} {k : Nat} {f C : Addr} {fd : FuncData} {ps : List Str} {sp : Sp} {dvs : List V} {ds : List Value} {E : XK} {x m : Str} {p pos apos : Pos} {e o : Expr} {es : List Expr} {ta : TE} {t : TA}
theorem run_fn {pins : List (Addr × Obj)} {σ : St} {H : Hp} {s : Shared} {Q : VK} {us : List Value} {vs : List V} (F : FnOk X.prog X.w X.K X.mg X.base CX k f fd ps sp) (hr : Room k X.A) (hb : Binds X.K fd ps ds) (hd : Vals dvs ds) (hx : Passes CX X E)
    (I : Inv X pins σ H s) (r : Vals vs us) (h : sp (vs ++ dvs) H Q E) : wpAny (model X.prog X.w) X.A (call (.ref f) us) (EP X pins σ Q) X.xe s := by
  have r2 : Vals (vs ++ dvs) (us ++ ds) := r.append hd
  have hl : (us ++ ds).length = ps.length := by rw [← r2.length]; exact F.len _ _ _ _ h
  refine wpAny_call (codeAny_mono (F.run X.A X.stack s H ⟨us, []⟩ (us ++ ds) (vs ++ dvs) Q E hr I.env0 (hb s us I.kIn hl) r2 h) fun r s' hq => ?_)
  cases r with
  | error e => exact hx pins σ H s e s' I hq
  | ok fl =>
    cases fl with
    | ret u => exact I.after hq
    | next => exact False.elim hq
    | brk => exact False.elim hq
    | cont => exact False.elim hq
theorem pe_call (F : FnOk X.prog X.w X.K X.mg X.base CX k f fd ps sp) (hr : Room k X.A) (hg : Gl X x) (hm : X.mg x = some (.ref f)) (hk : PySem.W.keepIn X.K (.ref f) = true) (hb : Binds X.K fd ps ds) (hd : Vals dvs ds) (hx : Passes CX X E)
    (ha : PA X (e :: es) t) (hdb : (x == ("__debug__" : Str)) = false := by decide) (he : starEach (e :: es) X.env = (false, eval e X.env) :: starEach es X.env := by rfl) (hpl : (backTo pos (starEach es X.env)).any (·.1) = false := by rfl) :
    PE X (.Call (.Name x p) (e :: es) [] pos) (tCall sp dvs E t) := by
  intro pins s σ H Q I h
  refine wpAny_Call_Name_kw (ld_glob I hg hm ?_ hdb)
  refine PySem.W.callWith_K (h₀ := X.base) I.ok.mod.kin hk (thn (ha pos pins s σ H _ I h) fun us s1 ⟨vs, H1, I1, r, q⟩ => ⟨I1.kIn, ?_⟩) he hpl
  exact run_fn F hr hb hd hx I1 r q
theorem pe_meth {pl : Sem Bool} (he : PE X o ta) (c : Cls X.K C) (hm : Meth X.K C m f) (F : FnOk X.prog X.w X.K X.mg X.base CX k f fd ps sp) (hr : Room k X.A) (hb : Binds X.K fd ps ds) (hd : Vals dvs ds) (hx : Passes CX X E) (ha : PA X (e :: es) t)
    (hst : starEach (e :: es) X.env = (false, eval e X.env) :: starEach es X.env := by rfl) (hpl : (backTo pos (starEach es X.env)).any (·.1) = false := by rfl)
    (ht : eval (.Call (.Attribute o m apos) (e :: es) [] pos) X.env = (do
      let ov ← eval o X.env
      standAt apos.atName
      let (f, first) ← holding [ov] (getMethod ov m pl)
      callWith pos f first (backTo pos (starEach (e :: es) X.env)) (backToKw pos (keywordEach [] X.env))) := by rfl) :
    PE X (.Call (.Attribute o m apos) (e :: es) [] pos) (tMeth C m sp dvs E ta t) := by
  intro pins s σ H Q I h
  refine PySem.W.methodCall_KW (pl := pl) (thn (he pins s σ H _ I h) fun u s1 ⟨x, H1, I1, rx, a, dx, fs, ex, ea, l, q⟩ => ?_) ht
  subst ex
  obtain rfl : u = Value.ref a := rx
  refine getmeth_ok I1 ea c hm l ?_
  refine PySem.W.callWith_K (first := [.ref a]) (h₀ := X.base) I.ok.mod.kin hm.kp (thn (ha pos pins s1 σ H1 _ I1 q) fun us s2 ⟨vs, H2, I2, r, q2⟩ => ⟨I2.kIn, ?_⟩) hst hpl
  exact run_fn (us := .ref a :: us) (vs := .ref a :: vs) F hr hb hd hx I2 (.cons rfl r) q2
theorem pe_meth0 {pl : Sem Bool} (he : PE X o ta) (c : Cls X.K C) (hm : Meth X.K C m f) (F : FnOk X.prog X.w X.K X.mg X.base CX k f fd ps sp) (hr : Room k X.A) (hb : Binds X.K fd ps ds) (hd : Vals dvs ds) (hx : Passes CX X E)
    (ht : eval (.Call (.Attribute o m apos) [] [] pos) X.env = (do
      let ov ← eval o X.env
      standAt apos.atName
      let (f, first) ← holding [ov] (getMethod ov m pl)
      callWith pos f first (backTo pos (starEach [] X.env)) (backToKw pos (keywordEach [] X.env))) := by rfl) :
    PE X (.Call (.Attribute o m apos) [] [] pos) (tMeth C m sp dvs E ta tNil) := by
  intro pins s σ H Q I h
  refine PySem.W.methodCall_KW (pl := pl) (thn (he pins s σ H _ I h) fun u s1 ⟨x, H1, I1, rx, a, dx, fs, ex, ea, l, q⟩ => ?_) ht
  subst ex
  obtain rfl : u = Value.ref a := rx
  refine getmeth_ok I1 ea c hm l ?_
  exact PySem.W.callWith_K0 (first := [.ref a]) I1.kIn hm.kp (run_fn (us := [.ref a]) (vs := [.ref a]) F hr hb hd hx I1 (.cons rfl .nil) q)
structure Mk (K : PySem.W.Frag) (C f : Addr) : Prop where
  makes : PySem.W.makesIn K C = true
  init : PySem.W.findIn K (.ref C) "__init__" = some (some (.ref f))
  fn : PySem.W.isFn K (.ref f) = true
  kp : PySem.W.keepIn K (.ref C) = true
theorem run_make {pins : List (Addr × Obj)} {σ : St} {H : Hp} {s : Shared} {Q : VK} {us : List Value} {vs : List V} (M : Mk X.K C f) (F : FnOk X.prog X.w X.K X.mg X.base CX k f fd ps sp) (hr : Room (k + 1) X.A) (hb : Binds X.K fd ps ds) (hd : Vals dvs ds)
    (hx : Passes CX X E) (I : Inv X pins σ H s) (r : Vals vs us)
    (h : ∀ x dx, H x = none → H dx = none → dx ≠ x → sp (.ref x :: (vs ++ dvs)) (upd (upd H dx (.own x)) x (.ins C dx [])) (fun v H2 => v = .non ∧ Q (.ref x) H2) E) :
    wpAny (model X.prog X.w) X.A (call (.ref C) us) (EP X pins σ Q) X.xe s := by
  have hq := h (s.heap.objs.size + 1) s.heap.objs.size (I.hok.fresh (Nat.le_succ _)) (I.hok.fresh (Nat.le_refl _)) (Nat.ne_of_lt (Nat.lt_succ_self _))
  have I2 := Inv.made (C := C) I
  have r2 : Vals (V.ref (s.heap.objs.size + 1) :: (vs ++ dvs)) (Value.ref (s.heap.objs.size + 1) :: (us ++ ds)) := .cons rfl (r.append hd)
  have hl : (Value.ref (s.heap.objs.size + 1) :: us ++ ds).length = ps.length := by
    have e := r2.length
    rw [F.len _ _ _ _ hq] at e
    exact e.symm
  refine wpAny_call (make_map (f := f) I.kIn M.makes M.init (beq_iff_eq.mp M.fn) (codeAny_mono (F.run _ X.stack _ _ ⟨Value.ref (s.heap.objs.size + 1) :: us, []⟩ (Value.ref (s.heap.objs.size + 1) :: (us ++ ds)) _ _ E (hr.make C us [])
    (I2.env0.make C us []) (hb _ (Value.ref (s.heap.objs.size + 1) :: us) I2.kIn hl) r2 hq) fun r s' hq' => ?_))
  cases r with
  | error e => exact hx pins σ _ _ e s' I2 hq'
  | ok fl =>
    cases fl with
    | ret u =>
      obtain ⟨v, H', I3, rv, ev, q3⟩ := I2.after hq'
      subst ev
      exact ⟨rv, ⟨V.ref (s.heap.objs.size + 1), H', I3, rfl, q3⟩⟩
    | next => exact False.elim hq'
    | brk => exact False.elim hq'
    | cont => exact False.elim hq'
theorem pe_make (M : Mk X.K C f) (F : FnOk X.prog X.w X.K X.mg X.base CX k f fd ps sp) (hr : Room (k + 1) X.A) (hg : Gl X x) (hm : X.mg x = some (.ref C)) (hb : Binds X.K fd ps ds) (hd : Vals dvs ds) (hx : Passes CX X E)
    (ha : PA X (e :: es) t) (hdb : (x == ("__debug__" : Str)) = false := by decide) (he : starEach (e :: es) X.env = (false, eval e X.env) :: starEach es X.env := by rfl) (hpl : (backTo pos (starEach es X.env)).any (·.1) = false := by rfl) :
    PE X (.Call (.Name x p) (e :: es) [] pos) (tMake C sp dvs E t) := by
  intro pins s σ H Q I h
  refine wpAny_Call_Name_kw (ld_glob I hg hm ?_ hdb)
  refine PySem.W.callWith_K (h₀ := X.base) I.ok.mod.kin M.kp (thn (ha pos pins s σ H _ I h) fun us s1 ⟨vs, H1, I1, r, q⟩ => ⟨I1.kIn, ?_⟩) he hpl
  exact run_make M F hr hb hd hx I1 r q
end
section
variable {X : Cx} {CX : CXT} {k : Nat} {f C : Addr} {fd : FuncData} {ps ks : List Str} {sp : Sp} {E : XK} {x m : Str} {p pos apos kpos : Pos} {e o : Expr} {es : List Expr} {kws : List Keyword} {te ta : TE} {t tk : TA} {nm : Option Str}
variable {g : List Value → List Value → List Value} {gV : List V → List V → List V}
end
structure FnScope (N P : List Str) (sc : Scope) : Prop where
  kind : sc.kind = .function
  co : sc.isCoroutine = false
  gen : sc.isGenerator = false
  nd : N.Nodup
  pre : N.take P.length = P
  par : ∀ x ∈ P, sc.names.lookup x = some .local ∨ sc.names.lookup x = some .cell
  nofree : ∀ y ∈ sc.names, y.2 ≠ .free
theorem bindL_out {kindOf : Str → Option NameKind} {x : Str} : ∀ {binds : List (Str × Value)} {m : Str → Option Value}, (∀ v, (x, v) ∉ binds) → bindL kindOf binds m x = m x
  | [], _, _ => rfl
  | (n, v) :: r, m, h => by
    unfold bindL
    rw [bindL_out fun w hw => h w (List.mem_cons_of_mem _ hw)]
    split
    · have : x ≠ n := by rintro rfl; exact h v List.mem_cons_self
      simp [this]
    · rfl
theorem bindC_out {kindOf : Str → Option NameKind} {x : Str} : ∀ {binds : List (Str × Value)} {m : Str → Option Value}, (∀ v, (x, v) ∉ binds) → bindC kindOf binds m x = m x
  | [], _, _ => rfl
  | (n, v) :: r, m, h => by
    unfold bindC
    rw [bindC_out fun w hw => h w (List.mem_cons_of_mem _ hw)]
    split
    · rfl
    · have : x ≠ n := by rintro rfl; exact h v List.mem_cons_self
      simp [this]
theorem bindL_get {kindOf : Str → Option NameKind} {x : Str} {v : Value} : ∀ {P : List Str} {vs : List Value} {i : Nat} {m : Str → Option Value}, P.Nodup → P[i]? = some x → vs[i]? = some v → kindOf x = some .local →
    bindL kindOf (P.zip vs) m x = some v
  | [], _, _, _, _, h, _, _ => by simp at h
  | _ :: _, [], _, _, _, _, h, _ => by simp at h
  | p :: P, w :: vs, 0, m, nd, h1, h2, hk => by
    simp at h1 h2; subst h1; subst h2
    show bindL kindOf ((p, w) :: P.zip vs) m p = _
    unfold bindL
    rw [bindL_out fun v hv => (List.nodup_cons.mp nd).1 (List.of_mem_zip hv).1, if_pos hk]
    simp
  | p :: P, w :: vs, i + 1, m, nd, h1, h2, hk => by
    show bindL kindOf ((p, w) :: P.zip vs) m x = _
    unfold bindL
    exact bindL_get (i := i) (List.nodup_cons.mp nd).2 (by simpa using h1) (by simpa using h2) hk
theorem bindC_get {kindOf : Str → Option NameKind} {x : Str} {v : Value} : ∀ {P : List Str} {vs : List Value} {i : Nat} {m : Str → Option Value}, P.Nodup → P[i]? = some x → vs[i]? = some v → kindOf x ≠ some .local →
    bindC kindOf (P.zip vs) m x = some v
  | [], _, _, _, _, h, _, _ => by simp at h
  | _ :: _, [], _, _, _, _, h, _ => by simp at h
  | p :: P, w :: vs, 0, m, nd, h1, h2, hk => by
    simp at h1 h2; subst h1; subst h2
    show bindC kindOf ((p, w) :: P.zip vs) m p = _
    unfold bindC
    rw [bindC_out fun v hv => (List.nodup_cons.mp nd).1 (List.of_mem_zip hv).1, if_neg hk]
    simp
  | p :: P, w :: vs, i + 1, m, nd, h1, h2, hk => by
    show bindC kindOf ((p, w) :: P.zip vs) m x = _
    unfold bindC
    exact bindC_get (i := i) (List.nodup_cons.mp nd).2 (by simpa using h1) (by simpa using h2) hk
def start (N : List Str) (vs : List V) : St := vs.map some ++ List.replicate (N.length - vs.length) none
def cxOf (CX : CXT) (P : Program) (w : World) (K : PySem.W.Frag) (mg : Str → Option Value) (base : Heap) (N : List Str) (qual : Str) (scope : Scope) (f : Addr) (cd : Value) (A : Around) (outer : List Env) (s : Shared) (H : Hp) (E : XK) : Cx where
  prog := P
  w := w
  K := K
  mg := mg
  base := base
  A := A.deeper (envOfC qual scope s.heap.objs.size f cd)
  N := N
  s₀ := s
  H₀ := H
  env := envOfC qual scope s.heap.objs.size f cd
  outer := outer
  stack := envOfC qual scope s.heap.objs.size f cd :: outer
  ex := []
  calm := true
  fn := fun _ => true
  pn := []
  xe := fun e s' => wpAny (model P w) (A.deeper (envOfC qual scope s.heap.objs.size f cd)) (leaving (envOfC qual scope s.heap.objs.size f cd) e) (fun _ s'' => CX outer H s E e s'') (fun e' s'' => CX outer H s E e' s'') s'
theorem cell_has {sc : Scope} {n : Nat} {x : Str} (h : sc.names.lookup x = some .cell) : ∃ c, (cellsFrom n sc.names []).lookup x = some c := by
  have q := PySem.W.cellsFrom_some sc.names n [] (.inl h)
  exact Option.isSome_iff_exists.mp q
theorem inv_start {CX : CXT} {P : Program} {w : World} {K : PySem.W.Frag} {mg : Str → Option Value} {base : Heap} {N ps : List Str} {qual : Str} {scope : Scope} {f : Addr} {cd : Value} {A : Around} {outer : List Env} {s s1 : Shared} {H : Hp} {E : XK} {us : List Value} {vs : List V}
    (S : FnScope N ps scope) (hd : A.handled = none) (e0 : Env0 P w K mg base A outer s H) (hl : vs.length = ps.length) (r : Vals vs us)
    (x : InCallC s s.heap.objs.size (bindL (envOfC qual scope s.heap.objs.size f cd).kindOf (ps.zip us) fun _ => none) (cellsFrom (s.heap.objs.size + 1) scope.names []) (bindC (envOfC qual scope s.heap.objs.size f cd).kindOf (ps.zip us) fun _ => none) s1) :
    Inv (cxOf CX P w K mg base N qual scope f cd A outer s H E) [] (start N vs) H s1 := by
  have hpl : ps.length ≤ N.length := by have := congrArg List.length S.pre; rw [List.length_take] at this; omega
  obtain ⟨h1, tk, rfl, hk⟩ := x.done
  have noA : ∀ b : Addr, b ∉ (cxOf CX P w K mg base N qual scope f cd A outer s H E).ex := fun b z => absurd (show b ∈ ([] : List Addr) from z) (by simp)
  refine ⟨⟨e0.mod, S.kind, rfl, rfl, Nat.le_refl _, fun y z c h1 h2 => ?_, fun y hy => ?_, fun y c _ h => ?_, fun _ => hd, Around.frames_deeper e0.frames, .inr ⟨rfl, rfl⟩, fun b z => absurd z (noA b), e0.bs, e0.bsz, fun b _ _ => noA b, fun b z => absurd z (noA b), e0.funs, e0.frf⟩,
    rfl, e0.bare, Un.kept hk, ⟨_, x.toInCall.ns, fun i y v h1 h2 h3 => ?_⟩, fun y c h => ⟨_, x.cell y c h⟩, e0.hok.fresh (Nat.le_refl _), fun y c h => ?_, fun p hp => absurd (show p ∈ ([] : List (Addr × Obj)) from hp) (by simp), e0.hok.kept hk, ?_⟩
  · exact name_of_addr x.apart (PySem.mem_of_lookup h1) (PySem.mem_of_lookup h2)
  · have hy : scope.names.lookup y = some .cell ∨ scope.names.lookup y = some .free := hy
    rcases hy with hy | hy
    · exact cell_has hy
    · exact absurd rfl (S.nofree _ (PySem.mem_of_lookup hy))
  · exact Nat.le_of_lt (x.above y c (PySem.mem_of_lookup h))
  · have hi : i < vs.length := by
      unfold start at h2
      by_cases hi : i < vs.length
      · exact hi
      · rw [List.getElem?_append_right (by simpa using hi)] at h2
        rw [List.getElem?_replicate] at h2
        split at h2 <;> cases h2
    have ha : vs[i]? = some v := by
      unfold start at h2
      rw [List.getElem?_append_left (by simpa using hi), List.getElem?_map] at h2
      cases e : vs[i]? with
      | none => rw [e] at h2; cases h2
      | some a => rw [e] at h2; cases h2; rfl
    obtain ⟨u, hu, rv⟩ := r.get ha
    have hp : ps[i]? = some y := by
      rw [← S.pre, List.getElem?_take_of_lt (by omega)]; exact h1
    have ndP : ps.Nodup := by rw [← S.pre]; exact S.nd.sublist (List.take_sublist _ _)
    refine ⟨u, rv, ?_⟩
    rcases S.par y (List.mem_of_getElem? hp) with k | k
    · exact .inl ⟨k, bindL_get ndP hp hu k⟩
    · obtain ⟨c, e⟩ := cell_has (n := s.heap.objs.size + 1) k
      refine .inr ⟨.inl k, c, e, ?_⟩
      have q := x.cell y c e
      rw [bindC_get ndP hp hu (by show scope.names.lookup y ≠ _; rw [k]; decide)] at q
      exact q
  · exact e0.hok.fresh (Nat.le_of_lt (x.above y c (PySem.mem_of_lookup h)))
  · unfold start
    show _ = N.length
    rw [List.length_append, List.length_map, List.length_replicate]
    omega
theorem fn_of {CX : CXT} {P : Program} {w : World} {K : PySem.W.Frag} {mg : Str → Option Value} {base : Heap} {k : Nat} {f : Addr} {name qual : Str} {params : Arguments} {body : List Stmt} {scope : Scope} {dV kV doc pm cdv ct oc : Value} {an od : Option Addr}
    {osl : Array (Option Value)} {N ps : List Str} {sp : Sp} (lk : K.lookup f = some ⟨oc, od, .func (PySem.W.fnOf name qual params body scope dV kV doc pm an cdv ct), osl⟩) (hcd : PySem.W.codeIn K cdv qual = true) (S : FnScope N ps scope)
    (len : ∀ vs H Q E, sp vs H Q E → vs.length = ps.length)
    (hbody : ∀ (A : Around) (outer : List Env) (s : Shared) (H : Hp) (vs : List V) (Q : VK) (E : XK), Room k (A.deeper (envOfC qual scope s.heap.objs.size f cdv)) → sp vs H Q E →
      ∃ t, PSs (cxOf CX P w K mg base N qual scope f cdv A outer s H E) body t ∧ t { nx := fun _ H' => Q .non H', rt := Q } (start N vs) H) :
    FnOk P w K mg base CX (k + 1) f (PySem.W.fnOf name qual params body scope dV kV doc pm an cdv ct) ps sp := by
  refine ⟨len, fun A outer s H args us vs Q E hr e0 hb r hsp => ?_⟩
  have hl := len _ _ _ _ hsp
  have KX : K.In s.heap := e0.mod.kin.keeps fun b o e => (e0.bs b o e).1
  have lim : s.heap.NoLimit := e0.mod.nolimit.keeps fun b o e => (e0.bs b o e).1
  have hkind : ∀ y ∈ ps.zip us, scope.names.lookup y.1 = some .local ∨ (scope.names.lookup y.1 = some .cell ∧ ((cellsFrom (s.heap.objs.size + 1) scope.names []).lookup y.1).isSome = true) := fun ⟨n, v⟩ hy => by
    rcases S.par n (List.of_mem_zip hy).1 with q | q
    · exact .inl q
    · exact .inr ⟨q, PySem.W.cellsFrom_some _ _ _ (.inl q)⟩
  refine codeAny_call_function hr.depth (KX _ _ lk) rfl S.co S.gen rfl (PySem.W.codeRec_of KX hcd) (hb _ _ _ _ ?_)
  refine wpAny_newFunctionEnv_cells S.kind hkind fun env he s1 x => ?_
  subst he
  refine ⟨lim.keeps x.toInCall.keep, codeAny_func ?_⟩
  obtain ⟨t, ht, hq⟩ := hbody A outer s H vs Q E (hr.deeper _) hsp
  have I : Inv (cxOf CX P w K mg base N qual scope f cdv A outer s H E) [] (start N vs) H s1 := inv_start S hr.hd e0 hl r x
  refine wpAny_mono (ht [] s1 (start N vs) H _ I hq) (fun fl s' hs => ?_) fun e s' hs => hs
  have fin : ∀ {σ' : St} {H' : Hp} {v : V} {u : Value}, Inv (cxOf CX P w K mg base N qual scope f cdv A outer s H E) [] σ' H' s' → RelV v u → Q v H' → CE outer P w H s Q u s' :=
    fun {σ' H' v u} J rv q => ⟨v, H', J.os, J.bare, J.base, J.hok, rv, q⟩
  cases fl with
  | ret u =>
    obtain ⟨v, σ', H', J, rv, q⟩ := hs
    exact fin J rv q
  | next =>
    obtain ⟨σ', H', J, q⟩ := hs
    exact fin (v := V.non) (u := Value.none) J rfl q
  | brk =>
    obtain ⟨_, _, _, q⟩ := hs
    exact False.elim q
  | cont =>
    obtain ⟨_, _, _, q⟩ := hs
    exact False.elim q
end L2
namespace L2
open PySem PySem.Spec PyProof.Rows
section
variable {X : Cx} {x : Str} {p pos : Pos} {e : Expr} {es : List Expr} {t : TA} {id T : String} {r : List V → Hp → VK → Prop}
def tCB (r : List V → Hp → VK → Prop) (t : TA) : TE := fun σ H Q => t σ H fun vs H1 => r vs H1 Q
theorem pe_callB (hc : CallR X (.builtin id) r) (hg : Gl X x) (hm : X.mg x = none) (hv : bootBuiltins x = some (.builtin id)) (ha : PA X (e :: es) t) (hn : x ≠ "__name__" := by decide) (hdb : (x == ("__debug__" : Str)) = false := by decide)
    (he : starEach (e :: es) X.env = (false, eval e X.env) :: starEach es X.env := by rfl) (hpl : (backTo pos (starEach es X.env)).any (·.1) = false := by rfl) : PE X (.Call (.Name x p) (e :: es) [] pos) (tCB r t) := by
  intro pins s σ H Q I h
  refine wpAny_Call_Name_kw (ld_blt I hg hm hv ?_ hn hdb)
  exact PyProof.Rows.callWith_builtin1 (thn (ha pos pins s σ H _ I h) fun us s1 ⟨vs, H1, I1, r1, q1⟩ => hc pins s1 σ H1 vs us Q I1 r1 q1) he hpl
theorem pe_callTy (hc : CallR X (.type T) r) (hg : Gl X x) (hm : X.mg x = none) (hv : bootBuiltins x = some (.type T)) (ha : PA X (e :: es) t) (hn : x ≠ "__name__" := by decide) (hdb : (x == ("__debug__" : Str)) = false := by decide)
    (he : starEach (e :: es) X.env = (false, eval e X.env) :: starEach es X.env := by rfl) (hpl : (backTo pos (starEach es X.env)).any (·.1) = false := by rfl) : PE X (.Call (.Name x p) (e :: es) [] pos) (tCB r t) := by
  intro pins s σ H Q I h
  refine wpAny_Call_Name_kw (ld_blt I hg hm hv ?_ hn hdb)
  exact PyProof.Rows.callWith_type1 (thn (ha pos pins s σ H _ I h) fun us s1 ⟨vs, H1, I1, r1, q1⟩ => hc pins s1 σ H1 vs us Q I1 r1 q1) he hpl
end
end L2
namespace HT
open PySem PyProof.Rows
section
open PySem.SeqAt
open PySem.AutoSeq1 (wpAny_loadPart')
open PySem.MeetsSeq PySem.MeetsSeq2 PySem.MeetsSeq3
end
section
variable {prog : Program} {w : World} {A : Around} {E : Value → Shared → Prop} {s : Shared}
def sIx (n d : Nat) : Option Int → Nat
  | none => d
  | some v => if v < 0 then (v + (n : Int)).toNat else min v.toNat n
theorem sIx_none (n d : Nat) : sIx n d none = d := rfl
theorem sIx_nat (n d k : Nat) : sIx n d (some (k : Int)) = min k n := by
  show (if (k : Int) < 0 then ((k : Int) + (n : Int)).toNat else min (k : Int).toNat n) = min k n
  rw [if_neg (by omega), Int.toNat_natCast]
theorem sIx_le (n d : Nat) (hd : d ≤ n) (o : Option Int) : sIx n d o ≤ n := by
  cases o with
  | none => exact hd
  | some v =>
    show (if v < 0 then (v + (n : Int)).toNat else min v.toNat n) ≤ n
    by_cases hv : v < 0
    · rw [if_pos hv]; omega
    · rw [if_neg hv]; exact Nat.min_le_right _ _
theorem clip_eq (v : Int) (n d : Nat) : (if v < 0 then max (v + (n : Int)) 0 else min v (n : Int)) = ((sIx n d (some v) : Nat) : Int) := by
  show (if v < 0 then max (v + (n : Int)) 0 else min v (n : Int)) = (((if v < 0 then (v + (n : Int)).toNat else min v.toNat n) : Nat) : Int)
  by_cases hv : v < 0
  · simp only [if_pos hv]; omega
  · simp only [if_neg hv]; omega
theorem adjust_gen (lo hi : Option Int) (n : Nat) : Builtin.Slice.sliceAdjust lo hi 1 (n : Int) = (((sIx n 0 lo : Nat) : Int), ((sIx n n hi : Nat) : Int)) := by
  have h1 : ¬ ((1 : Int) < 0) := by omega
  unfold Builtin.Slice.sliceAdjust
  simp only [h1, if_false]
  refine Prod.ext ?_ ?_
  · cases lo with
    | none => rfl
    | some v => exact clip_eq v n 0
  · cases hi with
    | none => rfl
    | some v => exact clip_eq v n n
theorem places_gen (i j : Nat) : Builtin.Slice.slicePlaces (i : Int) (j : Int) 1 = j - i := by
  unfold Builtin.Slice.slicePlaces
  have h1 : (1 : Int) > 0 := by omega
  simp only [h1, if_true, Int.ediv_one]
  split <;> omega
theorem slicePart_ {v : Value} {o : Option Int} {Q : Option Int → Shared → Prop} (p : IsPart v o) (h : Q o s) : wpAny (model prog w) A (Builtin.Slice.slicePartIndex v) Q E s := by
  cases p with
  | none => exact slicePart_none h
  | int i t => exact slicePart_int h
theorem sliceApplied_gen {sl : Addr} {vl vu : Value} {lo hi : Option Int} {n : Nat} {Q : Int × Int × Nat → Shared → Prop} (hs : s.heap.IsSliceOf sl vl vu .none) (pl : IsPart vl lo) (pu : IsPart vu hi)
    (h : Q (((sIx n 0 lo : Nat) : Int), 1, sIx n n hi - sIx n 0 lo) s) : wpAny (model prog w) A (Builtin.Slice.sliceApplied (.ref sl) (pure (n : Int))) Q E s := by
  obtain ⟨os, hos, hcs, hds⟩ := id hs
  unfold Builtin.Slice.sliceApplied Builtin.Slice.sliceFields
  refine wpAny_bind (wpAny_bind (wpAny_field hos hds (x := vl) rfl (wpAny_bind (wpAny_field hos hds (x := vu) rfl (wpAny_bind (wpAny_field hos hds (x := .none) rfl (wpAny_pure ?_)))))))
  refine wpAny_bind (slicePart_none ?_)
  show wpAny _ _ (if ((1 : Int) == 0) = true then _ else _) _ _ s
  rw [if_neg (by decide)]
  refine wpAny_bind (slicePart_ pl (wpAny_bind (slicePart_ pu (wpAny_bind (wpAny_pure ?_)))))
  show wpAny _ _ (match Builtin.Slice.sliceAdjust lo hi 1 (n : Int) with | (lo, hi) => pure (lo, (1 : Int), Builtin.Slice.slicePlaces lo hi 1)) _ _ s
  rw [adjust_gen lo hi n]
  show wpAny _ _ (pure (((sIx n 0 lo : Nat) : Int), (1 : Int), Builtin.Slice.slicePlaces ((sIx n 0 lo : Nat) : Int) ((sIx n n hi : Nat) : Int) 1)) _ _ s
  rw [places_gen]
  exact wpAny_pure h
theorem pick_gen (xs : Array Value) (i k : Nat) : ((List.range k).filterMap fun (m : Nat) => xs[((i : Int) + (m : Int) * 1).toNat]?).toArray = ((xs.toList.drop i).take k).toArray := by
  have e : (fun (m : Nat) => xs[((i : Int) + (m : Int) * 1).toNat]?) = fun m => xs[i + m]? := by
    funext m
    have : ((i : Int) + (m : Int) * 1).toNat = i + m := by omega
    rw [this]
  rw [e]
  have := pick_run xs i k
  rw [List.filterMap_map] at this
  have e2 : ((fun x => xs[x]?) ∘ fun x => i + x) = fun m => xs[i + m]? := rfl
  rw [e2] at this
  rw [this]
theorem getItem_tuple_cut {t sl : Addr} {items : Array Value} {vl vu : Value} {lo hi : Option Int} {Q : Value → Shared → Prop} (ht : IsTup s.heap t items) (hs : s.heap.IsSliceOf sl vl vu .none) (pl : IsPart vl lo) (pu : IsPart vu hi)
    (hw : ¬ (sIx items.size 0 lo = 0 ∧ sIx items.size items.size hi = items.size))
    (h : Q (.ref s.heap.objs.size) { s with heap := s.heap.push { cls := .type "tuple", data := .seq ((items.toList.drop (sIx items.size 0 lo)).take (sIx items.size items.size hi - sIx items.size 0 lo)).toArray } })
    (hsz : items.size ≤ sizeLine) : wpAny (model prog w) A (getItem (.ref t) (.ref sl)) Q E s := by
  have htake : sizeOk (.seq ((items.toList.drop (sIx items.size 0 lo)).take (sIx items.size items.size hi - sIx items.size 0 lo)).toArray) := by
    show ((items.toList.drop (sIx items.size 0 lo)).take (sIx items.size items.size hi - sIx items.size 0 lo)).toArray.size ≤ sizeLine
    rw [List.size_toArray, List.length_take, List.length_drop, Array.length_toList]
    omega
  have hj : sIx items.size items.size hi ≤ items.size := sIx_le _ _ (Nat.le_refl _) hi
  obtain ⟨os, hos, hcs, hds⟩ := id hs
  have hTs : s.TypeIs (.ref sl) "slice" := ⟨os, hos, hcs⟩
  unfold getItem
  try with_reducible refine wpAny_holding ?_
  first | refine wpAny_bind (wpAny_pure ?_) | skip
  refine wpAny_bind (wpAny_sequenceKey ht.typeIs (by decide) ?_)
  refine wpAny_bind (wpAny_callSpecial?_slot (name := Str.ofString "__getitem__") ht.typeIs PyProof.Rows.slot_tuple_getitem
    (wpAny_call_entry PyProof.Rows.slot_tuple_getitem ht.typeIs entry_tuple_getitem ?_ (args_tuple_getitem _ _)))
  show wpAny _ _ (Builtin.Tuple.tupleItemsOf (.ref t) >>= _) _ _ s
  refine wpAny_bind (tupleItemsOf_ ht ?_)
  refine wpAny_bind (wpAny_typeOf hTs ?_)
  rw [if_pos (by decide)]
  refine wpAny_bind (sliceApplied_gen hs pl pu ?_)
  have hno : ¬ ((((sIx items.size 0 lo : Nat) : Int) == 0 && (1 : Int) == 1 && (sIx items.size items.size hi - sIx items.size 0 lo) == items.size) = true) := by
    intro q
    rw [Bool.and_eq_true, Bool.and_eq_true] at q
    have q1 : ((sIx items.size 0 lo : Nat) : Int) = 0 := eq_of_beq q.1.1
    have q2 : sIx items.size items.size hi - sIx items.size 0 lo = items.size := eq_of_beq q.2
    exact hw ⟨by omega, by omega⟩
  show wpAny _ _ (if (((sIx items.size 0 lo : Nat) : Int) == 0 && (1 : Int) == 1 && (sIx items.size items.size hi - sIx items.size 0 lo) == items.size) = true then _ else _) _ _ s
  rw [if_neg hno, pick_gen]
  first
    | exact wpAny_bind (m := Builtin.Tuple.tupleExact _) (wpAny_newObj_type (wpAny_pure ⟨_, rfl, wpAny_pure h⟩) htake)
    | exact wpAny_bind (m := Builtin.Tuple.tupleExact _) (wpAny_newObj_type (wpAny_bind (wpAny_pure (wpAny_pure ⟨_, rfl, wpAny_pure h⟩))) htake)
    | exact wpAny_bind (wpAny_bind (m := Builtin.Tuple.tupleExact _) (wpAny_newObj_type (wpAny_pure (wpAny_pure ⟨_, rfl, wpAny_pure h⟩)) htake))
    | exact wpAny_bind (wpAny_bind (m := Builtin.Tuple.tupleExact _) (wpAny_newObj_type (wpAny_pure ⟨_, rfl, wpAny_pure h⟩) htake))
end
end HT
namespace L2
open PySem PySem.Spec PyProof.Rows
abbrev TO := St → Hp → (Option Int → Hp → Prop) → Prop
def PO (X : Cx) (e : Option Expr) (t : TO) : Prop :=
  ∀ (pins : List (Addr × Obj)) (s : Shared) (σ : St) (H : Hp) (Q : Option Int → Hp → Prop), Inv X pins σ H s → t σ H Q →
    wpAny (model X.prog X.w) X.A (evalPart e X.env) (fun u s' => ∃ o H', Inv X pins σ H' s' ∧ IsPart u o ∧ Q o H') X.xe s
def tNoPart : TO := fun _ H Q => Q none H
def tPart (t : TE) : TO := fun σ H Q => t σ H fun x H1 => ∃ i, x = .int i ∧ Q (some i) H1
section
variable {X : Cx} {e : Expr} {te : TE} {lo hi : Option Expr} {tl th : TO} {pos p2 : Pos}
theorem po_none : PO X none tNoPart := by
  intro pins s σ H Q I h
  rw [evalPart_none]
  exact wpAny_pure ⟨none, H, I, .none, h⟩
theorem po_some (h : PE X e te) : PO X (some e) (tPart te) := by
  intro pins s σ H Q I hw
  rw [evalPart_some]
  refine thn (h pins s σ H _ I hw) fun u s1 ⟨x, H1, I1, r1, q1⟩ => ?_
  obtain ⟨i, rfl, q⟩ := q1
  obtain ⟨t, rfl⟩ := r1
  exact ⟨some i, H1, I1, .int i t, q⟩
def SlR (X : Cx) (r : V → Option Int → Option Int → Hp → VK → Prop) : Prop :=
  ∀ (pins : List (Addr × Obj)) (s : Shared) (σ : St) (H : Hp) (x : V) (v vl vu : Value) (lo hi : Option Int) (sl : Addr) (Q : VK), Inv X pins σ H s → RelV x v → s.heap.IsSliceOf sl vl vu .none → IsPart vl lo → IsPart vu hi → r x lo hi H Q →
    ∃ T id, typeLookup (.type T) "__getitem__" = pure (some (.builtin id)) ∧ s.TypeIs v T ∧ wpAny (model X.prog X.w) X.A (getItem v (.ref sl)) (EP X pins σ Q) X.xe s
theorem SlR.or {r r' : V → Option Int → Option Int → Hp → VK → Prop} (h : SlR X r) (h' : SlR X r') : SlR X (fun x lo hi H Q => r x lo hi H Q ∨ r' x lo hi H Q) := by
  intro pins s σ H x v vl vu lo hi sl Q I rx hs pl pu q
  rcases q with q | q
  · exact h pins s σ H x v vl vu lo hi sl Q I rx hs pl pu q
  · exact h' pins s σ H x v vl vu lo hi sl Q I rx hs pl pu q
def tSl (r : V → Option Int → Option Int → Hp → VK → Prop) (te : TE) (tl th : TO) : TE := fun σ H Q => te σ H fun x H1 => tl σ H1 fun l H2 => th σ H2 fun u H3 => r x l u H3 Q
theorem pe_slice {r : V → Option Int → Option Int → Hp → VK → Prop} (hr : SlR X r) (he : PE X e te) (hl : PO X lo tl) (hu : PO X hi th) : PE X (.Subscript e (.Slice lo hi none p2) pos) (tSl r te tl th) := by
  intro pins s σ H Q I h
  refine Subscript_ (thn (he pins s σ H _ I h) fun v s1 ⟨x, H1, I1, r1, q1⟩ => ?_)
  refine wpAny_Slice (thn (hl pins s1 σ H1 _ I1 q1) fun vl s2 ⟨l, H2, I2, pl, q2⟩ => thn (hu pins s2 σ H2 _ I2 q2) fun vu s3 ⟨u, H3, I3, pu, q3⟩ => ?_)
  rw [evalPart_none]
  refine wpAny_pure ?_
  have I4 : Inv X pins σ H3 { s3 with heap := s3.heap.push { cls := .type "slice", data := .fields #[vl, vu, .none] } } := I3.kept (t' := s3.toks) fun b ob q => Heap.get?_push_of_some _ q
  obtain ⟨T, id, hT, ht, hg⟩ := hr pins { s3 with heap := s3.heap.push { cls := .type "slice", data := .fields #[vl, vu, .none] } } σ H3 x v vl vu l u s3.heap.objs.size Q I4 r1 (Heap.IsSliceOf.new ..) pl pu q3
  show wpAny (model X.prog X.w) X.A (subscriptTail e (.Slice lo hi none p2) v (.ref s3.heap.objs.size)) (EP X pins σ Q) X.xe { s3 with heap := s3.heap.push { cls := .type "slice", data := .fields #[vl, vu, .none] } }
  exact tail_any (ops := [.ref s3.heap.objs.size, v]) ht hT hg (by with_unfolding_all rfl)
def cutV (xs : List V) (lo hi : Option Int) : List V := (xs.drop (HT.sIx xs.length 0 lo)).take (HT.sIx xs.length xs.length hi - HT.sIx xs.length 0 lo)
theorem cutV_length (xs : List V) (lo hi : Option Int) : (cutV xs lo hi).length ≤ xs.length := by
  unfold cutV
  rw [List.length_take, List.length_drop]
  omega
def rSlT (K : PySem.W.Frag) : V → Option Int → Option Int → Hp → VK → Prop := fun x lo hi H Q => ∃ a xs, x = .ref a ∧ SqT K H a xs ∧
  ¬ (HT.sIx xs.length 0 lo = 0 ∧ HT.sIx xs.length xs.length hi = xs.length) ∧ ∀ p, H p = none → Q (.ref p) (upd H p (.tup (cutV xs lo hi)))
theorem sl_tup : SlR X (rSlT X.K) := by
  intro pins s σ H x v vl vu lo hi sl Q I rx hs pl pu h
  obtain ⟨a, xs, rfl, hx, hw, q⟩ := h
  cases rx
  obtain ⟨its, r, ht, hz⟩ := I.tuple hx
  have hlen : its.toArray.size = xs.length := by rw [List.size_toArray]; exact r.length.symm
  refine ⟨"tuple", _, PyProof.Rows.slot_tuple_getitem.lookup, ht.typeIs, ?_⟩
  refine HT.getItem_tuple_cut ht hs pl pu (by rw [hlen]; exact hw) ?_ (by rw [hlen]; exact hz)
  rw [hlen]
  refine ⟨.ref s.heap.objs.size, _, I.laid (t' := s.toks) (o := .tup (cutV xs lo hi)) (fun b ob q => Heap.get?_push_of_some _ q) (Nat.le_refl _) ?_, rfl, q _ (I.hok.fresh (Nat.le_refl _))⟩
  exact ⟨⟨Nat.le_trans (cutV_length xs lo hi) hz, fun _ => ⟨_, Heap.get?_push_size _ rfl, rfl, rfl⟩⟩, _, (r.drop (HT.sIx xs.length 0 lo)).take (HT.sIx xs.length xs.length hi - HT.sIx xs.length 0 lo), IsTup.new _ _⟩
end
end L2
namespace L2
open PySem PySem.Spec PyProof.Rows
def ixN (n : Nat) (i : Int) : Option Nat := if 0 ≤ i then (if i < n then some i.toNat else none) else if -(n : Int) ≤ i then some (i + n).toNat else none
def atI {α : Type} (xs : List α) (i : Int) : Option α := (ixN xs.length i).bind fun j => xs[j]?
theorem ixN_seq {n : Nat} {i : Int} {j : Nat} (h : ixN n i = some j) : seqIndex? i n = some j ∧ j < n ∧ -(n : Int) ≤ i ∧ i < n := by
  unfold ixN at h
  by_cases h0 : 0 ≤ i
  · rw [if_pos h0] at h
    by_cases h1 : i < n
    · rw [if_pos h1] at h
      have e : i.toNat = j := Option.some.inj h
      exact ⟨by rw [seqIndex_of h0 h1, e], by omega, by omega, h1⟩
    · rw [if_neg h1] at h; cases h
  · rw [if_neg h0] at h
    by_cases h1 : -(n : Int) ≤ i
    · rw [if_pos h1] at h
      have e : (i + n).toNat = j := Option.some.inj h
      exact ⟨by rw [seqIndex_neg (by omega) h1, e], by omega, h1, by omega⟩
    · rw [if_neg h1] at h; cases h
theorem atI_get {α : Type} {xs : List α} {i : Int} {v : α} (h : atI xs i = some v) : ∃ j, seqIndex? i xs.length = some j ∧ xs[j]? = some v ∧ j < xs.length ∧ -(xs.length : Int) ≤ i ∧ i < xs.length := by
  unfold atI at h
  cases e : ixN xs.length i with
  | none => rw [e] at h; cases h
  | some j =>
    rw [e] at h
    obtain ⟨h1, h2, h3, h4⟩ := ixN_seq e
    exact ⟨j, h1, h, h2, h3, h4⟩
theorem atI_nat {α : Type} {xs : List α} {j : Nat} {v : α} (h : xs[j]? = some v) : atI xs (j : Int) = some v := by
  have hj : j < xs.length := (List.getElem?_eq_some_iff.mp h).1
  have e : ixN xs.length (j : Int) = some j := by
    unfold ixN
    rw [if_pos (by omega), if_pos (by omega)]; simp
  unfold atI; rw [e]; exact h
def PlainIx (b : Expr) : Prop := ∀ o i, subscripted b false o i = operate [o, i] (getItem o i)
def IxR (X : Cx) (r : R2) : Prop :=
  ∀ (value slice : Expr) (pins : List (Addr × Obj)) (s : Shared) (σ : St) (H : Hp) (x y : V) (v u : Value) (Q : VK), Inv X pins σ H s → RelV x v → RelV y u → r x y H Q →
    subscripted slice false v u = operate [v, u] (getItem v u) → wpAny (model X.prog X.w) X.A (subscriptTail value slice v u) (EP X pins σ Q) X.xe s
def MtR (X : Cx) (id : String) (r : V → List V → Hp → VK → Prop) : Prop :=
  ∀ (pins : List (Addr × Obj)) (s : Shared) (σ : St) (H : Hp) (x : V) (xs : List V) (v : Value) (us : List Value) (Q : VK), Inv X pins σ H s → RelV x v → Vals xs us → r x xs H Q →
    wpAny (model X.prog X.w) X.A (call (.builtin id) (v :: us)) (EP X pins σ Q) X.xe s
section
variable {X : Cx} {a b : Expr} {ta tb : TE} {pos : Pos}
theorem IxR.or {r r' : R2} (h : IxR X r) (h' : IxR X r') : IxR X (fun x y H Q => r x y H Q ∨ r' x y H Q) := by
  intro value slice pins s σ H x y v u Q I rx ry q hs
  rcases q with q | q
  · exact h value slice pins s σ H x y v u Q I rx ry q hs
  · exact h' value slice pins s σ H x y v u Q I rx ry q hs
theorem MtR.or {id : String} {r r' : V → List V → Hp → VK → Prop} (h : MtR X id r) (h' : MtR X id r') : MtR X id (fun x xs H Q => r x xs H Q ∨ r' x xs H Q) := by
  intro pins s σ H x xs v us Q I rx rs q
  rcases q with q | q
  · exact h pins s σ H x xs v us Q I rx rs q
  · exact h' pins s σ H x xs v us Q I rx rs q
theorem pe_ix {r : R2} (hr : IxR X r) (ha : PE X a ta) (hb : PE X b tb) (hs : PlainIx b) : PE X (.Subscript a b pos) (tOp r ta tb) := by
  intro pins s σ H Q I h
  exact Subscript_ (binT ha hb I h fun v u s2 x y H2 I2 rx ry q => hr a b pins s2 σ H2 x y v u Q I2 rx ry q (hs _ _))
def rIxL (K : PySem.W.Frag) : R2 := fun x y H Q => ∃ p xs i v, x = .ref p ∧ y = .int i ∧ SqL K H p xs ∧ atI xs i = some v ∧ Q v H
def rIxT (K : PySem.W.Frag) : R2 := fun x y H Q => ∃ p xs i v, x = .ref p ∧ y = .int i ∧ SqT K H p xs ∧ atI xs i = some v ∧ Q v H
theorem ix_list : IxR X (rIxL X.K) := by
  intro value slice pins s σ H x y v u Q I rx ry h hs
  obtain ⟨p, xs, i, z, rfl, rfl, hq, he, q⟩ := h
  cases rx
  obtain ⟨t, rfl⟩ := ry
  obtain ⟨its, r, pl, hz⟩ := I.list hq
  obtain ⟨j, h1, h2, h3, h4, h5⟩ := atI_get he
  obtain ⟨w, ew, rw'⟩ := r.get h2
  have hl := r.length
  have hn := line63
  have fin : EP X pins σ Q w s := ⟨z, H, I, rw', q⟩
  by_cases h0 : 0 ≤ i
  · have hj : i.toNat = j := by
      rw [seqIndex_of h0 h5] at h1
      exact Option.some.inj h1
    exact item_listR pl.isList h0 (by omega) (by rw [hj]; simpa using ew) fin hs
  · have hj : (i + (its.toArray.size : Int)).toNat = j := by
      rw [seqIndex_neg (by omega) h4] at h1
      rw [List.size_toArray, ← hl]
      exact Option.some.inj h1
    exact subscriptTail_builtinR (x := w) pl.isList.typeIs slot_list_getitem.lookup
      (wpAny_getItem_list_neg (Q := fun r s' => r = w ∧ EP X pins σ Q r s') pl.isList (by omega) (by rw [List.size_toArray] <;> omega) (by omega) (by rw [hj]; simpa using ew) ⟨rfl, fin⟩) hs
theorem ix_tup : IxR X (rIxT X.K) := by
  intro value slice pins s σ H x y v u Q I rx ry h hs
  obtain ⟨p, xs, i, z, rfl, rfl, hq, he, q⟩ := h
  cases rx
  obtain ⟨t, rfl⟩ := ry
  obtain ⟨its, r, pl, hz⟩ := I.tuple hq
  obtain ⟨j, h1, h2, h3, h4, h5⟩ := atI_get he
  obtain ⟨w, ew, rw'⟩ := r.get h2
  have hl := r.length
  have hn := line63
  have fin : EP X pins σ Q w s := ⟨z, H, I, rw', q⟩
  exact subscriptTail_builtinR (x := w) pl.typeIs slot_tuple_getitem.lookup
    (getItem_tuple (j := j) (Q := fun r s' => r = w ∧ EP X pins σ Q r s') pl (by omega) (by omega) (by rw [List.size_toArray, ← hl]; exact h1) (by simpa using ew) ⟨rfl, fin⟩) hs
theorem mapSeq_set (its : List Value) (n j : Nat) (u : Value) : Obj.mapSeq (·.setIfInBounds j u) { cls := .type "list", data := .seq its.toArray n } = { cls := .type "list", data := .seq (its.set j u).toArray n } := by
  simp [Obj.mapSeq]
theorem Inv.lst {pins : List (Addr × Obj)} {σ : St} {H : Hp} {s : Shared} {p : Addr} {xs : List V} (I : Inv X pins σ H s) (h : H p = some (.lst xs)) :
    ∃ (its : List Value) (n : Nat), Vals xs its ∧ s.heap.get? p = some { cls := .type "list", data := .seq its.toArray n } ∧ xs.length ≤ sizeLine := by
  obtain ⟨z, its, n, r, e⟩ := I.hok p _ h
  exact ⟨its, n, r, e, z⟩
theorem Inv.lstUpd {pins : List (Addr × Obj)} {σ : St} {H : Hp} {s : Shared} {p : Addr} {xs ys : List V} {its its' : List Value} {n n' : Nat} {f : Obj → Obj} (I : Inv X pins σ H s) (h : H p = some (.lst xs))
    (ho : s.heap.get? p = some { cls := .type "list", data := .seq its.toArray n }) (hf : f { cls := .type "list", data := .seq its.toArray n } = { cls := .type "list", data := .seq its'.toArray n' }) (r : Vals ys its') (hz : ys.length ≤ sizeLine) (t : Nat) :
    Inv X pins σ (upd H p (.lst ys)) { s with heap := s.heap.update p f, toks := t } := by
  have e : (s.heap.update p f).get? p = some { cls := .type "list", data := .seq its'.toArray n' } := by
    rw [Heap.get?_update_self f ho (by rw [hf] <;> rfl), hf]
  refine I.write (x := p) (e := p) (by rw [h]; trivial) (.inl rfl) (fun b u hb q => (Heap.get?_update_other _ _ (Ne.symm hb)).trans q) ⟨_, e⟩ ?_
  exact ⟨hz, its', n', r, e⟩
def rSetL : V → V → V → Hp → (Hp → Prop) → Prop := fun o i v H Q => ∃ p xs k j, o = .ref p ∧ i = .int k ∧ H p = some (.lst xs) ∧ ixN xs.length k = some j ∧ Q (upd H p (.lst (xs.set j v)))
theorem set_list : PSet X rSetL := by
  intro pins s σ H o i v ov iv u Q I ro ri rv h
  obtain ⟨p, xs, k, j, rfl, rfl, hp, hj, q⟩ := h
  cases ro
  obtain ⟨t, rfl⟩ := ri
  obtain ⟨its, n, r, ho, hz⟩ := I.lst hp
  obtain ⟨h1, h2, h3, h4⟩ := ixN_seq hj
  have hl := r.length
  have hn := line63
  have I' : Inv X pins σ (upd H p (.lst (xs.set j v))) { s with heap := s.heap.update p (Obj.mapSeq (·.setIfInBounds j u)) } :=
    I.lstUpd hp ho (mapSeq_set its n j u) (r.set rv j) (by rw [List.length_set]; exact hz) s.toks
  by_cases h0 : 0 ≤ k
  · have hk : k.toNat = j := by
      rw [seqIndex_of h0 h4] at h1
      exact Option.some.inj h1
    exact PySem.W.ki_setAt ho h0 (by omega) (by rw [List.size_toArray, ← hl]; exact h4) (by rw [hk]; exact ⟨_, I', q⟩)
  · have hk : (k + (its.toArray.size : Int)).toNat = j := by
      rw [seqIndex_neg (by omega) h3] at h1
      rw [List.size_toArray, ← hl]
      exact Option.some.inj h1
    exact PySem.W.ki_setBack ho (by omega) (by rw [List.size_toArray, ← hl]; exact h3) (by omega) (by rw [hk]; exact ⟨_, I', q⟩)
theorem slice_bounds (lo hi : Option Int) (n : Nat) : (sliceBounds lo hi none n).1 = ((HT.sIx n 0 lo : Nat) : Int) ∧ (sliceBounds lo hi none n).2.1 = ((HT.sIx n n hi : Nat) : Int) ∧ (sliceBounds lo hi none n).2.2 = 1 := by
  refine ⟨?_, ?_, rfl⟩
  · cases lo with
    | none => simp [sliceBounds, HT.sIx]
    | some i =>
      simp only [sliceBounds, HT.sIx, Option.getD_none, show (1 : Int) > 0 by decide, if_true]
      by_cases h : i < 0
      · simp only [h, if_true] <;> omega
      · simp only [h, if_false] <;> omega
  · cases hi with
    | none => simp [sliceBounds, HT.sIx]
    | some i =>
      simp only [sliceBounds, HT.sIx, Option.getD_none, show (1 : Int) > 0 by decide, if_true]
      by_cases h : i < 0
      · simp only [h, if_true] <;> omega
      · simp only [h, if_false] <;> omega
theorem slicePick_cut (its : List Value) (lo hi : Option Int) : slicePick its.toArray lo hi none = ((its.drop (HT.sIx its.length 0 lo)).take (HT.sIx its.length its.length hi - HT.sIx its.length 0 lo)).toArray := by
  obtain ⟨h1, h2, h3⟩ := slice_bounds lo hi its.toArray.size
  unfold slicePick
  rw [h1, h2, h3]
  simp only [sliceRange_one, pick_run, List.size_toArray] <;> rfl
def rSlL (K : PySem.W.Frag) : V → Option Int → Option Int → Hp → VK → Prop := fun x lo hi H Q => ∃ a xs, x = .ref a ∧ SqL K H a xs ∧ ∀ p, H p = none → Q (.ref p) (upd H p (.lst (cutV xs lo hi)))
theorem sl_list : SlR X (rSlL X.K) := by
  intro pins s σ H x v vl vu lo hi sl Q I rx hs pl pu h
  obtain ⟨a, xs, rfl, hx, q⟩ := h
  cases rx
  obtain ⟨its, r, ht, hz⟩ := I.list hx
  have hlen := r.length
  refine ⟨"list", _, slot_list_getitem.lookup, ht.isList.typeIs, ?_⟩
  refine wpAny_getItem_list_slice ht.isList hs pl pu .none (by simp) ?_ (by rw [List.size_toArray] <;> omega)
  rw [slicePick_cut, ← hlen]
  refine ⟨.ref s.heap.objs.size, _, I.laid (t' := s.toks) (o := .lst (cutV xs lo hi)) (fun b ob q => Heap.get?_push_of_some _ q) (Nat.le_refl _) ?_, rfl, q _ (I.hok.fresh (Nat.le_refl _))⟩
  exact ⟨Nat.le_trans (cutV_length xs lo hi) hz, _, 0, (r.drop (HT.sIx xs.length 0 lo)).take (HT.sIx xs.length xs.length hi - HT.sIx xs.length 0 lo), Heap.get?_push_size _ rfl⟩
def flatV : V → Bool
  | .non => true
  | .bl _ => true
  | .int _ => true
  | .str _ => true
  | _ => false
def eqV : V → V → Bool
  | .non, .non => true
  | .bl a, .bl b => a == b
  | .bl a, .int b => (if a then 1 else 0) == b
  | .int a, .bl b => a == (if b then 1 else 0)
  | .int a, .int b => a == b
  | .str a, .str b => a == b
  | _, _ => false
theorem eqAt_V {A : Around} {s : Shared} {y x : V} {u v : Value} (ry : RelV y u) (rx : RelV x v) (fy : flatV y = true) (fx : flatV x = true) : SeqAt.EqAt A s u v (eqV y x) := by
  cases y with
  | non =>
    cases ry
    cases x with
    | non => cases rx; exact SeqAt.EqAt.same _
    | bl b => cases rx; exact SeqAt.EqAt.none_bool b
    | int b => obtain ⟨t, rfl⟩ := rx; exact SeqAt.EqAt.none_int b t
    | str b => obtain ⟨t, rfl⟩ := rx; exact SeqAt.EqAt.none_str b t
    | _ => exact absurd (show false = true from fx) Bool.false_ne_true
  | bl a =>
    cases ry
    cases x with
    | non => cases rx; exact SeqAt.EqAt.bool_none a
    | bl b => cases rx; exact SeqAt.EqAt.bool_bool a b
    | int b => obtain ⟨t, rfl⟩ := rx; exact SeqAt.EqAt.bool_int a b t
    | str b => obtain ⟨t, rfl⟩ := rx; exact SeqAt.EqAt.bool_str a b t
    | _ => exact absurd (show false = true from fx) Bool.false_ne_true
  | int a =>
    obtain ⟨t', rfl⟩ := ry
    cases x with
    | non => cases rx; exact SeqAt.EqAt.int_none a t'
    | bl b => cases rx; exact SeqAt.EqAt.int_bool a t' b
    | int b => obtain ⟨t, rfl⟩ := rx; exact SeqAt.EqAt.int_int a t' b t
    | str b => obtain ⟨t, rfl⟩ := rx; exact SeqAt.EqAt.int_str a t' b t
    | _ => exact absurd (show false = true from fx) Bool.false_ne_true
  | str a =>
    obtain ⟨t', rfl⟩ := ry
    cases x with
    | non => cases rx; exact SeqAt.EqAt.str_none a t'
    | bl b => cases rx; exact SeqAt.EqAt.str_bool a t' b
    | int b => obtain ⟨t, rfl⟩ := rx; exact SeqAt.EqAt.str_int a t' b t
    | str b => obtain ⟨t, rfl⟩ := rx; exact SeqAt.EqAt.str_str a t' b t
    | _ => exact absurd (show false = true from fx) Bool.false_ne_true
  | _ => exact absurd (show false = true from fy) Bool.false_ne_true
def eqU (x : V) (u : Value) : Bool := match u with
  | .none => eqV .non x
  | .bool b => eqV (.bl b) x
  | .int i _ => eqV (.int i) x
  | .str z _ => eqV (.str z) x
  | _ => false
theorem eqU_of {x y : V} {u : Value} (r : RelV y u) (f : flatV y = true) : eqU x u = eqV y x := by
  cases y with
  | non => cases r; rfl
  | bl b => cases r; rfl
  | int i => obtain ⟨t, rfl⟩ := r; rfl
  | str z => obtain ⟨t, rfl⟩ := r; rfl
  | _ => exact absurd (show false = true from f) Bool.false_ne_true
theorem any_eqU {x : V} : ∀ {xs : List V} {us : List Value}, Vals xs us → xs.all flatV = true → us.any (eqU x) = xs.any fun y => eqV y x
  | _, _, .nil, _ => rfl
  | y :: xs, u :: us, .cons r t, f => by
    rw [List.all_cons, Bool.and_eq_true] at f
    rw [List.any_cons, List.any_cons, eqU_of r f.1, any_eqU t f.2]
theorem mem_eqAt {A : Around} {s : Shared} {x : V} {v : Value} (rx : RelV x v) (fx : flatV x = true) : ∀ {xs : List V} {us : List Value}, Vals xs us → xs.all flatV = true → ∀ u ∈ us, SeqAt.EqAt A s u v (eqU x u)
  | _, _, .nil, _ => fun u hu => by cases hu
  | y :: xs, u :: us, .cons r t, f => fun u' hu => by
    rw [List.all_cons, Bool.and_eq_true] at f
    rcases List.mem_cons.mp hu with rfl | hu
    · rw [eqU_of r f.1]; exact eqAt_V r rx f.1 fx
    · exact mem_eqAt rx fx t f.2 u' hu
def inV (x : V) (xs : List V) : Bool := xs.any fun y => eqV y x
def rIn (K : PySem.W.Frag) (neg : Bool) : R2 := fun x y H Q => ∃ p xs, y = .ref p ∧ (SqL K H p xs ∨ SqT K H p xs) ∧ flatV x = true ∧ xs.all flatV = true ∧ Q (.bl (if neg then !inV x xs else inV x xs)) H
theorem op_in_seq : OpR X (compareOp .In) (rIn X.K false) := by
  intro pins s σ H x y v u Q I rx ry h
  obtain ⟨p, xs, rfl, hq, fx, fs, q⟩ := h
  cases ry
  rcases hq with hq | hq
  · obtain ⟨its, r, pl, hz⟩ := I.list hq
    refine SeqAt.in_listAt (eqU x) pl.isList (fun w hw => mem_eqAt rx fx r fs w (by simpa using hw)) ⟨.bl _, H, I, rfl, ?_⟩
    rw [show its.toArray.any (eqU x) = its.any (eqU x) by simp, any_eqU r fs]
    exact q
  · obtain ⟨its, r, pl, hz⟩ := I.tuple hq
    refine SeqAt.in_tupleAt (eqU x) pl (fun w hw => mem_eqAt rx fx r fs w (by simpa using hw)) ⟨.bl _, H, I, rfl, ?_⟩
    rw [show its.toArray.any (eqU x) = its.any (eqU x) by simp, any_eqU r fs]
    exact q
theorem call_len_seq : CallR X (.builtin "len") (fun xs H Q => ∃ p ys, xs = [.ref p] ∧ (SqL X.K H p ys ∨ SqT X.K H p ys) ∧ Q (.int ys.length) H) := by
  intro pins s σ H xs us Q I r h
  obtain ⟨p, ys, rfl, hq, q⟩ := h
  obtain ⟨u, rfl, rx⟩ := vals1 r
  cases rx
  have hn := line63
  rcases hq with hq | hq
  · obtain ⟨its, r', pl, hz⟩ := I.list hq
    have hlen := r'.length
    exact Calls.call_len_list pl.isList (by simp only [List.size_toArray] <;> omega) ⟨.int ys.length, H, I.tok _, ⟨s.toks + 1, by rw [List.size_toArray, hlen]⟩, q⟩
  · obtain ⟨its, r', pl, hz⟩ := I.tuple hq
    have hlen := r'.length
    exact len_tuple pl (by simp only [List.size_toArray] <;> omega) ⟨.int ys.length, H, I.tok _, ⟨s.toks + 1, by rw [List.size_toArray, hlen]⟩, q⟩
theorem CallR.or {f : Value} {r r' : List V → Hp → VK → Prop} (h : CallR X f r) (h' : CallR X f r') : CallR X f (fun xs H Q => r xs H Q ∨ r' xs H Q) := by
  intro pins s σ H xs us Q I rs q
  rcases q with q | q
  · exact h pins s σ H xs us Q I rs q
  · exact h' pins s σ H xs us Q I rs q
theorem call_tuple_of : CallR X (.type "tuple") (fun xs H Q => ∃ p ys, xs = [.ref p] ∧ ((SqL X.K H p ys ∧ ∀ l, H l = none → Q (.ref l) (upd H l (.tup ys))) ∨ (SqT X.K H p ys ∧ Q (.ref p) H))) := by
  intro pins s σ H xs us Q I r h
  obtain ⟨p, ys, rfl, h⟩ := h
  obtain ⟨u, rfl, rx⟩ := vals1 r
  cases rx
  rcases h with ⟨hq, q⟩ | ⟨hq, q⟩
  · obtain ⟨its, r', pl, hz⟩ := I.list hq
    have hlen := r'.length
    refine call_tuple_list pl.isList (fun h' kp => ?_) (by simp only [List.size_toArray] <;> omega)
    have I1 : Inv X pins σ H { s with heap := h' } := I.kept (t' := s.toks) kp
    have I2 : Inv X pins σ (upd H h'.objs.size (.tup ys)) { s with heap := h'.push { cls := .type "tuple", data := .seq its.toArray } } :=
      I1.laid (t' := s.toks) (fun b o e => Heap.get?_push_of_some _ e) (Nat.le_refl _) (show ObjOk X.prog X.w _ _ _ (.tup ys) from ⟨⟨hz, fun _ => ⟨_, Heap.get?_push_size _ rfl, rfl, rfl⟩⟩, its, r', IsTup.new _ _⟩)
    exact ⟨.ref h'.objs.size, _, I2, rfl, q _ (I1.hok.fresh (Nat.le_refl _))⟩
  · obtain ⟨its, r', pl, hz⟩ := I.tuple hq
    exact call_tuple_same pl ⟨.ref p, H, I, rfl, q⟩
def tyV (K : PySem.W.Frag) (T : String) (x : V) (H : Hp) : Prop := match x with
  | .str _ => T = "str"
  | .int _ => T = "int"
  | .ref p => (T = "list" ∧ ∃ xs, SqL K H p xs) ∨ (T = "tuple" ∧ ∃ o, K.lookup p = some o ∧ o.cls = .type "tuple" ∧ o.dict = none) ∨
      (T = "dict" ∧ ((∃ kvs, H p = some (.dK kvs)) ∨ ∃ kvs, H p = some (.dT kvs))) ∨ (T = "set" ∧ ∃ S n, H p = some (.set S n))
  | _ => False
theorem tyV_is {pins : List (Addr × Obj)} {σ : St} {H : Hp} {s : Shared} {T : String} {x : V} {v : Value} (I : Inv X pins σ H s) (r : RelV x v) (ty : tyV X.K T x H) :
    s.TypeIs v T ∧ ∀ a, v = .ref a → ∃ ob, s.heap.get? a = some ob ∧ ob.dict = none := by
  cases x with
  | str z =>
    obtain ⟨t, rfl⟩ := r
    cases (show T = "str" from ty)
    exact ⟨typeIs_str s z t, fun _ e => nomatch e⟩
  | int i =>
    obtain ⟨t, rfl⟩ := r
    cases (show T = "int" from ty)
    exact ⟨typeIs_int s i t, fun _ e => nomatch e⟩
  | ref p =>
    cases r
    rcases ty with ⟨rfl, xs, hq⟩ | ⟨rfl, o, hk, hc, hd⟩ | ⟨rfl, hk⟩ | ⟨rfl, S, n, hk⟩
    · obtain ⟨its, _, pl, _⟩ := I.list hq
      refine ⟨pl.isList.typeIs, fun a e => ?_⟩
      cases e
      obtain ⟨o, n, e, c, hd, _⟩ := pl
      exact ⟨o, e, hd⟩
    · refine ⟨⟨o, I.kIn p o hk, hc⟩, fun a e => ?_⟩
      cases e
      exact ⟨o, I.kIn _ o hk, hd⟩
    · have z : ∃ o, s.heap.get? p = some o ∧ o.ExactDict := by
        rcases hk with ⟨kvs, hk⟩ | ⟨kvs, hk⟩
        · obtain ⟨_, _, _, _, o, _, _, e, ex, _⟩ := I.hok p _ hk
          exact ⟨o, e, ex⟩
        · obtain ⟨_, _, _, _, o, _, _, e, ex, _⟩ := I.hok p _ hk
          exact ⟨o, e, ex⟩
      obtain ⟨o, e, ex⟩ := z
      refine ⟨⟨o, e, ex.1⟩, fun a e2 => ?_⟩
      cases e2
      exact ⟨o, e, ex.2.1⟩
    · obtain ⟨o, _, _, _, e, ex, _⟩ := I.hok p _ hk
      refine ⟨⟨o, e, ex.1⟩, fun a e2 => ?_⟩
      cases e2
      exact ⟨o, e, ex.2.1⟩
  | _ => exact False.elim ty
def tBM0 (K : PySem.W.Frag) (T : String) (r : V → List V → Hp → VK → Prop) (to : TE) : TE := fun σ H Q => to σ H fun x H1 => tyV K T x H1 ∧ r x [] H1 Q
def tBM (K : PySem.W.Frag) (T : String) (r : V → List V → Hp → VK → Prop) (to : TE) (t : TA) : TE := fun σ H Q => to σ H fun x H1 => tyV K T x H1 ∧ t σ H1 fun xs H2 => r x xs H2 Q
variable {o e : Expr} {es : List Expr} {to : TE} {t : TA} {name : Str} {apos cpos : Pos} {T id : String} {r : V → List V → Hp → VK → Prop}
theorem pe_bm (pa : PlainAttrs T) (slot : Slot T name id) (hty : typeOf (.builtin id) = pure (.type "method_descriptor")) (hm : MtR X id r) (ho : PE X o to) (ha : PA X (e :: es) t)
    (hbase : attributeBase o name X.env (eval o X.env) = eval o X.env := by rfl)
    (hfew : ((backTo cpos (starEach (e :: es) X.env)).all (fun x => !x.1) && (backToKw cpos (keywordEach [] X.env)).all (fun x => x.1.isSome)
      && decide ((e :: es).length + ([] : List Keyword).length + (if ([] : List Keyword).isEmpty then 0 else 1) < 30)) = true := by rfl)
    (hline : (apos.endLine == cpos.line) = true := by rfl) (hs : starEach (e :: es) X.env = (false, eval e X.env) :: starEach es X.env := by rfl) (hplain : (backTo cpos (starEach es X.env)).any (·.1) = false := by rfl) :
    PE X (.Call (.Attribute o name apos) (e :: es) [] cpos) (tBM X.K T r to t) := by
  intro pins s σ H Q I h
  refine wpAny_Call_method_late hbase hfew hline rfl (thn (ho pins s σ H _ I h) fun v s1 ⟨x, H1, I1, r1, ty, q1⟩ => ?_)
  obtain ⟨h1, h2⟩ := tyV_is I1 r1 ty
  refine ⟨T, id, pa, slot, hty, h1, h2, ?_⟩
  have hA := ha cpos pins s1 σ H1 _ I1 q1
  rw [hs] at hA ⊢
  refine Calls.callWith_builtin (by show (false || (backTo cpos (starEach es X.env)).any (·.1)) = false; rw [hplain] <;> rfl) (Calls.evalArgs_plain ?_)
  exact thn hA fun us s2 ⟨vs, H2, I2, r2, q2⟩ => hm pins s2 σ H2 x vs v us Q I2 r1 r2 q2
/- xs.append(e), list.index on a module's tuple .. are MtR facts of 06m -/
end
end L2
namespace L2
open PySem PySem.Spec PyProof.Rows
def MtM (X : Cx) (id : String) (r : V → List V → Hp → VK → Prop) : Prop :=
  ∀ (pins : List (Addr × Obj)) (s : Shared) (σ : St) (H : Hp) (x : V) (xs : List V) (v : Value) (us : List Value) (Q : VK), Inv X pins σ H s → RelV x v → Vals xs us → r x xs H Q →
    wpAny (model X.prog X.w) X.A (call (.builtin id) (v :: us)) (EP X pins σ Q) X.xe s
theorem Vals.one : ∀ {x : V} {us : List Value}, Vals [x] us → ∃ u, us = [u] ∧ RelV x u
  | _, _, .cons r .nil => ⟨_, rfl, r⟩
theorem Vals.two : ∀ {x y : V} {us : List Value}, Vals [x, y] us → ∃ u v, us = [u, v] ∧ RelV x u ∧ RelV y v
  | _, _, _, .cons r (.cons q .nil) => ⟨_, _, rfl, r, q⟩
theorem Vals.zero : ∀ {us : List Value}, Vals [] us → us = []
  | _, .nil => rfl
theorem Vals.eraseIdx : ∀ {xs : List V} {us : List Value} (i : Nat), Vals xs us → Vals (xs.eraseIdx i) (us.eraseIdx i)
  | _, _, _, .nil => .nil
  | _, _, 0, .cons _ t => t
  | _, _, i + 1, .cons r t => .cons r (Vals.eraseIdx i t)
section
variable {X : Cx} {pins : List (Addr × Obj)} {σ : St} {H : Hp} {s : Shared} {l b : Addr} {xs ys zs : List V}
theorem Inv.lset {its its' : List Value} {n : Nat} {f : Array Value → Array Value} {t' : Nat} (I : Inv X pins σ H s) (hH : H l = some (.lst xs))
    (e : s.heap.get? l = some { cls := .type "list", data := .seq its.toArray n }) (hf : f its.toArray = its'.toArray) (hv : Vals ys its') (hz : ys.length ≤ sizeLine) :
    Inv X pins σ (upd H l (.lst ys)) { s with heap := s.heap.update l (Obj.mapSeq f), toks := t' } := by
  have q := PySem.IsL.update e f
  rw [hf] at q
  refine I.write (x := l) (e := l) (by rw [hH]; exact trivial) (.inl rfl) (fun b' u hb hu => (Heap.get?_update_other s.heap (Obj.mapSeq f) (Ne.symm hb)).trans hu) ⟨_, q⟩ ?_
  exact ⟨hz, its', _, hv, q⟩
theorem Inv.lnew {its : List Value} {t' : Nat} (I : Inv X pins σ H s) (hv : Vals ys its) (hz : ys.length ≤ sizeLine) :
    Inv X pins σ (upd H s.heap.objs.size (.lst ys)) { s with heap := s.heap.push { cls := .type "list", data := .seq its.toArray }, toks := t' } :=
  I.laid (fun _ _ q => Heap.get?_push_of_some _ q) (Nat.le_refl _) ⟨hz, its, 0, hv, Heap.get?_push_size _ rfl⟩
theorem Inv.fresh (I : Inv X pins σ H s) : H s.heap.objs.size = none := I.hok.fresh (Nat.le_refl _)
theorem Inv.lstM (I : Inv X pins σ H s) (hH : H l = some (.lst xs)) : xs.length ≤ sizeLine ∧ ∃ (its : List Value) (n : Nat), Vals xs its ∧ xs.length = its.length ∧ s.heap.get? l = some { cls := .type "list", data := .seq its.toArray n } := by
  obtain ⟨z, its, n, r, e⟩ := I.hok l _ hH
  exact ⟨z, its, n, r, r.length, e⟩
end
section
variable {X : Cx}
def rAppend : V → List V → Hp → VK → Prop := fun x vs H Q => ∃ l xs y, x = .ref l ∧ vs = [y] ∧ H l = some (.lst xs) ∧ xs.length < sizeLine ∧ Q .non (upd H l (.lst (xs ++ [y])))
theorem mt_append : MtM X "list.append" rAppend := by
  intro pins s σ H x vs v us Q I rx rv h
  obtain ⟨l, xs, y, rfl, rfl, hH, hz, q⟩ := h
  cases rx
  obtain ⟨u, rfl, ru⟩ := rv.one
  obtain ⟨z, its, n, r, hl, e⟩ := I.lstM hH
  refine call_meets F.slot_list_append ⟨_, e, rfl⟩ F.entry_list_append (F.args_list_append_2 _ _) (PySem.list_append l its.toArray n u (by rw [List.size_toArray]; omega)) ⟨e, ?_⟩
  refine ⟨.non, _, I.lset (its' := its ++ [u]) hH e (by simp) (r.append (.cons ru .nil)) ?_, rfl, q⟩
  rw [List.length_append, List.length_singleton]
  omega
def rCat : R2 := fun x y H Q => ∃ l b xs zs, x = .ref l ∧ y = .ref b ∧ H l = some (.lst xs) ∧ H b = some (.lst zs) ∧ xs.length + zs.length ≤ sizeLine ∧ ∀ p, H p = none → Q (.ref p) (upd H p (.lst (xs ++ zs)))
theorem op_cat : OpR X (binaryOp .Add) rCat := by
  intro pins s σ H x y v u Q I rx ry h
  obtain ⟨l, b, xs, zs, rfl, rfl, hH, hB, hz, q⟩ := h
  cases rx
  cases ry
  obtain ⟨z, its, n, r, hl, e⟩ := I.lstM hH
  obtain ⟨z2, its2, n2, r2, hl2, e2⟩ := I.lstM hB
  refine PySem.P.add_list e e2 ?_ (by rw [List.size_toArray, List.size_toArray]; omega)
  have ea : its.toArray ++ its2.toArray = (its ++ its2).toArray := by simp
  rw [ea]
  exact ⟨.ref _, _, I.lnew (t' := s.toks) (r.append r2) (by rw [List.length_append]; omega), rfl, q _ I.fresh⟩
end
section
variable {prog : Program} {w : World} {A : Around} {E : Value → Shared → Prop} {s : Shared}
end
section
variable {X : Cx}
end
end L2
namespace Att
open PySem PySem.W PySem.Calls PyProof.Rows
theorem ints_of_wellAll {P : Params} {h : Heap} : ∀ (ns : List Int) (vs : List Value), WellAll P h vs (ns.map WData.int) → IntsAre vs ns := by
  intro ns
  induction ns with
  | nil =>
    intro vs w
    rw [List.map_nil] at w
    cases w
    exact .nil
  | cons n ns ih =>
    intro vs w
    rw [List.map_cons] at w
    cases w with
    | cons a b =>
      cases a
      exact .cons _ _ (ih _ b)
theorem script_of {l : OpenLaw} {n : Nat} (hn : l.most = some n) {P : Params} {h : Heap} {args : List WData} {vals : List Value}
    (hpre : l.row.toRowW.claim.pre args = true) (hwl : WellAll P h vals args) :
    ∃ a vs ns, vals = [Value.ref a] ∧ args = [WData.list (ns.map WData.int)] ∧ h.get? a = some { cls := .type "list", data := .seq vs.toArray } ∧ IntsAre vs ns ∧ ns.length ≤ n := by
  have hsh : WShape.hasAll [] args [.list .int] = true := (pre_splitW hpre).1
  have hc : l.pre.holds [] { args := args } = true := (pre_splitW hpre).2
  obtain ⟨d, r, rfl, h1, h2⟩ := hasAllW_cons hsh
  obtain rfl := hasAllW_nil h2
  obtain ⟨xs, rfl, h3⟩ := hasW_list h1
  obtain ⟨ns, rfl⟩ := items_int h3
  have hlen : ns.length ≤ n := by
    unfold OpenLaw.pre at hc
    have h4 : (WTm.not (.lt (.lit (.int (n : Int))) (.len (.arg 0)))).holds [] { args := [.list (ns.map .int)] } = true := by
      have h4 := (holds_andW hc).1
      rw [hn] at h4
      exact h4
    have h5 := condW_of h4 (w_not (w_lt w_lit (w_len_list (w_arg rfl))))
    rw [List.length_map] at h5
    refine Nat.le_of_not_lt fun q => ?_
    have q' : (n : Int) < ((ns.length : Nat) : Int) := by omega
    first
      | (rw [decide_eq_true q'] at h5; exact absurd h5 (by decide))
      | (simp at h5; omega)
  cases hwl with
  | cons w1 w2 =>
    cases w2
    cases w1 with
    | list ho hall => exact ⟨_, _, ns, rfl, rfl, ho, ints_of_wellAll ns _ hall, hlen⟩
theorem post_true (l : OpenLaw) (args : List WData) : l.row.toRowW.claim.post args (.bool true) args = true :=
  postW_of (r := l.row.toRowW) (X := (true == true))
    (show WShape.has [] (.bool true) .bool = true by first | rfl | decide | simp [WShape.has, WShape.arms, WShape.armsAll])
    (show (WTm.eq .res (.lit (.bool true))).value [] { args := args, res := some (.bool true), after := args } = some (.bool (true == true)) from w_eq_bool (w_res rfl) w_lit) rfl
theorem attach_call {l : OpenLaw} {n : Nat} {q : Program} {loose : List Str} {XP : (Str → Option Value) → Heap → Prop} {YP : World → Heap → Prop} {d : DefRec}
    (hn : l.most = some n) (hdf : d.params.defaults = [])
    (call : ∀ (w : World) (s₀ s₁ : Shared) (mg mb : Str → Option Value) (fa : Addr) (o : Obj) (pm cd doc : Value) (a : Addr) (vs : List Value) (ns : List Int),
      Ground q loose [] XP w s₀ mg mb s₁.heap → YP w s₁.heap →
      s₁.heap.get? fa = some o → o.data = .func (docDef d.name d.params d.body d.scope pm cd doc) → s₁.heap.CodeRec cd d.name → mg d.name = some (.ref fa) →
      s₁.heap.get? a = some { cls := .type "list", data := .seq vs.toArray } → IntsAre vs ns → ns.length ≤ n → s₁.gens = #[] →
      codeAny (model l.prog w) callerA (.call (.ref fa) ⟨[.ref a], []⟩) (fun r s' => r = .ok (.ret (.bool true)) ∧ OldK s₁.heap s'.heap ∧ s'.os = s₁.os ∧ AllBare s'.gens) s₁) :
    WalkO q loose XP YP l.row.toRowW d [] (fun f vs => PySem.call f vs) := by
  intro w s₀ s₁ mg mb G Y fa o pm cd doc dV kV ho hd hcd hD hmg hg args vals as hpre hlay hrd hwl hlo
  obtain rfl : dV = .none := Dflts.none hD hdf
  obtain rfl : kV = .none := Dflts.noKw hD
  obtain ⟨a, vs, ns, rfl, rfl, hobj, hints, hlen⟩ := script_of hn hpre hwl
  refine enter_call (codeAny_mono (call w s₀ s₁ mg mb fa o pm cd doc a vs ns G Y ho (fd_plain hd) hcd hmg hobj hints hlen hg) fun r s' hq => ?_)
  obtain ⟨rfl, h2, h3, h4⟩ := hq
  exact ⟨.inl ⟨.bool true, .bool true, [], rfl, fun _ => rfl, .bool true, post_true l _, fun _ => ⟨List.Pairwise.nil, fun _ hm => (nomatch hm)⟩⟩, h2, h3, h4⟩
section
variable {prog : Program} {w : World} {A : Around} {E : Value → Shared → Prop} {s : Shared} {K : Frag}
def ledger (h : Heap) (L d : Addr) : List (Addr × Obj) := (List.range h.objs.size).filterMap fun a => if a = L ∨ a = d then none else (h.get? a).map fun o => (a, o)
end
end Att
namespace L2
open PySem PySem.Spec PyProof.Rows
theorem vals_ints : ∀ {vs : List Value} {ns : List Int}, IntsAre vs ns → Vals (ns.map V.int) vs
  | _, _, .nil => .nil
  | _, _, .cons n t h => .cons ⟨t, rfl⟩ (vals_ints h)
def Only (H : Hp) : Prop := ∀ b, H b = none ∨ ∃ o xs, H b = some (.frz o (.lst xs))
theorem law_call {P : Program} {w : World} {K : PySem.W.Frag} {mg mb : Str → Option Value} {CX : CXT} {k : Nat} {fa a : Addr} {fd : FuncData} {x : Str} {sp : Sp} {s₁ : Shared} {vs : List Value} {ns : List Int}
    (KX : K.In s₁.heap) (hns : s₁.heap.Ns mainGlobals mg) (hb : s₁.heap.Ns builtinsNs mb) (hbb : ∀ x : Str, x ≠ "__name__" → mb x = bootBuiltins x) (hlim : s₁.heap.NoLimit) (hg : s₁.gens = #[])
    (ha : s₁.heap.get? a = some { cls := .type "list", data := .seq vs.toArray }) (hi : IntsAre vs ns) (hl : ns.length ≤ sizeLine) (hr : Room k callerA)
    (F : ∀ base : Heap, K.In base → base.Ns mainGlobals mg → FnOk P w K mg base CX k fa fd [x] sp) (hbind : ∀ (s : Shared) (u : Value), BindsTo s fd ⟨[u], []⟩ [(x, u)])
    (hsp : ∀ H : Hp, Only H → SqL K H a (ns.map V.int) → sp [.ref a] H (fun v _ => v = .bl true) fun _ _ _ => False)
    (hCX : ∀ H e s', CX [] H s₁ (fun _ _ _ => False) e s' → False) :
    codeAny (model P w) callerA (.call (.ref fa) ⟨[.ref a], []⟩) (fun r s' => r = .ok (.ret (.bool true)) ∧ OldK s₁.heap s'.heap ∧ s'.os = s₁.os ∧ AllBare s'.gens) s₁ := by
  have rv := vals_ints hi
  have lenV := hi.length
  -- from an abstract heap in which nothing but the script may be tracked
  have core : ∀ H : Hp, Only H → SqL K H a (ns.map V.int) → HOk P w H s₁.heap → (∀ b, H b ≠ none → b = a) → (H a ≠ none → K.lookup a = none) →
      codeAny (model P w) callerA (.call (.ref fa) ⟨[.ref a], []⟩) (fun r s' => r = .ok (.ret (.bool true)) ∧ OldK s₁.heap s'.heap ∧ s'.os = s₁.os ∧ AllBare s'.gens) s₁ := by
    intro H hO hS hok hA hK
    have base_of : ∀ {b : Addr} {o : Obj}, s₁.heap.get? b = some o → H b = none → (hidT s₁.heap H).get? b = some o := fun e n => hidT_get e n
    have noA : ∀ {b : Addr} {o : Obj} {es : Array DictEntry} {ep : Nat}, s₁.heap.get? b = some o → o.data = .dict es ep → H b = none := fun {b o es ep} e d => by
      cases q : H b with
      | none => rfl
      | some u =>
        have e' : b = a := hA b (by rw [q]; simp)
        subst e'
        rw [ha] at e; cases e
        have d' : Data.seq vs.toArray _ = Data.dict es ep := d
        cases d'
    have nsK : ∀ {b : Addr} {m : Str → Option Value}, s₁.heap.Ns b m → (hidT s₁.heap H).Ns b m := fun {b m} ⟨o, es, ep, e, d, r⟩ => ⟨o, es, ep, base_of e (noA e d), d, r⟩
    have hKb : K.In (hidT s₁.heap H) := fun b o e => base_of (KX b o e) (by
      cases q : H b with
      | none => rfl
      | some u =>
        have e' : b = a := hA b (by rw [q]; simp)
        subst e'
        rw [hK (by rw [q]; simp)] at e; cases e)
    have hM : Mod K mg (hidT s₁.heap H) := ⟨hKb, nsK hns, ⟨mb, nsK hb, hbb⟩, let ⟨mc, h1, h2⟩ := hlim; ⟨mc, nsK h1, h2⟩⟩
    have e0 : Env0 P w K mg (hidT s₁.heap H) callerA [] s₁ H := ⟨rfl, hM, fun b o e => of_hidT e, Nat.le_of_eq (hidT_size _ _), trivial, fun b hb => absurd (show b ∈ ([] : List Addr) from hb) (by simp), hok, .of_eq hg⟩
    refine codeAny_mono ((F _ hKb (nsK hns)).run callerA [] s₁ H ⟨[.ref a], []⟩ [.ref a] [.ref a] _ _ hr e0 (hbind s₁ (.ref a)) (.cons rfl .nil) (hsp H hO hS)) fun r s' h => ?_
    cases r with
    | error e => exact (hCX H e s' h).elim
    | ok fl =>
      cases fl with
      | next => exact False.elim h
      | brk => exact False.elim h
      | cont => exact False.elim h
      | ret u =>
        obtain ⟨v, H', os, bare, un, hok', r', q⟩ := h
        have q' : v = .bl true := q
        subst q'
        obtain rfl : u = Value.bool true := r'
        refine ⟨rfl, OldK.of_keep fun b o e => ?_, os, bare⟩
        cases q : H b with
        | none => exact un.keep b o e q (by intro z; exact absurd (show b ∈ ([] : List Addr) from z) (by simp)) (by simp)
        | some u =>
          rcases hO b with z | ⟨ob, xs, z⟩
          · rw [q] at z; cases z
          · have z2 := un.frzs b ob _ z
            obtain ⟨e1, _⟩ := hok b _ z
            obtain ⟨e2, _⟩ := hok' b _ z2
            rw [e] at e1; cases e1
            exact e2
  cases hk : K.lookup a with
  | some o =>
    -- the script is one of the module's own objects
    have e := KX a o hk
    rw [ha] at e
    cases e
    refine core (fun _ => none) (fun _ => .inl rfl) (.inr ⟨_, vs.toArray, _, hk, rfl, rfl, rfl, by rw [List.size_toArray, lenV]; exact hl, by simpa using rv⟩) (fun b u z => by have z' : (none : Option HO) = some u := z; cases z') (fun b z => absurd rfl z) fun z => absurd rfl z
  | none =>
    refine core (fun b => if b = a then some (.frz { cls := .type "list", data := .seq vs.toArray } (.lst (ns.map V.int))) else none) (fun b => ?_) (.inl (.inr ⟨{ cls := .type "list", data := .seq vs.toArray }, if_pos rfl⟩)) (fun b u z => ?_) (fun b z => ?_) fun _ => hk
    · by_cases hb : b = a
      · exact .inr ⟨_, _, if_pos hb⟩
      · exact .inl (if_neg hb)
    · by_cases hb : b = a
      · have z' := (if_pos hb).symm.trans z
        cases z'
        subst hb
        exact ⟨ha, by rw [List.length_map]; exact hl, vs, _, rv, ha⟩
      · have z' := (if_neg hb).symm.trans z
        cases z'
    · by_cases hb : b = a
      · exact hb
      · exact absurd (if_neg hb) z
end L2
namespace L2
open PySem PySem.Spec PyProof.Rows
theorem walk_of {l : PySem.W.OpenLaw} {n k : Nat} {q : Program} {loose : List Str} {XP : (Str → Option Value) → Heap → Prop} {YP : World → Heap → Prop} {d : DefRec} {K : Params → PySem.W.Frag} {CX : World → CXT} {sp : World → Sp} {x : Str}
    (hn : l.most = some n) (hn2 : n ≤ sizeLine) (hdf : d.params.defaults = []) (hr : Room k callerA)
    (hY : ∀ (w : World) (h : Heap), YP w h → (K w.params).In h)
    (F : ∀ (w : World) (mg : Str → Option Value) (fa : Addr) (h : Heap), (K w.params).In h → h.Ns mainGlobals mg → mg d.name = some (.ref fa) →
      ∃ fd : FuncData, (∀ (s : Shared) (u : Value), BindsTo s fd ⟨[u], []⟩ [(x, u)]) ∧
        ∀ base : Heap, (K w.params).In base → base.Ns mainGlobals mg → FnOk l.prog w (K w.params) mg base (CX w) k fa fd [x] (sp w))
    (hsp : ∀ (w : World) (H : Hp) (a : Addr) (ns : List Int), ns.length ≤ n → Only H → SqL (K w.params) H a (ns.map V.int) → sp w [.ref a] H (fun v _ => v = .bl true) fun _ _ _ => False)
    (hCX : ∀ (w : World) (H : Hp) (s : Shared) (e : Value) (s' : Shared), CX w [] H s (fun _ _ _ => False) e s' → False) :
    PySem.W.WalkO q loose XP YP l.row.toRowW d [] (fun f vs => PySem.call f vs) := by
  refine Att.attach_call hn hdf fun w s₀ s₁ mg mb fa o pm cd doc a vs ns G Y ho hd hcd hmg hobj hints hlen hg => ?_
  have KX := hY w _ Y
  obtain ⟨fd, hb, hF⟩ := F w mg fa _ KX G.T.g hmg
  exact law_call KX G.T.g G.T.b G.T.builtins G.T.nolimit hg hobj hints (Nat.le_trans hlen hn2) hr hF hb (fun H hO hS => hsp w H a ns hlen hO hS) fun H e s' => hCX w H s₁ e s'
end L2
/- THE LAST THEOREM (shape; LID, My.* are yours):
   My.Adr: a structure of the addresses that your layer names (classes, functions); My.Txt K t: a structure (Prop) of the equations over K;
   My.txt_mk : {K} {implicit addresses ..} (e1 : nsIn K mainGlobals "law" = some (some (.ref f))) (e2 : K.lookup f = some ⟨oc, od, .func (fnOf "law" "law" params body scope dV kV doc pm an cdv ct), sl⟩) (e3 : codeIn K cdv "law" = true) .. : ∃ t, My.Txt K t
(the tactic k_is has no namespace: write k_is) -/
namespace L2
open PySem PySem.Spec PyProof.Rows
def inClass (s : Stmt) (j : Nat) : Stmt := match s with
  | .ClassDef _ _ _ body _ _ _ _ _ _ _ => body.getD j (.Pass ⟨0, 0, 0, 0⟩)
  | _ => .Pass ⟨0, 0, 0, 0⟩
def defArgs (s : Stmt) : Arguments := match s with
  | .FunctionDef _ a _ _ _ _ _ _ _ _ => a
  | _ => { posonlyargs := [], args := [], vararg := none, kwonlyargs := [], kw_defaults := [], kwarg := none, defaults := [] }
def defBody (s : Stmt) : List Stmt := match s with
  | .FunctionDef _ _ b _ _ _ _ _ _ _ => b
  | _ => []
def defScope (s : Stmt) : Scope := match s with
  | .FunctionDef _ _ _ _ _ _ sc _ _ _ => sc
  | _ => { kind := .function, names := [], isGenerator := false, isCoroutine := false }
abbrev CX0 : CXT := fun _ _ _ _ _ _ => False
abbrev E0 : XK := fun _ _ _ => False
theorem pass0 {X : Cx} : Passes CX0 X E0 := fun _ _ _ _ _ _ _ h => h.elim
structure Fun (K : PySem.W.Frag) (x qual : Str) (st : Stmt) (f : Addr) (fd : FuncData) : Prop where
  ex : ∃ (oc : Value) (od : Option Addr) (kV doc pm : Value) (an : Option Addr) (cdv ct : Value) (osl : Array (Option Value)),
    fd = PySem.W.fnOf x qual (defArgs st) (defBody st) (defScope st) .none kV doc pm an cdv ct ∧ K.lookup f = some ⟨oc, od, .func fd, osl⟩ ∧ PySem.W.codeIn K cdv qual = true
  kp : PySem.W.keepIn K (.ref f) = true
section
variable {P : Program} {w : World} {K : PySem.W.Frag} {mg : Str → Option Value} {base : Heap}
theorem Fun.ok {x qual : Str} {st : Stmt} {f : Addr} {fd : FuncData} {N ps : List Str} {k : Nat} {sp : Sp} (F : Fun K x qual st f fd) (S : FnScope N ps (defScope st)) (len : ∀ vs H Q E, sp vs H Q E → vs.length = ps.length)
    (hbody : ∀ (cdv : Value) (A : Around) (outer : List Env) (s : Shared) (H : Hp) (vs : List V) (Q : VK) (E : XK), Room k (A.deeper (envOfC qual (defScope st) s.heap.objs.size f cdv)) → sp vs H Q E →
      ∃ t, PSs (cxOf CX0 P w K mg base N qual (defScope st) f cdv A outer s H E).nox (defBody st) t ∧ t { nx := fun _ H' => Q .non H', rt := Q } (start N vs) H) : FnOk P w K mg base CX0 (k + 1) f fd ps sp := by
  obtain ⟨oc, od, kV, doc, pm, an, cdv, ct, osl, rfl, lk, hcd⟩ := F.ex
  refine fn_of lk hcd S len fun A outer s H vs Q E hr hsp => ?_
  obtain ⟨t, h, q⟩ := hbody cdv A outer s H vs Q E hr hsp
  exact ⟨t, h.nox, q⟩
theorem Fun.binds {x qual : Str} {st : Stmt} {f : Addr} {fd : FuncData} {ps : List Str} (F : Fun K x qual st f fd)
    (h : ∀ (kV doc pm : Value) (an : Option Addr) (cdv ct : Value) (us : List Value), us.length = ps.length → bindArgs (PySem.W.fnOf x qual (defArgs st) (defBody st) (defScope st) .none kV doc pm an cdv ct) ⟨us, []⟩ = pure (ps.zip us)) : Binds K fd ps [] := by
  obtain ⟨oc, od, kV, doc, pm, an, cdv, ct, osl, rfl, lk, hcd⟩ := F.ex
  exact .all (h kV doc pm an cdv ct)
theorem fun_mk {x qual : Str} {st : Stmt} {f : Addr} {oc : Value} {od an : Option Addr} {osl : Array (Option Value)} {kV doc pm cdv ct : Value} (l : K.lookup f = some ⟨oc, od, .func (PySem.W.fnOf x qual (defArgs st) (defBody st) (defScope st) .none kV doc pm an cdv ct), osl⟩)
    (c : PySem.W.codeIn K cdv qual = true) (k : PySem.W.keepIn K (.ref f) = true) : Fun K x qual st f (PySem.W.fnOf x qual (defArgs st) (defBody st) (defScope st) .none kV doc pm an cdv ct) := ⟨⟨oc, od, kV, doc, pm, an, cdv, ct, osl, rfl, l, c⟩, k⟩
end
theorem hu_of {A : Around} {k : Nat} (hr : Room k A) : A.units + 1 < cLine := Nat.lt_of_le_of_lt (Nat.add_le_add_left (by decide : 1 ≤ 64) _) hr.units
section
variable {X : Cx}
end
theorem iteF {A B : Prop} (h : B) : if false = true then A else B := by
  rw [if_neg Bool.false_ne_true]
  exact h
theorem iteT {A B : Prop} (h : A) : if true = true then A else B := by
  rw [if_pos rfl]
  exact h
def Same (H H' : Hp) : Prop := ∀ b o, H b = some o → H' b = some o
theorem Same.refl (H : Hp) : Same H H := fun _ _ h => h
theorem Same.trans {H H1 H2 : Hp} (a : Same H H1) (b : Same H1 H2) : Same H H2 := fun c o h => b c o (a c o h)
theorem Same.free {H H' : Hp} (e : Same H H') {l : Addr} (h : H' l = Option.none) : H l = Option.none := by
  cases q : H l with
  | none => rfl
  | some o =>
    rw [e l o q] at h
    cases h
theorem Same.seq {K : PySem.W.Frag} {H H' : Hp} {a : Addr} {xs : List V} (e : Same H H') (h : SqL K H a xs) : SqL K H' a xs := by
  rcases h with (h | ⟨o, h⟩) | h
  · exact .inl (.inl (e _ _ h))
  · exact .inl (.inr ⟨o, e _ _ h⟩)
  · exact .inr h
end L2
set_option Elab.async false
set_option linter.all false
set_option maxRecDepth 100000
set_option maxHeartbeats 4000000
namespace L2
open PySem PySem.Spec PyProof.Rows PySem.W
section
variable {c : Nat → Nat → Bool} {n : Nat}
end
end L2
set_option Elab.async false
set_option linter.all false
set_option maxRecDepth 100000
set_option maxHeartbeats 4000000
namespace L2
open PySem PySem.Spec PyProof.Rows
section
variable {X : Cx}
theorem op_mulG : OpR X (binaryOp .Mult) (rI IntMulOk fun i j => .int (i * j)) := opI fun _ _ _ _ _ _ _ hc q => mul_int q hc
def CDivB (_ j : Int) : Prop := 0 < j ∧ j.natAbs.log2 < 9000
theorem op_fdivB : OpR X (binaryOp .FloorDiv) (rI CDivB fun i j => .int (i / j)) := opI fun i j _ _ _ _ _ hc q => by
  have h1 : (0 : Int) < j := hc.1
  exact floordiv_int (by omega) (by rw [Int.fdiv_eq_ediv_of_nonneg i (by omega)]; exact q) (.inl (PyProof.noPylong_of_log2 hc.2))
theorem CDivB.of {i j : Int} (h : 0 < j) {k : Nat} (h2 : j < 2 ^ k) (hk : k ≤ 9000) : CDivB i j := by
  refine ⟨h, ?_⟩
  have h3 : j.natAbs < 2 ^ k := by
    have e : ((j.natAbs : Nat) : Int) = j := by omega
    have e2 : ((2 ^ k : Nat) : Int) = (2 : Int) ^ k := by simp
    have : ((j.natAbs : Nat) : Int) < ((2 ^ k : Nat) : Int) := by rw [e, e2]; exact h2
    exact Int.ofNat_lt.mp this
  have h4 : j.natAbs.log2 < k := (Nat.log2_lt (by omega)).mpr h3
  omega
theorem mulL {i j : Int} (h1 : -(2 ^ 64) < i) (h2 : i < 2 ^ 64) : IntMulOk i j := .of_left (intBits_le_64 h1 h2)
theorem mulR {i j : Int} (h1 : -(2 ^ 64) < j) (h2 : j < 2 ^ 64) : IntMulOk i j := .of_right (intBits_le_64 h1 h2)
end
section
variable {X : Cx}
end
section
variable {X : Cx}
end
section
variable {X : Cx}
def rIsi (K : PySem.W.Frag) : List V → Hp → VK → Prop := fun xs H Q => ∃ x n t b, xs = [x, .ty n] ∧ TyOf K H x t ∧ PySem.W.kitOne K t (.type n) = some b ∧ Q (.bl b) H
theorem call_isi : CallR X (.builtin "isinstance") (rIsi X.K) := by
  intro pins s σ H xs us Q I r h
  obtain ⟨x, n, t, b, rfl, ty, e, q⟩ := h
  obtain ⟨u, v, rfl, ru, rv⟩ := r.two
  obtain rfl : v = Value.type n := rv
  exact isinst_ok I ru ty e fun tk => ⟨.bl b, H, I.tok _, rfl, q⟩
end
end L2
namespace L2
open PySem PySem.Spec PyProof.Rows
section
variable {X : Cx}
end
end L2
set_option Elab.async false
set_option linter.all false
set_option maxRecDepth 100000
set_option maxHeartbeats 4000000
namespace L2
open PySem PySem.Spec PyProof.Rows
theorem lookup_of_mem {l : List (Str × Addr)} {x : Str} {c : Addr} (h : (x, c) ∈ l) : ∃ d, l.lookup x = some d := by
  induction l with
  | nil => cases h
  | cons p r ih =>
    obtain ⟨y, d⟩ := p
    cases hx : x == y with
    | true => exact ⟨d, by simp [List.lookup_cons, hx]⟩
    | false =>
      have hr : (x, c) ∈ r := by
        rcases List.mem_cons.mp h with e | e
        · cases e
          simp at hx
        · exact e
      obtain ⟨d', e⟩ := ih hr
      exact ⟨d', by simp only [List.lookup_cons, hx]; exact e⟩
theorem closure_loop {env : Env} : ∀ (names : List (Str × NameKind)) (acc : List (Str × Addr)), (∀ y ∈ names, y.2 = NameKind.free → ∃ c, env.cells.lookup y.1 = some c) → (∀ p ∈ acc, env.cells.lookup p.1 = some p.2) →
    ∃ cl : List (Str × Addr), (forIn names acc fun (x : Str × NameKind) (r : List (Str × Addr)) => (match x with | (name, kind) => if (kind == NameKind.free) = true then (do let a ← cellOf env name; pure (ForInStep.yield ((name, a) :: r))) else pure (ForInStep.yield r) : Sem (ForInStep (List (Str × Addr))))) = pure cl
      ∧ (∀ p ∈ cl, env.cells.lookup p.1 = some p.2) ∧ (∀ p ∈ acc, p ∈ cl) ∧ ∀ y ∈ names, y.2 = NameKind.free → ∃ c, (y.1, c) ∈ cl
  | [], acc, _, ha => ⟨acc, by simp, ha, fun _ h => h, fun y h => by cases h⟩
  | (n, k) :: r, acc, h, ha => by
    by_cases hk : k = NameKind.free
    · subst hk
      obtain ⟨c, hc⟩ := h (n, .free) List.mem_cons_self rfl
      obtain ⟨cl, e, h1, h2, h3⟩ := closure_loop r ((n, c) :: acc) (fun y hy => h y (List.mem_cons_of_mem _ hy)) (fun p hp => by
        rcases List.mem_cons.mp hp with rfl | hp
        · exact hc
        · exact ha p hp)
      refine ⟨cl, ?_, h1, fun p hp => h2 p (List.mem_cons_of_mem _ hp), fun y hy hf => ?_⟩
      · rw [List.forIn_cons]
        simp only [beq_self_eq_true, if_true, cellOf, hc, pure_bind]
        exact e
      · rcases List.mem_cons.mp hy with rfl | hy
        · exact ⟨c, h2 _ List.mem_cons_self⟩
        · exact h3 y hy hf
    · obtain ⟨cl, e, h1, h2, h3⟩ := closure_loop r acc (fun y hy => h y (List.mem_cons_of_mem _ hy)) ha
      have hb : (k == NameKind.free) = false := by simpa using hk
      refine ⟨cl, ?_, h1, h2, fun y hy hf => ?_⟩
      · rw [List.forIn_cons]
        simp only [hb, Bool.false_eq_true, if_false, pure_bind]
        exact e
      · rcases List.mem_cons.mp hy with rfl | hy
        · exact absurd hf hk
        · exact h3 y hy hf
theorem closure_ok {scope : Scope} {env : Env} (h : ∀ y ∈ scope.names, y.2 = NameKind.free → ∃ c, env.cells.lookup y.1 = some c) :
    ∃ cl, closureFor scope env = pure cl ∧ (∀ x c, cl.lookup x = some c → env.cells.lookup x = some c) ∧ ∀ y ∈ scope.names, y.2 = .free → ∃ c, cl.lookup y.1 = some c := by
  obtain ⟨cl, e, h1, _, h3⟩ := closure_loop scope.names [] h (fun p hp => by cases hp)
  refine ⟨cl, ?_, fun x c hx => h1 (x, c) (PySem.mem_of_lookup hx), fun y hy hf => ?_⟩
  · simp only [closureFor]
    rw [e]
    rfl
  · obtain ⟨c, hc⟩ := h3 y hy hf
    exact lookup_of_mem hc
theorem relabel_lookup {env : Env} : ∀ (names : List (Str × NameKind)) (x : Str),
    (names.map fun (n, k) => if (k == NameKind.free && env.scope.kind == .function && env.kindOf n == some .cell) then (n, NameKind.cell) else (n, k)).lookup x =
      (names.lookup x).map fun k => if (k == NameKind.free && env.scope.kind == .function && env.kindOf x == some .cell) then NameKind.cell else k
  | [], _ => rfl
  | (n, k) :: r, x => by
    have ih := relabel_lookup (env := env) r x
    show List.lookup x ((if (k == NameKind.free && env.scope.kind == .function && env.kindOf n == some .cell) = true then (n, NameKind.cell) else (n, k)) :: _) = _
    cases hx : x == n with
    | true =>
      have e : x = n := eq_of_beq hx
      subst e
      by_cases hc : (k == NameKind.free && env.scope.kind == .function && env.kindOf x == some .cell) = true
      · rw [if_pos hc]
        simp only [List.lookup_cons, beq_self_eq_true, Option.map_some]
        rw [if_pos hc]
      · rw [if_neg hc]
        simp only [List.lookup_cons, beq_self_eq_true, Option.map_some]
        rw [if_neg hc]
    | false =>
      by_cases hc : (k == NameKind.free && env.scope.kind == .function && env.kindOf n == some .cell) = true
      · rw [if_pos hc]; simp only [List.lookup_cons, hx]; exact ih
      · rw [if_neg hc]; simp only [List.lookup_cons, hx]; exact ih
structure CompSc (N : List Str) (sc : Scope) (own caps : List Str) (ks : List Nat) (scope : Scope) : Prop where
  kind : scope.kind = .function
  nocell : ∀ y ∈ scope.names, y.2 ≠ .cell
  names : ∀ y ∈ scope.names, y.2 = .local → scope.names.lookup y.1 = some .local
  free : ∀ y ∈ scope.names, y.2 = .free → sc.names.lookup y.1 = some .cell
  nd : (own ++ caps).Nodup
  cap : ks.map (fun k => N[k]?) = caps.map some
  fr : ∀ x ∈ caps, scope.names.lookup x = some .free
def compCx (X : Cx) (N' : List Str) (scope : Scope) (cl : List (Str × Addr)) (C : Addr) (s₂ : Shared) (H₂ : Hp) (fp : List Addr) : Cx :=
  { X with N := N', s₀ := s₂, H₀ := H₂, env := compEnvC scope cl C X.env, outer := X.stack, stack := X.stack, ex := fp, fn := fun _ => false, pn := [], xe := fun _ _ => False }
def capSt (own : Nat) (ks : List Nat) (σ : St) : St := List.replicate own none ++ ks.map fun k => (σ[k]?).join
section
variable {prog : Program} {w : World} {A : Around} {R : Result → Shared → Prop} {s : Shared}
theorem codeAny_compLoop_any {elt target iter : Expr} {ifs : List Expr} {scope : Scope} {pos : Pos} {it acc : Value} {env : Env} (I : Nat → Shared → Prop)
    (turn : ∀ n s, I n s → wpAny (model prog w) A (pyNext it) (fun r s₁ => match r with
      | none => R (.ok .next) s₁
      | some v => wpAny (model prog w) A (letOwnedTupleGo target it v) (fun _ s₁' => wpAny (model prog w) A (assign target env v) (fun _ s₂ =>
          wpAny (model prog w) A (forIn ifs true fun c r => if r = true then do let ok ← isTrue c env (eval c env); pure (ForInStep.yield ok) else pure (ForInStep.yield r)) (fun ok s₃ =>
            if ok = true then wpAny (model prog w) A (eval elt env) (fun x s₄ =>
              wpAny (model prog w) A (call (.builtin "list.append") [acc, x]) (fun _ s₅ => ∃ m, m < n ∧ I m s₅) (notedBy (model prog w) A env fun e s' => R (.error e) s') s₄) (notedBy (model prog w) A env fun e s' => R (.error e) s') s₃
            else ∃ m, m < n ∧ I m s₃) (notedBy (model prog w) A env fun e s' => R (.error e) s') s₂) (notedBy (model prog w) A env fun e s' => R (.error e) s') s₁') (notedBy (model prog w) A env fun e s' => R (.error e) s') s₁) (notedBy (model prog w) A env fun e s' => R (.error e) s') s)
    (n : Nat) (h : I n s) :
    codeAny (model prog w) A (.compLoop (.ListComp elt [⟨target, iter, ifs, 0⟩] scope pos) 0 it acc env) R s := by
  refine codeAny_loop rfl I (fun n s hI => ?_) n h
  show wpAny _ A ((compTurn (.ListComp elt [⟨target, iter, ifs, 0⟩] scope pos) 0 it acc env).onRaise (fun x => do noteFrame x env; theTreesLotGoes x)) _ _ s
  refine wpAny_noted ?_
  rw [compTurn_list]
  refine wpAny_bind (wpAny_standAt (wpAny_bind (wpAny_mono (turn n s hI) (fun r s₁ h₁ => ?_) fun _ _ h' => h')))
  cases r with
  | none => exact wpAny_pure h₁
  | some v =>
    refine wpAny_bind (wpAny_mono h₁ (fun _ s₁' h₁' => ?_) fun _ _ h' => h')
    refine wpAny_bind (wpAny_mono h₁' (fun _ s₂ h₂ => wpAny_bind (wpAny_mono h₂ (fun ok s₃ h₃ => ?_) fun _ _ h' => h')) fun _ _ h' => h')
    cases ok with
    | false => exact wpAny_pure ⟨rfl, h₃⟩
    | true =>
      exact wpAny_bind (wpAny_bind (wpAny_mono h₃ (fun x s₄ h₄ => wpAny_bind (wpAny_mono h₄ (fun _ s₅ h₅ => wpAny_pure (wpAny_pure ⟨rfl, h₅⟩)) fun _ _ h' => h')) fun _ _ h' => h'))
end
def PIfs (X : Cx) (ifs : List Expr) (t : TT) : Prop :=
  ∀ (pins : List (Addr × Obj)) (s : Shared) (σ : St) (H : Hp) (Q : Bool → Hp → Prop), Inv X pins σ H s → t σ H Q →
    wpAny (model X.prog X.w) X.A (forIn ifs true fun c r => if r = true then do let ok ← isTrue c X.env (eval c X.env); pure (ForInStep.yield ok) else pure (ForInStep.yield r)) (TP X pins σ Q) X.xe s
def tNoIf : TT := fun _ H Q => Q true H
section
variable {X : Cx}
theorem pifs_nil : PIfs X [] tNoIf := fun _ _ _ H _ I h => wpAny_tests_nil ⟨H, I, h⟩
theorem pifs_one {c : Expr} {t : TT} (hc : PT X c t) : PIfs X [c] t := fun pins s σ H Q I h => wpAny_tests_one (hc pins s σ H Q I h)
def tComp (own : Nat) (ks : List Nat) (wi : TI) (g : TG) (tt : TT) (te : TE) : TE := fun σ H Q => wi σ H fun J H1 => ∀ l, H1 l = none →
  ∃ W : Nat → Nat → St → Hp → Prop, (∃ m, W 0 m (capSt own ks σ) (upd H1 l (.lst []))) ∧ ∀ i m σ' H', W i m σ' H' →
    (J.stop i H' ∧ Q (.ref l) H') ∨ (J.go i H' ∧ ∃ N : St → Hp → Prop, (∀ σ2 H2, N σ2 H2 → ∃ m', m' < m ∧ W (i + 1) m' σ2 H2) ∧
      ∀ x H'', J.yld i H' x H'' → g x σ' H'' fun σ2 H2 => tt σ2 H2 fun b H3 =>
        if b = true then te σ2 H3 fun v H4 => ∃ xs, H4 l = some (.lst xs) ∧ xs.length < sizeLine ∧ N σ2 (upd H4 l (.lst (xs ++ [v]))) else N σ2 H3)
theorem join_some {α : Type} {o : Option (Option α)} {v : α} (h : o.join = some v) : o = some (some v) := by
  cases o with
  | none => cases h
  | some x => exact congrArg some h
theorem pe_comp {N : List Str} {sc : Scope} {own caps : List Str} {ks : List Nat} {elt tg iter : Expr} {ifs : List Expr} {scope : Scope} {pos : Pos} {wi : TI} {g : TG} {tt : TT} {te : TE}
    (hN : X.N = N) (hsc : X.env.scope = sc) (hc : X.calm = true) (S : CompSc N sc own caps ks scope) (hi : PI X tg iter wi)
    (hg : ∀ cl C s₂ H₂ fp, PG (compCx X (own ++ caps) scope cl C s₂ H₂ fp) tg g)
    (ht : ∀ cl C s₂ H₂ fp, PIfs (compCx X (own ++ caps) scope cl C s₂ H₂ fp) ifs tt)
    (he : ∀ cl C s₂ H₂ fp, PE (compCx X (own ++ caps) scope cl C s₂ H₂ fp) elt te)
    (hs : ∀ x, foldedSetIterable iter X.env x = pure x := by intro _; rfl) :
    PE X (.ListComp elt [⟨tg, iter, ifs, 0⟩] scope pos) (tComp own.length ks wi g tt te) := by
  intro pins s σ H Q I h
  subst hN hsc
  rw [eval_ListComp]
  obtain ⟨cl, hclos, hcl, hclf⟩ := closure_ok (scope := scope) (env := X.env) fun y hy hf => I.ok.has y.1 (.inl (S.free y hy hf))
  refine wpAny_comprehension_free (use := none) rfl hs hclos S.kind S.names (wpAny_mono (hi pins s σ H _ I h) (fun xv s₁ h₁ => wpAny_mono h₁ (fun it s₂ h₂ => ?_) fun _ _ e => e) fun _ _ e => e)
  obtain ⟨it, fp, tn, J, H2, e, I2, T, st2, f2, q⟩ := h₂
  subst e
  refine wpAny_newObj_type (wpAny_newFunctionEnv S.nocell (by intro y hy; simp at hy) (fun h₁ hns₁ hsb₁ => ?_) S.kind)
  dsimp only at hns₁ hsb₁ ⊢
  generalize hH2 : s₂.heap.push { cls := .type "list", dict := none, data := .seq ([] : List Value).toArray } = HP at hns₁ hsb₁ ⊢
  have hC : HP.objs.size = s₂.heap.objs.size + 1 := by rw [← hH2, Heap.size_push]
  have hDC : s₂.heap.objs.size ≠ HP.objs.size := by rw [hC]; exact Nat.ne_of_lt (Nat.lt_succ_self _)
  have hCle : s₂.heap.objs.size ≤ HP.objs.size := by rw [hC]; exact Nat.le_succ _
  have old : ∀ b o, s₂.heap.get? b = some o → h₁.get? b = some o := fun b o e => by
    have hb : b < s₂.heap.objs.size := Heap.lt_size e
    exact hsb₁.extBut b o (by rw [hC]; exact Nat.ne_of_lt (Nat.lt_succ_of_lt hb)) (Heap.get?_push_of_some _ (hH2 ▸ Heap.get?_push_of_some _ e))
  have hacc : h₁.get? s₂.heap.objs.size = some { cls := .type "list", dict := none, data := .seq ([] : List Value).toArray } := hsb₁.extBut _ _ hDC (Heap.get?_push_of_some _ (hH2 ▸ Heap.get?_push_size _ rfl))
  have fpl : ∀ b ∈ fp, b < s₂.heap.objs.size := fun b hb => by
    obtain ⟨o, e, _⟩ := T.obj _ _ st2 b hb
    exact Heap.lt_size e
  have hfD : H2 s₂.heap.objs.size = none := I2.hok.fresh (Nat.le_refl _)
  obtain ⟨W, ⟨m0, w0⟩, turn⟩ := q s₂.heap.objs.size hfD
  have hkr : ∀ x, (compEnvC scope cl HP.objs.size X.env).kindOf x = (scope.names.lookup x).map fun k => if (k == NameKind.free && X.env.scope.kind == .function && X.env.kindOf x == some .cell) then NameKind.cell else k := fun x => relabel_lookup (env := X.env) scope.names x
  have cellOfN : ∀ x, scope.names.lookup x = some .free → X.env.kindOf x = some .cell := fun x e => S.free (x, .free) (PySem.mem_of_lookup e) rfl
  -- the context within
  have ok : (compCx X (own ++ caps) scope cl HP.objs.size s₂ H2 fp).Ok := by
    refine ⟨I2.ok.mod, S.kind, I2.ok.glob, I2.ok.blt, hCle, fun x y c e1 e2 => I2.ok.inj x y c (hcl x c e1) (hcl y c e2), fun x hx => ?_, fun x c z => (by cases z), I2.ok.hd, I2.ok.frames, .inl rfl, fun b hb => ⟨?_, fun x c e => (f2 b hb).2.2.2.2.1 x c (hcl x c e)⟩,
      I2.bs, Nat.le_trans I2.ok.bsz I2.sz, fun b o e hb => ?_, fun b hb z => ?_, I2.stack, I2.stkFree⟩
    · have hx' : (scope.names.lookup x).map (fun k => if (k == NameKind.free && X.env.scope.kind == .function && X.env.kindOf x == some .cell) then NameKind.cell else k) = some .cell ∨
          (scope.names.lookup x).map (fun k => if (k == NameKind.free && X.env.scope.kind == .function && X.env.kindOf x == some .cell) then NameKind.cell else k) = some .free := by rw [← hkr x]; exact hx
      cases e : scope.names.lookup x with
      | none => rw [e] at hx'; rcases hx' with z | z <;> cases z
      | some k =>
        have hm := PySem.mem_of_lookup e
        have hk : k = .free := by
          by_cases hkf : k = .free
          · exact hkf
          · have hb : (k == NameKind.free) = false := by simpa using hkf
            rw [e] at hx'
            simp only [Option.map_some, hb, Bool.false_and, Bool.false_eq_true, if_false, Option.some.injEq] at hx'
            rcases hx' with z | z
            · exact absurd z (S.nocell _ hm)
            · exact z
        exact hclf _ hm hk
    · exact Nat.ne_of_lt (Nat.lt_of_lt_of_le (fpl b hb) hCle)
    · rcases (f2 b hb).2.2.2.1 with z | z
      · exact I2.ok.noex b o e z
      · exact absurd (Nat.lt_of_lt_of_le (Heap.lt_size e) (Nat.le_trans I2.ok.bsz z)) (Nat.lt_irrefl _)
    · rcases List.mem_cons.mp (I2.stkSub b z) with r | r
      · exact (f2 b hb).2.1 r
      · exact (f2 b hb).2.2.1 r
  have hlen : (capSt own.length ks σ).length = (own ++ caps).length := by
    have := congrArg List.length S.cap
    simp only [List.length_map] at this
    simp [capSt, this]
  have I4 : Inv (compCx X (own ++ caps) scope cl HP.objs.size s₂ H2 fp) [] (capSt own.length ks σ) (upd H2 s₂.heap.objs.size (.lst [])) { s₂ with heap := h₁, toks := s₂.toks + ([] : List (Str × Value)).length } := by
    obtain ⟨mX, hnX, hlX⟩ := I2.loc
    refine ⟨ok, rfl, I2.bare, Un.laid old (Nat.le_refl _) hfD, ⟨_, hns₁, fun i x v e1 e2 e3 => ?_⟩, fun x c e => ?_, ?_, fun x c e => ?_, fun p hp => (by cases hp), I2.hok.laid old (Nat.le_refl _) ⟨Nat.zero_le _, [], 0, .nil, hacc⟩, hlen⟩
    · have e1 : (own ++ caps)[i]? = some x := e1
      by_cases hio : i < own.length
      · unfold capSt at e2
        rw [List.getElem?_append_left (by simpa using hio), List.getElem?_replicate] at e2
        rw [if_pos hio] at e2
        cases e2
      · unfold capSt at e2
        rw [List.getElem?_append_right (by simpa using hio), List.length_replicate, List.getElem?_map] at e2
        rw [List.getElem?_append_right (by simpa using hio)] at e1
        cases ek : ks[i - own.length]? with
        | none => rw [ek] at e2; cases e2
        | some k =>
          rw [ek] at e2
          have e2' := join_some (Option.some.inj e2)
          have hcap := congrArg (fun l => l[i - own.length]?) S.cap
          simp only [List.getElem?_map, ek, e1, Option.map_some] at hcap
          have hNk : X.N[k]? = some x := Option.some.inj hcap
          have hfx := S.fr x (List.mem_of_getElem? e1)
          have hkX := cellOfN x hfx
          obtain ⟨u, ru, lk⟩ := hlX k x v hNk e2' (.inr (.inl hkX))
          refine ⟨u, ru, .inr ⟨.inl ?_, ?_⟩⟩
          · show (compEnvC scope cl HP.objs.size X.env).kindOf x = some .cell
            rw [hkr x, hfx]
            simp [I2.ok.kind, hkX]
          · rcases lk with ⟨z, _⟩ | ⟨_, c, ec, o, ho, hd⟩
            · rw [hkX] at z; cases z
            · obtain ⟨c', ec'⟩ := hclf (x, .free) (PySem.mem_of_lookup hfx) rfl
              have := hcl _ _ ec'
              rw [ec] at this
              cases this
              exact ⟨c, ec', o, old _ _ ho, hd⟩
    · obtain ⟨v, o, ho, hd⟩ := I2.cell x c (hcl x c e)
      exact ⟨v, o, old _ _ ho, hd⟩
    · show upd H2 s₂.heap.objs.size (.lst []) HP.objs.size = none
      rw [upd_ne (Ne.symm hDC)]
      exact I2.hok.fresh hCle
    · obtain ⟨v, o, ho, hd⟩ := I2.cell x c (hcl x c e)
      show upd H2 s₂.heap.objs.size (.lst []) c = none
      rw [upd_ne (Nat.ne_of_lt (Heap.lt_size ho))]
      exact I2.freeC x c (hcl x c e)
  -- the way out
  have out : ∀ {σ' : St} {H' : Hp} {s' : Shared}, Inv (compCx X (own ++ caps) scope cl HP.objs.size s₂ H2 fp) [] σ' H' s' → Q (.ref s₂.heap.objs.size) H' →
      ∃ m, s'.heap.Ns HP.objs.size m ∧ ∀ h', Heap.SameBut HP.objs.size s'.heap h' → EP X pins σ Q (.ref s₂.heap.objs.size) { s' with heap := h' } := fun {σ' H' s'} I' q' => by
    obtain ⟨m, hn, _⟩ := I'.loc
    refine ⟨m, hn, fun h' hs' => ⟨.ref s₂.heap.objs.size, H', ?_, rfl, q'⟩⟩
    have hfree : H' HP.objs.size = none := I'.free
    have neC : ∀ {b : Addr} {o : Obj}, s₂.heap.get? b = some o → b ≠ HP.objs.size := fun e => Nat.ne_of_lt (Nat.lt_of_lt_of_le (Heap.lt_size e) hCle)
    refine I2.call' (ch := fp) (s' := { s' with heap := h' }) I'.os ⟨fun b o e n hb hx => ?_, fun b o e n hb hx => ?_, I'.base.free, fun b o e hx => ?_, I'.base.tups, I'.base.frzs, I'.base.tbls⟩ (fun b ob e => ?_) I'.bare fun b hb => ⟨(f2 b hb).2.2.2.1, (f2 b hb).2.1, (f2 b hb).2.2.2.2.1, (f2 b hb).2.2.2.2.2⟩
    · exact (hs'.2 b (neC e)).trans (I'.base.keep b o e n hb hx)
    · obtain ⟨sl, e1⟩ := I'.base.slot b o e n hb hx
      exact ⟨sl, (hs'.2 b (neC e)).trans e1⟩
    · obtain ⟨o', e1⟩ := I'.base.there b o e hx
      exact ⟨o', (hs'.2 b (neC e)).trans e1⟩
    · refine (I'.hok b ob e).stay (fun c w' hc q => (hs'.2 c ?_).trans q) (fun _ q => q) fun _ _ q => q
      rintro rfl
      rcases hc with rfl | hc
      · rw [hfree] at e; cases e
      · rw [hfree] at hc; cases hc
  have stat : ∀ {H' : Hp}, (∀ b ∈ fp, H' b = none) → ∀ b ∈ fp, FpOk (compCx X (own ++ caps) scope cl HP.objs.size s₂ H2 fp) [] H' b := fun hn b hb =>
    ⟨hn b hb, Nat.ne_of_lt (Nat.lt_of_lt_of_le (fpl b hb) hCle), ok.exfs b hb, .inl hb, (ok.exf b hb).2, fun p hp => by cases hp⟩
  have fr4 : ∀ b ∈ fp, upd H2 s₂.heap.objs.size (.lst []) b = none := fun b hb => by
    rw [upd_ne (Nat.ne_of_lt (fpl b hb))]
    exact (f2 b hb).1
  have tn4 : tn 0 h₁ := T.keep _ _ _ st2 fun b _ o e => old b o e
  have loop : ∀ s4 : Shared, s4 = { s₂ with heap := h₁, toks := s₂.toks + ([] : List (Str × Value)).length } →
      codeAny (model X.prog X.w) X.A (.compLoop (.ListComp elt [⟨tg, iter, ifs, 0⟩] scope pos) 0 (.ref it) (.ref s₂.heap.objs.size) (compEnvC scope cl HP.objs.size X.env))
        (compPost (model X.prog X.w) X.A X.xe none (EP X pins σ Q) (.ref s₂.heap.objs.size) HP.objs.size) s4 := by
    rintro s4 rfl
    refine codeAny_compLoop_any (fun n s' => ∃ i σ' H', Inv (compCx X (own ++ caps) scope cl HP.objs.size s₂ H2 fp) [] σ' H' s' ∧ tn i s'.heap ∧ (∀ b ∈ fp, H' b = none) ∧ W i n σ' H') ?_ m0 ⟨0, _, _, I4, tn4, fr4, w0⟩
    rintro n s3 ⟨i, σ3, H3, I3, st3, fr3, w3⟩
    rcases turn i n σ3 H3 w3 with ⟨stop, qn⟩ | ⟨go, N, hN, step⟩
    · refine wpAny_mono (T.done (compCx X (own ++ caps) scope cl HP.objs.size s₂ H2 fp) rfl rfl rfl hc i [] s3 σ3 H3 (fun _ _ => False) I3 (stat fr3) st3 stop) (fun r s4 ⟨hr, I4'⟩ => ?_) fun _ _ z => False.elim z
      subst hr
      exact out I4' qn
    · refine wpAny_mono (T.item (compCx X (own ++ caps) scope cl HP.objs.size s₂ H2 fp) rfl rfl rfl hc i [] s3 σ3 H3 (fun _ _ => False) I3 (stat fr3) st3 go) (fun r s4 ⟨u, hr, h4⟩ => ?_) fun _ _ z => False.elim z
      subst hr
      refine wpAny_mono h4 (fun _ s5 ⟨x, H5, I5, r5, y5, st5, fr5⟩ => ?_) fun _ _ z => False.elim z
      have I5' := I5.pinned (stat fr5) (T.obj _ _ st5)
      have back : ∀ {s7 : Shared} {σ7 : St} {H7 : Hp}, Inv (compCx X (own ++ caps) scope cl HP.objs.size s₂ H2 fp) ([] ++ pinsAt fp s5.heap) σ7 H7 s7 → N σ7 H7 →
          ∃ m, m < n ∧ ∃ i σ' H', Inv (compCx X (own ++ caps) scope cl HP.objs.size s₂ H2 fp) [] σ' H' s7 ∧ tn i s7.heap ∧ (∀ b ∈ fp, H' b = none) ∧ W i m σ' H' := fun {s7 σ7 H7} I7 n7 => by
        obtain ⟨m', hm, w7⟩ := hN σ7 H7 n7
        refine ⟨m', hm, i + 1, σ7, H7, I7.unpinned, T.keep _ _ _ st5 fun b hb o e => (I7.pin (b, o) (List.mem_append_right _ (List.mem_append_right _ (mem_pinsAt hb e)))).1, fun b hb => ?_, w7⟩
        obtain ⟨o, e, d⟩ := T.obj _ _ st5 b hb
        exact (I7.pin (b, o) (List.mem_append_right _ (List.mem_append_right _ (mem_pinsAt hb e)))).2.1
      refine wpAny_mono (hg _ _ _ _ _ _ s5 σ3 H5 x u _ I5' r5 (step x H5 y5)) (fun _ s6 ⟨σ6, H6, I6, q6⟩ => ?_) fun _ _ z => False.elim z
      refine wpAny_mono (ht _ _ _ _ _ _ s6 σ6 H6 _ I6 q6) (fun b s7 ⟨H7, I7, q7⟩ => ?_) fun _ _ z => False.elim z
      cases b with
      | false =>
        rw [if_neg Bool.false_ne_true]
        rw [if_neg Bool.false_ne_true] at q7
        exact back I7 q7
      | true =>
        rw [if_pos rfl]
        rw [if_pos rfl] at q7
        refine wpAny_mono (he _ _ _ _ _ _ s7 σ6 H7 _ I7 q7) (fun y s8 ⟨v, H8, I8, r8, xs, hx8, hz8, n8⟩ => ?_) fun _ _ z => False.elim z
        refine wpAny_mono (mt_append (X := compCx X (own ++ caps) scope cl HP.objs.size s₂ H2 fp) _ s8 σ6 H8 (.ref s₂.heap.objs.size) [v] (.ref s₂.heap.objs.size) [y] (fun _ H' => N σ6 H') I8 rfl (.cons r8 .nil) ⟨_, xs, v, rfl, rfl, hx8, hz8, n8⟩) (fun _ s9 ⟨_, H9, I9, _, n9⟩ => ?_) fun _ _ z => False.elim z
        exact back I9 n9
  exact codeAny_compStart_list (loop _ rfl) (T.self _ 0 _ _ _ tn4 (loop _ rfl))
end
end L2
set_option Elab.async false
set_option linter.all false
set_option maxRecDepth 100000
set_option maxHeartbeats 4000000
namespace L2
open PySem PySem.Spec PyProof.Rows
theorem bt_int : bootBuiltins "int" = some (.type "int") := by decide +kernel
theorem bt_bool : bootBuiltins "bool" = some (.type "bool") := by decide +kernel
theorem bt_tuple : bootBuiltins "tuple" = some (.type "tuple") := by decide +kernel
theorem bt_list : bootBuiltins "list" = some (.type "list") := by decide +kernel
theorem bt_len : bootBuiltins "len" = some (.builtin "len") := by decide +kernel
theorem bt_abs : bootBuiltins "abs" = some (.builtin "abs") := by decide +kernel
theorem bt_max : bootBuiltins "max" = some (.builtin "max") := by decide +kernel
theorem bt_min : bootBuiltins "min" = some (.builtin "min") := by decide +kernel
theorem bt_sorted : bootBuiltins "sorted" = some (.builtin "sorted") := by decide +kernel
theorem bt_isinstance : bootBuiltins "isinstance" = some (.builtin "isinstance") := by decide +kernel
def isStar : Expr → Bool
  | .Starred _ _ => true
  | _ => false
def noStars (es : List Expr) : Bool := es.all fun e => !isStar e
theorem star_cons {e : Expr} {es : List Expr} {env : Env} (h : isStar e = false) : starEach (e :: es) env = (false, eval e env) :: starEach es env := by
  cases e <;> first | rfl | cases h
theorem star_of {e : Expr} {es : List Expr} {env : Env} (h : noStars (e :: es) = true) : starEach (e :: es) env = (false, eval e env) :: starEach es env := by
  refine star_cons ?_
  unfold noStars at h
  rw [List.all_cons, Bool.and_eq_true] at h
  simpa using h.1
theorem star_any {pos : Pos} {env : Env} : ∀ {es : List Expr}, noStars es = true → (backTo pos (starEach es env)).any (·.1) = false
  | [], _ => rfl
  | e :: es, h => by
    rw [star_of h]
    have h2 : noStars es = true := by
      unfold noStars at h ⊢
      rw [List.all_cons, Bool.and_eq_true] at h
      exact h.2
    exact star_any h2
theorem star_tail {e : Expr} {es : List Expr} (h : noStars (e :: es) = true) : noStars es = true := by
  unfold noStars at h ⊢
  rw [List.all_cons, Bool.and_eq_true] at h
  exact h.2
section
variable {X : Cx} {CX : CXT} {k : Nat} {f : Addr} {fd : FuncData} {ps : List Str} {sp : Sp} {dvs : List V} {ds : List Value} {E : XK} {x : Str} {p pos : Pos} {e : Expr} {es : List Expr} {te : TE} {t : TA} {id T : String} {r : List V → Hp → VK → Prop}
theorem pa_c (ha : PE X e te) (hr : PA X es t) (hs : isStar e = false := by rfl) : PA X (e :: es) (tCons te t) := pa_cons ha hr (star_cons hs)
theorem pe_callS (F : FnOk X.prog X.w X.K X.mg X.base CX k f fd ps sp) (hr : Room k X.A) (hg : Gl X x) (hm : X.mg x = some (.ref f)) (hk : PySem.W.keepIn X.K (.ref f) = true) (hb : Binds X.K fd ps ds) (hd : Vals dvs ds) (hx : Passes CX X E)
    (ha : PA X (e :: es) t) (hns : noStars (e :: es) = true := by rfl) (hdb : (x == ("__debug__" : Str)) = false := by decide) : PE X (.Call (.Name x p) (e :: es) [] pos) (tCall sp dvs E t) :=
  pe_call F hr hg hm hk hb hd hx ha hdb (star_of hns) (star_any (star_tail hns))
theorem pe_callBS (hc : CallR X (.builtin id) r) (hg : Gl X x) (hm : X.mg x = none) (hv : bootBuiltins x = some (.builtin id)) (ha : PA X (e :: es) t) (hns : noStars (e :: es) = true := by rfl) (hn : x ≠ "__name__" := by decide) (hdb : (x == ("__debug__" : Str)) = false := by decide) :
    PE X (.Call (.Name x p) (e :: es) [] pos) (tCB r t) := pe_callB hc hg hm hv ha hn hdb (star_of hns) (star_any (star_tail hns))
theorem pe_callTyS (hc : CallR X (.type T) r) (hg : Gl X x) (hm : X.mg x = none) (hv : bootBuiltins x = some (.type T)) (ha : PA X (e :: es) t) (hns : noStars (e :: es) = true := by rfl) (hn : x ≠ "__name__" := by decide) (hdb : (x == ("__debug__" : Str)) = false := by decide) :
    PE X (.Call (.Name x p) (e :: es) [] pos) (tCB r t) := pe_callTy hc hg hm hv ha hn hdb (star_of hns) (star_any (star_tail hns))
end
def isCompr : Expr → Bool
  | .ListComp _ _ _ _ => true
  | .SetComp _ _ _ _ => true
  | .DictComp _ _ _ _ _ => true
  | _ => false
theorem swaps_no {e : Expr} {tg : Option Expr} {n : Nat} {env : Env} (h : isCompr e = false) : swapsWith e tg n env = pure false := by
  cases e <;> first | rfl | cases h
section
variable {X : Cx} {e : Expr} {te : TE} {pos : Pos}
theorem ps_exprS (he : PE X e te) (hs : isCompr e = false := by rfl) : PS X (.Expr e pos) (tDrop te) := ps_expr he (swaps_no hs)
theorem ps_setS {i : Nat} {x : Str} {pos' : Pos} (hN : X.N.Nodup) (hi : X.N[i]? = some x) (hx : Loc X.env.scope x) (he : PE X e te) (hs : isCompr e = false := by rfl) (hf : X.fn x = true ∨ X.env.scope.names.lookup x = some .local := by first | exact .inl rfl | exact .inr rfl | assumption) :
    PS X (.Assign [.Name x pos'] e pos) (tAsg te (gName i)) := ps_set hN hi hx he (swaps_no hs) hf
end
def rLen (K : PySem.W.Frag) : List V → Hp → VK → Prop := fun xs H Q => ∃ p ys, xs = [.ref p] ∧ (SqL K H p ys ∨ SqT K H p ys) ∧ Q (.int ys.length) H
def rInt1 : List V → Hp → VK → Prop := fun xs H Q => (∃ i, xs = [.int i] ∧ Q (.int i) H) ∨ ∃ k, xs = [.bl k] ∧ Q (.int (if k then 1 else 0)) H
def rAbs : List V → Hp → VK → Prop := fun xs H Q => ∃ i, xs = [.int i] ∧ Q (.int (if i < 0 then -i else i)) H
def rMax : List V → Hp → VK → Prop := fun xs H Q => ∃ i j, xs = [.int i, .int j] ∧ Q (.int (if j > i then j else i)) H
def rMin : List V → Hp → VK → Prop := fun xs H Q => ∃ i j, xs = [.int i, .int j] ∧ Q (.int (if j < i then j else i)) H
def rTupOf (K : PySem.W.Frag) : List V → Hp → VK → Prop := fun xs H Q => ∃ p ys, xs = [.ref p] ∧ ((SqL K H p ys ∧ ∀ l, H l = none → Q (.ref l) (upd H l (.tup ys))) ∨ (SqT K H p ys ∧ Q (.ref p) H))
def rIsB : R2 := fun x y H Q => ∃ b, y = .bl b ∧ Q (.bl (decide (x = .bl b))) H
def rNotB : R2 := fun x y H Q => ∃ b, y = .bl b ∧ Q (.bl (!decide (x = .bl b))) H
def rIsN : R2 := fun x y H Q => y = .non ∧ Q (.bl (decide (x = .non))) H
def rNotN : R2 := fun x y H Q => y = .non ∧ Q (.bl (!decide (x = .non))) H
section
variable {X : Cx}
theorem ca_len : CallR X (.builtin "len") (rLen X.K) := call_len_seq
theorem ca_abs : CallR X (.builtin "abs") rAbs := call_abs
theorem ca_max (hc : X.calm = true) : CallR X (.builtin "max") rMax := call_max2 hc
theorem ca_min (hc : X.calm = true) : CallR X (.builtin "min") rMin := call_min2 hc
theorem ca_tuple : CallR X (.type "tuple") (rTupOf X.K) := call_tuple_of
theorem oq_isN : OpR X (compareOp .Is) rIsN := op_isN
theorem oq_notN : OpR X (compareOp .IsNot) rNotN := op_notN
end
section
variable {K : PySem.W.Frag} {σ : St} {H : Hp} {Q : VK} {D : Ends}
theorem rd_seq {t u : TS} (h : t { D with nx := u D } σ H) : tSeq t u D σ H := h
theorem rd_ret {te : TE} (h : te σ H D.rt) : tRet te D σ H := h
theorem rd_retN (h : D.rt .non H) : tRetN D σ H := h
theorem rd_drop {te : TE} (h : te σ H fun _ H1 => D.nx σ H1) : tDrop te D σ H := h
theorem rd_next (h : D.nx σ H) : tNext D σ H := h
theorem rd_asg {te : TE} {g : TG} (h : te σ H fun x H1 => g x σ H1 D.nx) : tAsg te g D σ H := h
theorem rd_gname {i : Nat} {v : V} {R : St → Hp → Prop} (h : R (σ.set i (some v)) H) : gName i v σ H R := h
theorem rd_gnil {R : St → Hp → Prop} (h : R σ H) : gNil [] σ H R := ⟨rfl, h⟩
theorem rd_gcons {t : TG} {u : TGs} {v : V} {r : List V} {R : St → Hp → Prop} (h : t v σ H fun σ' H' => u r σ' H' R) : gCons t u (v :: r) σ H R := ⟨v, r, rfl, h⟩
theorem rd_gsub {to ti : TE} {t : TSet} {v : V} {R : St → Hp → Prop} (h : to σ H fun o H1 => ti σ H1 fun i H2 => t o i v H2 fun H3 => R σ H3) : gSub to ti t v σ H R := h
theorem rd_ifS {c : TT} {t u : TS} (h : c σ H fun b H1 => if b = true then t D σ H1 else u D σ H1) : tIfS c t u D σ H := h
theorem rd_test {t : TE} {R : Bool → Hp → Prop} (h : t σ H fun x H' => ∃ k, x = .bl k ∧ R k H') : tTest t σ H R := h
theorem rd_B {t : TE} {R : Bool → Hp → Prop} (h : t σ H fun x H' => ∃ k, x = .bl k ∧ R k H') : tB t σ H R := h
theorem rd_k {b : Bool} {R : Bool → Prop} (h : R b) : ∃ k, V.bl b = .bl k ∧ R k := ⟨b, rfl, h⟩
theorem rd_and {t u : TT} {R : Bool → Hp → Prop} (h : t σ H fun c H1 => if c = true then u σ H1 R else R false H1) : tAnd t u σ H R := h
theorem rd_or {t u : TT} {R : Bool → Hp → Prop} (h : t σ H fun c H1 => if c = true then R true H1 else u σ H1 R) : tOr t u σ H R := h
theorem rd_not {t : TT} {R : Bool → Hp → Prop} (h : t σ H fun c H1 => R (!c) H1) : tNot t σ H R := h
theorem rd_andV {t u : TE} (h : t σ H fun x H1 => ∃ c, x = .bl c ∧ if c = true then u σ H1 Q else Q (.bl false) H1) : tAndV t u σ H Q := h
theorem rd_orV {t u : TE} (h : t σ H fun x H1 => ∃ c, x = .bl c ∧ if c = true then Q (.bl true) H1 else u σ H1 Q) : tOrV t u σ H Q := h
theorem rd_notV {t : TE} (h : t σ H fun x H1 => ∃ c, x = .bl c ∧ Q (.bl (!c)) H1) : tNotV t σ H Q := h
theorem rd_if {t : TT} {ta tb : TE} (h : t σ H fun c H1 => if c = true then ta σ H1 Q else tb σ H1 Q) : tIf t ta tb σ H Q := h
theorem rd_var {i : Nat} {v : V} (e : σ[i]? = some (some v)) (h : Q v H) : tVar i σ H Q := ⟨v, e, h⟩
theorem cpow_lit {i j : Int} (h1 : 0 ≤ j) (h2 : j ≤ 1000000) (h3 : i.natAbs < 2 ^ 64) : CPow i j := ⟨h1, h2, h3⟩
theorem rd_c {v : V} (h : Q v H) : tC v σ H Q := h
theorem rd_op {r : R2} {ta tb : TE} (h : ta σ H fun x H1 => tb σ H1 fun y H2 => r x y H2 Q) : tOp r ta tb σ H Q := h
theorem rd_un {r : V → Hp → VK → Prop} {ta : TE} (h : ta σ H fun x H1 => r x H1 Q) : tUn r ta σ H Q := h
theorem rd_I0 {g : Int → Int → V} {i j : Int} (h : Q (g i j) H) : rI0 g (.int i) (.int j) H Q := ⟨i, j, rfl, rfl, h⟩
theorem rd_I {C : Int → Int → Prop} {g : Int → Int → V} {i j : Int} (c : C i j) (h : Q (g i j) H) : rI C g (.int i) (.int j) H Q := ⟨i, j, rfl, rfl, c, h⟩
theorem rd_U {g : Int → V} {i : Int} (h : Q (g i) H) : rU g (.int i) H Q := ⟨i, rfl, h⟩
theorem rd_eqI {i j : Int} (h : Q (.bl (decide (V.int i = V.int j))) H) : rEq (.int i) (.int j) H Q := ⟨rfl, h⟩
theorem rd_neI {i j : Int} (h : Q (.bl (!decide (V.int i = V.int j))) H) : rNe (.int i) (.int j) H Q := ⟨rfl, h⟩
theorem rd_cb {r : List V → Hp → VK → Prop} {t : TA} (h : t σ H fun vs H1 => r vs H1 Q) : tCB r t σ H Q := h
theorem rd_call {sp : Sp} {dvs : List V} {E : XK} {t : TA} (h : t σ H fun vs H1 => sp (vs ++ dvs) H1 Q E) : tCall sp dvs E t σ H Q := h
theorem rd_cons {ta : TE} {tr : TA} {R : List V → Hp → Prop} (h : ta σ H fun x H1 => tr σ H1 fun xs H2 => R (x :: xs) H2) : tCons ta tr σ H R := h
theorem rd_nil {R : List V → Hp → Prop} (h : R [] H) : tNil σ H R := h
def rNew (n : Nat) (o : HO) (H : Hp) (Q : VK) : Prop := n ≤ sizeLine ∧ ∀ p, H p = none → Q (.ref p) (upd H p o)
theorem rd_tup {t : TA} (h : t σ H fun xs H1 => rNew xs.length (.tup xs) H1 Q) : tTup t σ H Q := h
theorem rd_lst {t : TA} (h : t σ H fun xs H1 => rNew xs.length (.lst xs) H1 Q) : tLst t σ H Q := h
theorem rd_new {n : Nat} {o : HO} (hz : n ≤ sizeLine) (h : ∀ p H2, H p = none → H2 p = some o → Same H H2 → Q (.ref p) H2) : rNew n o H Q :=
  ⟨hz, fun p hp => h p _ hp upd_same (fun b u e => by rw [upd_ne (ne_of_none e hp)]; exact e)⟩
theorem rd_chain {r r' : R2} {ta tb tc : TE} (h : ta σ H fun x H1 => tb σ H1 fun y H2 => r x y H2 fun z H3 => ∃ k, z = .bl k ∧ (if k = true then tc σ H3 fun w' H4 => r' y w' H4 Q else Q (.bl false) H3)) : tChain r r' ta tb tc σ H Q := h
theorem rd_ixL {p : Addr} {xs : List V} {i : Int} {v : V} (h1 : SqL K H p xs) (h2 : atI xs i = some v) (h : Q v H) : rIxL K (.ref p) (.int i) H Q := ⟨p, xs, i, v, rfl, rfl, h1, h2, h⟩
theorem rd_ixT {p : Addr} {xs : List V} {i : Int} {v : V} (h1 : SqT K H p xs) (h2 : atI xs i = some v) (h : Q v H) : rIxT K (.ref p) (.int i) H Q := ⟨p, xs, i, v, rfl, rfl, h1, h2, h⟩
theorem rd_setA {p : Addr} {xs : List V} {k : Int} {j : Nat} {v : V} {R : Hp → Prop} (h1 : H p = some (.lst xs)) (h2 : ixN xs.length k = some j)
    (h : ∀ H2, H2 p = some (.lst (xs.set j v)) → (∀ q o, H q = some o → q ≠ p → H2 q = some o) → R H2) : rSetL (.ref p) (.int k) v H R :=
  ⟨p, xs, k, j, rfl, rfl, h1, h2, h _ upd_same fun q o e n => by rw [upd_ne n]; exact e⟩
def rFor (J : It) (g : TG) (tb : TS) (D : Ends) (σ : St) (H : Hp) : Prop := ∃ W : Nat → Nat → St → Hp → Prop, (∃ m, W 0 m σ H) ∧ ∀ i m σ H, W i m σ H →
  (J.stop i H ∧ D.nx σ H) ∨ (J.go i H ∧ ∃ N : St → Hp → Prop, (∀ σ' H', N σ' H' → ∃ m', m' < m ∧ W (i + 1) m' σ' H') ∧ ∀ x H', J.yld i H x H' → g x σ H' fun σ2 H2 => tb { D with nx := N, ct := N, bk := D.nx } σ2 H2)
theorem rd_for {wi : TI} {g : TG} {tb : TS} (h : wi σ H fun J H1 => rFor J g tb D σ H1) : tFor wi g tb D σ H := h
def rRng1 (vs : List V) (H : Hp) (R : It → Hp → Prop) : Prop := ∃ j : Int, vs = [.int j] ∧ -(2 ^ 62) ≤ j ∧ j < 2 ^ 62 ∧ R (Itr 0 j.toNat) H
theorem rd_rng1 {ta : TA} {R : It → Hp → Prop} (h : ta σ H fun vs H1 => rRng1 vs H1 R) : iRng1 ta σ H R := h
theorem rd_rng {j : Int} {R : It → Hp → Prop} (h1 : -(2 ^ 62) ≤ j) (h2 : j < 2 ^ 62) (h : R (Itr 0 j.toNat) H) : rRng1 [.int j] H R := ⟨j, rfl, h1, h2, h⟩
def rRng2 (vs : List V) (H : Hp) (R : It → Hp → Prop) : Prop := ∃ i j : Int, vs = [.int i, .int j] ∧ (-(2 ^ 62) ≤ i ∧ i < 2 ^ 62 ∧ -(2 ^ 62) ≤ j ∧ j < 2 ^ 62) ∧ R (Itr i (j - i).toNat) H
theorem rd_rng2 {ta : TA} {R : It → Hp → Prop} (h : ta σ H fun vs H1 => rRng2 vs H1 R) : iRng2 ta σ H R := h
theorem rd_int1 {b : Bool} (h : Q (.int (if b then 1 else 0)) H) : rInt1 [.bl b] H Q := .inr ⟨b, rfl, h⟩
theorem rd_abs {i : Int} (h : Q (.int (if i < 0 then -i else i)) H) : rAbs [.int i] H Q := ⟨i, rfl, h⟩
theorem rd_max {i j : Int} (h : Q (.int (if j > i then j else i)) H) : rMax [.int i, .int j] H Q := ⟨i, j, rfl, h⟩
theorem rd_min {i j : Int} (h : Q (.int (if j < i then j else i)) H) : rMin [.int i, .int j] H Q := ⟨i, j, rfl, h⟩
theorem rd_lenL {p : Addr} {ys : List V} (h1 : SqL K H p ys) (h : Q (.int ys.length) H) : rLen K [.ref p] H Q := ⟨p, ys, rfl, .inl h1, h⟩
theorem rd_lenT {p : Addr} {ys : List V} (h1 : SqT K H p ys) (h : Q (.int ys.length) H) : rLen K [.ref p] H Q := ⟨p, ys, rfl, .inr h1, h⟩
theorem rd_isi {x : V} {n : String} {t : Value} {b : Bool} (ty : TyOf K H x t) (e : PySem.W.kitOne K t (.type n) = some b) (h : Q (.bl b) H) : rIsi K [x, .ty n] H Q := ⟨x, n, t, b, rfl, ty, e, h⟩
theorem rd_isB {x : V} {b : Bool} (h : Q (.bl (decide (x = .bl b))) H) : rIsB x (.bl b) H Q := ⟨b, rfl, h⟩
theorem rd_notB {x : V} {b : Bool} (h : Q (.bl (!decide (x = .bl b))) H) : rNotB x (.bl b) H Q := ⟨b, rfl, h⟩
theorem rd_isN {x : V} (h : Q (.bl (decide (x = .non))) H) : rIsN x .non H Q := ⟨rfl, h⟩
theorem rd_notN {x : V} (h : Q (.bl (!decide (x = .non))) H) : rNotN x .non H Q := ⟨rfl, h⟩
theorem rd_gtup {n : Nat} {t : TGs} {p : Addr} {xs : List V} {R : St → Hp → Prop} (h1 : SqT K H p xs) (h2 : xs.length = n) (h : t xs σ H R) : gTup K n t (.ref p) σ H R := ⟨p, xs, rfl, h1, h2, h⟩
theorem rd_tupL {p : Addr} {ys : List V} (h1 : SqL K H p ys) (h : ∀ l H2, H l = none → H2 l = some (.tup ys) → Same H H2 → Q (.ref l) H2) :
    rTupOf K [.ref p] H Q :=
  ⟨p, ys, rfl, .inl ⟨h1, fun l hl => h l _ hl upd_same (fun b u e => by rw [upd_ne (ne_of_none e hl)]; exact e)⟩⟩
theorem rd_slL {p : Addr} {xs : List V} {lo hi : Option Int} (h1 : SqL K H p xs) (h : ∀ l H2, H l = none → H2 l = some (.lst (cutV xs lo hi)) → Same H H2 → Q (.ref l) H2) : rSlL K (.ref p) lo hi H Q :=
  ⟨p, xs, rfl, h1, fun l hl => h l _ hl upd_same (fun b u e => by rw [upd_ne (ne_of_none e hl)]; exact e)⟩
theorem rd_cat {p q : Addr} {xs zs : List V} (h1 : H p = some (.lst xs)) (h2 : H q = some (.lst zs)) (hz : xs.length + zs.length ≤ sizeLine) (h : ∀ l H2, H l = none → H2 l = some (.lst (xs ++ zs)) → Same H H2 → Q (.ref l) H2) : rCat (.ref p) (.ref q) H Q :=
  ⟨p, q, xs, zs, rfl, rfl, h1, h2, hz, fun l hl => h l _ hl upd_same (fun b u e => by rw [upd_ne (ne_of_none e hl)]; exact e)⟩
theorem rd_sl {r : V → Option Int → Option Int → Hp → VK → Prop} {te : TE} {tl th : TO} (h : te σ H fun x H1 => tl σ H1 fun l H2 => th σ H2 fun u H3 => r x l u H3 Q) : tSl r te tl th σ H Q := h
theorem rd_noPart {R : Option Int → Hp → Prop} (h : R none H) : tNoPart σ H R := h
theorem rd_part {t : TE} {R : Option Int → Hp → Prop} (h : t σ H fun x H1 => ∃ i, x = .int i ∧ R (some i) H1) : tPart t σ H R := h
theorem rd_i {i : Int} {R : Int → Prop} (h : R i) : ∃ j, V.int i = .int j ∧ R j := ⟨i, rfl, h⟩
theorem iteD {c A B : Prop} [Decidable c] (h1 : c → A) (h2 : ¬ c → B) : if decide c = true then A else B := by
  by_cases h : c
  · rw [decide_eq_true h]; exact iteT (h1 h)
  · rw [decide_eq_false h]; exact iteF (h2 h)
theorem iteND {c A B : Prop} [Decidable c] (h1 : ¬ c → A) (h2 : c → B) : if (!decide c) = true then A else B := by
  by_cases h : c
  · rw [decide_eq_true h]; exact iteF (h2 h)
  · rw [decide_eq_false h]; exact iteT (h1 h)
theorem dec_i {i j : Int} : decide (V.int i = V.int j) = decide (i = j) := by
  by_cases h : i = j
  · subst h; simp
  · rw [decide_eq_false h, decide_eq_false (fun z => h (V.int.inj z))]
theorem rd_forR {lo : Int} {n : Nat} {g : TG} {tb : TS} (Pv : Nat → St → Hp → Prop) (h0 : Pv 0 σ H)
    (hs : ∀ i σ H, i < n → Pv i σ H → g (.int (lo + i)) σ H fun σ2 H2 => tb { D with nx := Pv (i + 1), ct := Pv (i + 1), bk := D.nx } σ2 H2) (hd : ∀ σ H, Pv n σ H → D.nx σ H) :
    rFor (Itr lo n) g tb D σ H := for_range Pv h0 hs hd
theorem rd_forL {a : Addr} {xs : List V} {g : TG} {tb : TS} (Pv : Nat → St → Hp → Prop) (h0 : Pv 0 σ H) (hl : ∀ i σ H, i ≤ xs.length → Pv i σ H → SqL K H a xs)
    (hs : ∀ i x σ H, xs[i]? = some x → Pv i σ H → g x σ H fun σ2 H2 => tb { D with nx := Pv (i + 1), ct := Pv (i + 1), bk := D.nx } σ2 H2) (hd : ∀ σ H, Pv xs.length σ H → D.nx σ H) :
    rFor (Itl K a) g tb D σ H := for_list Pv h0 hl hs hd
theorem rd_forT {a : Addr} {xs : List V} {g : TG} {tb : TS} (Pv : Nat → St → Hp → Prop) (h0 : Pv 0 σ H) (hl : ∀ i σ H, i ≤ xs.length → Pv i σ H → SqT K H a xs)
    (hs : ∀ i x σ H, xs[i]? = some x → Pv i σ H → g x σ H fun σ2 H2 => tb { D with nx := Pv (i + 1), ct := Pv (i + 1), bk := D.nx } σ2 H2) (hd : ∀ σ H, Pv xs.length σ H → D.nx σ H) :
    rFor (Itt K a) g tb D σ H := for_tup Pv h0 hl hs hd
def rComp (J : It) (g : TG) (tt : TT) (te : TE) (l : Addr) (σ0 : St) (H : Hp) (Q : VK) : Prop :=
  ∃ W : Nat → Nat → St → Hp → Prop, (∃ m, W 0 m σ0 (upd H l (.lst []))) ∧ ∀ i m σ' H', W i m σ' H' →
    (J.stop i H' ∧ Q (.ref l) H') ∨ (J.go i H' ∧ ∃ N : St → Hp → Prop, (∀ σ2 H2, N σ2 H2 → ∃ m', m' < m ∧ W (i + 1) m' σ2 H2) ∧
      ∀ x H'', J.yld i H' x H'' → g x σ' H'' fun σ2 H2 => tt σ2 H2 fun b H3 =>
        if b = true then te σ2 H3 fun v H4 => ∃ xs, H4 l = some (.lst xs) ∧ xs.length < sizeLine ∧ N σ2 (upd H4 l (.lst (xs ++ [v]))) else N σ2 H3)
theorem comp_by {J : It} {g : TG} {tt : TT} {te : TE} {σ0 : St} {l : Addr} (n : Nat) (Pv : Nat → St → Hp → Prop) (h0 : Pv 0 σ0 (upd H l (.lst [])))
    (stop : ∀ σ H, Pv n σ H → J.stop n H ∧ Q (.ref l) H)
    (go : ∀ i σ H, i < n → Pv i σ H → J.go i H ∧ ∀ x H', J.yld i H x H' → g x σ H' fun σ2 H2 => tt σ2 H2 fun b H3 =>
      if b = true then te σ2 H3 fun v H4 => ∃ xs, H4 l = some (.lst xs) ∧ xs.length < sizeLine ∧ Pv (i + 1) σ2 (upd H4 l (.lst (xs ++ [v]))) else Pv (i + 1) σ2 H3) :
    rComp J g tt te l σ0 H Q := by
  refine ⟨fun i m σ H => m = n - i ∧ i ≤ n ∧ Pv i σ H, ⟨n, by simp, Nat.zero_le _, h0⟩, ?_⟩
  rintro i m σ H ⟨rfl, hi, p⟩
  by_cases hlt : i < n
  · obtain ⟨hgo, h⟩ := go i σ H hlt p
    exact .inr ⟨hgo, Pv (i + 1), fun σ' H' p' => ⟨n - (i + 1), by omega, rfl, hlt, p'⟩, h⟩
  · have e : i = n := by omega
    subst e
    exact .inl (stop σ H p)
theorem rd_comp {own : Nat} {ks : List Nat} {wi : TI} {g : TG} {tt : TT} {te : TE} (h : wi σ H fun J H1 => ∀ l, H1 l = none → rComp J g tt te l (capSt own ks σ) H1 Q) : tComp own ks wi g tt te σ H Q := h
def rItT (K : PySem.W.Frag) (x : V) (H : Hp) (R : It → Hp → Prop) : Prop := ∃ a, x = .ref a ∧ (∃ xs, SqT K H a xs) ∧ R (Itt K a) H
def rItL (K : PySem.W.Frag) (x : V) (H : Hp) (R : It → Hp → Prop) : Prop := ∃ a, x = .ref a ∧ (∃ xs, SqL K H a xs) ∧ R (Itl K a) H
theorem rd_iTup {tl : TE} {R : It → Hp → Prop} (h : tl σ H fun x H1 => rItT K x H1 R) : iTup K tl σ H R := h
theorem rd_iList {tl : TE} {R : It → Hp → Prop} (h : tl σ H fun x H1 => rItL K x H1 R) : iList K tl σ H R := h
theorem rd_itT {p : Addr} {xs : List V} {R : It → Hp → Prop} (h1 : SqT K H p xs) (h : R (Itt K p) H) : rItT K (.ref p) H R := ⟨p, rfl, ⟨xs, h1⟩, h⟩
theorem rd_itL {p : Addr} {xs : List V} {R : It → Hp → Prop} (h1 : SqL K H p xs) (h : R (Itl K p) H) : rItL K (.ref p) H R := ⟨p, rfl, ⟨xs, h1⟩, h⟩
theorem rd_noIf {R : Bool → Hp → Prop} (h : R true H) : tNoIf σ H R := h
end
theorem Same.seqT {K : PySem.W.Frag} {H H' : Hp} {a : Addr} {xs : List V} (e : Same H H') (h : SqT K H a xs) : SqT K H' a xs := by
  rcases h with (h | ⟨o, h⟩) | h
  · exact .inl (.inl (e _ _ h))
  · exact .inl (.inr ⟨o, e _ _ h⟩)
  · exact .inr h
def Kp (p : Addr) (H H' : Hp) : Prop := ∀ q o, H q = some o → q ≠ p → H' q = some o
theorem Kp.refl (p : Addr) (H : Hp) : Kp p H H := fun _ _ h _ => h
theorem Kp.trans {p : Addr} {H H1 H2 : Hp} (a : Kp p H H1) (b : Kp p H1 H2) : Kp p H H2 := fun q o h n => b q o (a q o h n) n
theorem Kp.upd {p : Addr} {H : Hp} {o : HO} : Kp p H (upd H p o) := fun q u h n => by rw [upd_ne n]; exact h
theorem Kp.same {p : Addr} {H H' : Hp} (a : Same H H') : Kp p H H' := fun q o h _ => a q o h
theorem Same.new {H : Hp} {l : Addr} {o : HO} (h : H l = none) : Same H (upd H l o) := fun b u e => by rw [upd_ne (ne_of_none e h)]; exact e
theorem TyOf.same {K : PySem.W.Frag} {H H' : Hp} {x : V} {t : Value} (e : Same H H') (h : TyOf K H x t) : TyOf K H' x t := by
  cases h with
  | non => exact .non
  | bl x => exact .bl x
  | int i => exact .int i
  | str x => exact .str x
  | flt x => exact .flt x
  | lst h => exact .lst (e _ _ h)
  | frz h => exact .frz (e _ _ h)
  | tup h => exact .tup (e _ _ h)
  | dK h => exact .dK (e _ _ h)
  | dT h => exact .dT (e _ _ h)
  | ins h cl ha hn htk hm => exact .ins (e _ _ h) cl ha hn htk hm
def Pot (H : Hp) (p : Addr) : Prop := ∃ a b : Int, H p = some (.lst [.int a, .int b]) ∧ 0 ≤ a ∧ 0 ≤ b ∧ b < 2147483648
theorem Pot.same {H H' : Hp} {p : Addr} (h : Pot H p) (s : Same H H') : Pot H' p := by
  obtain ⟨x, y, h, r⟩ := h
  exact ⟨x, y, s _ _ h, r⟩
theorem Pot.neN {H : Hp} {p l : Addr} (h : Pot H p) (hl : H l = none) : l ≠ p := by
  obtain ⟨x, y, h, r⟩ := h
  exact (ne_of_none h hl).symm
theorem Kp.then {H H1 H2 : Hp} {p : Addr} (h : Kp p H H1) (s : Same H1 H2) : Kp p H H2 := h.trans (Kp.same s)
theorem Kp.free {H H1 : Hp} {p l : Addr} (h : Kp p H H1) (hp : Pot H1 p) (hl : H1 l = none) : H l = none := by
  cases e : H l with
  | none => rfl
  | some o =>
    have := h l o e (hp.neN hl)
    rw [hl] at this
    cases this
theorem Kp.fresh {H H1 : Hp} {p : Addr} (h : Kp p H H1) (hp : H p = none) : Same H H1 := fun q o e => h q o e (ne_of_none e hp)
end L2
set_option Elab.async false
set_option linter.all false
set_option maxRecDepth 100000
set_option maxHeartbeats 4000000
namespace L2
open PySem PySem.Spec PyProof.Rows
structure QE (X : Cx) (e : Expr) (t : TE) : Prop where
  h : PE X e t
structure QT (X : Cx) (e : Expr) (t : TT) : Prop where
  h : PT X e t
structure QW (X : Cx) (e : Expr) (t : TT) : Prop where
  h : PW X e t
structure QA (X : Cx) (es : List Expr) (t : TA) : Prop where
  h : PA X es t
structure QS (X : Cx) (st : Stmt) (t : TS) : Prop where
  h : PS X st t
structure QB (X : Cx) (st : List Stmt) (t : TS) : Prop where
  h : PSs X st t
structure QG (X : Cx) (e : Expr) (t : TG) : Prop where
  h : PG X e t
structure QGs (X : Cx) (es : List Expr) (t : TGs) : Prop where
  h : PGs X es t
structure QI (X : Cx) (tg e : Expr) (t : TI) : Prop where
  h : PI X tg e t
structure QF (X : Cx) (es : List Expr) (t : TT) : Prop where
  h : PIfs X es t
structure QO (X : Cx) (e : Option Expr) (t : TO) : Prop where
  h : PO X e t
def isSlc : Expr → Bool
  | .Slice _ _ _ _ => true
  | _ => false
theorem plainIx {b : Expr} (h : isSlc b = false) : PlainIx b := by
  intro o i
  cases b <;> first | rfl | cases h
def isPlainT : Expr → Bool
  | .UnaryOp _ _ _ => false
  | .BoolOp _ _ _ => false
  | .IfExp _ _ _ _ => false
  | .Compare _ _ _ _ => false
  | _ => true
theorem plainT {e : Expr} {env : Env} (h : isPlainT e = true) : ∀ whole, isTrue e env whole = (do let v ← whole; standAt e.pos; holding [v] (truthy v)) := by
  intro whole
  cases e <;> first | rfl | cases h
section
variable {X : Cx} {a b c e o : Expr} {es rest : List Expr} {ta tb tc te to ti : TE} {tA tB' : TT} {t tr : TA} {pos p p2 pos' : Pos} {x : Str}
theorem qv (i : Nat) {x : Str} {pos : Pos} (hN : X.N[i]? = some x := by rfl) (hv : Vis X.env.scope x := by first | exact Or.inl rfl | exact Or.inr (Or.inl rfl) | exact Or.inr (Or.inr rfl)) (hd : (x == ("__debug__" : Str)) = false := by decide)
    (hcd : (x == ("__classdict__" : Str)) = false := by decide) : QE X (.Name x pos) (tVar i) := ⟨pe_var hN hv hd hcd⟩
theorem qe_int {i j pos} : QE X (.Constant (.int i) j pos) (tC (.int i)) := ⟨pe_int⟩
theorem qe_bl {b j pos} : QE X (.Constant (.bool b) j pos) (tC (.bl b)) := ⟨pe_bl⟩
theorem qe_non {j pos} : QE X (.Constant .none j pos) (tC .non) := ⟨pe_non⟩
theorem qe_str {x j pos} : QE X (.Constant (.str x) j pos) (tC (.str x)) := ⟨pe_str⟩
theorem qe_glob {v : V} {u : Value} (hg : Gl X x) (hm : X.mg x = some u) (r : RelV v u) (hd : (x == ("__debug__" : Str)) = false := by decide) : QE X (.Name x pos) (tC v) := ⟨pe_glob hg hm r hd⟩
theorem qe_bltn {v : V} {u : Value} (hg : Gl X x) (hm : X.mg x = none) (hv : bootBuiltins x = some u) (r : RelV v u) (hn : x ≠ "__name__" := by decide) (hd : (x == ("__debug__" : Str)) = false := by decide) : QE X (.Name x pos) (tC v) := ⟨pe_bltn hg hm hv r hn hd⟩
theorem qe_op {op : Operator} {r : R2} (ho : OpR X (binaryOp op) r) (ha : QE X a ta) (hb : QE X b tb) : QE X (.BinOp a op b pos) (tOp r ta tb) := ⟨pe_op ho ha.h hb.h⟩
theorem qe_un {op : UnaryOp} {r : V → Hp → VK → Prop} (ho : UnR X (unaryOp op) r) (ha : QE X a ta) : QE X (.UnaryOp op a pos) (tUn r ta) := ⟨pe_un ho ha.h⟩
theorem qe_not (ha : QE X a ta) : QE X (.UnaryOp .Not a pos) (tNotV ta) := ⟨pe_not ha.h⟩
theorem qe_one {op} (h : QE X a ta) : QE X (.BoolOp op [a] pos) ta := ⟨pe_one h.h⟩
theorem qe_and (ha : QE X a ta) (hb : QE X (.BoolOp .And (b :: rest) pos) tb) : QE X (.BoolOp .And (a :: b :: rest) pos) (tAndV ta tb) := ⟨pe_and ha.h hb.h⟩
theorem qe_ifExp (hc : QT X c tA) (ha : QE X a ta) (hb : QE X b tb) : QE X (.IfExp c a b pos) (tIf tA ta tb) := ⟨pe_ifExp hc.h ha.h hb.h⟩
theorem qe_cmpR {op : CmpOp} {r : R2} (ho : OpR X (compareOp op) r) (ha : QE X a ta) (hb : QE X b tb) (hm : behindInMarks op b = false) : QE X (.Compare a [op] [b] pos) (tOp r ta tb) := ⟨pe_cmpR ho ha.h hb.h hm⟩
theorem qt_cmpR {op : CmpOp} {r : R2} (ho : OpR X (compareOp op) r) (ha : QE X a ta) (hb : QE X b tb) (hm : behindInMarks op b = false) : QT X (.Compare a [op] [b] pos) (tTest (tOp r ta tb)) := ⟨pt_cmpR ho ha.h hb.h hm⟩
theorem qe_chain {op op' : CmpOp} {r r' : R2} (ho : OpR X (compareOp op) r) (ho' : OpR X (compareOp op') r') (ha : QE X a ta) (hb : QE X b tb) (hc : QE X c tc)
    (hm : lastMarks [op, op'] [b, c] = false := by with_unfolding_all rfl) : QE X (.Compare a [op, op'] [b, c] pos) (tChain r r' ta tb tc) := ⟨pe_chain ho ho' ha.h hb.h hc.h hm⟩
theorem qt_chain {op op' : CmpOp} {r r' : R2} (ho : OpR X (compareOp op) r) (ho' : OpR X (compareOp op') r') (ha : QE X a ta) (hb : QE X b tb) (hc : QE X c tc)
    (hm : lastMarks [op, op'] [b, c] = false := by with_unfolding_all rfl) : QT X (.Compare a [op, op'] [b, c] pos) (tTest (tChain r r' ta tb tc)) := ⟨pt_chain ho ho' ha.h hb.h hc.h hm⟩
theorem qt_val (h : QE X e te) (he : isPlainT e = true := by rfl) : QT X e (tB te) := ⟨pt_val h.h (plainT he)⟩
theorem QW.pt (h : QW X e tA) : QT X e tA := ⟨h.h.pt⟩
theorem qw_and1 (ha : QT X a tA) : QW X (.BoolOp .And [a] pos) tA := ⟨pw_and1 ha.h⟩
theorem qw_or1 (ha : QT X a tA) : QW X (.BoolOp .Or [a] pos) tA := ⟨pw_or1 ha.h⟩
theorem qw_and (ha : QT X a tA) (hb : QW X (.BoolOp .And (b :: rest) pos) tB') : QW X (.BoolOp .And (a :: b :: rest) pos) (tAnd tA tB') := ⟨pw_and ha.h hb.h⟩
theorem qw_or (ha : QT X a tA) (hb : QW X (.BoolOp .Or (b :: rest) pos) tB') : QW X (.BoolOp .Or (a :: b :: rest) pos) (tOr tA tB') := ⟨pw_or ha.h hb.h⟩
theorem qt_not (ha : QT X a tA) : QT X (.UnaryOp .Not a pos) (tNot tA) := ⟨pt_not ha.h⟩
theorem qa_nil : QA X [] tNil := ⟨pa_nil⟩
theorem qa_c (ha : QE X e te) (hr : QA X es t) (hs : isStar e = false := by rfl) : QA X (e :: es) (tCons te t) := ⟨pa_c ha.h hr.h hs⟩
theorem qe_tup {x1} (h : QA X es t) : QE X (.Tuple es x1 pos) (tTup t) := ⟨pe_tup h.h⟩
theorem qe_lst (h : QA X es t) : QE X (.List es pos) (tLst t) := ⟨pe_lst h.h⟩
theorem qe_ix {r : R2} (hr : IxR X r) (ha : QE X a ta) (hb : QE X b tb) (hs : isSlc b = false := by rfl) : QE X (.Subscript a b pos) (tOp r ta tb) := ⟨pe_ix hr ha.h hb.h (plainIx hs)⟩
theorem qo_none : QO X none tNoPart := ⟨po_none⟩
theorem qo_some (h : QE X e te) : QO X (some e) (tPart te) := ⟨po_some h.h⟩
theorem qe_slice {lo hi : Option Expr} {tl th : TO} {r : V → Option Int → Option Int → Hp → VK → Prop} (hr : SlR X r) (he : QE X e te) (hl : QO X lo tl) (hu : QO X hi th) : QE X (.Subscript e (.Slice lo hi none p2) pos) (tSl r te tl th) := ⟨pe_slice hr he.h hl.h hu.h⟩
theorem qe_callS {CX : CXT} {k : Nat} {f : Addr} {fd : FuncData} {ps : List Str} {sp : Sp} {dvs : List V} {ds : List Value} {E : XK} (F : FnOk X.prog X.w X.K X.mg X.base CX k f fd ps sp) (hr : Room k X.A) (hg : Gl X x) (hm : X.mg x = some (.ref f)) (hk : PySem.W.keepIn X.K (.ref f) = true) (hb : Binds X.K fd ps ds) (hd : Vals dvs ds) (hx : Passes CX X E)
    (ha : QA X (e :: es) t) (hns : noStars (e :: es) = true := by rfl) (hdb : (x == ("__debug__" : Str)) = false := by decide) : QE X (.Call (.Name x p) (e :: es) [] pos) (tCall sp dvs E t) := ⟨pe_callS F hr hg hm hk hb hd hx ha.h hns hdb⟩
theorem qe_callBS {id : String} {r : List V → Hp → VK → Prop} (hc : CallR X (.builtin id) r) (hg : Gl X x) (hm : X.mg x = none) (hv : bootBuiltins x = some (.builtin id)) (ha : QA X (e :: es) t) (hns : noStars (e :: es) = true := by rfl) (hn : x ≠ "__name__" := by decide) (hdb : (x == ("__debug__" : Str)) = false := by decide) :
    QE X (.Call (.Name x p) (e :: es) [] pos) (tCB r t) := ⟨pe_callBS hc hg hm hv ha.h hns hn hdb⟩
theorem qe_callTyS {T : String} {r : List V → Hp → VK → Prop} (hc : CallR X (.type T) r) (hg : Gl X x) (hm : X.mg x = none) (hv : bootBuiltins x = some (.type T)) (ha : QA X (e :: es) t) (hns : noStars (e :: es) = true := by rfl) (hn : x ≠ "__name__" := by decide) (hdb : (x == ("__debug__" : Str)) = false := by decide) :
    QE X (.Call (.Name x p) (e :: es) [] pos) (tCB r t) := ⟨pe_callTyS hc hg hm hv ha.h hns hn hdb⟩
theorem qifs_nil : QF X [] tNoIf := ⟨pifs_nil⟩
theorem qifs_one (hc : QT X c tA) : QF X [c] tA := ⟨pifs_one hc.h⟩
theorem qi_list {tg : Expr} (hl : QE X e te) : QI X tg e (iList X.K te) := ⟨pi_list hl.h⟩
theorem qi_tup {tg : Expr} (hl : QE X e te) : QI X tg e (iTup X.K te) := ⟨pi_tup hl.h⟩
theorem qi_range1 {tg : Expr} (hg : Gl X "range") (hm : X.mg "range" = none) (ha : QA X [a] t) (hs : isStar a = false := by rfl) : QI X tg (.Call (.Name "range" p) [a] [] pos) (iRng1 t) := ⟨pi_range1 hg hm ha.h (star_cons hs)⟩
theorem qg_name {i : Nat} (hN : X.N.Nodup) (hi : X.N[i]? = some x) (hx : Loc X.env.scope x) (hf : X.fn x = true ∨ X.env.scope.names.lookup x = some .local := by first | exact .inl rfl | exact .inr rfl | assumption) : QG X (.Name x pos) (gName i) := ⟨pg_name hN hi hx hf⟩
theorem qgs_nil : QGs X [] gNil := ⟨pgs_nil⟩
theorem each_cons {e : Expr} {es : List Expr} {env : Env} (h : isStar e = false) : (assignEach (e :: es) env).map (·.2) = assign e env :: (assignEach es env).map (·.2) := by
  cases e <;> first | rfl | cases h
theorem qgs_cons {g : TG} {u : TGs} (h1 : QG X e g) (h2 : QGs X es u) (hs : isStar e = false := by rfl) : QGs X (e :: es) (gCons g u) := ⟨pgs_cons h1.h h2.h (each_cons hs)⟩
theorem qg_tup {k : Nat} {u : TGs} {n : Nat} (hc : X.calm = true) (h : QGs X es u) (hn : (assignEach es X.env).length = n := by rfl) (hst : (assignEach es X.env).findIdx? (·.1) = none := by rfl) : QG X (.Tuple es k pos) (gTup X.K n u) := ⟨pg_tup hc h.h hn hst⟩
theorem qg_sub {s : TSet} (ho : QE X o to) (hi : QE X e ti) (hs : PSet X s)
    (ha : ∀ v, assign (.Subscript o e pos) X.env v = (do
      let ov ← holding [v] (eval o X.env)
      let iv ← holding [v, ov] (eval e X.env)
      standAt pos
      holding [v, ov, iv] (setItem ov iv v)
      release [v, ov, iv] []) := by intro _; rfl) : QG X (.Subscript o e pos) (gSub to ti s) := ⟨pg_sub ho.h hi.h hs ha⟩
theorem qe_comp {N : List Str} {sc : Scope} {own caps : List Str} {ks : List Nat} {elt tg iter : Expr} {ifs : List Expr} {scope : Scope} {wi : TI} {g : TG} {tt : TT}
    (hN : X.N = N) (hsc : X.env.scope = sc) (hc : X.calm = true) (S : CompSc N sc own caps ks scope) (hi : QI X tg iter wi)
    (hg : ∀ cl C s₂ H₂ fp, QG (compCx X (own ++ caps) scope cl C s₂ H₂ fp) tg g)
    (ht : ∀ cl C s₂ H₂ fp, QF (compCx X (own ++ caps) scope cl C s₂ H₂ fp) ifs tt)
    (he : ∀ cl C s₂ H₂ fp, QE (compCx X (own ++ caps) scope cl C s₂ H₂ fp) elt te)
    (hs : ∀ x, foldedSetIterable iter X.env x = pure x := by intro _; rfl) :
    QE X (.ListComp elt [⟨tg, iter, ifs, 0⟩] scope pos) (tComp own.length ks wi g tt te) :=
  ⟨pe_comp hN hsc hc S hi.h (fun cl C s₂ H₂ fp => (hg cl C s₂ H₂ fp).h) (fun cl C s₂ H₂ fp => (ht cl C s₂ H₂ fp).h) (fun cl C s₂ H₂ fp => (he cl C s₂ H₂ fp).h) hs⟩
theorem qe_bm {T : String} {name : Str} {id : String} {r : V → List V → Hp → VK → Prop} {apos cpos : Pos} (pa : PlainAttrs T) (slot : Slot T name id) (hty : typeOf (.builtin id) = pure (.type "method_descriptor")) (hm : MtR X id r) (ho : QE X o to) (ha : QA X (e :: es) t)
    (hst : noStars (e :: es) = true := by rfl) (hbase : attributeBase o name X.env (eval o X.env) = eval o X.env := by rfl)
    (hfew : ((backTo cpos (starEach (e :: es) X.env)).all (fun x => !x.1) && (backToKw cpos (keywordEach [] X.env)).all (fun x => x.1.isSome)
      && decide ((e :: es).length + ([] : List Keyword).length + (if ([] : List Keyword).isEmpty then 0 else 1) < 30)) = true := by rfl)
    (hline : (apos.endLine == cpos.line) = true := by rfl) : QE X (.Call (.Attribute o name apos) (e :: es) [] cpos) (tBM X.K T r to t) :=
  ⟨pe_bm pa slot hty hm ho.h ha.h hbase hfew hline (star_of hst) (star_any (star_tail hst))⟩
end
section
variable {X : Cx} {st : Stmt} {rest sa sb : List Stmt} {t u : TS} {e c : Expr} {te : TE} {tA : TT} {pos pos' : Pos} {x : Str}
theorem qss_nil : QB X [] tNext := ⟨pss_nil⟩
theorem qss_cons (h1 : QS X st t) (h2 : QB X rest u) : QB X (st :: rest) (tSeq t u) := ⟨pss_cons h1.h h2.h⟩
theorem qss_one (h1 : QS X st t) : QB X [st] t := ⟨pss_one h1.h⟩
theorem qs_exprS (he : QE X e te) (hs : isCompr e = false := by rfl) : QS X (.Expr e pos) (tDrop te) := ⟨ps_exprS he.h hs⟩
theorem qs_ret (he : QE X e te) : QS X (.Return (some e) pos) (tRet te) := ⟨ps_ret he.h⟩
theorem qs_if (hc : QT X c tA) (ha : QB X sa t) (hb : QB X sb u) : QS X (.If c sa sb pos) (tIfS tA t u) := ⟨ps_if hc.h ha.h hb.h⟩
theorem qs_never : QS X st tNever := ⟨ps_never⟩
theorem qs_setS {i : Nat} (hN : X.N.Nodup) (hi : X.N[i]? = some x) (hx : Loc X.env.scope x) (he : QE X e te) (hs : isCompr e = false := by rfl) (hf : X.fn x = true ∨ X.env.scope.names.lookup x = some .local := by first | exact .inl rfl | exact .inr rfl | assumption) :
    QS X (.Assign [.Name x pos'] e pos) (tAsg te (gName i)) := ⟨ps_setS hN hi hx he.h hs hf⟩
theorem qs_asg {tg : Expr} {g : TG} (he : QE X e te) (hg : QG X tg g) (hs : isCompr e = false := by rfl) (hw : swappedStores [tg] e X.env = pure none := by rfl)
    (h1 : (assignEach [tg] X.env).map (·.2) = [assign tg X.env] := by rfl) : QS X (.Assign [tg] e pos) (tAsg te g) := ⟨ps_asg he.h hg.h (swaps_no hs) hw h1⟩
theorem qs_for {tg iter : Expr} {wi : TI} {g : TG} (hp : PassesOwn (model X.prog X.w) X.A X.env X.xe) (hc : X.calm = true) (hi : QI X tg iter wi) (hg : QG X tg g) (hb : QB X sa t)
    (hs : ∀ x, foldedSetIterable iter X.env x = pure x := by intro _; rfl) : QS X (.For tg iter sa [] pos) (tFor wi g t) := ⟨ps_for hp hc hi.h hg.h hb.h hs⟩
theorem qs_while (hp : PassesOwn (model X.prog X.w) X.A X.env X.xe) (hc : QT X c tA) (hb : QB X sa t) : QS X (.While c sa [] pos) (tWhile tA t) := ⟨ps_while hp hc.h hb.h⟩
end
section
variable {X : Cx} {e : Expr} {es : List Expr} {te : TE} {pos : Pos} (K : PySem.W.Frag) (h : X.K = K)
include h
theorem kc_len : CallR X (.builtin "len") (rLen K) := h ▸ ca_len
theorem kc_tuple : CallR X (.type "tuple") (rTupOf K) := h ▸ ca_tuple
theorem kc_isi : CallR X (.builtin "isinstance") (rIsi K) := h ▸ call_isi
theorem kx_list : IxR X (rIxL K) := h ▸ ix_list
theorem kx_tup : IxR X (rIxT K) := h ▸ ix_tup
theorem kl_list : SlR X (rSlL K) := h ▸ sl_list
theorem ki_list {tg : Expr} (hl : QE X e te) : QI X tg e (iList K te) := h ▸ qi_list hl
theorem ki_tup {tg : Expr} (hl : QE X e te) : QI X tg e (iTup K te) := h ▸ qi_tup hl
theorem kg_tup {k : Nat} {u : TGs} {n : Nat} (hc : X.calm = true) (hg : QGs X es u) (hn : (assignEach es X.env).length = n := by rfl) (hst : (assignEach es X.env).findIdx? (·.1) = none := by rfl) : QG X (.Tuple es k pos) (gTup K n u) := h ▸ qg_tup hc hg hn hst
end
end L2
set_option Elab.async false
set_option linter.all false
set_option maxRecDepth 100000
set_option maxHeartbeats 4000000
namespace L2
open PySem PySem.Spec PyProof.Rows
section
variable {X : Cx} {tg : Expr}
def rRngB (vs : List V) (H : Hp) (R : It → Hp → Prop) : Prop := ∃ i j : Int, vs = [.int i, .int j] ∧ R (Itr i (j - i).toNat) H
def iRngB (ta : TA) : TI := fun σ H R => ta σ H fun vs H1 => rRngB vs H1 R
end
section
variable {σ : St} {H : Hp}
theorem rd_rngB {ta : TA} {R : It → Hp → Prop} (h : ta σ H fun vs H1 => rRngB vs H1 R) : iRngB ta σ H R := h
theorem rd_rngBR {i j : Int} {R : It → Hp → Prop} (h : R (Itr i (j - i).toNat) H) : rRngB [.int i, .int j] H R := ⟨i, j, rfl, h⟩
end
mutual
inductive Dat (K : PySem.W.Frag) (H : Hp) : V → PyData → Prop
  | non : Dat K H .non .none
  | bl (b : Bool) : Dat K H (.bl b) (.bool b)
  | int (i : Int) : Dat K H (.int i) (.int i)
  | str (x : Str) : Dat K H (.str x) (.str x)
  | tup {a : Addr} {xs : List V} {ds : List PyData} (h : SqT K H a xs) (r : Dats K H xs ds) : Dat K H (.ref a) (.tuple ds)
  | lst {a : Addr} {xs : List V} {ds : List PyData} (h : SqL K H a xs) (r : Dats K H xs ds) : Dat K H (.ref a) (.list ds)
inductive Dats (K : PySem.W.Frag) (H : Hp) : List V → List PyData → Prop
  | nil : Dats K H [] []
  | cons {x : V} {d : PyData} {xs : List V} {ds : List PyData} (h : Dat K H x d) (r : Dats K H xs ds) : Dats K H (x :: xs) (d :: ds)
end
section
variable {X : Cx} {pins : List (Addr × Obj)} {σ : St} {H : Hp} {s : Shared}
mutual
theorem Dat.reads (I : Inv X pins σ H s) : ∀ {x : V} {d : PyData} {u : Value}, Dat X.K H x d → RelV x u → ∃ as, Reads s.heap u d as
  | _, _, u, .non, r => by cases (show u = Value.none from r); exact ⟨_, .none⟩
  | _, _, u, .bl b, r => by cases (show u = Value.bool b from r); exact ⟨_, .bool b⟩
  | _, _, u, .int i, r => by obtain ⟨t, rfl⟩ := (show ∃ t, u = Value.int i t from r); exact ⟨_, .int i t⟩
  | _, _, u, .str x, r => by obtain ⟨t, rfl⟩ := (show ∃ t, u = Value.str x t from r); exact ⟨_, .str x t⟩
  | _, _, u, @Dat.tup _ _ a xs ds h rs, r => by
    cases (show u = Value.ref a from r)
    obtain ⟨its, rv, ⟨o, ho, hc, n, hd⟩, _⟩ := I.tuple h
    obtain ⟨as, ra⟩ := Dats.reads I rs rv
    exact ⟨_, .tuple ho hc hd (by simpa using ra)⟩
  | _, _, u, @Dat.lst _ _ a xs ds h rs, r => by
    cases (show u = Value.ref a from r)
    obtain ⟨its, rv, ⟨o, n, ho, hc, _, hd⟩, _⟩ := I.list h
    obtain ⟨as, ra⟩ := Dats.reads I rs rv
    exact ⟨_, .list ho hc hd (by simpa using ra)⟩
theorem Dats.reads (I : Inv X pins σ H s) : ∀ {xs : List V} {ds : List PyData} {us : List Value}, Dats X.K H xs ds → Vals xs us → ∃ as, ReadsAll s.heap us ds as
  | _, _, _, .nil, .nil => ⟨_, .nil⟩
  | _, _, _, .cons h r, .cons r1 r2 => by
    obtain ⟨as, ra⟩ := Dat.reads I h r1
    obtain ⟨bs, rb⟩ := Dats.reads I r r2
    exact ⟨_, .cons ra rb⟩
end
end
section
variable {X : Cx}
theorem rd_bm {K : PySem.W.Frag} {T : String} {r : V → List V → Hp → VK → Prop} {to : TE} {t : TA} {σ : St} {H : Hp} {Q : VK} (h : to σ H fun x H1 => tyV K T x H1 ∧ t σ H1 fun xs H2 => r x xs H2 Q) : tBM K T r to t σ H Q := h
theorem tyL {K : PySem.W.Frag} {H : Hp} {p : Addr} {xs : List V} (h : H p = some (.lst xs)) : tyV K "list" (.ref p) H := .inl ⟨rfl, xs, SqL.of h⟩
theorem rd_append {H : Hp} {Q : VK} {p : Addr} {xs : List V} {y : V} (h1 : H p = some (.lst xs)) (hz : xs.length < sizeLine) (h : ∀ H2, H2 p = some (.lst (xs ++ [y])) → Kp p H H2 → Q .non H2) : rAppend (.ref p) [y] H Q :=
  ⟨p, xs, y, rfl, rfl, h1, hz, h _ upd_same Kp.upd⟩
end
def PairsAt (H : Hp) (vs : List V) (l : List (Int × Int)) : Prop := Paired (fun v (p : Int × Int) => ∃ a, v = V.ref a ∧ H a = some (.tup [.int p.1, .int p.2])) vs l
theorem PairsAt.same {H H' : Hp} {vs : List V} {l : List (Int × Int)} (h : PairsAt H vs l) (s : Same H H') : PairsAt H' vs l := Paired.mapP h fun _ _ ⟨a, e, z⟩ => ⟨a, e, s _ _ z⟩
end L2
set_option Elab.async false
set_option linter.all false
set_option maxRecDepth 100000
set_option maxHeartbeats 4000000
namespace L2
open PySem PySem.Spec PyProof.Rows
section
variable {κ : Type} [DecidableEq κ]
def valV (kvs : List (κ × V)) (k : κ) : Option V := (kvs.find? fun kv => decide (kv.1 = k)).map (·.2)
def putK (kvs : List (κ × V)) (k : κ) (v : V) : List (κ × V) :=
  if (kvs.any fun kv => decide (kv.1 = k)) = true then kvs.map (fun kv => if kv.1 = k then (kv.1, v) else kv) else kvs ++ [(k, v)]
def dropK (kvs : List (κ × V)) (k : κ) : List (κ × V) := kvs.filter fun kv => decide (kv.1 ≠ k)
theorem valV_nil {k : κ} : valV ([] : List (κ × V)) k = none := rfl
theorem valV_pos {p : κ × V} {r : List (κ × V)} {k : κ} (e : p.1 = k) : valV (p :: r) k = some p.2 := by simp [valV, List.find?_cons, e]
theorem valV_neg {p : κ × V} {r : List (κ × V)} {k : κ} (e : ¬ p.1 = k) : valV (p :: r) k = valV r k := by simp [valV, List.find?_cons, e]
theorem valV_any (k : κ) : ∀ kvs : List (κ × V), (kvs.any fun kv => decide (kv.1 = k)) = (valV kvs k).isSome
  | [] => rfl
  | p :: r => by
    rw [List.any_cons]
    by_cases e : p.1 = k
    · simp only [valV_pos e, decide_eq_true e, Bool.true_or, Option.isSome_some]
    · rw [valV_neg e, decide_eq_false e, Bool.false_or]; exact valV_any k r
theorem valV_map (k j : κ) (y : V) : ∀ kvs : List (κ × V), valV (kvs.map fun kv => if kv.1 = k then (kv.1, y) else kv) j = (valV kvs j).map fun x => if j = k then y else x
  | [] => rfl
  | p :: r => by
    have ih := valV_map k j y r
    rw [List.map_cons]
    by_cases h : p.1 = k
    · rw [if_pos h]
      by_cases e : p.1 = j
      · rw [valV_pos (p := (p.1, y)) e, valV_pos e, Option.map_some, if_pos (e.symm.trans h)]
      · rw [valV_neg (p := (p.1, y)) e, valV_neg e, ih]
    · rw [if_neg h]
      by_cases e : p.1 = j
      · rw [valV_pos (p := p) e, valV_pos e, Option.map_some, if_neg (fun z => h (e.trans z))]
      · rw [valV_neg (p := p) e, valV_neg e, ih]
theorem valV_snoc (k j : κ) (y : V) : ∀ kvs : List (κ × V), valV kvs k = none → valV (kvs ++ [(k, y)]) j = if j = k then some y else valV kvs j
  | [], _ => by
    by_cases e : k = j
    · rw [if_pos e.symm]; exact valV_pos (p := (k, y)) e
    · rw [if_neg (fun z => e z.symm)]; exact valV_neg (p := (k, y)) e
  | p :: r, hn => by
    rw [List.cons_append]
    have hk : ¬ p.1 = k := fun z => by rw [valV_pos z] at hn; cases hn
    rw [valV_neg hk] at hn
    have ih := valV_snoc k j y r hn
    by_cases e : p.1 = j
    · rw [valV_pos e, valV_pos e, if_neg (fun z => hk (e.trans z))]
    · rw [valV_neg e, valV_neg e, ih]
theorem valV_put (kvs : List (κ × V)) (k j : κ) (y : V) : valV (putK kvs k y) j = if j = k then some y else valV kvs j := by
  unfold putK
  by_cases a : (kvs.any fun kv => decide (kv.1 = k)) = true
  · rw [if_pos a, valV_map]
    rw [valV_any] at a
    by_cases e : j = k
    · obtain ⟨x, hx⟩ := Option.isSome_iff_exists.mp a
      rw [if_pos e, e, hx, Option.map_some, if_pos rfl]
    · rw [if_neg e]
      cases valV kvs j with
      | none => rfl
      | some x => rw [Option.map_some, if_neg e]
  · rw [if_neg a]
    refine valV_snoc k j y kvs ?_
    rw [valV_any] at a
    cases q : valV kvs k with
    | none => rfl
    | some x => rw [q] at a; exact (a rfl).elim
theorem length_putK (kvs : List (κ × V)) (k : κ) (v : V) : (putK kvs k v).length ≤ kvs.length + 1 := by
  unfold putK
  split
  · rw [List.length_map]; omega
  · rw [List.length_append, List.length_cons, List.length_nil]; omega
theorem RelO.isSome_eq {o : Option V} {u : Option Value} (r : RelO o u) : o.isSome = u.isSome := by
  cases o with
  | none => cases u with
    | none => rfl
    | some _ => exact (show False from r).elim
  | some _ => cases u with
    | none => exact (show False from r).elim
    | some _ => rfl
theorem RelO.getD {o : Option V} {u : Option Value} {d : V} {d' : Value} (r : RelO o u) (rd : RelV d d') : RelV (o.getD d) (u.getD d') := by
  cases o with
  | none => cases u with
    | none => exact rd
    | some _ => exact (show False from r).elim
  | some _ => cases u with
    | none => exact (show False from r).elim
    | some _ => exact r
theorem KV.val {kvs : List (κ × V)} {vs : List (κ × Value)} (r : KV kvs vs) (k : κ) : RelO (valV kvs k) (valueAt vs k) := by
  unfold KV at r
  induction r with
  | nil => exact True.intro
  | @cons p q ps qs h t ih =>
    obtain ⟨h1, h2⟩ := h
    by_cases e : p.1 = k
    · have e' : q.1 = k := h1.symm.trans e
      have b : valueAt (q :: qs) k = some q.2 := by simp [valueAt, List.find?_cons, e']
      rw [valV_pos e, b]; exact h2
    · have e' : ¬ q.1 = k := fun z => e (h1.trans z)
      have b : valueAt (q :: qs) k = valueAt qs k := by simp [valueAt, List.find?_cons, e']
      rw [valV_neg e, b]; exact ih
theorem KV.any {kvs : List (κ × V)} {vs : List (κ × Value)} (r : KV kvs vs) (k : κ) : (kvs.any fun kv => decide (kv.1 = k)) = vs.any fun kv => decide (kv.1 = k) := by
  unfold KV at r
  induction r with
  | nil => rfl
  | cons h t ih => rw [List.any_cons, List.any_cons, ih, h.1]
theorem KV.repl {kvs : List (κ × V)} {vs : List (κ × Value)} (r : KV kvs vs) (k : κ) {y : V} {u : Value} (ry : RelV y u) :
    KV (kvs.map fun kv => if kv.1 = k then (kv.1, y) else kv) (vs.map fun kv => if kv.1 = k then (kv.1, u) else kv) := by
  unfold KV at r ⊢
  induction r with
  | nil => exact .nil
  | @cons p q ps qs h t ih =>
    rw [List.map_cons, List.map_cons]
    refine .cons ?_ ih
    obtain ⟨h1, h2⟩ := h
    by_cases e : p.1 = k
    · rw [if_pos e, if_pos (h1.symm.trans e)]; exact ⟨h1, ry⟩
    · rw [if_neg e, if_neg (fun z => e (h1.trans z))]; exact ⟨h1, h2⟩
theorem KV.put {kvs : List (κ × V)} {vs : List (κ × Value)} (r : KV kvs vs) (k : κ) {y : V} {u : Value} (ry : RelV y u) : KV (putK kvs k y) (stored vs k u) := by
  unfold putK stored
  rw [r.any k]
  by_cases e : (vs.any fun kv => decide (kv.1 = k)) = true
  · rw [if_pos e, if_pos e]; exact r.repl k ry
  · rw [if_neg e, if_neg e]; exact Paired.snoc r ⟨rfl, ry⟩
theorem KV.drop {kvs : List (κ × V)} {vs : List (κ × Value)} (r : KV kvs vs) (k : κ) : KV (dropK kvs k) (without vs k) := by
  unfold KV at r ⊢
  unfold dropK without
  induction r with
  | nil => exact .nil
  | @cons p q ps qs h t ih =>
    obtain ⟨h1, h2⟩ := h
    rw [List.filter_cons, List.filter_cons]
    by_cases e : p.1 = k
    · have a : ¬ decide (p.1 ≠ k) = true := by simp [e]
      have b : ¬ decide (q.1 ≠ k) = true := by simp [h1.symm.trans e]
      rw [if_neg a, if_neg b]; exact ih
    · have e' : ¬ q.1 = k := fun z => e (h1.trans z)
      have a : decide (p.1 ≠ k) = true := by simp [e]
      have b : decide (q.1 ≠ k) = true := by simp [e']
      rw [if_pos a, if_pos b]; exact .cons ⟨h1, h2⟩ ih
theorem KV.keys {kvs : List (κ × V)} {vs : List (κ × Value)} (r : KV kvs vs) : kvs.map (·.1) = vs.map (·.1) := by
  unfold KV at r
  induction r with
  | nil => rfl
  | cons h t ih => rw [List.map_cons, List.map_cons, ih, h.1]
theorem KV.length {kvs : List (κ × V)} {vs : List (κ × Value)} (r : KV kvs vs) : kvs.length = vs.length := Paired.length r
theorem dropK_le (kvs : List (κ × V)) (k : κ) : (dropK kvs k).length ≤ kvs.length := List.length_filter_le _ _
end
theorem kV_is {P : Program} {w : World} {k : Key} {u : Value} (r : RelV (kV k) u) : (mixKind P w).is k u = true := by
  cases k with
  | inl i => obtain ⟨t, e⟩ := (show ∃ t, u = Value.int i t from r); subst e; exact mixKind_int P w i t
  | inr x => obtain ⟨t, e⟩ := (show ∃ t, u = Value.str x t from r); subst e; exact mixKind_str P w x t
theorem items_are {P : Program} {w : World} : ∀ {ks : List Key} {us : List Value}, Vals (ks.map kV) us → ItemsAre (mixKind P w) ks us
  | [], _, r => by rw [List.map_nil] at r; cases r; exact .nil
  | k :: ks, _, r => by
    rw [List.map_cons] at r
    cases r with
    | cons h t => exact .cons (kV_is h) (items_are t)
abbrev KT (H : Hp) : List (List Key × V) → List (List Key × Addr × Value) → Prop := Paired fun p q => p.1 = q.1 ∧ H q.2.1 = some (.tup (p.1.map kV)) ∧ RelV p.2 q.2.2
theorem KT.val {H : Hp} {kvs : List (List Key × V)} {xs : List (List Key × Addr × Value)} (r : KT H kvs xs) (k : List Key) : RelO (valV kvs k) ((atKey xs k).map (·.2)) := by
  induction r with
  | nil => exact True.intro
  | @cons p q ps qs h t ih =>
    obtain ⟨h1, _, h2⟩ := h
    by_cases e : p.1 = k
    · have e' : q.1 = k := h1.symm.trans e
      have b : atKey (q :: qs) k = some q.2 := by simp [atKey, List.find?_cons, e']
      rw [valV_pos e, b]; exact h2
    · have e' : ¬ q.1 = k := fun z => e (h1.trans z)
      have b : atKey (q :: qs) k = atKey qs k := by simp [atKey, List.find?_cons, e']
      rw [valV_neg e, b]; exact ih
theorem KT.repl {H : Hp} {kvs : List (List Key × V)} {xs : List (List Key × Addr × Value)} (r : KT H kvs xs) (k : List Key) {y : V} {u : Value} (ry : RelV y u) :
    KT H (kvs.map fun kv => if kv.1 = k then (kv.1, y) else kv) (xs.map (putAt k u)) := by
  induction r with
  | nil => exact .nil
  | @cons p q ps qs h t ih =>
    rw [List.map_cons, List.map_cons]
    refine .cons ?_ ih
    obtain ⟨h1, h2, h3⟩ := h
    unfold putAt
    by_cases e : p.1 = k
    · rw [if_pos e, if_pos (h1.symm.trans e)]; exact ⟨h1, h2, ry⟩
    · rw [if_neg e, if_neg (fun z => e (h1.trans z))]; exact ⟨h1, h2, h3⟩
theorem KT.put {H : Hp} {kvs : List (List Key × V)} {xs : List (List Key × Addr × Value)} (r : KT H kvs xs) (k : List Key) {b : Addr} {y : V} {u : Value} (hb : H b = some (.tup (k.map kV))) (ry : RelV y u) :
    KT H (putK kvs k y) (storedH xs k b u) := by
  have e : (kvs.any fun kv => decide (kv.1 = k)) = (atKey xs k).isSome := by
    rw [valV_any, (r.val k).isSome_eq, Option.isSome_map]
  unfold putK storedH
  rw [e]
  by_cases q : (atKey xs k).isSome = true
  · rw [if_pos q, if_pos q]; exact r.repl k ry
  · rw [if_neg q, if_neg q]; exact Paired.snoc r ⟨rfl, hb, ry⟩
theorem KT.keeps {H H' : Hp} {kvs : List (List Key × V)} {xs : List (List Key × Addr × Value)} (r : KT H kvs xs) (ht : ∀ b ys, H b = some (.tup ys) → H' b = some (.tup ys)) : KT H' kvs xs :=
  Paired.mapP r fun _ _ z => ⟨z.1, ht _ _ z.2.1, z.2.2⟩
section
variable {P : Program} {w : World} {H : Hp} {h : Heap} {a : Addr}
theorem rd_of {u : HO} (ok : HOk P w H h) (e : Rd H a u) : ObjOk P w H h a u := e.ok ok
theorem dk_rd {kvs : List (Key × V)} (ok : HOk P w H h) (e : Rd H a (.dK kvs)) : kvs.length ≤ sizeLine ∧ (a == sysModules) = false ∧ ∃ vs, KV kvs vs ∧ h.DictOf (mixKind P w) a vs :=
  show ObjOk P w H h a (.dK kvs) from rd_of ok e
theorem dk_of {kvs : List (Key × V)} (ok : HOk P w H h) (e : H a = some (.dK kvs)) : kvs.length ≤ sizeLine ∧ (a == sysModules) = false ∧ ∃ vs, KV kvs vs ∧ h.DictOf (mixKind P w) a vs := dk_rd ok (.inl e)
theorem key_of {ks : List Key} (ok : HOk P w H h) (e : H a = some (.tup (ks.map kV))) : (tupleKind (mixKind P w)).is h ks a := by
  obtain ⟨_, its, r, o, h1, h2, n, h3⟩ := (show ObjOk P w H h a (.tup (ks.map kV)) from ok a _ e)
  exact ⟨o, its.toArray, n, h1, h2, h3, by simpa using items_are r⟩
theorem dt_rd {kvs : List (List Key × V)} (ok : HOk P w H h) (e : Rd H a (.dT kvs)) : kvs.length ≤ sizeLine ∧ (a == sysModules) = false ∧
    ∃ xs, KT H kvs xs ∧ h.DictOfH (tupleKind (mixKind P w)) a xs := by
  obtain ⟨z, y, xs, r, o, es, ep, h1, h2, h3, h4, h5⟩ := (show ObjOk P w H h a (.dT kvs) from rd_of ok e)
  refine ⟨z, y, xs, r, o, es, ep, h1, h2, h3, h4, fun x hx => ?_, h5⟩
  have all : ∀ {l : List (List Key × V)} {m : List (List Key × Addr × Value)}, KT H l m → ∀ x ∈ m, (tupleKind (mixKind P w)).is h x.1 x.2.1 := by
    intro l m q
    induction q with
    | nil => intro x hx; exact nomatch hx
    | @cons p q ps qs hq t ih =>
      intro x hx
      rcases List.mem_cons.mp hx with e | hx
      · subst e
        exact key_of ok (by rw [← hq.1]; exact hq.2.1)
      · exact ih x hx
  exact all r x hx
theorem dt_of {kvs : List (List Key × V)} (ok : HOk P w H h) (e : H a = some (.dT kvs)) : kvs.length ≤ sizeLine ∧ (a == sysModules) = false ∧
    ∃ xs, KT H kvs xs ∧ h.DictOfH (tupleKind (mixKind P w)) a xs := dt_rd ok (.inl e)
end
def DGet (H : Hp) (a : Addr) (y : V) (r : Option V) : Prop :=
  (∃ kvs k, Rd H a (.dK kvs) ∧ y = kV k ∧ r = valV kvs k) ∨ ∃ kvs k b, Rd H a (.dT kvs) ∧ y = .ref b ∧ H b = some (.tup (k.map kV)) ∧ r = valV kvs k
def DPut (H : Hp) (a : Addr) (y v : V) (H' : Hp) : Prop :=
  (∃ kvs k, H a = some (.dK kvs) ∧ y = kV k ∧ kvs.length < sizeLine ∧ H' = upd H a (.dK (putK kvs k v))) ∨
  ∃ kvs k b, H a = some (.dT kvs) ∧ y = .ref b ∧ H b = some (.tup (k.map kV)) ∧ kvs.length < sizeLine ∧ H' = upd H a (.dT (putK kvs k v))
theorem DGet.k {H : Hp} {a : Addr} {kvs : List (Key × V)} {k : Key} (e : H a = some (.dK kvs)) : DGet H a (kV k) (valV kvs k) := .inl ⟨kvs, k, .inl e, rfl, rfl⟩
theorem DGet.t {H : Hp} {a b : Addr} {kvs : List (List Key × V)} {k : List Key} (e : H a = some (.dT kvs)) (eb : H b = some (.tup (k.map kV))) : DGet H a (.ref b) (valV kvs k) := .inr ⟨kvs, k, b, .inl e, rfl, eb, rfl⟩
theorem DPut.k {H : Hp} {a : Addr} {kvs : List (Key × V)} {k : Key} {v : V} (e : H a = some (.dK kvs)) (hl : kvs.length < sizeLine) : DPut H a (kV k) v (upd H a (.dK (putK kvs k v))) := .inl ⟨kvs, k, e, rfl, hl, rfl⟩
theorem DPut.t {H : Hp} {a b : Addr} {kvs : List (List Key × V)} {k : List Key} {v : V} (e : H a = some (.dT kvs)) (eb : H b = some (.tup (k.map kV))) (hl : kvs.length < sizeLine) :
    DPut H a (.ref b) v (upd H a (.dT (putK kvs k v))) := .inr ⟨kvs, k, b, e, rfl, eb, hl, rfl⟩
section
variable {X : Cx} {pins : List (Addr × Obj)} {σ : St} {H : Hp} {s : Shared} {a : Addr} {y v : V} {u r : Value} {o : Option V} {A : Around} {E : Value → Shared → Prop}
theorem Inv.big (I : Inv X pins σ H s) : sysModules < s.heap.objs.size := by
  have h : mainGlobals < s.heap.objs.size := (I.mod.glob.keeps I.bk).lt
  exact Nat.lt_trans (by decide) h
theorem d_getItem {Q : Value → Shared → Prop} (hu : A.units + 1 < cLine) (I : Inv X pins σ H s) (g : DGet H a y (some v)) (ry : RelV y u) (h : ∀ w' s', Inv X pins σ H s' → RelV v w' → Q w' s') :
    wpAny (model X.prog X.w) A (getItem (.ref a) u) Q E s := by
  rcases g with ⟨kvs, k, e, ey, l⟩ | ⟨kvs, k, b, e, ey, eb, l⟩
  · subst ey
    obtain ⟨z, hd, vs, rel, dd⟩ := dk_rd I.hok e
    obtain ⟨w', hw, rw'⟩ := RelO.some_of (v := v) (o := valueAt vs k) (by rw [l]; exact rel.val k)
    exact wpAny_getItem_of (kV_is ry) dd.mapOf hw (h w' _ (I.tok _) rw')
  · subst ey
    cases (show u = Value.ref b from ry)
    obtain ⟨z, hd, xs, rel, dd⟩ := dt_rd I.hok e
    obtain ⟨w', hw, rw'⟩ := RelO.some_of (v := v) (o := (atKey xs k).map (·.2)) (by rw [l]; exact rel.val k)
    obtain ⟨p, hp, hp2⟩ := Option.map_eq_some_iff.mp hw
    refine wpAny_getItem_heap (tupleKind_room_in1 hu) (key_of I.hok eb) dd hp ?_
    rw [hp2]
    exact h w' _ (I.tok _) rw'
theorem d_in {Q : Value → Shared → Prop} (hu : A.units + 1 < cLine) (I : Inv X pins σ H s) (g : DGet H a y o) (ry : RelV y u) (h : ∀ s', Inv X pins σ H s' → Q (.bool o.isSome) s') :
    wpAny (model X.prog X.w) A (compareOp .In u (.ref a)) Q E s := by
  rcases g with ⟨kvs, k, e, ey, l⟩ | ⟨kvs, k, b, e, ey, eb, l⟩
  · subst ey
    obtain ⟨z, hd, vs, rel, dd⟩ := dk_rd I.hok e
    refine wpAny_in_of (kV_is ry) hd dd.mapOf ?_
    rw [← (rel.val k).isSome_eq, ← l]
    exact h _ (I.tok _)
  · subst ey
    cases (show u = Value.ref b from ry)
    obtain ⟨z, hd, xs, rel, dd⟩ := dt_rd I.hok e
    refine wpAny_in_heap (tupleKind_room_in1 hu) (key_of I.hok eb) hd dd ?_
    have q := (rel.val k).isSome_eq
    rw [Option.isSome_map] at q
    rw [← q, ← l]
    exact h _ (I.tok _)
theorem d_notIn {Q : Value → Shared → Prop} (hu : A.units + 1 < cLine) (I : Inv X pins σ H s) (g : DGet H a y o) (ry : RelV y u) (h : ∀ s', Inv X pins σ H s' → Q (.bool (!o.isSome)) s') :
    wpAny (model X.prog X.w) A (compareOp .NotIn u (.ref a)) Q E s := by
  rcases g with ⟨kvs, k, e, ey, l⟩ | ⟨kvs, k, b, e, ey, eb, l⟩
  · subst ey
    obtain ⟨z, hd, vs, rel, dd⟩ := dk_rd I.hok e
    refine wpAny_notIn_of (kV_is ry) hd dd.mapOf ?_
    rw [← (rel.val k).isSome_eq, ← l]
    exact h _ (I.tok _)
  · subst ey
    cases (show u = Value.ref b from ry)
    obtain ⟨z, hd, xs, rel, dd⟩ := dt_rd I.hok e
    refine wpAny_notIn_heap (tupleKind_room_in1 hu) (key_of I.hok eb) hd dd ?_
    have q := (rel.val k).isSome_eq
    rw [Option.isSome_map] at q
    rw [← q, ← l]
    exact h _ (I.tok _)
theorem d_write {h' : Heap} {t' : Nat} {ob : HO} (I : Inv X pins σ H s) (mu : Mut (H a)) (hs : Heap.SameBut a s.heap h') (he : ∃ q, h'.get? a = some q) (new : ObjOk X.prog X.w (upd H a ob) h' a ob) :
    Inv X pins σ (upd H a ob) { s with heap := h', toks := t' } :=
  I.write (x := a) (e := a) mu (.inl rfl) (fun b q hb z => (hs.2 b hb).trans z) he new
theorem dk_new {P : Program} {w : World} {H' : Hp} {h' : Heap} {kvs : List (Key × V)} {vs : List (Key × Value)} (z : kvs.length ≤ sizeLine) (hd : (a == sysModules) = false) (rel : KV kvs vs) (dd : h'.DictOf (mixKind P w) a vs) :
    ObjOk P w H' h' a (.dK kvs) := ⟨z, hd, vs, rel, dd⟩
theorem d_setItem {H' : Hp} {Q : Unit → Shared → Prop} (hu : A.units + 1 < cLine) (I : Inv X pins σ H s) (g : DPut H a y v H') (ry : RelV y u) (rv : RelV v r) (h : ∀ s', Inv X pins σ H' s' → Q () s') :
    wpAny (model X.prog X.w) A (setItem (.ref a) u r) Q E s := by
  rcases g with ⟨kvs, k, e, ey, l, eH⟩ | ⟨kvs, k, b, e, ey, eb, l, eH⟩
  · subst ey eH
    obtain ⟨z, hd, vs, rel, dd⟩ := dk_of I.hok e
    have hz : vs.length ≤ sizeLine := by rw [← rel.length]; exact z
    have hl : (putK kvs k v).length ≤ sizeLine := by have := length_putK kvs k v; omega
    refine wpAny_setItem_pairs (hsz := hz) (kV_is ry) dd fun h' dd' hs => h _ ?_
    have he : ∃ q, h'.get? a = some q := let ⟨q, _, _, hq, _⟩ := dd'; ⟨q, hq⟩
    exact d_write I (by rw [e]; exact True.intro) hs he (dk_new hl hd (rel.put k rv) dd')
  · subst ey eH
    cases (show u = Value.ref b from ry)
    obtain ⟨z, hd, xs, rel, dd⟩ := dt_of I.hok e
    have hz : xs.length ≤ sizeLine := by rw [← Paired.length rel]; exact z
    have hl : (putK kvs k v).length ≤ sizeLine := by have := length_putK kvs k v; omega
    refine wpAny_setItem_heap (hsz := hz) (tupleKind_room_in1 hu) (key_of I.hok eb) dd fun h' dd' hs => h _ ?_
    obtain ⟨q, es, ep, hq, h2, h3, h4, _, h5⟩ := dd'
    refine d_write I (by rw [e]; exact True.intro) hs ⟨q, hq⟩ ⟨hl, hd, _, (rel.put k eb rv).keeps fun c ys ec => ?_, q, es, ep, hq, h2, h3, h4, h5⟩
    rw [upd_ne (ne_of ec e (fun z => nomatch z))]
    exact ec
end
section
variable {X : Cx} {pins : List (Addr × Obj)} {σ : St} {H : Hp} {s : Shared} {a : Addr} {kvs : List (Key × V)} {k : Key} {u : Value} {A : Around} {E : Value → Shared → Prop}
theorem d_pop {v : V} {more : List Value} {Q : Value → Shared → Prop} (I : Inv X pins σ H s) (e : H a = some (.dK kvs)) (ry : RelV (kV k) u) (l : valV kvs k = some v) (hm : more = [] ∨ ∃ x, more = [x])
    (h : ∀ w' s', Inv X pins σ (upd H a (.dK (dropK kvs k))) s' → RelV v w' → Q w' s') : wpAny (model X.prog X.w) A (call (.builtin "dict.pop") (.ref a :: u :: more)) Q E s := by
  obtain ⟨z, hd, vs, rel, dd⟩ := dk_of I.hok e
  obtain ⟨w', hw, rw'⟩ := RelO.some_of (v := v) (o := valueAt vs k) (by rw [← l]; exact rel.val k)
  have hp : (keyPart u).isSome = true := by
    cases k with
    | inl i => obtain ⟨t, q⟩ := (show ∃ t, u = Value.int i t from ry); subst q; rfl
    | inr x => obtain ⟨t, q⟩ := (show ∃ t, u = Value.str x t from ry); subst q; rfl
  have ha : argsOk "dict.pop" ⟨.ref a :: u :: more, []⟩ := by
    rcases hm with q | ⟨x, q⟩
    · subst q; exact PySem.F.args_dict_pop_2 _ _
    · subst q; exact PySem.F.args_dict_pop_3 _ _ _
  refine call_meetsIn PySem.F.slot_dict_pop dd.typeIs PySem.F.entry_dict_pop ha (meets_dict_pop_there (mixKind X.prog X.w) a (kV_is ry) more hm hp)
    ⟨vs, w', dd, by rw [← rel.length]; exact z, hw, fun h' dd' hs => h w' _ ?_ rw'⟩
  have he : ∃ q, h'.get? a = some q := let ⟨q, _, _, hq, _⟩ := dd'; ⟨q, hq⟩
  exact d_write I (by rw [e]; exact True.intro) hs he (dk_new (Nat.le_trans (dropK_le kvs k) z) hd (rel.drop k) dd')
end
def NoSl (i : Expr) : Prop := ∀ ov iv, subscripted i false ov iv = operate [ov, iv] (getItem ov iv)
theorem subD_of {prog : Program} {w : World} {A : Around} {E : Value → Shared → Prop} {s : Shared} {env : Env} {value slice : Expr} {pos : Pos} {T id : String} {Q : Value → Shared → Prop}
    (hl : typeLookup (.type T) "__getitem__" = pure (some (.builtin id))) (hs : NoSl slice)
    (h : wpAny (model prog w) A (eval value env) (fun o s₁ => wpAny (model prog w) A (eval slice env) (fun i s₂ => s₂.TypeIs o T ∧ wpAny (model prog w) A (getItem o i) Q E s₂) E s₁) E s) :
    wpAny (model prog w) A (eval (.Subscript value slice pos) env) Q E s := by
  refine Subscript_ (wpAny_mono h (fun o s₁ h₁ => wpAny_mono h₁ (fun i s₂ h₂ => ?_) fun _ _ x => x) fun _ _ x => x)
  obtain ⟨hT, h₂⟩ := h₂
  unfold subscriptTail
  refine wpAny_bind ?_
  rw [getitemInPython_of_ne hT.not_modules]
  refine wpAny_bind (wpAny_specialOf hT hl ?_)
  have fin : wpAny (model prog w) A (subscripted slice false o i) (fun r s₃ => wpAny (model prog w) A (letTemporaryGo value o r >>= fun _ => pure r) Q E s₃) E s₂ := by
    rw [hs o i]
    exact wpAny_operating (wpAny_mono h₂ (fun r s₃ h₃ => wpAny_bind (wpAny_letTemporaryGo (wpAny_pure h₃))) fun _ _ x => x)
  first
    | exact wpAny_pure (wpAny_bind fin)
    | exact wpAny_bind (wpAny_pure (wpAny_bind fin))
    | exact wpAny_bind fin
theorem dict_typeIs {X : Cx} {pins : List (Addr × Obj)} {σ : St} {H : Hp} {s : Shared} {a : Addr} {y : V} {o : Option V} (I : Inv X pins σ H s) (g : DGet H a y o) : s.TypeIs (.ref a) "dict" := by
  rcases g with ⟨kvs, k, e, _, _⟩ | ⟨kvs, k, b, e, _, _, _⟩
  · obtain ⟨_, _, vs, _, dd⟩ := dk_rd I.hok e
    exact dd.typeIs
  · obtain ⟨_, _, xs, _, dd⟩ := dt_rd I.hok e
    exact dd.typeIs
def tDGet (td ty : TE) : TE := fun σ H Q => td σ H fun x H1 => ty σ H1 fun y H2 => ∃ a v, x = .ref a ∧ DGet H2 a y (some v) ∧ Q v H2
def sDPut (td ty tv : TE) : TS := fun D σ H => tv σ H fun v H1 => td σ H1 fun x H2 => ty σ H2 fun y H3 => ∃ a H4, x = .ref a ∧ DPut H3 a y v H4 ∧ D.nx σ H4
section
variable {X : Cx} {o i e value : Expr} {pos pos' tpos : Pos} {td ty tv : TE}
theorem pe_dget (hu : X.A.units + 1 < cLine) (ho : PE X o td) (hi : PE X i ty) (hs : NoSl i) : PE X (.Subscript o i pos) (tDGet td ty) := by
  intro pins s σ H Q I h
  refine subD_of PySem.F.slot_dict_getitem.lookup hs (thn (ho pins s σ H _ I h) fun u s1 ⟨x, H1, I1, rx, q1⟩ => thn (hi pins s1 σ H1 _ I1 q1) fun iv s2 ⟨y, H2, I2, ry, a, v, ex, g, q2⟩ => ?_)
  subst ex
  obtain rfl : u = Value.ref a := rx
  exact ⟨dict_typeIs I2 g, d_getItem hu I2 g ry fun w' s3 I3 rw' => ⟨v, H2, I3, rw', q2⟩⟩
theorem ps_dput (hu : X.A.units + 1 < cLine) (ho : PE X o td) (hi : PE X i ty) (hv : PE X value tv) (hs : swapsWith value (some (.Subscript o i pos')) pos.line X.env = pure false) :
    PS X (.Assign [.Subscript o i pos'] value pos) (sDPut td ty tv) := by
  intro pins s σ H D I h
  refine wpAny_Assign_Subscript (thn (hv pins s σ H _ I h) fun r s1 ⟨v, H1, I1, rv, q1⟩ => thn (ho pins s1 σ H1 _ I1 q1) fun u s2 ⟨x, H2, I2, rx, q2⟩ => thn (hi pins s2 σ H2 _ I2 q2) fun iv s3 ⟨y, H3, I3, ry, a, H4, ex, g, q3⟩ => ?_) hs
  subst ex
  obtain rfl : u = Value.ref a := rx
  exact d_setItem hu I3 g ry rv fun s4 I4 => ⟨σ, H4, I4, q3⟩
end
theorem dk_empty {P : Program} {w : World} {H : Hp} (h : Heap) (hb : sysModules < h.objs.size) : ObjOk P w H (h.push { cls := .type "dict", data := .dict #[] }) h.objs.size (.dK []) :=
  ⟨Nat.zero_le _, beq_eq_false_iff_ne.mpr (Ne.symm (Nat.ne_of_lt hb)), [], .nil, Heap.DictOf.new h⟩
theorem dt_empty {P : Program} {w : World} {H : Hp} (h : Heap) (hb : sysModules < h.objs.size) : ObjOk P w H (h.push { cls := .type "dict", data := .dict #[] }) h.objs.size (.dT []) :=
  ⟨Nat.zero_le _, beq_eq_false_iff_ne.mpr (Ne.symm (Nat.ne_of_lt hb)), [], .nil, _, #[], 0, Heap.get?_push_size _ rfl, ⟨rfl, rfl, rfl⟩, rfl, rfl, List.nodup_nil⟩
def tDNewK : TE := fun _ H Q => ∀ p, H p = none → Q (.ref p) (upd H p (.dK []))
def tDNewT : TE := fun _ H Q => ∀ p, H p = none → Q (.ref p) (upd H p (.dT []))
section
variable {X : Cx} {pos : Pos}
theorem pe_dnewK : PE X (.Dict [] [] pos) tDNewK := fun pins s σ H Q I h =>
  wpAny_Dict_empty ⟨.ref s.heap.objs.size, _, I.laid (a := s.heap.objs.size) (o := .dK []) (t' := s.toks) (fun _ _ q => Heap.get?_push_of_some _ q) (Nat.le_refl _) (dk_empty s.heap I.big), rfl, h _ (I.hok.fresh (Nat.le_refl _))⟩
theorem pe_dnewT : PE X (.Dict [] [] pos) tDNewT := fun pins s σ H Q I h =>
  wpAny_Dict_empty ⟨.ref s.heap.objs.size, _, I.laid (a := s.heap.objs.size) (o := .dT []) (t' := s.toks) (fun _ _ q => Heap.get?_push_of_some _ q) (Nat.le_refl _) (dt_empty s.heap I.big), rfl, h _ (I.hok.fresh (Nat.le_refl _))⟩
end
def tPairs : List (TE × TE) → St → Hp → (List (V × V) → Hp → Prop) → Prop
  | [], _, H, Q => Q [] H
  | (tk, tv) :: r, σ, H, Q => tk σ H fun x H1 => tv σ H1 fun y H2 => tPairs r σ H2 fun ps H3 => Q ((x, y) :: ps) H3
def mergeK (kvs more : List (Key × V)) : List (Key × V) := more.foldl (fun acc kv => putK acc kv.1 kv.2) kvs
def tDisp (trs : List (TE × TE)) : TE := fun σ H Q => ∀ p, H p = none → tPairs trs σ (upd H p (.dK [])) fun ps H2 => H2 p = some (.dK []) ∧ ∃ kvs : List (Key × V), ps = kvs.map (fun kv => (kV kv.1, kv.2)) ∧ kvs.length ≤ 15 ∧ Q (.ref p) (upd H2 p (.dK (mergeK [] kvs)))
structure M1 (X : Cx) (o : Expr) (m : Str) (apos : Pos) (e : Expr) (cpos : Pos) : Prop where
  base : attributeBase o m X.env (eval o X.env) = eval o X.env
  few : ((backTo cpos (starEach [e] X.env)).all (fun x => !x.1) && (backToKw cpos (keywordEach [] X.env)).all (fun x => x.1.isSome)
    && decide (([e] : List Expr).length + ([] : List Keyword).length + (if ([] : List Keyword).isEmpty then 0 else 1) < 30)) = true
  line : (apos.endLine == cpos.line) = true
  trees : backTo cpos (starEach [e] X.env) = [(false, eval e X.env)]
structure M2 (X : Cx) (o : Expr) (m : Str) (apos : Pos) (e f : Expr) (cpos : Pos) : Prop where
  base : attributeBase o m X.env (eval o X.env) = eval o X.env
  few : ((backTo cpos (starEach [e, f] X.env)).all (fun x => !x.1) && (backToKw cpos (keywordEach [] X.env)).all (fun x => x.1.isSome)
    && decide (([e, f] : List Expr).length + ([] : List Keyword).length + (if ([] : List Keyword).isEmpty then 0 else 1) < 30)) = true
  line : (apos.endLine == cpos.line) = true
  trees : backTo cpos (starEach [e, f] X.env) = [(false, eval e X.env), (false, eval f X.env)]
def IsD (H : Hp) (a : Addr) : Prop := (∃ kvs, Rd H a (.dK kvs)) ∨ ∃ kvs, Rd H a (.dT kvs)
theorem isD_at {X : Cx} {pins : List (Addr × Obj)} {σ : St} {H : Hp} {s : Shared} {a : Addr} (I : Inv X pins σ H s) (d : IsD H a) :
    s.TypeIs (.ref a) "dict" ∧ (∀ b, Value.ref a = .ref b → ∃ ob, s.heap.get? b = some ob ∧ ob.dict = none) ∧ (a == sysModules) = false := by
  rcases d with ⟨kvs, e⟩ | ⟨kvs, e⟩
  · obtain ⟨_, hd, vs, _, dd⟩ := dk_rd I.hok e
    refine ⟨dd.typeIs, fun b q => ?_, hd⟩
    cases q
    obtain ⟨ob, _, _, h1, h2, _⟩ := dd
    exact ⟨ob, h1, h2.2.1⟩
  · obtain ⟨_, hd, xs, _, dd⟩ := dt_rd I.hok e
    refine ⟨dd.typeIs, fun b q => ?_, hd⟩
    cases q
    obtain ⟨ob, _, _, h1, h2, _⟩ := dd
    exact ⟨ob, h1, h2.2.1⟩
section
variable {X : Cx} {pins : List (Addr × Obj)} {σ : St} {H : Hp} {s : Shared} {a : Addr} {y d : V} {u r : Value} {o : Option V} {A : Around} {E : Value → Shared → Prop}
theorem d_get1 {Q : Value → Shared → Prop} (hu : A.units + 1 < cLine) (I : Inv X pins σ H s) (g : DGet H a y o) (ry : RelV y u) (h : ∀ w' s', Inv X pins σ H s' → RelV (o.getD .non) w' → Q w' s') :
    wpAny (model X.prog X.w) A (call (.builtin "dict.get") [.ref a, u]) Q E s := by
  rcases g with ⟨kvs, k, e, ey, l⟩ | ⟨kvs, k, b, e, ey, eb, l⟩
  · subst ey
    obtain ⟨z, hd, vs, rel, dd⟩ := dk_rd I.hok e
    refine call_meetsIn PySem.F.slot_dict_get dd.typeIs PySem.F.entry_dict_get (PySem.F.args_dict_get_2 _ _) (meets_dict_get (mixKind X.prog X.w) a (kV_is ry) hd) ⟨_, dd.mapOf, h _ _ (I.tok _) ?_⟩
    rw [l]
    exact (rel.val k).getD rfl
  · subst ey
    cases (show u = Value.ref b from ry)
    obtain ⟨z, hd, xs, rel, dd⟩ := dt_rd I.hok e
    refine call_meetsIn PySem.F.slot_dict_get dd.typeIs PySem.F.entry_dict_get (PySem.F.args_dict_get_2 _ _) (meetsH_dict_get (tupleKind (mixKind X.prog X.w)) a b hd) ⟨tupleKind_room_in1 hu, k, xs, key_of I.hok eb, dd, h _ _ (I.tok _) ?_⟩
    rw [l]
    exact (rel.val k).getD rfl
end
def tDGet1 (td ty : TE) : TE := fun σ H Q => td σ H fun x H1 => ∃ a, x = .ref a ∧ IsD H1 a ∧ ty σ H1 fun y H2 => ∃ o, DGet H2 a y o ∧ Q (o.getD .non) H2
def tDPop1 (td ty : TE) : TE := fun σ H Q => td σ H fun x H1 => ∃ a, x = .ref a ∧ IsD H1 a ∧ ty σ H1 fun y H2 => ∃ kvs k v, H2 a = some (.dK kvs) ∧ y = kV k ∧ valV kvs k = some v ∧ Q v (upd H2 a (.dK (dropK kvs k)))
section
variable {X : Cx} {o e f : Expr} {apos cpos : Pos} {td ty tx : TE}
theorem pe_dget1 (hu : X.A.units + 1 < cLine) (ho : PE X o td) (he : PE X e ty) (m : M1 X o "get" apos e cpos) : PE X (.Call (.Attribute o "get" apos) [e] [] cpos) (tDGet1 td ty) := by
  intro pins s σ H Q I h
  refine wpAny_Call_method m.base m.few m.line PySem.F.plainAttrs_dict PySem.F.slot_dict_get PySem.F.type_dict_get (thn (ho pins s σ H _ I h) fun u s1 ⟨x, H1, I1, rx, a, ex, d, q1⟩ => ?_)
  subst ex
  obtain rfl : u = Value.ref a := rx
  obtain ⟨t1, t2, _⟩ := isD_at I1 d
  refine ⟨t1, t2, ?_⟩
  rw [m.trees]
  refine Calls.callWith_builtin rfl (Calls.evalArgs_plain (Calls.spliced_cons (thn (he pins s1 σ H1 _ I1 q1) fun iv s2 ⟨y, H2, I2, ry, ov, g, q2⟩ => Calls.spliced_nil ?_)))
  exact d_get1 hu I2 g ry fun w' s3 I3 rw' => ⟨_, H2, I3, rw', q2⟩
theorem pe_dpop1 (ho : PE X o td) (he : PE X e ty) (m : M1 X o "pop" apos e cpos) : PE X (.Call (.Attribute o "pop" apos) [e] [] cpos) (tDPop1 td ty) := by
  intro pins s σ H Q I h
  refine wpAny_Call_method m.base m.few m.line PySem.F.plainAttrs_dict PySem.F.slot_dict_pop PySem.F.type_dict_pop (thn (ho pins s σ H _ I h) fun u s1 ⟨x, H1, I1, rx, a, ex, d, q1⟩ => ?_)
  subst ex
  obtain rfl : u = Value.ref a := rx
  obtain ⟨t1, t2, _⟩ := isD_at I1 d
  refine ⟨t1, t2, ?_⟩
  rw [m.trees]
  refine Calls.callWith_builtin rfl (Calls.evalArgs_plain (Calls.spliced_cons (thn (he pins s1 σ H1 _ I1 q1) fun iv s2 ⟨y, H2, I2, ry, kvs, k, v, ea, ey, l, q2⟩ => Calls.spliced_nil ?_)))
  subst ey
  exact d_pop I2 ea ry l (.inl rfl) fun w' s3 I3 rw' => ⟨v, _, I3, rw', q2⟩
end
section
variable {X : Cx} {pins : List (Addr × Obj)} {σ : St} {H : Hp} {s : Shared} {a : Addr} {kvs : List (Key × V)} {A : Around} {E : Value → Shared → Prop}
end
section
variable {X : Cx} {pins : List (Addr × Obj)} {σ : St} {H : Hp} {s : Shared} {a : Addr} {y : V} {u : Value} {A : Around} {E : Value → Shared → Prop}
end
end L2
set_option Elab.async false
set_option linter.all false
set_option maxRecDepth 100000
set_option maxHeartbeats 4000000
namespace L2
open PySem PySem.Spec PyProof.Rows
section
variable {prog : Program} {w : World} {A : Around} {R : Result → Shared → Prop} {I : Addr} {fp wr : List Addr} {n : Nat} {P : Nat → Value → Prop} {St : Nat → Heap → Prop} {κ : Type} [DecidableEq κ] {knd : KeyKind prog w κ}
end
def PrAt (H : Hp) (vs : List V) (prs : List (Key × V)) : Prop := Paired (fun v (p : Key × V) => ∃ a, v = V.ref a ∧ H a = some (.tup [kV p.1, p.2])) vs prs
end L2
set_option Elab.async false
set_option linter.all false
set_option maxRecDepth 100000
set_option maxHeartbeats 4000000
namespace L2
open PySem PySem.Spec PyProof.Rows
section
variable {prog : Program} {w : World} {A : Around} {E : Value → Shared → Prop} {s : Shared} {κ : Type} [DecidableEq κ] {knd : KeyKind prog w κ}
theorem collect_dict {d : Addr} {kvs : List (κ × Value)} {ep : Nat} {Q : List Value → Shared → Prop} (hh : A.handled = none) (hd : (d == sysModules) = false) (hm : s.heap.DictAt knd d kvs ep) (hn : kvs.length ≤ sizeLine)
    (hQ : ∀ s' acc, (∀ b o, s.heap.get? b = some o → s'.heap.get? b = some o) → s'.gens = s.gens → s'.drawn = s.drawn → s'.os = s.os → s.heap.objs.size < s'.heap.objs.size → ItemsOf (fun i v => ∃ k x, kvs[i]? = some (k, x) ∧ knd.is k v = true) acc kvs.length → Q acc.toList s') :
    wpAny (model prog w) A (collect (.ref d)) Q E s := by
  have hdl : d < s.heap.objs.size := let ⟨_, _, ho, _⟩ := hm; Heap.lt_size ho
  unfold collect
  refine wpAny_bind (wpAny_runValue (codeAny_builtin F.entry_proto_collect ?_))
  rw [Around.under_plainId F.plain_proto_collect _]
  show wpAny _ A.in1 (newList [] >>= fun l => again (.builtin "list.__iadd__" ⟨[l, .ref d], []⟩)) _ _ s
  refine wpAny_bind (wpAny_newObj_type ?_)
  refine wpAny_pure ⟨plainId_quiet F.plain_list_iadd _, codeAny_builtin F.entry_list_iadd ?_⟩
  rw [Around.under_plainId F.plain_list_iadd _]
  generalize hH : s.heap.push { cls := .type "list", data := .seq ([] : List Value).toArray } = H
  have hHs : H.objs.size = s.heap.objs.size + 1 := by rw [← hH, Heap.size_push]
  have hm1 : H.DictAt knd d kvs ep := hm.at' fun o e => hH ▸ Heap.get?_push_of_some _ e
  have hT1 : (⟨H, s.gens, s.drawn, s.toks, s.os⟩ : Shared).TypeIs (.ref d) "dict" := hm1.dictOf.typeIs
  show wpAny _ A.in1 (Builtin.List.listExtendWith (.ref s.heap.objs.size) (.ref d) (.ref s.heap.objs.size)) _ _ (⟨H, s.gens, s.drawn, s.toks, s.os⟩ : Shared)
  unfold Builtin.List.listExtendWith
  refine wpAny_bind (wpAny_typeOf hT1 ?_)
  have h1 : Builtin.List.listSameRef (.ref s.heap.objs.size) (.ref d) = false := by
    simp only [Builtin.List.listSameRef]
    exact beq_eq_false_iff_ne.mpr (Nat.ne_of_gt hdl)
  have h2 : (Value.type "dict" == Value.type "list") = false := by decide
  have h3 : (Value.type "dict" == Value.type "tuple") = false := by decide
  simp only [h1, h2, h3, Bool.or_false, Bool.false_eq_true, if_false]
  refine wpAny_bind (wpAny_pyIter_dict hd hm1 ?_)
  generalize hO : ({ cls := .type "dict_keyiterator", data := .fields #[.ref d, .int 0 0, .int kvs.length 0, .int ep 0] } : Obj) = O
  have hm2 : (H.push O).DictAt knd d kvs ep := hm1.at' fun o e => Heap.get?_push_of_some _ e
  have hT2 : (⟨H.push O, s.gens, s.drawn, s.toks, s.os⟩ : Shared).TypeIs (.ref d) "dict" := hm2.dictOf.typeIs
  refine wpAny_bind (wpAny_holding ?_)
  unfold Builtin.List.listLengthHint
  refine wpAny_bind (wpAny_specialOf hT2 PySem.F.slot_dict_len.lookup ?_)
  wp_delta
  refine wpAny_bind (wpAny_isInstance (b := true) hT2 (by rw [isSubtype_type]; kernel_rfl) ?_)
  show wpAny _ A.in1 (typeOf (Value.ref d) >>= _) _ _ _
  refine wpAny_bind (wpAny_typeOf hT2 ?_)
  refine wpAny_pure ?_
  show wpAny _ A.in1 (rule "list.extend.makes-room" >>= fun _ => Builtin.List.listTouch (.ref s.heap.objs.size) >>= fun _ =>
    again (.builtin "list.extend.loop" ⟨[.ref s.heap.objs.size, .ref H.objs.size, .ref s.heap.objs.size], []⟩)) _ _ _
  refine wpAny_bind (wpAny_rule ?_)
  have hS₁ : (H.push O).get? s.heap.objs.size = some { cls := .type "list", data := .seq ([] : List Value).toArray } := Heap.get?_push_of_some _ (hH ▸ Heap.get?_push_size _ rfl)
  refine wpAny_bind ?_
  show wpAny _ A.in1 (updateSeq s.heap.objs.size (·.push .none) >>= fun _ => updateSeq s.heap.objs.size (·.pop)) _ _ _
  refine wpAny_bind (wpAny_updateSeq hS₁ rfl ?_)
  have hS₂ := Heap.get?_update_self (Obj.mapSeq (·.push Value.none)) hS₁ rfl
  refine wpAny_updateSeq hS₂ rfl ?_
  have hS₃ := Heap.get?_update_self (Obj.mapSeq (·.pop)) hS₂ rfl
  have oth : ∀ b o, b ≠ s.heap.objs.size → (H.push O).get? b = some o → (((H.push O).update s.heap.objs.size (Obj.mapSeq (·.push Value.none))).update s.heap.objs.size (Obj.mapSeq (·.pop))).get? b = some o :=
    fun b o hb e => (Heap.get?_update_other _ _ (Ne.symm hb)).trans ((Heap.get?_update_other _ _ (Ne.symm hb)).trans e)
  have hdH : d < H.objs.size := by rw [hHs]; exact Nat.lt_succ_of_lt hdl
  have hHne : H.objs.size ≠ s.heap.objs.size := by rw [hHs]; exact Nat.succ_ne_self _
  have hSf : s.heap.objs.size ∉ [H.objs.size, d] := fun z => by
    simp only [List.mem_cons, List.not_mem_nil, or_false] at z
    rcases z with z | z
    · exact hHne z.symm
    · exact Nat.ne_of_gt hdl z
  have W := (Walks.dictKeys (knd := knd) (A := A.in1) hh H.objs.size d (Nat.ne_of_lt hdH) kvs ep).toS
  refine wpAny_pure ⟨plainId_quiet F.plain_extend_loop _, codeAny_extend_loopS (A := A) W hn _ hSf _ kvs.length 0 _ _ _ rfl (Nat.zero_le _) ⟨?_, ?_⟩ hS₃ (ItemsOf.nil _) fun s' acc' c' hmv hS' hacc => ?_⟩
  · exact ⟨_, oth _ _ hHne (Heap.get?_push_size _ (by rw [← hO]; rfl)), by rw [← hO], by rw [← hO]; rfl⟩
  · exact hm2.at' fun o e => oth _ _ (Nat.ne_of_lt hdl) e
  · show wpAny _ A (load s.heap.objs.size >>= _) _ _ s'
    refine wpAny_bind (wpAny_load hS' ?_)
    refine wpAny_pure (hQ s' acc' (fun b ob e => hmv.heap b ob (fun hb => ?_) (oth _ _ (Nat.ne_of_lt (Heap.lt_size e)) (Heap.get?_push_of_some _ (hH ▸ Heap.get?_push_of_some _ e)))) hmv.gens hmv.drawn hmv.os (Heap.lt_size hS') hacc)
    have hlt := Heap.lt_size e
    simp only [List.mem_cons, List.not_mem_nil, or_false] at hb
    rcases hb with h | h
    · exact Nat.ne_of_lt hlt h
    · rw [h, hHs] at hlt; exact absurd hlt (Nat.not_lt.mpr (Nat.le_succ _))
theorem sorted_dict {d : Addr} {kvs : List (κ × Value)} {ep : Nat} {Q : Value → Shared → Prop} (hh : A.handled = none) (hd : (d == sysModules) = false) (hm : s.heap.DictAt knd d kvs ep) (h64 : kvs.length < 64)
    (hI : ∀ acc : Array Value, ItemsOf (fun i v => ∃ k x, kvs[i]? = some (k, x) ∧ knd.is k v = true) acc kvs.length → ∃ ns, IntsAre acc.toList ns ∧ ∀ (s' : Shared) (l : Addr) (out : Array Value) (ns' : List Int) (e : Nat), s.heap.objs.size ≤ l → (∀ b o, s.heap.get? b = some o → s'.heap.get? b = some o) → s'.gens = s.gens → s'.drawn = s.drawn → s'.os = s.os →
      s'.heap.get? l = some (seqObj "list" out e) → out.size = kvs.length → IntsAre out.toList ns' → ns'.Perm ns → ns'.Pairwise (· ≤ ·) → Q (.ref l) s') :
    wpAny (model prog w) A (call (.builtin "sorted") [.ref d]) Q E s := by
  refine Calls.call_function_entry kind_sorted plain_sorted entry_sorted (args_sorted1 _) ?_
  unfold Builtin.«sorted»
  refine wpAny_bind (m := checkCount "sorted" 1 1 _) (wpAny_pure ?_)
  refine wpAny_bind (collect_dict (knd := knd) hh hd hm (by rw [sizeLine_eq]; omega) fun s1 acc hk e1 e2 e3 hlt hacc => ?_)
  obtain ⟨ns, hns, hQ⟩ := hI acc hacc
  refine wpAny_bind (wpAny_newList (hsz := by rw [Array.length_toList, hacc.1, sizeLine_eq]; omega) ?_)
  have hoL : (s1.heap.push (seqObj "list" acc.toList.toArray 0)).get? s1.heap.objs.size = some (seqObj "list" acc.toList.toArray 0) := Heap.get?_push_size _ rfl
  show wpAny _ _ _ _ _ { s1 with heap := s1.heap.push (seqObj "list" acc.toList.toArray 0) }
  refine wpAny_bind (wpAny_holding (wpAny_call_entry slot_list_sort ⟨_, hoL, rfl⟩ entry_list_sort (list_sort_tree hoL hns (by rw [Array.length_toList, hacc.1]; exact h64) fun out ns' a1 a2 a3 => ⟨_, rfl, ?_⟩) (args_list_sort _)))
  refine wpAny_pure ⟨_, rfl, ?_⟩
  obtain ⟨e, he⟩ := sortedHeap_at (out := out) hoL
  have hle : s.heap.objs.size ≤ s1.heap.objs.size := Nat.le_of_lt hlt
  refine hQ _ _ out ns' e hle (fun b o eb => ?_) e1 e2 e3 he ?_ a1 a2 a3
  · have hb := Heap.lt_size (hk _ _ eb)
    exact (sortedHeap_old (Nat.ne_of_lt hb) (by rw [Heap.size_push]; exact Nat.lt_succ_of_lt hb)).trans (Heap.get?_push_of_some _ (hk _ _ eb))
  · have l1 := IntsAre.length a1
    have l2 := IntsAre.length hns
    have l3 := a2.length_eq
    have l4 := hacc.1
    simp only [Array.length_toList] at l1 l2
    omega
end
theorem ints_keys : ∀ (vs : List (Key × Value)) (ns : List Int) (l : List Value), vs.map (·.1) = ns.map Sum.inl → l.length = vs.length → (∀ (j : Nat) (v : Value), l[j]? = some v → ∃ k x, vs[j]? = some (k, x) ∧ keyIs k v = true) → IntsAre l ns
  | [], [], [], _, _, _ => .nil
  | [], [], _ :: _, _, h, _ => by simp at h
  | [], _ :: _, _, h, _, _ => by simp at h
  | _ :: _, [], _, h, _, _ => by simp at h
  | _ :: _, _ :: _, [], _, h, _ => by simp at h
  | (k, x) :: vs, n :: ns, v :: l, h1, h2, h3 => by
    simp only [List.map_cons, List.cons.injEq] at h1
    obtain ⟨rfl, h1⟩ := h1
    obtain ⟨k', x', e, hk⟩ := h3 0 v rfl
    simp only [List.getElem?_cons_zero, Option.some.injEq, Prod.mk.injEq] at e
    obtain ⟨rfl, rfl⟩ := e
    rcases keyIs_shape hk with ⟨i, t, e1, e2⟩ | ⟨y, t, e1, e2⟩
    · cases e1; cases e2
      refine .cons _ _ (ints_keys vs ns l h1 (by simpa using h2) fun j v e => ?_)
      have := h3 (j + 1) v (by simpa using e)
      simpa using this
    · cases e1
theorem KV.keysEq {κ : Type} : ∀ {kvs : List (κ × V)} {us : List (κ × Value)}, KV kvs us → us.map (·.1) = kvs.map (·.1)
  | _, _, .nil => rfl
  | _, _, .cons h t => by rw [List.map_cons, List.map_cons, h.1, KV.keysEq t]
theorem IntsAre.vals : ∀ {vs : List Value} {ns : List Int}, IntsAre vs ns → Vals (ns.map V.int) vs
  | _, _, .nil => .nil
  | _, _, .cons _ t h => .cons ⟨t, rfl⟩ (IntsAre.vals h)
def rSortedD : List V → Hp → VK → Prop := fun xs H Q => ∃ (p : Addr) (kvs : List (Key × V)) (ns : List Int), xs = [.ref p] ∧ Rd H p (.dK kvs) ∧ kvs.map (·.1) = ns.map Sum.inl ∧ kvs.length < 64 ∧ ∀ (l : Addr) (ns' : List Int), H l = none → ns'.Perm ns → ns'.Pairwise (· ≤ ·) → Q (.ref l) (upd H l (.lst (ns'.map V.int)))
theorem kc_sortedD {X : Cx} (hc : X.calm = true) : CallR X (.builtin "sorted") rSortedD := by
  intro pins s σ H xs us Q I r h
  obtain ⟨p, kvs, ns, rfl, hd, hns, h64, q⟩ := h
  obtain ⟨u, rfl, ru⟩ := r.one
  cases ru
  obtain ⟨z, hd, vs, rel, dd⟩ := dk_rd I.hok hd
  obtain ⟨ep, dd⟩ := dd.dictAt
  have hlen : vs.length = kvs.length := rel.length.symm
  refine sorted_dict (I.ok.hd hc) hd dd (by rw [hlen]; exact h64) fun acc hacc => ⟨ns, ?_, fun s' l out ns' e hl hk e1 e2 e3 he ho a1 a2 a3 => ?_⟩
  · exact ints_keys vs ns acc.toList (by rw [KV.keysEq rel]; exact hns) (by rw [Array.length_toList]; exact hacc.1) fun j v e => hacc.2 j v (by simpa using e)
  · obtain ⟨h', g', d', tk, os'⟩ := s'
    simp only at e1 e2 e3
    subst e1 e2 e3
    refine ⟨.ref l, upd H l (.lst (ns'.map V.int)), I.laid (t' := tk) hk hl ?_, rfl, q l ns' (I.hok.fresh hl) a2 a3⟩
    refine ⟨?_, out.toList, e, IntsAre.vals a1, he⟩
    have l1 := a2.length_eq
    have l2 := congrArg List.length hns
    simp only [List.length_map] at l2 ⊢
    rw [sizeLine_eq]
    omega
end L2
set_option Elab.async false
set_option linter.all false
set_option maxRecDepth 100000
set_option maxHeartbeats 4000000
namespace L2
open PySem PySem.Spec PyProof.Rows
section
variable {prog : Program} {w : World} {A : Around} {E : Value → Shared → Prop} {I : Addr} {fp wr : List Addr} {n : Nat} {P : Nat → Value → Prop} {St : Nat → Heap → Prop}
end
section
variable {X : Cx} {pos : Pos}
end
section
variable {X : Cx} {o i value : Expr} {pos pos' : Pos} {td ty tv : TE}
theorem noSl {b : Expr} (h : isSlc b = false) : NoSl b := by
  intro ov iv
  cases b <;> first | rfl | cases h
theorem qe_dget (hu : X.A.units + 1 < cLine) (ho : QE X o td) (hi : QE X i ty) (hs : isSlc i = false := by rfl) : QE X (.Subscript o i pos) (tDGet td ty) := ⟨pe_dget hu ho.h hi.h (noSl hs)⟩
theorem qs_dput (hu : X.A.units + 1 < cLine) (hv : QE X value tv) (ho : QE X o td) (hi : QE X i ty) (hs : isCompr value = false := by rfl) : QS X (.Assign [.Subscript o i pos'] value pos) (sDPut td ty tv) := ⟨ps_dput hu ho.h hi.h hv.h (swaps_no hs)⟩
theorem qe_dnewK : QE X (.Dict [] [] pos) tDNewK := ⟨pe_dnewK⟩
end
section
variable {σ : St} {H : Hp} {Q : VK} {D : Ends}
def rDGet (x y : V) (H : Hp) (Q : VK) : Prop := ∃ a v, x = .ref a ∧ DGet H a y (some v) ∧ Q v H
theorem rd_dget0 {td ty : TE} (h : td σ H fun x H1 => ty σ H1 fun y H2 => rDGet x y H2 Q) : tDGet td ty σ H Q := h
def rDPut (v x y : V) (H : Hp) (R : Hp → Prop) : Prop := ∃ a H4, x = .ref a ∧ DPut H a y v H4 ∧ R H4
theorem rd_dput0 {td ty tv : TE} (h : tv σ H fun v H1 => td σ H1 fun x H2 => ty σ H2 fun y H3 => rDPut v x y H3 (D.nx σ)) : sDPut td ty tv D σ H := h
def rDNew (H : Hp) (Q : VK) : Prop := ∀ p, H p = none → Q (.ref p) (upd H p (.dK []))
theorem rd_dnew0 (h : rDNew H Q) : tDNewK σ H Q := h
theorem rd_dnew (h : ∀ p H2, H p = none → H2 p = some (.dK []) → Same H H2 → Q (.ref p) H2) : rDNew H Q := fun p hp => h p _ hp upd_same (Same.new hp)
end
def getI (m : List (Int × Int)) (t : Int) : Option Int := (m.find? fun kv => decide (kv.1 = t)).map (·.2)
def putI (m : List (Int × Int)) (t h : Int) : List (Int × Int) := if (m.any fun kv => decide (kv.1 = t)) = true then m.map fun kv => if kv.1 = t then (kv.1, h) else kv else m ++ [(t, h)]
def dkE (p : Int × Int) : Key × V := (.inl p.1, .int p.2)
def dkOf (m : List (Int × Int)) : List (Key × V) := m.map dkE
theorem inl_eq {a b : Int} : ((Sum.inl a : Key) = Sum.inl b) ↔ a = b := ⟨fun h => Sum.inl.inj h, fun h => h ▸ rfl⟩
theorem dk_any (m : List (Int × Int)) (t : Int) : ((dkOf m).any fun kv => decide (kv.1 = Sum.inl t)) = m.any fun kv => decide (kv.1 = t) := by
  unfold dkOf
  rw [List.any_map]
  congr 1
  funext p
  simp only [Function.comp, dkE, inl_eq]
theorem dk_put (m : List (Int × Int)) (t h : Int) : putK (dkOf m) (.inl t) (.int h) = dkOf (putI m t h) := by
  unfold putK putI
  rw [dk_any]
  by_cases c : (m.any fun kv => decide (kv.1 = t)) = true
  · rw [if_pos c, if_pos c]
    unfold dkOf
    rw [List.map_map, List.map_map]
    refine List.map_congr_left fun p _ => ?_
    simp only [Function.comp, dkE, inl_eq]
    split <;> simp
  · rw [if_neg c, if_neg c]
    simp [dkOf, dkE]
theorem dk_val (t : Int) : ∀ m : List (Int × Int), valV (dkOf m) (.inl t) = (getI m t).map V.int
  | [] => rfl
  | p :: m => by
    have ih := dk_val t m
    by_cases e : p.1 = t
    · have : valV (dkOf (p :: m)) (.inl t) = some (.int p.2) := valV_pos (p := dkE p) (by simp [dkE, e])
      rw [this]
      simp [getI, List.find?_cons, e]
    · have : valV (dkOf (p :: m)) (.inl t) = valV (dkOf m) (.inl t) := valV_neg (p := dkE p) (by simp [dkE, e])
      rw [this, ih]
      simp [getI, List.find?_cons, e]
theorem rd_dgetI {H : Hp} {Q : VK} {p : Addr} {m : List (Int × Int)} {t v : Int} (h1 : H p = some (.dK (dkOf m))) (h2 : getI m t = some v) (h : Q (.int v) H) : rDGet (.ref p) (.int t) H Q :=
  ⟨p, .int v, rfl, by
    have := DGet.k (k := Sum.inl t) h1
    rw [dk_val, h2] at this
    exact this, h⟩
theorem rd_dputI {H : Hp} {R : Hp → Prop} {p : Addr} {m : List (Int × Int)} {t v : Int} (h1 : H p = some (.dK (dkOf m))) (hz : m.length < sizeLine) (h : ∀ H2, H2 p = some (.dK (dkOf (putI m t v))) → Kp p H H2 → R H2) : rDPut (.int v) (.ref p) (.int t) H R :=
  ⟨p, _, rfl, DPut.k (k := Sum.inl t) h1 (by simpa [dkOf] using hz), by
    rw [dk_put]
    exact h _ upd_same Kp.upd⟩
theorem rd_dnewI {H : Hp} {Q : VK} (h : ∀ p H2, H p = none → H2 p = some (.dK (dkOf [])) → Same H H2 → Q (.ref p) H2) : rDNew H Q := rd_dnew h
theorem getI_put (m : List (Int × Int)) (t h j : Int) : getI (putI m t h) j = if j = t then some h else getI m j := by
  have e1 := dk_val j (putI m t h)
  rw [← dk_put, valV_put] at e1
  have e2 := dk_val j m
  rw [e2] at e1
  simp only [inl_eq] at e1
  by_cases e : j = t
  · rw [if_pos e] at e1 ⊢
    cases hg : getI (putI m t h) j with
    | none => rw [hg] at e1; cases e1
    | some x => rw [hg] at e1; simp at e1; rw [e1]
  · rw [if_neg e] at e1 ⊢
    cases hg : getI (putI m t h) j <;> cases hm : getI m j <;> rw [hg, hm] at e1 <;> simp_all
theorem putI_len (m : List (Int × Int)) (t h : Int) : (putI m t h).length ≤ m.length + 1 := by
  unfold putI
  split <;> simp
theorem getI_none {t : Int} : ∀ {m : List (Int × Int)}, getI m t = none ↔ t ∉ m.map (·.1)
  | [] => by simp [getI]
  | p :: m => by
    have ih := getI_none (t := t) (m := m)
    by_cases e : p.1 = t
    · simp [getI, List.find?_cons, e]
    · have e' : ¬ t = p.1 := fun z => e z.symm
      have : getI (p :: m) t = getI m t := by simp [getI, List.find?_cons, e]
      rw [this, ih]
      simp [e']
theorem putI_keys (m : List (Int × Int)) (t h : Int) : (putI m t h).map (·.1) = if t ∈ m.map (·.1) then m.map (·.1) else m.map (·.1) ++ [t] := by
  have ha : (m.any fun kv => decide (kv.1 = t)) = true ↔ t ∈ m.map (·.1) := by simp
  unfold putI
  by_cases c : (m.any fun kv => decide (kv.1 = t)) = true
  · rw [if_pos c, if_pos (ha.mp c), List.map_map]
    refine List.map_congr_left fun p _ => ?_
    simp only [Function.comp]
    split <;> rfl
  · rw [if_neg c, if_neg (fun z => c (ha.mpr z))]
    simp
theorem putI_nodup {m : List (Int × Int)} {t h : Int} (n : (m.map (·.1)).Nodup) : ((putI m t h).map (·.1)).Nodup := by
  rw [putI_keys]
  split
  · exact n
  · rename_i c
    rw [List.nodup_append]
    exact ⟨n, by simp, fun a ha b hb e => c (by simp at hb; subst hb; subst e; exact ha)⟩
theorem getI_mem {t h : Int} : ∀ {m : List (Int × Int)}, (m.map (·.1)).Nodup → (getI m t = some h ↔ (t, h) ∈ m)
  | [], _ => by simp [getI]
  | p :: m, n => by
    simp only [List.map_cons, List.nodup_cons] at n
    have ih := getI_mem (t := t) (h := h) n.2
    by_cases e : p.1 = t
    · have : getI (p :: m) t = some p.2 := by simp [getI, List.find?_cons, e]
      rw [this]
      constructor
      · intro z; cases z; rw [← e]; exact List.mem_cons_self
      · intro z
        rcases List.mem_cons.mp z with z | z
        · rw [← z]
        · exact absurd (List.mem_map.mpr ⟨_, z, rfl⟩) (by rw [← e] at *; exact n.1)
    · have : getI (p :: m) t = getI m t := by simp [getI, List.find?_cons, e]
      rw [this, ih]
      constructor
      · exact fun z => List.mem_cons_of_mem _ z
      · intro z
        rcases List.mem_cons.mp z with z | z
        · exact absurd (by rw [← z]) e
        · exact z
theorem PairsAt.prs {H : Hp} : ∀ {vs : List V} {l : List (Int × Int)}, PairsAt H vs l → PrAt H vs (l.map dkE)
  | _, _, .nil => .nil
  | _, _, .cons ⟨a, e, z⟩ t => .cons ⟨a, e, z⟩ (PairsAt.prs t)
theorem PairsAt.length {H : Hp} {vs : List V} {l : List (Int × Int)} (h : PairsAt H vs l) : vs.length = l.length := Paired.length h
theorem PairsAt.snoc {H : Hp} : ∀ {vs : List V} {l : List (Int × Int)}, PairsAt H vs l → ∀ {a : Addr} {p : Int × Int}, H a = some (.tup [.int p.1, .int p.2]) → PairsAt H (vs ++ [.ref a]) (l ++ [p])
  | _, _, .nil, a, p, z => .cons ⟨a, rfl, z⟩ .nil
  | _, _, .cons h t, a, p, z => .cons h (PairsAt.snoc t z)
theorem PairsAt.at {H : Hp} : ∀ {vs : List V} {l : List (Int × Int)}, PairsAt H vs l → ∀ {i : Nat} {v : V}, vs[i]? = some v → ∃ a p, v = .ref a ∧ l[i]? = some p ∧ H a = some (.tup [.int p.1, .int p.2])
  | _, _, .nil, i, v, e => by simp at e
  | _, _, @Paired.cons _ _ _ _ p _ _ ⟨a, e1, z⟩ t, 0, v, e => by
    simp at e; subst e
    exact ⟨a, p, e1, rfl, z⟩
  | _, _, .cons _ t, i + 1, v, e => by
    obtain ⟨a, p, h1, h2, h3⟩ := PairsAt.at t (by simpa using e)
    exact ⟨a, p, h1, by simpa using h2, h3⟩
theorem PairsAt.kp {p : Addr} {H H' : Hp} (k : Kp p H H') {n : Nat} {xs : List V} (hp : H p = some (.lst xs)) : ∀ {vs : List V} {l : List (Int × Int)}, PairsAt H vs l → PairsAt H' vs l
  | _, _, .nil => .nil
  | _, _, .cons ⟨a, e, z⟩ t => .cons ⟨a, e, k _ _ z (fun c => by subst c; rw [hp] at z; cases z)⟩ (PairsAt.kp k (n := n) hp t)
theorem rd_sortedI {H : Hp} {Q : VK} {p : Addr} {m : List (Int × Int)} (h1 : H p = some (.dK (dkOf m))) (hz : m.length < 64) (h : ∀ l H2 (ns : List Int), H l = none → H2 l = some (.lst (ns.map V.int)) → ns.Perm (m.map (·.1)) → ns.Pairwise (· ≤ ·) → Same H H2 → Q (.ref l) H2) : rSortedD [.ref p] H Q :=
  ⟨p, _, m.map (·.1), rfl, .inl h1, by simp [dkOf, dkE], by simpa [dkOf] using hz, fun l ns hl hp hs => h l _ ns hl upd_same hp hs (Same.new hl)⟩
def Asc (cv : List (Int × Int)) : Prop := cv.Pairwise fun a b => a.1 < b.1
def CurveOf (m cv : List (Int × Int)) : Prop := Asc cv ∧ ∀ t h, (t, h) ∈ cv ↔ getI m t = some h
def curveBy (m : List (Int × Int)) (ns : List Int) : List (Int × Int) := ns.map fun t => (t, (getI m t).getD 0)
theorem curveBy_of {m : List (Int × Int)} {ns : List Int} (nd : (m.map (·.1)).Nodup) (hp : ns.Perm (m.map (·.1))) (hs : ns.Pairwise (· ≤ ·)) : CurveOf m (curveBy m ns) := by
  have hn : ns.Nodup := hp.nodup_iff.mpr nd
  refine ⟨?_, fun t h => ?_⟩
  · unfold Asc curveBy
    rw [List.pairwise_map]
    exact (hs.and hn).imp fun ⟨a, b⟩ => by
      show _ < _
      omega
  · unfold curveBy
    rw [List.mem_map]
    constructor
    · rintro ⟨u, hu, e⟩
      have hu' := hp.mem_iff.mp hu
      cases hg : getI m u with
      | none => exact absurd hu' (getI_none.mp hg)
      | some x =>
        rw [hg] at e
        cases e
        exact hg
    · intro hg
      refine ⟨t, hp.mem_iff.mpr ?_, by rw [hg]; rfl⟩
      by_cases c : t ∈ m.map (·.1)
      · exact c
      · rw [getI_none.mpr c] at hg; cases hg
end L2
set_option Elab.async false
set_option linter.all false
set_option maxRecDepth 100000
set_option maxHeartbeats 4000000
namespace L2
open PySem PySem.Spec PyProof.Rows
theorem bt_divmod : bootBuiltins "divmod" = some (.builtin "divmod") := by decide +kernel
theorem getItem_tuple_all {prog : Program} {w : World} {A : Around} {E : Value → Shared → Prop} {s : Shared} {t sl : Addr} {items : Array Value} {vl vu : Value} {lo hi : Option Int} {Q : Value → Shared → Prop} (ht : IsTup s.heap t items) (hs : s.heap.IsSliceOf sl vl vu .none) (pl : IsPart vl lo) (pu : IsPart vu hi)
    (hw : HT.sIx items.size 0 lo = 0 ∧ HT.sIx items.size items.size hi = items.size) (h : Q (.ref t) s) : wpAny (model prog w) A (getItem (.ref t) (.ref sl)) Q E s := by
  obtain ⟨os, hos, hcs, hds⟩ := id hs
  have hTs : s.TypeIs (.ref sl) "slice" := ⟨os, hos, hcs⟩
  unfold getItem
  try with_reducible refine wpAny_holding ?_
  first | refine wpAny_bind (wpAny_pure ?_) | skip
  refine wpAny_bind (wpAny_sequenceKey ht.typeIs (by decide) ?_)
  refine wpAny_bind (wpAny_callSpecial?_slot (name := Str.ofString "__getitem__") ht.typeIs PyProof.Rows.slot_tuple_getitem
    (wpAny_call_entry PyProof.Rows.slot_tuple_getitem ht.typeIs entry_tuple_getitem ?_ (args_tuple_getitem _ _)))
  show wpAny _ _ (Builtin.Tuple.tupleItemsOf (.ref t) >>= _) _ _ s
  refine wpAny_bind (tupleItemsOf_ ht ?_)
  refine wpAny_bind (wpAny_typeOf hTs ?_)
  rw [if_pos (by decide)]
  refine wpAny_bind (HT.sliceApplied_gen hs pl pu ?_)
  rw [hw.1, hw.2]
  have hyes : ((((0 : Nat) : Int) == 0 && (1 : Int) == 1 && (items.size - 0) == items.size) = true) := by simp
  show wpAny _ _ (if ((((0 : Nat) : Int) == 0 && (1 : Int) == 1 && (items.size - 0) == items.size) = true) then _ else _) _ _ s
  rw [if_pos hyes]
  unfold Builtin.Tuple.tupleIsExact
  refine wpAny_bind (wpAny_bind (wpAny_typeOf ht.typeIs (wpAny_pure ?_)))
  rw [if_pos (by decide)]
  refine wpAny_bind (wpAny_rule ?_)
  first
    | exact wpAny_pure ⟨_, rfl, wpAny_pure h⟩
    | exact wpAny_bind (wpAny_pure (wpAny_pure ⟨_, rfl, wpAny_pure h⟩))
def rSlU (K : PySem.W.Frag) : V → Option Int → Option Int → Hp → VK → Prop := fun x lo hi H Q => ∃ a xs, x = .ref a ∧ SqT K H a xs ∧
  ((HT.sIx xs.length 0 lo = 0 ∧ HT.sIx xs.length xs.length hi = xs.length) → Q (.ref a) H) ∧ (¬ (HT.sIx xs.length 0 lo = 0 ∧ HT.sIx xs.length xs.length hi = xs.length) → ∀ p, H p = none → Q (.ref p) (upd H p (.tup (cutV xs lo hi))))
theorem kl_tupU {X : Cx} (K : PySem.W.Frag) (hK : X.K = K) : SlR X (rSlU K) := by
  subst hK
  intro pins s σ H x v vl vu lo hi sl Q I rx hs pl pu h
  obtain ⟨a, xs, rfl, hx, q1, q2⟩ := h
  by_cases hw : HT.sIx xs.length 0 lo = 0 ∧ HT.sIx xs.length xs.length hi = xs.length
  · cases rx
    obtain ⟨its, r, ht, hz⟩ := I.tuple hx
    have hlen : its.toArray.size = xs.length := by rw [List.size_toArray]; exact r.length.symm
    refine ⟨"tuple", _, PyProof.Rows.slot_tuple_getitem.lookup, ht.typeIs, ?_⟩
    exact getItem_tuple_all ht hs pl pu (by rw [hlen]; exact hw) ⟨.ref a, H, I, rfl, q1 hw⟩
  · exact sl_tup pins s σ H (.ref a) v vl vu lo hi sl Q I rx hs pl pu ⟨a, xs, rfl, hx, hw, q2 hw⟩
theorem cut_whole {xs : List V} {lo hi : Option Int} (h : HT.sIx xs.length 0 lo = 0 ∧ HT.sIx xs.length xs.length hi = xs.length) : cutV xs lo hi = xs := by
  unfold cutV
  rw [h.1, h.2]
  simp
section
variable {X : Cx} {pos pos' : Pos} {e : Expr} {te : TE}
theorem pipR {op : Operator} {r : R2} (ho : OpR X (inplaceOp op) r) : PIp X op r := ho
theorem qs_aug {i : Nat} {x : Str} {op : Operator} {r : R2} (hN : X.N.Nodup) (hi : X.N[i]? = some x) (hx : Loc X.env.scope x) (ho : OpR X (inplaceOp op) r) (he : QE X e te) (hf : X.fn x = true ∨ X.env.scope.names.lookup x = some .local := by first | exact .inl rfl | exact .inr rfl | assumption) :
    QS X (.AugAssign (.Name x pos') op e pos) (tAug i te r) := ⟨ps_aug hN hi hx he.h (pipR ho) hf⟩
theorem rd_aug {i : Nat} {r : R2} {D : Ends} {σ : St} {H : Hp} {x : V} (e1 : σ[i]? = some (some x)) (h : te σ H fun y H1 => r x y H1 fun z H2 => D.nx (σ.set i (some z)) H2) : tAug i te r D σ H := ⟨x, e1, h⟩
end
def rTurn (Pv : St → Hp → Prop) (μ : St → Hp → Nat) (tb : TS) (D : Ends) (n : Nat) (σ : St) (H : Hp) : Prop :=
  ∃ N : St → Hp → Prop, (∀ σ' H', N σ' H' → ∃ m', m' < n ∧ m' = μ σ' H' ∧ Pv σ' H') ∧ tb { D with nx := N, ct := N, bk := D.nx } σ H
theorem rd_while {c : TT} {tb : TS} {D : Ends} {σ : St} {H : Hp} (Pv : St → Hp → Prop) (μ : St → Hp → Nat) (h0 : Pv σ H)
    (hs : ∀ σ H, Pv σ H → c σ H fun b H1 => if b = true then rTurn Pv μ tb D (μ σ H) σ H1 else D.nx σ H1) : tWhile c tb D σ H := by
  refine ⟨fun m σ H => m = μ σ H ∧ Pv σ H, ⟨_, rfl, h0⟩, ?_⟩
  rintro m σ H ⟨rfl, p⟩
  exact hs σ H p
theorem rd_turn {Pv : St → Hp → Prop} {μ : St → Hp → Nat} {tb : TS} {D : Ends} {n : Nat} {σ : St} {H : Hp} (h : tb { D with nx := fun σ' H' => Pv σ' H' ∧ μ σ' H' < n, ct := fun σ' H' => Pv σ' H' ∧ μ σ' H' < n, bk := D.nx } σ H) : rTurn Pv μ tb D n σ H :=
  ⟨_, fun σ' H' ⟨p, l⟩ => ⟨_, l, rfl, p⟩, h⟩
end L2
set_option Elab.async false
set_option linter.all false
set_option maxRecDepth 100000
set_option maxHeartbeats 4000000
namespace L2
open PySem PySem.Spec PyProof.Rows
section
variable {K : PySem.W.Frag} {H : Hp} {Q : VK} {a b : Addr} {vs ws : List V} {l m : List (Int × Int)}
end
theorem Same.kpN {H H1 H2 : Hp} {l : Addr} (s : Same H H1) (hl : H l = none) (k : Kp l H1 H2) : Same H H2 := fun q o e => k q o (s q o e) (ne_of_none e hl)
theorem PairsAt.kpL {p : Addr} {H H' : Hp} (k : Kp p H H') {xs : List V} (hp : H p = some (.lst xs)) {vs : List V} {l : List (Int × Int)} (h : PairsAt H vs l) : PairsAt H' vs l := PairsAt.kp k (n := 0) hp h
theorem PairsAt.kpD {p : Addr} {H H' : Hp} (k : Kp p H H') {kvs : List (Key × V)} (hp : H p = some (.dK kvs)) : ∀ {vs : List V} {l : List (Int × Int)}, PairsAt H vs l → PairsAt H' vs l
  | _, _, .nil => .nil
  | _, _, .cons ⟨a, e, z⟩ t => .cons ⟨a, e, k _ _ z (fun c => by subst c; rw [hp] at z; cases z)⟩ (PairsAt.kpD k hp t)
theorem PairsAt.drop {H : Hp} : ∀ {vs : List V} {l : List (Int × Int)} (n : Nat), PairsAt H vs l → PairsAt H (vs.drop n) (l.drop n)
  | _, _, 0, h => h
  | _, _, _ + 1, .nil => .nil
  | _, _, n + 1, .cons _ t => PairsAt.drop n t
theorem PairsAt.take {H : Hp} : ∀ {vs : List V} {l : List (Int × Int)} (n : Nat), PairsAt H vs l → PairsAt H (vs.take n) (l.take n)
  | _, _, 0, _ => .nil
  | _, _, _ + 1, .nil => .nil
  | _, _, n + 1, .cons h t => .cons h (PairsAt.take n t)
theorem Pot.ne_tup {H : Hp} {p l : Addr} {xs : List V} (h : Pot H p) (hl : H l = some (.tup xs)) : l ≠ p := by
  obtain ⟨x, y, h, r⟩ := h
  intro e; subst e; rw [h] at hl; cases hl
theorem PairsAt.pot {p : Addr} {H H' : Hp} (k : Kp p H H') (hp : Pot H p) {vs : List V} {l : List (Int × Int)} (h : PairsAt H vs l) : PairsAt H' vs l := by
  obtain ⟨x, y, e, _⟩ := hp
  exact PairsAt.kpL k e h
theorem SqT.kp {K : PySem.W.Frag} {p : Addr} {H H' : Hp} {a : Addr} {xs : List V} (k : Kp p H H') (hp : Pot H p) (h : SqT K H a xs) : SqT K H' a xs := by
  obtain ⟨x, y, hpp, _⟩ := hp
  rcases h with (h | ⟨o, h⟩) | h
  · exact .inl (.inl (k _ _ h (fun e => by subst e; rw [hpp] at h; cases h)))
  · exact .inl (.inr ⟨o, k _ _ h (fun e => by subst e; rw [hpp] at h; cases h)⟩)
  · exact .inr h
end L2
set_option Elab.async false
set_option linter.all false
set_option maxRecDepth 100000
set_option maxHeartbeats 4000000
namespace L2
open PySem PySem.Spec PyProof.Rows
section
variable {K : PySem.W.Frag} {H H' : Hp} {Q : VK} {a b : Addr} {xs ys : List V} {cv l m : List (Int × Int)}
theorem rd_slH {lo hi : Option Int} (h1 : H a = some (.tup xs)) (h : ∀ p H2, H2 p = some (.tup (cutV xs lo hi)) → Same H H2 → Q (.ref p) H2) : rSlU K (.ref a) lo hi H Q :=
  ⟨a, xs, rfl, SqT.of h1, fun e => h a H (by rw [cut_whole e]; exact h1) (Same.refl H), fun _ p hp => h p _ upd_same (Same.new hp)⟩
def PrT (H : Hp) (a : Addr) (cv : List (Int × Int)) : Prop := ∃ vs, H a = some (.tup vs) ∧ PairsAt H vs cv
def PrL (H : Hp) (a : Addr) (cv : List (Int × Int)) : Prop := ∃ vs, H a = some (.lst vs) ∧ PairsAt H vs cv
theorem PrT.same (h : PrT H a cv) (s : Same H H') : PrT H' a cv := by
  obtain ⟨vs, h1, h2⟩ := h
  exact ⟨vs, s _ _ h1, h2.same s⟩
theorem PrL.same (h : PrL H a cv) (s : Same H H') : PrL H' a cv := by
  obtain ⟨vs, h1, h2⟩ := h
  exact ⟨vs, s _ _ h1, h2.same s⟩
theorem PrT.pot {p : Addr} (h : PrT H a cv) (hp : Pot H p) (k : Kp p H H') : PrT H' a cv := by
  obtain ⟨vs, h1, h2⟩ := h
  exact ⟨vs, k _ _ h1 (hp.ne_tup h1), h2.pot k hp⟩
theorem PrL.pot {p : Addr} (h : PrL H a cv) (hp : Pot H p) (hne : a ≠ p) (k : Kp p H H') : PrL H' a cv := by
  obtain ⟨vs, h1, h2⟩ := h
  exact ⟨vs, k _ _ h1 hne, h2.pot k hp⟩
theorem PrT.len (h : PrT H a cv) {xs : List V} (e : H a = some (.tup xs)) : xs.length = cv.length := by
  obtain ⟨vs, h1, h2⟩ := h
  rw [h1] at e
  cases e
  exact h2.length
def cutP (l : List (Int × Int)) (lo hi : Option Int) : List (Int × Int) := (l.drop (HT.sIx l.length 0 lo)).take (HT.sIx l.length l.length hi - HT.sIx l.length 0 lo)
theorem PairsAt.cut {vs : List V} {lo hi : Option Int} (h : PairsAt H vs l) : PairsAt H (cutV vs lo hi) (cutP l lo hi) := by
  unfold cutV cutP
  rw [h.length]
  exact (h.drop _).take _
theorem PrT.sl {lo hi : Option Int} (h1 : PrT H a l) (h : ∀ p H2, PrT H2 p (cutP l lo hi) → Same H H2 → Q (.ref p) H2) : rSlU K (.ref a) lo hi H Q := by
  obtain ⟨vs, g1, p1⟩ := h1
  exact rd_slH g1 fun p H2 f2 S2 => h p H2 ⟨_, f2, (p1.cut).same S2⟩ S2
theorem PrL.sl {lo hi : Option Int} (h1 : PrL H a l) (h : ∀ p H2, H p = none → PrL H2 p (cutP l lo hi) → Same H H2 → Q (.ref p) H2) : rSlL K (.ref a) lo hi H Q := by
  obtain ⟨vs, g1, p1⟩ := h1
  exact rd_slL (SqL.of g1) fun p H2 n2 f2 S2 => h p H2 n2 ⟨_, f2, (p1.cut).same S2⟩ S2
end
end L2
set_option Elab.async false
set_option linter.all false
set_option maxRecDepth 100000
set_option maxHeartbeats 4000000
namespace L2
open PySem PySem.Spec PyProof.Rows
section
variable {X : Cx}
end
end L2
set_option Elab.async false
set_option linter.all false
set_option maxRecDepth 100000
set_option maxHeartbeats 4000000
namespace L2
open PySem PySem.Spec PyProof.Rows
section
variable {K : PySem.W.Frag} {H H' : Hp} {a p l : Addr} {cv : List (Int × Int)} {xs : List V}
theorem Pot.kp (h : Pot H p) (k : Kp l H H') (n : p ≠ l) : Pot H' p := by
  obtain ⟨x, y, h, r⟩ := h
  exact ⟨x, y, k _ _ h n, r⟩
theorem PrT.kpL (h : PrT H a cv) (k : Kp l H H') (hl : H l = some (.lst xs)) : PrT H' a cv := by
  obtain ⟨vs, h1, h2⟩ := h
  exact ⟨vs, k _ _ h1 (fun e => by subst e; rw [h1] at hl; cases hl), h2.kpL k hl⟩
theorem PrL.kpL (h : PrL H a cv) (k : Kp l H H') (hl : H l = some (.lst xs)) (hne : a ≠ l) : PrL H' a cv := by
  obtain ⟨vs, h1, h2⟩ := h
  exact ⟨vs, k _ _ h1 hne, h2.kpL k hl⟩
end
end L2
set_option Elab.async false
set_option linter.all false
set_option maxRecDepth 100000
set_option maxHeartbeats 4000000
namespace L2
open PySem PySem.Spec PyProof.Rows
section
variable {X : Cx} {e st : Expr} {te : TE} {pos p2 : Pos}
end
section
variable {K : PySem.W.Frag} {H : Hp} {Q : VK} {a : Addr} {xs : List V} {l : List (Int × Int)}
end
def Itd (lo : Int) (n : Nat) : It := ⟨fun i _ => i < n, fun i H x H' => H' = H ∧ x = .int (lo + i * (-1)), fun i _ => n ≤ i⟩
section
variable {X : Cx} {tg : Expr}
def rRngD (vs : List V) (H : Hp) (R : It → Hp → Prop) : Prop := ∃ i j : Int, vs = [.int i, .int j, .int (-1)] ∧ (-(2 ^ 62) ≤ i ∧ i < 2 ^ 62 ∧ -(2 ^ 62) ≤ j ∧ j < 2 ^ 62) ∧ R (Itd i (i - j).toNat) H
def iRngD (ta : TA) : TI := fun σ H R => ta σ H fun vs H1 => rRngD vs H1 R
end
section
variable {σ : St} {H : Hp}
theorem rd_rngD {ta : TA} {R : It → Hp → Prop} (h : ta σ H fun vs H1 => rRngD vs H1 R) : iRngD ta σ H R := h
end
section
variable {X : Cx}
theorem rd_eqS {H : Hp} {Q : VK} {i j : Str} (h : Q (.bl (decide (i = j))) H) : rEq (.str i) (.str j) H Q := ⟨rfl, by
  have : decide (V.str i = V.str j) = decide (i = j) := by
    by_cases e : i = j
    · subst e; simp
    · rw [decide_eq_false e, decide_eq_false (fun z => e (V.str.inj z))]
  rw [this]; exact h⟩
theorem rd_bm0 {K : PySem.W.Frag} {T : String} {r : V → List V → Hp → VK → Prop} {to : TE} {σ : St} {H : Hp} {Q : VK} (h : to σ H fun x H1 => tyV K T x H1 ∧ r x [] H1 Q) : tBM0 K T r to σ H Q := h
end
end L2
set_option Elab.async false
set_option linter.all false
set_option maxRecDepth 100000
set_option maxHeartbeats 4000000
namespace L2
open PySem PySem.Spec PyProof.Rows
def rItS (K : PySem.W.Frag) (x : V) (H : Hp) (R : It → Hp → Prop) : Prop := (∃ a, x = .ref a ∧ (∃ xs, SqL K H a xs) ∧ R (Itl K a) H) ∨ (∃ a, x = .ref a ∧ (∃ xs, SqT K H a xs) ∧ R (Itt K a) H)
def iSeq (K : PySem.W.Frag) (tl : TE) : TI := fun σ H R => tl σ H fun x H1 => rItS K x H1 R
section
variable {K : PySem.W.Frag} {σ : St} {H : Hp} {D : Ends}
theorem rd_iSeq {tl : TE} {R : It → Hp → Prop} (h : tl σ H fun x H1 => rItS K x H1 R) : iSeq K tl σ H R := h
end
end L2
set_option Elab.async false
set_option linter.all false
set_option maxRecDepth 100000
set_option maxHeartbeats 4000000
namespace L2
open PySem PySem.Spec PyProof.Rows
section
variable {X : Cx} {pos : Pos}
def rPar (i j : Nat) (vs : List V) (D : Ends) (σ : St) (H : Hp) : Prop := ∃ v w, vs = [v, w] ∧ D.nx ((σ.set i (some v)).set j (some w)) H
theorem rd_par0 {i j : Nat} {ta : TA} {D : Ends} {σ : St} {H : Hp} (h : ta σ H fun vs H1 => rPar i j vs D σ H1) : tPar i j ta D σ H := h
theorem rd_par {i j : Nat} {v w : V} {D : Ends} {σ : St} {H : Hp} (h : D.nx ((σ.set i (some v)).set j (some w)) H) : rPar i j [v, w] D σ H := ⟨v, w, rfl, h⟩
end
end L2
set_option Elab.async false
set_option linter.all false
set_option maxRecDepth 100000
set_option maxHeartbeats 4000000
namespace L2
open PySem PySem.Spec PyProof.Rows PySem.W
section
variable {n : Nat}
end
def ltP (p q : Int × Int) : Bool := decide (p.1 < q.1) || (decide (p.1 = q.1) && decide (p.2 < q.2))
theorem ltP_iff {p q : Int × Int} : ltP p q = true ↔ p.1 < q.1 ∨ (p.1 = q.1 ∧ p.2 < q.2) := by simp [ltP]
section
variable {prog : Program} {w : World} {A : Around} {E : Value → Shared → Prop} {s : Shared}
end
end L2
set_option Elab.async false
set_option linter.all false
set_option maxRecDepth 100000
set_option maxHeartbeats 4000000
namespace L2
open PySem PySem.Spec PyProof.Rows PySem.W
section
variable {X : Cx} {pins : List (Addr × Obj)} {σ : St} {H H' : Hp} {s : Shared} {h' : Heap}
theorem Inv.old (I : Inv X pins σ H s) {b : Addr} {o : HO} (e : H b = some o) : b < s.heap.objs.size := by
  by_cases h : b < s.heap.objs.size
  · exact h
  · rw [I.hok.fresh (Nat.le_of_not_lt h)] at e
    cases e
theorem Inv.many {t' : Nat} (I : Inv X pins σ H s) (k : ∀ b u, s.heap.get? b = some u → h'.get? b = some u) (hs : ∀ b, b < s.heap.objs.size → H' b = H b) (new : ∀ b o, s.heap.objs.size ≤ b → H' b = some o → ObjOk X.prog X.w H' h' b o) :
    Inv X pins σ H' { s with heap := h', toks := t' } := by
  have old : ∀ b o, H b = some o → H' b = some o := fun b o e => (hs b (I.old e)).trans e
  refine I.un ⟨fun b u q _ _ _ => k b u q, fun b u q _ _ _ => ⟨u.slots, k b u q⟩, fun b u q n _ => (hs b (Heap.lt_size q)).trans n, fun b u q _ => ⟨u, k b u q⟩, fun b xs q => old _ _ q, fun b u xs q => old _ _ q, fun b ps q => ⟨#[], by rw [old _ _ q]; simp⟩⟩ fun b u e => ?_
  by_cases hb : b < s.heap.objs.size
  · rw [hs b hb] at e
    exact (I.hok b u e).stay (fun c v _ q => k c v q) (fun c q => old _ _ q) fun c xs q => old _ _ q
  · exact new b u (Nat.le_of_not_lt hb) e
end
section
variable {X : Cx} {o : Expr} {to : TE} {apos cpos : Pos}
def tItemsOf (to : TE) : (σ : St) → Hp → (Addr → List (Int × Int) → Hp → Prop) → Prop := fun σ H R => to σ H fun x H1 => ∃ a m, x = .ref a ∧ H1 a = some (.dK (dkOf m)) ∧ R a m H1
end
def rSortedIt : Addr → List (Int × Int) → Hp → VK → Prop := fun a m H Q => m.Nodup ∧ m.length < 64 ∧
  ∀ (l : Addr) (vs : List V) (cv : List (Int × Int)) (H' : Hp), H l = none → H' l = some (.lst vs) → PairsAt H' vs cv → cv.Perm m → cv.Pairwise (fun p q => ltP p q = true) → Same H H' → Q (.ref l) H'
section
variable {X : Cx} {o : Expr} {to : TE} {apos cpos pos p : Pos}
def tSortedIt (to : TE) : TE := fun σ H Q => tItemsOf to σ H fun a m H1 => rSortedIt a m H1 Q
end
section
variable {σ : St} {H : Hp} {Q : VK} {to : TE}
def rItems (x : V) (H : Hp) (Q : VK) : Prop := ∃ a m, x = .ref a ∧ H a = some (.dK (dkOf m)) ∧ rSortedIt a m H Q
theorem rd_sortedIt0 (h : to σ H fun x H1 => rItems x H1 Q) : tSortedIt to σ H Q := h
end
end L2
set_option Elab.async false
set_option linter.all false
set_option maxRecDepth 100000
set_option maxHeartbeats 4000000
namespace L2
open PySem PySem.Spec PyProof.Rows PySem.W
section
variable {prog : Program} {w : World} {A : Around} {E : Value → Shared → Prop} {s : Shared}
end
end L2
set_option Elab.async false
set_option linter.all false
set_option maxRecDepth 100000
set_option maxHeartbeats 4000000
namespace L2
open PySem PySem.Spec PyProof.Rows PySem.W
section
variable {X : Cx} {pins : List (Addr × Obj)} {σ : St} {H H' : Hp} {s : Shared} {h' : Heap}
end
def SqB (b : Bool) (K : PySem.W.Frag) (H : Hp) (a : Addr) (xs : List V) : Prop := if b then SqL K H a xs else SqT K H a xs
theorem SqB.same {b : Bool} {K : PySem.W.Frag} {H H' : Hp} {a : Addr} {xs : List V} (h : SqB b K H a xs) (s : Same H H') : SqB b K H' a xs := by
  cases b with
  | true => exact s.seq h
  | false => exact s.seqT h
def Itz (K : PySem.W.Frag) (b1 : Bool) (p1 : Addr) (b2 : Bool) (p2 : Addr) : It :=
  ⟨fun i H => ∃ xs ys, SqB b1 K H p1 xs ∧ SqB b2 K H p2 ys ∧ i < xs.length ∧ i < ys.length,
   fun i H x H' => ∃ T a b, H T = none ∧ x = .ref T ∧ H' = upd H T (.tup [a, b]) ∧ (∀ xs, SqB b1 K H p1 xs → xs[i]? = some a) ∧ ∀ ys, SqB b2 K H p2 ys → ys[i]? = some b,
   fun i H => ∃ xs ys, SqB b1 K H p1 xs ∧ SqB b2 K H p2 ys ∧ (xs.length ≤ i ∨ ys.length ≤ i)⟩
section
variable {X : Cx} {tg : Expr}
def rZip (K : PySem.W.Frag) (vs : List V) (H : Hp) (R : It → Hp → Prop) : Prop := ∃ b1 b2 l1 l2 xs ys, vs = [.ref l1, .ref l2] ∧ SqB b1 K H l1 xs ∧ SqB b2 K H l2 ys ∧ R (Itz K b1 l1 b2 l2) H
def iZip (K : PySem.W.Frag) (ta : TA) : TI := fun σ H R => ta σ H fun vs H1 => rZip K vs H1 R
end
section
variable {K : PySem.W.Frag} {σ : St} {H : Hp} {D : Ends}
theorem rd_iZip {ta : TA} {R : It → Hp → Prop} (h : ta σ H fun vs H1 => rZip K vs H1 R) : iZip K ta σ H R := h
end
end L2
set_option Elab.async false
set_option linter.all false
set_option maxRecDepth 100000
set_option maxHeartbeats 4000000
namespace L2
open PySem PySem.Spec PyProof.Rows
section
variable {X : Cx}
end
def Bn (n : Nat) (x : Int) : Prop := x.natAbs < 2 ^ n
theorem Bn.mono {m n : Nat} {x : Int} (h : Bn m x) (hm : m ≤ n) : Bn n x := Nat.lt_of_lt_of_le h (Nat.pow_le_pow_right (by decide) hm)
theorem Bn.of {n : Nat} {x : Int} (h1 : -(2 ^ n) < x) (h2 : x < 2 ^ n) : Bn n x := by
  unfold Bn
  have e : ((2 ^ n : Nat) : Int) = (2 : Int) ^ n := by simp
  have : (x.natAbs : Int) < ((2 ^ n : Nat) : Int) := by rw [e]; omega
  exact Int.ofNat_lt.mp this
theorem Bn.lt {n : Nat} {x : Int} (h : Bn n x) : -(2 ^ n) < x ∧ x < 2 ^ n := by
  have e : ((2 ^ n : Nat) : Int) = (2 : Int) ^ n := by simp
  have : (x.natAbs : Int) < ((2 ^ n : Nat) : Int) := Int.ofNat_lt.mpr h
  rw [e] at this
  omega
theorem mulBig {m n : Nat} {x y : Int} (h : Bn m x) (g : Bn n y) (hm : m + n ≤ 8000) : IntMulOk x y := by
  have h1 : Builtin.Int.intBits x ≤ m := intBits_le h
  have h2 : Builtin.Int.intBits y ≤ n := intBits_le g
  unfold IntMulOk
  have : Builtin.Int.intTooBig ((Builtin.Int.intBits x : Int) + (Builtin.Int.intBits y : Int)) = false := by
    unfold Builtin.Int.intTooBig
    refine decide_eq_false ?_
    have hb : (8000 : Int) ≤ bitsLine := by decide
    omega
  rw [this]
  simp
end L2
set_option Elab.async false
set_option linter.all false
set_option maxRecDepth 100000
set_option maxHeartbeats 4000000
namespace L2
open PySem PySem.Spec PyProof.Rows
end L2
set_option Elab.async false
set_option linter.all false
set_option maxRecDepth 100000
set_option maxHeartbeats 4000000
namespace L2
open PySem PySem.Spec PyProof.Rows
section
variable {X : Cx}
end
inductive FourIs (H : Hp) : V → Option (List (Int × Int)) → Prop where
  | non : FourIs H .non Option.none
  | pr {c : Addr} {qs : List (Int × Int)} (h : PrT H c qs) (hl : qs.length = 4) : FourIs H (.ref c) (Option.some qs)
theorem FourIs.same {H H' : Hp} {v : V} {o : Option (List (Int × Int))} (h : FourIs H v o) (s : Same H H') : FourIs H' v o := by
  cases h with
  | non => exact .non
  | pr e hl => exact .pr (e.same s) hl
theorem FourIs.kpL {H H' : Hp} {l : Addr} {xs : List V} {v : V} {o : Option (List (Int × Int))} (h : FourIs H v o) (k : Kp l H H') (hl : H l = Option.some (.lst xs)) : FourIs H' v o := by
  cases h with
  | non => exact .non
  | pr e hn => exact .pr (e.kpL k hl) hn
inductive Fours (H : Hp) : List V → List (Option (List (Int × Int))) → Prop where
  | nil : Fours H [] []
  | cons {v : V} {o : Option (List (Int × Int))} {vs : List V} {os : List (Option (List (Int × Int)))} (h : FourIs H v o) (t : Fours H vs os) : Fours H (v :: vs) (o :: os)
theorem Fours.mapP {H H' : Hp} (f : ∀ v o, FourIs H v o → FourIs H' v o) : ∀ {vs : List V} {os : List (Option (List (Int × Int)))}, Fours H vs os → Fours H' vs os
  | _, _, .nil => .nil
  | _, _, .cons h t => .cons (f _ _ h) (Fours.mapP f t)
theorem Fours.same {H H' : Hp} {vs : List V} {os : List (Option (List (Int × Int)))} (h : Fours H vs os) (s : Same H H') : Fours H' vs os := h.mapP fun _ _ d => d.same s
theorem Fours.len {H : Hp} : ∀ {vs : List V} {os : List (Option (List (Int × Int)))}, Fours H vs os → vs.length = os.length
  | _, _, .nil => rfl
  | _, _, .cons _ t => by simp [Fours.len t]
theorem Fours.snoc {H : Hp} : ∀ {vs : List V} {os : List (Option (List (Int × Int)))}, Fours H vs os → ∀ {v : V} {o : Option (List (Int × Int))}, FourIs H v o → Fours H (vs ++ [v]) (os ++ [o])
  | _, _, .nil, _, _, d => .cons d .nil
  | _, _, .cons h t, _, _, d => .cons h (Fours.snoc t d)
theorem Fours.at {H : Hp} : ∀ {vs : List V} {os : List (Option (List (Int × Int)))}, Fours H vs os → ∀ {i : Nat} {v : V}, vs[i]? = Option.some v → ∃ o, os[i]? = Option.some o ∧ FourIs H v o
  | _, _, .nil, i, v, e => by simp at e
  | _, _, .cons h t, 0, v, e => by simp at e; subst e; exact ⟨_, rfl, h⟩
  | _, _, .cons _ t, i + 1, v, e => by
    obtain ⟨o, h1, h2⟩ := Fours.at t (by simpa using e)
    exact ⟨o, by simpa using h1, h2⟩
end L2
set_option Elab.async false
set_option linter.all false
set_option maxRecDepth 100000
set_option maxHeartbeats 4000000
namespace L2
open PySem PySem.Spec PyProof.Rows
section
variable {X : Cx}
def rDisp (p : Addr) (x y : V) (H2 : Hp) (Q : VK) : Prop := H2 p = some (.dK []) ∧ ∃ kvs : List (Key × V), [(x, y)] = kvs.map (fun kv => (kV kv.1, kv.2)) ∧ kvs.length ≤ 15 ∧ Q (.ref p) (upd H2 p (.dK (mergeK [] kvs)))
theorem rd_disp0 {σ : St} {H : Hp} {Q : VK} {tk tv : TE} (h : ∀ p, H p = none → tk σ (upd H p (.dK [])) fun x H1 => tv σ H1 fun y H2 => rDisp p x y H2 Q) : tDisp [(tk, tv)] σ H Q := h
mutual
theorem Dat.same {K : PySem.W.Frag} {H H' : Hp} (s : Same H H') : ∀ {x : V} {d : PyData}, Dat K H x d → Dat K H' x d
  | _, _, .non => .non
  | _, _, .bl b => .bl b
  | _, _, .int i => .int i
  | _, _, .str x => .str x
  | _, _, .tup h r => .tup (s.seqT h) (Dats.same s r)
  | _, _, .lst h r => .lst (s.seq h) (Dats.same s r)
theorem Dats.same {K : PySem.W.Frag} {H H' : Hp} (s : Same H H') : ∀ {x : List V} {d : List PyData}, Dats K H x d → Dats K H' x d
  | _, _, .nil => .nil
  | _, _, .cons h r => .cons (Dat.same s h) (Dats.same s r)
end
theorem Dats.snoc {K : PySem.W.Frag} {H : Hp} : ∀ {xs : List V} {ds : List PyData}, Dats K H xs ds → ∀ {x : V} {d : PyData}, Dat K H x d → Dats K H (xs ++ [x]) (ds ++ [d])
  | _, _, .nil, _, _, h => .cons h .nil
  | _, _, .cons h0 r, _, _, h => .cons h0 (Dats.snoc r h)
end
end L2
set_option Elab.async false
set_option linter.all false
set_option maxRecDepth 100000
set_option maxHeartbeats 4000000
namespace L2
open PySem PySem.Spec PyProof.Rows PySem.W
section
variable {X : Cx} {pins : List (Addr × Obj)} {σ : St} {H : Hp} {s : Shared}
end
section
variable {prog : Program} {w : World} {A : Around} {E : Value → Shared → Prop} {s : Shared}
end
def Itv (K : PySem.W.Frag) (l : Addr) (n : Nat) : It :=
  ⟨fun i H => ∃ xs, SqL K H l xs ∧ xs.length = n ∧ i < n, fun i H x H' => H' = H ∧ ∀ xs, SqL K H l xs → xs[n - 1 - i]? = some x, fun i H => n ≤ i⟩
section
variable {X : Cx} {tg : Expr}
def rRev (K : PySem.W.Frag) (vs : List V) (H : Hp) (R : It → Hp → Prop) : Prop := ∃ l xs, vs = [.ref l] ∧ SqL K H l xs ∧ R (Itv K l xs.length) H
def iRev (K : PySem.W.Frag) (ta : TA) : TI := fun σ H R => ta σ H fun vs H1 => rRev K vs H1 R
end
section
variable {K : PySem.W.Frag} {σ : St} {H : Hp} {D : Ends}
theorem rd_iRev {ta : TA} {R : It → Hp → Prop} (h : ta σ H fun vs H1 => rRev K vs H1 R) : iRev K ta σ H R := h
end
def rDivmodB : List V → Hp → VK → Prop := fun xs H Q => ∃ i j, xs = [.int i, .int j] ∧ CDivB i j ∧ ∀ p, H p = none → Q (.ref p) (upd H p (.tup [.int (i / j), .int (i % j)]))
theorem call_divmodB {X : Cx} : CallR X (.builtin "divmod") rDivmodB := by
  intro pins s σ H xs us Q I r h
  obtain ⟨i, j, rfl, ⟨h1, h2⟩, q⟩ := h
  obtain ⟨u, w', rfl, ⟨t, rfl⟩, ⟨t', rfl⟩⟩ := vals2 r
  refine divmod_int (by omega) ?_ (.inl (PyProof.noPylong_of_log2 h2))
  rw [Int.fdiv_eq_ediv_of_nonneg i (by omega), Int.fmod_eq_emod_of_nonneg i (by omega)]
  have hn : H s.heap.objs.size = none := I.hok.fresh (Nat.le_refl _)
  refine ⟨.ref s.heap.objs.size, _, ?_, rfl, q _ hn⟩
  refine I.laid (fun b o e => Heap.get?_push_of_some _ e) (Nat.le_refl _) ⟨⟨by simp only [List.length_cons, List.length_nil]; rw [sizeLine_eq]; decide, fun z => absurd rfl (z (i / j))⟩, [.int (i / j) s.toks, .int (i % j) (s.toks + 1)], .cons ⟨_, rfl⟩ (.cons ⟨_, rfl⟩ .nil), ?_⟩
  exact ⟨_, Heap.get?_push_size s.heap rfl, rfl, 0, rfl⟩
theorem rd_divmod {H : Hp} {Q : VK} {i j : Int} (h1 : CDivB i j) (h : ∀ p H2, H p = none → H2 p = some (.tup [.int (i / j), .int (i % j)]) → Same H H2 → Q (.ref p) H2) : rDivmodB [.int i, .int j] H Q :=
  ⟨i, j, rfl, h1, fun p hp => h p _ hp upd_same (Same.new hp)⟩
end L2
set_option Elab.async false
set_option linter.all false
set_option maxRecDepth 100000
set_option maxHeartbeats 4000000
namespace L2
open PySem PySem.Spec PyProof.Rows PySem.W
section
variable {X : Cx} {k : Nat} {f : Addr} {fd : FuncData} {ps : List Str} {sp : Sp}
theorem run_in1 {pins : List (Addr × Obj)} {σ : St} {H : Hp} {s : Shared} {Q : VK} {us : List Value} {vs : List V} {E1 : Value → Shared → Prop} (F : FnOk X.prog X.w X.K X.mg X.base CX0 k f fd ps sp) (hr : Room k X.A.in1) (hb : Binds X.K fd ps [])
    (I : Inv X pins σ H s) (r : Vals vs us) (h : sp vs H Q E0) : wpAny (model X.prog X.w) X.A.in1 (call (.ref f) us) (EP X pins σ Q) E1 s := by
  have hl : (us ++ []).length = ps.length := by rw [List.append_nil, ← r.length]; exact F.len _ _ _ _ h
  refine wpAny_call (codeAny_mono (F.run X.A.in1 X.stack s H ⟨us, []⟩ (us ++ []) vs Q E0 hr I.env0.in1 (hb s us I.kIn hl) (by rw [List.append_nil]; exact r) h) fun r s' hq => ?_)
  cases r with
  | error e => exact False.elim hq
  | ok fl =>
    cases fl with
    | ret u => exact I.after hq
    | next => exact False.elim hq
    | brk => exact False.elim hq
    | cont => exact False.elim hq
theorem Inv.pin2 {pins : List (Addr × Obj)} {σ : St} {H : Hp} {s : Shared} {a b : Addr} {oa ob : Obj} (I : Inv X pins σ H s) (fa : FpOk X pins H a) (fb : FpOk X pins H b) (ha : s.heap.get? a = some oa) (hb : s.heap.get? b = some ob) (ca : ∀ v, oa.data ≠ .cell v) (cb : ∀ v, ob.data ≠ .cell v) :
    Inv X ((a, oa) :: (b, ob) :: pins) σ H s := I.pins_of fun p hp => by
  rcases List.mem_cons.mp hp with rfl | hp
  · exact ⟨ha, fa.1, fa.2.1, fa.2.2.1, ca⟩
  · rcases List.mem_cons.mp hp with rfl | hp
    · exact ⟨hb, fb.1, fb.2.1, fb.2.2.1, cb⟩
    · exact I.pin p (List.mem_append_right _ hp)
theorem Inv.unpin2 {pins : List (Addr × Obj)} {σ : St} {H : Hp} {s : Shared} {a b : Addr} {oa ob : Obj} (I : Inv X ((a, oa) :: (b, ob) :: pins) σ H s) : s.heap.get? a = some oa ∧ s.heap.get? b = some ob ∧ Inv X pins σ H s :=
  ⟨(I.pin (a, oa) (List.mem_append_right _ (.head _))).1, (I.pin (b, ob) (List.mem_append_right _ (.tail _ (.head _)))).1, I.pins_of fun p hp => I.pin p (List.mem_append_right _ (.tail _ (.tail _ hp)))⟩
theorem Inv.turnedAt {pins : List (Addr × Obj)} {σ : St} {H : Hp} {s : Shared} {h' : Heap} {t' : Nat} {it : Addr} (I : Inv X pins σ H s) (fa : FpOk X pins H it) (k : ∀ b o, b ≠ it → s.heap.get? b = some o → h'.get? b = some o) : Inv X pins σ H { s with heap := h', toks := t' } := by
  obtain ⟨f0, f1, f2, f3, f4, f5⟩ := fa
  exact I.turned k f0 f1 f3 f4 f5
def rMinKeyL (K : PySem.W.Frag) (sp : Sp) (vs : List V) (H : Hp) (Q : VK) : Prop := ∃ (l : Addr) (us : List V) (kf : Nat → Int), vs = [.ref l] ∧ SqL K H l us ∧ us ≠ [] ∧ (∀ i v, us[i]? = some v → ∀ Q : VK, Q (.int (kf i)) H → sp [v] H Q E0) ∧
  ∀ i v, us[i]? = some v → (∀ j, j < us.length → kf i ≤ kf j ∧ (j < i → kf i < kf j)) → Q v H
def tMinKeyL (K : PySem.W.Frag) (sp : Sp) (t : TA) : TE := fun σ H Q => t σ H fun vs H1 => rMinKeyL K sp vs H1 Q
theorem rd_minkeyL0 {K : PySem.W.Frag} {sp : Sp} {t : TA} {σ : St} {H : Hp} {Q : VK} (h : t σ H fun vs H1 => rMinKeyL K sp vs H1 Q) : tMinKeyL K sp t σ H Q := h
theorem min_key_loopT {pins : List (Addr × Obj)} {σ : St} {H : Hp} (hc : X.calm = true) (F : FnOk X.prog X.w X.K X.mg X.base CX0 k f fd ps sp) (hr : Room k X.A.in1) (hb : Binds X.K fd ps []) {l I S : Addr} {us : List V} (kf : Nat → Int) (hSI : S ≠ I) (hS : SqT X.K H l us)
    (fI : FpOk X pins H I) (fS : FpOk X pins H S) (turn : ∀ i v, us[i]? = some v → ∀ Q : VK, Q (.int (kf i)) H → sp [v] H Q E0) {R : Result → Shared → Prop}
    (hR : ∀ i v u s', us[i]? = some v → RelV v u → (∀ j, j < us.length → kf i ≤ kf j ∧ (j < i → kf i < kf j)) → Inv X pins σ H s' → R (.ok (.ret u)) s') :
    ∀ (r j i : Nat) (s : Shared) (v : V) (vb : Value) (tb : Tok) (c : Nat), us.length - (j + 1) = r → j + 1 ≤ us.length → Inv X pins σ H s → s.heap.get? S = some (seqObj "list" #[vb, .int (kf i) tb] c) → s.heap.IsTupleIter I l (j + 1) →
      us[i]? = some v → RelV v vb → i ≤ j → (∀ j', j' ≤ j → kf i ≤ kf j' ∧ (j' < i → kf i < kf j')) →
      codeAny (model X.prog X.w) X.A (.builtin "min.loop" ⟨[.ref I, .ref f, .ref S], []⟩) R s := by
  have hname : (toString "min" ++ toString ".loop" : String) = "min.loop" := by decide
  intro r
  induction r with
  | zero =>
    intro j i s v vb tb c hr' hj J nS hit hv rv hij hbest
    have hin : j + 1 = us.length := by omega
    obtain ⟨its, rvs, p, hz⟩ := J.tuple hS
    have hl := rvs.length
    refine codeAny_builtin PySem.F.entry_min_loop ?_
    rw [Around.under_plainId PySem.F.plain_min_loop _]
    show wpAny _ X.A.in1 (seqItems? (.ref S) >>= _) _ _ _
    refine wpAny_bind (wpAny_seqItems nS rfl ?_)
    show wpAny _ X.A.in1 (tryCatch (pyNext (.ref I)) _ >>= _) _ _ _
    refine wpAny_bind (wpAny_tryCatch (wpAny_pyNext_tuple_end (J.ok.hd hc) hit (show s.heap.IsTuple l its.toArray from p) (by simp; omega) fun h' eb => ?_))
    have J1 : Inv X pins σ H { s with heap := h' } := J.turnedAt (t' := s.toks) fI fun b o hb e => eb b o hb e
    have hS' : h'.get? S = some (seqObj "list" #[vb, .int (kf i) tb] c) := eb S _ hSI nS
    show wpAny _ X.A.in1 (updateSeq S (fun _ => #[]) >>= _) _ _ _
    refine wpAny_bind ?_
    refine wpAny_updateSeq hS' rfl (wpAny_bind (wpAny_letGo (wpAny_pure ?_)))
    exact hR i v vb _ hv rv (fun j' hj' => hbest j' (by omega)) (J1.turnedAt (t' := s.toks) fS fun b o hb e => (Heap.get?_update_other _ _ (Ne.symm hb)).trans e)
  | succ r ih =>
    intro j i s v vb tb c hr' hj J nS hit hv rv hij hbest
    have hlt : j + 1 < us.length := by omega
    obtain ⟨its, rvs, p, hz⟩ := J.tuple hS
    have hx : us[j + 1]? = some us[j + 1] := List.getElem?_eq_getElem hlt
    obtain ⟨u, hu, ru⟩ := rvs.get hx
    refine codeAny_builtin PySem.F.entry_min_loop ?_
    rw [Around.under_plainId PySem.F.plain_min_loop _]
    show wpAny _ X.A.in1 (seqItems? (.ref S) >>= _) _ _ _
    refine wpAny_bind (wpAny_seqItems nS rfl ?_)
    show wpAny _ X.A.in1 (tryCatch (pyNext (.ref I)) _ >>= _) _ _ _
    refine wpAny_bind (wpAny_tryCatch (wpAny_pyNext_tuple_item hit (show s.heap.IsTuple l its.toArray from p) (x := u) (by simpa using hu) fun h' st' sb => ?_))
    have J1 : Inv X pins σ H { s with heap := h' } := J.turnedAt (t' := s.toks) fI fun b o hb e => (sb.2 b hb).trans e
    have hS' : h'.get? S = some (seqObj "list" #[vb, .int (kf i) tb] c) := (sb.2 S hSI).trans nS
    obtain ⟨oI, hoI, hoc, hod⟩ := id st'
    have J2 := J1.pin2 (s := { s with heap := h' }) fS fI hS' hoI (fun v z => by cases z) (fun v z => by rw [hod] at z; cases z)
    show wpAny _ X.A.in1 (tryCatch (holding [u] (call (.ref f) [u])) _ >>= _) _ _ _
    refine wpAny_bind (wpAny_tryCatch (wpAny_holding (wpAny_mono (run_in1 (E1 := fun _ _ => False) F hr hb J2 (.cons ru .nil) (turn (j + 1) _ hx (fun v H' => v = .int (kf (j + 1)) ∧ H' = H) ⟨rfl, rfl⟩)) (fun x s'' he => ?_) fun _ _ hF => hF.elim)))
    obtain ⟨v2, H2, J3, r2, e2, e3⟩ := he
    subst e2 e3
    obtain ⟨t2, rfl⟩ := r2
    obtain ⟨nS2, nI2, J4⟩ := J3.unpin2
    have hit2 : s''.heap.IsTupleIter I l (j + 1 + 1) := ⟨oI, nI2, hoc, hod⟩
    show wpAny _ X.A.in1 (tryCatch (holding [u, .int (kf (j + 1)) t2] (richCompare .Lt (.int (kf (j + 1)) t2) (.int (kf i) tb) >>= _)) _ >>= _) _ _ _
    refine wpAny_bind (wpAny_tryCatch (wpAny_holding (wpAny_bind (CmpOf.ints_lt (prog := X.prog) (w := X.w) (A := X.A.in1) (P := fun i v => ∃ t, v = .int (kf i) t) kf (fun i v h => h) (j + 1) i _ _ _ _ _ ⟨t2, rfl⟩ ⟨tb, rfl⟩ ?_))))
    refine wpAny_bind (wpAny_holding (wpAny_truthy_bool ?_))
    refine wpAny_bind (wpAny_letGo (wpAny_pure ?_))
    by_cases hb' : kf (j + 1) < kf i
    · obtain ⟨c2, hc2⟩ : ∃ c2, (s''.heap.update S (Obj.mapSeq fun _ => #[u, .int (kf (j + 1)) t2])).get? S = some (seqObj "list" #[u, .int (kf (j + 1)) t2] c2) := ⟨_, get?_update_seq nS2 fun _ => #[u, .int (kf (j + 1)) t2]⟩
      simp only [hb', decide_true, if_true]
      refine wpAny_bind ?_
      refine wpAny_updateSeq nS2 rfl (wpAny_bind (wpAny_letGo ?_))
      rw [hname]
      refine wpAny_pure ⟨plainId_quiet PySem.F.plain_min_loop _, ih (j + 1) (j + 1) _ _ u t2 c2 (by omega) hlt (J4.turnedAt (t' := s''.toks) fS fun b o hb e => (Heap.get?_update_other _ _ (Ne.symm hb)).trans e) hc2 ⟨oI, (Heap.get?_update_other _ _ hSI).trans nI2, hoc, hod⟩ hx ru (Nat.le_refl _) fun j' hj' => ?_⟩
      by_cases e : j' = j + 1
      · subst e
        exact ⟨by omega, fun _ => by omega⟩
      · have hb1 := hbest j' (by omega)
        have hb2 := hb1.1
        exact ⟨by omega, fun _ => by omega⟩
    · simp only [hb', decide_false, Bool.false_eq_true, if_false]
      refine wpAny_bind (wpAny_letGo ?_)
      rw [hname]
      refine wpAny_pure ⟨plainId_quiet PySem.F.plain_min_loop _, ih (j + 1) i _ v vb tb c (by omega) hlt J4 nS2 hit2 hv rv (by omega) fun j' hj' => ?_⟩
      by_cases e : j' = j + 1
      · subst e
        exact ⟨by omega, fun _ => by omega⟩
      · exact hbest j' (by omega)
theorem call_min_keyT {pins : List (Addr × Obj)} {σ : St} {H : Hp} {s : Shared} {Q : VK} {E1 : Value → Shared → Prop} (hc : X.calm = true) (F : FnOk X.prog X.w X.K X.mg X.base CX0 k f fd ps sp) (hr : Room k X.A.in1) (hb : Binds X.K fd ps []) {l : Addr} {us : List V} (kf : Nat → Int) (J : Inv X pins σ H s) (hS : SqT X.K H l us) (hne : us ≠ [])
    (turn : ∀ i v, us[i]? = some v → ∀ Q : VK, Q (.int (kf i)) H → sp [v] H Q E0) (hQ : ∀ i v, us[i]? = some v → (∀ j, j < us.length → kf i ≤ kf j ∧ (j < i → kf i < kf j)) → Q v H) :
    wpAny (model X.prog X.w) X.A (call (.builtin "min") [.ref l] [(Str.ofString "key", .ref f)]) (EP X pins σ Q) E1 s := by
  have hname : (toString "min" ++ toString ".loop" : String) = "min.loop" := by decide
  have hpos : 0 < us.length := List.length_pos_iff.mpr hne
  obtain ⟨its, rvs, p, hz⟩ := J.tuple hS
  have hls : s.heap.IsTuple l its.toArray := p
  refine kmk_tree PySem.F.kind_min PySem.F.plain_min PySem.F.entry_min (kmk_min_key _ _) ?_
  show wpAny _ X.A.in1 (Builtin.Builtins.bindParams "min" ["key", "default"] 0 ⟨[], [(Str.ofString "key", .ref f)]⟩ >>= _) _ _ s
  refine wpAny_bind (wpAny_of_eq (show Builtin.Builtins.bindParams "min" ["key", "default"] 0 ⟨[], [(Str.ofString "key", .ref f)]⟩ = pure [some (.ref f), none] from rfl) ?_)
  refine wpAny_bind (wpAny_pure ?_)
  refine wpAny_bind (wpAny_pyIter_tuple hls ?_)
  refine wpAny_bind (wpAny_newList ?_ (Nat.zero_le _))
  rw [hname]
  refine wpAny_pure ⟨plainId_quiet PySem.F.plain_min_loop _, ?_⟩
  generalize hO : ({ cls := .type "tuple_iterator", data := .fields #[.ref l, .int 0 0] } : Obj) = O
  have hSs : (s.heap.push O).objs.size = s.heap.objs.size + 1 := size_push' ..
  have hSI : (s.heap.push O).objs.size ≠ s.heap.objs.size := by rw [hSs]; exact Nat.ne_of_gt (Nat.lt_succ_self _)
  have gI : ((s.heap.push O).push (seqObj "list" #[] 0)).get? s.heap.objs.size = some O := Heap.get?_push_of_some _ (Heap.get?_push_size _ (by rw [← hO]; rfl))
  have gS : ((s.heap.push O).push (seqObj "list" #[] 0)).get? (s.heap.push O).objs.size = some (seqObj "list" #[] 0) := Heap.get?_push_size _ rfl
  have fI : FpOk X pins H s.heap.objs.size := J.fpOk (Nat.le_refl _) (J.hok.fresh (Nat.le_refl _))
  have fS : FpOk X pins H (s.heap.push O).objs.size := J.fpOk (by rw [hSs]; exact Nat.le_succ _) (J.hok.fresh (by rw [hSs]; exact Nat.le_succ _))
  have J0 : Inv X pins σ H { s with heap := (s.heap.push O).push (seqObj "list" #[] 0) } := J.kept (t' := s.toks) fun b o e => Heap.get?_push_of_some _ (Heap.get?_push_of_some _ e)
  obtain ⟨its0, rvs0, p0, hz0⟩ := J0.tuple hS
  have hx : us[0]? = some us[0] := List.getElem?_eq_getElem hpos
  obtain ⟨u, hu, ru⟩ := rvs0.get hx
  refine codeAny_builtin PySem.F.entry_min_loop ?_
  rw [Around.under_plainId PySem.F.plain_min_loop _]
  show wpAny _ X.A.in1 (seqItems? (.ref _) >>= _) _ _ _
  refine wpAny_bind (wpAny_seqItems gS rfl ?_)
  show wpAny _ X.A.in1 (tryCatch (pyNext (.ref s.heap.objs.size)) _ >>= _) _ _ _
  refine wpAny_bind (wpAny_tryCatch (wpAny_pyNext_tuple_item (s := { s with heap := (s.heap.push O).push (seqObj "list" #[] 0) }) (i := 0) ⟨O, gI, by rw [← hO], by rw [← hO]; rfl⟩ (show ((s.heap.push O).push (seqObj "list" #[] 0)).IsTuple l its0.toArray from p0) (x := u) (by simpa using hu) fun h' st' sb => ?_))
  have J1 : Inv X pins σ H { s with heap := h' } := J0.turnedAt (t' := s.toks) fI fun b o hb e => (sb.2 b hb).trans e
  have hS' : h'.get? (s.heap.push O).objs.size = some (seqObj "list" #[] 0) := (sb.2 _ hSI).trans gS
  obtain ⟨oI, hoI, hoc, hod⟩ := id st'
  have J2 := J1.pin2 (s := { s with heap := h' }) fS fI hS' hoI (fun v z => by cases z) (fun v z => by rw [hod] at z; cases z)
  show wpAny _ X.A.in1 (tryCatch (holding [u] (call (.ref f) [u])) _ >>= _) _ _ _
  refine wpAny_bind (wpAny_tryCatch (wpAny_holding (wpAny_mono (run_in1 (E1 := fun _ _ => False) F hr hb J2 (.cons ru .nil) (turn 0 _ hx (fun v H' => v = .int (kf 0) ∧ H' = H) ⟨rfl, rfl⟩)) (fun x s'' he => ?_) fun _ _ hF => hF.elim)))
  obtain ⟨v2, H2, J3, r2, e2, e3⟩ := he
  subst e2 e3
  obtain ⟨t2, rfl⟩ := r2
  obtain ⟨nS2, nI2, J4⟩ := J3.unpin2
  obtain ⟨c2, hc2⟩ : ∃ c2, (s''.heap.update (s.heap.push O).objs.size (Obj.mapSeq fun _ => #[u, .int (kf 0) t2])).get? (s.heap.push O).objs.size = some (seqObj "list" #[u, .int (kf 0) t2] c2) := ⟨_, get?_update_seq nS2 fun _ => #[u, .int (kf 0) t2]⟩
  show wpAny _ X.A.in1 (updateSeq (s.heap.push O).objs.size (fun _ => #[u, .int (kf 0) t2]) >>= _) _ _ _
  refine wpAny_bind ?_
  refine wpAny_updateSeq nS2 rfl ?_
  rw [hname]
  refine wpAny_pure ⟨plainId_quiet PySem.F.plain_min_loop _, min_key_loopT hc F hr hb kf hSI hS fI fS turn (fun i v u s' hv rv hbest J' => ⟨v, _, J', rv, hQ i v hv hbest⟩) _ 0 0 _ _ u t2 c2 rfl hpos (J4.turnedAt (t' := s''.toks) fS fun b o hb e => (Heap.get?_update_other _ _ (Ne.symm hb)).trans e) hc2 ⟨oI, (Heap.get?_update_other _ _ hSI).trans nI2, hoc, hod⟩ hx ru (Nat.le_refl _) fun j' hj' => ?_⟩
  have e : j' = 0 := by omega
  subst e
  exact ⟨by omega, fun h => absurd h (Nat.lt_irrefl _)⟩
def rMinKeyT (K : PySem.W.Frag) (sp : Sp) (vs : List V) (H : Hp) (Q : VK) : Prop := ∃ (l : Addr) (us : List V) (kf : Nat → Int), vs = [.ref l] ∧ SqT K H l us ∧ us ≠ [] ∧ (∀ i v, us[i]? = some v → ∀ Q : VK, Q (.int (kf i)) H → sp [v] H Q E0) ∧
  ∀ i v, us[i]? = some v → (∀ j, j < us.length → kf i ≤ kf j ∧ (j < i → kf i < kf j)) → Q v H
def tMinKeyT (K : PySem.W.Frag) (sp : Sp) (t : TA) : TE := fun σ H Q => t σ H fun vs H1 => rMinKeyT K sp vs H1 Q
theorem ke_minkeyT {x : Str} {e : Expr} {t : TA} {p kp kpos pos : Pos} (K : PySem.W.Frag) (hK : X.K = K) (hc : X.calm = true) (F : FnOk X.prog X.w X.K X.mg X.base CX0 k f fd ps sp) (hr : Room (k + 1) X.A) (hgm : Gl X "min") (hmm : X.mg "min" = none) (hg : Gl X x) (hm : X.mg x = some (.ref f)) (hb : Binds X.K fd ps []) (ha : QA X [e] t)
    (hs : isStar e = false := by rfl) (hd : (x == ("__debug__" : Str)) = false := by decide) : QE X (.Call (.Name "min" p) [e] [⟨some "key", .Name x kp, kpos⟩] pos) (tMinKeyT K sp t) := by
  subst hK
  refine ⟨?_⟩
  intro pins s σ H Q I h
  refine wpAny_Call_Name_kw (ld_blt I hgm hmm bt_min ?_ (by decide) (by decide))
  have hse := star_cons (e := e) (es := []) (env := X.env) hs
  refine PyProof.Rows.callWith_kw (thn (ha.h pos pins s σ H _ I h) fun us s1 ⟨vs, H1, I1, r1, q1⟩ => PyProof.Rows.kws_cons (ld_glob I1 hg hm (PyProof.Rows.kws_nil ?_) hd)) (by rw [hse]; rfl) (by rw [hse]; rfl)
  obtain ⟨l, ws, kf, e1, g1, g2, g3, g4⟩ := q1
  subst e1
  obtain ⟨u, rfl, ru⟩ := r1.one
  cases ru
  exact call_min_keyT hc F hr.in1 hb kf I1 g1 g2 g3 g4
theorem rd_minkeyT {K : PySem.W.Frag} {H : Hp} {Q : VK} {sp : Sp} {l : Addr} {us : List V} (kf : Nat → Int) (h1 : SqT K H l us) (h2 : us ≠ []) (h3 : ∀ i v, us[i]? = some v → ∀ Q : VK, Q (.int (kf i)) H → sp [v] H Q E0)
    (h : ∀ i v, us[i]? = some v → (∀ j, j < us.length → kf i ≤ kf j ∧ (j < i → kf i < kf j)) → Q v H) : rMinKeyT K sp [.ref l] H Q := ⟨l, us, kf, rfl, h1, h2, h3, h⟩
theorem rd_minkeyT0 {K : PySem.W.Frag} {sp : Sp} {t : TA} {σ : St} {H : Hp} {Q : VK} (h : t σ H fun vs H1 => rMinKeyT K sp vs H1 Q) : tMinKeyT K sp t σ H Q := h
def rMaxKeyL (K : PySem.W.Frag) (sp : Sp) (vs : List V) (H : Hp) (Q : VK) : Prop := ∃ (l : Addr) (us : List V) (kf : Nat → Int), vs = [.ref l] ∧ SqL K H l us ∧ us ≠ [] ∧ (∀ i v, us[i]? = some v → ∀ Q : VK, Q (.int (kf i)) H → sp [v] H Q E0) ∧
  ∀ i v, us[i]? = some v → (∀ j, j < us.length → kf i ≥ kf j ∧ (j < i → kf i > kf j)) → Q v H
def tMaxKeyL (K : PySem.W.Frag) (sp : Sp) (t : TA) : TE := fun σ H Q => t σ H fun vs H1 => rMaxKeyL K sp vs H1 Q
theorem rd_maxkeyL0 {K : PySem.W.Frag} {sp : Sp} {t : TA} {σ : St} {H : Hp} {Q : VK} (h : t σ H fun vs H1 => rMaxKeyL K sp vs H1 Q) : tMaxKeyL K sp t σ H Q := h
theorem max_key_loopT {pins : List (Addr × Obj)} {σ : St} {H : Hp} (hc : X.calm = true) (F : FnOk X.prog X.w X.K X.mg X.base CX0 k f fd ps sp) (hr : Room k X.A.in1) (hb : Binds X.K fd ps []) {l I S : Addr} {us : List V} (kf : Nat → Int) (hSI : S ≠ I) (hS : SqT X.K H l us)
    (fI : FpOk X pins H I) (fS : FpOk X pins H S) (turn : ∀ i v, us[i]? = some v → ∀ Q : VK, Q (.int (kf i)) H → sp [v] H Q E0) {R : Result → Shared → Prop}
    (hR : ∀ i v u s', us[i]? = some v → RelV v u → (∀ j, j < us.length → kf i ≥ kf j ∧ (j < i → kf i > kf j)) → Inv X pins σ H s' → R (.ok (.ret u)) s') :
    ∀ (r j i : Nat) (s : Shared) (v : V) (vb : Value) (tb : Tok) (c : Nat), us.length - (j + 1) = r → j + 1 ≤ us.length → Inv X pins σ H s → s.heap.get? S = some (seqObj "list" #[vb, .int (kf i) tb] c) → s.heap.IsTupleIter I l (j + 1) →
      us[i]? = some v → RelV v vb → i ≤ j → (∀ j', j' ≤ j → kf i ≥ kf j' ∧ (j' < i → kf i > kf j')) →
      codeAny (model X.prog X.w) X.A (.builtin "max.loop" ⟨[.ref I, .ref f, .ref S], []⟩) R s := by
  have hname : (toString "max" ++ toString ".loop" : String) = "max.loop" := by decide
  intro r
  induction r with
  | zero =>
    intro j i s v vb tb c hr' hj J nS hit hv rv hij hbest
    have hin : j + 1 = us.length := by omega
    obtain ⟨its, rvs, p, hz⟩ := J.tuple hS
    have hl := rvs.length
    refine codeAny_builtin PySem.F.entry_max_loop ?_
    rw [Around.under_plainId PySem.F.plain_max_loop _]
    show wpAny _ X.A.in1 (seqItems? (.ref S) >>= _) _ _ _
    refine wpAny_bind (wpAny_seqItems nS rfl ?_)
    show wpAny _ X.A.in1 (tryCatch (pyNext (.ref I)) _ >>= _) _ _ _
    refine wpAny_bind (wpAny_tryCatch (wpAny_pyNext_tuple_end (J.ok.hd hc) hit (show s.heap.IsTuple l its.toArray from p) (by simp; omega) fun h' eb => ?_))
    have J1 : Inv X pins σ H { s with heap := h' } := J.turnedAt (t' := s.toks) fI fun b o hb e => eb b o hb e
    have hS' : h'.get? S = some (seqObj "list" #[vb, .int (kf i) tb] c) := eb S _ hSI nS
    show wpAny _ X.A.in1 (updateSeq S (fun _ => #[]) >>= _) _ _ _
    refine wpAny_bind ?_
    refine wpAny_updateSeq hS' rfl (wpAny_bind (wpAny_letGo (wpAny_pure ?_)))
    exact hR i v vb _ hv rv (fun j' hj' => hbest j' (by omega)) (J1.turnedAt (t' := s.toks) fS fun b o hb e => (Heap.get?_update_other _ _ (Ne.symm hb)).trans e)
  | succ r ih =>
    intro j i s v vb tb c hr' hj J nS hit hv rv hij hbest
    have hlt : j + 1 < us.length := by omega
    obtain ⟨its, rvs, p, hz⟩ := J.tuple hS
    have hx : us[j + 1]? = some us[j + 1] := List.getElem?_eq_getElem hlt
    obtain ⟨u, hu, ru⟩ := rvs.get hx
    refine codeAny_builtin PySem.F.entry_max_loop ?_
    rw [Around.under_plainId PySem.F.plain_max_loop _]
    show wpAny _ X.A.in1 (seqItems? (.ref S) >>= _) _ _ _
    refine wpAny_bind (wpAny_seqItems nS rfl ?_)
    show wpAny _ X.A.in1 (tryCatch (pyNext (.ref I)) _ >>= _) _ _ _
    refine wpAny_bind (wpAny_tryCatch (wpAny_pyNext_tuple_item hit (show s.heap.IsTuple l its.toArray from p) (x := u) (by simpa using hu) fun h' st' sb => ?_))
    have J1 : Inv X pins σ H { s with heap := h' } := J.turnedAt (t' := s.toks) fI fun b o hb e => (sb.2 b hb).trans e
    have hS' : h'.get? S = some (seqObj "list" #[vb, .int (kf i) tb] c) := (sb.2 S hSI).trans nS
    obtain ⟨oI, hoI, hoc, hod⟩ := id st'
    have J2 := J1.pin2 (s := { s with heap := h' }) fS fI hS' hoI (fun v z => by cases z) (fun v z => by rw [hod] at z; cases z)
    show wpAny _ X.A.in1 (tryCatch (holding [u] (call (.ref f) [u])) _ >>= _) _ _ _
    refine wpAny_bind (wpAny_tryCatch (wpAny_holding (wpAny_mono (run_in1 (E1 := fun _ _ => False) F hr hb J2 (.cons ru .nil) (turn (j + 1) _ hx (fun v H' => v = .int (kf (j + 1)) ∧ H' = H) ⟨rfl, rfl⟩)) (fun x s'' he => ?_) fun _ _ hF => hF.elim)))
    obtain ⟨v2, H2, J3, r2, e2, e3⟩ := he
    subst e2 e3
    obtain ⟨t2, rfl⟩ := r2
    obtain ⟨nS2, nI2, J4⟩ := J3.unpin2
    have hit2 : s''.heap.IsTupleIter I l (j + 1 + 1) := ⟨oI, nI2, hoc, hod⟩
    show wpAny _ X.A.in1 (tryCatch (holding [u, .int (kf (j + 1)) t2] (richCompare .Gt (.int (kf (j + 1)) t2) (.int (kf i) tb) >>= _)) _ >>= _) _ _ _
    refine wpAny_bind (wpAny_tryCatch (wpAny_holding (wpAny_bind (CmpOf.ints_gt (prog := X.prog) (w := X.w) (A := X.A.in1) (P := fun i v => ∃ t, v = .int (kf i) t) kf (fun i v h => h) (j + 1) i _ _ _ _ _ ⟨t2, rfl⟩ ⟨tb, rfl⟩ ?_))))
    refine wpAny_bind (wpAny_holding (wpAny_truthy_bool ?_))
    refine wpAny_bind (wpAny_letGo (wpAny_pure ?_))
    by_cases hb' : kf (j + 1) > kf i
    · obtain ⟨c2, hc2⟩ : ∃ c2, (s''.heap.update S (Obj.mapSeq fun _ => #[u, .int (kf (j + 1)) t2])).get? S = some (seqObj "list" #[u, .int (kf (j + 1)) t2] c2) := ⟨_, get?_update_seq nS2 fun _ => #[u, .int (kf (j + 1)) t2]⟩
      simp only [hb', decide_true, if_true]
      refine wpAny_bind ?_
      refine wpAny_updateSeq nS2 rfl (wpAny_bind (wpAny_letGo ?_))
      rw [hname]
      refine wpAny_pure ⟨plainId_quiet PySem.F.plain_max_loop _, ih (j + 1) (j + 1) _ _ u t2 c2 (by omega) hlt (J4.turnedAt (t' := s''.toks) fS fun b o hb e => (Heap.get?_update_other _ _ (Ne.symm hb)).trans e) hc2 ⟨oI, (Heap.get?_update_other _ _ hSI).trans nI2, hoc, hod⟩ hx ru (Nat.le_refl _) fun j' hj' => ?_⟩
      by_cases e : j' = j + 1
      · subst e
        exact ⟨by omega, fun _ => by omega⟩
      · have hb1 := hbest j' (by omega)
        have hb2 := hb1.1
        exact ⟨by omega, fun _ => by omega⟩
    · simp only [hb', decide_false, Bool.false_eq_true, if_false]
      refine wpAny_bind (wpAny_letGo ?_)
      rw [hname]
      refine wpAny_pure ⟨plainId_quiet PySem.F.plain_max_loop _, ih (j + 1) i _ v vb tb c (by omega) hlt J4 nS2 hit2 hv rv (by omega) fun j' hj' => ?_⟩
      by_cases e : j' = j + 1
      · subst e
        exact ⟨by omega, fun _ => by omega⟩
      · exact hbest j' (by omega)
theorem call_max_keyT {pins : List (Addr × Obj)} {σ : St} {H : Hp} {s : Shared} {Q : VK} {E1 : Value → Shared → Prop} (hc : X.calm = true) (F : FnOk X.prog X.w X.K X.mg X.base CX0 k f fd ps sp) (hr : Room k X.A.in1) (hb : Binds X.K fd ps []) {l : Addr} {us : List V} (kf : Nat → Int) (J : Inv X pins σ H s) (hS : SqT X.K H l us) (hne : us ≠ [])
    (turn : ∀ i v, us[i]? = some v → ∀ Q : VK, Q (.int (kf i)) H → sp [v] H Q E0) (hQ : ∀ i v, us[i]? = some v → (∀ j, j < us.length → kf i ≥ kf j ∧ (j < i → kf i > kf j)) → Q v H) :
    wpAny (model X.prog X.w) X.A (call (.builtin "max") [.ref l] [(Str.ofString "key", .ref f)]) (EP X pins σ Q) E1 s := by
  have hname : (toString "max" ++ toString ".loop" : String) = "max.loop" := by decide
  have hpos : 0 < us.length := List.length_pos_iff.mpr hne
  obtain ⟨its, rvs, p, hz⟩ := J.tuple hS
  have hls : s.heap.IsTuple l its.toArray := p
  refine kmk_tree PySem.F.kind_max PySem.F.plain_max PySem.F.entry_max (kmk_max_key _ _) ?_
  show wpAny _ X.A.in1 (Builtin.Builtins.bindParams "max" ["key", "default"] 0 ⟨[], [(Str.ofString "key", .ref f)]⟩ >>= _) _ _ s
  refine wpAny_bind (wpAny_of_eq (show Builtin.Builtins.bindParams "max" ["key", "default"] 0 ⟨[], [(Str.ofString "key", .ref f)]⟩ = pure [some (.ref f), none] from rfl) ?_)
  refine wpAny_bind (wpAny_pure ?_)
  refine wpAny_bind (wpAny_pyIter_tuple hls ?_)
  refine wpAny_bind (wpAny_newList ?_ (Nat.zero_le _))
  rw [hname]
  refine wpAny_pure ⟨plainId_quiet PySem.F.plain_max_loop _, ?_⟩
  generalize hO : ({ cls := .type "tuple_iterator", data := .fields #[.ref l, .int 0 0] } : Obj) = O
  have hSs : (s.heap.push O).objs.size = s.heap.objs.size + 1 := size_push' ..
  have hSI : (s.heap.push O).objs.size ≠ s.heap.objs.size := by rw [hSs]; exact Nat.ne_of_gt (Nat.lt_succ_self _)
  have gI : ((s.heap.push O).push (seqObj "list" #[] 0)).get? s.heap.objs.size = some O := Heap.get?_push_of_some _ (Heap.get?_push_size _ (by rw [← hO]; rfl))
  have gS : ((s.heap.push O).push (seqObj "list" #[] 0)).get? (s.heap.push O).objs.size = some (seqObj "list" #[] 0) := Heap.get?_push_size _ rfl
  have fI : FpOk X pins H s.heap.objs.size := J.fpOk (Nat.le_refl _) (J.hok.fresh (Nat.le_refl _))
  have fS : FpOk X pins H (s.heap.push O).objs.size := J.fpOk (by rw [hSs]; exact Nat.le_succ _) (J.hok.fresh (by rw [hSs]; exact Nat.le_succ _))
  have J0 : Inv X pins σ H { s with heap := (s.heap.push O).push (seqObj "list" #[] 0) } := J.kept (t' := s.toks) fun b o e => Heap.get?_push_of_some _ (Heap.get?_push_of_some _ e)
  obtain ⟨its0, rvs0, p0, hz0⟩ := J0.tuple hS
  have hx : us[0]? = some us[0] := List.getElem?_eq_getElem hpos
  obtain ⟨u, hu, ru⟩ := rvs0.get hx
  refine codeAny_builtin PySem.F.entry_max_loop ?_
  rw [Around.under_plainId PySem.F.plain_max_loop _]
  show wpAny _ X.A.in1 (seqItems? (.ref _) >>= _) _ _ _
  refine wpAny_bind (wpAny_seqItems gS rfl ?_)
  show wpAny _ X.A.in1 (tryCatch (pyNext (.ref s.heap.objs.size)) _ >>= _) _ _ _
  refine wpAny_bind (wpAny_tryCatch (wpAny_pyNext_tuple_item (s := { s with heap := (s.heap.push O).push (seqObj "list" #[] 0) }) (i := 0) ⟨O, gI, by rw [← hO], by rw [← hO]; rfl⟩ (show ((s.heap.push O).push (seqObj "list" #[] 0)).IsTuple l its0.toArray from p0) (x := u) (by simpa using hu) fun h' st' sb => ?_))
  have J1 : Inv X pins σ H { s with heap := h' } := J0.turnedAt (t' := s.toks) fI fun b o hb e => (sb.2 b hb).trans e
  have hS' : h'.get? (s.heap.push O).objs.size = some (seqObj "list" #[] 0) := (sb.2 _ hSI).trans gS
  obtain ⟨oI, hoI, hoc, hod⟩ := id st'
  have J2 := J1.pin2 (s := { s with heap := h' }) fS fI hS' hoI (fun v z => by cases z) (fun v z => by rw [hod] at z; cases z)
  show wpAny _ X.A.in1 (tryCatch (holding [u] (call (.ref f) [u])) _ >>= _) _ _ _
  refine wpAny_bind (wpAny_tryCatch (wpAny_holding (wpAny_mono (run_in1 (E1 := fun _ _ => False) F hr hb J2 (.cons ru .nil) (turn 0 _ hx (fun v H' => v = .int (kf 0) ∧ H' = H) ⟨rfl, rfl⟩)) (fun x s'' he => ?_) fun _ _ hF => hF.elim)))
  obtain ⟨v2, H2, J3, r2, e2, e3⟩ := he
  subst e2 e3
  obtain ⟨t2, rfl⟩ := r2
  obtain ⟨nS2, nI2, J4⟩ := J3.unpin2
  obtain ⟨c2, hc2⟩ : ∃ c2, (s''.heap.update (s.heap.push O).objs.size (Obj.mapSeq fun _ => #[u, .int (kf 0) t2])).get? (s.heap.push O).objs.size = some (seqObj "list" #[u, .int (kf 0) t2] c2) := ⟨_, get?_update_seq nS2 fun _ => #[u, .int (kf 0) t2]⟩
  show wpAny _ X.A.in1 (updateSeq (s.heap.push O).objs.size (fun _ => #[u, .int (kf 0) t2]) >>= _) _ _ _
  refine wpAny_bind ?_
  refine wpAny_updateSeq nS2 rfl ?_
  rw [hname]
  refine wpAny_pure ⟨plainId_quiet PySem.F.plain_max_loop _, max_key_loopT hc F hr hb kf hSI hS fI fS turn (fun i v u s' hv rv hbest J' => ⟨v, _, J', rv, hQ i v hv hbest⟩) _ 0 0 _ _ u t2 c2 rfl hpos (J4.turnedAt (t' := s''.toks) fS fun b o hb e => (Heap.get?_update_other _ _ (Ne.symm hb)).trans e) hc2 ⟨oI, (Heap.get?_update_other _ _ hSI).trans nI2, hoc, hod⟩ hx ru (Nat.le_refl _) fun j' hj' => ?_⟩
  have e : j' = 0 := by omega
  subst e
  exact ⟨by omega, fun h => absurd h (Nat.lt_irrefl _)⟩
def rMaxKeyT (K : PySem.W.Frag) (sp : Sp) (vs : List V) (H : Hp) (Q : VK) : Prop := ∃ (l : Addr) (us : List V) (kf : Nat → Int), vs = [.ref l] ∧ SqT K H l us ∧ us ≠ [] ∧ (∀ i v, us[i]? = some v → ∀ Q : VK, Q (.int (kf i)) H → sp [v] H Q E0) ∧
  ∀ i v, us[i]? = some v → (∀ j, j < us.length → kf i ≥ kf j ∧ (j < i → kf i > kf j)) → Q v H
def tMaxKeyT (K : PySem.W.Frag) (sp : Sp) (t : TA) : TE := fun σ H Q => t σ H fun vs H1 => rMaxKeyT K sp vs H1 Q
theorem ke_maxkeyT {x : Str} {e : Expr} {t : TA} {p kp kpos pos : Pos} (K : PySem.W.Frag) (hK : X.K = K) (hc : X.calm = true) (F : FnOk X.prog X.w X.K X.mg X.base CX0 k f fd ps sp) (hr : Room (k + 1) X.A) (hgm : Gl X "max") (hmm : X.mg "max" = none) (hg : Gl X x) (hm : X.mg x = some (.ref f)) (hb : Binds X.K fd ps []) (ha : QA X [e] t)
    (hs : isStar e = false := by rfl) (hd : (x == ("__debug__" : Str)) = false := by decide) : QE X (.Call (.Name "max" p) [e] [⟨some "key", .Name x kp, kpos⟩] pos) (tMaxKeyT K sp t) := by
  subst hK
  refine ⟨?_⟩
  intro pins s σ H Q I h
  refine wpAny_Call_Name_kw (ld_blt I hgm hmm bt_max ?_ (by decide) (by decide))
  have hse := star_cons (e := e) (es := []) (env := X.env) hs
  refine PyProof.Rows.callWith_kw (thn (ha.h pos pins s σ H _ I h) fun us s1 ⟨vs, H1, I1, r1, q1⟩ => PyProof.Rows.kws_cons (ld_glob I1 hg hm (PyProof.Rows.kws_nil ?_) hd)) (by rw [hse]; rfl) (by rw [hse]; rfl)
  obtain ⟨l, ws, kf, e1, g1, g2, g3, g4⟩ := q1
  subst e1
  obtain ⟨u, rfl, ru⟩ := r1.one
  cases ru
  exact call_max_keyT hc F hr.in1 hb kf I1 g1 g2 g3 g4
theorem rd_maxkeyT {K : PySem.W.Frag} {H : Hp} {Q : VK} {sp : Sp} {l : Addr} {us : List V} (kf : Nat → Int) (h1 : SqT K H l us) (h2 : us ≠ []) (h3 : ∀ i v, us[i]? = some v → ∀ Q : VK, Q (.int (kf i)) H → sp [v] H Q E0)
    (h : ∀ i v, us[i]? = some v → (∀ j, j < us.length → kf i ≥ kf j ∧ (j < i → kf i > kf j)) → Q v H) : rMaxKeyT K sp [.ref l] H Q := ⟨l, us, kf, rfl, h1, h2, h3, h⟩
theorem rd_maxkeyT0 {K : PySem.W.Frag} {sp : Sp} {t : TA} {σ : St} {H : Hp} {Q : VK} (h : t σ H fun vs H1 => rMaxKeyT K sp vs H1 Q) : tMaxKeyT K sp t σ H Q := h
end
end L2
set_option Elab.async false
set_option linter.all false
set_option maxRecDepth 100000
set_option maxHeartbeats 4000000
namespace L2
open PySem PySem.Spec PyProof.Rows
section
variable {X : Cx}
end
end L2
set_option Elab.async false
set_option linter.all false
set_option maxRecDepth 100000
set_option maxHeartbeats 4000000
namespace L2
open PySem PySem.Spec PyProof.Rows
section
variable {prog : Program} {w : World} {A : Around} {E : Value → Shared → Prop}
end
section
variable {X : Cx}
def rDispT (p : Addr) (x y : V) (H2 : Hp) (Q : VK) : Prop := ∃ (b : Addr) (ks : List Key), x = .ref b ∧ H2 b = some (.tup (ks.map kV)) ∧ H2 p = some (.dT []) ∧ Q (.ref p) (upd H2 p (.dT [(ks, y)]))
def tDispT (tk tv : TE) : TE := fun σ H Q => ∀ p, H p = none → tk σ (upd H p (.dT [])) fun x H1 => tv σ H1 fun y H2 => rDispT p x y H2 Q
theorem rd_dispT0 {σ : St} {H : Hp} {Q : VK} {tk tv : TE} (h : ∀ p, H p = none → tk σ (upd H p (.dT [])) fun x H1 => tv σ H1 fun y H2 => rDispT p x y H2 Q) : tDispT tk tv σ H Q := h
end
end L2
set_option Elab.async false
set_option linter.all false
set_option maxRecDepth 100000
set_option maxHeartbeats 4000000
namespace L2
open PySem PySem.Spec PyProof.Rows PySem.W
section
variable {X : Cx} {o e value : Expr} {f m : Str} {pos pos' tpos apos : Pos} {ta tv : TE} {t : TA}
def rFld (K : PySem.W.Frag) (f : Str) (x : V) (H : Hp) (Q : VK) : Prop := ∃ a C dx fs v, x = .ref a ∧ H a = some (.ins C dx fs) ∧ Cls K C ∧ NoAttr K C f ∧ fs.lookup f = some v ∧ Q v H
def rSetF (K : PySem.W.Frag) (f : Str) (y x : V) (H : Hp) (R : Hp → Prop) : Prop := ∃ a C dx fs, x = .ref a ∧ H a = some (.ins C dx fs) ∧ Cls K C ∧ NoAttr K C f ∧ fs.length < 1000 ∧ R (upd H a (.ins C dx (putF f y fs)))
theorem ke_fld (K : PySem.W.Frag) (hK : X.K = K) (he : QE X e ta) (hb : attributeBase e f X.env (eval e X.env) = eval e X.env := by rfl) : QE X (.Attribute e f pos) (tFld K ta f) := by
  subst hK
  exact ⟨pe_fld he.h hb⟩
theorem ks_fld (K : PySem.W.Frag) (hK : X.K = K) (ho : QE X o ta) (hv : QE X value tv) (hs : isCompr value = false := by rfl) : QS X (.Assign [.Attribute o f pos'] value pos) (sFld K ta tv f) := by
  subst hK
  exact ⟨ps_fld ho.h hv.h (swaps_no hs)⟩
theorem ks_fldadd (K : PySem.W.Frag) (hK : X.K = K) (ho : QE X o ta) (hv : QE X value tv) : QS X (.AugAssign (.Attribute o f tpos) .Add value pos) (sFldAug K ta tv rAdd f) := by
  subst hK
  exact ⟨ps_fldaug ho.h hv.h in_add⟩
section
variable {CX : CXT} {k : Nat} {fa C : Addr} {fd : FuncData} {ps : List Str} {sp : Sp} {dvs : List V} {ds : List Value} {E : XK} {es : List Expr} {x : Str} {p : Pos}
theorem qe_meth {pl : Sem Bool} (he : QE X o ta) (c : Cls X.K C) (hm : Meth X.K C m fa) (F : FnOk X.prog X.w X.K X.mg X.base CX k fa fd ps sp) (hr : Room k X.A) (hb : Binds X.K fd ps ds) (hd : Vals dvs ds) (hx : Passes CX X E) (ha : QA X (e :: es) t) (hns : noStars (e :: es) = true := by rfl)
    (ht : eval (.Call (.Attribute o m apos) (e :: es) [] pos) X.env = (do
      let ov ← eval o X.env
      standAt apos.atName
      let (f, first) ← holding [ov] (getMethod ov m pl)
      callWith pos f first (backTo pos (starEach (e :: es) X.env)) (backToKw pos (keywordEach [] X.env))) := by rfl) :
    QE X (.Call (.Attribute o m apos) (e :: es) [] pos) (tMeth C m sp dvs E ta t) := ⟨pe_meth he.h c hm F hr hb hd hx ha.h (star_of hns) (star_any (star_tail hns)) ht⟩
theorem qe_meth0 {pl : Sem Bool} (he : QE X o ta) (c : Cls X.K C) (hm : Meth X.K C m fa) (F : FnOk X.prog X.w X.K X.mg X.base CX k fa fd ps sp) (hr : Room k X.A) (hb : Binds X.K fd ps ds) (hd : Vals dvs ds) (hx : Passes CX X E)
    (ht : eval (.Call (.Attribute o m apos) [] [] pos) X.env = (do
      let ov ← eval o X.env
      standAt apos.atName
      let (f, first) ← holding [ov] (getMethod ov m pl)
      callWith pos f first (backTo pos (starEach [] X.env)) (backToKw pos (keywordEach [] X.env))) := by rfl) :
    QE X (.Call (.Attribute o m apos) [] [] pos) (tMeth C m sp dvs E ta tNil) := ⟨pe_meth0 he.h c hm F hr hb hd hx ht⟩
theorem qe_make (M : Mk X.K C fa) (F : FnOk X.prog X.w X.K X.mg X.base CX k fa fd ps sp) (hr : Room (k + 1) X.A) (hg : Gl X x) (hm : X.mg x = some (.ref C)) (hb : Binds X.K fd ps ds) (hd : Vals dvs ds) (hx : Passes CX X E) (ha : QA X (e :: es) t)
    (hns : noStars (e :: es) = true := by rfl) (hdb : (x == ("__debug__" : Str)) = false := by decide) : QE X (.Call (.Name x p) (e :: es) [] pos) (tMake C sp dvs E t) := ⟨pe_make M F hr hg hm hb hd hx ha.h hdb (star_of hns) (star_any (star_tail hns))⟩
end
end
section
variable {K : PySem.W.Frag} {σ : St} {H : Hp} {Q : VK} {D : Ends} {f m : Str} {ta tv : TE} {t : TA} {C : Addr} {sp : Sp} {dvs : List V} {E : XK}
theorem rd_fld0 (h : ta σ H fun x H1 => rFld K f x H1 Q) : tFld K ta f σ H Q := h
theorem rd_fld {a dx : Addr} {fs : List (Str × V)} {v : V} (h1 : H a = some (.ins C dx fs)) (c : Cls K C) (n : NoAttr K C f) (l : fs.lookup f = some v) (q : Q v H) : rFld K f (.ref a) H Q := ⟨a, C, dx, fs, v, rfl, h1, c, n, l, q⟩
theorem rd_setF0 (h : tv σ H fun y H1 => ta σ H1 fun x H2 => rSetF K f y x H2 (D.nx σ)) : sFld K ta tv f D σ H := h
theorem rd_setF {a dx : Addr} {fs : List (Str × V)} {y : V} {R : Hp → Prop} (h1 : H a = some (.ins C dx fs)) (c : Cls K C) (n : NoAttr K C f) (l : fs.length < 1000) (q : ∀ H2, H2 a = some (.ins C dx (putF f y fs)) → Kp a H H2 → R H2) : rSetF K f y (.ref a) H R := ⟨a, C, dx, fs, rfl, h1, c, n, l, q _ upd_same Kp.upd⟩
def rFldAug (K : PySem.W.Frag) (f : Str) (tv : TE) (σ : St) (R : Hp → Prop) (x : V) (H : Hp) : Prop := ∃ a C dx fs v, x = .ref a ∧ H a = some (.ins C dx fs) ∧ Cls K C ∧ NoAttr K C f ∧ fs.lookup f = some v ∧
  tv σ H fun y H2 => rAdd v y H2 fun z H3 => ∃ dx' fs', H3 a = some (.ins C dx' fs') ∧ fs'.length < 1000 ∧ R (upd H3 a (.ins C dx' (putF f z fs')))
theorem rd_fldaug0 (h : ta σ H fun x H1 => rFldAug K f tv σ (D.nx σ) x H1) : sFldAug K ta tv rAdd f D σ H := h
def rMethO (C : Addr) (m : Str) (x : V) (H : Hp) (R : Prop) : Prop := ∃ a dx fs, x = .ref a ∧ H a = some (.ins C dx fs) ∧ fs.lookup m = none ∧ R
theorem rd_meth0 (h : ta σ H fun x H1 => rMethO C m x H1 (t σ H1 fun vs H2 => sp (x :: (vs ++ dvs)) H2 Q E)) : tMeth C m sp dvs E ta t σ H Q := h
theorem rd_methO {a dx : Addr} {fs : List (Str × V)} {R : Prop} (h1 : H a = some (.ins C dx fs)) (l : fs.lookup m = none) (q : R) : rMethO C m (.ref a) H R := ⟨a, dx, fs, rfl, h1, l, q⟩
def rMake (C : Addr) (sp : Sp) (dvs : List V) (E : XK) (vs : List V) (H : Hp) (Q : VK) : Prop := ∀ x dx, H x = none → H dx = none → dx ≠ x → sp (.ref x :: (vs ++ dvs)) (upd (upd H dx (.own x)) x (.ins C dx [])) (fun v H2 => v = .non ∧ Q (.ref x) H2) E
theorem rd_make0 (h : t σ H fun vs H1 => rMake C sp dvs E vs H1 Q) : tMake C sp dvs E t σ H Q := h
theorem rd_make {vs : List V} (h : ∀ x dx H2, H x = none → H2 x = some (.ins C dx []) → Same H H2 → sp (.ref x :: (vs ++ dvs)) H2 (fun v H3 => v = .non ∧ Q (.ref x) H3) E) : rMake C sp dvs E vs H Q := fun x dx hx hdx hne =>
  h x dx _ hx upd_same fun b o e => by rw [upd_ne (ne_of_none e hx), upd_ne (ne_of_none e hdx)]; exact e
end
structure FunD (K : PySem.W.Frag) (x qual : Str) (st : Stmt) (f : Addr) (fd : FuncData) : Prop where
  ex : ∃ (oc : Value) (od : Option Addr) (dV kV doc pm : Value) (an : Option Addr) (cdv ct : Value) (osl : Array (Option Value)),
    fd = PySem.W.fnOf x qual (defArgs st) (defBody st) (defScope st) dV kV doc pm an cdv ct ∧ K.lookup f = some ⟨oc, od, .func fd, osl⟩ ∧ PySem.W.codeIn K cdv qual = true
  kp : PySem.W.keepIn K (.ref f) = true
theorem FunD.ok {P : Program} {w : World} {K : PySem.W.Frag} {mg : Str → Option Value} {base : Heap} {x qual : Str} {st : Stmt} {f : Addr} {fd : FuncData} {N ps : List Str} {k : Nat} {sp : Sp} (F : FunD K x qual st f fd) (S : FnScope N ps (defScope st)) (len : ∀ vs H Q E, sp vs H Q E → vs.length = ps.length)
    (hbody : ∀ (cdv : Value) (A : Around) (outer : List Env) (s : Shared) (H : Hp) (vs : List V) (Q : VK) (E : XK), Room k (A.deeper (envOfC qual (defScope st) s.heap.objs.size f cdv)) → sp vs H Q E →
      ∃ t, PSs (cxOf CX0 P w K mg base N qual (defScope st) f cdv A outer s H E).nox (defBody st) t ∧ t { nx := fun _ H' => Q .non H', rt := Q } (start N vs) H) : FnOk P w K mg base CX0 (k + 1) f fd ps sp := by
  obtain ⟨oc, od, dV, kV, doc, pm, an, cdv, ct, osl, rfl, lk, hcd⟩ := F.ex
  refine fn_of lk hcd S len fun A outer s H vs Q E hr hsp => ?_
  obtain ⟨t, h, q⟩ := hbody cdv A outer s H vs Q E hr hsp
  exact ⟨t, h.nox, q⟩
section
variable {K : PySem.W.Frag} {σ : St} {H : Hp} {Q : VK} {f : Str} {tv td ty : TE} {C : Addr}
theorem rd_fldaugA {a dx : Addr} {fs : List (Str × V)} {v : V} {R : Hp → Prop} (h1 : H a = some (.ins C dx fs)) (c : Cls K C) (n : NoAttr K C f) (l : fs.lookup f = some v)
    (q : tv σ H fun y H2 => rAdd v y H2 fun z H3 => ∃ dx' fs', H3 a = some (.ins C dx' fs') ∧ fs'.length < 1000 ∧ R (upd H3 a (.ins C dx' (putF f z fs')))) : rFldAug K f tv σ R (.ref a) H := ⟨a, C, dx, fs, v, rfl, h1, c, n, l, q⟩
def rDGetV (a : Addr) (y : V) (H : Hp) (Q : VK) : Prop := ∃ o, DGet H a y o ∧ Q (o.getD .non) H
def rDGetM (ty : TE) (σ : St) (Q : VK) (x : V) (H : Hp) : Prop := ∃ a, x = .ref a ∧ IsD H a ∧ ty σ H fun y H2 => rDGetV a y H2 Q
theorem rd_dgetm0 (h : td σ H fun x H1 => rDGetM ty σ Q x H1) : tDGet1 td ty σ H Q := h
theorem rd_dgetmT {a : Addr} {kvs : List (List Key × V)} (h1 : H a = some (.dT kvs)) (q : ty σ H fun y H2 => rDGetV a y H2 Q) : rDGetM ty σ Q (.ref a) H := ⟨a, rfl, .inr ⟨kvs, .inl h1⟩, q⟩
theorem rd_dgetT {a b : Addr} {kvs : List (List Key × V)} {k : List Key} (h1 : H a = some (.dT kvs)) (hb : H b = some (.tup (k.map kV))) (q : Q ((valV kvs k).getD .non) H) : rDGetV a (.ref b) H Q := ⟨_, DGet.t h1 hb, q⟩
theorem rd_dgetmK {a : Addr} {kvs : List (Key × V)} (h1 : H a = some (.dK kvs)) (q : ty σ H fun y H2 => rDGetV a y H2 Q) : rDGetM ty σ Q (.ref a) H := ⟨a, rfl, .inl ⟨kvs, .inl h1⟩, q⟩
theorem rd_dgetK {a : Addr} {m : List (Int × Int)} {i : Int} (h1 : H a = some (.dK (dkOf m))) (q : Q (((getI m i).map V.int).getD .non) H) : rDGetV a (.int i) H Q := ⟨_, DGet.k (k := Sum.inl i) h1, by rw [dk_val]; exact q⟩
theorem rd_dputT {a b : Addr} {kvs : List (List Key × V)} {k : List Key} {v : V} {R : Hp → Prop} (h1 : H a = some (.dT kvs)) (hb : H b = some (.tup (k.map kV))) (hz : kvs.length < sizeLine) (h : ∀ H2, H2 a = some (.dT (putK kvs k v)) → Kp a H H2 → R H2) : rDPut v (.ref a) (.ref b) H R :=
  ⟨a, _, rfl, DPut.t h1 hb hz, h _ upd_same Kp.upd⟩
end
section
variable {X : Cx} {o e : Expr} {apos cpos pos p : Pos} {td ty to : TE}
theorem qe_dget1 (hu : X.A.units + 1 < cLine) (ho : QE X o td) (he : QE X e ty) (m : M1 X o "get" apos e cpos := by exact ⟨rfl, rfl, rfl, rfl⟩) : QE X (.Call (.Attribute o "get" apos) [e] [] cpos) (tDGet1 td ty) := ⟨pe_dget1 hu ho.h he.h m⟩
theorem qe_dnewT : QE X (.Dict [] [] pos) tDNewT := ⟨pe_dnewT⟩
def rDNewT (H : Hp) (Q : VK) : Prop := ∀ p, H p = none → Q (.ref p) (upd H p (.dT []))
theorem rd_dnewT0 {σ : St} {H : Hp} {Q : VK} (h : rDNewT H Q) : tDNewT σ H Q := h
theorem rd_dnewT {H : Hp} {Q : VK} (h : ∀ p H2, H p = none → H2 p = some (.dT []) → Same H H2 → Q (.ref p) H2) : rDNewT H Q := fun p hp => h p _ hp upd_same (Same.new hp)
def rListIt (a : Addr) (m : List (Int × Int)) (H : Hp) (Q : VK) : Prop := m.length ≤ 1000 ∧ ∀ (l : Addr) (vs : List V) (H' : Hp), H l = none → H' l = some (.lst vs) → PairsAt H' vs m → Same H H' → Q (.ref l) H'
def tListIt (to : TE) : TE := fun σ H Q => tItemsOf to σ H fun a m H1 => rListIt a m H1 Q
def rItemsL (x : V) (H : Hp) (Q : VK) : Prop := ∃ a m, x = .ref a ∧ H a = some (.dK (dkOf m)) ∧ rListIt a m H Q
theorem rd_listIt0 {σ : St} {H : Hp} {Q : VK} (h : to σ H fun x H1 => rItemsL x H1 Q) : tListIt to σ H Q := h
end
theorem fund_mk {K : PySem.W.Frag} {x qual : Str} {st : Stmt} {f : Addr} {oc : Value} {od an : Option Addr} {osl : Array (Option Value)} {dV kV doc pm cdv ct : Value} (l : K.lookup f = some ⟨oc, od, .func (PySem.W.fnOf x qual (defArgs st) (defBody st) (defScope st) dV kV doc pm an cdv ct), osl⟩)
    (c : PySem.W.codeIn K cdv qual = true) (k : PySem.W.keepIn K (.ref f) = true) : FunD K x qual st f (PySem.W.fnOf x qual (defArgs st) (defBody st) (defScope st) dV kV doc pm an cdv ct) := ⟨⟨oc, od, dV, kV, doc, pm, an, cdv, ct, osl, rfl, l, c⟩, k⟩
def KBinds1 (K : PySem.W.Frag) (fd : FuncData) (ps : List Str) (x : Str) : Prop := ∀ (s : Shared) (u v : Value), K.In s.heap → BindsTo s fd ⟨[u], [(x, v)]⟩ (ps.zip [u, v])
section
variable {X : Cx} {k : Nat} {f C : Addr} {fd : FuncData} {ps : List Str} {sp : Sp} {x kw : Str} {p pos kpos : Pos} {e : Expr} {te : TE} {E : XK} {CX : CXT}
def tMakeK (C : Addr) (sp : Sp) (E : XK) (te : TE) : TE := fun σ H Q => te σ H fun v H1 => rMake C sp [] E [v] H1 Q
theorem rd_makeK0 {σ : St} {H : Hp} {Q : VK} (h : te σ H fun v H1 => rMake C sp [] E [v] H1 Q) : tMakeK C sp E te σ H Q := h
end
end L2
set_option Elab.async false
set_option linter.all false
set_option maxRecDepth 100000
set_option maxHeartbeats 4000000
namespace L2
open PySem PySem.Spec PyProof.Rows PySem.W
theorem ObjOk.there {P : Program} {w : World} {H : Hp} {h : Heap} {a : Addr} {o : HO} (x : ObjOk P w H h a o) : ∃ ob, h.get? a = some ob := by
  cases o with
  | lst xs => obtain ⟨_, _, _, _, e⟩ := x; exact ⟨_, e⟩
  | tup xs => obtain ⟨_, _, _, p⟩ := x; obtain ⟨o, e, _⟩ := p; exact ⟨_, e⟩
  | dK kvs => obtain ⟨_, _, _, _, o, _, _, e, _⟩ := x; exact ⟨_, e⟩
  | dT kvs => obtain ⟨_, _, _, _, o, _, _, e, _⟩ := x; exact ⟨_, e⟩
  | set S n => obtain ⟨o, _, _, _, e, _⟩ := x; exact ⟨_, e⟩
  | ins C dx fs => obtain ⟨_, _, _, e, _⟩ := x; exact ⟨_, e⟩
  | own y => exact x
  | xd fs => obtain ⟨_, ⟨_, _, _, e, _⟩, _⟩ := x; exact ⟨_, e⟩
  | rng lo hi => obtain ⟨_, _, _, e⟩ := x; exact ⟨_, e⟩
  | frz ob u => obtain ⟨e, _⟩ := x; exact ⟨_, e⟩
  | tbl ps => exact ⟨_, (show h.get? a = some _ from x)⟩
  | met f y => exact ⟨_, (show h.get? a = some _ from x)⟩
  | ext φ => obtain ⟨_, e, _⟩ := x; exact e
def Cov (B : Heap) (H' : Hp) (h0 h' : Heap) (fs : List Addr) : Prop := ∀ b o, h'.get? b = some o → b ∉ fs → ((∃ u, H' b = some u) ∨ ∃ o0, h0.get? b = some o0) → B.get? b = some o
section
variable {P : Program} {w : World} {H H' : Hp} {h0 h' h'' B : Heap} {fs : List Addr}
theorem fly_step (hok : HOk P w H' h') (un : Un fs [] H H' h0 h') (cov : Cov B H' h0 h' fs) (st : B.StaysIn h'') (up : h'.UpToSlots h'') (fr : ∀ b ∈ fs, H' b = none ∧ ∃ o, h'.get? b = some o ∧ ∀ vs, o.data ≠ .fields vs) :
    HOk P w H' h'' ∧ Un fs [] H H' h0 h'' ∧ Cov B H' h0 h'' fs := by
  have trk : ∀ b u, H' b = some u → b ∉ fs := fun b u e hb => by rw [(fr b hb).1] at e; cases e
  have old : ∀ b o0, h0.get? b = some o0 → ∃ o', h''.get? b = some o' := fun b o0 e => by
    obtain ⟨o', e'⟩ := un.there b o0 e (by simp)
    by_cases hb : b ∈ fs
    · obtain ⟨_, o, ho, hd⟩ := fr b hb
      obtain ⟨sl, q⟩ := up b o ho hd
      exact ⟨_, q⟩
    · exact ⟨o', st _ _ (cov b o' e' hb (.inr ⟨o0, e⟩))⟩
  refine ⟨fun b u e => (hok b u e).stay (fun c v hc q => ?_) (fun _ q => q) fun _ _ q => q, ⟨fun b o e n hb hx => ?_, fun b o e n hb hx => ?_, un.free, fun b o e _ => old b o e, un.tups, un.frzs, un.tbls⟩, fun b o e hb ht => ?_⟩
  · have hc' : ∃ u, H' c = some u := by
      rcases hc with rfl | hc
      · exact ⟨_, e⟩
      · exact ⟨_, hc⟩
    obtain ⟨u', hu'⟩ := hc'
    exact st _ _ (cov c v q (trk c u' hu') (.inl ⟨u', hu'⟩))
  · exact st _ _ (cov b o (un.keep b o e n hb hx) hb (.inr ⟨o, e⟩))
  · obtain ⟨sl, q⟩ := un.slot b o e n hb hx
    obtain ⟨_, o2, ho2, hd⟩ := fr b hb
    rw [q] at ho2
    cases ho2
    obtain ⟨sl2, q2⟩ := up b _ q hd
    exact ⟨sl2, q2⟩
  · have : ∃ o1, h'.get? b = some o1 := by
      rcases ht with ⟨u, hu⟩ | ⟨o0, ho0⟩
      · exact (hok b u hu).there
      · exact un.there b o0 ho0 (by simp)
    obtain ⟨o1, h1⟩ := this
    have hB := cov b o1 h1 hb ht
    have := st _ _ hB
    rw [e] at this
    cases this
    exact hB
end
section
variable {P : Program} {w : World} {K : PySem.W.Frag} {mg : Str → Option Value} {base : Heap} {N : List Str} {qual : Str} {scope : Scope} {f : Addr} {cd : Value} {A : Around} {outer : List Env} {s : Shared} {H : Hp} {E : XK}
theorem frs_cons {env : Env} {l : List Env} {L : Addr} (h : env.frame = some L) : frs (env :: l) = L :: frs l := by
  unfold frs
  rw [List.filterMap_cons, h]
theorem fr_free {X : Cx} {pins : List (Addr × Obj)} {σ : St} {H1 : Hp} {s1 : Shared} (I : Inv X pins σ H1 s1) {B h : Heap} {l : List Env} (hl : h.FunFrames B l) (hs : ∀ b ∈ frs l, b ∈ frs X.stack) : ∀ b ∈ frs l, H1 b = none ∧ ∃ o, h.get? b = some o ∧ ∀ vs, o.data ≠ .fields vs :=
  fun b hb => ⟨I.stkFree b (hs b hb), (hl.mem hb).2⟩
end
def ExcC (K : PySem.W.Frag) (C : Addr) : Prop := excIn K C [.type "ValueError", .type "Exception", .type "BaseException", .type "object"] "ValueError.__new__" = true
section
variable {P : Program} {w : World} {K : PySem.W.Frag} {mg : Str → Option Value} {base : Heap} {N : List Str} {qual : Str} {scope : Scope} {f : Addr} {cd : Value} {A : Around} {outer : List Env} {s : Shared} {H : Hp} {E : XK}
  {x : Str} {np cpos pos : Pos} {e₀ : Expr} {es : List Expr} {t : TA} {C : Addr}
def tRaise (E : XK) (C : Addr) (t : TA) : TS := fun _ σ H => t σ H fun vs H1 => vs.length ≤ sizeLine ∧ E (.ref C) none H1
end
section
variable {P : Program} {w : World} {K : PySem.W.Frag} {mg : Str → Option Value} {base : Heap}
theorem FnOk.or {k : Nat} {CX : CXT} {f : Addr} {fd : FuncData} {ps : List Str} {sp sq : Sp} (F : FnOk P w K mg base CX k f fd ps sp) (G : FnOk P w K mg base CX k f fd ps sq) : FnOk P w K mg base CX k f fd ps (fun vs H Q E => sp vs H Q E ∨ sq vs H Q E) :=
  ⟨fun vs H Q E h => h.elim (F.len vs H Q E) (G.len vs H Q E), fun A outer s H args us vs Q E hr he hb hv hs => hs.elim (F.run A outer s H args us vs Q E hr he hb hv) (G.run A outer s H args us vs Q E hr he hb hv)⟩
end
end L2
set_option Elab.async false
set_option linter.all false
set_option maxRecDepth 100000
set_option maxHeartbeats 4000000
namespace L2
open PySem PySem.Spec PyProof.Rows PySem.W
section
variable {M : Model} {A : Around} {E : Value → Shared → Prop} {s : Shared}
end
section
variable {X : Cx} {pins : List (Addr × Obj)} {σ : St} {H : Hp} {s : Shared}
end
def excO (e : Addr) (C : Value) : HO := .ext fun h => ∃ oe, h.get? e = some oe ∧ oe.cls = C
abbrev Cx.suite (X : Cx) (e : Addr) : Cx := { X with A := X.A.mark (some (.ref e)), calm := false, xe := fun _ _ => False }
section
variable {X : Cx} {pins : List (Addr × Obj)} {σ : St} {H : Hp} {s : Shared} {e : Addr}
theorem Inv.around {A' : Around} {xe' : Value → Shared → Prop} (I : Inv X pins σ H s) (hf : A'.frames = X.A.frames) : Inv { X with A := A', calm := false, xe := xe' } pins σ H s :=
  ⟨⟨I.ok.mod, I.ok.kind, I.ok.glob, I.ok.blt, I.ok.above, I.ok.inj, I.ok.has, I.ok.cab, (fun z => nomatch z), hf.trans I.ok.frames, I.ok.stk, I.ok.exf, I.ok.bs, I.ok.bsz, I.ok.noex, I.ok.exfs, I.ok.funs, I.ok.frf⟩,
    I.os, I.bare, I.base, I.loc, I.cell, I.free, I.freeC, I.pin, I.hok, I.len⟩
theorem Inv.toSuite (I : Inv X pins σ H s) : Inv (X.suite e) pins σ H s := I.around rfl
theorem Inv.track {u : HO} (I : Inv X pins σ H s) (h1 : X.s₀.heap.get? e = none) (h2 : H e = none) (h3 : e ≠ X.env.locals) (h4 : ∀ x c, X.env.cells.lookup x = some c → c ≠ e) (h5 : ∀ p ∈ X.pn ++ pins, p.1 ≠ e) (new : ObjOk X.prog X.w (upd H e u) s.heap e u) : Inv X pins σ (upd H e u) s := by
  have ne : ∀ b o, X.s₀.heap.get? b = some o → b ≠ e := fun b o q z => by rw [z, h1] at q; cases q
  refine ⟨I.ok, I.os, I.bare, ⟨I.base.keep, I.base.slot, fun b o q n hx => ?_, I.base.there, fun b xs q => ?_, fun b o xs q => ?_, fun b ps q => ?_⟩, I.loc, I.cell, ?_, fun x c q => ?_, fun p hp => ?_, fun b v q => ?_, I.len⟩
  · rw [upd_ne (ne b o q)]; exact I.base.free b o q n hx
  · have := I.base.tups b xs q
    rw [upd_ne (ne_of_none this h2)]; exact this
  · have := I.base.frzs b o xs q
    rw [upd_ne (ne_of_none this h2)]; exact this
  · obtain ⟨m, z⟩ := I.base.tbls b ps q
    exact ⟨m, by rw [upd_ne (ne_of_none z h2)]; exact z⟩
  · rw [upd_ne (Ne.symm h3)]; exact I.free
  · rw [upd_ne (h4 x c q)]; exact I.freeC x c q
  · obtain ⟨a, b, c⟩ := I.pin p hp
    exact ⟨a, by rw [upd_ne (h5 p hp)]; exact b, c⟩
  · by_cases hb : b = e
    · subst hb; rw [upd_same] at q; cases q; exact new
    · rw [upd_ne hb] at q
      exact (I.hok b v q).stay (fun _ _ _ q => q) (fun c r => by rw [upd_ne (ne_of_none r h2)]; exact r) fun c xs r => by rw [upd_ne (ne_of_none r h2)]; exact r
end
def Fl (X : Cx) (H1 : Hp) (s0 : Shared) (e : Addr) (C : Value) (H' : Hp) (s3 : Shared) : Prop := ∃ (a0 : Value) (B : Heap), s3.os = s0.os ∧ AllBare s3.gens ∧ Un (frs X.stack) [] H1 H' s0.heap s3.heap ∧ HOk X.prog X.w H' s3.heap ∧
  s0.heap.get? e = none ∧ H' e = none ∧ Heap.FlyingW B X.stack e C a0 s3.heap ∧ Cov B H' s0.heap s3.heap (frs X.stack)
section
variable {X : Cx} {pins : List (Addr × Obj)} {σ : St} {H1 H' : Hp} {s0 s3 : Shared} {e : Addr} {C : Value}
theorem Fl.inv (F : Fl X H1 s0 e C H' s3) (I : Inv X pins σ H1 s0) : Inv X pins σ H' s3 := by
  obtain ⟨a0, B, os, bare, un, hok, _⟩ := F
  exact I.call' (ch := []) os un hok bare (fun b z => absurd z (by simp))
theorem exc_new {P : Program} {w : World} {H : Hp} {h : Heap} {e : Addr} {oe : Obj} {C : Value} (he : h.get? e = some oe) (hc : oe.cls = C) : ObjOk P w (upd H e (excO e C)) h e (excO e C) := ⟨⟨oe, he, hc⟩, ⟨oe, he⟩, fun h1 h2 ⟨o, q, c⟩ k => ⟨o, k o q, c⟩⟩
theorem Fl.suite (F : Fl X H1 s0 e C H' s3) (I : Inv X pins σ H1 s0) (hst : X.stack = X.env :: X.outer) (hfr : X.env.frame = some X.env.locals) (hex : X.ex = []) : ∃ oe, oe.cls = C ∧ s3.heap.get? e = some oe ∧ H' e = none ∧ Inv (X.suite e) pins σ (upd H' e (excO e C)) s3 := by
  have I3 := F.inv I
  obtain ⟨a0, B, os, bare, un, hok, hen, heH, fl, cov⟩ := F
  obtain ⟨oe, vs, T, oT, ts, he, hc, hd, _⟩ := fl.2.2.2
  have nfr : e ∉ frs X.stack := fun z => by
    obtain ⟨_, o, ho, hn⟩ := fl.2.2.1.mem z
    rw [he] at ho; cases ho
    exact hn vs hd
  have efr : frs X.stack = X.env.locals :: X.fs := by rw [hst]; exact frs_cons hfr
  rw [efr] at nfr
  refine ⟨oe, hc.1, he, heH, (I3.track (u := excO e C) ?_ heH (fun z => nfr (by rw [z]; exact List.mem_cons_self)) (fun x c q z => ?_) (fun p hp z => ?_) (exc_new he hc.1)).toSuite⟩
  · cases z : X.s₀.heap.get? e with
    | none => rfl
    | some o =>
      obtain ⟨o', e'⟩ := I.base.there e o z (by rw [hex]; simp)
      rw [hen] at e'; cases e'
  · obtain ⟨v, o, ho, hdc⟩ := I3.cell x c q
    rw [z, he] at ho; cases ho
    rw [hd] at hdc; cases hdc
  · have := (I.pin p hp).1
    rw [z, hen] at this; cases this
theorem Fl.step {h' : Heap} {g : Shared → Shared} (F : Fl X H1 s0 e C H' s3) (I : Inv X pins σ H1 s0) {l : Prop} (st : ∀ a0 B, Heap.FlyingW B X.stack e C a0 s3.heap → Heap.FlyingW B X.stack e C a0 h') (up : s3.heap.UpToSlots h') : Fl X H1 s0 e C H' { s3 with heap := h' } := by
  have I3 := F.inv I
  obtain ⟨a0, B, os, bare, un, hok, hen, heH, fl, cov⟩ := F
  have fl2 := st a0 B fl
  obtain ⟨hok3, un3, cov3⟩ := fly_step hok un cov fl2.1 up (fr_free I3 fl.2.2.1 fun b hb => hb)
  exact ⟨a0, B, os, bare, un3, hok3, hen, heH, fl2, cov3⟩
end
abbrev TX := St → Hp → VK → XK → Prop
def XP (X : Cx) (pins : List (Addr × Obj)) (σ : St) (E : XK) (ev : Value) (s' : Shared) : Prop := ∃ H1 s1 e C H', Inv X pins σ H1 s1 ∧ ev = .ref e ∧ Fl X H1 s1 e C H' s' ∧ E C none H'
section
variable {X : Cx} {k : Nat} {f C : Addr} {fd : FuncData} {ps : List Str} {sp : Sp} {dvs : List V} {ds : List Value} {E : XK} {x m : Str} {p pos apos : Pos} {e o : Expr} {es : List Expr} {ta : TE} {t : TA}
theorem PA.nox {es : List Expr} {t : TA} (h : PA X.nox es t) : PA X es t := fun pos pins s σ H Q I hw =>
  wpAny_mono (h pos pins s σ H Q (I.wish _) hw) (fun _ _ ⟨vs, H', I', r, q⟩ => ⟨vs, H', I'.unwish, r, q⟩) fun _ _ z => False.elim z
def tCallX (sp : Sp) (dvs : List V) (t : TA) : TX := fun σ H Q E => t σ H fun vs H1 => sp (vs ++ dvs) H1 Q E
def tMethX (C : Addr) (m : Str) (sp : Sp) (dvs : List V) (ta : TE) (t : TA) : TX := fun σ H Q E => ta σ H fun x H1 => rMethO C m x H1 (t σ H1 fun vs H2 => sp (x :: (vs ++ dvs)) H2 Q E)
end
abbrev TBX := Ends → XK → St → Hp → Prop
def tDropX (t : TX) : TBX := fun D E σ H => t σ H (fun _ H1 => D.nx σ H1) E
def tAsgX (t : TX) (i : Nat) : TBX := fun D E σ H => t σ H (fun v H1 => D.nx (σ.set i (some v)) H1) E
section
variable {X : Cx} {e : Expr} {t : TX} {pos pos' : Pos} {x : Str} {i : Nat}
end
abbrev TH := Value → Ends → St → Hp → Prop
section
variable {X : Cx}
abbrev Ends.gone (D : Ends) (i : Nat) : Ends := { nx := fun σ H => D.nx (σ.set i none) H, rt := D.rt, bk := fun σ H => D.bk (σ.set i none) H, ct := fun σ H => D.ct (σ.set i none) H }
variable {x n : Str} {np pos : Pos} {T : Addr} {b₀ : Stmt} {suite : List Stmt} {rest : List ExceptHandler} {ts : Addr → TS} {tr : TH} {i : Nat}
def rSuite (C : Value) (H : Hp) (R : Addr → Hp → Prop) : Prop := ∀ e, H e = none → R e (upd H e (excO e C))
def rClause (K : PySem.W.Frag) (T : Addr) (C : Value) (A B : Prop) : Prop := ∃ b, subIn K C (.ref T) = some b ∧ if b = true then A else B
def tH0 (K : PySem.W.Frag) (T : Addr) (ts : Addr → TS) (tr : TH) : TH := fun C D σ H => rClause K T C (rSuite C H fun e H2 => ts e D σ H2) (tr C D σ H)
def tHN (K : PySem.W.Frag) (T : Addr) (i : Nat) (ts : Addr → TS) (tr : TH) : TH := fun C D σ H => rClause K T C (rSuite C H fun e H2 => ts e (D.gone i) (σ.set i (some (.ref e))) H2) (tr C D σ H)
end
section
variable {X : Cx} {body : List Stmt} {h₀ : ExceptHandler} {hs : List ExceptHandler} {pos : Pos} {tb : TBX} {th : TH}
def tTry (tb : TBX) (th : TH) : TS := fun D σ H => tb D (fun C _ H' => th C D σ H') σ H
end
end L2
set_option Elab.async false
set_option linter.all false
set_option maxRecDepth 100000
set_option maxHeartbeats 4000000
namespace L2
open PySem PySem.Spec PyProof.Rows PySem.W PySem.Builtin PySem.Builtin.ObjectAttr PySem.Builtin.Getset_descriptor
structure ExcA (K : PySem.W.Frag) (C : Addr) : Prop where
  ga : findIn K (.ref C) "__getattribute__" = some (some (.builtin "BaseException.__getattribute__"))
  gt : findIn K (.ref C) "__getattr__" = some none
  cl : findIn K (.ref C) "__class__" = some (some (.builtin "object.__class__"))
  ob : mroIn K C (.type "object") = some true
  be : mroIn K C (.type "BaseException") = some true
section
variable {prog : Program} {w : World} {A : Around} {E : Value → Shared → Prop} {h : Heap} {g : Array GenState} {d : Drawn} {t : Nat} {os : OsState} {a C : Addr} {o : Obj} {K : PySem.W.Frag}
end
section
variable {K : PySem.W.Frag}
end
section
variable {X : Cx}
end
section
variable {X : Cx} {k : Nat} {f : Addr} {fd : FuncData} {ps : List Str} {sp : Sp} {dvs : List V} {ds : List Value} {x : Str} {p pos : Pos} {e : Expr} {es : List Expr} {t : TA}
end
section
variable {K : PySem.W.Frag} {σ : St} {H : Hp} {Q : VK} {D : Ends} {E : XK} {C T e : Addr} {t : TA} {tb : TBX} {th : TH} {ts : Addr → TS} {tr : TH} {i : Nat}
def rRaise (E : XK) (C : Addr) (vs : List V) (H : Hp) : Prop := vs.length ≤ sizeLine ∧ E (.ref C) none H
theorem rd_raise0 (h : t σ H fun vs H1 => rRaise E C vs H1) : tRaise E C t D σ H := h
theorem rd_try (h : tb D (fun C _ H' => th C D σ H') σ H) : tTry tb th D σ H := h
theorem rd_callX {sp : Sp} {dvs : List V} (h : t σ H fun vs H1 => sp (vs ++ dvs) H1 Q E) : tCallX sp dvs t σ H Q E := h
theorem rd_methX {m : Str} {sp : Sp} {dvs : List V} {ta : TE} (h : ta σ H fun x H1 => rMethO C m x H1 (t σ H1 fun vs H2 => sp (x :: (vs ++ dvs)) H2 Q E)) : tMethX C m sp dvs ta t σ H Q E := h
theorem rd_dropX {u : TX} (h : u σ H (fun _ H1 => D.nx σ H1) E) : tDropX u D E σ H := h
theorem rd_asgX {u : TX} (h : u σ H (fun v H1 => D.nx (σ.set i (some v)) H1) E) : tAsgX u i D E σ H := h
theorem rd_h0 {C : Value} (h : rClause K T C (rSuite C H fun e H2 => ts e D σ H2) (tr C D σ H)) : tH0 K T ts tr C D σ H := h
theorem rd_hN {C : Value} (h : rClause K T C (rSuite C H fun e H2 => ts e (D.gone i) (σ.set i (some (.ref e))) H2) (tr C D σ H)) : tHN K T i ts tr C D σ H := h
end
end L2
namespace L2
open PySem PySem.Spec PyProof.Rows PySem.W
section
variable {P : Program} {w : World} {K : PySem.W.Frag} {mg : Str → Option Value} {base : Heap} {N : List Str} {qual : Str} {scope : Scope} {f : Addr} {cd : Value} {A : Around} {outer : List Env} {s : Shared} {H : Hp} {E : XK}
  {x : Str} {np cpos pos : Pos} {e₀ : Expr} {es : List Expr} {t : TA} {C : Addr}
end
end L2
set_option Elab.async false
set_option linter.all false
set_option maxRecDepth 100000
set_option maxHeartbeats 4000000
namespace L2
open PySem PySem.Spec PyProof.Rows PySem.W
section
variable {X : Cx}
end
end L2
set_option Elab.async false
set_option linter.all false
set_option maxRecDepth 100000
set_option maxHeartbeats 4000000
namespace L2
open PySem PySem.Spec PyProof.Rows PySem.W
section
variable {X : Cx}
def Its (z : Str) : It := ⟨fun i _ => i < z.cps.size, fun i H x H' => H' = H ∧ ∃ c, z.cps.toList[i]? = some c ∧ x = .str ⟨#[c]⟩, fun i _ => z.cps.size ≤ i⟩
def rItStr (x : V) (H : Hp) (R : It → Hp → Prop) : Prop := ∃ z, x = .str z ∧ R (Its z) H
def iStr (tl : TE) : TI := fun σ H R => tl σ H fun x H1 => rItStr x H1 R
def rF2 (x1 x2 : Str) (i : Int) (y : V) (H : Hp) (Q : VK) : Prop := ∃ j : Int, y = .int j ∧ j.natAbs.log2 < 1900 ∧ Q (.str (Str.ofString (toString i) ++ x1 ++ Str.ofString (toString j) ++ x2)) H
def rF1 (x1 x2 : Str) (tb : TE) (σ : St) (x : V) (H : Hp) (Q : VK) : Prop := ∃ i : Int, x = .int i ∧ i.natAbs.log2 < 1900 ∧ tb σ H fun y H2 => rF2 x1 x2 i y H2 Q
def tF4 (x1 x2 : Str) (ta tb : TE) : TE := fun σ H Q => ta σ H fun x H1 => rF1 x1 x2 tb σ x H1 Q
end
section
variable {K : PySem.W.Frag} {H : Hp} {Q : VK} {σ : St}
theorem rd_iStr {tl : TE} {R : It → Hp → Prop} (h : tl σ H fun x H1 => rItStr x H1 R) : iStr tl σ H R := h
theorem rd_itStr {z : Str} {R : It → Hp → Prop} (h : R (Its z) H) : rItStr (.str z) H R := ⟨z, rfl, h⟩
theorem rd_f4 {x1 x2 : Str} {ta tb : TE} (h : ta σ H fun x H1 => rF1 x1 x2 tb σ x H1 Q) : tF4 x1 x2 ta tb σ H Q := h
variable {D : Ends}
end
end L2
set_option Elab.async false
set_option linter.all false
set_option maxRecDepth 100000
set_option maxHeartbeats 4000000
namespace L2
open PySem PySem.Spec PyProof.Rows PySem.W
section
variable {M : Model} {A : Around} {Er : Value → Shared → Prop} {s : Shared} {Bs : Heap} {l outer : List Env} {env : Env} {x L : Addr} {c0 a0 fl : Value}
end
section
variable {P : Program} {w : World} {H H' : Hp} {h0 h' h'' Bs : Heap} {fs ex : List Addr}
def gone (B : Heap) (c : Addr) : Heap := B.update c fun o => { o with data := .freed }
end
section
variable {P : Program} {w : World} {K : PySem.W.Frag} {mg : Str → Option Value} {base : Heap} {N : List Str} {qual : Str} {scope : Scope} {f : Addr} {cd : Value} {A : Around} {outer : List Env} {s : Shared} {H : Hp} {E : XK}
end
def tCompX (own : Nat) (ks : List Nat) (wi : TI) (g : TG) (tt : TT) (te : TX) (E : XK) : TE := fun σ H Q => wi σ H fun J H1 => ∀ l, H1 l = none →
  ∃ W : Nat → Nat → St → Hp → Prop, (∃ m, W 0 m (capSt own ks σ) (upd H1 l (.lst []))) ∧ ∀ i m σ' H', W i m σ' H' →
    (J.stop i H' ∧ Q (.ref l) H') ∨ (J.go i H' ∧ ∃ N : St → Hp → Prop, (∀ σ2 H2, N σ2 H2 → ∃ m', m' < m ∧ W (i + 1) m' σ2 H2) ∧
      ∀ x H'', J.yld i H' x H'' → g x σ' H'' fun σ2 H2 => tt σ2 H2 fun b H3 =>
        if b = true then te σ2 H3 (fun v H4 => ∃ xs, H4 l = some (.lst xs) ∧ xs.length < sizeLine ∧ N σ2 (upd H4 l (.lst (xs ++ [v])))) E else N σ2 H3)
section
variable {X : Cx}
end
section
variable {P : Program} {w : World} {K : PySem.W.Frag} {mg : Str → Option Value} {base : Heap} {N : List Str} {qual : Str} {scope : Scope} {f : Addr} {cd : Value} {A : Around} {outer : List Env} {s : Shared} {H : Hp} {E : XK}
end
end L2
set_option Elab.async false
set_option linter.all false
set_option maxRecDepth 100000
set_option maxHeartbeats 4000000
namespace L2
open PySem PySem.Spec PyProof.Rows
def fl (low tall : Int) (q : Int × Int) : Int := (q.1 - low * q.2) / (tall * q.2)
def inCol (cv : List (Int × Int)) (b e : Int) : List (Int × Int) := cv.filter fun p => decide (b ≤ p.1) && decide (p.1 < e)
end L2
set_option Elab.async false
set_option linter.all false
set_option maxRecDepth 100000
set_option maxHeartbeats 4000000
namespace L2
open PySem PySem.Spec PyProof.Rows PySem.W
def InT (cv : List (Int × Int)) : Prop := ∀ p ∈ cv, (-(10 ^ 64) < p.1 ∧ p.1 < 10 ^ 64) ∧ -(10 ^ 64) < p.2 ∧ p.2 < 10 ^ 64
end L2
set_option Elab.async false
set_option linter.all false
set_option maxRecDepth 100000
set_option maxHeartbeats 4000000
namespace L2
open PySem PySem.Spec PyProof.Rows PySem.W
section
variable {X : Cx}
def tLst1 (t : TX) : TX := fun σ H Q E => t σ H (fun v H1 => rNew 1 (.lst [v]) H1 Q) E
theorem rd_lst1 {t : TX} {σ : St} {H : Hp} {Q : VK} {E : XK} (h : t σ H (fun v H1 => rNew 1 (.lst [v]) H1 Q) E) : tLst1 t σ H Q E := h
end
def rCompX (J : It) (g : TG) (tt : TT) (te : TX) (l : Addr) (σ0 : St) (H : Hp) (Q : VK) (E : XK) : Prop :=
  ∃ W : Nat → Nat → St → Hp → Prop, (∃ m, W 0 m σ0 (upd H l (.lst []))) ∧ ∀ i m σ' H', W i m σ' H' →
    (J.stop i H' ∧ Q (.ref l) H') ∨ (J.go i H' ∧ ∃ N : St → Hp → Prop, (∀ σ2 H2, N σ2 H2 → ∃ m', m' < m ∧ W (i + 1) m' σ2 H2) ∧
      ∀ x H'', J.yld i H' x H'' → g x σ' H'' fun σ2 H2 => tt σ2 H2 fun b H3 =>
        if b = true then te σ2 H3 (fun v H4 => ∃ xs, H4 l = some (.lst xs) ∧ xs.length < sizeLine ∧ N σ2 (upd H4 l (.lst (xs ++ [v])))) E else N σ2 H3)
theorem rd_compX {own : Nat} {ks : List Nat} {wi : TI} {g : TG} {tt : TT} {te : TX} {E : XK} {σ : St} {H : Hp} {Q : VK} (h : wi σ H fun J H1 => ∀ l, H1 l = none → rCompX J g tt te l (capSt own ks σ) H1 Q E) : tCompX own ks wi g tt te E σ H Q := h
end L2
set_option Elab.async false
set_option linter.all false
set_option maxRecDepth 100000
set_option maxHeartbeats 4000000
namespace L2
open PySem PySem.Spec PyProof.Rows
theorem asc_lt {cv : List (Int × Int)} (h : Asc cv) {i j : Nat} (hi : i < cv.length) (hj : j < cv.length) (hij : i < j) : cv[i].1 < cv[j].1 := List.pairwise_iff_getElem.mp h i j hi hj hij
theorem col_of {b y m t : Int} (hy : 0 < y) (h1 : b ≤ t) (h2 : t < b + m * y) : ∃ j, 0 ≤ j ∧ j < m ∧ b + j * y ≤ t ∧ t < b + j * y + y := by
  refine ⟨(t - b) / y, Int.ediv_nonneg (by omega) (by omega), ?_, ?_, ?_⟩
  · exact Int.ediv_lt_of_lt_mul hy (by omega)
  · have := Int.ediv_mul_le (t - b) (Int.ne_of_gt hy)
    omega
  · have := Int.lt_ediv_add_one_mul_self (t - b) hy
    rw [Int.add_mul, Int.one_mul] at this
    omega
theorem mem_inCol {cv : List (Int × Int)} {b e : Int} {p : Int × Int} : p ∈ inCol cv b e ↔ p ∈ cv ∧ b ≤ p.1 ∧ p.1 < e := by
  unfold inCol
  rw [List.mem_filter]
  simp
end L2
set_option Elab.async false
set_option linter.all false
set_option maxRecDepth 100000
set_option maxHeartbeats 1000000
namespace L2
open PySem PySem.Spec PyProof.Rows
def Is4 (cv : List (Int × Int)) (o : Option (List (Int × Int))) : Prop :=
  (o = none ∧ cv = []) ∨ ∃ q0 q1 q2 q3 : Int × Int, o = some [q0, q1, q2, q3] ∧ q0 ∈ cv ∧ q1 ∈ cv ∧ q2 ∈ cv ∧ q3 ∈ cv ∧
    ∀ p ∈ cv, q0.1 ≤ p.1 ∧ p.1 ≤ q1.1 ∧ (q2.2 < p.2 ∨ (q2.2 = p.2 ∧ q2.1 ≤ p.1)) ∧ (p.2 < q3.2 ∨ (p.2 = q3.2 ∧ q3.1 ≤ p.1))
theorem Is4.join {c1 c2 : List (Int × Int)} {a0 a1 a2 a3 b0 b1 b2 b3 : Int × Int} (h : Is4 c1 (some [a0, a1, a2, a3])) (g : Is4 c2 (some [b0, b1, b2, b3])) (hlt : ∀ p ∈ c1, ∀ q ∈ c2, p.1 < q.1) :
    Is4 (c1 ++ c2) (some [a0, b1, if a2.2 ≤ b2.2 then a2 else b2, if b3.2 ≤ a3.2 then a3 else b3]) := by
  rcases h with ⟨e, _⟩ | ⟨q0, q1, q2, q3, e, m0, m1, m2, m3, hb⟩
  · cases e
  rcases g with ⟨e', _⟩ | ⟨r0, r1, r2, r3, e', n0, n1, n2, n3, gb⟩
  · cases e'
  cases e
  cases e'
  refine .inr ⟨_, _, _, _, rfl, List.mem_append_left _ m0, List.mem_append_right _ n1, ?_, ?_, fun p hp => ?_⟩
  · split
    · exact List.mem_append_left _ m2
    · exact List.mem_append_right _ n2
  · split
    · exact List.mem_append_left _ m3
    · exact List.mem_append_right _ n3
  · rcases List.mem_append.mp hp with hp | hp
    · have k1 := hb p hp
      have k2 := hlt p hp _ n1
      have k3 := hlt p hp _ n2
      have k4 := hlt p hp _ n3
      refine ⟨k1.1, by omega, ?_, ?_⟩
      · split <;> omega
      · split <;> omega
    · have k1 := gb p hp
      have k2 := hlt _ m0 p hp
      have k3 := hlt _ m2 p hp
      have k4 := hlt _ m3 p hp
      refine ⟨by omega, k1.2.1, ?_, ?_⟩
      · split <;> omega
      · split <;> omega
theorem Is4.mem {cv : List (Int × Int)} {qs : List (Int × Int)} (h : Is4 cv (some qs)) : ∀ q ∈ qs, q ∈ cv := by
  rcases h with ⟨e, _⟩ | ⟨q0, q1, q2, q3, e, m0, m1, m2, m3, _⟩
  · cases e
  · cases e
    intro q hq
    simp only [List.mem_cons, List.not_mem_nil, or_false] at hq
    rcases hq with rfl | rfl | rfl | rfl <;> assumption
theorem Is4.nil : Is4 [] none := .inl ⟨rfl, rfl⟩
theorem Is4.of_none {cv : List (Int × Int)} (h : Is4 cv none) : cv = [] := by
  rcases h with ⟨_, e⟩ | ⟨q0, q1, q2, q3, e, _⟩
  · exact e
  · cases e
theorem Is4.sorted {cv lo hi : List (Int × Int)} {p0 p1 l0 h0 : Int × Int} (ha : Asc cv) (e0 : cv[0]? = some p0) (e1 : cv[cv.length - 1]? = some p1)
    (hl : lo.Perm (cv.map fun p => (p.2, p.1))) (hh : hi.Perm (cv.map fun p => (-p.2, p.1))) (sl : lo.Pairwise fun p q => ltP p q = true) (sh : hi.Pairwise fun p q => ltP p q = true) (f0 : lo[0]? = some l0) (g0 : hi[0]? = some h0) :
    Is4 cv (some [p0, p1, (l0.2, l0.1), (h0.2, -h0.1)]) := by
  have fst : ∀ {xs : List (Int × Int)} {x : Int × Int}, xs.Pairwise (fun p q => ltP p q = true) → xs[0]? = some x → x ∈ xs ∧ ∀ y ∈ xs, y = x ∨ ltP x y = true := by
    intro xs x hs hx
    cases xs with
    | nil => cases hx
    | cons z zs =>
      have : z = x := by simpa using hx
      subst this
      refine ⟨List.mem_cons_self .., fun y hy => ?_⟩
      rcases List.mem_cons.mp hy with rfl | hy
      · exact .inl rfl
      · exact .inr ((List.pairwise_cons.mp hs).1 y hy)
  obtain ⟨ml, bl⟩ := fst sl f0
  obtain ⟨mh, bh⟩ := fst sh g0
  obtain ⟨r2, hr2, er2⟩ := List.mem_map.mp (hl.mem_iff.mp ml)
  obtain ⟨r3, hr3, er3⟩ := List.mem_map.mp (hh.mem_iff.mp mh)
  have x2 : (l0.2, l0.1) = r2 := by rw [← er2]
  have x3 : (h0.2, -h0.1) = r3 := by rw [← er3]; simp
  rw [x2, x3]
  refine .inr ⟨p0, p1, r2, r3, rfl, List.mem_of_getElem? e0, List.mem_of_getElem? e1, hr2, hr3, fun p hp => ?_⟩
  obtain ⟨j, hj, rfl⟩ := List.getElem_of_mem hp
  obtain ⟨z0, y0⟩ := List.getElem?_eq_some_iff.mp e0
  obtain ⟨z1, y1⟩ := List.getElem?_eq_some_iff.mp e1
  have c2 := bl (cv[j].2, cv[j].1) (hl.mem_iff.mpr (List.mem_map.mpr ⟨_, List.getElem_mem hj, rfl⟩))
  have c3 := bh (-cv[j].2, cv[j].1) (hh.mem_iff.mpr (List.mem_map.mpr ⟨_, List.getElem_mem hj, rfl⟩))
  refine ⟨?_, ?_, ?_, ?_⟩
  · by_cases h : j = 0
    · subst h; rw [y0]; exact Int.le_refl _
    · have := asc_lt ha z0 hj (by omega)
      rw [y0] at this
      omega
  · by_cases h : j = cv.length - 1
    · subst h; rw [y1]; exact Int.le_refl _
    · have := asc_lt ha hj z1 (by omega)
      rw [y1] at this
      omega
  · rw [← er2] at c2
    rcases c2 with c2 | c2
    · have w1 := congrArg Prod.fst c2
      have w2 := congrArg Prod.snd c2
      simp only at w1 w2
      exact .inr ⟨w1.symm, by omega⟩
    · have := ltP_iff.mp c2
      simp only at this
      omega
  · rw [← er3] at c3
    rcases c3 with c3 | c3
    · have w1 := congrArg Prod.fst c3
      have w2 := congrArg Prod.snd c3
      simp only at w1 w2
      exact .inr ⟨by omega, by omega⟩
    · have := ltP_iff.mp c3
      simp only at this
      omega
end L2
set_option Elab.async false
set_option linter.all false
set_option maxRecDepth 100000
set_option maxHeartbeats 1000000
namespace L2
open PySem PySem.Spec PyProof.Rows
theorem Is4.minmax {cv : List (Int × Int)} {p0 p1 p2 p3 : Int × Int} {i2 i3 : Nat} (ha : Asc cv) (e0 : cv[0]? = some p0) (e1 : cv[cv.length - 1]? = some p1) (e2 : cv[i2]? = some p2) (e3 : cv[i3]? = some p3)
    (h2 : ∀ j, j < cv.length → (cv.getD i2 (0, 0)).2 ≤ (cv.getD j (0, 0)).2 ∧ (j < i2 → (cv.getD i2 (0, 0)).2 < (cv.getD j (0, 0)).2))
    (h3 : ∀ j, j < cv.length → (cv.getD i3 (0, 0)).2 ≥ (cv.getD j (0, 0)).2 ∧ (j < i3 → (cv.getD i3 (0, 0)).2 > (cv.getD j (0, 0)).2)) : Is4 cv (some [p0, p1, p2, p3]) := by
  obtain ⟨z0, y0⟩ := List.getElem?_eq_some_iff.mp e0
  obtain ⟨z1, y1⟩ := List.getElem?_eq_some_iff.mp e1
  obtain ⟨z2, y2⟩ := List.getElem?_eq_some_iff.mp e2
  obtain ⟨z3, y3⟩ := List.getElem?_eq_some_iff.mp e3
  have d : ∀ {j : Nat} (hj : j < cv.length), cv.getD j (0, 0) = cv[j] := fun {j} hj => by simp [hj]
  refine .inr ⟨p0, p1, p2, p3, rfl, List.mem_of_getElem? e0, List.mem_of_getElem? e1, List.mem_of_getElem? e2, List.mem_of_getElem? e3, fun p hp => ?_⟩
  obtain ⟨j, hj, rfl⟩ := List.getElem_of_mem hp
  have k2 := h2 j hj
  have k3 := h3 j hj
  rw [d z2, d hj, y2] at k2
  rw [d z3, d hj, y3] at k3
  refine ⟨?_, ?_, ?_, ?_⟩
  · by_cases h : j = 0
    · subst h; rw [y0]; exact Int.le_refl _
    · have := asc_lt ha z0 hj (by omega)
      rw [y0] at this
      omega
  · by_cases h : j = cv.length - 1
    · subst h; rw [y1]; exact Int.le_refl _
    · have := asc_lt ha hj z1 (by omega)
      rw [y1] at this
      omega
  · by_cases h : i2 < j
    · have := asc_lt ha z2 hj h
      rw [y2] at this
      omega
    · by_cases h' : j = i2
      · subst h'; rw [y2]; omega
      · have := k2.2 (by omega)
        omega
  · by_cases h : i3 < j
    · have := asc_lt ha z3 hj h
      rw [y3] at this
      omega
    · by_cases h' : j = i3
      · subst h'; rw [y3]; omega
      · have := k3.2 (by omega)
        omega
theorem col_iff {b y t i : Int} (hy : 0 < y) : (b + i * y ≤ t ∧ t < b + i * y + y) ↔ (t - b) / y = i := by
  have h1 := Int.emod_add_mul_ediv (t - b) y
  have h2 := Int.emod_nonneg (t - b) (show y ≠ 0 by omega)
  have h3 := Int.emod_lt_of_pos (t - b) hy
  constructor
  · rintro ⟨g1, g2⟩
    refine (Int.ediv_emod_unique hy (r := t - b - i * y) (q := i)).mpr ⟨?_, by omega, by omega⟩ |>.1
    rw [Int.mul_comm y i]
    omega
  · intro e
    rw [e, Int.mul_comm y i] at h1
    constructor <;> omega
def Fours4 (cv : List (Int × Int)) (b y : Int) (m : Nat) (fs : List (Option (List (Int × Int)))) : Prop := fs.length = m ∧ ∀ (k : Nat) o, fs[k]? = some o → Is4 (inCol cv (b + (k : Int) * y) (b + (k : Int) * y + y)) o
theorem Fours4.mem {cv : List (Int × Int)} {b y : Int} {m : Nat} {fs : List (Option (List (Int × Int)))} (h : Fours4 cv b y m fs) {qs : List (Int × Int)} (hq : some qs ∈ fs) : qs.length ≤ 4 ∧ ∀ q ∈ qs, q ∈ cv := by
  obtain ⟨k, hk, e⟩ := List.getElem_of_mem hq
  have h1 := h.2 k _ (List.getElem?_eq_getElem hk)
  rw [e] at h1
  refine ⟨?_, fun q hq' => (mem_inCol.mp (h1.mem q hq')).1⟩
  rcases h1 with ⟨z, _⟩ | ⟨q0, q1, q2, q3, z, _⟩
  · cases z
  · cases z
    exact Nat.le_refl _
end L2
set_option Elab.async false
set_option linter.all false
set_option maxRecDepth 100000
set_option maxHeartbeats 4000000
namespace L2
open PySem PySem.Spec PyProof.Rows
def Ch (e : Int) : Int → List (Int × Int) → Int → Prop
  | x, [], y => x = y
  | x, p :: r, y => (0 ≤ p.1 ∧ p.1 ≤ 40) ∧ p.2 * 2 ^ p.1.toNat = x ∧ x + 2 ^ p.1.toNat ≤ e ∧ (p.1 < 40 → x % (2 * 2 ^ p.1.toNat) = 0 → x + 2 * 2 ^ p.1.toNat ≤ e → False) ∧ Ch e (x + 2 ^ p.1.toNat) r y
theorem two_pos (k : Nat) : (0 : Int) < 2 ^ k := Int.pow_pos (by decide)
theorem Ch.le {e : Int} : ∀ {r : List (Int × Int)} {x y : Int}, Ch e x r y → x ≤ y
  | [], _, _, h => by cases h; exact Int.le_refl _
  | p :: r, x, y, h => by
    have := Ch.le h.2.2.2.2
    have := two_pos p.1.toNat
    omega
theorem Ch.snoc {e : Int} {p : Int × Int} : ∀ {r : List (Int × Int)} {x y : Int}, Ch e x r y → (0 ≤ p.1 ∧ p.1 ≤ 40) → p.2 * 2 ^ p.1.toNat = y → y + 2 ^ p.1.toNat ≤ e → (p.1 < 40 → y % (2 * 2 ^ p.1.toNat) = 0 → y + 2 * 2 ^ p.1.toNat ≤ e → False) → Ch e x (r ++ [p]) (y + 2 ^ p.1.toNat)
  | [], _, _, h, h1, h2, h3, h4 => by cases h; exact ⟨h1, h2, h3, h4, rfl⟩
  | _ :: _, _, _, h, h1, h2, h3, h4 => ⟨h.1, h.2.1, h.2.2.1, h.2.2.2.1, Ch.snoc h.2.2.2.2 h1 h2 h3 h4⟩
theorem pow_le_pow {a b : Nat} (h : a ≤ b) : (2 : Int) ^ a ≤ 2 ^ b := by
  obtain ⟨c, rfl⟩ := Nat.exists_eq_add_of_le h
  rw [Int.pow_add]
  have h1 := two_pos a
  have h2 := two_pos c
  have h3 : (2 : Int) ^ a * 1 ≤ 2 ^ a * 2 ^ c := Int.mul_le_mul_of_nonneg_left (by omega) (by omega)
  omega
theorem pow_dvd_pow {a b : Nat} (h : a ≤ b) : (2 : Int) ^ a ∣ 2 ^ b := by
  obtain ⟨c, rfl⟩ := Nat.exists_eq_add_of_le h
  rw [Int.pow_add]
  exact Int.dvd_mul_right _ _
theorem two_succ (k : Nat) : (2 : Int) * 2 ^ k = 2 ^ (k + 1) := by rw [Int.pow_succ]; omega
def Few (e : Int) (n : Nat) (x : Int) : Prop := ((2 : Int) ^ n ∣ x ∧ n ≤ 40 ∧ -(2 ^ 40) + (n : Int) ≤ x) ∨ ∃ m : Nat, (2 : Int) ^ m ∣ x ∧ e - x < 2 ^ m ∧ n + m ≤ 80
theorem Few.len {e x : Int} {n : Nat} (h : Few e n x) : n ≤ 80 := by
  rcases h with h | ⟨m, h⟩ <;> omega
theorem dvd_small {a : Nat} {x : Int} (h : (2 : Int) ^ a ∣ x) (h1 : -(2 ^ a) < x) (h2 : x < 2 ^ a) : x = 0 := by
  obtain ⟨c, rfl⟩ := h
  have hp := two_pos a
  have hc : c = 0 := by
    by_cases h0 : c ≤ -1
    · have : (2 : Int) ^ a * c ≤ 2 ^ a * (-1) := Int.mul_le_mul_of_nonneg_left h0 (by omega)
      omega
    · by_cases h0' : 1 ≤ c
      · have : (2 : Int) ^ a * 1 ≤ 2 ^ a * c := Int.mul_le_mul_of_nonneg_left h0' (by omega)
        omega
      · omega
  rw [hc, Int.mul_zero]
theorem level_le {e x : Int} {L : Nat} (he : e ≤ 2 ^ 40) (hx : -(2 ^ 40) ≤ x) (h1 : (2 : Int) ^ L ∣ x) (h2 : x + 2 ^ L ≤ e) : L ≤ 40 := by
  have hc : L ≤ 40 ∨ L = 41 ∨ 42 ≤ L := by omega
  rcases hc with h | rfl | h
  · exact h
  · exfalso
    obtain ⟨c, hc⟩ := h1
    have e1 : (2 : Int) ^ 41 = 2199023255552 := by decide
    have e2 : (2 : Int) ^ 40 = 1099511627776 := by decide
    rw [e1] at h2 hc
    rw [e2] at he hx
    omega
  · exfalso
    have h3 := pow_le_pow h
    have e1 : (2 : Int) ^ 42 = 4398046511104 := by decide
    have e2 : (2 : Int) ^ 40 = 1099511627776 := by decide
    rw [e1] at h3
    rw [e2] at he hx
    omega
theorem Few.step {e x : Int} {n L : Nat} (he : e ≤ 2 ^ 40) (hx : -(2 ^ 40) ≤ x) (h : Few e n x) (h1 : (2 : Int) ^ L ∣ x) (h2 : x + 2 ^ L ≤ e) (h3 : (2 : Int) ^ (L + 1) ∣ x → x + 2 ^ (L + 1) ≤ e → False) : Few e (n + 1) (x + 2 ^ L) := by
  have hL := level_le he hx h1 h2
  have hp := two_pos L
  have es : (2 : Int) ^ (L + 1) = 2 * 2 ^ L := (two_succ L).symm
  rcases h with ⟨hd, hn, hb⟩ | ⟨m, hd, hm, hnm⟩
  · by_cases ha : (2 : Int) ^ (L + 1) ∣ x
    · -- limited by the end
      have h4 : ¬ x + 2 ^ (L + 1) ≤ e := fun z => h3 ha z
      by_cases h40 : L = 40
      · subst h40
        have e2 : (2 : Int) ^ 40 = 1099511627776 := by decide
        have e3 : (2 : Int) ^ (40 + 1) = 2199023255552 := by decide
        have hx0 : x = 0 := dvd_small ha (by rw [e3]; rw [e2] at hx; omega) (by rw [e3]; rw [e2] at h2 he; omega)
        subst hx0
        right
        refine ⟨0, Int.one_dvd _, ?_, by omega⟩
        rw [e2] at he h2 ⊢
        show e - (0 + 1099511627776) < 1
        omega
      · right
        exact ⟨L, Int.dvd_add h1 (Int.dvd_refl _), by omega, by omega⟩
    · -- limited by where it begins
      have hLn : n ≤ L := by
        by_cases hlt : n ≤ L
        · exact hlt
        · exact absurd (Int.dvd_trans (pow_dvd_pow (by omega)) hd) ha
      have hd' : (2 : Int) ^ (L + 1) ∣ x + 2 ^ L := by
        obtain ⟨c, hc⟩ := h1
        have hodd : c % 2 = 1 := by
          by_cases h0 : c % 2 = 0
          · exfalso
            apply ha
            refine ⟨c / 2, ?_⟩
            have : c = 2 * (c / 2) := by omega
            rw [hc, es]
            rw [Int.mul_comm 2 ((2 : Int) ^ L), Int.mul_assoc, ← this]
          · omega
        refine ⟨(c + 1) / 2, ?_⟩
        have : c + 1 = 2 * ((c + 1) / 2) := by omega
        have h5 : x + 2 ^ L = 2 ^ L * (c + 1) := by rw [hc, Int.mul_add, Int.mul_one]
        rw [h5, es, Int.mul_comm 2 ((2 : Int) ^ L), Int.mul_assoc, ← this]
      left
      refine ⟨Int.dvd_trans (pow_dvd_pow (by omega)) hd', ?_, by omega⟩
      by_cases h40 : L = 40
      · subst h40
        have e2 : (2 : Int) ^ 40 = 1099511627776 := by decide
        obtain ⟨c, hc⟩ := h1
        rw [e2] at hc he h2 hx hb
        have : c ≠ 0 := by
          rintro rfl
          apply ha
          rw [hc]
          exact ⟨0, by omega⟩
        omega
      · omega
  · have hlt : L < m := by
      by_cases hlt : L < m
      · exact hlt
      · have := pow_le_pow (show m ≤ L by omega)
        omega
    have ha : (2 : Int) ^ (L + 1) ∣ x := Int.dvd_trans (pow_dvd_pow (by omega)) hd
    have h4 : ¬ x + 2 ^ (L + 1) ≤ e := fun z => h3 ha z
    right
    exact ⟨L, Int.dvd_add h1 (Int.dvd_refl _), by omega, by omega⟩
theorem Few.start {e b : Int} (hb : -(2 ^ 40) ≤ b) : Few e 0 b := .inl ⟨Int.one_dvd _, by omega, by simpa using hb⟩
end L2
set_option Elab.async false
set_option linter.all false
set_option maxRecDepth 100000
set_option maxHeartbeats 1000000
namespace L2
open PySem PySem.Spec PyProof.Rows
theorem Is4.congr {a b : List (Int × Int)} {o : Option (List (Int × Int))} (h : Is4 a o) (e : ∀ p, p ∈ a ↔ p ∈ b) : Is4 b o := by
  rcases h with ⟨h1, h2⟩ | ⟨q0, q1, q2, q3, h1, m0, m1, m2, m3, hb⟩
  · refine .inl ⟨h1, ?_⟩
    cases b with
    | nil => rfl
    | cons p ps =>
      have := (e p).mpr List.mem_cons_self
      rw [h2] at this
      cases this
  · exact .inr ⟨q0, q1, q2, q3, h1, (e _).mp m0, (e _).mp m1, (e _).mp m2, (e _).mp m3, fun p hp => hb p ((e p).mpr hp)⟩
theorem Is4.one (p : Int × Int) : Is4 [p] (some [p, p, p, p]) := .inr ⟨p, p, p, p, rfl, List.mem_cons_self, List.mem_cons_self, List.mem_cons_self, List.mem_cons_self, fun q hq => by
  rw [List.mem_singleton.mp hq]
  exact ⟨Int.le_refl _, Int.le_refl _, .inr ⟨rfl, Int.le_refl _⟩, .inr ⟨rfl, Int.le_refl _⟩⟩⟩
def inS (sm : List (Int × Int)) (l : Nat) (s : Int) : List (Int × Int) := inCol sm (s * 2 ^ l) (s * 2 ^ l + 2 ^ l)
theorem mem_inS {sm : List (Int × Int)} {l : Nat} {s : Int} {p : Int × Int} : p ∈ inS sm l s ↔ p ∈ sm ∧ p.1 / 2 ^ l = s := by
  unfold inS
  rw [mem_inCol]
  have := col_iff (b := 0) (t := p.1) (i := s) (two_pos l)
  rw [Int.sub_zero, Int.zero_add] at this
  rw [this]
theorem half_div (x : Int) (l : Nat) : x / 2 ^ (l + 1) = x / 2 ^ l / 2 := by
  rw [Int.pow_succ, ← Int.ediv_ediv_of_nonneg (Int.le_of_lt (two_pos l))]
theorem inS_half {sm : List (Int × Int)} {l : Nat} {s : Int} {p : Int × Int} : p ∈ inS sm l (2 * s) ++ inS sm l (2 * s + 1) ↔ p ∈ inS sm (l + 1) s := by
  rw [List.mem_append, mem_inS, mem_inS, mem_inS, half_div]
  constructor
  · rintro (⟨h1, h2⟩ | ⟨h1, h2⟩)
    · exact ⟨h1, by omega⟩
    · exact ⟨h1, by omega⟩
  · rintro ⟨h1, h2⟩
    have : p.1 / 2 ^ l = 2 * s ∨ p.1 / 2 ^ l = 2 * s + 1 := by omega
    rcases this with h | h
    · exact .inl ⟨h1, h⟩
    · exact .inr ⟨h1, h⟩
theorem inS_lt {sm : List (Int × Int)} {l : Nat} {a b : Int} (hab : a < b) : ∀ p ∈ inS sm l a, ∀ q ∈ inS sm l b, p.1 < q.1 := by
  intro p hp q hq
  have h1 := (mem_inS.mp hp).2
  have h2 := (mem_inS.mp hq).2
  by_cases h : p.1 < q.1
  · exact h
  · have := Int.ediv_le_ediv (two_pos l) (show q.1 ≤ p.1 by omega)
    omega
theorem inCol_join {sm : List (Int × Int)} {b x e : Int} (h1 : b ≤ x) (h2 : x ≤ e) (p : Int × Int) : p ∈ inCol sm b x ++ inCol sm x e ↔ p ∈ inCol sm b e := by
  rw [List.mem_append, mem_inCol, mem_inCol, mem_inCol]
  constructor
  · rintro (⟨g1, g2, g3⟩ | ⟨g1, g2, g3⟩)
    · exact ⟨g1, g2, by omega⟩
    · exact ⟨g1, by omega, g3⟩
  · rintro ⟨g1, g2, g3⟩
    by_cases h : p.1 < x
    · exact .inl ⟨g1, g2, h⟩
    · exact .inr ⟨g1, by omega, g3⟩
theorem inCol_lt {sm : List (Int × Int)} {b x e : Int} : ∀ p ∈ inCol sm b x, ∀ q ∈ inCol sm x e, p.1 < q.1 := by
  intro p hp q hq
  have h1 := (mem_inCol.mp hp).2
  have h2 := (mem_inCol.mp hq).2
  omega
theorem mem_putI {m : List (Int × Int)} (hn : (m.map (·.1)).Nodup) {t h : Int} {q : Int × Int} : q ∈ putI m t h ↔ (q.1 ≠ t ∧ q ∈ m) ∨ q = (t, h) := by
  obtain ⟨a, b⟩ := q
  rw [← getI_mem (putI_nodup hn), getI_put, ← getI_mem hn]
  by_cases e : a = t
  · subst e
    simp only [if_true, Option.some.injEq, ne_eq, not_true_eq_false, false_and, false_or, Prod.mk.injEq, true_and]
    exact eq_comm
  · simp [e]
def kOf (l : Nat) (s : Int) : List Key := [Sum.inl (l : Int), Sum.inl s]
theorem kOf_inj {l l' : Nat} {s s' : Int} (h : kOf l s = kOf l' s') : l = l' ∧ s = s' := by
  unfold kOf at h
  simp only [List.cons.injEq, Sum.inl.injEq, and_true] at h
  exact ⟨by omega, h.2⟩
def KfOk (H : Hp) (kvs : List (List Key × V)) (sm : List (Int × Int)) (G : Nat → Int → Prop) : Prop := ∀ (l : Nat) (s : Int), l ≤ 40 → G l s → ∃ o, FourIs H ((valV kvs (kOf l s)).getD .non) o ∧ Is4 (inS sm l s) o
theorem KfOk.same {H H' : Hp} {kvs : List (List Key × V)} {sm : List (Int × Int)} {G : Nat → Int → Prop} (h : KfOk H kvs sm G) (s : Same H H') : KfOk H' kvs sm G := fun l s' hl g => by
  obtain ⟨o, h1, h2⟩ := h l s' hl g
  exact ⟨o, h1.same s, h2⟩
theorem PrT.kpX {H H' : Hp} {a d : Addr} {cv : List (Int × Int)} {ob : HO} (h : PrT H a cv) (k : Kp d H H') (hd : H d = some ob) (hn : ∀ xs, ob ≠ .tup xs) : PrT H' a cv := by
  obtain ⟨us, g, p⟩ := h
  have ne : ∀ {b : Addr} {xs : List V}, H b = some (.tup xs) → H' b = some (.tup xs) := fun {b xs} e => k _ _ e fun z => by
    subst z
    rw [hd] at e
    exact hn _ (Option.some.inj e)
  exact ⟨us, ne g, Paired.mapP p fun _ _ ⟨a, e, z⟩ => ⟨a, e, ne z⟩⟩
theorem FourIs.kpX {H H' : Hp} {d : Addr} {v : V} {o : Option (List (Int × Int))} {ob : HO} (h : FourIs H v o) (k : Kp d H H') (hd : H d = some ob) (hn : ∀ xs, ob ≠ .tup xs) : FourIs H' v o := by
  cases h with
  | non => exact .non
  | pr e hl => exact .pr (e.kpX k hd hn) hl
theorem KfOk.kpX {H H' : Hp} {kvs : List (List Key × V)} {sm : List (Int × Int)} {G : Nat → Int → Prop} {d : Addr} {ob : HO} (h : KfOk H kvs sm G) (k : Kp d H H') (hd : H d = some ob) (hn : ∀ xs, ob ≠ .tup xs) : KfOk H' kvs sm G := fun l s' hl g => by
  obtain ⟨o, h1, h2⟩ := h l s' hl g
  exact ⟨o, h1.kpX k hd hn, h2⟩
theorem KfOk.other {H : Hp} {kvs : List (List Key × V)} {sm sm' : List (Int × Int)} {t : Int} (h : KfOk H kvs sm fun _ _ => True) (e : ∀ q : Int × Int, q.1 ≠ t → (q ∈ sm ↔ q ∈ sm')) : KfOk H kvs sm' fun l s => s ≠ t / 2 ^ l := fun l s hl g => by
  obtain ⟨o, h1, h2⟩ := h l s hl trivial
  refine ⟨o, h1, h2.congr fun p => ?_⟩
  rw [mem_inS, mem_inS]
  constructor
  · rintro ⟨g1, g2⟩
    exact ⟨(e p fun z => g (by rw [← g2, z])).mp g1, g2⟩
  · rintro ⟨g1, g2⟩
    exact ⟨(e p fun z => g (by rw [← g2, z])).mpr g1, g2⟩
theorem KfOk.put {H' : Hp} {kvs : List (List Key × V)} {sm : List (Int × Int)} {G : Nat → Int → Prop} {t : Int} {i : Nat} {v : V} {o : Option (List (Int × Int))} (h : KfOk H' kvs sm G) (hv : FourIs H' v o) (ho : Is4 (inS sm i (t / 2 ^ i)) o) :
    KfOk H' (putK kvs (kOf i (t / 2 ^ i)) v) sm fun l s => G l s ∨ (l = i ∧ s = t / 2 ^ l) := fun l s hl g => by
  by_cases e : kOf l s = kOf i (t / 2 ^ i)
  · obtain ⟨rfl, rfl⟩ := kOf_inj e
    refine ⟨o, ?_, ho⟩
    rw [valV_put, if_pos rfl]
    exact hv
  · rcases g with g | ⟨rfl, rfl⟩
    · obtain ⟨o', h1, h2⟩ := h l s hl g
      refine ⟨o', ?_, h2⟩
      rw [valV_put, if_neg e]
      exact h1
    · exact absurd rfl e
theorem KfOk.mono {H : Hp} {kvs : List (List Key × V)} {sm : List (Int × Int)} {G G' : Nat → Int → Prop} (h : KfOk H kvs sm G) (g : ∀ l s, l ≤ 40 → G' l s → G l s) : KfOk H kvs sm G' := fun l s hl hg => h l s hl (g l s hl hg)
theorem KfOk.tups {H H' : Hp} {kvs : List (List Key × V)} {sm : List (Int × Int)} {G : Nat → Int → Prop} (h : KfOk H kvs sm G) (t : ∀ b xs, H b = some (.tup xs) → H' b = some (.tup xs)) : KfOk H' kvs sm G := fun l s hl g => by
  obtain ⟨o, h1, h2⟩ := h l s hl g
  refine ⟨o, ?_, h2⟩
  generalize (valV kvs (kOf l s)).getD .non = v at h1
  cases h1 with
  | non => exact .non
  | pr e hl =>
    obtain ⟨us, g, p⟩ := e
    exact .pr ⟨us, t _ _ g, Paired.mapP p fun _ _ ⟨a, e, z⟩ => ⟨a, e, t _ _ z⟩⟩ hl
end L2
set_option Elab.async false
set_option linter.all false
set_option maxRecDepth 100000
set_option maxHeartbeats 4000000
namespace L2
open PySem PySem.Spec PyProof.Rows PySem.W
def dropI (m : List (Int × Int)) (t : Int) : List (Int × Int) := m.filter fun p => decide (p.1 ≠ t)
theorem dk_drop (m : List (Int × Int)) (t : Int) : dropK (dkOf m) (.inl t) = dkOf (dropI m t) := by
  unfold dropK dkOf dropI
  rw [List.filter_map]
  congr 1
  apply List.filter_congr
  intro p _
  simp [dkE, Function.comp]
theorem mem_dropI {m : List (Int × Int)} {t : Int} {q : Int × Int} : q ∈ dropI m t ↔ q.1 ≠ t ∧ q ∈ m := by
  unfold dropI
  rw [List.mem_filter, decide_eq_true_iff, and_comm]
theorem dropI_nodup {m : List (Int × Int)} {t : Int} (n : (m.map (·.1)).Nodup) : ((dropI m t).map (·.1)).Nodup := n.sublist ((List.filter_sublist).map _)
theorem dropI_len (m : List (Int × Int)) (t : Int) : (dropI m t).length ≤ m.length := List.length_filter_le _ _
section
variable {X : Cx} {o e : Expr} {apos cpos pos p : Pos} {td ty to : TE}
theorem qe_dpop1 (ho : QE X o td) (he : QE X e ty) (m : M1 X o "pop" apos e cpos := by exact ⟨rfl, rfl, rfl, rfl⟩) : QE X (.Call (.Attribute o "pop" apos) [e] [] cpos) (tDPop1 td ty) := ⟨pe_dpop1 ho.h he.h m⟩
def rInD : R2 := fun y x H Q => ∃ a o, x = .ref a ∧ DGet H a y o ∧ Q (.bl o.isSome) H
def rNotInDk : R2 := fun y x H Q => ∃ a o, x = .ref a ∧ DGet H a y o ∧ Q (.bl (!o.isSome)) H
theorem op_inDk (hu : X.A.units + 1 < cLine) : OpR X (compareOp .In) rInD := by
  intro pins s σ H x y v u Q I rx ry h
  obtain ⟨a, ov, rfl, g, q⟩ := h
  obtain rfl : u = Value.ref a := ry
  exact d_in hu I g rx fun s3 I3 => ⟨.bl ov.isSome, H, I3, rfl, q⟩
theorem op_notInDk (hu : X.A.units + 1 < cLine) : OpR X (compareOp .NotIn) rNotInDk := by
  intro pins s σ H x y v u Q I rx ry h
  obtain ⟨a, ov, rfl, g, q⟩ := h
  obtain rfl : u = Value.ref a := ry
  exact d_notIn hu I g rx fun s3 I3 => ⟨.bl (!ov.isSome), H, I3, rfl, q⟩
end
section
variable {K : PySem.W.Frag} {σ : St} {H : Hp} {Q : VK} {td ty : TE} {a b : Addr} {m m' : List (Int × Int)} {i v : Int}
def rDPopV (a : Addr) (y : V) (H : Hp) (Q : VK) : Prop := ∃ kvs k v, H a = some (.dK kvs) ∧ y = kV k ∧ valV kvs k = some v ∧ Q v (upd H a (.dK (dropK kvs k)))
def rDPopM (ty : TE) (σ : St) (Q : VK) (x : V) (H : Hp) : Prop := ∃ a, x = .ref a ∧ IsD H a ∧ ty σ H fun y H2 => rDPopV a y H2 Q
theorem rd_dpop0 (h : td σ H fun x H1 => rDPopM ty σ Q x H1) : tDPop1 td ty σ H Q := h
theorem rd_dpopK {kvs : List (Key × V)} (h1 : H a = some (.dK kvs)) (q : ty σ H fun y H2 => rDPopV a y H2 Q) : rDPopM ty σ Q (.ref a) H := ⟨a, rfl, .inl ⟨kvs, .inl h1⟩, q⟩
theorem rd_dpopI (h1 : H a = some (.dK (dkOf m))) (l : getI m i = some v) (q : ∀ H2, H2 a = some (.dK (dkOf (dropI m i))) → Kp a H H2 → Q (.int v) H2) : rDPopV a (.int i) H Q :=
  ⟨dkOf m, .inl i, .int v, h1, rfl, by rw [dk_val, l]; rfl, by rw [dk_drop]; exact q _ upd_same Kp.upd⟩
theorem rd_notInDI (h1 : H a = some (.dK (dkOf m))) (q : Q (.bl (!(getI m i).isSome)) H) : rNotInDk (.int i) (.ref a) H Q := ⟨a, _, rfl, DGet.k (k := Sum.inl i) h1, by rw [dk_val, Option.isSome_map]; exact q⟩
end
def ItS (lo c : Int) (n : Nat) : It := ⟨fun i _ => i < n, fun i H x H' => H' = H ∧ x = .int (lo + i * c), fun i _ => n ≤ i⟩
section
variable {X : Cx} {tg : Expr}
def rRngS (vs : List V) (H : Hp) (R : It → Hp → Prop) : Prop := ∃ i j c : Int, vs = [.int i, .int j, .int c] ∧ (0 < c ∧ c < 1000000 ∧ -(2 ^ 60) ≤ i ∧ i < 2 ^ 60 ∧ -(2 ^ 60) ≤ j ∧ j < 2 ^ 60) ∧ R (ItS i c ((j - i + c - 1) / c).toNat) H
def iRngS (ta : TA) : TI := fun σ H R => ta σ H fun vs H1 => rRngS vs H1 R
end
section
variable {σ : St} {H : Hp}
theorem rd_rngS {ta : TA} {R : It → Hp → Prop} (h : ta σ H fun vs H1 => rRngS vs H1 R) : iRngS ta σ H R := h
end
end L2
namespace L2
open PySem PySem.Spec PyProof.Rows PySem.W
section
variable {X : Cx}
end
section
variable {K : PySem.W.Frag} {H : Hp} {Q : VK} {p q : Addr} {xs : List V}
end
end L2
namespace L2
open PySem PySem.Spec PyProof.Rows PySem.W
section
variable {K : PySem.W.Frag} {H : Hp} {Q : VK} {a b : Addr} {l m : List Int}
end
end L2
namespace L2
theorem asc_keysN {cv : List (Int × Int)} (h : Asc cv) : (cv.map (·.1)).Nodup := by
  rw [List.nodup_iff_pairwise_ne, List.pairwise_map]
  exact h.imp fun {a b} hab e => by omega
end L2
namespace L2
open PySem PySem.Spec PyProof.Rows PySem.W
def FrL (l : List Addr) (H H' : Hp) : Prop := ∀ b o, H b = some o → b ∉ l → H' b = some o
theorem FrL.trans {l : List Addr} {H H1 H2 : Hp} (h : FrL l H H1) (g : FrL l H1 H2) : FrL l H H2 := fun b o e n => g b o (h b o e n) n
theorem FrL.mono {l l' : List Addr} {H H' : Hp} (h : FrL l H H') (s : ∀ b ∈ l, b ∈ l') : FrL l' H H' := fun b o e n => h b o e fun z => n (s b z)
theorem FrL.same {l : List Addr} {H H' : Hp} (h : Same H H') : FrL l H H' := fun b o e _ => h b o e
theorem FrL.kp {l : List Addr} {H H' : Hp} {q : Addr} (h : Kp q H H') (m : q ∈ l) : FrL l H H' := fun b o e n => h b o e fun z => n (z ▸ m)
theorem FrL.fresh {l : List Addr} {H0 H H' : Hp} (f : FrL l H H') (s : Same H0 H) (n : ∀ b ∈ l, H0 b = none) : Same H0 H' := fun b o e => f _ _ (s _ _ e) fun z => by rw [n b z] at e; cases e
theorem free_of {H0 H : Hp} {b : Addr} (s : Same H0 H) (e : H b = none) : H0 b = none := by
  cases e2 : H0 b with
  | none => rfl
  | some o => rw [s _ _ e2] at e; cases e
theorem Pot.noTup {H : Hp} {q : Addr} (h : Pot H q) : ∀ xs, H q ≠ some (.tup xs) := fun xs e => by
  obtain ⟨u, v, e2, _⟩ := h
  rw [e2] at e; cases e
theorem PrT.frL {H H' : Hp} {u : Addr} {cv : List (Int × Int)} {l : List Addr} (h : PrT H u cv) (f : FrL l H H') (nt : ∀ b ∈ l, ∀ xs, H b ≠ some (.tup xs)) : PrT H' u cv := by
  obtain ⟨us, h1, h2⟩ := h
  have kt : ∀ b xs, H b = some (.tup xs) → H' b = some (.tup xs) := fun b xs e => f _ _ e fun z => nt b z xs e
  exact ⟨us, kt _ _ h1, Paired.mapP h2 fun _ _ ⟨a, e, z⟩ => ⟨a, e, kt _ _ z⟩⟩
theorem PrT.tups {H H' : Hp} {u : Addr} {cv : List (Int × Int)} (h : PrT H u cv) (t : ∀ b xs, H b = some (.tup xs) → H' b = some (.tup xs)) : PrT H' u cv := by
  obtain ⟨us, h1, h2⟩ := h
  exact ⟨us, t _ _ h1, Paired.mapP h2 fun _ _ ⟨a, e, z⟩ => ⟨a, e, t _ _ z⟩⟩
end L2
namespace L2
theorem rd_stopIf {c : TT} {t u : TS} {D : Ends} {σ : St} {H : Hp} (h : tIfS c t u D σ H) : tIfS c t u D σ H := h
theorem rd_meet {t : TS} {D : Ends} {σ : St} {H : Hp} (P : St → Hp → Prop) (h1 : ∀ σ' H', P σ' H' → D.nx σ' H') (h2 : ∀ D' : Ends, D'.rt = D.rt → (∀ σ' H', P σ' H' → D'.nx σ' H') → t D' σ H) : t D σ H := h2 D rfl h1
end L2
set_option Elab.async false
set_option linter.all false
set_option maxRecDepth 100000
set_option maxHeartbeats 4000000
namespace L2
open PySem PySem.Spec PyProof.Rows PySem.W
section
variable {K : PySem.W.Frag} {H : Hp} {Q : VK} {x y : V} {o o' : Option (List (Int × Int))} {a b : Addr} {us ws : List V} {fs gs : List (Option (List (Int × Int)))}
end
theorem FourIs.tups {H H' : Hp} {v : V} {o : Option (List (Int × Int))} (h : FourIs H v o) (t : ∀ b xs, H b = some (.tup xs) → H' b = some (.tup xs)) : FourIs H' v o := by
  cases h with
  | non => exact .non
  | pr e hn => exact .pr (e.tups t) hn
theorem Fours.tups {H H' : Hp} {vs : List V} {os : List (Option (List (Int × Int)))} (h : Fours H vs os) (t : ∀ b xs, H b = some (.tup xs) → H' b = some (.tup xs)) : Fours H' vs os := h.mapP fun _ _ d => d.tups t
end L2
set_option Elab.async false
set_option linter.all false
set_option maxRecDepth 100000
set_option maxHeartbeats 4000000
namespace L2
open PySem PySem.Spec PyProof.Rows PySem.W
section
variable {X : Cx} {tg e : Expr} {te t : TE}
end
end L2
namespace L2
open PySem PySem.Spec PyProof.Rows PySem.W
section
variable {X : Cx} {σ : St} {H : Hp} {Q : VK} {R : It → Hp → Prop} {te t : TE} {d : Addr} {m : List (Int × Int)}
end
end L2
set_option Elab.async false
set_option linter.all false
set_option maxRecDepth 100000
set_option maxHeartbeats 4000000
namespace L2
open PySem PySem.Spec PyProof.Rows PySem.W
section
variable {K : Type} [DecidableEq K]
def dropH (xs : List (K × Addr × Value)) (k : K) : List (K × Addr × Value) := xs.filter fun x => decide (x.1 ≠ k)
theorem erase_map {α β : Type} (f : α → β) : ∀ (l : List α) (j : Nat), (l.map f).eraseIdx j = (l.eraseIdx j).map f
  | [], _ => rfl
  | _ :: _, 0 => rfl
  | x :: l, j + 1 => congrArg (f x :: ·) (erase_map f l j)
theorem dropH_none {k : K} : ∀ {xs : List (K × Addr × Value)}, k ∉ xs.map (·.1) → dropH xs k = xs := fun {xs} h => by
  unfold dropH
  rw [List.filter_eq_self]
  intro x hx
  simp only [decide_eq_true_eq]
  exact fun e => h (List.mem_map.mpr ⟨x, hx, e⟩)
theorem dropH_erase {k : K} {p : Addr × Value} : ∀ {xs : List (K × Addr × Value)} {j : Nat}, (xs.map (·.1)).Nodup → xs[j]? = some (k, p) → xs.eraseIdx j = dropH xs k
  | [], j, _, h => by simp at h
  | x :: xs, 0, n, h => by
    simp at h
    subst h
    rw [List.map_cons, List.nodup_cons] at n
    rw [List.eraseIdx_cons_zero]
    unfold dropH
    rw [List.filter_cons_of_neg (by simp)]
    exact (dropH_none n.1).symm
  | x :: xs, j + 1, n, h => by
    rw [List.map_cons, List.nodup_cons] at n
    have h' : xs[j]? = some (k, p) := by simpa using h
    have hne : x.1 ≠ k := fun e => n.1 (by rw [e]; exact List.mem_map.mpr ⟨(k, p), List.mem_of_getElem? h', rfl⟩)
    rw [List.eraseIdx_cons_succ]
    unfold dropH
    rw [List.filter_cons_of_pos (by simpa using hne)]
    congr 1
    exact dropH_erase n.2 h'
variable {prog : Program} {w : World} {knd : HeapKind prog w K} {A : Around} {E : Value → Shared → Prop} {s : Shared} {d a : Addr} {k : K} {xs : List (K × Addr × Value)}
theorem takeOutH {Q : Option DictEntry → Shared → Prop} (hu : knd.room A) (hkey : knd.is s.heap k a) (hm : s.heap.DictOfH knd d xs) (hsz : xs.length ≤ sizeLine)
    (hnone : atKey xs k = none → Q none { s with toks := s.toks + knd.draws k })
    (hsome : ∀ e p, atKey xs k = some p → e.val = p.2 → ∀ h', h'.DictOfH knd d (dropH xs k) → Heap.SameBut d s.heap h' → Q (some e) { s with heap := h', toks := s.toks + knd.draws k }) :
    wpAny (model prog w) A (Builtin.Dict.takeOut d (.ref a)) Q E s := by
  obtain ⟨o, es, ep, ho, hc, hd, he, his, hn⟩ := hm
  unfold Builtin.Dict.takeOut
  try with_reducible refine wpAny_holding ?_
  refine wpAny_bind (knd.pyHash hu hkey (wpAny_bind (wpAny_dictFind_heap (s := { s with toks := s.toks + knd.draws k }) hu hkey ho hd he his hn ?_ ?_)))
  · intro hno
    exact wpAny_pure (hnone (atKey_none_of_get hno))
  · intro j p hj
    refine wpAny_bind (wpAny_dictEntries (s := { s with toks := s.toks + knd.draws k }) ho hd ?_)
    rw [entry_at he j, hj]
    refine wpAny_bind (wpAny_updateDictKeys (hz := by have e := size_of_entries he; omega) (s := { s with toks := s.toks + knd.draws k }) ho hd (wpAny_pure (hsome _ p (atKey_of_get hn hj) rfl _ ⟨_, _, ep + 1, Heap.get?_update_self _ ho (Obj.isFreed_of_dict (Obj.data_mapDictKeys hd _)),
      hc.mapDictKeys _, Obj.data_mapDictKeys hd _, ?_, ?_, ?_⟩ (Heap.SameBut.update ..))))
    · rw [← dropH_erase hn hj, ← erase_map, ← he]
      obtain ⟨l⟩ := es
      simp
    · intro x hx
      exact knd.keeps (his x (List.mem_filter.mp hx).1) ho hd (Heap.SameBut.update ..)
    · exact hn.sublist ((List.filter_sublist).map _)
theorem meetsH_pop2 (knd : HeapKind prog w K) (d a : Addr) (hd : (d == sysModules) = false) (dflt : Value) :
    MeetsIn prog w (Builtin.«dict.pop» ⟨[.ref d, .ref a, dflt], []⟩) (fun A R s => knd.room A.in1 ∧ ∃ k xs, knd.is s.heap k a ∧ s.heap.DictOfH knd d xs ∧ xs.length ≤ sizeLine ∧
      (∀ p, atKey xs k = some p → ∀ h', h'.DictOfH knd d (dropH xs k) → Heap.SameBut d s.heap h' → ∀ t, R (.ok (.ret p.2)) { s with heap := h', toks := t }) ∧
      (atKey xs k = none → ∀ t, R (.ok (.ret dflt)) { s with toks := t })) :=
  .of_wp fun A R s ⟨hu, k, xs, hkey, hm, hsz, h1, h2⟩ => by
    have hd' := hd
    unfold Builtin.«dict.pop»
    refine wpAny_bind ?_
    unfold Builtin.Dict.keyAndDefault
    refine wpAny_bind (wpAny_notOrdered_dict hm.typeIs ?_)
    show wpAny _ _ (pure (d, Value.ref a, some dflt)) _ _ s
    refine wpAny_pure ?_
    obtain ⟨o, es, ep, ho, hc, hdd, he, his, hn⟩ := id hm
    have hkp : (keyPart (Value.ref a)).isSome = false := rfl
    simp only [hkp, Bool.false_eq_true, if_false]
    refine wpAny_bind (wpAny_dictEntries ho hdd (wpAny_bind (wpAny_pure ?_)))
    by_cases hem : es.isEmpty = true
    · rw [if_pos hem]
      have hx : xs = [] := by
        have := size_of_entries he
        have h0 : es.size = 0 := by simpa [Array.isEmpty] using hem
        exact List.length_eq_zero_iff.mp (by omega)
      subst hx
      refine wpAny_bind (wpAny_rule (wpAny_bind (wpAny_pure ?_)))
      simp only [Option.isNone_none, if_true]
      refine wpAny_bind (wpAny_missedRemoval_other hd ?_)
      exact wpAny_bind (wpAny_rule (wpAny_pure ⟨dflt, rfl, h2 rfl _⟩))
    · rw [if_neg hem]
      refine wpAny_bind (takeOutH hu hkey hm hsz (fun hno => ?_) fun e p hp hev h' hm' hs' => ?_)
      · simp only [Option.isNone_none, if_true]
        refine wpAny_bind (wpAny_missedRemoval_other hd ?_)
        exact wpAny_bind (wpAny_rule (wpAny_pure ⟨dflt, rfl, h2 hno _⟩))
      · simp only [Option.isNone_some, Bool.false_eq_true, if_false]
        exact wpAny_bind (wpAny_letGo (wpAny_pure ⟨e.val, rfl, by rw [hev]; exact h1 p hp h' hm' hs' _⟩))
end
theorem KT.dropT {H : Hp} {kvs : List (List Key × V)} {xs : List (List Key × Addr × Value)} (r : KT H kvs xs) (k : List Key) : KT H (dropK kvs k) (dropH xs k) := by
  unfold dropK dropH
  induction r with
  | nil => exact .nil
  | @cons p q ps qs h t ih =>
    by_cases e : p.1 = k
    · rw [List.filter_cons_of_neg (by simpa using e), List.filter_cons_of_neg (by simpa using h.1.symm.trans e)]
      exact ih
    · rw [List.filter_cons_of_pos (by simpa using e), List.filter_cons_of_pos (by simpa using fun z => e (h.1.trans z))]
      exact .cons h ih
section
variable {X : Cx} {pins : List (Addr × Obj)} {σ : St} {H : Hp} {s : Shared} {a b : Addr} {kvs : List (List Key × V)} {k : List Key} {A : Around} {E : Value → Shared → Prop}
theorem d_popT {z : V} {r : Value} {Q : Value → Shared → Prop} (hu : A.units + 1 < cLine) (I : Inv X pins σ H s) (e : H a = some (.dT kvs)) (eb : H b = some (.tup (k.map kV))) (rz : RelV z r)
    (h1 : ∀ v, valV kvs k = some v → ∀ w' s', Inv X pins σ (upd H a (.dT (dropK kvs k))) s' → RelV v w' → Q w' s') (h2 : valV kvs k = none → ∀ s', Inv X pins σ H s' → Q r s') :
    wpAny (model X.prog X.w) A (call (.builtin "dict.pop") [.ref a, .ref b, r]) Q E s := by
  obtain ⟨z, hd, xs, rel, dd⟩ := dt_of I.hok e
  have hz : xs.length ≤ sizeLine := by rw [← Paired.length rel]; exact z
  refine call_meetsIn PySem.F.slot_dict_pop dd.typeIs PySem.F.entry_dict_pop (PySem.F.args_dict_pop_3 _ _ _) (meetsH_pop2 (tupleKind (mixKind X.prog X.w)) a b hd r) ⟨tupleKind_room_in1 hu, k, xs, key_of I.hok eb, dd, hz, fun p hp h' dd' hs t => ?_, fun hn t => ?_⟩
  · have hv := rel.val k
    rw [hp] at hv
    cases hk : valV kvs k with
    | none => rw [hk] at hv; exact hv.elim
    | some v =>
      rw [hk] at hv
      refine h1 v hk _ _ ?_ hv
      obtain ⟨q, es, ep, hq, g2, g3, g4, _, g5⟩ := dd'
      refine d_write I (by rw [e]; exact True.intro) hs ⟨q, hq⟩ ⟨Nat.le_trans (List.length_filter_le _ _) z, hd, _, (rel.dropT k).keeps fun c ys ec => ?_, q, es, ep, hq, g2, g3, g4, g5⟩
      rw [upd_ne (ne_of ec e (fun z => nomatch z))]
      exact ec
  · have hv := rel.val k
    rw [hn] at hv
    cases hk : valV kvs k with
    | some v => rw [hk] at hv; exact hv.elim
    | none => exact h2 hk _ (I.tok _)
end
def rDPopT (a : Addr) (y z : V) (H : Hp) (Q : VK) : Prop := ∃ kvs k b, H a = some (.dT kvs) ∧ y = .ref b ∧ H b = some (.tup (k.map kV)) ∧
  (∀ v, valV kvs k = some v → Q v (upd H a (.dT (dropK kvs k)))) ∧ (valV kvs k = none → Q z H)
def rDPopTM (ty tx : TE) (σ : St) (Q : VK) (x : V) (H : Hp) : Prop := ∃ a, x = .ref a ∧ IsD H a ∧ ty σ H fun y H2 => tx σ H2 fun z H3 => rDPopT a y z H3 Q
def tDPopT (td ty tx : TE) : TE := fun σ H Q => td σ H fun x H1 => rDPopTM ty tx σ Q x H1
theorem pe_dpopT {X : Cx} {o e f : Expr} {apos cpos : Pos} {td ty tx : TE} (hu : X.A.units + 1 < cLine) (ho : PE X o td) (he : PE X e ty) (hf : PE X f tx) (m : M2 X o "pop" apos e f cpos) : PE X (.Call (.Attribute o "pop" apos) [e, f] [] cpos) (tDPopT td ty tx) := by
  intro pins s σ H Q I h
  refine wpAny_Call_method m.base m.few m.line PySem.F.plainAttrs_dict PySem.F.slot_dict_pop PySem.F.type_dict_pop (thn (ho pins s σ H _ I h) fun u s1 ⟨x, H1, I1, rx, a, ex, d, q1⟩ => ?_)
  subst ex
  obtain rfl : u = Value.ref a := rx
  obtain ⟨t1, t2, _⟩ := isD_at I1 d
  refine ⟨t1, t2, ?_⟩
  rw [m.trees]
  refine Calls.callWith_builtin rfl (Calls.evalArgs_plain (Calls.spliced_cons (thn (he pins s1 σ H1 _ I1 q1) fun iv s2 ⟨y, H2, I2, ry, q2⟩ =>
    Calls.spliced_cons (thn (hf pins s2 σ H2 _ I2 q2) fun fv s3 ⟨z, H3, I3, rz, kvs, k, b, ea, ey, eb, q3, q4⟩ => Calls.spliced_nil ?_))))
  subst ey
  obtain rfl : iv = Value.ref b := ry
  exact d_popT hu I3 ea eb rz (fun v l w' s4 I4 rw' => ⟨v, _, I4, rw', q3 v l⟩) fun l s4 I4 => ⟨z, H3, I4, rz, q4 l⟩
section
variable {X : Cx} {o e f : Expr} {apos cpos pos p : Pos} {td ty tx : TE}
theorem qe_dpopT (hu : X.A.units + 1 < cLine) (ho : QE X o td) (he : QE X e ty) (hf : QE X f tx) (m : M2 X o "pop" apos e f cpos := by exact ⟨rfl, rfl, rfl, rfl⟩) : QE X (.Call (.Attribute o "pop" apos) [e, f] [] cpos) (tDPopT td ty tx) := ⟨pe_dpopT hu ho.h he.h hf.h m⟩
variable {σ : St} {H : Hp} {Q : VK} {a b : Addr} {kvs : List (List Key × V)} {k : List Key} {z : V}
theorem rd_dpopT0 (h : td σ H fun x H1 => rDPopTM ty tx σ Q x H1) : tDPopT td ty tx σ H Q := h
theorem rd_dpopTm (h1 : H a = some (.dT kvs)) (q : ty σ H fun y H2 => tx σ H2 fun z H3 => rDPopT a y z H3 Q) : rDPopTM ty tx σ Q (.ref a) H := ⟨a, rfl, .inr ⟨kvs, .inl h1⟩, q⟩
theorem dropK_none (h : valV kvs k = none) : dropK kvs k = kvs := by
  unfold dropK
  rw [List.filter_eq_self]
  intro x hx
  simp only [decide_eq_true_eq]
  intro e
  unfold valV at h
  rw [Option.map_eq_none_iff, List.find?_eq_none] at h
  exact h x hx (by simpa using e)
theorem rd_dpopT (h1 : H a = some (.dT kvs)) (hb : H b = some (.tup (k.map kV))) (q : ∀ v H2, H2 a = some (.dT (dropK kvs k)) → Kp a H H2 → Q v H2) : rDPopT a (.ref b) z H Q :=
  ⟨kvs, k, b, h1, rfl, hb, fun v _ => q v _ upd_same Kp.upd, fun l => q z H (by rw [dropK_none l]; exact h1) fun _ _ e _ => e⟩
theorem rd_inDT (h1 : H a = some (.dT kvs)) (hb : H b = some (.tup (k.map kV))) (q : Q (.bl (valV kvs k).isSome) H) : rInD (.ref b) (.ref a) H Q := ⟨a, _, rfl, DGet.t h1 hb, q⟩
theorem rd_notInDT (h1 : H a = some (.dT kvs)) (hb : H b = some (.tup (k.map kV))) (q : Q (.bl (!(valV kvs k).isSome)) H) : rNotInDk (.ref b) (.ref a) H Q := ⟨a, _, rfl, DGet.t h1 hb, q⟩
end
end L2
set_option Elab.async false
set_option linter.all false
set_option maxRecDepth 100000
set_option maxHeartbeats 4000000
namespace L2
open PySem PySem.Spec PyProof.Rows PySem.W
def rngL (n : Nat) : List V := (List.range n).map fun (i : Nat) => V.int (i : Int)
def rListRng (vs : List V) (H : Hp) (Q : VK) : Prop := ∃ j : Int, vs = [.int j] ∧ 0 ≤ j ∧ j ≤ 1000 ∧ ∀ l, H l = none → Q (.ref l) (upd H l (.lst (rngL j.toNat)))
def tListRng (ta : TA) : TE := fun σ H Q => ta σ H fun vs H1 => rListRng vs H1 Q
theorem rng_vals : ∀ (n : Nat) (its : List Value), its.length = n → (∀ (j : Nat) v, its[j]? = some v → ∃ t, v = Value.int (j : Int) t) → Vals (rngL n) its := by
  intro n
  induction n with
  | zero =>
    intro its h _
    obtain rfl := List.length_eq_zero_iff.mp h
    exact .nil
  | succ n ih =>
    intro its h g
    have hl : n < its.length := by omega
    have e : its = its.take n ++ [its[n]] := by
      rw [← List.take_succ_eq_append_getElem hl, List.take_of_length_le (by omega)]
    have h1 : Vals (rngL n) (its.take n) := ih _ (by rw [List.length_take]; omega) fun j v hv => by
      rw [List.getElem?_take] at hv
      split at hv
      · exact g j v hv
      · cases hv
    rw [e]
    have : rngL (n + 1) = rngL n ++ [V.int (n : Int)] := by unfold rngL; rw [List.range_succ, List.map_append]; rfl
    rw [this]
    obtain ⟨t, ht⟩ := g n _ (List.getElem?_eq_getElem hl)
    exact Paired.snoc h1 ⟨t, ht⟩
section
variable {X : Cx} {a : Expr} {ta : TA} {p p2 pos pos2 : Pos}
theorem qe_listRng (hc : X.calm = true) (hgl : Gl X "list") (hml : X.mg "list" = none) (hg : Gl X "range") (hm : X.mg "range" = none) (ha : QA X [a] ta) (hs : isStar a = false := by rfl) :
    QE X (.Call (.Name "list" p) [.Call (.Name "range" p2) [a] [] pos2] [] pos) (tListRng ta) := by
  refine ⟨?_⟩
  intro pins s σ H Q I h
  refine wpAny_Call_Name_kw (ld_blt I hgl hml bt_list ?_ (by decide) (by decide))
  refine PyProof.Rows.callWith_type1 ?_ rfl rfl
  show wpAny _ _ (spliced ((false, eval (.Call (.Name "range" p2) [a] [] pos2) X.env) :: backTo pos (starEach [] X.env))) _ _ s
  refine Calls.spliced_cons ?_
  refine Call_ (ld_blt I hg hm boot_range (PyProof.Rows.callWith_type1 (thn (ha.h pos2 pins s σ H _ I h) fun us s1 ⟨vs, H1, I1, r1, q1⟩ => ?_) (star_cons hs) rfl))
  obtain ⟨j, e, q1, q2, q⟩ := q1
  subst e
  cases r1 with
  | cons r rr =>
    cases rr
    obtain ⟨t, rfl⟩ := r
    refine call_range_1 (Calls.spliced_nil ?_)
    have I2 : Inv X pins σ H1 { s1 with heap := s1.heap.push { cls := .type "range", data := .fields #[.int 0 s1.toks, .int j t, .int 1 (s1.toks + 1)] }, toks := s1.toks + 1 + 1 } := I1.kept fun b o e => Heap.get?_push_of_some _ e
    refine call_list_range (n := j.toNat) (I1.ok.hd hc) (IsRange.new ..) (small_one (by omega) (by omega) (by omega) (by omega)) ?_ (by omega) fun h' tk acc' c' hk hS hI => ?_
    · rw [rangeSize_one]; split <;> omega
    · refine ⟨.ref _, _, I2.laid (o := .lst (rngL j.toNat)) (t' := tk) hk (Nat.le_refl _) ?_, rfl, q _ (I2.hok.fresh (Nat.le_refl _))⟩
      refine ⟨?_, acc'.toList, c', rng_vals _ _ ?_ fun i v hv => ?_, ?_⟩
      · unfold rngL; rw [List.length_map, List.length_range]; show _ ≤ 2 ^ 24; omega
      · rw [Array.length_toList]; exact hI.1
      · obtain ⟨t, ht⟩ := hI.2 i v (by rw [← Array.getElem?_toList]; exact hv)
        exact ⟨t, by rw [ht]; simp⟩
      · rw [hS]
theorem rd_listRng0 {σ : St} {H : Hp} {Q : VK} (h : ta σ H fun vs H1 => rListRng vs H1 Q) : tListRng ta σ H Q := h
theorem rd_listRng {H : Hp} {Q : VK} {j : Int} (h0 : 0 ≤ j) (h1 : j ≤ 1000) (q : ∀ l H2, H l = none → H2 l = some (.lst (rngL j.toNat)) → Same H H2 → Q (.ref l) H2) : rListRng [.int j] H Q :=
  ⟨j, rfl, h0, h1, fun l hl => q l _ hl upd_same (Same.new hl)⟩
end
end L2
set_option Elab.async false
set_option linter.all false
set_option maxRecDepth 100000
set_option maxHeartbeats 4000000
namespace L2
open PySem PySem.Spec PyProof.Rows PySem.W
theorem ko_inL {X : Cx} (K : PySem.W.Frag) (h : X.K = K) : OpR X (compareOp .In) (rIn K false) := h ▸ op_in_seq
def natL (l : List Nat) : List V := l.map fun (i : Nat) => V.int (i : Int)
theorem natL_flat (l : List Nat) : (natL l).all flatV = true := by
  unfold natL
  rw [List.all_map]
  simp [List.all_eq_true, flatV, Function.comp]
theorem inV_natL (k : Nat) : ∀ l : List Nat, inV (.int (k : Int)) (natL l) = decide (k ∈ l)
  | [] => rfl
  | x :: l => by
    have ih := inV_natL k l
    unfold inV natL at ih ⊢
    rw [List.map_cons, List.any_cons, ih]
    by_cases e : x = k
    · subst e; simp [eqV]
    · have : ¬ ((x : Int) = (k : Int)) := by omega
      simp [eqV, this, e, Ne.symm e]
theorem rd_inN {K : PySem.W.Frag} {H : Hp} {Q : VK} {p : Addr} {l : List Nat} {i : Int} {k : Nat} (hi : i = (k : Int)) (h1 : H p = some (.lst (natL l))) (q : Q (.bl (decide (k ∈ l))) H) : rIn K false (.int i) (.ref p) H Q :=
  ⟨p, _, rfl, .inl (SqL.of h1), rfl, natL_flat l, by subst hi; rw [if_neg (by decide), inV_natL]; exact q⟩
end L2
set_option Elab.async false
set_option linter.all false
set_option maxRecDepth 100000
set_option maxHeartbeats 1000000
namespace My
open PySem L2
local macro_rules | `(tactic| walk_at "w") => `(tactic| repeat walk_at "rd")
local macro_rules | `(tactic| walk_at "s") => `(tactic| simp only [L2.start, List.length_cons, List.length_nil, List.map_cons, List.map_nil, Nat.reduceAdd, Nat.reduceSub, List.replicate_succ, List.replicate_zero, List.cons_append, List.nil_append])
local macro_rules | `(tactic| walk_at "o") => `(tactic| first | exact Or.inl rfl | exact Or.inr rfl)
def top (i : Nat) : Stmt := PySem.Challenge.pw_fourpoints_k72_columns_asked_for.main.body.getD i (.Pass ⟨0, 0, 0, 0⟩)
abbrev s__wall : Stmt := top 0
abbrev s_is_whole : Stmt := top 8
abbrev s_column_of : Stmt := top 10
abbrev s_times_of : Stmt := top 11
abbrev s_columns_of : Stmt := top 12
abbrev s_moved : Stmt := top 13
abbrev s_widened : Stmt := top 14
abbrev s_narrowed : Stmt := top 15
abbrev s_with_columns : Stmt := top 16
abbrev s_height_of : Stmt := top 18
abbrev s_four_of : Stmt := top 19
abbrev s_joined : Stmt := top 20
abbrev s_is_border : Stmt := top 24
abbrev s_check_borders : Stmt := top 25
abbrev s_check_time : Stmt := top 26
abbrev s_check_window : Stmt := top 27
abbrev s_stretches : Stmt := top 28
abbrev s_longest : Stmt := top 29
abbrev s_Tree___init__ : Stmt := inClass (top 30) 0
abbrev s_Tree_put : Stmt := inClass (top 30) 1
abbrev s_Tree_take : Stmt := inClass (top 30) 2
abbrev s_Tree_renew : Stmt := inClass (top 30) 3
abbrev s_Tree_four : Stmt := inClass (top 30) 4
abbrev s_Tree_fours : Stmt := inClass (top 30) 5
abbrev s_Tree_told : Stmt := inClass (top 30) 6
abbrev s_known_in : Stmt := top 32
abbrev s_View___init__ : Stmt := inClass (top 33) 0
abbrev s_View_fours : Stmt := inClass (top 33) 1
abbrev s_View_forget : Stmt := inClass (top 33) 2
abbrev s_View_on : Stmt := inClass (top 33) 3
abbrev s_View_wide : Stmt := inClass (top 33) 4
abbrev s_View_narrow : Stmt := inClass (top 33) 5
abbrev s_View_columns : Stmt := inClass (top 33) 6
abbrev s_View_step_to : Stmt := inClass (top 33) 7
abbrev s_Store___init__ : Stmt := inClass (top 35) 0
abbrev s_Store_put : Stmt := inClass (top 35) 1
abbrev s_Store_take : Stmt := inClass (top 35) 2
abbrev s_Store_height : Stmt := inClass (top 35) 3
abbrev s_Store_check_sample : Stmt := inClass (top 35) 4
abbrev s_Store_do : Stmt := inClass (top 35) 5
abbrev s_Store_bring : Stmt := inClass (top 35) 6
abbrev s_Store_undo : Stmt := inClass (top 35) 7
abbrev s_Store_times : Stmt := inClass (top 35) 8
abbrev s_Store_four : Stmt := inClass (top 35) 9
abbrev s_Store_fours : Stmt := inClass (top 35) 10
abbrev s_Store_told : Stmt := inClass (top 35) 11
abbrev s_Store_watch : Stmt := inClass (top 35) 12
abbrev s_Store_news : Stmt := inClass (top 35) 13
abbrev s_l_cell : Stmt := top 37
abbrev s_l_pot : Stmt := top 38
abbrev s_l_draw : Stmt := top 39
abbrev s_l_in : Stmt := top 40
abbrev s_l_within : Stmt := top 41
abbrev s_l_height : Stmt := top 42
abbrev s_l_window : Stmt := top 43
abbrev s_l_time : Stmt := top 44
abbrev s_l_curve : Stmt := top 45
abbrev s_l_step : Stmt := top 48
abbrev s_l_go : Stmt := top 49
abbrev s_l_known : Stmt := top 50
abbrev s_law : Stmt := top 51
set_option genInjectivity false in
set_option genSizeOf false in
set_option genSizeOfSpec false in
structure Ad where
  f__wall : Addr
  d__wall : FuncData
  f_is_whole : Addr
  d_is_whole : FuncData
  f_column_of : Addr
  d_column_of : FuncData
  f_times_of : Addr
  d_times_of : FuncData
  f_columns_of : Addr
  d_columns_of : FuncData
  f_moved : Addr
  d_moved : FuncData
  f_widened : Addr
  d_widened : FuncData
  f_narrowed : Addr
  d_narrowed : FuncData
  f_with_columns : Addr
  d_with_columns : FuncData
  f_height_of : Addr
  d_height_of : FuncData
  f_four_of : Addr
  d_four_of : FuncData
  f_joined : Addr
  d_joined : FuncData
  f_is_border : Addr
  d_is_border : FuncData
  f_check_borders : Addr
  d_check_borders : FuncData
  f_check_time : Addr
  d_check_time : FuncData
  f_check_window : Addr
  d_check_window : FuncData
  f_stretches : Addr
  d_stretches : FuncData
  f_longest : Addr
  d_longest : FuncData
  f_Tree___init__ : Addr
  d_Tree___init__ : FuncData
  f_Tree_put : Addr
  d_Tree_put : FuncData
  f_Tree_take : Addr
  d_Tree_take : FuncData
  f_Tree_renew : Addr
  d_Tree_renew : FuncData
  f_Tree_four : Addr
  d_Tree_four : FuncData
  f_Tree_fours : Addr
  d_Tree_fours : FuncData
  f_Tree_told : Addr
  d_Tree_told : FuncData
  f_known_in : Addr
  d_known_in : FuncData
  f_View___init__ : Addr
  d_View___init__ : FuncData
  f_View_fours : Addr
  d_View_fours : FuncData
  f_View_forget : Addr
  d_View_forget : FuncData
  f_View_on : Addr
  d_View_on : FuncData
  f_View_wide : Addr
  d_View_wide : FuncData
  f_View_narrow : Addr
  d_View_narrow : FuncData
  f_View_columns : Addr
  d_View_columns : FuncData
  f_View_step_to : Addr
  d_View_step_to : FuncData
  f_Store___init__ : Addr
  d_Store___init__ : FuncData
  f_Store_put : Addr
  d_Store_put : FuncData
  f_Store_take : Addr
  d_Store_take : FuncData
  f_Store_height : Addr
  d_Store_height : FuncData
  f_Store_check_sample : Addr
  d_Store_check_sample : FuncData
  f_Store_do : Addr
  d_Store_do : FuncData
  f_Store_bring : Addr
  d_Store_bring : FuncData
  f_Store_undo : Addr
  d_Store_undo : FuncData
  f_Store_times : Addr
  d_Store_times : FuncData
  f_Store_four : Addr
  d_Store_four : FuncData
  f_Store_fours : Addr
  d_Store_fours : FuncData
  f_Store_told : Addr
  d_Store_told : FuncData
  f_Store_watch : Addr
  d_Store_watch : FuncData
  f_Store_news : Addr
  d_Store_news : FuncData
  f_l_cell : Addr
  d_l_cell : FuncData
  f_l_pot : Addr
  d_l_pot : FuncData
  f_l_draw : Addr
  d_l_draw : FuncData
  f_l_in : Addr
  d_l_in : FuncData
  f_l_within : Addr
  d_l_within : FuncData
  f_l_height : Addr
  d_l_height : FuncData
  f_l_window : Addr
  d_l_window : FuncData
  f_l_time : Addr
  d_l_time : FuncData
  f_l_curve : Addr
  d_l_curve : FuncData
  f_l_step : Addr
  d_l_step : FuncData
  f_l_go : Addr
  d_l_go : FuncData
  f_l_known : Addr
  d_l_known : FuncData
  f_law : Addr
  d_law : FuncData
  C_Tree : Addr
  C_View : Addr
  C_Store : Addr
  C_NoColumn : Addr
  C_NotHalf : Addr
  C_OutOfTimes : Addr
  C_NoSample : Addr
  c_TOP_LEVEL : Tok
  c_TIMES_END : Tok
structure Txt (K : PySem.W.Frag) (mg : Str → Option Value) (a : Ad) : Prop where
  F__wall : Fun K "_wall" "_wall" s__wall a.f__wall a.d__wall
  b__wall : Binds K a.d__wall ["k"] []
  m__wall : mg "_wall" = some (.ref a.f__wall)
  F_is_whole : Fun K "is_whole" "is_whole" s_is_whole a.f_is_whole a.d_is_whole
  b_is_whole : Binds K a.d_is_whole ["thing"] []
  m_is_whole : mg "is_whole" = some (.ref a.f_is_whole)
  F_column_of : Fun K "column_of" "column_of" s_column_of a.f_column_of a.d_column_of
  b_column_of : Binds K a.d_column_of ["window", "t"] []
  m_column_of : mg "column_of" = some (.ref a.f_column_of)
  F_times_of : Fun K "times_of" "times_of" s_times_of a.f_times_of a.d_times_of
  b_times_of : Binds K a.d_times_of ["window", "k"] []
  m_times_of : mg "times_of" = some (.ref a.f_times_of)
  F_columns_of : Fun K "columns_of" "columns_of" s_columns_of a.f_columns_of a.d_columns_of
  b_columns_of : Binds K a.d_columns_of ["window"] []
  m_columns_of : mg "columns_of" = some (.ref a.f_columns_of)
  F_moved : Fun K "moved" "moved" s_moved a.f_moved a.d_moved
  b_moved : Binds K a.d_moved ["window", "c"] []
  m_moved : mg "moved" = some (.ref a.f_moved)
  F_widened : Fun K "widened" "widened" s_widened a.f_widened a.d_widened
  b_widened : Binds K a.d_widened ["window"] []
  m_widened : mg "widened" = some (.ref a.f_widened)
  F_narrowed : Fun K "narrowed" "narrowed" s_narrowed a.f_narrowed a.d_narrowed
  b_narrowed : Binds K a.d_narrowed ["window"] []
  m_narrowed : mg "narrowed" = some (.ref a.f_narrowed)
  F_with_columns : Fun K "with_columns" "with_columns" s_with_columns a.f_with_columns a.d_with_columns
  b_with_columns : Binds K a.d_with_columns ["window", "n"] []
  m_with_columns : mg "with_columns" = some (.ref a.f_with_columns)
  F_height_of : Fun K "height_of" "height_of" s_height_of a.f_height_of a.d_height_of
  b_height_of : Binds K a.d_height_of ["sample"] []
  m_height_of : mg "height_of" = some (.ref a.f_height_of)
  F_four_of : Fun K "four_of" "four_of" s_four_of a.f_four_of a.d_four_of
  b_four_of : Binds K a.d_four_of ["curve"] []
  m_four_of : mg "four_of" = some (.ref a.f_four_of)
  F_joined : Fun K "joined" "joined" s_joined a.f_joined a.d_joined
  b_joined : Binds K a.d_joined ["one", "other"] []
  m_joined : mg "joined" = some (.ref a.f_joined)
  F_is_border : Fun K "is_border" "is_border" s_is_border a.f_is_border a.d_is_border
  b_is_border : Binds K a.d_is_border ["thing"] []
  m_is_border : mg "is_border" = some (.ref a.f_is_border)
  F_check_borders : Fun K "check_borders" "check_borders" s_check_borders a.f_check_borders a.d_check_borders
  b_check_borders : Binds K a.d_check_borders ["begin", "end"] []
  m_check_borders : mg "check_borders" = some (.ref a.f_check_borders)
  F_check_time : Fun K "check_time" "check_time" s_check_time a.f_check_time a.d_check_time
  b_check_time : Binds K a.d_check_time ["t"] []
  m_check_time : mg "check_time" = some (.ref a.f_check_time)
  F_check_window : Fun K "check_window" "check_window" s_check_window a.f_check_window a.d_check_window
  b_check_window : Binds K a.d_check_window ["window"] []
  m_check_window : mg "check_window" = some (.ref a.f_check_window)
  F_stretches : Fun K "stretches" "stretches" s_stretches a.f_stretches a.d_stretches
  b_stretches : Binds K a.d_stretches ["begin", "end"] []
  m_stretches : mg "stretches" = some (.ref a.f_stretches)
  F_longest : Fun K "longest" "longest" s_longest a.f_longest a.d_longest
  b_longest : Binds K a.d_longest ["first", "end"] []
  m_longest : mg "longest" = some (.ref a.f_longest)
  F_Tree___init__ : FunD K "__init__" "Tree.__init__" s_Tree___init__ a.f_Tree___init__ a.d_Tree___init__
  b_Tree___init__ : Binds K a.d_Tree___init__ ["self", "curve"] []
  bd_Tree___init__ : Binds K a.d_Tree___init__ ["self", "curve"] [Value.none]
  bk_Tree___init__ : KBinds1 K a.d_Tree___init__ ["self", "curve"] "curve"
  F_Tree_put : Fun K "put" "Tree.put" s_Tree_put a.f_Tree_put a.d_Tree_put
  b_Tree_put : Binds K a.d_Tree_put ["self", "t", "h"] []
  M_Tree_put : Meth K a.C_Tree "put" a.f_Tree_put
  F_Tree_take : Fun K "take" "Tree.take" s_Tree_take a.f_Tree_take a.d_Tree_take
  b_Tree_take : Binds K a.d_Tree_take ["self", "t"] []
  M_Tree_take : Meth K a.C_Tree "take" a.f_Tree_take
  F_Tree_renew : Fun K "renew" "Tree.renew" s_Tree_renew a.f_Tree_renew a.d_Tree_renew
  b_Tree_renew : Binds K a.d_Tree_renew ["self", "t", "four"] []
  M_Tree_renew : Meth K a.C_Tree "renew" a.f_Tree_renew
  F_Tree_four : Fun K "four" "Tree.four" s_Tree_four a.f_Tree_four a.d_Tree_four
  b_Tree_four : Binds K a.d_Tree_four ["self", "begin", "end"] []
  M_Tree_four : Meth K a.C_Tree "four" a.f_Tree_four
  F_Tree_fours : Fun K "fours" "Tree.fours" s_Tree_fours a.f_Tree_fours a.d_Tree_fours
  b_Tree_fours : Binds K a.d_Tree_fours ["self", "window"] []
  M_Tree_fours : Meth K a.C_Tree "fours" a.f_Tree_fours
  F_Tree_told : Fun K "told" "Tree.told" s_Tree_told a.f_Tree_told a.d_Tree_told
  b_Tree_told : Binds K a.d_Tree_told ["self"] []
  M_Tree_told : Meth K a.C_Tree "told" a.f_Tree_told
  F_known_in : Fun K "known_in" "known_in" s_known_in a.f_known_in a.d_known_in
  b_known_in : Binds K a.d_known_in ["known", "window"] []
  m_known_in : mg "known_in" = some (.ref a.f_known_in)
  F_View___init__ : Fun K "__init__" "View.__init__" s_View___init__ a.f_View___init__ a.d_View___init__
  b_View___init__ : Binds K a.d_View___init__ ["self", "store", "window"] []
  F_View_fours : Fun K "fours" "View.fours" s_View_fours a.f_View_fours a.d_View_fours
  b_View_fours : Binds K a.d_View_fours ["self"] []
  M_View_fours : Meth K a.C_View "fours" a.f_View_fours
  F_View_forget : Fun K "forget" "View.forget" s_View_forget a.f_View_forget a.d_View_forget
  b_View_forget : Binds K a.d_View_forget ["self"] []
  M_View_forget : Meth K a.C_View "forget" a.f_View_forget
  F_View_on : Fun K "on" "View.on" s_View_on a.f_View_on a.d_View_on
  b_View_on : Binds K a.d_View_on ["self", "c"] []
  M_View_on : Meth K a.C_View "on" a.f_View_on
  F_View_wide : Fun K "wide" "View.wide" s_View_wide a.f_View_wide a.d_View_wide
  b_View_wide : Binds K a.d_View_wide ["self"] []
  M_View_wide : Meth K a.C_View "wide" a.f_View_wide
  F_View_narrow : Fun K "narrow" "View.narrow" s_View_narrow a.f_View_narrow a.d_View_narrow
  b_View_narrow : Binds K a.d_View_narrow ["self"] []
  M_View_narrow : Meth K a.C_View "narrow" a.f_View_narrow
  F_View_columns : Fun K "columns" "View.columns" s_View_columns a.f_View_columns a.d_View_columns
  b_View_columns : Binds K a.d_View_columns ["self", "n"] []
  M_View_columns : Meth K a.C_View "columns" a.f_View_columns
  F_View_step_to : Fun K "step_to" "View.step_to" s_View_step_to a.f_View_step_to a.d_View_step_to
  b_View_step_to : Binds K a.d_View_step_to ["self", "window"] []
  M_View_step_to : Meth K a.C_View "step_to" a.f_View_step_to
  F_Store___init__ : FunD K "__init__" "Store.__init__" s_Store___init__ a.f_Store___init__ a.d_Store___init__
  b_Store___init__ : Binds K a.d_Store___init__ ["self", "curve"] []
  bd_Store___init__ : Binds K a.d_Store___init__ ["self", "curve"] [Value.none]
  bk_Store___init__ : KBinds1 K a.d_Store___init__ ["self", "curve"] "curve"
  F_Store_put : Fun K "put" "Store.put" s_Store_put a.f_Store_put a.d_Store_put
  b_Store_put : Binds K a.d_Store_put ["self", "t", "h"] []
  M_Store_put : Meth K a.C_Store "put" a.f_Store_put
  F_Store_take : Fun K "take" "Store.take" s_Store_take a.f_Store_take a.d_Store_take
  b_Store_take : Binds K a.d_Store_take ["self", "t"] []
  M_Store_take : Meth K a.C_Store "take" a.f_Store_take
  F_Store_height : Fun K "height" "Store.height" s_Store_height a.f_Store_height a.d_Store_height
  b_Store_height : Binds K a.d_Store_height ["self", "t"] []
  M_Store_height : Meth K a.C_Store "height" a.f_Store_height
  F_Store_check_sample : Fun K "check_sample" "Store.check_sample" s_Store_check_sample a.f_Store_check_sample a.d_Store_check_sample
  b_Store_check_sample : Binds K a.d_Store_check_sample ["self", "t"] []
  M_Store_check_sample : Meth K a.C_Store "check_sample" a.f_Store_check_sample
  F_Store_do : Fun K "do" "Store.do" s_Store_do a.f_Store_do a.d_Store_do
  b_Store_do : Binds K a.d_Store_do ["self", "t", "h"] []
  M_Store_do : Meth K a.C_Store "do" a.f_Store_do
  F_Store_bring : Fun K "bring" "Store.bring" s_Store_bring a.f_Store_bring a.d_Store_bring
  b_Store_bring : Binds K a.d_Store_bring ["self", "t", "h"] []
  M_Store_bring : Meth K a.C_Store "bring" a.f_Store_bring
  F_Store_undo : Fun K "undo" "Store.undo" s_Store_undo a.f_Store_undo a.d_Store_undo
  b_Store_undo : Binds K a.d_Store_undo ["self"] []
  M_Store_undo : Meth K a.C_Store "undo" a.f_Store_undo
  F_Store_times : Fun K "times" "Store.times" s_Store_times a.f_Store_times a.d_Store_times
  b_Store_times : Binds K a.d_Store_times ["self"] []
  M_Store_times : Meth K a.C_Store "times" a.f_Store_times
  F_Store_four : Fun K "four" "Store.four" s_Store_four a.f_Store_four a.d_Store_four
  b_Store_four : Binds K a.d_Store_four ["self", "begin", "end"] []
  M_Store_four : Meth K a.C_Store "four" a.f_Store_four
  F_Store_fours : Fun K "fours" "Store.fours" s_Store_fours a.f_Store_fours a.d_Store_fours
  b_Store_fours : Binds K a.d_Store_fours ["self", "window"] []
  M_Store_fours : Meth K a.C_Store "fours" a.f_Store_fours
  F_Store_told : Fun K "told" "Store.told" s_Store_told a.f_Store_told a.d_Store_told
  b_Store_told : Binds K a.d_Store_told ["self"] []
  M_Store_told : Meth K a.C_Store "told" a.f_Store_told
  F_Store_watch : Fun K "watch" "Store.watch" s_Store_watch a.f_Store_watch a.d_Store_watch
  b_Store_watch : Binds K a.d_Store_watch ["self", "window"] []
  M_Store_watch : Meth K a.C_Store "watch" a.f_Store_watch
  F_Store_news : Fun K "news" "Store.news" s_Store_news a.f_Store_news a.d_Store_news
  b_Store_news : Binds K a.d_Store_news ["self", "number"] []
  M_Store_news : Meth K a.C_Store "news" a.f_Store_news
  F_l_cell : Fun K "_law_cell" "_law_cell" s_l_cell a.f_l_cell a.d_l_cell
  b_l_cell : Binds K a.d_l_cell ["_law_script", "_law_k"] []
  m_l_cell : mg "_law_cell" = some (.ref a.f_l_cell)
  F_l_pot : Fun K "_law_pot" "_law_pot" s_l_pot a.f_l_pot a.d_l_pot
  b_l_pot : Binds K a.d_l_pot ["_law_cell_here"] []
  m_l_pot : mg "_law_pot" = some (.ref a.f_l_pot)
  F_l_draw : Fun K "_law_draw" "_law_draw" s_l_draw a.f_l_draw a.d_l_draw
  b_l_draw : Binds K a.d_l_draw ["_law_pot_here", "_law_many"] []
  m_l_draw : mg "_law_draw" = some (.ref a.f_l_draw)
  F_l_in : Fun K "_law_in" "_law_in" s_l_in a.f_l_in a.d_l_in
  b_l_in : Binds K a.d_l_in ["_law_t"] []
  m_l_in : mg "_law_in" = some (.ref a.f_l_in)
  F_l_within : Fun K "_law_within" "_law_within" s_l_within a.f_l_within a.d_l_within
  b_l_within : Binds K a.d_l_within ["_law_window_here"] []
  m_l_within : mg "_law_within" = some (.ref a.f_l_within)
  F_l_height : Fun K "_law_height" "_law_height" s_l_height a.f_l_height a.d_l_height
  b_l_height : Binds K a.d_l_height ["_law_pot_here"] []
  m_l_height : mg "_law_height" = some (.ref a.f_l_height)
  F_l_window : Fun K "_law_window" "_law_window" s_l_window a.f_l_window a.d_l_window
  b_l_window : Binds K a.d_l_window ["_law_pot_here"] []
  m_l_window : mg "_law_window" = some (.ref a.f_l_window)
  F_l_time : Fun K "_law_time" "_law_time" s_l_time a.f_l_time a.d_l_time
  b_l_time : Binds K a.d_l_time ["_law_pot_here", "_law_window_here"] []
  m_l_time : mg "_law_time" = some (.ref a.f_l_time)
  F_l_curve : Fun K "_law_curve" "_law_curve" s_l_curve a.f_l_curve a.d_l_curve
  b_l_curve : Binds K a.d_l_curve ["_law_pot_here", "_law_window_here"] []
  m_l_curve : mg "_law_curve" = some (.ref a.f_l_curve)
  F_l_step : Fun K "_law_step" "_law_step" s_l_step a.f_l_step a.d_l_step
  b_l_step : Binds K a.d_l_step ["_law_pot_here", "_law_window_here"] []
  m_l_step : mg "_law_step" = some (.ref a.f_l_step)
  F_l_go : Fun K "_law_go" "_law_go" s_l_go a.f_l_go a.d_l_go
  b_l_go : Binds K a.d_l_go ["_law_view", "_law_step_here"] []
  m_l_go : mg "_law_go" = some (.ref a.f_l_go)
  F_l_known : Fun K "_law_known" "_law_known" s_l_known a.f_l_known a.d_l_known
  b_l_known : Binds K a.d_l_known ["_law_step_here", "_law_window_here", "_law_known_here"] []
  m_l_known : mg "_law_known" = some (.ref a.f_l_known)
  F_law : Fun K "law" "law" s_law a.f_law a.d_law
  b_law : Binds K a.d_law ["_law_script"] []
  m_law : mg "law" = some (.ref a.f_law)
  c_Tree : Cls K a.C_Tree
  m_Tree : mg "Tree" = some (.ref a.C_Tree)
  Mk_Tree : Mk K a.C_Tree a.f_Tree___init__
  n_Tree_looks : NoAttr K a.C_Tree "looks"
  n_Tree_samples : NoAttr K a.C_Tree "samples"
  n_Tree_kept_fours : NoAttr K a.C_Tree "kept_fours"
  c_View : Cls K a.C_View
  m_View : mg "View" = some (.ref a.C_View)
  Mk_View : Mk K a.C_View a.f_View___init__
  n_View_source : NoAttr K a.C_View "source"
  n_View_window : NoAttr K a.C_View "window"
  n_View_asked : NoAttr K a.C_View "asked"
  n_View_known : NoAttr K a.C_View "known"
  n_View_seen : NoAttr K a.C_View "seen"
  c_Store : Cls K a.C_Store
  m_Store : mg "Store" = some (.ref a.C_Store)
  Mk_Store : Mk K a.C_Store a.f_Store___init__
  n_Store_tree : NoAttr K a.C_Store "tree"
  n_Store_deeds : NoAttr K a.C_Store "deeds"
  n_Store_done : NoAttr K a.C_Store "done"
  n_Store_watches : NoAttr K a.C_Store "watches"
  x_NoColumn : ExcC K a.C_NoColumn
  y_NoColumn : ExcA K a.C_NoColumn
  m_NoColumn : mg "NoColumn" = some (.ref a.C_NoColumn)
  x_NotHalf : ExcC K a.C_NotHalf
  y_NotHalf : ExcA K a.C_NotHalf
  m_NotHalf : mg "NotHalf" = some (.ref a.C_NotHalf)
  x_OutOfTimes : ExcC K a.C_OutOfTimes
  y_OutOfTimes : ExcA K a.C_OutOfTimes
  m_OutOfTimes : mg "OutOfTimes" = some (.ref a.C_OutOfTimes)
  x_NoSample : ExcC K a.C_NoSample
  y_NoSample : ExcA K a.C_NoSample
  m_NoSample : mg "NoSample" = some (.ref a.C_NoSample)
  m_TOP_LEVEL : mg "TOP_LEVEL" = some (.int 40 a.c_TOP_LEVEL)
  m_TIMES_END : mg "TIMES_END" = some (.int 1099511627776 a.c_TIMES_END)
  z_ValueError : mg "ValueError" = none
  z_abs : mg "abs" = none
  z_bool : mg "bool" = none
  z_divmod : mg "divmod" = none
  z_int : mg "int" = none
  z_isinstance : mg "isinstance" = none
  z_len : mg "len" = none
  z_list : mg "list" = none
  z_max : mg "max" = none
  z_min : mg "min" = none
  z_range : mg "range" = none
  z_sorted : mg "sorted" = none
  z_tuple : mg "tuple" = none
local macro_rules | `(tactic| walk_at "sd") => `(tactic| first
  | (show (0 : Int) < _; omega)
  | decide
  | exact mulL (by omega) (by omega)
  | exact mulR (by omega) (by omega)
  | exact CDivB.of (k := 250) (by omega) (by omega) (by decide)
  | exact Or.inr ⟨by omega, by omega⟩
  | exact Or.inl ⟨by omega, by omega⟩
  | exact cpow_lit (by omega) (by omega) (by decide))
local macro_rules | `(tactic| walk_at "hp") => `(tactic| first
  | assumption
  | exact upd_same
  | (rw [upd_ne (by assumption)]; assumption)
  | (rw [upd_ne (Ne.symm (by assumption))]; assumption)
  | (rw [upd_ne (by assumption)]; rw [upd_ne (by assumption)]; assumption))
local macro_rules | `(tactic| walk_at "rd") => `(tactic| first
  | with_reducible refine rd_seq ?_
  | with_reducible refine rd_f4 ?_
  | with_reducible refine rd_compX ?_
  | with_reducible refine rd_lst1 ?_
  | with_reducible refine rd_iStr ?_
  | with_reducible refine rd_itStr ?_
  | with_reducible refine rd_raise0 ?_
  | with_reducible refine rd_try ?_
  | with_reducible refine rd_dropX ?_
  | with_reducible refine rd_asgX ?_
  | with_reducible refine rd_callX ?_
  | with_reducible refine rd_methX ?_
  | with_reducible refine rd_h0 ?_
  | with_reducible refine rd_hN ?_
  | with_reducible refine rd_dpop0 ?_
  | with_reducible refine rd_rngS ?_
  | with_reducible refine rd_dget0 ?_
  | with_reducible refine rd_disp0 ?_
  | with_reducible refine rd_iZip ?_
  | with_reducible refine rd_iRev ?_
  | with_reducible refine rd_fld0 ?_
  | with_reducible refine rd_setF0 ?_
  | with_reducible refine rd_fldaug0 ?_
  | with_reducible refine rd_meth0 ?_
  | with_reducible refine rd_make0 ?_
  | with_reducible refine rd_makeK0 ?_
  | with_reducible refine rd_dgetm0 ?_
  | with_reducible refine rd_dnewT0 ?_
  | with_reducible refine rd_listIt0 ?_
  | with_reducible refine rd_dispT0 ?_
  | with_reducible refine rd_minkeyL0 ?_
  | with_reducible refine rd_maxkeyL0 ?_
  | with_reducible refine rd_minkeyT0 ?_
  | with_reducible refine rd_maxkeyT0 ?_
  | with_reducible refine rd_sortedIt0 ?_
  | with_reducible refine rd_par0 ?_
  | with_reducible refine rd_par ?_
  | with_reducible refine rd_rngD ?_
  | with_reducible refine rd_bm0 ?_
  | with_reducible refine rd_iSeq ?_
  | with_reducible refine rd_dput0 ?_
  | with_reducible refine rd_dnew0 ?_
  | ((with_reducible refine' rd_aug ?e ?_); (case e => rfl))
  | with_reducible refine rd_ret ?_
  | with_reducible refine rd_retN ?_
  | with_reducible refine rd_drop ?_
  | with_reducible refine rd_next ?_
  | with_reducible refine rd_asg ?_
  | with_reducible refine rd_gname ?_
  | with_reducible refine rd_gnil ?_
  | with_reducible refine rd_gcons ?_
  | with_reducible refine rd_gsub ?_
  | with_reducible refine rd_ifS ?_
  | with_reducible refine rd_test ?_
  | with_reducible refine rd_B ?_
  | with_reducible refine rd_and ?_
  | with_reducible refine rd_or ?_
  | with_reducible refine rd_not ?_
  | with_reducible refine rd_andV ?_
  | with_reducible refine rd_orV ?_
  | with_reducible refine rd_notV ?_
  | with_reducible refine rd_if ?_
  | ((with_reducible refine' rd_var ?e ?_); (case e => rfl))
  | with_reducible refine rd_c ?_
  | with_reducible refine rd_op ?_
  | with_reducible refine rd_un ?_
  | with_reducible refine rd_I0 ?_
  | ((with_reducible refine rd_I (C := CPow) ?c ?_); (case c => exact cpow_lit (by decide) (by decide) (by decide)); (simp only [Int.reduceToNat, Int.reducePow]))
  | ((with_reducible refine rd_I ?c ?_); (case c => walk_at "sd"))
  | with_reducible refine rd_U ?_
  | with_reducible refine rd_eqI ?_
  | with_reducible refine rd_neI ?_
  | with_reducible refine rd_cb ?_
  | with_reducible refine rd_call ?_
  | with_reducible refine rd_cons ?_
  | with_reducible refine rd_nil ?_
  | with_reducible refine rd_tup ?_
  | with_reducible refine rd_lst ?_
  | with_reducible refine rd_chain ?_
  | with_reducible refine rd_noIf ?_
  | with_reducible refine rd_k ?_
  | with_reducible refine rd_int1 ?_
  | with_reducible refine rd_abs ?_
  | with_reducible refine rd_max ?_
  | with_reducible refine rd_min ?_
  | with_reducible refine rd_i ?_
  | with_reducible refine rd_sl ?_
  | with_reducible refine rd_noPart ?_
  | with_reducible refine rd_part ?_
  | with_reducible refine rd_isB ?_
  | with_reducible refine rd_notB ?_
  | with_reducible refine rd_isN ?_
  | with_reducible refine rd_notN ?_
  | ((with_reducible refine' rd_lenL ?s ?_); (case s => first | assumption | exact SqL.of (by assumption)))
  | ((with_reducible refine' rd_lenT ?s ?_); (case s => first | assumption | exact SqT.of (by assumption)))
  | with_reducible refine rd_for ?_
  | with_reducible refine rd_rng1 ?_
  | with_reducible refine rd_rng2 ?_
  | with_reducible refine rd_comp ?_
  | with_reducible refine rd_rngB ?_
  | with_reducible refine rd_rngBR ?_
  | with_reducible refine rd_bm ?_
  | with_reducible refine rd_iTup ?_
  | with_reducible refine rd_iList ?_
  | ((with_reducible refine' rd_itT ?s ?_); (case s => first | assumption | exact SqT.of (by assumption)))
  | ((with_reducible refine' rd_itL ?s ?_); (case s => first | assumption | exact SqL.of (by assumption)))
  | ((with_reducible refine' rd_ixL ?s ?e ?_); (case s => exact SqL.of (by assumption)); (case e => rfl))
  | ((with_reducible refine' rd_ixT ?s ?e ?_); (case s => first | assumption | exact SqT.of (by assumption)); (case e => rfl))
  | ((with_reducible refine' rd_gtup ?s ?e ?_); (case s => first | assumption | exact SqT.of (by assumption)); (case e => rfl)))
local macro_rules | `(tactic| walk_at "ri") => `(tactic| ((fail_if_success with_reducible refine rd_stopIf ?_); walk_at "rd"))
theorem k_bl_int (K : PySem.W.Frag) : PySem.W.kitOne K (.type "bool") (.type "int") = some true := by kernel_rfl
theorem k_int_int (K : PySem.W.Frag) : PySem.W.kitOne K (.type "int") (.type "int") = some true := by kernel_rfl
theorem k_non_int (K : PySem.W.Frag) : PySem.W.kitOne K (.type "NoneType") (.type "int") = some false := by kernel_rfl
theorem k_bl_bool (K : PySem.W.Frag) : PySem.W.kitOne K (.type "bool") (.type "bool") = some true := by kernel_rfl
theorem k_int_bool (K : PySem.W.Frag) : PySem.W.kitOne K (.type "int") (.type "bool") = some false := by kernel_rfl
theorem k_tup_tup (K : PySem.W.Frag) : PySem.W.kitOne K (.type "tuple") (.type "tuple") = some true := by kernel_rfl
section
variable {P : Program} {w : World} {K : PySem.W.Frag} {mg : Str → Option Value} {base : Heap} {a : Ad}
def spHeight : Sp := fun vs H Q _ => ∃ (c : Addr) (x y : Int), vs = [.ref c] ∧ H c = some (.tup [.int x, .int y]) ∧ Q (.int y) H
theorem sc_height_of : FnScope ["sample"] ["sample"] (defScope s_height_of) := ⟨rfl, rfl, rfl, by decide +kernel, rfl, by decide +kernel, by decide +kernel⟩
theorem ok_height_of (T : Txt K mg a) : FnOk P w K mg base CX0 1 a.f_height_of a.d_height_of ["sample"] spHeight := by
  refine T.F_height_of.ok sc_height_of (fun vs H Q E h => ?_) (fun cdv A outer s H vs Q E hr h => ?_)
  · obtain ⟨c, x, y, rfl, _⟩ := h
    rfl
  · obtain ⟨c, x, y, rfl, hc, q⟩ := h
    refine' ⟨_, QB.h ?pp, ?rr⟩
    case pp =>
     refine' qss_one ?h1
     case h1 =>
      refine' qs_ret ?h2
      case h2 =>
       exact qe_ix (kx_tup K rfl) (qv 0) qe_int
    case rr =>
    walk_at "s"
    walk_at "w"
    exact q
end
section
variable {P : Program} {w : World} {K : PySem.W.Frag} {mg : Str → Option Value} {base : Heap} {a : Ad}
def spJoined (K : PySem.W.Frag) : Sp := fun vs H Q _ => ∃ (v1 v2 : V) (o1 o2 : Option (List (Int × Int))) (c1 c2 : List (Int × Int)), vs = [v1, v2] ∧ FourIs H v1 o1 ∧ Is4 c1 o1 ∧ FourIs H v2 o2 ∧ Is4 c2 o2 ∧ (∀ p ∈ c1, ∀ q ∈ c2, p.1 < q.1) ∧
  ∀ (v : V) (o : Option (List (Int × Int))) (H' : Hp), FourIs H' v o → Is4 (c1 ++ c2) o → Same H H' → Q v H'
theorem four_open {H : Hp} {v : V} {c : List (Int × Int)} {qs : List (Int × Int)} (h : FourIs H v (some qs)) (g : Is4 c (some qs)) : ∃ (l : Addr) (q0 q1 q2 q3 : Int × Int) (a0 a1 a2 a3 : Addr), v = .ref l ∧ qs = [q0, q1, q2, q3] ∧ H l = some (.tup [.ref a0, .ref a1, .ref a2, .ref a3]) ∧
    H a0 = some (.tup [.int q0.1, .int q0.2]) ∧ H a1 = some (.tup [.int q1.1, .int q1.2]) ∧ H a2 = some (.tup [.int q2.1, .int q2.2]) ∧ H a3 = some (.tup [.int q3.1, .int q3.2]) := by
  cases h with
  | @pr l qs h hl =>
    obtain ⟨us, f, hP⟩ := h
    rcases g with ⟨e, _⟩ | ⟨q0, q1, q2, q3, e, _⟩
    · cases e
    · cases e
      cases hP with
      | cons h0 t => cases t with
        | cons h1 t => cases t with
          | cons h2 t => cases t with
            | cons h3 t =>
              cases t
              obtain ⟨a0, rfl, e0⟩ := h0
              obtain ⟨a1, rfl, e1⟩ := h1
              obtain ⟨a2, rfl, e2⟩ := h2
              obtain ⟨a3, rfl, e3⟩ := h3
              exact ⟨l, q0, q1, q2, q3, a0, a1, a2, a3, rfl, rfl, f, e0, e1, e2, e3⟩
theorem sc_joined : FnScope ["one", "other", "lowest", "highest"] ["one", "other"] (defScope s_joined) := ⟨rfl, rfl, rfl, by decide +kernel, rfl, by decide +kernel, by decide +kernel⟩
theorem ok_joined (T : Txt K mg a) : FnOk P w K mg base CX0 2 a.f_joined a.d_joined ["one", "other"] (spJoined K) := by
  refine T.F_joined.ok sc_joined (fun vs H Q E h => ?_) (fun cdv A outer s H vs Q E hr h => ?_)
  · obtain ⟨v1, v2, o1, o2, c1, c2, rfl, _⟩ := h
    rfl
  · obtain ⟨v1, v2, o1, o2, c1, c2, rfl, h1, g1, h2, g2, hlt, k⟩ := h
    refine' ⟨_, QB.h ?pp, ?rr⟩
    case pp =>
     refine' qss_cons ?h3 ?h4
     case h3 =>
      refine' qs_if ?h5 ?h6 qss_nil
      case h5 =>
       exact qt_cmpR (oq_isN) (qv 0) qe_non (nomark _)
      case h6 =>
       refine' qss_one ?h7
       case h7 =>
        exact qs_ret (qv 1)
     case h4 =>
      refine' qss_cons ?h8 ?h9
      case h8 =>
       refine' qs_if ?h10 ?h11 qss_nil
       case h10 =>
        exact qt_cmpR (oq_isN) (qv 1) qe_non (nomark _)
       case h11 =>
        refine' qss_one ?h12
        case h12 =>
         exact qs_ret (qv 0)
      case h9 =>
       refine' qss_cons ?h13 ?h14
       case h13 =>
        refine' qs_setS (i := 2) sc_joined.nd rfl (by walk_at "o") ?h15
        case h15 =>
         refine' qe_ifExp ?h16 ?h17 ?h18
         case h16 =>
          refine' qt_cmpR (op_le) ?h19 ?h20 (nomark _)
          case h19 =>
           refine' qe_callS (ok_height_of T) hr rfl T.m_height_of T.F_height_of.kp T.b_height_of .nil pass0 ?h21
           case h21 =>
            refine' qa_c ?h22 qa_nil
            case h22 =>
             exact qe_ix (kx_tup K rfl) (qv 0) qe_int
          case h20 =>
           refine' qe_callS (ok_height_of T) hr rfl T.m_height_of T.F_height_of.kp T.b_height_of .nil pass0 ?h23
           case h23 =>
            refine' qa_c ?h24 qa_nil
            case h24 =>
             exact qe_ix (kx_tup K rfl) (qv 1) qe_int
         case h17 =>
          exact qe_ix (kx_tup K rfl) (qv 0) qe_int
         case h18 =>
          exact qe_ix (kx_tup K rfl) (qv 1) qe_int
       case h14 =>
        refine' qss_cons ?h25 ?h26
        case h25 =>
         refine' qs_setS (i := 3) sc_joined.nd rfl (by walk_at "o") ?h27
         case h27 =>
          refine' qe_ifExp ?h28 ?h29 ?h30
          case h28 =>
           refine' qt_cmpR (op_ge) ?h31 ?h32 (nomark _)
           case h31 =>
            refine' qe_callS (ok_height_of T) hr rfl T.m_height_of T.F_height_of.kp T.b_height_of .nil pass0 ?h33
            case h33 =>
             refine' qa_c ?h34 qa_nil
             case h34 =>
              exact qe_ix (kx_tup K rfl) (qv 0) qe_int
           case h32 =>
            refine' qe_callS (ok_height_of T) hr rfl T.m_height_of T.F_height_of.kp T.b_height_of .nil pass0 ?h35
            case h35 =>
             refine' qa_c ?h36 qa_nil
             case h36 =>
              exact qe_ix (kx_tup K rfl) (qv 1) qe_int
          case h29 =>
           exact qe_ix (kx_tup K rfl) (qv 0) qe_int
          case h30 =>
           exact qe_ix (kx_tup K rfl) (qv 1) qe_int
        case h26 =>
         refine' qss_one ?h37
         case h37 =>
          refine' qs_ret ?h38
          case h38 =>
           refine' qe_tup ?h39
           case h39 =>
            refine' qa_c ?h40 ?h41
            case h40 =>
             exact qe_ix (kx_tup K rfl) (qv 0) qe_int
            case h41 =>
             refine' qa_c ?h42 ?h43
             case h42 =>
              exact qe_ix (kx_tup K rfl) (qv 1) qe_int
             case h43 =>
              refine' qa_c (qv 2) ?h44
              case h44 =>
               exact qa_c (qv 3) qa_nil
    case rr =>
    walk_at "s"
    walk_at "w"
    cases o1 with
    | none =>
      cases h1
      refine iteD (fun _ => ?_) (fun h => absurd rfl h)
      walk_at "w"
      refine k v2 o2 H h2 ?_ (Same.refl H)
      rw [g1.of_none, List.nil_append]
      exact g2
    | some qs1 =>
      obtain ⟨l1, q0, q1, q2, q3, a0, a1, a2, a3, rfl, rfl, f1, e0, e1, e2, e3⟩ := four_open h1 g1
      refine iteD (fun h => by cases h) (fun _ => ?_)
      walk_at "w"
      cases o2 with
      | none =>
        cases h2
        refine iteD (fun _ => ?_) (fun h => absurd rfl h)
        walk_at "w"
        refine k (.ref l1) _ H h1 ?_ (Same.refl H)
        rw [g2.of_none, List.append_nil]
        exact g1
      | some qs2 =>
        obtain ⟨l2, r0, r1, r2, r3, b0, b1, b2, b3, rfl, rfl, f2, d0, d1, d2, d3⟩ := four_open h2 g2
        refine iteD (fun h => by cases h) (fun _ => ?_)
        walk_at "w"
        refine ⟨a2, _, _, rfl, e2, ?_⟩
        walk_at "w"
        refine ⟨b2, _, _, rfl, d2, ?_⟩
        walk_at "w"
        have J := g1.join g2 hlt
        have fin : ∀ (x y : Addr) (p2 p3 : Int × Int), H x = some (.tup [.int p2.1, .int p2.2]) → H y = some (.tup [.int p3.1, .int p3.2]) → Is4 (c1 ++ c2) (some [q0, r1, p2, p3]) → ∀ l H', H l = none → H' l = some (.tup [.ref a0, .ref b1, .ref x, .ref y]) → Same H H' → Q (.ref l) H' := fun x y p2 p3 hx hy J l H' n' f' S' =>
          k (.ref l) _ H' (.pr ⟨_, f', .cons ⟨a0, rfl, S' _ _ e0⟩ (.cons ⟨b1, rfl, S' _ _ d1⟩ (.cons ⟨x, rfl, S' _ _ hx⟩ (.cons ⟨y, rfl, S' _ _ hy⟩ .nil)))⟩ rfl) J S'
        have part2 : ∀ (x : Addr) (p2 : Int × Int), True := fun _ _ => trivial
        refine iteD (fun hl => ?_) (fun hl => ?_)
        · walk_at "w"
          refine ⟨a3, _, _, rfl, e3, ?_⟩
          walk_at "w"
          refine ⟨b3, _, _, rfl, d3, ?_⟩
          walk_at "w"
          refine iteD (fun hh => ?_) (fun hh => ?_)
          · walk_at "w"
            rw [if_pos hl, if_pos hh] at J
            exact rd_new (by show 4 ≤ sizeLine; decide) fun l H' n' f' S' => fin _ _ _ _ e2 e3 J l H' n' f' S'
          · walk_at "w"
            rw [if_pos hl, if_neg hh] at J
            exact rd_new (by show 4 ≤ sizeLine; decide) fun l H' n' f' S' => fin _ _ _ _ e2 d3 J l H' n' f' S'
        · walk_at "w"
          refine ⟨a3, _, _, rfl, e3, ?_⟩
          walk_at "w"
          refine ⟨b3, _, _, rfl, d3, ?_⟩
          walk_at "w"
          refine iteD (fun hh => ?_) (fun hh => ?_)
          · walk_at "w"
            rw [if_neg hl, if_pos hh] at J
            exact rd_new (by show 4 ≤ sizeLine; decide) fun l H' n' f' S' => fin _ _ _ _ d2 e3 J l H' n' f' S'
          · walk_at "w"
            rw [if_neg hl, if_neg hh] at J
            exact rd_new (by show 4 ≤ sizeLine; decide) fun l H' n' f' S' => fin _ _ _ _ d2 d3 J l H' n' f' S'
end
section
variable {P : Program} {w : World} {K : PySem.W.Frag} {mg : Str → Option Value} {base : Heap} {a : Ad}
theorem atI_end {xs : List V} {v : V} (h : xs[xs.length - 1]? = some v) : atI xs (-1) = some v := by
  have hlt := (List.getElem?_eq_some_iff.mp h).1
  unfold atI ixN
  rw [if_neg (by decide), if_pos (by omega)]
  have : ((-1 : Int) + (xs.length : Int)).toNat = xs.length - 1 := by omega
  rw [this]
  exact h
def spFourOf (K : PySem.W.Frag) : Sp := fun vs H Q _ => ∃ (l : Addr) (cv : List (Int × Int)), vs = [.ref l] ∧ PrT H l cv ∧ Asc cv ∧
  ∀ (v : V) (o : Option (List (Int × Int))) (H' : Hp), FourIs H' v o → Is4 cv o → Same H H' → Q v H'
theorem sc_four_of : FnScope ["curve"] ["curve"] (defScope s_four_of) := ⟨rfl, rfl, rfl, by decide +kernel, rfl, by decide +kernel, by decide +kernel⟩
theorem ok_four_of (T : Txt K mg a) : FnOk P w K mg base CX0 3 a.f_four_of a.d_four_of ["curve"] (spFourOf K) := by
  refine T.F_four_of.ok sc_four_of (fun vs H Q E h => ?_) (fun cdv A outer s H vs Q E hr h => ?_)
  · obtain ⟨l, cv, rfl, _⟩ := h
    rfl
  · obtain ⟨l, cv, rfl, ⟨us, gL, pL⟩, hasc, k⟩ := h
    have hul : us.length = cv.length := pL.length
    refine' ⟨_, QB.h ?pp, ?rr⟩
    case pp =>
     refine' qss_cons ?h45 ?h46
     case h45 =>
      refine' qs_if ?h47 ?h48 qss_nil
      case h47 =>
       refine' qt_cmpR (op_eq) ?h49 qe_int (nomark _)
       case h49 =>
        refine' qe_callBS (kc_len K rfl) rfl T.z_len bt_len ?h50
        case h50 =>
         exact qa_c (qv 0) qa_nil
      case h48 =>
       refine' qss_one ?h51
       case h51 =>
        exact qs_ret qe_non
     case h46 =>
      refine' qss_one ?h52
      case h52 =>
       refine' qs_ret ?h53
       case h53 =>
        refine' qe_tup ?h54
        case h54 =>
         refine' qa_c ?h55 ?h56
         case h55 =>
          exact qe_ix (kx_tup K rfl) (qv 0) qe_int
         case h56 =>
          refine' qa_c ?h57 ?h58
          case h57 =>
           refine' qe_ix (kx_tup K rfl) (qv 0) ?h59
           case h59 =>
            exact qe_un un_neg qe_int
          case h58 =>
           refine' qa_c ?h60 ?h61
           case h60 =>
            refine' ke_minkeyT K rfl rfl (ok_height_of T) hr rfl T.z_min rfl T.m_height_of T.b_height_of ?h62
            case h62 =>
             exact qa_c (qv 0) qa_nil
           case h61 =>
            refine' qa_c ?h63 qa_nil
            case h63 =>
             refine' ke_maxkeyT K rfl rfl (ok_height_of T) hr rfl T.z_max rfl T.m_height_of T.b_height_of ?h64
             case h64 =>
              exact qa_c (qv 0) qa_nil
    case rr =>
    walk_at "s"
    walk_at "w"
    refine iteD (fun h => ?_) (fun h => ?_)
    · walk_at "w"
      have : cv = [] := List.length_eq_zero_iff.mp (by have h := V.int.inj h; omega)
      exact k _ none H .non (.inl ⟨rfl, this⟩) (Same.refl H)
    · have hpos : 0 < us.length := by
        rcases Nat.eq_zero_or_pos us.length with z | z
        · exact absurd (by rw [z]; rfl) h
        · exact z
      have hne : us ≠ [] := List.length_pos_iff.mp hpos
      obtain ⟨c0, q0, ec0, hq0, hc0⟩ := pL.at (List.getElem?_eq_getElem hpos)
      obtain ⟨c1, q1, ec1, hq1, hc1⟩ := pL.at (List.getElem?_eq_getElem (show us.length - 1 < us.length by omega))
      have hx0 : us[0]? = some (.ref c0) := by rw [List.getElem?_eq_getElem hpos, ec0]
      have hx1 : us[us.length - 1]? = some (.ref c1) := by rw [List.getElem?_eq_getElem (show us.length - 1 < us.length by omega), ec1]
      have turn : ∀ i v, us[i]? = some v → ∀ Q : VK, Q (.int (cv.getD i (0, 0)).2) H → spHeight [v] H Q E0 := fun i v hv Q q => by
        obtain ⟨c, p, rfl, hp, hc⟩ := pL.at hv
        have e : cv.getD i (0, 0) = p := by simp [hp]
        rw [e] at q
        exact ⟨c, p.1, p.2, rfl, hc, q⟩
      walk_at "w"
      refine rd_ixT (SqT.of gL) (atI_nat (j := 0) hx0) ?_
      walk_at "w"
      refine rd_ixT (SqT.of gL) (atI_end hx1) ?_
      walk_at "w"
      refine rd_minkeyT (fun i => (cv.getD i (0, 0)).2) (SqT.of gL) hne turn fun i2 v2 hv2 hb2 => ?_
      walk_at "w"
      refine rd_maxkeyT (fun i => (cv.getD i (0, 0)).2) (SqT.of gL) hne turn fun i3 v3 hv3 hb3 => ?_
      obtain ⟨c2, q2, rfl, hq2, hc2⟩ := pL.at hv2
      obtain ⟨c3, q3, rfl, hq3, hc3⟩ := pL.at hv3
      walk_at "w"
      refine rd_new (by show 4 ≤ sizeLine; decide) fun c4 H4 n4 f4 S4 => ?_
      have hP4 : PairsAt H4 [.ref c0, .ref c1, .ref c2, .ref c3] [q0, q1, q2, q3] := .cons ⟨c0, rfl, S4 _ _ hc0⟩ (.cons ⟨c1, rfl, S4 _ _ hc1⟩ (.cons ⟨c2, rfl, S4 _ _ hc2⟩ (.cons ⟨c3, rfl, S4 _ _ hc3⟩ .nil)))
      rw [hul] at hq1 hb2 hb3
      exact k _ (some [q0, q1, q2, q3]) H4 (.pr ⟨_, f4, hP4⟩ rfl) (Is4.minmax hasc hq0 hq1 hq2 hq3 hb2 hb3) S4
end
section
variable {P : Program} {w : World} {K : PySem.W.Frag} {mg : Str → Option Value} {base : Heap} {a : Ad}
def InT (x : Int) : Prop := -1099511627776 ≤ x ∧ x ≤ 1099511627776
def spWhole : Sp := fun vs H Q _ => ∃ i : Int, vs = [.int i] ∧ Q (.bl true) H
theorem sc_is_whole : FnScope ["thing"] ["thing"] (defScope s_is_whole) := ⟨rfl, rfl, rfl, by decide +kernel, rfl, by decide +kernel, by decide +kernel⟩
theorem ok_is_whole (T : Txt K mg a) : FnOk P w K mg base CX0 1 a.f_is_whole a.d_is_whole ["thing"] spWhole := by
  refine T.F_is_whole.ok sc_is_whole (fun vs H Q E h => ?_) (fun cdv A outer s H vs Q E hr h => ?_)
  · obtain ⟨i, rfl, _⟩ := h
    rfl
  · obtain ⟨i, rfl, q⟩ := h
    refine' ⟨_, QB.h ?pp, ?rr⟩
    case pp =>
     refine' qss_one ?h65
     case h65 =>
      refine' qs_ret ?h66
      case h66 =>
       refine' qe_and ?h67 ?h68
       case h67 =>
        refine' qe_callBS (kc_isi K rfl) rfl T.z_isinstance bt_isinstance ?h69
        case h69 =>
         refine' qa_c (qv 0) ?h70
         case h70 =>
          exact qa_c (qe_bltn (v := .ty "int") rfl T.z_int bt_int rfl) qa_nil
       case h68 =>
        refine' qe_one ?h71
        case h71 =>
         refine' qe_not ?h72
         case h72 =>
          refine' qe_callBS (kc_isi K rfl) rfl T.z_isinstance bt_isinstance ?h73
          case h73 =>
           refine' qa_c (qv 0) ?h74
           case h74 =>
            exact qa_c (qe_bltn (v := .ty "bool") rfl T.z_bool bt_bool rfl) qa_nil
    case rr =>
    walk_at "s"
    walk_at "w"
    refine rd_isi (.int i) (k_int_int _) (rd_k (iteT ?_))
    walk_at "w"
    refine rd_isi (.int i) (k_int_bool _) ?_
    walk_at "w"
    exact q
def spBorder : Sp := fun vs H Q _ => ∃ i : Int, vs = [.int i] ∧ ((InT i ∧ Q (.bl true) H) ∨ (¬ InT i ∧ Q (.bl false) H))
theorem sc_is_border : FnScope ["thing"] ["thing"] (defScope s_is_border) := ⟨rfl, rfl, rfl, by decide +kernel, rfl, by decide +kernel, by decide +kernel⟩
theorem ok_is_border (T : Txt K mg a) : FnOk P w K mg base CX0 2 a.f_is_border a.d_is_border ["thing"] spBorder := by
  refine T.F_is_border.ok sc_is_border (fun vs H Q E h => ?_) (fun cdv A outer s H vs Q E hr h => ?_)
  · obtain ⟨i, rfl, _⟩ := h
    rfl
  · obtain ⟨i, rfl, h⟩ := h
    refine' ⟨_, QB.h ?pp, ?rr⟩
    case pp =>
     refine' qss_one ?h75
     case h75 =>
      refine' qs_ret ?h76
      case h76 =>
       refine' qe_and ?h77 ?h78
       case h77 =>
        refine' qe_callS (ok_is_whole T) hr rfl T.m_is_whole T.F_is_whole.kp T.b_is_whole .nil pass0 ?h79
        case h79 =>
         exact qa_c (qv 0) qa_nil
       case h78 =>
        refine' qe_one ?h80
        case h80 =>
         refine' qe_chain op_le op_le ?h81 (qv 0) (qe_glob (v := .int 1099511627776) rfl T.m_TIMES_END ⟨_, rfl⟩)
         case h81 =>
          exact qe_un un_neg (qe_glob (v := .int 1099511627776) rfl T.m_TIMES_END ⟨_, rfl⟩)
    case rr =>
    walk_at "s"
    walk_at "w"
    refine ⟨i, rfl, ?_⟩
    walk_at "w"
    refine iteT ?_
    walk_at "w"
    unfold InT at h
    refine iteD (fun h1 => ?_) (fun h1 => ?_)
    · walk_at "w"
      rcases h with ⟨hi, q⟩ | ⟨hi, q⟩
      · rw [decide_eq_true hi.2]
        exact q
      · rw [decide_eq_false fun z => hi ⟨by omega, z⟩]
        exact q
    · rcases h with ⟨hi, q⟩ | ⟨hi, q⟩
      · exact absurd hi.1 (by omega)
      · walk_at "w"
        exact q
def spCheck : Sp := fun vs H Q _ => ∃ b e : Int, vs = [.int b, .int e] ∧ InT b ∧ InT e ∧ Q .non H
theorem sc_check_borders : FnScope ["begin", "end"] ["begin", "end"] (defScope s_check_borders) := ⟨rfl, rfl, rfl, by decide +kernel, rfl, by decide +kernel, by decide +kernel⟩
theorem ok_check_borders (T : Txt K mg a) : FnOk P w K mg base CX0 3 a.f_check_borders a.d_check_borders ["begin", "end"] spCheck := by
  refine T.F_check_borders.ok sc_check_borders (fun vs H Q E h => ?_) (fun cdv A outer s H vs Q E hr h => ?_)
  · obtain ⟨b, e, rfl, _⟩ := h
    rfl
  · obtain ⟨b, e, rfl, hb, he, q⟩ := h
    refine' ⟨_, QB.h ?pp, ?rr⟩
    case pp =>
     refine' qss_one ?h82
     case h82 =>
      refine' qs_if ?h83 ?h84 qss_nil
      case h83 =>
       refine' QW.pt ?h85
       case h85 =>
        refine' qw_or ?h86 ?h87
        case h86 =>
         refine' qt_not ?h88
         case h88 =>
          refine' qt_val ?h89
          case h89 =>
           refine' qe_callS (ok_is_border T) hr rfl T.m_is_border T.F_is_border.kp T.b_is_border .nil pass0 ?h90
           case h90 =>
            exact qa_c (qv 0) qa_nil
        case h87 =>
         refine' qw_or1 ?h91
         case h91 =>
          refine' qt_not ?h92
          case h92 =>
           refine' qt_val ?h93
           case h93 =>
            refine' qe_callS (ok_is_border T) hr rfl T.m_is_border T.F_is_border.kp T.b_is_border .nil pass0 ?h94
            case h94 =>
             exact qa_c (qv 1) qa_nil
      case h84 =>
       exact qss_one qs_never
    case rr =>
    walk_at "s"
    walk_at "w"
    refine ⟨b, rfl, .inl ⟨hb, ?_⟩⟩
    walk_at "w"
    refine iteF ?_
    walk_at "w"
    refine ⟨e, rfl, .inl ⟨he, ?_⟩⟩
    walk_at "w"
    refine iteF ?_
    walk_at "w"
    exact q
def spLongest : Sp := fun vs H Q _ => ∃ x e : Int, vs = [.int x, .int e] ∧ InT x ∧ InT e ∧ x < e ∧
  ∀ (t : Addr) (L : Nat) (H' : Hp), H' t = some (.tup [.int L, .int (2 ^ L)]) → (2 : Int) ^ L ∣ x → x + 2 ^ L ≤ e → ((2 : Int) ^ (L + 1) ∣ x → x + 2 ^ (L + 1) ≤ e → False) → Same H H' → Q (.ref t) H'
theorem sc_longest : FnScope ["first", "end", "level", "size"] ["first", "end"] (defScope s_longest) := ⟨rfl, rfl, rfl, by decide +kernel, rfl, by decide +kernel, by decide +kernel⟩
theorem ok_longest (T : Txt K mg a) : FnOk P w K mg base CX0 1 a.f_longest a.d_longest ["first", "end"] spLongest := by
  refine T.F_longest.ok sc_longest (fun vs H Q E h => ?_) (fun cdv A outer s H vs Q E hr h => ?_)
  · obtain ⟨b, e, rfl, _⟩ := h
    rfl
  · obtain ⟨x, e, rfl, hx, he, hxe, k⟩ := h
    unfold InT at hx he
    refine' ⟨_, QB.h ?pp, ?rr⟩
    case pp =>
     refine' qss_cons ?h95 ?h96
     case h95 =>
      exact qs_setS (i := 2) sc_longest.nd rfl (by walk_at "o") qe_int
     case h96 =>
      refine' qss_cons ?h97 ?h98
      case h97 =>
       exact qs_setS (i := 3) sc_longest.nd rfl (by walk_at "o") qe_int
      case h98 =>
       refine' qss_cons ?h99 ?h100
       case h99 =>
        refine' qs_while PassesOwn.never ?h101 ?h102
        case h101 =>
         refine' QW.pt ?h103
         case h103 =>
          refine' qw_and ?h104 ?h105
          case h104 =>
           refine' qt_cmpR (op_eq) ?h106 qe_int (nomark _)
           case h106 =>
            refine' qe_op op_mod (qv 0) ?h107
            case h107 =>
             exact qe_op op_mulG qe_int (qv 3)
          case h105 =>
           refine' qw_and1 ?h108
           case h108 =>
            refine' qt_cmpR (op_le) ?h109 (qv 1) (nomark _)
            case h109 =>
             refine' qe_op op_add (qv 0) ?h110
             case h110 =>
              exact qe_op op_mulG qe_int (qv 3)
        case h102 =>
         refine' qss_cons ?h111 ?h112
         case h111 =>
          exact qs_aug (i := 2) sc_longest.nd rfl (by walk_at "o") iop_add qe_int
         case h112 =>
          refine' qss_one ?h113
          case h113 =>
           exact qs_aug (i := 3) sc_longest.nd rfl (by walk_at "o") iop_mul qe_int
       case h100 =>
        refine' qss_one ?h114
        case h114 =>
         refine' qs_ret ?h115
         case h115 =>
          refine' qe_tup ?h116
          case h116 =>
           refine' qa_c (qv 2) ?h117
           case h117 =>
            exact qa_c (qv 3) qa_nil
    case rr =>
    walk_at "s"
    walk_at "w"
    refine rd_while (fun σ H' => H' = H ∧ ∃ L : Nat, ∃ z : Int, z = 2 ^ L ∧ σ = [some (.int x), some (.int e), some (.int L), some (.int z)] ∧ z ∣ x ∧ x + z ≤ e) (fun σ H' => match σ with | [_, _, some (.int l), some (.int z)] => (2199023255552 - z).toNat | _ => 0) ?_ ?_
    · exact ⟨rfl, 0, 1, rfl, rfl, Int.one_dvd _, by omega⟩
    · rintro σ H' ⟨rfl, L, z, hz, rfl, hd, hle⟩
      have hp : 0 < z := by rw [hz]; exact two_pos L
      have hz2 : z ≤ 2199023255552 := by omega
      walk_at "w"
      rw [dec_i]
      refine iteD (fun h1 => ?_) (fun h1 => ?_)
      · walk_at "w"
        refine iteD (fun h2 => ?_) (fun h2 => ?_)
        · refine rd_turn ?_
          walk_at "w"
          refine ⟨⟨rfl, L + 1, z * 2, ?_, ?_, ?_, by omega⟩, ?_⟩
          · rw [hz, Int.pow_succ]
          · show [some (V.int x), some (V.int e), some (V.int ((L : Int) + 1)), some (V.int (z * 2))] = _
            rfl
          · rw [Int.mul_comm]; exact Int.dvd_of_emod_eq_zero h1
          · show (2199023255552 - z * 2).toNat < (2199023255552 - z).toNat
            omega
        · walk_at "w"
          refine rd_new (by show 2 ≤ sizeLine; decide) fun t H2 n2 f2 S2 => ?_
          subst hz
          refine k t L H2 f2 hd hle (fun _ h4 => h2 ?_) S2
          rw [two_succ]; exact h4
      · refine iteF ?_
        walk_at "w"
        refine rd_new (by show 2 ≤ sizeLine; decide) fun t H2 n2 f2 S2 => ?_
        subst hz
        refine k t L H2 f2 hd hle (fun h3 _ => h1 ?_) S2
        rw [two_succ]; exact Int.emod_eq_zero_of_dvd h3
def maxI (b e : Int) : Int := if e > b then e else b
def spStretches : Sp := fun vs H Q _ => ∃ b e : Int, vs = [.int b, .int e] ∧ InT b ∧ InT e ∧
  ∀ (t : Addr) (prs : List (Int × Int)) (H' : Hp), PrT H' t prs → Ch e b prs (maxI b e) → prs.length ≤ 80 → Same H H' → Q (.ref t) H'
theorem sc_stretches : FnScope ["begin", "end", "found", "first", "level", "size"] ["begin", "end"] (defScope s_stretches) := ⟨rfl, rfl, rfl, by decide +kernel, rfl, by decide +kernel, by decide +kernel⟩
theorem ok_stretches (T : Txt K mg a) : FnOk P w K mg base CX0 4 a.f_stretches a.d_stretches ["begin", "end"] spStretches := by
  refine T.F_stretches.ok sc_stretches (fun vs H Q E h => ?_) (fun cdv A outer s H vs Q E hr h => ?_)
  · obtain ⟨b, e, rfl, _⟩ := h
    rfl
  · obtain ⟨b, e, rfl, hb, he, k⟩ := h
    refine' ⟨_, QB.h ?pp, ?rr⟩
    case pp =>
     refine' qss_cons ?h118 ?h119
     case h118 =>
      refine' qs_exprS ?h120
      case h120 =>
       refine' qe_callS (ok_check_borders T) hr rfl T.m_check_borders T.F_check_borders.kp T.b_check_borders .nil pass0 ?h121
       case h121 =>
        refine' qa_c (qv 0) ?h122
        case h122 =>
         exact qa_c (qv 1) qa_nil
     case h119 =>
      refine' qss_cons ?h123 ?h124
      case h123 =>
       refine' qs_setS (i := 2) sc_stretches.nd rfl (by walk_at "o") ?h125
       case h125 =>
        exact qe_lst qa_nil
      case h124 =>
       refine' qss_cons ?h126 ?h127
       case h126 =>
        exact qs_setS (i := 3) sc_stretches.nd rfl (by walk_at "o") (qv 0)
       case h127 =>
        refine' qss_cons ?h128 ?h129
        case h128 =>
         refine' qs_while PassesOwn.never ?h130 ?h131
         case h130 =>
          exact qt_cmpR (op_lt) (qv 3) (qv 1) (nomark _)
         case h131 =>
          refine' qss_cons ?h132 ?h133
          case h132 =>
           refine' qs_asg ?h134 ?h135
           case h134 =>
            refine' qe_callS (ok_longest T) (hr.mono (by decide)) rfl T.m_longest T.F_longest.kp T.b_longest .nil pass0 ?h136
            case h136 =>
             refine' qa_c (qv 3) ?h137
             case h137 =>
              exact qa_c (qv 1) qa_nil
           case h135 =>
            refine' kg_tup (n := 2) K rfl rfl ?h138
            case h138 =>
             refine' qgs_cons (qg_name (i := 4) sc_stretches.nd rfl (by walk_at "o")) ?h139
             case h139 =>
              exact qgs_cons (qg_name (i := 5) sc_stretches.nd rfl (by walk_at "o")) qgs_nil
          case h133 =>
           refine' qss_cons ?h140 ?h141
           case h140 =>
            refine' qs_exprS ?h142
            case h142 =>
             refine' qe_bm PySem.F.plainAttrs_list PySem.F.slot_list_append PySem.F.type_list_append mt_append (qv 2) ?h143
             case h143 =>
              refine' qa_c ?h144 qa_nil
              case h144 =>
               refine' qe_tup ?h145
               case h145 =>
                refine' qa_c (qv 4) ?h146
                case h146 =>
                 refine' qa_c ?h147 qa_nil
                 case h147 =>
                  exact qe_op op_fdivB (qv 3) (qv 5)
           case h141 =>
            refine' qss_one ?h148
            case h148 =>
             exact qs_aug (i := 3) sc_stretches.nd rfl (by walk_at "o") iop_add (qv 5)
        case h129 =>
         refine' qss_one ?h149
         case h149 =>
          refine' qs_ret ?h150
          case h150 =>
           refine' qe_callTyS (kc_tuple K rfl) rfl T.z_tuple bt_tuple ?h151
           case h151 =>
            exact qa_c (qv 2) qa_nil
    case rr =>
    walk_at "s"
    walk_at "w"
    refine ⟨b, e, rfl, hb, he, ?_⟩
    unfold InT at hb he
    walk_at "w"
    refine rd_new (by show 0 ≤ sizeLine; decide) fun l H1 n1 f1 S1 => ?_
    walk_at "w"
    have e40 : (2 : Int) ^ 40 = 1099511627776 := by decide
    refine rd_while (fun σ H' => Same H H' ∧ ∃ (x : Int) (prs : List (Int × Int)), (∃ v4 v5, σ = [some (.int b), some (.int e), some (.ref l), some (.int x), v4, v5]) ∧ PrL H' l prs ∧ Ch e b prs x ∧ Few e prs.length x ∧ x ≤ maxI b e ∧ b ≤ x) (fun σ H' => match σ with | [_, _, _, some (.int x), _, _] => (e - x).toNat | _ => 0) ?_ ?_
    · exact ⟨S1, b, [], ⟨_, _, rfl⟩, ⟨[], f1, .nil⟩, rfl, Few.start (by rw [e40]; omega), by unfold maxI; split <;> omega, Int.le_refl _⟩
    · rintro σ H' ⟨S', x, prs, ⟨v4, v5, rfl⟩, ⟨vs, f', hP⟩, hch, hfew, hmx, hbx⟩
      walk_at "w"
      refine iteD (fun hxe => ?_) (fun hxe => ?_)
      · refine rd_turn ?_
        walk_at "w"
        refine ⟨x, e, rfl, ⟨by omega, by omega⟩, he, hxe, fun t L H2 f2 hd hle hmax S2 => ?_⟩
        have hL : L ≤ 40 := level_le (by rw [e40]; omega) (by rw [e40]; omega) hd hle
        have hp := two_pos L
        have hL2 := pow_le_pow hL
        rw [e40] at hL2
        have hfs := Few.step (by rw [e40]; omega) (by rw [e40]; omega) hfew hd hle hmax
        generalize hz : (2 : Int) ^ L = z at *
        walk_at "w"
        refine ⟨tyL (S2 _ _ f'), ?_⟩
        walk_at "w"
        refine rd_new (by show 2 ≤ sizeLine; decide) fun t3 H3 n3 f3 S3 => ?_
        have fl := S3 _ _ (S2 _ _ f')
        walk_at "w"
        refine rd_append fl ?_ fun H4 f4 K4 => ?_
        · rw [hP.length]
          exact Nat.lt_of_le_of_lt hfew.len (by decide)
        walk_at "w"
        have hxz : x / z * z = x := Int.ediv_mul_cancel hd
        refine ⟨⟨((S'.trans S2).trans S3).kpN n1 K4, x + z, prs ++ [((L : Int), x / z)], ⟨_, _, rfl⟩, ⟨_, f4, ?_⟩, ?_, ?_, ?_, by omega⟩, ?_⟩
        · exact PairsAt.kpL K4 fl ((hP.same (S2.trans S3)).snoc f3)
        · have := Ch.snoc (p := ((L : Int), x / z)) hch ⟨by simp, by simp; omega⟩ (by rw [show ((L : Int), x / z).1.toNat = L from Int.toNat_natCast L, hz]; exact hxz) (by rw [show ((L : Int), x / z).1.toNat = L from Int.toNat_natCast L, hz]; exact hle) (by
            rw [show ((L : Int), x / z).1.toNat = L from Int.toNat_natCast L, hz]
            intro _ h5 h6
            have ez : (2 : Int) ^ (L + 1) = 2 * z := by rw [← two_succ, hz]
            refine hmax ?_ ?_
            · rw [ez]; exact Int.dvd_of_emod_eq_zero h5
            · rw [ez]; exact h6)
          rw [show ((L : Int), x / z).1.toNat = L from Int.toNat_natCast L, hz] at this
          exact this
        · rw [List.length_append]; exact hfs
        · unfold maxI; split <;> omega
        · show (e - (x + z)).toNat < (e - x).toNat
          omega
      · walk_at "w"
        refine rd_tupL (SqL.of f') fun t H2 n2 f2 S2 => ?_
        have ex : x = maxI b e := by
          unfold maxI at hmx ⊢
          split <;> rename_i hh
          · rw [if_pos hh] at hmx; omega
          · rw [if_neg hh] at hmx; omega
        rw [ex] at hch
        exact k t prs H2 ⟨vs, f2, hP.same S2⟩ hch hfew.len (S'.trans S2)
end
section
variable {P : Program} {w : World} {K : PySem.W.Frag} {mg : Str → Option Value} {base : Heap} {a : Ad}
def spTimes (K : PySem.W.Frag) : Sp := fun vs H Q _ => ∃ (p : Addr) (b y m k : Int), vs = [.ref p, .int k] ∧ H p = some (.tup [.int b, .int y, .int m]) ∧ 0 ≤ k ∧ k < m ∧ m ≤ 1000 ∧
  ∀ (u : Addr) (H' : Hp), H u = none → H' u = some (.tup [.int (b + k * y), .int (b + k * y + y)]) → Same H H' → Q (.ref u) H'
theorem sc_times_of : FnScope ["window", "k", "begin", "wide", "many", "first"] ["window", "k"] (defScope s_times_of) := ⟨rfl, rfl, rfl, by decide +kernel, rfl, by decide +kernel, by decide +kernel⟩
theorem ok_times_of (T : Txt K mg a) : FnOk P w K mg base CX0 2 a.f_times_of a.d_times_of ["window", "k"] (spTimes K) := by
  refine T.F_times_of.ok sc_times_of (fun vs H Q E h => ?_) (fun cdv A outer s H vs Q E hr h => ?_)
  · obtain ⟨p, b, y, m, k, rfl, _⟩ := h
    rfl
  · obtain ⟨p, b, y, m, n, rfl, hT, h0, h1, h2, k⟩ := h
    refine' ⟨_, QB.h ?pp, ?rr⟩
    case pp =>
     refine' qss_cons ?h152 ?h153
     case h152 =>
      refine' qs_asg (qv 0) ?h154
      case h154 =>
       refine' kg_tup (n := 3) K rfl rfl ?h155
       case h155 =>
        refine' qgs_cons (qg_name (i := 2) sc_times_of.nd rfl (by walk_at "o")) ?h156
        case h156 =>
         refine' qgs_cons (qg_name (i := 3) sc_times_of.nd rfl (by walk_at "o")) ?h157
         case h157 =>
          exact qgs_cons (qg_name (i := 4) sc_times_of.nd rfl (by walk_at "o")) qgs_nil
     case h153 =>
      refine' qss_cons ?h158 ?h159
      case h158 =>
       refine' qs_if ?h160 ?h161 qss_nil
       case h160 =>
        refine' QW.pt ?h162
        case h162 =>
         refine' qw_or ?h163 ?h164
         case h163 =>
          refine' qt_not ?h165
          case h165 =>
           refine' qt_val ?h166
           case h166 =>
            refine' qe_callS (ok_is_whole T) hr rfl T.m_is_whole T.F_is_whole.kp T.b_is_whole .nil pass0 ?h167
            case h167 =>
             exact qa_c (qv 1) qa_nil
         case h164 =>
          refine' qw_or1 ?h168
          case h168 =>
           refine' qt_not ?h169
           case h169 =>
            exact qt_chain op_le op_lt qe_int (qv 1) (qv 4)
       case h161 =>
        exact qss_one qs_never
      case h159 =>
       refine' qss_cons ?h170 ?h171
       case h170 =>
        refine' qs_setS (i := 5) sc_times_of.nd rfl (by walk_at "o") ?h172
        case h172 =>
         refine' qe_op op_add (qv 2) ?h173
         case h173 =>
          exact qe_op op_mulG (qv 1) (qv 3)
       case h171 =>
        refine' qss_one ?h174
        case h174 =>
         refine' qs_ret ?h175
         case h175 =>
          refine' qe_tup ?h176
          case h176 =>
           refine' qa_c (qv 5) ?h177
           case h177 =>
            refine' qa_c ?h178 qa_nil
            case h178 =>
             exact qe_op op_add (qv 5) (qv 3)
    case rr =>
    walk_at "s"
    walk_at "w"
    refine ⟨n, rfl, ?_⟩
    walk_at "w"
    refine iteF ?_
    walk_at "w"
    refine iteD (fun _ => ?_) (fun h => absurd h0 h)
    walk_at "w"
    rw [decide_eq_true h1]
    refine iteF ?_
    walk_at "w"
    exact rd_new (by show 2 ≤ sizeLine; decide) fun u H2 n2 f2 S2 => k u H2 n2 f2 S2
def colsL (b y : Int) (n : Nat) : List (Int × Int) := (List.range n).map fun (i : Nat) => (b + (i : Int) * y, b + (i : Int) * y + y)
theorem colsL_len (b y : Int) (n : Nat) : (colsL b y n).length = n := by rw [colsL, List.length_map, List.length_range]
theorem colsL_succ (b y : Int) (n : Nat) : colsL b y (n + 1) = colsL b y n ++ [(b + (n : Int) * y, b + (n : Int) * y + y)] := by rw [colsL, List.range_succ, List.map_append]; rfl
theorem colsL_at {b y : Int} {n i : Nat} {p : Int × Int} (h : (colsL b y n)[i]? = some p) : p = (b + (i : Int) * y, b + (i : Int) * y + y) := by
  rw [colsL, List.getElem?_map] at h
  obtain ⟨j, hj, rfl⟩ := Option.map_eq_some_iff.mp h
  rw [List.getElem?_range (by have := (List.getElem?_eq_some_iff.mp hj).1; rwa [List.length_range] at this)] at hj
  rw [← Option.some.inj hj]
def spColumns (K : PySem.W.Frag) : Sp := fun vs H Q _ => ∃ (p : Addr) (b y m : Int), vs = [.ref p] ∧ H p = some (.tup [.int b, .int y, .int m]) ∧ 1 ≤ m ∧ m ≤ 1000 ∧
  ∀ (l : Addr) (us : List V) (H' : Hp), H l = none → H' l = some (.lst us) → PairsAt H' us (colsL b y m.toNat) → Same H H' → Q (.ref l) H'
theorem sc_columns_of : FnScope ["window"] ["window"] (defScope s_columns_of) := ⟨rfl, rfl, rfl, by decide +kernel, rfl, by decide +kernel, by decide +kernel⟩
theorem ok_columns_of (T : Txt K mg a) : FnOk P w K mg base CX0 3 a.f_columns_of a.d_columns_of ["window"] (spColumns K) := by
  refine T.F_columns_of.ok sc_columns_of (fun vs H Q E h => ?_) (fun cdv A outer s H vs Q E hr h => ?_)
  · obtain ⟨p, b, y, m, rfl, _⟩ := h
    rfl
  · obtain ⟨p, b, y, m, rfl, hT, h1, h2, k⟩ := h
    refine' ⟨_, QB.h ?pp, ?rr⟩
    case pp =>
     refine' qss_one ?h179
     case h179 =>
      refine' qs_ret ?h180
      case h180 =>
       refine' qe_comp (N := ["window"]) (sc := defScope s_columns_of) (own := ["k"]) (caps := ["window"]) (ks := [0]) rfl rfl rfl ⟨rfl, by decide +kernel, by decide +kernel, by decide +kernel, by decide +kernel, rfl, by decide +kernel⟩ ?h181 ?h182 ?h183 ?h184
       case h181 =>
        refine' qi_range1 rfl T.z_range ?h185
        case h185 =>
         refine' qa_c ?h186 qa_nil
         case h186 =>
          exact qe_ix (kx_tup K rfl) (qv 0) qe_int
       case h182 =>
        intro _ _ _ _ _
        exact qg_name (i := 0) (show List.Nodup (α := Str) ["k", "window"] from by decide +kernel) rfl (by walk_at "o") (.inr rfl)
       case h183 =>
        intro _ _ _ _ _
        exact qifs_nil
       case h184 =>
        intro _ _ _ _ _
        refine' qe_callS (ok_times_of T) hr rfl T.m_times_of T.F_times_of.kp T.b_times_of .nil pass0 ?h187
        case h187 =>
         refine' qa_c (qv 1) ?h188
         case h188 =>
          exact qa_c (qv 0) qa_nil
    case rr =>
    walk_at "s"
    walk_at "w"
    refine rd_rng (by omega) (by omega) ?_
    intro l n1
    refine comp_by m.toNat (fun i σ' H' => (∃ o, σ' = [o, some (.ref p)]) ∧ Same H H' ∧ ∃ vs, H' l = some (.lst vs) ∧ PairsAt H' vs (colsL b y i)) ?_ ?_ ?_
    · exact ⟨⟨none, rfl⟩, Same.new n1, [], upd_same, .nil⟩
    · rintro σ H2 ⟨_, S2, vs, f2, hP⟩
      refine ⟨Nat.le_refl _, ?_⟩
      walk_at "w"
      exact k l vs H2 n1 f2 hP S2
    · rintro i σ H2 hi ⟨⟨o, rfl⟩, S2, vs, f2, hP⟩
      refine ⟨hi, ?_⟩
      rintro x H'' ⟨rfl, rfl⟩
      walk_at "w"
      refine iteT ?_
      walk_at "w"
      refine ⟨p, b, y, m, _, rfl, S2 _ _ hT, by omega, by omega, by omega, fun u H3 n3 f3 S3 => ?_⟩
      have e0 : (0 + (i : Int)) = (i : Int) := by omega
      rw [e0] at f3
      refine ⟨vs, S3 _ _ f2, ?_, ⟨_, rfl⟩, (S2.trans S3).kpN n1 Kp.upd, vs ++ [.ref u], upd_same, ?_⟩
      · rw [hP.length, colsL_len]
        exact Nat.lt_of_lt_of_le hi (Nat.le_trans (show m.toNat ≤ 1000 by omega) (by decide))
      · rw [colsL_succ]
        exact PairsAt.kpL Kp.upd (S3 _ _ f2) ((hP.same S3).snoc (p := (b + (i : Int) * y, b + (i : Int) * y + y)) f3)
end
def tfl (n : Int) (d1 d2 : Addr) : List (Str × V) := [("looks", V.int n), ("samples", V.ref d1), ("kept_fours", V.ref d2)]
theorem sn1 : (("samples" : Str) == "looks") = false := by decide +kernel
theorem sn2 : (("kept_fours" : Str) == "looks") = false := by decide +kernel
theorem sn3 : (("kept_fours" : Str) == "samples") = false := by decide +kernel
theorem tfl_looks {n : Int} {d1 d2 : Addr} : (tfl n d1 d2).lookup ("looks" : Str) = some (.int n) := by
  unfold tfl
  rw [List.lookup_cons, beq_self_eq_true]
theorem tfl_samples {n : Int} {d1 d2 : Addr} : (tfl n d1 d2).lookup ("samples" : Str) = some (.ref d1) := by
  unfold tfl
  rw [List.lookup_cons, sn1, List.lookup_cons, beq_self_eq_true]
theorem tfl_kept {n : Int} {d1 d2 : Addr} : (tfl n d1 d2).lookup ("kept_fours" : Str) = some (.ref d2) := by
  unfold tfl
  rw [List.lookup_cons, sn2, List.lookup_cons, sn3, List.lookup_cons, beq_self_eq_true]
theorem tfl_no {n : Int} {d1 d2 : Addr} {m : Str} (h1 : (m == ("looks" : Str)) = false) (h2 : (m == ("samples" : Str)) = false) (h3 : (m == ("kept_fours" : Str)) = false) : (tfl n d1 d2).lookup m = none := by
  unfold tfl
  rw [List.lookup_cons, h1, List.lookup_cons, h2, List.lookup_cons, h3]
  rfl
theorem tfl_put {n n' : Int} {d1 d2 : Addr} : putF "looks" (.int n') (tfl n d1 d2) = tfl n' d1 d2 := by
  show (if ("looks" : Str) = "looks" then [(("looks" : Str), V.int n')] ++ _ else _) = _
  rw [if_pos rfl]
  rfl
theorem tfl_new {d1 d2 : Addr} : putF "kept_fours" (.ref d2) (putF "samples" (.ref d1) (putF "looks" (.int 0) [])) = tfl 0 d1 d2 := by
  have e1 : ¬ ("looks" : Str) = "samples" := by decide +kernel
  have e2 : ¬ ("looks" : Str) = "kept_fours" := by decide +kernel
  have e3 : ¬ ("samples" : Str) = "kept_fours" := by decide +kernel
  show putF "kept_fours" (.ref d2) (putF "samples" (.ref d1) [(("looks" : Str), V.int 0)]) = _
  rw [show putF "samples" (.ref d1) [(("looks" : Str), V.int 0)] = (if ("looks" : Str) = "samples" then [(("looks" : Str), V.ref d1)] else (("looks" : Str), V.int 0) :: putF "samples" (.ref d1) []) from rfl, if_neg e1]
  show (if ("looks" : Str) = "kept_fours" then _ else (("looks" : Str), V.int 0) :: (if ("samples" : Str) = "kept_fours" then _ else (("samples" : Str), V.ref d1) :: putF "kept_fours" (.ref d2) [])) = _
  rw [if_neg e2, if_neg e3]
  rfl
def TreeAt (C : Addr) (H : Hp) (p : Addr) (n : Int) (d1 d2 : Addr) (sm : List (Int × Int)) (c : Nat) : Prop :=
  ∃ dx kvs, H p = some (.ins C dx (tfl n d1 d2)) ∧ H d1 = some (.dK (dkOf sm)) ∧ H d2 = some (.dT kvs) ∧ (sm.map (·.1)).Nodup ∧ KfOk H kvs sm (fun _ _ => True) ∧ kvs.length ≤ 41 * c
theorem TreeAt.same {C : Addr} {H H' : Hp} {p d1 d2 : Addr} {n : Int} {sm : List (Int × Int)} {c : Nat} (h : TreeAt C H p n d1 d2 sm c) (s : Same H H') : TreeAt C H' p n d1 d2 sm c := by
  obtain ⟨dx, kvs, h1, h2, h3, h4, h5, h6⟩ := h
  exact ⟨dx, kvs, s _ _ h1, s _ _ h2, s _ _ h3, h4, h5.same s, h6⟩
def Fr3 (p d1 d2 : Addr) (H H' : Hp) : Prop := ∀ b o, H b = some o → b ≠ p → b ≠ d1 → b ≠ d2 → H' b = some o
section
variable {P : Program} {w : World} {K : PySem.W.Frag} {mg : Str → Option Value} {base : Heap} {a : Ad}
local macro_rules | `(tactic| walk_at "rd") => `(tactic| first
  | with_reducible refine rd_fld (by assumption) (‹Txt _ _ _›).c_Tree (‹Txt _ _ _›).n_Tree_looks tfl_looks ?_
  | with_reducible refine rd_fld (by assumption) (‹Txt _ _ _›).c_Tree (‹Txt _ _ _›).n_Tree_samples tfl_samples ?_
  | with_reducible refine rd_fld (by assumption) (‹Txt _ _ _›).c_Tree (‹Txt _ _ _›).n_Tree_kept_fours tfl_kept ?_)
def Tm (t : Int) : Prop := -1099511627776 ≤ t ∧ t < 1099511627776
def spCheckT : Sp := fun vs H Q _ => ∃ t : Int, vs = [.int t] ∧ Tm t ∧ Q .non H
theorem sc_check_time : FnScope ["t"] ["t"] (defScope s_check_time) := ⟨rfl, rfl, rfl, by decide +kernel, rfl, by decide +kernel, by decide +kernel⟩
theorem ok_check_time (T : Txt K mg a) : FnOk P w K mg base CX0 3 a.f_check_time a.d_check_time ["t"] spCheckT := by
  refine T.F_check_time.ok sc_check_time (fun vs H Q E h => ?_) (fun cdv A outer s H vs Q E hr h => ?_)
  · obtain ⟨t, rfl, _⟩ := h
    rfl
  · obtain ⟨t, rfl, ht, q⟩ := h
    unfold Tm at ht
    refine' ⟨_, QB.h ?pp, ?rr⟩
    case pp =>
     refine' qss_one ?h189
     case h189 =>
      refine' qs_if ?h190 ?h191 qss_nil
      case h190 =>
       refine' QW.pt ?h192
       case h192 =>
        refine' qw_or ?h193 ?h194
        case h193 =>
         refine' qt_not ?h195
         case h195 =>
          refine' qt_val ?h196
          case h196 =>
           refine' qe_callS (ok_is_border T) hr rfl T.m_is_border T.F_is_border.kp T.b_is_border .nil pass0 ?h197
           case h197 =>
            exact qa_c (qv 0) qa_nil
        case h194 =>
         refine' qw_or1 ?h198
         case h198 =>
          exact qt_cmpR (op_eq) (qv 0) (qe_glob (v := .int 1099511627776) rfl T.m_TIMES_END ⟨_, rfl⟩) (nomark _)
      case h191 =>
       exact qss_one qs_never
    case rr =>
    walk_at "s"
    walk_at "w"
    refine ⟨t, rfl, .inl ⟨⟨by omega, by omega⟩, ?_⟩⟩
    walk_at "w"
    refine iteF ?_
    walk_at "w"
    rw [dec_i]
    refine iteD (fun h => ?_) (fun h => ?_)
    · exfalso
      omega
    · walk_at "w"
      exact q
def spRenew (C : Addr) : Sp := fun vs H Q _ => ∃ (p d1 d2 dx : Addr) (n t : Int) (v : V) (o : Option (List (Int × Int))) (sm : List (Int × Int)) (kvs : List (List Key × V)) (c : Nat), vs = [.ref p, .int t, v] ∧ H p = some (.ins C dx (tfl n d1 d2)) ∧ H d1 = some (.dK (dkOf sm)) ∧ H d2 = some (.dT kvs) ∧ (sm.map (·.1)).Nodup ∧
  KfOk H kvs sm (fun l s => s ≠ t / 2 ^ l) ∧ kvs.length ≤ 41 * c ∧ c ≤ 1000 ∧ FourIs H v o ∧ Is4 (inS sm 0 t) o ∧ ∀ H', TreeAt C H' p n d1 d2 sm (c + 1) → Kp d2 H H' → Q .non H'
theorem sc_Tree_renew : FnScope ["self", "t", "four", "s", "level", "halves"] ["self", "t", "four"] (defScope s_Tree_renew) := ⟨rfl, rfl, rfl, by decide +kernel, rfl, by decide +kernel, by decide +kernel⟩
theorem ok_Tree_renew (T : Txt K mg a) : FnOk P w K mg base CX0 3 a.f_Tree_renew a.d_Tree_renew ["self", "t", "four"] (spRenew a.C_Tree) := by
  refine T.F_Tree_renew.ok sc_Tree_renew (fun vs H Q E h => ?_) (fun cdv A outer s H vs Q E hr h => ?_)
  · obtain ⟨p, d1, d2, dx, n, t, v, o, sm, kvs, c, rfl, _⟩ := h
    rfl
  · obtain ⟨p, d1, d2, dx, n, t, v, o, sm, kvs, c, rfl, hp, h1, h2, hnd, hkf, hlen, hc, hv, ho, k⟩ := h
    have hu := hu_of hr
    have np2 : p ≠ d2 := fun z => by subst z; rw [hp] at h2; cases h2
    have n12 : d1 ≠ d2 := fun z => by subst z; rw [h1] at h2; cases h2
    refine' ⟨_, QB.h ?pp, ?rr⟩
    case pp =>
     refine' qss_cons ?h199 ?h200
     case h199 =>
      refine' qs_dput hu (qv 2) ?h201 ?h202
      case h201 =>
       exact ke_fld K rfl (qv 0)
      case h202 =>
       refine' qe_tup ?h203
       case h203 =>
        refine' qa_c qe_int ?h204
        case h204 =>
         exact qa_c (qv 1) qa_nil
     case h200 =>
      refine' qss_cons ?h205 ?h206
      case h205 =>
       exact qs_setS (i := 3) sc_Tree_renew.nd rfl (by walk_at "o") (qv 1)
      case h206 =>
       refine' qss_one ?h207
       case h207 =>
        refine' qs_for PassesOwn.never rfl ?h208 (qg_name (i := 4) sc_Tree_renew.nd rfl (by walk_at "o")) ?h209
        case h208 =>
         refine' qi_range1 rfl T.z_range ?h210
         case h210 =>
          exact qa_c (qe_glob (v := .int 40) rfl T.m_TOP_LEVEL ⟨_, rfl⟩) qa_nil
        case h209 =>
         refine' qss_cons ?h211 ?h212
         case h211 =>
          refine' qs_setS (i := 3) sc_Tree_renew.nd rfl (by walk_at "o") ?h213
          case h213 =>
           exact qe_op op_fdivB (qv 3) qe_int
         case h212 =>
          refine' qss_cons ?h214 ?h215
          case h214 =>
           refine' qs_setS (i := 5) sc_Tree_renew.nd rfl (by walk_at "o") ?h216
           case h216 =>
            refine' qe_tup ?h217
            case h217 =>
             refine' qa_c ?h218 ?h219
             case h218 =>
              refine' qe_dget1 hu ?h220 ?h221
              case h220 =>
               exact ke_fld K rfl (qv 0)
              case h221 =>
               refine' qe_tup ?h222
               case h222 =>
                refine' qa_c (qv 4) ?h223
                case h223 =>
                 refine' qa_c ?h224 qa_nil
                 case h224 =>
                  exact qe_op op_mulG qe_int (qv 3)
             case h219 =>
              refine' qa_c ?h225 qa_nil
              case h225 =>
               refine' qe_dget1 hu ?h226 ?h227
               case h226 =>
                exact ke_fld K rfl (qv 0)
               case h227 =>
                refine' qe_tup ?h228
                case h228 =>
                 refine' qa_c (qv 4) ?h229
                 case h229 =>
                  refine' qa_c ?h230 qa_nil
                  case h230 =>
                   refine' qe_op op_add ?h231 qe_int
                   case h231 =>
                    exact qe_op op_mulG qe_int (qv 3)
          case h215 =>
           refine' qss_one ?h232
           case h232 =>
            refine' qs_dput hu ?h233 ?h234 ?h235
            case h233 =>
             refine' qe_callS (ok_joined T) hr rfl T.m_joined T.F_joined.kp T.b_joined .nil pass0 ?h236
             case h236 =>
              refine' qa_c ?h237 ?h238
              case h237 =>
               exact qe_ix (kx_tup K rfl) (qv 5) qe_int
              case h238 =>
               refine' qa_c ?h239 qa_nil
               case h239 =>
                exact qe_ix (kx_tup K rfl) (qv 5) qe_int
            case h234 =>
             exact ke_fld K rfl (qv 0)
            case h235 =>
             refine' qe_tup ?h240
             case h240 =>
              refine' qa_c ?h241 ?h242
              case h241 =>
               exact qe_op op_add (qv 4) qe_int
              case h242 =>
               exact qa_c (qv 3) qa_nil
    case rr =>
    walk_at "s"
    walk_at "w"
    refine rd_new (by show 2 ≤ sizeLine; decide) fun b3 H3 n3 f3 S3 => ?_
    walk_at "w"
    refine rd_dputT (k := kOf 0 t) (S3 _ _ h2) f3 (Nat.lt_of_le_of_lt (show kvs.length ≤ 41000 by omega) (by decide)) fun H4 f4 K4 => ?_
    have K04 : Kp d2 H H4 := (Kp.same S3).trans K4
    have nt : ∀ (l : List (List Key × V)) (xs : List V), HO.dT l ≠ .tup xs := fun l xs z => by cases z
    have e0 : t / 2 ^ 0 = t := by simp
    have hk4 : KfOk H4 (putK kvs (kOf 0 t) v) sm (fun l s => s ≠ t / 2 ^ l ∨ l ≤ 0) := by
      have h := ((hkf.same S3).put (i := 0) (t := t) (hv.same S3) (by rw [e0]; exact ho)).kpX K4 (S3 _ _ h2) (nt _)
      rw [e0] at h
      refine h.mono fun l s hl g => ?_
      rcases g with g | g
      · exact .inl g
      · have : l = 0 := by omega
        subst this
        by_cases e : s = t / 2 ^ 0
        · exact .inr ⟨rfl, e⟩
        · exact .inl e
    have hl4 : (putK kvs (kOf 0 t) v).length ≤ 41 * c + 1 := Nat.le_trans (length_putK _ _ _) (by omega)
    walk_at "w"
    refine rd_rng (by decide) (by decide) (rd_forR (fun i σ H' => (∃ v4 v5, σ = [some (.ref p), some (.int t), some v, some (.int (t / 2 ^ i)), v4, v5]) ∧ Kp d2 H H' ∧ ∃ kvs', H' d2 = some (.dT kvs') ∧ KfOk H' kvs' sm (fun l s => s ≠ t / 2 ^ l ∨ l ≤ i) ∧ kvs'.length ≤ 41 * c + 1 + i) ?_ ?_ ?_)
    · exact ⟨⟨none, none, by rw [e0]; rfl⟩, K04, _, f4, hk4, hl4⟩
    · rintro i σ H5 hi ⟨⟨v4, v5, rfl⟩, K5, kv5, f5, hk5, hl5⟩
      have hi40 : i < 40 := hi
      have hp5 := K5 _ _ hp np2
      have ez : (0 + (i : Int)) = (i : Int) := by omega
      rw [ez]
      walk_at "w"
      generalize hs : t / 2 ^ i / 2 = s
      have hs1 : t / 2 ^ (i + 1) = s := by rw [half_div, hs]
      refine rd_dgetmT f5 ?_
      walk_at "w"
      refine rd_new (by show 2 ≤ sizeLine; decide) fun b6 H6 n6 f6 S6 => ?_
      refine rd_dgetT (k := kOf i (2 * s)) (S6 _ _ f5) f6 ?_
      have hp6 := S6 _ _ hp5
      have f56 := S6 _ _ f5
      walk_at "w"
      refine rd_dgetmT f56 ?_
      walk_at "w"
      refine rd_new (by show 2 ≤ sizeLine; decide) fun b7 H7 n7 f7 S7 => ?_
      refine rd_dgetT (k := kOf i (2 * s + 1)) (S7 _ _ f56) f7 ?_
      have S57 := S6.trans S7
      walk_at "w"
      refine rd_new (by show 2 ≤ sizeLine; decide) fun b8 H8 n8 f8 S8 => ?_
      have S58 := S57.trans S8
      have hk8 := hk5.same S58
      obtain ⟨oa, ha1, ha2⟩ := hk8 i (2 * s) (by omega) (.inr (Nat.le_refl _))
      obtain ⟨ob, hb1, hb2⟩ := hk8 i (2 * s + 1) (by omega) (.inr (Nat.le_refl _))
      walk_at "w"
      refine ⟨_, _, oa, ob, _, _, rfl, ha1, ha2, hb1, hb2, inS_lt (by omega), fun v9 o9 H9 h9 g9 S9 => ?_⟩
      have g9 : Is4 (inS sm (i + 1) s) o9 := g9.congr fun q => inS_half
      have S59 := S58.trans S9
      have hp9 := S59 _ _ hp5
      walk_at "w"
      refine rd_new (by show 2 ≤ sizeLine; decide) fun b10 H10 n10 f10 S10 => ?_
      have S510 := S59.trans S10
      have f510 := S510 _ _ f5
      refine rd_dputT (k := kOf (i + 1) s) f510 ?_ (Nat.lt_of_le_of_lt (show kv5.length ≤ 42000 by omega) (by decide)) fun H11 f11 K11 => ?_
      · rw [f10]
        show some (HO.tup [V.int ((i : Int) + 1), V.int s]) = some (HO.tup [V.int ((i + 1 : Nat) : Int), V.int s])
        rw [show ((i + 1 : Nat) : Int) = (i : Int) + 1 by omega]
      walk_at "w"
      refine ⟨⟨some (.int i), some (.ref b8), by rw [hs1]; rfl⟩, (K5.then S510).trans K11, _, f11, ?_, Nat.le_trans (length_putK _ _ _) (by omega)⟩
      have h := ((hk5.same S510).put (i := i + 1) (t := t) (h9.same S10) (by rw [hs1]; exact g9)).kpX K11 f510 (nt _)
      rw [hs1] at h
      refine h.mono fun l s' hl g => ?_
      rcases g with g | g
      · exact .inl (.inl g)
      · by_cases e : l = i + 1
        · by_cases e2 : s' = t / 2 ^ l
          · exact .inr ⟨e, e2⟩
          · exact .inl (.inl e2)
        · exact .inl (.inr (by omega))
    · rintro σ H5 ⟨⟨v4, v5, rfl⟩, K5, kv5, f5, hk5, hl5⟩
      walk_at "w"
      refine k H5 ⟨dx, kv5, K5 _ _ hp np2, K5 _ _ h1 n12, f5, hnd, hk5.mono fun l s hl _ => .inr hl, ?_⟩ K5
      have : kv5.length ≤ 41 * c + 1 + 40 := hl5
      omega
def spTPut (C : Addr) : Sp := fun vs H Q _ => ∃ (p d1 d2 : Addr) (n t h : Int) (sm : List (Int × Int)) (c : Nat), vs = [.ref p, .int t, .int h] ∧ TreeAt C H p n d1 d2 sm c ∧ Tm t ∧ c ≤ 1000 ∧ sm.length ≤ 1000 ∧
  ∀ H', TreeAt C H' p n d1 d2 (putI sm t h) (c + 1) → Fr3 p d1 d2 H H' → Q .non H'
theorem sc_Tree_put : FnScope ["self", "t", "h"] ["self", "t", "h"] (defScope s_Tree_put) := ⟨rfl, rfl, rfl, by decide +kernel, rfl, by decide +kernel, by decide +kernel⟩
theorem ok_Tree_put (T : Txt K mg a) : FnOk P w K mg base CX0 4 a.f_Tree_put a.d_Tree_put ["self", "t", "h"] (spTPut a.C_Tree) := by
  refine T.F_Tree_put.ok sc_Tree_put (fun vs H Q E h => ?_) (fun cdv A outer s H vs Q E hr h => ?_)
  · obtain ⟨p, d1, d2, n, t, h, sm, c, rfl, _⟩ := h
    rfl
  · obtain ⟨p, d1, d2, n, t, x, sm, c, rfl, ⟨dx, kvs, hp, h1, h2, hnd, hkf, hlen⟩, ht, hc, hsl, k⟩ := h
    have hu := hu_of hr
    have np1 : p ≠ d1 := fun z => by subst z; rw [hp] at h1; cases h1
    have n21 : d2 ≠ d1 := fun z => by subst z; rw [h1] at h2; cases h2
    refine' ⟨_, QB.h ?pp, ?rr⟩
    case pp =>
     refine' qss_cons ?h243 ?h244
     case h243 =>
      refine' qs_exprS ?h245
      case h245 =>
       refine' qe_callS (ok_check_time T) hr rfl T.m_check_time T.F_check_time.kp T.b_check_time .nil pass0 ?h246
       case h246 =>
        exact qa_c (qv 1) qa_nil
     case h244 =>
      refine' qss_cons ?h247 ?h248
      case h247 =>
       refine' qs_dput hu (qv 2) ?h249 (qv 1)
       case h249 =>
        exact ke_fld K rfl (qv 0)
      case h248 =>
       refine' qss_one ?h250
       case h250 =>
        refine' qs_exprS ?h251
        case h251 =>
         refine' qe_meth (qv 0) T.c_Tree T.M_Tree_renew (ok_Tree_renew T) hr T.b_Tree_renew .nil pass0 ?h252
         case h252 =>
          refine' qa_c (qv 1) ?h253
          case h253 =>
           refine' qa_c ?h254 qa_nil
           case h254 =>
            refine' qe_callS (ok_four_of T) hr rfl T.m_four_of T.F_four_of.kp T.b_four_of .nil pass0 ?h255
            case h255 =>
             refine' qa_c ?h256 qa_nil
             case h256 =>
              refine' qe_tup ?h257
              case h257 =>
               refine' qa_c ?h258 qa_nil
               case h258 =>
                refine' qe_tup ?h259
                case h259 =>
                 refine' qa_c (qv 1) ?h260
                 case h260 =>
                  exact qa_c (qv 2) qa_nil
    case rr =>
    walk_at "s"
    walk_at "w"
    refine ⟨t, rfl, ht, ?_⟩
    walk_at "w"
    refine rd_dputI h1 (Nat.lt_of_le_of_lt hsl (by decide)) fun H3 f3 K3 => ?_
    have hp3 := K3 _ _ hp np1
    have h23 := K3 _ _ h2 n21
    have hk3 : KfOk H3 kvs (putI sm t x) (fun l s => s ≠ t / 2 ^ l) := (KfOk.other hkf fun q hq => by
      rw [mem_putI hnd]
      constructor
      · exact fun z => .inl ⟨hq, z⟩
      · rintro (z | z)
        · exact z.2
        · exact absurd (by rw [z]) hq).kpX K3 h1 (fun xs z => by cases z)
    walk_at "w"
    refine rd_methO hp3 (tfl_no (by decide +kernel) (by decide +kernel) (by decide +kernel)) ?_
    walk_at "w"
    refine rd_new (by show 2 ≤ sizeLine; decide) fun b4 H4 n4 f4 S4 => ?_
    walk_at "w"
    refine rd_new (by show 1 ≤ sizeLine; decide) fun b5 H5 n5 f5 S5 => ?_
    walk_at "w"
    refine ⟨b5, [(t, x)], rfl, ⟨_, f5, .cons ⟨b4, rfl, S5 _ _ f4⟩ .nil⟩, List.pairwise_singleton _ _, fun v6 o6 H6 h6 g6 S6 => ?_⟩
    have S36 := S4.trans (S5.trans S6)
    walk_at "w"
    refine ⟨p, d1, d2, dx, n, t, v6, o6, putI sm t x, kvs, c, rfl, S36 _ _ hp3, S36 _ _ f3, S36 _ _ h23, putI_nodup hnd, hk3.same S36, hlen, hc, h6, g6.congr fun q => ?_, fun H7 hT7 K7 => ?_⟩
    · rw [List.mem_singleton, mem_inS, mem_putI hnd]
      simp only [Int.pow_zero, Int.ediv_one]
      constructor
      · rintro rfl
        exact ⟨.inr rfl, rfl⟩
      · rintro ⟨h1 | h1, h2⟩
        · exact absurd h2 h1.1
        · exact h1
    · walk_at "w"
      exact k H7 hT7 fun b o e e1 e2 e3 => K7 _ _ (S36 _ _ (K3 _ _ e e2)) e3
def spTInit (C : Addr) : Sp := fun vs H Q _ => ∃ (p dx : Addr) (x : V) (cv : List (Int × Int)), vs = [.ref p, x] ∧ H p = some (.ins C dx []) ∧ ((x = .non ∧ cv = []) ∨ ∃ t, x = .ref t ∧ PrT H t cv) ∧ (cv.map (·.1)).Nodup ∧ (∀ q ∈ cv, Tm q.1) ∧ cv.length ≤ 100 ∧
  ∀ (d1 d2 : Addr) (sm : List (Int × Int)) (H' : Hp), H d1 = none → H d2 = none → TreeAt C H' p 0 d1 d2 sm cv.length → (∀ q, q ∈ sm ↔ q ∈ cv) → sm.length ≤ cv.length → Kp p H H' → Q .non H'
theorem sc_Tree___init__ : FnScope ["self", "curve", "t", "h"] ["self", "curve"] (defScope s_Tree___init__) := ⟨rfl, rfl, rfl, by decide +kernel, rfl, by decide +kernel, by decide +kernel⟩
theorem ok_Tree___init__ (T : Txt K mg a) : FnOk P w K mg base CX0 5 a.f_Tree___init__ a.d_Tree___init__ ["self", "curve"] (spTInit a.C_Tree) := by
  refine T.F_Tree___init__.ok sc_Tree___init__ (fun vs H Q E h => ?_) (fun cdv A outer s H vs Q E hr h => ?_)
  · obtain ⟨p, dx, x, cv, rfl, _⟩ := h
    rfl
  · obtain ⟨p, dx, x, cv, rfl, hp, hx, hnd, htm, hlen, k⟩ := h
    refine' ⟨_, QB.h ?pp, ?rr⟩
    case pp =>
     refine' qss_cons ?h261 ?h262
     case h261 =>
      exact ks_fld K rfl (qv 0) qe_int
     case h262 =>
      refine' qss_cons ?h263 ?h264
      case h263 =>
       exact ks_fld K rfl (qv 0) qe_dnewK
      case h264 =>
       refine' qss_cons ?h265 ?h266
       case h265 =>
        exact ks_fld K rfl (qv 0) qe_dnewT
       case h266 =>
        refine' qss_one ?h267
        case h267 =>
         refine' qs_if ?h268 ?h269 qss_nil
         case h268 =>
          exact qt_cmpR (oq_notN) (qv 1) qe_non (nomark _)
         case h269 =>
          refine' qss_one ?h270
          case h270 =>
           refine' qs_for PassesOwn.never rfl ?h271 ?h272 ?h273
           case h271 =>
            exact ki_tup K rfl (qv 1)
           case h272 =>
            refine' kg_tup (n := 2) K rfl rfl ?h274
            case h274 =>
             refine' qgs_cons (qg_name (i := 2) sc_Tree___init__.nd rfl (by walk_at "o")) ?h275
             case h275 =>
              exact qgs_cons (qg_name (i := 3) sc_Tree___init__.nd rfl (by walk_at "o")) qgs_nil
           case h273 =>
            refine' qss_one ?h276
            case h276 =>
             refine' qs_exprS ?h277
             case h277 =>
              refine' qe_meth (qv 0) T.c_Tree T.M_Tree_put (ok_Tree_put T) hr T.b_Tree_put .nil pass0 ?h278
              case h278 =>
               refine' qa_c (qv 2) ?h279
               case h279 =>
                exact qa_c (qv 3) qa_nil
    case rr =>
    walk_at "s"
    walk_at "w"
    refine rd_setF hp T.c_Tree T.n_Tree_looks (by show 0 < 1000; decide) fun H1 f1 K1 => ?_
    walk_at "w"
    refine rd_dnewI fun d1 H2 n2 f2 S2 => ?_
    have hp2 := S2 _ _ f1
    have nd1 : d1 ≠ p := fun z => by rw [z, f1] at n2; cases n2
    walk_at "w"
    refine rd_setF hp2 T.c_Tree T.n_Tree_samples (by show 1 < 1000; decide) fun H3 f3 K3 => ?_
    have f23 := K3 _ _ f2 nd1
    walk_at "w"
    refine rd_dnewT fun d2 H4 n4 f4 S4 => ?_
    have hp4 := S4 _ _ f3
    have nd2 : d2 ≠ p := fun z => by rw [z, f3] at n4; cases n4
    walk_at "w"
    refine rd_setF hp4 T.c_Tree T.n_Tree_kept_fours (by show 2 < 1000; decide) fun H5 f5 K5 => ?_
    have f5 : H5 p = some (.ins a.C_Tree dx (tfl 0 d1 d2)) := by rw [f5, tfl_new]
    have K05 : Kp p H H5 := (((K1.then S2).trans K3).then S4).trans K5
    have f25 := K5 _ _ (S4 _ _ f23) nd1
    have f45 := K5 _ _ f4 nd2
    have hn1 : H d1 = none := by
      cases e : H d1 with
      | none => rfl
      | some o =>
        have := K1 _ _ e nd1
        rw [n2] at this
        cases this
    have hn2 : H d2 = none := by
      cases e : H d2 with
      | none => rfl
      | some o =>
        have := ((K1.then S2).trans K3) _ _ e nd2
        rw [n4] at this
        cases this
    have hT5 : TreeAt a.C_Tree H5 p 0 d1 d2 [] 0 := ⟨dx, [], f5, f25, f45, List.nodup_nil, fun l s hl _ => ⟨none, .non, .inl ⟨rfl, rfl⟩⟩, Nat.le_refl _⟩
    walk_at "w"
    rcases hx with ⟨rfl, rfl⟩ | ⟨t, rfl, hT⟩
    · refine iteND (fun h => absurd rfl h) (fun _ => ?_)
      walk_at "w"
      exact k d1 d2 [] H5 hn1 hn2 hT5 (fun q => Iff.rfl) (Nat.le_refl _) K05
    · refine iteND (fun _ => ?_) (fun h => by cases h)
      obtain ⟨us, g, hP⟩ := hT
      have ntp : ∀ {b : Addr} {xs : List V}, H b = some (.tup xs) → b ≠ p := fun e z => by rw [z, hp] at e; cases e
      have g5 := K05 _ _ g (ntp g)
      walk_at "w"
      refine rd_forT (xs := us) (fun i σ H' => (∃ v2 v3, σ = [some (.ref p), some (.ref t), v2, v3]) ∧ Kp p H H' ∧ ∃ sm, TreeAt a.C_Tree H' p 0 d1 d2 sm i ∧ (∀ q, q ∈ sm ↔ q ∈ cv.take i) ∧ sm.length ≤ i) ?_ ?_ ?_ ?_
      · exact ⟨⟨_, _, rfl⟩, K05, [], hT5, fun q => by rw [List.take_zero], Nat.le_refl _⟩
      · rintro i σ H6 _ ⟨_, K6, _⟩
        exact SqT.of (K6 _ _ g (ntp g))
      · rintro i x σ H6 hx ⟨⟨v2, v3, rfl⟩, K6, sm, hT6, hm6, hl6⟩
        obtain ⟨cc, q, rfl, hq, hc⟩ := hP.at hx
        have hc6 := K6 _ _ hc (ntp hc)
        obtain ⟨dx6, kv6, hp6, h16, h26, hnd6, hkf6, hlen6⟩ := id hT6
        have hi : i < cv.length := (List.getElem?_eq_some_iff.mp hq).1
        walk_at "w"
        refine rd_methO hp6 (tfl_no (by decide +kernel) (by decide +kernel) (by decide +kernel)) ?_
        walk_at "w"
        refine ⟨p, d1, d2, 0, q.1, q.2, sm, i, rfl, hT6, htm q (List.mem_of_getElem? hq), by omega, by omega, fun H7 hT7 Fr7 => ?_⟩
        walk_at "w"
        refine ⟨⟨_, _, rfl⟩, fun b o e nb => Fr7 _ _ (K6 _ _ e nb) nb (fun z => by rw [z, hn1] at e; cases e) (fun z => by rw [z, hn2] at e; cases e), putI sm q.1 q.2, hT7, fun r => ?_, Nat.le_trans (putI_len _ _ _) (by omega)⟩
        rw [mem_putI hnd6, List.take_succ, hq, List.mem_append, hm6]
        have hne : ∀ r ∈ cv.take i, r.1 ≠ q.1 := fun r hr e => by
          obtain ⟨j, hj, rfl⟩ := List.getElem_of_mem hr
          rw [List.length_take] at hj
          rw [List.getElem_take] at e
          obtain ⟨z2, y2⟩ := List.getElem?_eq_some_iff.mp hq
          have : (cv.map (·.1))[j]'(by rw [List.length_map]; omega) = (cv.map (·.1))[i]'(by rw [List.length_map]; omega) := by
            rw [List.getElem_map, List.getElem_map, y2]
            exact e
          have := (List.getElem_inj hnd).mp this
          omega
        constructor
        · rintro (h | h)
          · exact .inl h.2
          · exact .inr (by rw [h]; exact List.mem_cons_self)
        · rintro (h | h)
          · exact .inl ⟨hne r h, h⟩
          · exact .inr (by simpa using h)
      · rintro σ H6 ⟨⟨v2, v3, rfl⟩, K6, sm, hT6, hm6, hl6⟩
        rw [hP.length] at hT6 hm6 hl6
        rw [List.take_length] at hm6
        walk_at "w"
        exact k d1 d2 sm H6 hn1 hn2 hT6 hm6 hl6 K6
end
theorem TreeAt.kpX {C : Addr} {H H' : Hp} {p d1 d2 l : Addr} {n : Int} {sm : List (Int × Int)} {c : Nat} {xs : List V} (h : TreeAt C H p n d1 d2 sm c) (k : Kp l H H') (hl : H l = some (.lst xs)) : TreeAt C H' p n d1 d2 sm c := by
  obtain ⟨dx, kvs, h1, h2, h3, h4, h5, h6⟩ := h
  exact ⟨dx, kvs, k _ _ h1 (fun z => by rw [z, hl] at h1; cases h1), k _ _ h2 (fun z => by rw [z, hl] at h2; cases h2), k _ _ h3 (fun z => by rw [z, hl] at h3; cases h3), h4, h5.kpX k hl (fun _ z => by cases z), h6⟩
theorem TreeAt.fr {C : Addr} {H H' : Hp} {p d1 d2 p' d1' d2' : Addr} {n n' : Int} {sm sm' : List (Int × Int)} {c c' : Nat} (h : TreeAt C H p n d1 d2 sm c) (g : TreeAt C H p' n' d1' d2' sm' c') (f : Fr3 p' d1' d2' H H') (e0 : p ≠ p') (e1 : d1 ≠ d1') (e2 : d2 ≠ d2') : TreeAt C H' p n d1 d2 sm c := by
  obtain ⟨dx, kvs, h1, h2, h3, h4, h5, h6⟩ := h
  obtain ⟨dy, kws, g1, g2, g3, _⟩ := g
  refine ⟨dx, kvs, f _ _ h1 e0 (fun z => by rw [z, g2] at h1; cases h1) (fun z => by rw [z, g3] at h1; cases h1), f _ _ h2 (fun z => by rw [z, g1] at h2; cases h2) e1 (fun z => by rw [z, g3] at h2; cases h2), f _ _ h3 (fun z => by rw [z, g1] at h3; cases h3) (fun z => by rw [z, g2] at h3; cases h3) e2, h4, h5.tups fun b xs e => ?_, h6⟩
  exact f _ _ e (fun z => by rw [z, g1] at e; cases e) (fun z => by rw [z, g2] at e; cases e) (fun z => by rw [z, g3] at e; cases e)
theorem kp_fr3 {p d1 d2 : Addr} {H H' : Hp} (h : Kp p H H') : Fr3 p d1 d2 H H' := fun b o e e1 _ _ => h b o e e1
theorem TreeAt.keepT {C : Addr} {H H' : Hp} {p d1 d2 : Addr} {n : Int} {sm : List (Int × Int)} {c : Nat} (g : TreeAt C H p n d1 d2 sm c) (f : Fr3 p d1 d2 H H') {b : Addr} {xs : List V} (e : H b = some (.tup xs)) : H' b = some (.tup xs) := by
  obtain ⟨dy, kws, g1, g2, g3, _⟩ := g
  exact f _ _ e (fun z => by rw [z, g1] at e; cases e) (fun z => by rw [z, g2] at e; cases e) (fun z => by rw [z, g3] at e; cases e)
theorem TreeAt.keepL {C : Addr} {H H' : Hp} {p d1 d2 : Addr} {n : Int} {sm : List (Int × Int)} {c : Nat} (g : TreeAt C H p n d1 d2 sm c) (f : Fr3 p d1 d2 H H') {b : Addr} {xs : List V} (e : H b = some (.lst xs)) : H' b = some (.lst xs) := by
  obtain ⟨dy, kws, g1, g2, g3, _⟩ := g
  exact f _ _ e (fun z => by rw [z, g1] at e; cases e) (fun z => by rw [z, g2] at e; cases e) (fun z => by rw [z, g3] at e; cases e)
theorem TreeAt.keepP {C : Addr} {H H' : Hp} {p d1 d2 : Addr} {n : Int} {sm : List (Int × Int)} {c : Nat} (g : TreeAt C H p n d1 d2 sm c) (f : Fr3 p d1 d2 H H') {b : Addr} {cv : List (Int × Int)} (e : PrT H b cv) : PrT H' b cv := by
  obtain ⟨us, h1, h2⟩ := e
  exact ⟨us, g.keepT f h1, Paired.mapP h2 fun _ _ ⟨a, e, z⟩ => ⟨a, e, g.keepT f z⟩⟩
theorem TreeAt.nd {C : Addr} {H : Hp} {p d1 d2 : Addr} {n : Int} {sm : List (Int × Int)} {c : Nat} (g : TreeAt C H p n d1 d2 sm c) : (sm.map (·.1)).Nodup := by
  obtain ⟨dy, kws, g1, g2, g3, g4, _⟩ := g
  exact g4
section
variable {P : Program} {w : World} {K : PySem.W.Frag} {mg : Str → Option Value} {base : Heap} {a : Ad}
local macro_rules | `(tactic| walk_at "rd") => `(tactic| first
  | with_reducible refine rd_fld (by assumption) (‹Txt _ _ _›).c_Tree (‹Txt _ _ _›).n_Tree_looks tfl_looks ?_
  | with_reducible refine rd_fld (by assumption) (‹Txt _ _ _›).c_Tree (‹Txt _ _ _›).n_Tree_samples tfl_samples ?_
  | with_reducible refine rd_fld (by assumption) (‹Txt _ _ _›).c_Tree (‹Txt _ _ _›).n_Tree_kept_fours tfl_kept ?_)
def spTFour (C : Addr) : Sp := fun vs H Q _ => ∃ (p d1 d2 : Addr) (n b e : Int) (sm : List (Int × Int)) (c : Nat), vs = [.ref p, .int b, .int e] ∧ TreeAt C H p n d1 d2 sm c ∧ InT b ∧ InT e ∧
  ∀ (v : V) (o : Option (List (Int × Int))) (prs : List (Int × Int)) (H' : Hp), FourIs H' v o → Is4 (inCol sm b e) o → Ch e b prs (maxI b e) → TreeAt C H' p (n + prs.length) d1 d2 sm c → Kp p H H' → Q v H'
theorem Ch.cut {e : Int} : ∀ {prs : List (Int × Int)} {x y : Int}, Ch e x prs y → ∀ {i : Nat} {q : Int × Int}, prs[i]? = some q → ∃ z, Ch e x (prs.take i) z ∧ (0 ≤ q.1 ∧ q.1 ≤ 40) ∧ q.2 * 2 ^ q.1.toNat = z ∧ Ch e x (prs.take (i + 1)) (z + 2 ^ q.1.toNat)
  | [], _, _, _, i, q, h => by simp at h
  | p :: r, x, y, hc, 0, q, h => by
    have : p = q := by simpa using h
    subst this
    obtain ⟨h1, h2, h3, h4, h5⟩ := hc
    exact ⟨x, rfl, h1, h2, h1, h2, h3, h4, rfl⟩
  | p :: r, x, y, hc, i + 1, q, h => by
    obtain ⟨h1, h2, h3, h4, h5⟩ := hc
    obtain ⟨z, g1, g2, g3, g4⟩ := Ch.cut h5 (i := i) (q := q) (by simpa using h)
    exact ⟨z, ⟨h1, h2, h3, h4, g1⟩, g2, g3, h1, h2, h3, h4, g4⟩
theorem Ch.fun {e : Int} : ∀ {prs : List (Int × Int)} {x y z : Int}, Ch e x prs y → Ch e x prs z → y = z
  | [], _, _, _, h, g => h.symm.trans g
  | p :: r, x, y, z, h, g => Ch.fun h.2.2.2.2 g.2.2.2.2
theorem sc_Tree_four : FnScope ["self", "begin", "end", "four", "parts", "stretch"] ["self", "begin", "end"] (defScope s_Tree_four) := ⟨rfl, rfl, rfl, by decide +kernel, rfl, by decide +kernel, by decide +kernel⟩
theorem ok_Tree_four (T : Txt K mg a) : FnOk P w K mg base CX0 5 a.f_Tree_four a.d_Tree_four ["self", "begin", "end"] (spTFour a.C_Tree) := by
  refine T.F_Tree_four.ok sc_Tree_four (fun vs H Q E h => ?_) (fun cdv A outer s H vs Q E hr h => ?_)
  · obtain ⟨p, d1, d2, n, b, e, sm, c, rfl, _⟩ := h
    rfl
  · obtain ⟨p, d1, d2, n, b, e, sm, c, rfl, hTr, hb, he, k⟩ := h
    have hu := hu_of hr
    obtain ⟨dx, kvs, hp, h1, h2, hnd, hkf, hlen⟩ := id hTr
    refine' ⟨_, QB.h ?pp, ?rr⟩
    case pp =>
     refine' qss_cons ?h280 ?h281
     case h280 =>
      exact qs_setS (i := 3) sc_Tree_four.nd rfl (by walk_at "o") qe_non
     case h281 =>
      refine' qss_cons ?h282 ?h283
      case h282 =>
       refine' qs_setS (i := 4) sc_Tree_four.nd rfl (by walk_at "o") ?h284
       case h284 =>
        refine' qe_callS (ok_stretches T) hr rfl T.m_stretches T.F_stretches.kp T.b_stretches .nil pass0 ?h285
        case h285 =>
         refine' qa_c (qv 1) ?h286
         case h286 =>
          exact qa_c (qv 2) qa_nil
      case h283 =>
       refine' qss_cons ?h287 ?h288
       case h287 =>
        refine' qs_for PassesOwn.never rfl ?h289 (qg_name (i := 5) sc_Tree_four.nd rfl (by walk_at "o")) ?h290
        case h289 =>
         exact ki_tup K rfl (qv 4)
        case h290 =>
         refine' qss_one ?h291
         case h291 =>
          refine' qs_setS (i := 3) sc_Tree_four.nd rfl (by walk_at "o") ?h292
          case h292 =>
           refine' qe_callS (ok_joined T) (hr.mono (by decide)) rfl T.m_joined T.F_joined.kp T.b_joined .nil pass0 ?h293
           case h293 =>
            refine' qa_c (qv 3) ?h294
            case h294 =>
             refine' qa_c ?h295 qa_nil
             case h295 =>
              refine' qe_dget1 hu ?h296 (qv 5)
              case h296 =>
               exact ke_fld K rfl (qv 0)
       case h288 =>
        refine' qss_cons ?h297 ?h298
        case h297 =>
         refine' ks_fldadd K rfl (qv 0) ?h299
         case h299 =>
          refine' qe_callBS (kc_len K rfl) rfl T.z_len bt_len ?h300
          case h300 =>
           exact qa_c (qv 4) qa_nil
        case h298 =>
         refine' qss_one ?h301
         case h301 =>
          exact qs_ret (qv 3)
    case rr =>
    walk_at "s"
    walk_at "w"
    refine ⟨b, e, rfl, hb, he, fun t prs H1 hT1 hch hpl S1 => ?_⟩
    obtain ⟨us, g1, hP1⟩ := hT1
    have hp1 := S1 _ _ hp
    walk_at "w"
    refine rd_forT (xs := us) (fun i σ H' => (∃ v v5, σ = [some (.ref p), some (.int b), some (.int e), some v, some (.ref t), v5] ∧ ∃ o z, FourIs H' v o ∧ Ch e b (prs.take i) z ∧ Is4 (inCol sm b z) o) ∧ Same H1 H') ?_ ?_ ?_ ?_
    · refine ⟨⟨_, _, rfl, none, b, .non, rfl, .inl ⟨rfl, ?_⟩⟩, Same.refl _⟩
      cases e0 : inCol sm b b with
      | nil => rfl
      | cons q qs =>
        have := (mem_inCol.mp (show q ∈ inCol sm b b by rw [e0]; exact List.mem_cons_self)).2
        omega
    · rintro i σ H' _ ⟨_, S'⟩
      exact SqT.of (S' _ _ g1)
    · rintro i x σ H2 hx ⟨⟨v, v5, rfl, o, z, hv, hz, ho⟩, S2⟩
      obtain ⟨cc, q, rfl, hq, hc⟩ := (hP1.same S2).at hx
      obtain ⟨z', hz', hq1, hq2, hz2⟩ := Ch.cut hch hq
      obtain rfl := Ch.fun hz hz'
      have S02 := S1.trans S2
      obtain ⟨l, hl⟩ : ∃ l : Nat, q.1 = (l : Int) := ⟨q.1.toNat, by omega⟩
      have hln : q.1.toNat = l := by omega
      rw [hln] at hq2 hz2
      have hp2 := S02 _ _ hp
      have h22 := S02 _ _ h2
      obtain ⟨o2, hf2, hi2⟩ := (hkf.same S02) l q.2 (by omega) trivial
      have e4 : inS sm l q.2 = inCol sm z (z + 2 ^ l) := by unfold inS; rw [hq2]
      rw [e4] at hi2
      walk_at "w"
      refine rd_dgetmT h22 ?_
      walk_at "w"
      refine rd_dgetT (k := kOf l q.2) h22 (by rw [hc, hl]; rfl) ?_
      refine ⟨v, _, o, o2, _, _, rfl, hv, ho, hf2, hi2, inCol_lt, fun v3 o3 H3 h3 g3 S3 => ?_⟩
      walk_at "w"
      refine ⟨⟨_, _, rfl, o3, z + 2 ^ l, h3, hz2, g3.congr fun r => inCol_join hz.le (by have := two_pos l; omega) r⟩, S2.trans S3⟩
    · rintro σ H2 ⟨⟨v, v5, rfl, o, z, hv, hz, ho⟩, S2⟩
      rw [hP1.length, List.take_length] at hz
      obtain rfl := Ch.fun hz hch
      have S02 := S1.trans S2
      have hp2 := S02 _ _ hp
      have g2 := S2 _ _ g1
      have hul : us.length = prs.length := hP1.length
      walk_at "w"
      refine rd_fldaugA hp2 T.c_Tree T.n_Tree_looks tfl_looks ?_
      walk_at "w"
      refine ⟨n, _, rfl, rfl, dx, _, hp2, by show 3 < 1000; decide, ?_⟩
      rw [tfl_put]
      have f3 : (upd H2 p (.ins a.C_Tree dx (tfl (n + (us.length : Int)) d1 d2))) p = some (.ins a.C_Tree dx (tfl (n + (us.length : Int)) d1 d2)) := upd_same
      have K3 : Kp p H2 (upd H2 p (.ins a.C_Tree dx (tfl (n + (us.length : Int)) d1 d2))) := Kp.upd
      generalize upd H2 p (.ins a.C_Tree dx (tfl (n + (us.length : Int)) d1 d2)) = H3 at f3 K3
      have ntp : ∀ (xs : List V), HO.ins a.C_Tree dx (tfl n d1 d2) ≠ .tup xs := fun xs z => by cases z
      walk_at "w"
      refine k v o prs H3 (hv.kpX K3 hp2 ntp) (ho.congr fun r => ?_) hch ⟨dx, kvs, by rw [← hul]; exact f3, K3 _ _ (S02 _ _ h1) (fun z => by rw [z, hp] at h1; cases h1), K3 _ _ (S02 _ _ h2) (fun z => by rw [z, hp] at h2; cases h2), hnd, (hkf.same S02).kpX K3 hp2 ntp, hlen⟩ ((Kp.same S02).trans K3)
      rw [mem_inCol, mem_inCol]
      unfold maxI
      split
      · exact Iff.rfl
      · constructor
        · rintro ⟨_, g1, g2⟩
          omega
        · rintro ⟨_, g1, g2⟩
          omega
end
section
variable {P : Program} {w : World} {K : PySem.W.Frag} {mg : Str → Option Value} {base : Heap} {a : Ad}
local macro_rules | `(tactic| walk_at "rd") => `(tactic| first
  | with_reducible refine rd_fld (by assumption) (‹Txt _ _ _›).c_Tree (‹Txt _ _ _›).n_Tree_looks tfl_looks ?_
  | with_reducible refine rd_fld (by assumption) (‹Txt _ _ _›).c_Tree (‹Txt _ _ _›).n_Tree_samples tfl_samples ?_
  | with_reducible refine rd_fld (by assumption) (‹Txt _ _ _›).c_Tree (‹Txt _ _ _›).n_Tree_kept_fours tfl_kept ?_)
def spCheckW : Sp := fun vs H Q _ => ∃ (p : Addr) (b y m : Int), vs = [.ref p] ∧ H p = some (.tup [.int b, .int y, .int m]) ∧ 0 ≤ m ∧ m ≤ 1000 ∧ InT b ∧ InT (b + m * y) ∧ Q .non H
theorem sc_check_window : FnScope ["window", "begin", "wide", "many"] ["window"] (defScope s_check_window) := ⟨rfl, rfl, rfl, by decide +kernel, rfl, by decide +kernel, by decide +kernel⟩
theorem ok_check_window (T : Txt K mg a) : FnOk P w K mg base CX0 4 a.f_check_window a.d_check_window ["window"] spCheckW := by
  refine T.F_check_window.ok sc_check_window (fun vs H Q E h => ?_) (fun cdv A outer s H vs Q E hr h => ?_)
  · obtain ⟨p, b, y, m, rfl, _⟩ := h
    rfl
  · obtain ⟨p, b, y, m, rfl, hp, h0, h1, hb, he, q⟩ := h
    refine' ⟨_, QB.h ?pp, ?rr⟩
    case pp =>
     refine' qss_cons ?h302 ?h303
     case h302 =>
      refine' qs_asg (qv 0) ?h304
      case h304 =>
       refine' kg_tup (n := 3) K rfl rfl ?h305
       case h305 =>
        refine' qgs_cons (qg_name (i := 1) sc_check_window.nd rfl (by walk_at "o")) ?h306
        case h306 =>
         refine' qgs_cons (qg_name (i := 2) sc_check_window.nd rfl (by walk_at "o")) ?h307
         case h307 =>
          exact qgs_cons (qg_name (i := 3) sc_check_window.nd rfl (by walk_at "o")) qgs_nil
     case h303 =>
      refine' qss_one ?h308
      case h308 =>
       refine' qs_exprS ?h309
       case h309 =>
        refine' qe_callS (ok_check_borders T) hr rfl T.m_check_borders T.F_check_borders.kp T.b_check_borders .nil pass0 ?h310
        case h310 =>
         refine' qa_c (qv 1) ?h311
         case h311 =>
          refine' qa_c ?h312 qa_nil
          case h312 =>
           refine' qe_op op_add (qv 1) ?h313
           case h313 =>
            exact qe_op op_mulG (qv 3) (qv 2)
    case rr =>
    walk_at "s"
    walk_at "w"
    refine ⟨b, b + m * y, rfl, hb, he, ?_⟩
    walk_at "w"
    exact q
def WinT (H : Hp) (q : Addr) (b y m : Int) : Prop := H q = some (.tup [.int b, .int y, .int m]) ∧ 0 < y ∧ 1 ≤ m ∧ m ≤ 100 ∧ InT b ∧ InT (b + m * y)
theorem WinT.col {H : Hp} {q : Addr} {b y m : Int} (h : WinT H q b y m) {k : Int} (h0 : 0 ≤ k) (h1 : k < m) : InT (b + k * y) ∧ InT (b + k * y + y) := by
  obtain ⟨_, hy, _, _, hb, he⟩ := h
  have g1 : 0 ≤ k * y := Int.mul_nonneg h0 (by omega)
  have g2 : (k + 1) * y ≤ m * y := Int.mul_le_mul_of_nonneg_right (by omega) (by omega)
  rw [Int.add_mul, Int.one_mul] at g2
  unfold InT at *
  constructor <;> constructor <;> omega
def spTFours (C : Addr) : Sp := fun vs H Q _ => ∃ (p q d1 d2 : Addr) (n b y m : Int) (sm : List (Int × Int)) (c : Nat), vs = [.ref p, .ref q] ∧ TreeAt C H p n d1 d2 sm c ∧ WinT H q b y m ∧
  ∀ (u : Addr) (us : List V) (fs : List (Option (List (Int × Int)))) (n' : Int) (H' : Hp), H' u = some (.tup us) → Fours H' us fs → Fours4 sm b y m.toNat fs → TreeAt C H' p n' d1 d2 sm c → Kp p H H' → Q (.ref u) H'
theorem sc_Tree_fours : FnScope ["self", "window"] ["self", "window"] (defScope s_Tree_fours) := ⟨rfl, rfl, rfl, by decide +kernel, rfl, by decide +kernel, by decide +kernel⟩
theorem ok_Tree_fours (T : Txt K mg a) : FnOk P w K mg base CX0 6 a.f_Tree_fours a.d_Tree_fours ["self", "window"] (spTFours a.C_Tree) := by
  refine T.F_Tree_fours.ok sc_Tree_fours (fun vs H Q E h => ?_) (fun cdv A outer s H vs Q E hr h => ?_)
  · obtain ⟨p, q, d1, d2, n, b, y, m, sm, c, rfl, _⟩ := h
    rfl
  · obtain ⟨p, q, d1, d2, n, b, y, m, sm, c, rfl, hTr, hW, k⟩ := h
    obtain ⟨hq, hy, hm1, hm2, hb, he⟩ := id hW
    refine' ⟨_, QB.h ?pp, ?rr⟩
    case pp =>
     refine' qss_cons ?h314 ?h315
     case h314 =>
      refine' qs_exprS ?h316
      case h316 =>
       refine' qe_callS (ok_check_window T) (hr.mono (by decide)) rfl T.m_check_window T.F_check_window.kp T.b_check_window .nil pass0 ?h317
       case h317 =>
        exact qa_c (qv 1) qa_nil
     case h315 =>
      refine' qss_one ?h318
      case h318 =>
       refine' qs_ret ?h319
       case h319 =>
        refine' qe_callTyS (kc_tuple K rfl) rfl T.z_tuple bt_tuple ?h320
        case h320 =>
         refine' qa_c ?h321 qa_nil
         case h321 =>
          refine' qe_comp (N := ["self", "window"]) (sc := defScope s_Tree_fours) (own := ["first", "behind"]) (caps := ["self"]) (ks := [0]) rfl rfl rfl ⟨rfl, by decide +kernel, by decide +kernel, by decide +kernel, by decide +kernel, rfl, by decide +kernel⟩ ?h322 ?h323 ?h324 ?h325
          case h322 =>
           refine' ki_list K rfl ?h326
           case h326 =>
            refine' qe_callS (ok_columns_of T) (hr.mono (by decide)) rfl T.m_columns_of T.F_columns_of.kp T.b_columns_of .nil pass0 ?h327
            case h327 =>
             exact qa_c (qv 1) qa_nil
          case h323 =>
           intro _ _ _ _ _
           refine' kg_tup (n := 2) K rfl rfl ?h328
           case h328 =>
            refine' qgs_cons (qg_name (i := 0) (show List.Nodup (α := Str) ["first", "behind", "self"] from by decide +kernel) rfl (by walk_at "o") (.inr rfl)) ?h329
            case h329 =>
             exact qgs_cons (qg_name (i := 1) (show List.Nodup (α := Str) ["first", "behind", "self"] from by decide +kernel) rfl (by walk_at "o") (.inr rfl)) qgs_nil
          case h324 =>
           intro _ _ _ _ _
           exact qifs_nil
          case h325 =>
           intro _ _ _ _ _
           refine' qe_meth (qv 2) T.c_Tree T.M_Tree_four (ok_Tree_four T) hr T.b_Tree_four .nil pass0 ?h330
           case h330 =>
            refine' qa_c (qv 0) ?h331
            case h331 =>
             exact qa_c (qv 1) qa_nil
    case rr =>
    walk_at "s"
    walk_at "w"
    refine ⟨q, b, y, m, rfl, hq, by omega, by omega, hb, he, ?_⟩
    walk_at "w"
    refine ⟨q, b, y, m, rfl, hq, hm1, by omega, fun l0 us0 H1 n1 f1 hP1 S1 => ?_⟩
    have hT1 := hTr.same S1
    have np1 : ∀ {b : Addr} {xs : List V}, H1 b = some (.tup xs) → b ≠ p := fun e z => by
      obtain ⟨dy, kws, g1, _⟩ := hT1
      rw [z, g1] at e; cases e
    have nl1 : l0 ≠ p := fun z => by
      obtain ⟨dy, kws, g1, _⟩ := hT1
      rw [z, g1] at f1; cases f1
    walk_at "w"
    intro l n2
    have nlp : l ≠ p := fun z => by
      obtain ⟨dy, kws, g1, _⟩ := hT1
      rw [z, g1] at n2; cases n2
    refine comp_by m.toNat (fun i σ' H' => (∃ o1 o2, σ' = [o1, o2, some (.ref p)]) ∧ Kp p H1 H' ∧ (∃ n', TreeAt a.C_Tree H' p n' d1 d2 sm c) ∧ ∃ vs fs, H' l = some (.lst vs) ∧ Fours H' vs fs ∧ fs.length = i ∧ ∀ (k : Nat) o, fs[k]? = some o → Is4 (inCol sm (b + (k : Int) * y) (b + (k : Int) * y + y)) o) ?_ ?_ ?_
    · exact ⟨⟨none, none, rfl⟩, Kp.same (Same.new n2), ⟨n, hT1.same (Same.new n2)⟩, [], [], upd_same, .nil, rfl, fun k o h => by simp at h⟩
    · rintro σ' H2 ⟨_, K2, ⟨n', hT2⟩, vs, fs, f2, hF2, hfl, hO2⟩
      refine ⟨⟨_, SqL.of (K2 _ _ f1 nl1), by rw [hP1.length, colsL_len]; exact Nat.le_refl _⟩, ?_⟩
      walk_at "w"
      refine rd_tupL (SqL.of f2) fun u H3 n3 f3 S3 => ?_
      exact k u vs fs n' H3 f3 (hF2.same S3) ⟨hfl, hO2⟩ (hT2.same S3) (((Kp.same S1).trans K2).then S3)
    · rintro i σ' H2 hi ⟨⟨o1, o2, rfl⟩, K2, ⟨n', hT2⟩, vs, fs, f2, hF2, hfl, hO2⟩
      have hi2 : i < us0.length := by rw [hP1.length, colsL_len]; exact hi
      have f12 := K2 _ _ f1 nl1
      refine ⟨⟨_, _, SqL.of f12, List.getElem?_eq_getElem hi2⟩, ?_⟩
      rintro x H'' ⟨rfl, hx⟩
      have hx := hx _ (SqL.of f12)
      obtain ⟨u, pr, rfl, hpr, f3⟩ := hP1.at hx
      have hpr := colsL_at hpr
      subst hpr
      have f32 := K2 _ _ f3 (np1 f3)
      obtain ⟨w1, w2⟩ := hW.col (k := (i : Int)) (by omega) (by omega)
      obtain ⟨dx, kvs, hp2, _⟩ := id hT2
      walk_at "w"
      refine iteT ?_
      walk_at "w"
      refine rd_methO hp2 (tfl_no (by decide +kernel) (by decide +kernel) (by decide +kernel)) ?_
      walk_at "w"
      refine ⟨p, d1, d2, n', _, _, sm, c, rfl, hT2, w1, w2, fun v o3 prs H3 h3 g3 _ hT3 K3 => ?_⟩
      have fl3 := K3 _ _ f2 nlp
      have hF3 : Fours H3 vs fs := hF2.mapP fun _ _ d => d.kpX K3 hp2 (fun _ z => by cases z)
      refine ⟨vs, fl3, ?_, ⟨_, _, rfl⟩, ?_, ⟨_, hT3.kpX Kp.upd fl3⟩, vs ++ [v], fs ++ [o3], upd_same, (hF3.snoc h3).mapP fun _ _ d => d.kpL Kp.upd fl3, by simp [hfl], ?_⟩
      · rw [hF2.len, hfl]
        exact Nat.lt_of_lt_of_le (show i < 100 by omega) (by decide)
      · intro b' o' e nb
        rw [upd_ne (fun z => by rw [z, n2] at e; cases e)]
        exact (K2.trans K3) b' o' e nb
      · intro k' o' h'
        rw [List.getElem?_append] at h'
        split at h'
        · exact hO2 k' o' h'
        · have : k' = i := by
            have := (List.getElem?_eq_some_iff.mp h').1
            simp at this
            omega
          subst this
          rw [hfl, Nat.sub_self] at h'
          have : o3 = o' := by simpa using h'
          subst this
          exact g3
end
def sfl (tr dd dn wt : Addr) : List (Str × V) := [("tree", V.ref tr), ("deeds", V.ref dd), ("done", V.ref dn), ("watches", V.ref wt)]
section
variable {tr dd dn wt : Addr}
theorem sg1 : (("deeds" : Str) == "tree") = false := by decide +kernel
theorem sg2 : (("done" : Str) == "tree") = false := by decide +kernel
theorem sg3 : (("done" : Str) == "deeds") = false := by decide +kernel
theorem sg4 : (("watches" : Str) == "tree") = false := by decide +kernel
theorem sg5 : (("watches" : Str) == "deeds") = false := by decide +kernel
theorem sg6 : (("watches" : Str) == "done") = false := by decide +kernel
theorem sfl_tree : (sfl tr dd dn wt).lookup ("tree" : Str) = some (.ref tr) := by
  unfold sfl
  rw [List.lookup_cons, beq_self_eq_true]
theorem sfl_deeds : (sfl tr dd dn wt).lookup ("deeds" : Str) = some (.ref dd) := by
  unfold sfl
  rw [List.lookup_cons, sg1, List.lookup_cons, beq_self_eq_true]
theorem sfl_done : (sfl tr dd dn wt).lookup ("done" : Str) = some (.ref dn) := by
  unfold sfl
  rw [List.lookup_cons, sg2, List.lookup_cons, sg3, List.lookup_cons, beq_self_eq_true]
theorem sfl_watches : (sfl tr dd dn wt).lookup ("watches" : Str) = some (.ref wt) := by
  unfold sfl
  rw [List.lookup_cons, sg4, List.lookup_cons, sg5, List.lookup_cons, sg6, List.lookup_cons, beq_self_eq_true]
theorem sfl_no {m : Str} (h1 : (m == ("tree" : Str)) = false) (h2 : (m == ("deeds" : Str)) = false) (h3 : (m == ("done" : Str)) = false) (h4 : (m == ("watches" : Str)) = false) : (sfl tr dd dn wt).lookup m = none := by
  unfold sfl
  rw [List.lookup_cons, h1, List.lookup_cons, h2, List.lookup_cons, h3, List.lookup_cons, h4]
  rfl
theorem sfl_new : putF "watches" (.ref wt) (putF "done" (.ref dn) (putF "deeds" (.ref dd) (putF "tree" (.ref tr) []))) = sfl tr dd dn wt := by
  have e1 : ¬ ("tree" : Str) = "deeds" := by decide +kernel
  have e2 : ¬ ("tree" : Str) = "done" := by decide +kernel
  have e3 : ¬ ("deeds" : Str) = "done" := by decide +kernel
  have e4 : ¬ ("tree" : Str) = "watches" := by decide +kernel
  have e5 : ¬ ("deeds" : Str) = "watches" := by decide +kernel
  have e6 : ¬ ("done" : Str) = "watches" := by decide +kernel
  show putF "watches" (.ref wt) (putF "done" (.ref dn) (putF "deeds" (.ref dd) [(("tree" : Str), V.ref tr)])) = _
  rw [show putF "deeds" (.ref dd) [(("tree" : Str), V.ref tr)] = (if ("tree" : Str) = "deeds" then _ else (("tree" : Str), V.ref tr) :: putF "deeds" (.ref dd) []) from rfl, if_neg e1]
  rw [show putF "done" (.ref dn) ((("tree" : Str), V.ref tr) :: putF "deeds" (.ref dd) []) = (if ("tree" : Str) = "done" then _ else (("tree" : Str), V.ref tr) :: (if ("deeds" : Str) = "done" then _ else (("deeds" : Str), V.ref dd) :: putF "done" (.ref dn) [])) from rfl, if_neg e2, if_neg e3]
  show (if ("tree" : Str) = "watches" then _ else (("tree" : Str), V.ref tr) :: (if ("deeds" : Str) = "watches" then _ else (("deeds" : Str), V.ref dd) :: (if ("done" : Str) = "watches" then _ else (("done" : Str), V.ref dn) :: putF "watches" (.ref wt) []))) = _
  rw [if_neg e4, if_neg e5, if_neg e6]
  rfl
theorem sfl_ne {n : Int} {d1 d2 : Addr} : sfl tr dd dn wt ≠ tfl n d1 d2 := fun h => by
  have := congrArg List.length h
  simp [sfl, tfl] at this
end
structure SA where
  p : Addr
  tr : Addr
  d1 : Addr
  d2 : Addr
  dd : Addr
  dn : Addr
  wt : Addr
def SA.ls (S : SA) : List Addr := [S.dd, S.dn, S.wt]
def SA.own (S : SA) : List Addr := [S.tr, S.d1, S.d2, S.dd, S.dn, S.wt]
def optV : Option Int → V
  | none => .non
  | some i => .int i
theorem optV_get (o : Option Int) : (o.map V.int).getD .non = optV o := by cases o <;> rfl
def DeedsAt (H : Hp) (vs : List V) (ds : List (Int × Option Int)) : Prop := Paired (fun v (q : Int × Option Int) => ∃ b, v = .ref b ∧ H b = some (.tup [.int q.1, optV q.2])) vs ds
theorem DeedsAt.tups {H H' : Hp} {vs : List V} {ds : List (Int × Option Int)} (h : DeedsAt H vs ds) (t : ∀ b xs, H b = some (.tup xs) → H' b = some (.tup xs)) : DeedsAt H' vs ds := Paired.mapP h fun _ _ ⟨b, e, z⟩ => ⟨b, e, t _ _ z⟩
theorem DeedsAt.snoc {H : Hp} : ∀ {vs : List V} {ds : List (Int × Option Int)}, DeedsAt H vs ds → ∀ {b : Addr} {q : Int × Option Int}, H b = some (.tup [.int q.1, optV q.2]) → DeedsAt H (vs ++ [.ref b]) (ds ++ [q])
  | _, _, .nil, _, _, e => .cons ⟨_, rfl, e⟩ .nil
  | _, _, .cons h t, _, _, e => .cons h (DeedsAt.snoc t e)
theorem DeedsAt.unsnoc {H : Hp} {q : Int × Option Int} : ∀ {ds : List (Int × Option Int)} {vs : List V}, DeedsAt H vs (ds ++ [q]) → ∃ us b, vs = us ++ [.ref b] ∧ DeedsAt H us ds ∧ H b = some (.tup [.int q.1, optV q.2])
  | [], _, h => by
    cases h with
    | cons h t =>
      cases t
      obtain ⟨b, rfl, e⟩ := h
      exact ⟨[], b, rfl, .nil, e⟩
  | d :: ds, _, h => by
    cases h with
    | cons h t =>
      obtain ⟨us, b, e1, e2, e3⟩ := DeedsAt.unsnoc t
      subst e1
      exact ⟨_ :: us, b, rfl, .cons h e2, e3⟩
theorem DeedsAt.nil_of {H : Hp} {vs : List V} (h : DeedsAt H vs []) : vs = [] := by cases h; rfl
theorem DeedsAt.len {H : Hp} {vs : List V} {ds : List (Int × Option Int)} (h : DeedsAt H vs ds) : vs.length = ds.length := Paired.length h
def StoreAt (a : Ad) (H : Hp) (S : SA) (n : Int) (sm : List (Int × Int)) (c : Nat) (ds : List (Int × Option Int)) (ts : List Int) (ws : List V) : Prop :=
  ∃ dx vs, H S.p = some (.ins a.C_Store dx (sfl S.tr S.dd S.dn S.wt)) ∧ TreeAt a.C_Tree H S.tr n S.d1 S.d2 sm c ∧ H S.dd = some (.lst vs) ∧ DeedsAt H vs ds ∧ H S.dn = some (.lst (ts.map V.int)) ∧ H S.wt = some (.lst ws) ∧ S.dd ≠ S.dn ∧ S.dd ≠ S.wt ∧ S.dn ≠ S.wt
def FrS (S : SA) (H H' : Hp) : Prop := ∀ b o, H b = some o → b ∉ S.own → H' b = some o
theorem FrS.trans {S : SA} {H H1 H2 : Hp} (h : FrS S H H1) (g : FrS S H1 H2) : FrS S H H2 := fun b o e n => g b o (h b o e n) n
theorem FrS.same {S : SA} {H H' : Hp} (h : Same H H') : FrS S H H' := fun b o e _ => h b o e
theorem FrS.kp {S : SA} {H H' : Hp} {q : Addr} (h : Kp q H H') (m : q ∈ S.own) : FrS S H H' := fun b o e n => h b o e fun z => n (z ▸ m)
theorem FrS.fr3 {S : SA} {H H' : Hp} (h : Fr3 S.tr S.d1 S.d2 H H') : FrS S H H' := fun b o e n => h b o e (fun z => n (by simp [SA.own, z])) (fun z => n (by simp [SA.own, z])) (fun z => n (by simp [SA.own, z]))
section
variable {a : Ad} {H H' : Hp} {S : SA} {n : Int} {sm : List (Int × Int)} {c : Nat} {ds : List (Int × Option Int)} {ts : List Int} {ws : List V}
theorem StoreAt.tree (h : StoreAt a H S n sm c ds ts ws) : TreeAt a.C_Tree H S.tr n S.d1 S.d2 sm c := let ⟨_, _, _, h, _⟩ := h; h
theorem StoreAt.nd (h : StoreAt a H S n sm c ds ts ws) : (sm.map (·.1)).Nodup := h.tree.nd
theorem StoreAt.same (h : StoreAt a H S n sm c ds ts ws) (s : Same H H') : StoreAt a H' S n sm c ds ts ws := by
  obtain ⟨dx, vs, h1, h2, h3, h4, h5, h6, h7⟩ := h
  exact ⟨dx, vs, s _ _ h1, h2.same s, s _ _ h3, h4.tups fun b xs e => s _ _ e, s _ _ h5, s _ _ h6, h7⟩
theorem StoreAt.nown (h : StoreAt a H S n sm c ds ts ws) {b : Addr} {o : HO} (e : H b = some o) (h1 : ∀ C dx fs, o ≠ .ins C dx fs) (h2 : (∃ m, o = .dK m) → b ≠ S.d1) (h3 : ∀ m, o ≠ .dT m) (h4 : (∃ m, o = .lst m) → b ∉ S.ls) : b ∉ S.own := by
  obtain ⟨dx, vs, g1, ⟨dy, kvs, t1, t2, t3, _⟩, g3, g4, g5, g6, _⟩ := h
  intro z
  simp only [SA.own, List.mem_cons, List.not_mem_nil, or_false] at z
  rcases z with z | z | z | z | z | z
  · rw [z, t1] at e; exact h1 _ _ _ (Option.some.inj e).symm
  · exact h2 ⟨_, (by rw [z, t2] at e; exact (Option.some.inj e).symm)⟩ z
  · rw [z, t3] at e; exact h3 _ (Option.some.inj e).symm
  · exact h4 ⟨_, (by rw [z, g3] at e; exact (Option.some.inj e).symm)⟩ (by simp [SA.ls, z])
  · exact h4 ⟨_, (by rw [z, g5] at e; exact (Option.some.inj e).symm)⟩ (by simp [SA.ls, z])
  · exact h4 ⟨_, (by rw [z, g6] at e; exact (Option.some.inj e).symm)⟩ (by simp [SA.ls, z])
theorem StoreAt.keepT (h : StoreAt a H S n sm c ds ts ws) (f : FrS S H H') {b : Addr} {xs : List V} (e : H b = some (.tup xs)) : H' b = some (.tup xs) :=
  f _ _ e (h.nown e (fun _ _ _ z => by cases z) (fun ⟨_, z⟩ => by cases z) (fun _ z => by cases z) (fun ⟨_, z⟩ => by cases z))
theorem StoreAt.keepL (h : StoreAt a H S n sm c ds ts ws) (f : FrS S H H') {b : Addr} {xs : List V} (e : H b = some (.lst xs)) (nb : b ∉ S.ls) : H' b = some (.lst xs) :=
  f _ _ e (h.nown e (fun _ _ _ z => by cases z) (fun ⟨_, z⟩ => by cases z) (fun _ z => by cases z) fun _ => nb)
theorem StoreAt.keepD (h : StoreAt a H S n sm c ds ts ws) (f : FrS S H H') {b : Addr} {m : List (Key × V)} (e : H b = some (.dK m)) (nb : b ≠ S.d1) : H' b = some (.dK m) :=
  f _ _ e (h.nown e (fun _ _ _ z => by cases z) (fun _ => nb) (fun _ z => by cases z) (fun ⟨_, z⟩ => by cases z))
theorem StoreAt.keepP (h : StoreAt a H S n sm c ds ts ws) (f : FrS S H H') {b : Addr} {cv : List (Int × Int)} (e : PrT H b cv) : PrT H' b cv := by
  obtain ⟨us, h1, h2⟩ := e
  exact ⟨us, h.keepT f h1, Paired.mapP h2 fun _ _ ⟨a, e, z⟩ => ⟨a, e, h.keepT f z⟩⟩
theorem StoreAt.keepPot (h : StoreAt a H S n sm c ds ts ws) (f : FrS S H H') {q : Addr} (e : Pot H q) (nb : q ∉ S.ls) : Pot H' q := by
  obtain ⟨u, v, e, z⟩ := e
  exact ⟨u, v, h.keepL f e nb, z⟩
theorem StoreAt.keepSq {K : PySem.W.Frag} (h : StoreAt a H S n sm c ds ts ws) (f : FrS S H H') {s : Addr} {xs : List V} (e : SqL K H s xs) (nb : s ∉ S.ls) : SqL K H' s xs := by
  rcases e with (e | ⟨o, e⟩) | e
  · exact .inl (.inl (h.keepL f e nb))
  · exact .inl (.inr ⟨o, f _ _ e (h.nown e (fun _ _ _ z => by cases z) (fun ⟨_, z⟩ => by cases z) (fun _ z => by cases z) (fun ⟨_, z⟩ => by cases z))⟩)
  · exact .inr e
theorem StoreAt.kpL (h : StoreAt a H S n sm c ds ts ws) {q : Addr} {xs : List V} (k : Kp q H H') (hq : H q = some (.lst xs)) (nq : q ∉ S.ls) : StoreAt a H' S n sm c ds ts ws := by
  obtain ⟨dx, vs, h1, h2, h3, h4, h5, h6, h7⟩ := h
  simp only [SA.ls, List.mem_cons, List.not_mem_nil, or_false, not_or] at nq
  exact ⟨dx, vs, k _ _ h1 (fun z => by rw [z, hq] at h1; cases h1), h2.kpX k hq, k _ _ h3 (Ne.symm nq.1), h4.tups (fun b xs e => k _ _ e (fun z => by rw [z, hq] at e; cases e)), k _ _ h5 (Ne.symm nq.2.1), k _ _ h6 (Ne.symm nq.2.2), h7⟩
theorem StoreAt.pot (h : StoreAt a H S n sm c ds ts ws) {q : Addr} (hp : Pot H q) (k : Kp q H H') (nq : q ∉ S.ls) : StoreAt a H' S n sm c ds ts ws := by
  obtain ⟨u, v, e, _⟩ := hp
  exact h.kpL k e nq
theorem StoreAt.kpD (h : StoreAt a H S n sm c ds ts ws) {q : Addr} {m : List (Key × V)} (k : Kp q H H') (hq : H q = some (.dK m)) (nq : q ≠ S.d1) : StoreAt a H' S n sm c ds ts ws := by
  obtain ⟨dx, vs, h1, ⟨dy, kvs, t1, t2, t3, t4, t5, t6⟩, h3, h4, h5, h6, h7⟩ := h
  refine ⟨dx, vs, k _ _ h1 (fun z => by rw [z, hq] at h1; cases h1), ⟨dy, kvs, k _ _ t1 (fun z => by rw [z, hq] at t1; cases t1), k _ _ t2 (Ne.symm nq), k _ _ t3 (fun z => by rw [z, hq] at t3; cases t3), t4, t5.kpX k hq (fun _ z => by cases z), t6⟩, k _ _ h3 (fun z => by rw [z, hq] at h3; cases h3), h4.tups (fun b xs e => k _ _ e (fun z => by rw [z, hq] at e; cases e)), k _ _ h5 (fun z => by rw [z, hq] at h5; cases h5), k _ _ h6 (fun z => by rw [z, hq] at h6; cases h6), h7⟩
theorem StoreAt.fresh (h : StoreAt a H S n sm c ds ts ws) {q : Addr} (hq : H q = none) : q ∉ S.ls ∧ q ≠ S.d1 := by
  obtain ⟨dx, vs, h1, ⟨dy, kvs, t1, t2, t3, t4, t5, t6⟩, h3, h4, h5, h6, h7⟩ := h
  refine ⟨fun z => ?_, fun z => by rw [z, t2] at hq; cases hq⟩
  simp only [SA.ls, List.mem_cons, List.not_mem_nil, or_false] at z
  rcases z with z | z | z
  · rw [z, h3] at hq; cases hq
  · rw [z, h5] at hq; cases hq
  · rw [z, h6] at hq; cases hq
theorem StoreAt.fr3 (h : StoreAt a H S n sm c ds ts ws) {n' : Int} {sm' : List (Int × Int)} {c' : Nat} (f : Fr3 S.tr S.d1 S.d2 H H') (t : TreeAt a.C_Tree H' S.tr n' S.d1 S.d2 sm' c') : StoreAt a H' S n' sm' c' ds ts ws := by
  obtain ⟨dx, vs, h1, h2, h3, h4, h5, h6, h7⟩ := h
  refine ⟨dx, vs, ?_, t, h2.keepL f h3, h4.tups (fun b xs e => h2.keepT f e), h2.keepL f h5, h2.keepL f h6, h7⟩
  obtain ⟨dy, kvs, t1, t2, t3, _⟩ := h2
  exact f _ _ h1 (fun z => by rw [z, t1] at h1; injection h1 with h1; injection h1 with _ _ h3; exact sfl_ne h3.symm) (fun z => by rw [z, t2] at h1; cases h1) (fun z => by rw [z, t3] at h1; cases h1)
theorem StoreAt.kpDone (h : StoreAt a H S n sm c ds ts ws) {ts' : List Int} (k : Kp S.dn H H') (f : H' S.dn = some (.lst (ts'.map V.int))) : StoreAt a H' S n sm c ds ts' ws := by
  obtain ⟨dx, vs, h1, h2, h3, h4, h5, h6, h7, h8, h9⟩ := h
  exact ⟨dx, vs, k _ _ h1 (fun z => by rw [z, h5] at h1; cases h1), h2.kpX k h5, k _ _ h3 h7, h4.tups (fun b xs e => k _ _ e (fun z => by rw [z, h5] at e; cases e)), f, k _ _ h6 (Ne.symm h9), h7, h8, h9⟩
theorem StoreAt.kpDeeds (h : StoreAt a H S n sm c ds ts ws) {ds' : List (Int × Option Int)} {vs' : List V} (k : Kp S.dd H H') (f : H' S.dd = some (.lst vs')) (g : DeedsAt H' vs' ds') : StoreAt a H' S n sm c ds' ts ws := by
  obtain ⟨dx, vs, h1, h2, h3, h4, h5, h6, h7, h8, h9⟩ := h
  exact ⟨dx, vs', k _ _ h1 (fun z => by rw [z, h3] at h1; cases h1), h2.kpX k h3, f, g, k _ _ h5 (Ne.symm h7), k _ _ h6 (Ne.symm h8), h7, h8, h9⟩
end
def bringI (m : List (Int × Int)) (t : Int) : Option Int → List (Int × Int)
  | none => dropI m t
  | some h => putI m t h
theorem bringI_len (m : List (Int × Int)) (t : Int) (o : Option Int) : (bringI m t o).length ≤ m.length + 1 := by
  cases o with
  | none => exact Nat.le_succ_of_le (dropI_len m t)
  | some h => exact putI_len m t h
section
variable {P : Program} {w : World} {K : PySem.W.Frag} {mg : Str → Option Value} {base : Heap} {a : Ad}
local macro_rules | `(tactic| walk_at "rd") => `(tactic| first
  | with_reducible refine rd_fld (by assumption) (‹Txt _ _ _›).c_Tree (‹Txt _ _ _›).n_Tree_samples tfl_samples ?_
  | with_reducible refine rd_fld (by assumption) (‹Txt _ _ _›).c_Store (‹Txt _ _ _›).n_Store_tree sfl_tree ?_
  | with_reducible refine rd_fld (by assumption) (‹Txt _ _ _›).c_Store (‹Txt _ _ _›).n_Store_deeds sfl_deeds ?_
  | with_reducible refine rd_fld (by assumption) (‹Txt _ _ _›).c_Store (‹Txt _ _ _›).n_Store_done sfl_done ?_
  | with_reducible refine rd_fld (by assumption) (‹Txt _ _ _›).c_Store (‹Txt _ _ _›).n_Store_watches sfl_watches ?_)
def spTTake (C : Addr) : Sp := fun vs H Q _ => ∃ (p d1 d2 : Addr) (n t v : Int) (sm : List (Int × Int)) (c : Nat), vs = [.ref p, .int t] ∧ TreeAt C H p n d1 d2 sm c ∧ getI sm t = some v ∧ c ≤ 1000 ∧
  ∀ H', TreeAt C H' p n d1 d2 (dropI sm t) (c + 1) → Fr3 p d1 d2 H H' → Q .non H'
theorem sc_Tree_take : FnScope ["self", "t"] ["self", "t"] (defScope s_Tree_take) := ⟨rfl, rfl, rfl, by decide +kernel, rfl, by decide +kernel, by decide +kernel⟩
theorem ok_Tree_take (T : Txt K mg a) : FnOk P w K mg base CX0 4 a.f_Tree_take a.d_Tree_take ["self", "t"] (spTTake a.C_Tree) := by
  refine T.F_Tree_take.ok sc_Tree_take (fun vs H Q E h => ?_) (fun cdv A outer s H vs Q E hr h => ?_)
  · obtain ⟨p, d1, d2, n, t, v, sm, c, rfl, _⟩ := h
    rfl
  · obtain ⟨p, d1, d2, n, t, v, sm, c, rfl, ⟨dx, kvs, hp, h1, h2, hnd, hkf, hlen⟩, hg, hc, k⟩ := h
    have np1 : p ≠ d1 := fun z => by subst z; rw [hp] at h1; cases h1
    have n21 : d2 ≠ d1 := fun z => by subst z; rw [h1] at h2; cases h2
    refine' ⟨_, QB.h ?pp, ?rr⟩
    case pp =>
     refine' qss_cons ?h332 ?h333
     case h332 =>
      refine' qs_exprS ?h334
      case h334 =>
       refine' qe_dpop1 ?h335 (qv 1)
       case h335 =>
        exact ke_fld K rfl (qv 0)
     case h333 =>
      refine' qss_one ?h336
      case h336 =>
       refine' qs_exprS ?h337
       case h337 =>
        refine' qe_meth (qv 0) T.c_Tree T.M_Tree_renew (ok_Tree_renew T) hr T.b_Tree_renew .nil pass0 ?h338
        case h338 =>
         refine' qa_c (qv 1) ?h339
         case h339 =>
          exact qa_c qe_non qa_nil
    case rr =>
    walk_at "s"
    walk_at "w"
    refine rd_dpopK h1 ?_
    walk_at "w"
    refine rd_dpopI h1 hg fun H3 f3 K3 => ?_
    have hp3 := K3 _ _ hp np1
    have h23 := K3 _ _ h2 n21
    have hk3 : KfOk H3 kvs (dropI sm t) (fun l s => s ≠ t / 2 ^ l) := (KfOk.other hkf fun q hq => by
      rw [mem_dropI]
      exact ⟨fun z => ⟨hq, z⟩, fun z => z.2⟩).kpX K3 h1 (fun xs z => by cases z)
    walk_at "w"
    refine rd_methO hp3 (tfl_no (by decide +kernel) (by decide +kernel) (by decide +kernel)) ?_
    walk_at "w"
    refine ⟨p, d1, d2, dx, n, t, .non, none, dropI sm t, kvs, c, rfl, hp3, f3, h23, dropI_nodup hnd, hk3, hlen, hc, .non, .inl ⟨rfl, ?_⟩, fun H7 hT7 K7 => ?_⟩
    · cases e : inS (dropI sm t) 0 t with
      | nil => rfl
      | cons q qs =>
        have hq : q ∈ inS (dropI sm t) 0 t := by rw [e]; exact List.mem_cons_self
        rw [mem_inS, mem_dropI] at hq
        simp only [Int.pow_zero, Int.ediv_one] at hq
        exact absurd hq.2 hq.1.1
    · walk_at "w"
      exact k H7 hT7 fun b o e e1 e2 e3 => K7 _ _ (K3 _ _ e e2) e3
def spSInit (a : Ad) : Sp := fun vs H Q _ => ∃ (p dx : Addr) (x : V) (cv : List (Int × Int)), vs = [.ref p, x] ∧ H p = some (.ins a.C_Store dx []) ∧ ((x = .non ∧ cv = []) ∨ ∃ t, x = .ref t ∧ PrT H t cv) ∧ (cv.map (·.1)).Nodup ∧ (∀ q ∈ cv, Tm q.1) ∧ cv.length ≤ 100 ∧
  ∀ (S : SA) (sm : List (Int × Int)) (H' : Hp), S.p = p → (∀ b ∈ S.own, H b = none) → StoreAt a H' S 0 sm cv.length [] [] [] → (∀ q, q ∈ sm ↔ q ∈ cv) → sm.length ≤ cv.length → Kp p H H' → Q .non H'
theorem sc_Store___init__ : FnScope ["self", "curve"] ["self", "curve"] (defScope s_Store___init__) := ⟨rfl, rfl, rfl, by decide +kernel, rfl, by decide +kernel, by decide +kernel⟩
theorem ok_Store___init__ (T : Txt K mg a) : FnOk P w K mg base CX0 7 a.f_Store___init__ a.d_Store___init__ ["self", "curve"] (spSInit a) := by
  refine T.F_Store___init__.ok sc_Store___init__ (fun vs H Q E h => ?_) (fun cdv A outer s H vs Q E hr h => ?_)
  · obtain ⟨p, dx, x, cv, rfl, _⟩ := h
    rfl
  · obtain ⟨p, dx, x, cv, rfl, hp, hx, hnd, htm, hlen, k⟩ := h
    refine' ⟨_, QB.h ?pp, ?rr⟩
    case pp =>
     refine' qss_cons ?h340 ?h341
     case h340 =>
      refine' ks_fld K rfl (qv 0) ?h342
      case h342 =>
       refine' qe_make T.Mk_Tree (ok_Tree___init__ T) hr rfl T.m_Tree T.b_Tree___init__ .nil pass0 ?h343
       case h343 =>
        exact qa_c (qv 1) qa_nil
     case h341 =>
      refine' qss_cons ?h344 ?h345
      case h344 =>
       refine' ks_fld K rfl (qv 0) ?h346
       case h346 =>
        exact qe_lst qa_nil
      case h345 =>
       refine' qss_cons ?h347 ?h348
       case h347 =>
        refine' ks_fld K rfl (qv 0) ?h349
        case h349 =>
         exact qe_lst qa_nil
       case h348 =>
        refine' qss_one ?h350
        case h350 =>
         refine' ks_fld K rfl (qv 0) ?h351
         case h351 =>
          exact qe_lst qa_nil
    case rr =>
    walk_at "s"
    walk_at "w"
    refine rd_make fun tr dt H1 n1 f1 S1 => ?_
    refine ⟨tr, dt, x, cv, rfl, f1, ?_, hnd, htm, hlen, fun d1 d2 sm H2 m1 m2 hT2 hm hl K2 => ⟨rfl, ?_⟩⟩
    · rcases hx with h | ⟨t, h1, h2⟩
      · exact .inl h
      · exact .inr ⟨t, h1, h2.same S1⟩
    have S02 : Same H H2 := fun b o e => K2 _ _ (S1 _ _ e) (ne_of_none e n1)
    have hp2 := S02 _ _ hp
    have nt : tr ≠ p := fun z => by rw [z, hp] at n1; cases n1
    have free : ∀ {b : Addr}, H1 b = none → H b = none := fun {b} e => by
      cases e2 : H b with
      | none => rfl
      | some o => rw [S1 _ _ e2] at e; cases e
    have free2 : ∀ {b : Addr}, H2 b = none → H b = none := fun {b} e => by
      cases e2 : H b with
      | none => rfl
      | some o => rw [S02 _ _ e2] at e; cases e
    walk_at "w"
    refine rd_setF hp2 T.c_Store T.n_Store_tree (by show 0 < 1000; decide) fun H3 f3 K3 => ?_
    walk_at "w"
    refine rd_new (by show 0 ≤ sizeLine; decide) fun dd H4 n4 f4 S4 => ?_
    have np4 : dd ≠ p := fun z => by rw [z, f3] at n4; cases n4
    walk_at "w"
    refine rd_setF (S4 _ _ f3) T.c_Store T.n_Store_deeds (by show 1 < 1000; decide) fun H5 f5 K5 => ?_
    walk_at "w"
    refine rd_new (by show 0 ≤ sizeLine; decide) fun dn H6 n6 f6 S6 => ?_
    have np6 : dn ≠ p := fun z => by rw [z, f5] at n6; cases n6
    walk_at "w"
    refine rd_setF (S6 _ _ f5) T.c_Store T.n_Store_done (by show 2 < 1000; decide) fun H7 f7 K7 => ?_
    walk_at "w"
    refine rd_new (by show 0 ≤ sizeLine; decide) fun wt H8 n8 f8 S8 => ?_
    have np8 : wt ≠ p := fun z => by rw [z, f7] at n8; cases n8
    walk_at "w"
    refine rd_setF (S8 _ _ f7) T.c_Store T.n_Store_watches (by show 3 < 1000; decide) fun H9 f9 K9 => ?_
    rw [sfl_new] at f9
    have K29 : Kp p H2 H9 := (((((K3.then S4).trans K5).then S6).trans K7).then S8).trans K9
    have K24 : Kp p H2 H5 := (K3.then S4).trans K5
    have K26 : Kp p H2 H7 := (K24.then S6).trans K7
    have g4 : H9 dd = some (.lst []) := K9 _ _ (S8 _ _ (K7 _ _ (S6 _ _ (K5 _ _ f4 np4)) np4)) np4
    have g6 : H9 dn = some (.lst []) := K9 _ _ (S8 _ _ (K7 _ _ f6 np6)) np6
    have g8 : H9 wt = some (.lst []) := K9 _ _ f8 np8
    have e46 : dd ≠ dn := fun z => by rw [← z, K5 _ _ f4 np4] at n6; cases n6
    have e48 : dd ≠ wt := fun z => by rw [← z, K7 _ _ (S6 _ _ (K5 _ _ f4 np4)) np4] at n8; cases n8
    have e68 : dn ≠ wt := fun z => by rw [← z, K7 _ _ f6 np6] at n8; cases n8
    have hT9 : TreeAt a.C_Tree H9 tr 0 d1 d2 sm cv.length := by
      obtain ⟨dy, kvs, t1, t2, t3, t4, t5, t6⟩ := hT2
      have nt2 : ∀ {b : Addr} {xs : List V}, H2 b = some (.tup xs) → H9 b = some (.tup xs) := fun e => K29 _ _ e (fun z => by rw [z, hp2] at e; cases e)
      exact ⟨dy, kvs, K29 _ _ t1 nt, K29 _ _ t2 (fun z => by rw [z, hp2] at t2; cases t2), K29 _ _ t3 (fun z => by rw [z, hp2] at t3; cases t3), t4, t5.tups (fun b xs e => nt2 e), t6⟩
    have fr4 : H dd = none := by
      cases e : H dd with
      | none => rfl
      | some o => rw [K3 _ _ (S02 _ _ e) np4] at n4; cases n4
    have fr6 : H dn = none := by
      cases e : H dn with
      | none => rfl
      | some o => rw [K24 _ _ (S02 _ _ e) np6] at n6; cases n6
    have fr8 : H wt = none := by
      cases e : H wt with
      | none => rfl
      | some o => rw [K26 _ _ (S02 _ _ e) np8] at n8; cases n8
    walk_at "w"
    refine k ⟨p, tr, d1, d2, dd, dn, wt⟩ sm H9 rfl (fun b hb => ?_) ⟨dx, [], f9, hT9, g4, .nil, g6, g8, e46, e48, e68⟩ hm hl ((Kp.same S02).trans K29)
    simp only [SA.own, List.mem_cons, List.not_mem_nil, or_false] at hb
    rcases hb with rfl | rfl | rfl | rfl | rfl | rfl
    · exact n1
    · exact free m1
    · exact free m2
    · exact fr4
    · exact fr6
    · exact fr8
def spSBring (a : Ad) : Sp := fun vs H Q _ => ∃ (S : SA) (n t : Int) (o : Option Int) (sm : List (Int × Int)) (c : Nat) (ds : List (Int × Option Int)) (ts : List Int) (ws : List V), vs = [.ref S.p, .int t, optV o] ∧ StoreAt a H S n sm c ds ts ws ∧
  Tm t ∧ (o = none → (getI sm t).isSome = true) ∧ c ≤ 900 ∧ sm.length ≤ 900 ∧ ts.length ≤ 900 ∧
  ∀ H', StoreAt a H' S n (bringI sm t o) (c + 1) ds (ts ++ [t]) ws → FrS S H H' → Q .non H'
theorem sc_Store_bring : FnScope ["self", "t", "h"] ["self", "t", "h"] (defScope s_Store_bring) := ⟨rfl, rfl, rfl, by decide +kernel, rfl, by decide +kernel, by decide +kernel⟩
theorem ok_Store_bring (T : Txt K mg a) : FnOk P w K mg base CX0 5 a.f_Store_bring a.d_Store_bring ["self", "t", "h"] (spSBring a) := by
  refine T.F_Store_bring.ok sc_Store_bring (fun vs H Q E h => ?_) (fun cdv A outer s H vs Q E hr h => ?_)
  · obtain ⟨S, n, t, o, sm, c, ds, ts, ws, rfl, _⟩ := h
    rfl
  · obtain ⟨S, n, t, o, sm, c, ds, ts, ws, rfl, hS, ht, ho, hc, hsl, htl, k⟩ := h
    refine' ⟨_, QB.h ?pp, ?rr⟩
    case pp =>
     refine' qss_cons ?h352 ?h353
     case h352 =>
      refine' qs_if ?h354 ?h355 ?h356
      case h354 =>
       exact qt_cmpR (oq_isN) (qv 2) qe_non (nomark _)
      case h355 =>
       refine' qss_one ?h357
       case h357 =>
        refine' qs_exprS ?h358
        case h358 =>
         refine' qe_meth ?h359 T.c_Tree T.M_Tree_take (ok_Tree_take T) hr T.b_Tree_take .nil pass0 ?h360
         case h359 =>
          exact ke_fld K rfl (qv 0)
         case h360 =>
          exact qa_c (qv 1) qa_nil
      case h356 =>
       refine' qss_one ?h361
       case h361 =>
        refine' qs_exprS ?h362
        case h362 =>
         refine' qe_meth ?h363 T.c_Tree T.M_Tree_put (ok_Tree_put T) hr T.b_Tree_put .nil pass0 ?h364
         case h363 =>
          exact ke_fld K rfl (qv 0)
         case h364 =>
          refine' qa_c (qv 1) ?h365
          case h365 =>
           exact qa_c (qv 2) qa_nil
     case h353 =>
      refine' qss_one ?h366
      case h366 =>
       refine' qs_exprS ?h367
       case h367 =>
        refine' qe_bm PySem.F.plainAttrs_list PySem.F.slot_list_append PySem.F.type_list_append mt_append ?h368 ?h369
        case h368 =>
         exact ke_fld K rfl (qv 0)
        case h369 =>
         exact qa_c (qv 1) qa_nil
    case rr =>
    walk_at "s"
    have fin : ∀ H1, TreeAt a.C_Tree H1 S.tr n S.d1 S.d2 (bringI sm t o) (c + 1) → Fr3 S.tr S.d1 S.d2 H H1 → StoreAt a H1 S n (bringI sm t o) (c + 1) ds ts ws := fun H1 hT F => hS.fr3 F hT
    obtain ⟨dx, vs, hp, hT, _⟩ := id hS
    obtain ⟨dy, kvs, hq, _⟩ := id hT
    walk_at "w"
    cases o with
    | none =>
      obtain ⟨v, hv⟩ := Option.isSome_iff_exists.mp (ho rfl)
      refine iteD (fun _ => ?_) (fun h => absurd rfl h)
      walk_at "w"
      refine rd_methO hq (tfl_no (by decide +kernel) (by decide +kernel) (by decide +kernel)) ?_
      walk_at "w"
      refine ⟨S.tr, S.d1, S.d2, n, t, v, sm, c, rfl, hT, hv, by omega, fun H1 hT1 F1 => ?_⟩
      have hS1 := fin H1 hT1 F1
      obtain ⟨dx1, vs1, hp1, hT1', hd1, hD1, hn1, hw1, hne⟩ := id hS1
      walk_at "w"
      refine ⟨tyL hn1, ?_⟩
      walk_at "w"
      refine rd_append hn1 (by rw [List.length_map]; exact Nat.lt_of_le_of_lt htl (by decide)) fun H2 f2 K2 => ?_
      walk_at "w"
      exact k H2 (hS1.kpDone K2 (by rw [List.map_append]; exact f2)) ((FrS.fr3 F1).trans (.kp K2 (by simp [SA.own])))
    | some h =>
      refine iteD (fun h => by simp [optV] at h) (fun _ => ?_)
      walk_at "w"
      refine rd_methO hq (tfl_no (by decide +kernel) (by decide +kernel) (by decide +kernel)) ?_
      walk_at "w"
      refine ⟨S.tr, S.d1, S.d2, n, t, h, sm, c, rfl, hT, ht, by omega, by omega, fun H1 hT1 F1 => ?_⟩
      have hS1 := fin H1 hT1 F1
      obtain ⟨dx1, vs1, hp1, hT1', hd1, hD1, hn1, hw1, hne⟩ := id hS1
      walk_at "w"
      refine ⟨tyL hn1, ?_⟩
      walk_at "w"
      refine rd_append hn1 (by rw [List.length_map]; exact Nat.lt_of_le_of_lt htl (by decide)) fun H2 f2 K2 => ?_
      walk_at "w"
      exact k H2 (hS1.kpDone K2 (by rw [List.map_append]; exact f2)) ((FrS.fr3 F1).trans (.kp K2 (by simp [SA.own])))
def spSDo (a : Ad) : Sp := fun vs H Q _ => ∃ (S : SA) (n t : Int) (o : Option Int) (sm : List (Int × Int)) (c : Nat) (ds : List (Int × Option Int)) (ts : List Int) (ws : List V), vs = [.ref S.p, .int t, optV o] ∧ StoreAt a H S n sm c ds ts ws ∧
  Tm t ∧ (o = none → (getI sm t).isSome = true) ∧ c ≤ 900 ∧ sm.length ≤ 900 ∧ ts.length ≤ 900 ∧ ds.length ≤ 900 ∧
  ∀ H', StoreAt a H' S n (bringI sm t o) (c + 1) (ds ++ [(t, getI sm t)]) (ts ++ [t]) ws → FrS S H H' → Q (optV (getI sm t)) H'
theorem sc_Store_do : FnScope ["self", "t", "h", "before"] ["self", "t", "h"] (defScope s_Store_do) := ⟨rfl, rfl, rfl, by decide +kernel, rfl, by decide +kernel, by decide +kernel⟩
theorem ok_Store_do (T : Txt K mg a) : FnOk P w K mg base CX0 6 a.f_Store_do a.d_Store_do ["self", "t", "h"] (spSDo a) := by
  refine T.F_Store_do.ok sc_Store_do (fun vs H Q E h => ?_) (fun cdv A outer s H vs Q E hr h => ?_)
  · obtain ⟨S, n, t, o, sm, c, ds, ts, ws, rfl, _⟩ := h
    rfl
  · obtain ⟨S, n, t, o, sm, c, ds, ts, ws, rfl, hS, ht, ho, hc, hsl, htl, hdl, k⟩ := h
    have hu := hu_of hr
    refine' ⟨_, QB.h ?pp, ?rr⟩
    case pp =>
     refine' qss_cons ?h370 ?h371
     case h370 =>
      refine' qs_setS (i := 3) sc_Store_do.nd rfl (by walk_at "o") ?h372
      case h372 =>
       refine' qe_dget1 hu ?h373 (qv 1)
       case h373 =>
        refine' ke_fld K rfl ?h374
        case h374 =>
         exact ke_fld K rfl (qv 0)
     case h371 =>
      refine' qss_cons ?h375 ?h376
      case h375 =>
       refine' qs_exprS ?h377
       case h377 =>
        refine' qe_meth (qv 0) T.c_Store T.M_Store_bring (ok_Store_bring T) hr T.b_Store_bring .nil pass0 ?h378
        case h378 =>
         refine' qa_c (qv 1) ?h379
         case h379 =>
          exact qa_c (qv 2) qa_nil
      case h376 =>
       refine' qss_cons ?h380 ?h381
       case h380 =>
        refine' qs_exprS ?h382
        case h382 =>
         refine' qe_bm PySem.F.plainAttrs_list PySem.F.slot_list_append PySem.F.type_list_append mt_append ?h383 ?h384
         case h383 =>
          exact ke_fld K rfl (qv 0)
         case h384 =>
          refine' qa_c ?h385 qa_nil
          case h385 =>
           refine' qe_tup ?h386
           case h386 =>
            refine' qa_c (qv 1) ?h387
            case h387 =>
             exact qa_c (qv 3) qa_nil
       case h381 =>
        refine' qss_one ?h388
        case h388 =>
         exact qs_ret (qv 3)
    case rr =>
    walk_at "s"
    obtain ⟨dx, vs, hp, hT, _⟩ := id hS
    obtain ⟨dy, kvs, hq, hd1, _⟩ := id hT
    walk_at "w"
    refine rd_dgetmK hd1 ?_
    walk_at "w"
    refine rd_dgetK hd1 ?_
    rw [optV_get]
    walk_at "w"
    refine rd_methO hp (sfl_no (by decide +kernel) (by decide +kernel) (by decide +kernel) (by decide +kernel)) ?_
    walk_at "w"
    refine ⟨S, n, t, o, sm, c, ds, ts, ws, rfl, hS, ht, ho, hc, hsl, htl, fun H1 hS1 F1 => ?_⟩
    obtain ⟨dx1, vs1, hp1, hT1, hd1, hD1, _⟩ := id hS1
    walk_at "w"
    refine ⟨tyL hd1, ?_⟩
    walk_at "w"
    refine rd_new (by show 2 ≤ sizeLine; decide) fun b H2 n2 f2 S2 => ?_
    walk_at "w"
    refine rd_append (S2 _ _ hd1) (by rw [hD1.len]; exact Nat.lt_of_le_of_lt hdl (by decide)) fun H3 f3 K3 => ?_
    have nt : ∀ {b : Addr} {xs : List V}, H2 b = some (.tup xs) → H3 b = some (.tup xs) := fun e => K3 _ _ e (fun z => by rw [z, S2 _ _ hd1] at e; cases e)
    walk_at "w"
    exact k H3 ((hS1.same S2).kpDeeds K3 f3 (((hD1.tups fun b xs e => S2 _ _ e).tups fun b xs e => nt e).snoc (q := (t, getI sm t)) (nt f2))) ((F1.trans (.same S2)).trans (.kp K3 (by simp [SA.own])))
def spSPut (a : Ad) : Sp := fun vs H Q _ => ∃ (S : SA) (n t h : Int) (sm : List (Int × Int)) (c : Nat) (ds : List (Int × Option Int)) (ts : List Int) (ws : List V), vs = [.ref S.p, .int t, .int h] ∧ StoreAt a H S n sm c ds ts ws ∧
  Tm t ∧ c ≤ 900 ∧ sm.length ≤ 900 ∧ ts.length ≤ 900 ∧ ds.length ≤ 900 ∧
  ∀ H', StoreAt a H' S n (putI sm t h) (c + 1) (ds ++ [(t, getI sm t)]) (ts ++ [t]) ws → FrS S H H' → Q (optV (getI sm t)) H'
theorem sc_Store_put : FnScope ["self", "t", "h"] ["self", "t", "h"] (defScope s_Store_put) := ⟨rfl, rfl, rfl, by decide +kernel, rfl, by decide +kernel, by decide +kernel⟩
theorem ok_Store_put (T : Txt K mg a) : FnOk P w K mg base CX0 7 a.f_Store_put a.d_Store_put ["self", "t", "h"] (spSPut a) := by
  refine T.F_Store_put.ok sc_Store_put (fun vs H Q E h => ?_) (fun cdv A outer s H vs Q E hr h => ?_)
  · obtain ⟨S, n, t, h, sm, c, ds, ts, ws, rfl, _⟩ := h
    rfl
  · obtain ⟨S, n, t, h, sm, c, ds, ts, ws, rfl, hS, ht, hc, hsl, htl, hdl, k⟩ := h
    refine' ⟨_, QB.h ?pp, ?rr⟩
    case pp =>
     refine' qss_cons ?h389 ?h390
     case h389 =>
      refine' qs_exprS ?h391
      case h391 =>
       refine' qe_callS (ok_check_time T) (hr.mono (by decide)) rfl T.m_check_time T.F_check_time.kp T.b_check_time .nil pass0 ?h392
       case h392 =>
        exact qa_c (qv 1) qa_nil
     case h390 =>
      refine' qss_one ?h393
      case h393 =>
       refine' qs_ret ?h394
       case h394 =>
        refine' qe_meth (qv 0) T.c_Store T.M_Store_do (ok_Store_do T) hr T.b_Store_do .nil pass0 ?h395
        case h395 =>
         refine' qa_c (qv 1) ?h396
         case h396 =>
          exact qa_c (qv 2) qa_nil
    case rr =>
    walk_at "s"
    obtain ⟨dx, vs, hp, hT, _⟩ := id hS
    walk_at "w"
    refine ⟨t, rfl, ht, ?_⟩
    walk_at "w"
    refine rd_methO hp (sfl_no (by decide +kernel) (by decide +kernel) (by decide +kernel) (by decide +kernel)) ?_
    walk_at "w"
    exact ⟨S, n, t, some h, sm, c, ds, ts, ws, rfl, hS, ht, (fun z => by cases z), hc, hsl, htl, hdl, fun H1 hS1 F1 => k H1 hS1 F1⟩
def spSCheck (a : Ad) : Sp := fun vs H Q _ => ∃ (S : SA) (n t v : Int) (sm : List (Int × Int)) (c : Nat) (ds : List (Int × Option Int)) (ts : List Int) (ws : List V), vs = [.ref S.p, .int t] ∧ StoreAt a H S n sm c ds ts ws ∧ getI sm t = some v ∧ Q .non H
theorem sc_Store_check_sample : FnScope ["self", "t"] ["self", "t"] (defScope s_Store_check_sample) := ⟨rfl, rfl, rfl, by decide +kernel, rfl, by decide +kernel, by decide +kernel⟩
theorem ok_Store_check_sample (T : Txt K mg a) : FnOk P w K mg base CX0 2 a.f_Store_check_sample a.d_Store_check_sample ["self", "t"] (spSCheck a) := by
  refine T.F_Store_check_sample.ok sc_Store_check_sample (fun vs H Q E h => ?_) (fun cdv A outer s H vs Q E hr h => ?_)
  · obtain ⟨S, n, t, v, sm, c, ds, ts, ws, rfl, _⟩ := h
    rfl
  · obtain ⟨S, n, t, v, sm, c, ds, ts, ws, rfl, hS, hg, q⟩ := h
    have hu := hu_of hr
    refine' ⟨_, QB.h ?pp, ?rr⟩
    case pp =>
     refine' qss_one ?h397
     case h397 =>
      refine' qs_if ?h398 ?h399 qss_nil
      case h398 =>
       refine' QW.pt ?h400
       case h400 =>
        refine' qw_or ?h401 ?h402
        case h401 =>
         refine' qt_not ?h403
         case h403 =>
          refine' qt_val ?h404
          case h404 =>
           refine' qe_callS (ok_is_whole T) hr rfl T.m_is_whole T.F_is_whole.kp T.b_is_whole .nil pass0 ?h405
           case h405 =>
            exact qa_c (qv 1) qa_nil
        case h402 =>
         refine' qw_or1 ?h406
         case h406 =>
          refine' qt_cmpR (op_notInDk hu) (qv 1) ?h407 (by with_unfolding_all rfl)
          case h407 =>
           refine' ke_fld K rfl ?h408
           case h408 =>
            exact ke_fld K rfl (qv 0)
      case h399 =>
       exact qss_one qs_never
    case rr =>
    walk_at "s"
    obtain ⟨dx, vs, hp, hT, _⟩ := id hS
    obtain ⟨dy, kvs, hq, hd1, _⟩ := id hT
    walk_at "w"
    refine ⟨t, rfl, ?_⟩
    walk_at "w"
    refine iteF ?_
    walk_at "w"
    refine rd_notInDI hd1 ?_
    rw [hg]
    walk_at "w"
    refine iteF ?_
    walk_at "w"
    exact q
def spSTake (a : Ad) : Sp := fun vs H Q _ => ∃ (S : SA) (n t v : Int) (sm : List (Int × Int)) (c : Nat) (ds : List (Int × Option Int)) (ts : List Int) (ws : List V), vs = [.ref S.p, .int t] ∧ StoreAt a H S n sm c ds ts ws ∧
  Tm t ∧ getI sm t = some v ∧ c ≤ 900 ∧ sm.length ≤ 900 ∧ ts.length ≤ 900 ∧ ds.length ≤ 900 ∧
  ∀ H', StoreAt a H' S n (dropI sm t) (c + 1) (ds ++ [(t, some v)]) (ts ++ [t]) ws → FrS S H H' → Q (.int v) H'
theorem sc_Store_take : FnScope ["self", "t"] ["self", "t"] (defScope s_Store_take) := ⟨rfl, rfl, rfl, by decide +kernel, rfl, by decide +kernel, by decide +kernel⟩
theorem ok_Store_take (T : Txt K mg a) : FnOk P w K mg base CX0 7 a.f_Store_take a.d_Store_take ["self", "t"] (spSTake a) := by
  refine T.F_Store_take.ok sc_Store_take (fun vs H Q E h => ?_) (fun cdv A outer s H vs Q E hr h => ?_)
  · obtain ⟨S, n, t, v, sm, c, ds, ts, ws, rfl, _⟩ := h
    rfl
  · obtain ⟨S, n, t, v, sm, c, ds, ts, ws, rfl, hS, ht, hg, hc, hsl, htl, hdl, k⟩ := h
    refine' ⟨_, QB.h ?pp, ?rr⟩
    case pp =>
     refine' qss_cons ?h409 ?h410
     case h409 =>
      refine' qs_exprS ?h411
      case h411 =>
       refine' qe_meth (qv 0) T.c_Store T.M_Store_check_sample (ok_Store_check_sample T) (hr.mono (by decide)) T.b_Store_check_sample .nil pass0 ?h412
       case h412 =>
        exact qa_c (qv 1) qa_nil
     case h410 =>
      refine' qss_one ?h413
      case h413 =>
       refine' qs_ret ?h414
       case h414 =>
        refine' qe_meth (qv 0) T.c_Store T.M_Store_do (ok_Store_do T) hr T.b_Store_do .nil pass0 ?h415
        case h415 =>
         refine' qa_c (qv 1) ?h416
         case h416 =>
          exact qa_c qe_non qa_nil
    case rr =>
    walk_at "s"
    obtain ⟨dx, vs, hp, hT, _⟩ := id hS
    walk_at "w"
    refine rd_methO hp (sfl_no (by decide +kernel) (by decide +kernel) (by decide +kernel) (by decide +kernel)) ?_
    walk_at "w"
    refine ⟨S, n, t, v, sm, c, ds, ts, ws, rfl, hS, hg, ?_⟩
    walk_at "w"
    refine rd_methO hp (sfl_no (by decide +kernel) (by decide +kernel) (by decide +kernel) (by decide +kernel)) ?_
    walk_at "w"
    refine ⟨S, n, t, none, sm, c, ds, ts, ws, rfl, hS, ht, (fun _ => by rw [hg]; rfl), hc, hsl, htl, hdl, fun H1 hS1 F1 => ?_⟩
    rw [hg] at hS1 ⊢
    exact k H1 hS1 F1
def spSFour (a : Ad) : Sp := fun vs H Q _ => ∃ (S : SA) (n b e : Int) (sm : List (Int × Int)) (c : Nat) (ds : List (Int × Option Int)) (ts : List Int) (ws : List V), vs = [.ref S.p, .int b, .int e] ∧ StoreAt a H S n sm c ds ts ws ∧ InT b ∧ InT e ∧
  ∀ (v : V) (o : Option (List (Int × Int))) (n' : Int) (H' : Hp), FourIs H' v o → Is4 (inCol sm b e) o → StoreAt a H' S n' sm c ds ts ws → Kp S.tr H H' → Q v H'
theorem sc_Store_four : FnScope ["self", "begin", "end"] ["self", "begin", "end"] (defScope s_Store_four) := ⟨rfl, rfl, rfl, by decide +kernel, rfl, by decide +kernel, by decide +kernel⟩
theorem ok_Store_four (T : Txt K mg a) : FnOk P w K mg base CX0 6 a.f_Store_four a.d_Store_four ["self", "begin", "end"] (spSFour a) := by
  refine T.F_Store_four.ok sc_Store_four (fun vs H Q E h => ?_) (fun cdv A outer s H vs Q E hr h => ?_)
  · obtain ⟨S, n, b, e, sm, c, ds, ts, ws, rfl, _⟩ := h
    rfl
  · obtain ⟨S, n, b, e, sm, c, ds, ts, ws, rfl, hS, hb, he, k⟩ := h
    refine' ⟨_, QB.h ?pp, ?rr⟩
    case pp =>
     refine' qss_one ?h417
     case h417 =>
      refine' qs_ret ?h418
      case h418 =>
       refine' qe_meth ?h419 T.c_Tree T.M_Tree_four (ok_Tree_four T) hr T.b_Tree_four .nil pass0 ?h420
       case h419 =>
        exact ke_fld K rfl (qv 0)
       case h420 =>
        refine' qa_c (qv 1) ?h421
        case h421 =>
         exact qa_c (qv 2) qa_nil
    case rr =>
    walk_at "s"
    obtain ⟨dx, vs, hp, hT, _⟩ := id hS
    obtain ⟨dy, kvs, hq, hd1, _⟩ := id hT
    walk_at "w"
    refine rd_methO hq (tfl_no (by decide +kernel) (by decide +kernel) (by decide +kernel)) ?_
    walk_at "w"
    exact ⟨S.tr, S.d1, S.d2, n, b, e, sm, c, rfl, hT, hb, he, fun v o prs H1 h1 g1 _ hT1 K1 => k v o _ H1 h1 g1 (hS.fr3 (kp_fr3 K1) hT1) K1⟩
def spSTimes (a : Ad) : Sp := fun vs H Q _ => ∃ (S : SA) (n : Int) (sm : List (Int × Int)) (c : Nat) (ds : List (Int × Option Int)) (ts : List Int) (ws : List V), vs = [.ref S.p] ∧ StoreAt a H S n sm c ds ts ws ∧
  ∀ u H', H' u = some (.tup (ts.map V.int)) → Same H H' → Q (.ref u) H'
theorem sc_Store_times : FnScope ["self"] ["self"] (defScope s_Store_times) := ⟨rfl, rfl, rfl, by decide +kernel, rfl, by decide +kernel, by decide +kernel⟩
theorem ok_Store_times (T : Txt K mg a) : FnOk P w K mg base CX0 1 a.f_Store_times a.d_Store_times ["self"] (spSTimes a) := by
  refine T.F_Store_times.ok sc_Store_times (fun vs H Q E h => ?_) (fun cdv A outer s H vs Q E hr h => ?_)
  · obtain ⟨S, n, sm, c, ds, ts, ws, rfl, _⟩ := h
    rfl
  · obtain ⟨S, n, sm, c, ds, ts, ws, rfl, hS, k⟩ := h
    refine' ⟨_, QB.h ?pp, ?rr⟩
    case pp =>
     refine' qss_one ?h422
     case h422 =>
      refine' qs_ret ?h423
      case h423 =>
       refine' qe_callTyS (kc_tuple K rfl) rfl T.z_tuple bt_tuple ?h424
       case h424 =>
        refine' qa_c ?h425 qa_nil
        case h425 =>
         exact ke_fld K rfl (qv 0)
    case rr =>
    walk_at "s"
    obtain ⟨dx, vs, hp, hT, hd, hD, hn, _⟩ := id hS
    walk_at "w"
    exact rd_tupL (SqL.of hn) fun u H3 n3 f3 S3 => k u H3 f3 S3
end
theorem FrL.ofS {S : SA} {l : List Addr} {H H' : Hp} (h : FrS S H H') (m : ∀ b ∈ S.own, b ∈ l) : FrL l H H' := fun b o e n => h b o e fun z => n (m b z)
section
variable {a : Ad} {H H' : Hp} {S : SA} {n : Int} {sm : List (Int × Int)} {c : Nat} {ds : List (Int × Option Int)} {ts : List Int} {ws : List V}
theorem StoreAt.live (h : StoreAt a H S n sm c ds ts ws) : ∀ b ∈ S.p :: S.own, ∃ o, H b = some o := by
  obtain ⟨dx, vs, h1, ⟨dy, kvs, t1, t2, t3, _⟩, h3, h4, h5, h6, h7⟩ := h
  intro b hb
  simp only [SA.own, List.mem_cons, List.not_mem_nil, or_false] at hb
  rcases hb with rfl | rfl | rfl | rfl | rfl | rfl | rfl
  · exact ⟨_, h1⟩
  · exact ⟨_, t1⟩
  · exact ⟨_, t2⟩
  · exact ⟨_, t3⟩
  · exact ⟨_, h3⟩
  · exact ⟨_, h5⟩
  · exact ⟨_, h6⟩
theorem StoreAt.noTup (h : StoreAt a H S n sm c ds ts ws) : ∀ b ∈ S.own, ∀ xs, H b ≠ some (.tup xs) := by
  obtain ⟨dx, vs, h1, ⟨dy, kvs, t1, t2, t3, _⟩, h3, h4, h5, h6, h7⟩ := h
  intro b hb xs e
  simp only [SA.own, List.mem_cons, List.not_mem_nil, or_false] at hb
  rcases hb with rfl | rfl | rfl | rfl | rfl | rfl
  · rw [t1] at e; cases e
  · rw [t2] at e; cases e
  · rw [t3] at e; cases e
  · rw [h3] at e; cases e
  · rw [h5] at e; cases e
  · rw [h6] at e; cases e
theorem StoreAt.frL (h : StoreAt a H S n sm c ds ts ws) {l : List Addr} (f : FrL l H H') (d : ∀ b ∈ l, b ∉ S.p :: S.own) (nt : ∀ b ∈ l, ∀ xs, H b ≠ some (.tup xs)) : StoreAt a H' S n sm c ds ts ws := by
  obtain ⟨dx, vs, h1, ⟨dy, kvs, t1, t2, t3, t4, t5, t6⟩, h3, h4, h5, h6, h7⟩ := h
  have k : ∀ b o, H b = some o → b ∈ S.p :: S.own → H' b = some o := fun b o e m => f _ _ e fun z => d b z m
  have kt : ∀ b xs, H b = some (.tup xs) → H' b = some (.tup xs) := fun b xs e => f _ _ e fun z => nt b z xs e
  exact ⟨dx, vs, k _ _ h1 (by simp), ⟨dy, kvs, k _ _ t1 (by simp [SA.own]), k _ _ t2 (by simp [SA.own]), k _ _ t3 (by simp [SA.own]), t4, t5.tups kt, t6⟩, k _ _ h3 (by simp [SA.own]), h4.tups kt, k _ _ h5 (by simp [SA.own]), k _ _ h6 (by simp [SA.own]), h7⟩
theorem StoreAt.apart (h : StoreAt a H S n sm c ds ts ws) {l : List Addr} (m : ∀ b ∈ l, H b = none) : ∀ b ∈ l, b ∉ S.p :: S.own := fun b hb z => by
  obtain ⟨o, e⟩ := h.live b z
  rw [m b hb] at e; cases e
theorem SA.ls_own {S : SA} {b : Addr} (h : b ∈ S.ls) : b ∈ S.own := by
  simp only [SA.ls, SA.own, List.mem_cons, List.not_mem_nil, or_false] at *
  rcases h with h | h | h <;> simp [h]
end
section
variable {P : Program} {w : World} {K : PySem.W.Frag} {mg : Str → Option Value} {base : Heap} {a : Ad}
def colV (b y m t : Int) : V := if 0 ≤ (t - b) / y ∧ (t - b) / y < m then .int ((t - b) / y) else .non
def spColOf : Sp := fun vs H Q _ => ∃ (p : Addr) (b y m t : Int), vs = [.ref p, .int t] ∧ H p = some (.tup [.int b, .int y, .int m]) ∧ 0 < y ∧ y < 2 ^ 250 ∧ Q (colV b y m t) H
theorem sc_column_of : FnScope ["window", "t", "begin", "wide", "many", "k"] ["window", "t"] (defScope s_column_of) := ⟨rfl, rfl, rfl, by decide +kernel, rfl, by decide +kernel, by decide +kernel⟩
theorem ok_column_of (T : Txt K mg a) : FnOk P w K mg base CX0 1 a.f_column_of a.d_column_of ["window", "t"] spColOf := by
  refine T.F_column_of.ok sc_column_of (fun vs H Q E h => ?_) (fun cdv A outer s H vs Q E hr h => ?_)
  · obtain ⟨p, b, y, m, t, rfl, _⟩ := h
    rfl
  · obtain ⟨p, b, y, m, t, rfl, hT, hy, hy2, q⟩ := h
    refine' ⟨_, QB.h ?pp, ?rr⟩
    case pp =>
     refine' qss_cons ?h426 ?h427
     case h426 =>
      refine' qs_asg (qv 0) ?h428
      case h428 =>
       refine' kg_tup (n := 3) K rfl rfl ?h429
       case h429 =>
        refine' qgs_cons (qg_name (i := 2) sc_column_of.nd rfl (by walk_at "o")) ?h430
        case h430 =>
         refine' qgs_cons (qg_name (i := 3) sc_column_of.nd rfl (by walk_at "o")) ?h431
         case h431 =>
          exact qgs_cons (qg_name (i := 4) sc_column_of.nd rfl (by walk_at "o")) qgs_nil
     case h427 =>
      refine' qss_cons ?h432 ?h433
      case h432 =>
       refine' qs_setS (i := 5) sc_column_of.nd rfl (by walk_at "o") ?h434
       case h434 =>
        refine' qe_op op_fdivB ?h435 (qv 3)
        case h435 =>
         exact qe_op op_sub (qv 1) (qv 2)
      case h433 =>
       refine' qss_one ?h436
       case h436 =>
        refine' qs_ret ?h437
        case h437 =>
         refine' qe_ifExp ?h438 (qv 5) qe_non
         case h438 =>
          exact qt_chain op_le op_lt qe_int (qv 5) (qv 4)
    case rr =>
    walk_at "s"
    walk_at "w"
    refine iteD (fun h1 => ?_) (fun h1 => ?_)
    · walk_at "w"
      refine iteD (fun h2 => ?_) (fun h2 => ?_)
      · walk_at "w"
        unfold colV at q
        rw [if_pos ⟨h1, h2⟩] at q
        exact q
      · walk_at "w"
        unfold colV at q
        rw [if_neg (fun z => h2 z.2)] at q
        exact q
    · walk_at "w"
      refine iteF ?_
      walk_at "w"
      unfold colV at q
      rw [if_neg (fun z => h1 z.1)] at q
      exact q
end
abbrev win (b y m : Int) : List V := [.int b, .int y, .int m]
def spMoved (K : PySem.W.Frag) : Sp := fun vs H Q _ => ∃ (t : Addr) (b y m c : Int), vs = [.ref t, .int c] ∧ SqT K H t (win b y m) ∧ IntMulOk c y ∧ ∀ (u : Addr) (H' : Hp), H u = none → H' u = some (.tup (win (b + c * y) y m)) → Same H H' → Q (.ref u) H'
def spWidened (K : PySem.W.Frag) : Sp := fun vs H Q _ => ∃ (t : Addr) (b y m : Int), vs = [.ref t] ∧ SqT K H t (win b y m) ∧ ∀ (u : Addr) (H' : Hp), H u = none → H' u = some (.tup (win b (y * 2) m)) → Same H H' → Q (.ref u) H'
def spNarrowed (K : PySem.W.Frag) : Sp := fun vs H Q _ => ∃ (t : Addr) (b y m : Int), vs = [.ref t] ∧ SqT K H t (win b y m) ∧ y % 2 = 0 ∧ ∀ (u : Addr) (H' : Hp), H u = none → H' u = some (.tup (win b (y / 2) m)) → Same H H' → Q (.ref u) H'
def spWithC (K : PySem.W.Frag) : Sp := fun vs H Q _ => ∃ (t : Addr) (b y m n : Int), vs = [.ref t, .int n] ∧ SqT K H t (win b y m) ∧ ∀ (u : Addr) (H' : Hp), H u = none → H' u = some (.tup (win b y n)) → Same H H' → Q (.ref u) H'
section
variable {P : Program} {w : World} {K : PySem.W.Frag} {mg : Str → Option Value} {base : Heap} {a : Ad}
theorem sc_moved : FnScope ["window", "c", "begin", "wide", "many"] ["window", "c"] (defScope s_moved) := ⟨rfl, rfl, rfl, by decide +kernel, rfl, by decide +kernel, by decide +kernel⟩
theorem ok_moved (T : Txt K mg a) : FnOk P w K mg base CX0 1 a.f_moved a.d_moved ["window", "c"] (spMoved K) := by
  refine T.F_moved.ok sc_moved (fun vs H Q E h => ?_) (fun cdv A outer s H vs Q E hr h => ?_)
  · obtain ⟨t, b, y, m, c, rfl, _⟩ := h
    rfl
  · obtain ⟨t, b, y, m, c, rfl, hT, hm, k⟩ := h
    refine' ⟨_, QB.h ?pp, ?rr⟩
    case pp =>
     refine' qss_cons ?h439 ?h440
     case h439 =>
      refine' qs_asg (qv 0) ?h441
      case h441 =>
       refine' kg_tup (n := 3) K rfl rfl ?h442
       case h442 =>
        refine' qgs_cons (qg_name (i := 2) sc_moved.nd rfl (by walk_at "o")) ?h443
        case h443 =>
         refine' qgs_cons (qg_name (i := 3) sc_moved.nd rfl (by walk_at "o")) ?h444
         case h444 =>
          exact qgs_cons (qg_name (i := 4) sc_moved.nd rfl (by walk_at "o")) qgs_nil
     case h440 =>
      refine' qss_one ?h445
      case h445 =>
       refine' qs_ret ?h446
       case h446 =>
        refine' qe_tup ?h447
        case h447 =>
         refine' qa_c ?h448 ?h449
         case h448 =>
          refine' qe_op op_add (qv 2) ?h450
          case h450 =>
           exact qe_op op_mulG (qv 1) (qv 3)
         case h449 =>
          refine' qa_c (qv 3) ?h451
          case h451 =>
           exact qa_c (qv 4) qa_nil
    case rr =>
    walk_at "s"
    walk_at "w"
    refine rd_I hm ?_
    walk_at "w"
    exact rd_new (by show 3 ≤ sizeLine; decide) fun u H2 hu f2 S2 => k u H2 hu f2 S2
theorem sc_widened : FnScope ["window", "begin", "wide", "many"] ["window"] (defScope s_widened) := ⟨rfl, rfl, rfl, by decide +kernel, rfl, by decide +kernel, by decide +kernel⟩
theorem ok_widened (T : Txt K mg a) : FnOk P w K mg base CX0 1 a.f_widened a.d_widened ["window"] (spWidened K) := by
  refine T.F_widened.ok sc_widened (fun vs H Q E h => ?_) (fun cdv A outer s H vs Q E hr h => ?_)
  · obtain ⟨t, b, y, m, rfl, _⟩ := h
    rfl
  · obtain ⟨t, b, y, m, rfl, hT, k⟩ := h
    refine' ⟨_, QB.h ?pp, ?rr⟩
    case pp =>
     refine' qss_cons ?h452 ?h453
     case h452 =>
      refine' qs_asg (qv 0) ?h454
      case h454 =>
       refine' kg_tup (n := 3) K rfl rfl ?h455
       case h455 =>
        refine' qgs_cons (qg_name (i := 1) sc_widened.nd rfl (by walk_at "o")) ?h456
        case h456 =>
         refine' qgs_cons (qg_name (i := 2) sc_widened.nd rfl (by walk_at "o")) ?h457
         case h457 =>
          exact qgs_cons (qg_name (i := 3) sc_widened.nd rfl (by walk_at "o")) qgs_nil
     case h453 =>
      refine' qss_one ?h458
      case h458 =>
       refine' qs_ret ?h459
       case h459 =>
        refine' qe_tup ?h460
        case h460 =>
         refine' qa_c (qv 1) ?h461
         case h461 =>
          refine' qa_c ?h462 ?h463
          case h462 =>
           exact qe_op op_mulG (qv 2) qe_int
          case h463 =>
           exact qa_c (qv 3) qa_nil
    case rr =>
    walk_at "s"
    walk_at "w"
    exact rd_new (by show 3 ≤ sizeLine; decide) fun u H2 hu f2 S2 => k u H2 hu f2 S2
theorem sc_narrowed : FnScope ["window", "begin", "wide", "many"] ["window"] (defScope s_narrowed) := ⟨rfl, rfl, rfl, by decide +kernel, rfl, by decide +kernel, by decide +kernel⟩
theorem ok_narrowed (T : Txt K mg a) : FnOk P w K mg base CX0 1 a.f_narrowed a.d_narrowed ["window"] (spNarrowed K) := by
  refine T.F_narrowed.ok sc_narrowed (fun vs H Q E h => ?_) (fun cdv A outer s H vs Q E hr h => ?_)
  · obtain ⟨t, b, y, m, rfl, _⟩ := h
    rfl
  · obtain ⟨t, b, y, m, rfl, hT, hy, k⟩ := h
    refine' ⟨_, QB.h ?pp, ?rr⟩
    case pp =>
     refine' qss_cons ?h464 ?h465
     case h464 =>
      refine' qs_asg (qv 0) ?h466
      case h466 =>
       refine' kg_tup (n := 3) K rfl rfl ?h467
       case h467 =>
        refine' qgs_cons (qg_name (i := 1) sc_narrowed.nd rfl (by walk_at "o")) ?h468
        case h468 =>
         refine' qgs_cons (qg_name (i := 2) sc_narrowed.nd rfl (by walk_at "o")) ?h469
         case h469 =>
          exact qgs_cons (qg_name (i := 3) sc_narrowed.nd rfl (by walk_at "o")) qgs_nil
     case h465 =>
      refine' qss_cons ?h470 ?h471
      case h470 =>
       refine' qs_if ?h472 ?h473 qss_nil
       case h472 =>
        refine' qt_cmpR (op_eq) ?h474 qe_int (nomark _)
        case h474 =>
         exact qe_op op_mod (qv 2) qe_int
       case h473 =>
        exact qss_one qs_never
      case h471 =>
       refine' qss_one ?h475
       case h475 =>
        refine' qs_ret ?h476
        case h476 =>
         refine' qe_tup ?h477
         case h477 =>
          refine' qa_c (qv 1) ?h478
          case h478 =>
           refine' qa_c ?h479 ?h480
           case h479 =>
            exact qe_op op_fdivB (qv 2) qe_int
           case h480 =>
            exact qa_c (qv 3) qa_nil
    case rr =>
    walk_at "s"
    walk_at "w"
    rw [dec_i]
    refine iteD (fun h => absurd h (by omega)) (fun _ => ?_)
    walk_at "w"
    exact rd_new (by show 3 ≤ sizeLine; decide) fun u H2 hu f2 S2 => k u H2 hu f2 S2
theorem sc_with_columns : FnScope ["window", "n"] ["window", "n"] (defScope s_with_columns) := ⟨rfl, rfl, rfl, by decide +kernel, rfl, by decide +kernel, by decide +kernel⟩
theorem ok_with_columns (T : Txt K mg a) : FnOk P w K mg base CX0 1 a.f_with_columns a.d_with_columns ["window", "n"] (spWithC K) := by
  refine T.F_with_columns.ok sc_with_columns (fun vs H Q E h => ?_) (fun cdv A outer s H vs Q E hr h => ?_)
  · obtain ⟨t, b, y, m, n, rfl, _⟩ := h
    rfl
  · obtain ⟨t, b, y, m, n, rfl, hT, k⟩ := h
    refine' ⟨_, QB.h ?pp, ?rr⟩
    case pp =>
     refine' qss_one ?h481
     case h481 =>
      refine' qs_ret ?h482
      case h482 =>
       refine' qe_tup ?h483
       case h483 =>
        refine' qa_c ?h484 ?h485
        case h484 =>
         exact qe_ix (kx_tup K rfl) (qv 0) qe_int
        case h485 =>
         refine' qa_c ?h486 ?h487
         case h486 =>
          exact qe_ix (kx_tup K rfl) (qv 0) qe_int
         case h487 =>
          exact qa_c (qv 1) qa_nil
    case rr =>
    walk_at "s"
    walk_at "w"
    exact rd_new (by show 3 ≤ sizeLine; decide) fun u H2 hu f2 S2 => k u H2 hu f2 S2
end
def kx (x z : Int) : List Key := [Sum.inl x, Sum.inl z]
theorem kx_inj {x z x' z' : Int} (h : kx x z = kx x' z') : x = x' ∧ z = z' := by
  unfold kx at h
  injection h with h1 h2
  injection h2 with h2 _
  exact ⟨Sum.inl.inj h1, Sum.inl.inj h2⟩
theorem valV_drop {κ : Type} [DecidableEq κ] (k j : κ) : ∀ kvs : List (κ × V), valV (dropK kvs k) j = if j = k then none else valV kvs j
  | [] => by split <;> rfl
  | p :: r => by
    have ih := valV_drop k j r
    unfold dropK at ih ⊢
    by_cases e : p.1 = k
    · rw [List.filter_cons_of_neg (by simpa using e), ih]
      split
      · rfl
      · rw [valV_neg (fun z => ‹¬ j = k› (z.symm.trans e))]
    · rw [List.filter_cons_of_pos (by simpa using e)]
      by_cases e2 : p.1 = j
      · rw [valV_pos e2, valV_pos e2, if_neg (fun z => e (e2.trans z))]
      · rw [valV_neg e2, valV_neg e2, ih]
def Good (H : Hp) (sm : List (Int × Int)) (x z : Int) (v : V) : Prop := ∃ o, FourIs H v o ∧ Is4 (inCol sm x z) o
theorem Good.tups {H H' : Hp} {sm : List (Int × Int)} {x z : Int} {v : V} (h : Good H sm x z v) (t : ∀ b xs, H b = some (.tup xs) → H' b = some (.tup xs)) : Good H' sm x z v :=
  let ⟨o, h1, h2⟩ := h; ⟨o, h1.tups t, h2⟩
def Col (b y m x z : Int) : Prop := ∃ k : Int, 0 ≤ k ∧ k < m ∧ x = b + k * y ∧ z = b + k * y + y
def has (kvs : List (List Key × V)) (x z : Int) : Bool := (valV kvs (kx x z)).isSome
theorem has_some {kvs : List (List Key × V)} {x z : Int} {v : V} (h : valV kvs (kx x z) = some v) : has kvs x z = true := by unfold has; rw [h]; rfl
theorem has_none {kvs : List (List Key × V)} {x z : Int} (h : valV kvs (kx x z) = none) : has kvs x z = false := by unfold has; rw [h]; rfl
theorem has_put {kvs : List (List Key × V)} {x z x' z' : Int} {v : V} : has (putK kvs (kx x z) v) x' z' = (decide (x' = x ∧ z' = z) || has kvs x' z') := by
  unfold has
  rw [valV_put]
  by_cases e : kx x' z' = kx x z
  · rw [if_pos e, decide_eq_true (kx_inj e)]; rfl
  · rw [if_neg e, decide_eq_false (fun h => e (by rw [h.1, h.2]))]; rfl
def Kin (kvs : List (List Key × V)) (x z : Int) : Prop := has kvs x z = true ∨ (has kvs x ((x + z) / 2) = true ∧ has kvs ((x + z) / 2) z = true)
def spKnownIn : Sp := fun vs H Q _ => ∃ (d q : Addr) (b y m : Int) (kvs : List (List Key × V)) (sm : List (Int × Int)), vs = [.ref d, .ref q] ∧ H d = some (.dT kvs) ∧ WinT H q b y m ∧
  (∀ x z v, valV kvs (kx x z) = some v → Good H sm x z v) ∧
  ∀ (d' : Addr) (kvs' : List (List Key × V)) (H' : Hp), H d' = none → H' d' = some (.dT kvs') → kvs'.length ≤ m.toNat → (∀ x z v, valV kvs' (kx x z) = some v → Col b y m x z ∧ Good H' sm x z v) →
    (∀ x z, Col b y m x z → (has kvs' x z = true ↔ Kin kvs x z)) → Same H H' → Q (.ref d') H'
section
variable {P : Program} {w : World} {K : PySem.W.Frag} {mg : Str → Option Value} {base : Heap} {a : Ad}
theorem sc_known_in : FnScope ["known", "window", "staying", "first", "behind", "middle"] ["known", "window"] (defScope s_known_in) := ⟨rfl, rfl, rfl, by decide +kernel, rfl, by decide +kernel, by decide +kernel⟩
theorem ok_known_in (T : Txt K mg a) : FnOk P w K mg base CX0 4 a.f_known_in a.d_known_in ["known", "window"] spKnownIn := by
  refine T.F_known_in.ok sc_known_in (fun vs H Q E h => ?_) (fun cdv A outer s H vs Q E hr h => ?_)
  · obtain ⟨d, q, b, y, m, kvs, sm, rfl, _⟩ := h
    rfl
  · obtain ⟨d, q, b, y, m, kvs, sm, rfl, hd, hW, hg, k⟩ := h
    have hu := hu_of hr
    obtain ⟨hq, hy, hm1, hm2, hb, he⟩ := id hW
    refine' ⟨_, QB.h ?pp, ?rr⟩
    case pp =>
     refine' qss_cons ?h488 ?h489
     case h488 =>
      exact qs_setS (i := 2) sc_known_in.nd rfl (by walk_at "o") qe_dnewT
     case h489 =>
      refine' qss_cons ?h490 ?h491
      case h490 =>
       refine' qs_for PassesOwn.never rfl ?h492 ?h493 ?h494
       case h492 =>
        refine' ki_list K rfl ?h495
        case h495 =>
         refine' qe_callS (ok_columns_of T) hr rfl T.m_columns_of T.F_columns_of.kp T.b_columns_of .nil pass0 ?h496
         case h496 =>
          exact qa_c (qv 1) qa_nil
       case h493 =>
        refine' kg_tup (n := 2) K rfl rfl ?h497
        case h497 =>
         refine' qgs_cons (qg_name (i := 3) sc_known_in.nd rfl (by walk_at "o")) ?h498
         case h498 =>
          exact qgs_cons (qg_name (i := 4) sc_known_in.nd rfl (by walk_at "o")) qgs_nil
       case h494 =>
        refine' qss_cons ?h499 ?h500
        case h499 =>
         refine' qs_setS (i := 5) sc_known_in.nd rfl (by walk_at "o") ?h501
         case h501 =>
          refine' qe_op op_fdivB ?h502 qe_int
          case h502 =>
           exact qe_op op_add (qv 3) (qv 4)
        case h500 =>
         refine' qss_one ?h503
         case h503 =>
          refine' qs_if ?h504 ?h505 ?h506
          case h504 =>
           refine' qt_cmpR (op_inDk hu) ?h507 (qv 0) (by with_unfolding_all rfl)
           case h507 =>
            refine' qe_tup ?h508
            case h508 =>
             refine' qa_c (qv 3) ?h509
             case h509 =>
              exact qa_c (qv 4) qa_nil
          case h505 =>
           refine' qss_one ?h510
           case h510 =>
            refine' qs_dput hu ?h511 (qv 2) ?h512
            case h511 =>
             refine' qe_dget hu (qv 0) ?h513
             case h513 =>
              refine' qe_tup ?h514
              case h514 =>
               refine' qa_c (qv 3) ?h515
               case h515 =>
                exact qa_c (qv 4) qa_nil
            case h512 =>
             refine' qe_tup ?h516
             case h516 =>
              refine' qa_c (qv 3) ?h517
              case h517 =>
               exact qa_c (qv 4) qa_nil
          case h506 =>
           refine' qss_one ?h518
           case h518 =>
            refine' qs_if ?h519 ?h520 qss_nil
            case h519 =>
             refine' QW.pt ?h521
             case h521 =>
              refine' qw_and ?h522 ?h523
              case h522 =>
               refine' qt_cmpR (op_inDk hu) ?h524 (qv 0) (by with_unfolding_all rfl)
               case h524 =>
                refine' qe_tup ?h525
                case h525 =>
                 refine' qa_c (qv 3) ?h526
                 case h526 =>
                  exact qa_c (qv 5) qa_nil
              case h523 =>
               refine' qw_and1 ?h527
               case h527 =>
                refine' qt_cmpR (op_inDk hu) ?h528 (qv 0) (by with_unfolding_all rfl)
                case h528 =>
                 refine' qe_tup ?h529
                 case h529 =>
                  refine' qa_c (qv 5) ?h530
                  case h530 =>
                   exact qa_c (qv 4) qa_nil
            case h520 =>
             refine' qss_one ?h531
             case h531 =>
              refine' qs_dput hu ?h532 (qv 2) ?h533
              case h532 =>
               refine' qe_callS (ok_joined T) (hr.mono (by decide)) rfl T.m_joined T.F_joined.kp T.b_joined .nil pass0 ?h534
               case h534 =>
                refine' qa_c ?h535 ?h536
                case h535 =>
                 refine' qe_dget hu (qv 0) ?h537
                 case h537 =>
                  refine' qe_tup ?h538
                  case h538 =>
                   refine' qa_c (qv 3) ?h539
                   case h539 =>
                    exact qa_c (qv 5) qa_nil
                case h536 =>
                 refine' qa_c ?h540 qa_nil
                 case h540 =>
                  refine' qe_dget hu (qv 0) ?h541
                  case h541 =>
                   refine' qe_tup ?h542
                   case h542 =>
                    refine' qa_c (qv 5) ?h543
                    case h543 =>
                     exact qa_c (qv 4) qa_nil
              case h533 =>
               refine' qe_tup ?h544
               case h544 =>
                refine' qa_c (qv 3) ?h545
                case h545 =>
                 exact qa_c (qv 4) qa_nil
      case h491 =>
       refine' qss_one ?h546
       case h546 =>
        exact qs_ret (qv 2)
    case rr =>
    walk_at "s"
    walk_at "w"
    refine rd_dnewT fun d' H1 n1 f1 S1 => ?_
    have nd : d ≠ d' := ne_of_none hd n1
    walk_at "w"
    refine ⟨q, b, y, m, rfl, S1 _ _ hq, hm1, by omega, fun l us H2 n2 f2 hP2 S2 => ?_⟩
    have nl : l ≠ d' := fun z => by rw [z, f1] at n2; cases n2
    have hul : us.length = m.toNat := by rw [hP2.length, colsL_len]
    have S02 := S1.trans S2
    walk_at "w"
    refine rd_forL (xs := us) (fun i σ H' => (∃ v3 v4 v5, σ = [some (.ref d), some (.ref q), some (.ref d'), v3, v4, v5]) ∧ Kp d' H2 H' ∧ ∃ kvs', H' d' = some (.dT kvs') ∧ kvs'.length ≤ i ∧
      (∀ x z v, valV kvs' (kx x z) = some v → (∃ j : Nat, j < i ∧ x = b + (j : Int) * y ∧ z = b + (j : Int) * y + y) ∧ Good H' sm x z v) ∧ ∀ j : Nat, j < i → (has kvs' (b + (j : Int) * y) (b + (j : Int) * y + y) = true ↔ Kin kvs (b + (j : Int) * y) (b + (j : Int) * y + y))) ?_ ?_ ?_ ?_
    · exact ⟨⟨_, _, _, rfl⟩, fun _ _ e _ => e, [], S2 _ _ f1, Nat.le_refl _, fun x z v h => (by cases h), fun j h => (by omega)⟩
    · rintro i σ H3 _ ⟨_, K3, _⟩
      exact SqL.of (K3 _ _ f2 nl)
    · rintro i x σ H3 hx ⟨⟨v3, v4, v5, rfl⟩, K3, kvs', f3, hl3, hG3, hI3⟩
      obtain ⟨cc, pq, rfl, hpq, hc⟩ := hP2.at hx
      have hil : i < m.toNat := by rw [← hul]; exact (List.getElem?_eq_some_iff.mp hx).1
      obtain rfl := colsL_at hpq
      have ntd : ∀ {H' : Hp} {kv : List (List Key × V)}, H' d' = some (.dT kv) → ∀ {e : Addr} {xs : List V}, H' e = some (.tup xs) → e ≠ d' := fun h e xs g z => by rw [z, h] at g; cases g
      have hc3 := K3 _ _ hc (ntd (S2 _ _ f1) hc)
      have hd3 := K3 _ _ (S02 _ _ hd) nd
      have nt03 : ∀ b xs, H b = some (.tup xs) → H3 b = some (.tup xs) := fun b xs e => K3 _ _ (S02 _ _ e) (ne_of_none e n1)
      have hz : kvs'.length < sizeLine := by show _ < 2 ^ 24; omega
      generalize hX : b + (i : Int) * y = X at hc3 hpq
      have hold : ∀ {H' : Hp} {v' : V}, H' d' = some (.dT (putK kvs' (kx X (X + y)) v')) → Good H' sm X (X + y) v' → (∀ b xs, H3 b = some (.tup xs) → H' b = some (.tup xs)) → Kin kvs X (X + y) →
          (putK kvs' (kx X (X + y)) v').length ≤ i + 1 ∧ (∀ x z v, valV (putK kvs' (kx X (X + y)) v') (kx x z) = some v → (∃ j : Nat, j < i + 1 ∧ x = b + (j : Int) * y ∧ z = b + (j : Int) * y + y) ∧ Good H' sm x z v) ∧
          ∀ j : Nat, j < i + 1 → (has (putK kvs' (kx X (X + y)) v') (b + (j : Int) * y) (b + (j : Int) * y + y) = true ↔ Kin kvs (b + (j : Int) * y) (b + (j : Int) * y + y)) := fun {H' v'} _ hv ht hk => by
        refine ⟨by have := length_putK kvs' (kx X (X + y)) v'; omega, fun x z v h => ?_, fun j hj => ?_⟩
        · rw [valV_put] at h
          split at h
          · rename_i e
            obtain ⟨rfl, rfl⟩ := kx_inj e
            cases h
            exact ⟨⟨i, by omega, hX.symm, by rw [hX]⟩, hv⟩
          · obtain ⟨⟨j, hj, e1, e2⟩, g⟩ := hG3 _ _ _ h
            exact ⟨⟨j, by omega, e1, e2⟩, g.tups ht⟩
        · rw [has_put]
          by_cases e : j = i
          · subst e
            rw [hX]
            simp [hk]
          · have hne : ¬ (b + (j : Int) * y = X ∧ b + (j : Int) * y + y = X + y) := fun z => by
              have h1 : (j : Int) * y = (i : Int) * y := by omega
              have := Int.eq_of_mul_eq_mul_right (by omega) h1
              omega
            rw [decide_eq_false hne, Bool.false_or]
            exact hI3 j (by omega)
      have hskip : ∀ {H' : Hp}, (∀ b xs, H3 b = some (.tup xs) → H' b = some (.tup xs)) → ¬ Kin kvs X (X + y) →
          kvs'.length ≤ i + 1 ∧ (∀ x z v, valV kvs' (kx x z) = some v → (∃ j : Nat, j < i + 1 ∧ x = b + (j : Int) * y ∧ z = b + (j : Int) * y + y) ∧ Good H' sm x z v) ∧
          ∀ j : Nat, j < i + 1 → (has kvs' (b + (j : Int) * y) (b + (j : Int) * y + y) = true ↔ Kin kvs (b + (j : Int) * y) (b + (j : Int) * y + y)) := fun {H'} ht hk => by
        refine ⟨by omega, fun x z v h => ?_, fun j hj => ?_⟩
        · obtain ⟨⟨j, hj, e1, e2⟩, g⟩ := hG3 _ _ _ h
          exact ⟨⟨j, by omega, e1, e2⟩, g.tups ht⟩
        · by_cases e : j = i
          · subst e
            rw [hX]
            refine ⟨fun h => ?_, fun h => absurd h hk⟩
            unfold has at h
            obtain ⟨v, hv⟩ := Option.isSome_iff_exists.mp h
            obtain ⟨⟨j', hj', e1, _⟩, _⟩ := hG3 _ _ _ hv
            have h1 : (j : Int) * y = (j' : Int) * y := by omega
            have := Int.eq_of_mul_eq_mul_right (by omega) h1
            omega
          · exact hI3 j (by omega)
      have g2 : (2 : Nat) ≤ sizeLine := by decide
      have hM : X ≤ (X + (X + y)) / 2 ∧ (X + (X + y)) / 2 ≤ X + y := by omega
      walk_at "w"
      refine rd_new g2 fun u4 H4 n4 f4 S4 => ?_
      walk_at "w"
      refine rd_inDT (k := kx X (X + y)) (S4 _ _ hd3) f4 ?_
      cases hk : valV kvs (kx X (X + y)) with
      | some v =>
        walk_at "w"
        refine iteT ?_
        walk_at "w"
        refine rd_new g2 fun u5 H5 n5 f5 S5 => ?_
        have hd5 := S5 _ _ (S4 _ _ hd3)
        walk_at "w"
        refine ⟨d, v, rfl, by rw [← hk]; exact DGet.t (k := kx X (X + y)) hd5 f5, ?_⟩
        walk_at "w"
        refine rd_new g2 fun u6 H6 n6 f6 S6 => ?_
        have S36 := (S4.trans S5).trans S6
        have f36 := S36 _ _ f3
        walk_at "w"
        refine rd_dputT (k := kx X (X + y)) f36 f6 hz fun H7 f7 K7 => ?_
        have nt7 : ∀ b xs, H3 b = some (.tup xs) → H7 b = some (.tup xs) := fun b xs e => K7 _ _ (S36 _ _ e) (ntd f3 e)
        walk_at "w"
        exact ⟨⟨_, _, _, rfl⟩, (K3.then S36).trans K7, _, f7, hold f7 ((hg _ _ _ hk).tups fun b xs e => nt7 _ _ (nt03 _ _ e)) nt7 (.inl (has_some hk))⟩
      | none =>
        walk_at "w"
        refine iteF ?_
        walk_at "w"
        refine rd_new g2 fun u5 H5 n5 f5 S5 => ?_
        have hd5 := S5 _ _ (S4 _ _ hd3)
        walk_at "w"
        refine rd_inDT (k := kx X ((X + (X + y)) / 2)) hd5 f5 ?_
        cases hk1 : valV kvs (kx X ((X + (X + y)) / 2)) with
        | none =>
          have S35 := S4.trans S5
          walk_at "w"
          refine iteF ?_
          walk_at "w"
          exact ⟨⟨_, _, _, rfl⟩, K3.then S35, _, S35 _ _ f3, hskip (fun b xs e => S35 _ _ e) fun z => by
            rcases z with z | z
            · rw [has_none hk] at z; cases z
            · rw [has_none hk1] at z; cases z.1⟩
        | some v1 =>
          walk_at "w"
          refine iteT ?_
          walk_at "w"
          refine rd_new g2 fun u6 H6 n6 f6 S6 => ?_
          have hd6 := S6 _ _ hd5
          have S36 := (S4.trans S5).trans S6
          walk_at "w"
          refine rd_inDT (k := kx ((X + (X + y)) / 2) (X + y)) hd6 f6 ?_
          cases hk2 : valV kvs (kx ((X + (X + y)) / 2) (X + y)) with
          | none =>
            walk_at "w"
            refine iteF ?_
            walk_at "w"
            exact ⟨⟨_, _, _, rfl⟩, K3.then S36, _, S36 _ _ f3, hskip (fun b xs e => S36 _ _ e) fun z => by
              rcases z with z | z
              · rw [has_none hk] at z; cases z
              · rw [has_none hk2] at z; cases z.2⟩
          | some v2 =>
            walk_at "w"
            refine iteT ?_
            walk_at "w"
            refine rd_new g2 fun u7 H7 n7 f7 S7 => ?_
            have hd7 := S7 _ _ hd6
            walk_at "w"
            refine ⟨d, v1, rfl, by rw [← hk1]; exact DGet.t (k := kx X ((X + (X + y)) / 2)) hd7 f7, ?_⟩
            walk_at "w"
            refine rd_new g2 fun u8 H8 n8 f8 S8 => ?_
            have hd8 := S8 _ _ hd7
            have S38 := (S36.trans S7).trans S8
            walk_at "w"
            refine ⟨d, v2, rfl, by rw [← hk2]; exact DGet.t (k := kx ((X + (X + y)) / 2) (X + y)) hd8 f8, ?_⟩
            obtain ⟨o1, i1, i2⟩ := (hg _ _ _ hk1).tups (H' := H8) fun b xs e => S38 _ _ (nt03 _ _ e)
            obtain ⟨o2, j1, j2⟩ := (hg _ _ _ hk2).tups (H' := H8) fun b xs e => S38 _ _ (nt03 _ _ e)
            walk_at "w"
            refine ⟨v1, v2, o1, o2, _, _, rfl, i1, i2, j1, j2, inCol_lt, fun v9 o9 H9 h9 g9 S9 => ?_⟩
            walk_at "w"
            refine rd_new g2 fun u10 H10 n10 f10 S10 => ?_
            have S310 := (S38.trans S9).trans S10
            have f310 := S310 _ _ f3
            walk_at "w"
            refine rd_dputT (k := kx X (X + y)) f310 f10 hz fun H11 f11 K11 => ?_
            have nt11 : ∀ b xs, H10 b = some (.tup xs) → H11 b = some (.tup xs) := fun b xs e => K11 _ _ e (ntd f310 e)
            walk_at "w"
            exact ⟨⟨_, _, _, rfl⟩, (K3.then S310).trans K11, _, f11, hold f11 ⟨o9, (h9.tups fun b xs e => S10 _ _ e).tups nt11, g9.congr fun r => inCol_join hM.1 hM.2 r⟩ (fun b xs e => nt11 _ _ (S310 _ _ e)) (.inr ⟨has_some hk1, has_some hk2⟩)⟩
    · rintro σ H3 ⟨⟨v3, v4, v5, rfl⟩, K3, kvs', f3, hl3, hG3, hI3⟩
      rw [hul] at hl3 hG3 hI3
      walk_at "w"
      refine k d' kvs' H3 n1 f3 hl3 (fun x z v h => ?_) (fun x z h => ?_) fun b o e => K3 _ _ (S02 _ _ e) (ne_of_none e n1)
      · obtain ⟨⟨j, hj, e1, e2⟩, g⟩ := hG3 _ _ _ h
        exact ⟨⟨j, by omega, by omega, e1, e2⟩, g⟩
      · obtain ⟨j, h0, h1, rfl, rfl⟩ := h
        have := hI3 j.toNat (by omega)
        rwa [Int.toNat_of_nonneg h0] at this
end
def vfl (s q d : Addr) (n e : Int) : List (Str × V) := [("source", V.ref s), ("window", V.ref q), ("asked", V.int n), ("known", V.ref d), ("seen", V.int e)]
section
variable {s q d q' d' : Addr} {n e n' e' : Int}
theorem vn1 : (("window" : Str) == "source") = false := by decide +kernel
theorem vn2 : (("asked" : Str) == "source") = false := by decide +kernel
theorem vn3 : (("asked" : Str) == "window") = false := by decide +kernel
theorem vn4 : (("known" : Str) == "source") = false := by decide +kernel
theorem vn5 : (("known" : Str) == "window") = false := by decide +kernel
theorem vn6 : (("known" : Str) == "asked") = false := by decide +kernel
theorem vn7 : (("seen" : Str) == "source") = false := by decide +kernel
theorem vn8 : (("seen" : Str) == "window") = false := by decide +kernel
theorem vn9 : (("seen" : Str) == "asked") = false := by decide +kernel
theorem vn10 : (("seen" : Str) == "known") = false := by decide +kernel
theorem vfl_source : (vfl s q d n e).lookup ("source" : Str) = some (.ref s) := by
  unfold vfl
  rw [List.lookup_cons, beq_self_eq_true]
theorem vfl_window : (vfl s q d n e).lookup ("window" : Str) = some (.ref q) := by
  unfold vfl
  rw [List.lookup_cons, vn1, List.lookup_cons, beq_self_eq_true]
theorem vfl_asked : (vfl s q d n e).lookup ("asked" : Str) = some (.int n) := by
  unfold vfl
  rw [List.lookup_cons, vn2, List.lookup_cons, vn3, List.lookup_cons, beq_self_eq_true]
theorem vfl_known : (vfl s q d n e).lookup ("known" : Str) = some (.ref d) := by
  unfold vfl
  rw [List.lookup_cons, vn4, List.lookup_cons, vn5, List.lookup_cons, vn6, List.lookup_cons, beq_self_eq_true]
theorem vfl_seen : (vfl s q d n e).lookup ("seen" : Str) = some (.int e) := by
  unfold vfl
  rw [List.lookup_cons, vn7, List.lookup_cons, vn8, List.lookup_cons, vn9, List.lookup_cons, vn10, List.lookup_cons, beq_self_eq_true]
theorem vfl_no {m : Str} (h1 : (m == ("source" : Str)) = false) (h2 : (m == ("window" : Str)) = false) (h3 : (m == ("asked" : Str)) = false) (h4 : (m == ("known" : Str)) = false) (h5 : (m == ("seen" : Str)) = false) : (vfl s q d n e).lookup m = none := by
  unfold vfl
  rw [List.lookup_cons, h1, List.lookup_cons, h2, List.lookup_cons, h3, List.lookup_cons, h4, List.lookup_cons, h5]
  rfl
theorem putF_hit (f : Str) (v u : V) (r : List (Str × V)) : putF f v ((f, u) :: r) = (f, v) :: r := by
  show (if f = f then _ else _) = _
  rw [if_pos rfl]
theorem putF_miss {f g : Str} (h : (f == g) = false) (v u : V) (r : List (Str × V)) : putF f v ((g, u) :: r) = (g, u) :: putF f v r := by
  show (if g = f then _ else _) = _
  rw [if_neg (fun z => by rw [z, beq_self_eq_true] at h; cases h)]
theorem putF_nil (f : Str) (v : V) : putF f v [] = [(f, v)] := rfl
theorem vfl_pwin : putF "window" (.ref q') (vfl s q d n e) = vfl s q' d n e := by
  unfold vfl
  rw [putF_miss vn1, putF_hit]
theorem vfl_pask : putF "asked" (.int n') (vfl s q d n e) = vfl s q d n' e := by
  unfold vfl
  rw [putF_miss vn2, putF_miss vn3, putF_hit]
theorem vfl_pkno : putF "known" (.ref d') (vfl s q d n e) = vfl s q d' n e := by
  unfold vfl
  rw [putF_miss vn4, putF_miss vn5, putF_miss vn6, putF_hit]
theorem vfl_psee : putF "seen" (.int e') (vfl s q d n e) = vfl s q d n e' := by
  unfold vfl
  rw [putF_miss vn7, putF_miss vn8, putF_miss vn9, putF_miss vn10, putF_hit]
theorem vfl_new : putF "seen" (.int e) (putF "known" (.ref d) (putF "asked" (.int n) (putF "window" (.ref q) (putF "source" (.ref s) [])))) = vfl s q d n e := by
  unfold vfl
  rw [putF_nil, putF_miss vn1, putF_nil, putF_miss vn2, putF_miss vn3, putF_nil, putF_miss vn4, putF_miss vn5, putF_miss vn6, putF_nil, putF_miss vn7, putF_miss vn8, putF_miss vn9, putF_miss vn10, putF_nil]
end
def KnOk (H : Hp) (kvs : List (List Key × V)) (sm : List (Int × Int)) (b y m : Int) (bad : List Int) : Prop :=
  ∀ x z u, valV kvs (kx x z) = some u → Col b y m x z ∧ ((∃ t ∈ bad, x ≤ t ∧ t < z) ∨ Good H sm x z u)
theorem KnOk.tups {H H' : Hp} {kvs : List (List Key × V)} {sm : List (Int × Int)} {b y m : Int} {bad : List Int} (h : KnOk H kvs sm b y m bad) (t : ∀ b xs, H b = some (.tup xs) → H' b = some (.tup xs)) : KnOk H' kvs sm b y m bad := fun x z u e =>
  ⟨(h x z u e).1, (h x z u e).2.imp id fun g => g.tups t⟩
def ViewAt (a : Ad) (H : Hp) (S : SA) (v d : Addr) (b y m n : Int) (kvs : List (List Key × V)) (e : Nat) (sm : List (Int × Int)) (ts : List Int) : Prop :=
  ∃ dx q, H v = some (.ins a.C_View dx (vfl S.p q d n (e : Int))) ∧ WinT H q b y m ∧ H d = some (.dT kvs) ∧ KnOk H kvs sm b y m (ts.drop e) ∧ v ∉ S.p :: S.own ∧ d ∉ S.p :: S.own
section
variable {a : Ad} {H H' : Hp} {S : SA} {v d : Addr} {b y m n : Int} {kvs : List (List Key × V)} {e : Nat} {sm : List (Int × Int)} {ts : List Int}
theorem ViewAt.frL (h : ViewAt a H S v d b y m n kvs e sm ts) {l : List Addr} (f : FrL l H H') (nv : v ∉ l) (nd : d ∉ l) (nt : ∀ b ∈ l, ∀ xs, H b ≠ some (.tup xs)) : ViewAt a H' S v d b y m n kvs e sm ts := by
  obtain ⟨dx, q, h1, h2, h3, h4, h5⟩ := h
  have kt : ∀ b xs, H b = some (.tup xs) → H' b = some (.tup xs) := fun b xs e => f _ _ e fun z => nt b z xs e
  exact ⟨dx, q, f _ _ h1 nv, ⟨kt _ _ h2.1, h2.2⟩, f _ _ h3 nd, h4.tups kt, h5⟩
theorem ViewAt.same (h : ViewAt a H S v d b y m n kvs e sm ts) (s : Same H H') : ViewAt a H' S v d b y m n kvs e sm ts := h.frL (l := []) (FrL.same s) (by simp) (by simp) (by simp)
theorem ViewAt.ne (h : ViewAt a H S v d b y m n kvs e sm ts) : v ≠ d := fun z => by
  obtain ⟨dx, q, h1, h2, h3, _⟩ := h
  rw [z, h3] at h1; cases h1
theorem ViewAt.noTup (h : ViewAt a H S v d b y m n kvs e sm ts) : ∀ b ∈ [v, d], ∀ xs, H b ≠ some (.tup xs) := by
  obtain ⟨dx, q, h1, h2, h3, _⟩ := h
  intro b hb xs e
  simp only [List.mem_cons, List.not_mem_nil, or_false] at hb
  rcases hb with rfl | rfl
  · rw [h1] at e; cases e
  · rw [h3] at e; cases e
end
theorem win_wide {H : Hp} {q : Addr} {b y m : Int} (h : WinT H q b y m) : y ≤ 2199023255552 := by
  obtain ⟨_, hy, h1, h2, hb, he⟩ := h
  have : 0 ≤ (m - 1) * y := Int.mul_nonneg (by omega) (by omega)
  rw [Int.sub_mul, Int.one_mul] at this
  unfold InT at hb he
  omega
theorem cut_from (xs : List V) (e : Nat) : cutV xs (some (e : Int)) none = xs.drop e := by
  unfold cutV
  rw [HT.sIx_nat, HT.sIx_none]
  by_cases h : e ≤ xs.length
  · rw [Nat.min_eq_left h, List.take_of_length_le (by rw [List.length_drop]; exact Nat.le_refl _)]
  · rw [Nat.min_eq_right (by omega), List.drop_length, List.take_nil, List.drop_of_length_le (by omega)]
theorem col_of {b y m x z t : Int} (hy : 0 < y) (h : Col b y m x z) (h1 : x ≤ t) (h2 : t < z) : 0 ≤ (t - b) / y ∧ (t - b) / y < m ∧ x = b + (t - b) / y * y ∧ z = b + (t - b) / y * y + y := by
  obtain ⟨k, k0, k1, rfl, rfl⟩ := h
  have hk : (t - b) / y = k := by
    have hq := Int.mul_ediv_add_emod (t - b) y
    have r0 := Int.emod_nonneg (t - b) (by omega : y ≠ 0)
    have r1 := Int.emod_lt_of_pos (t - b) hy
    generalize (t - b) / y = c at hq
    rw [Int.mul_comm] at hq
    rcases Int.lt_trichotomy c k with h | h | h
    · have := Int.mul_le_mul_of_nonneg_right (show c + 1 ≤ k by omega) (show 0 ≤ y by omega)
      rw [Int.add_mul, Int.one_mul] at this
      omega
    · exact h
    · have := Int.mul_le_mul_of_nonneg_right (show k + 1 ≤ c by omega) (show 0 ≤ y by omega)
      rw [Int.add_mul, Int.one_mul] at this
      omega
  rw [hk]
  exact ⟨k0, k1, rfl, rfl⟩
theorem in_col {b y t : Int} (hy : 0 < y) : b + (t - b) / y * y ≤ t ∧ t < b + (t - b) / y * y + y := by
  have hq := Int.mul_ediv_add_emod (t - b) y
  have r0 := Int.emod_nonneg (t - b) (by omega : y ≠ 0)
  have r1 := Int.emod_lt_of_pos (t - b) hy
  rw [Int.mul_comm] at hq
  omega
theorem has_drop {kvs : List (List Key × V)} {x z x' z' : Int} : has (dropK kvs (kx x z)) x' z' = (!decide (x' = x ∧ z' = z) && has kvs x' z') := by
  unfold has
  rw [valV_drop]
  by_cases e : kx x' z' = kx x z
  · rw [if_pos e, decide_eq_true (kx_inj e)]; rfl
  · rw [if_neg e, decide_eq_false (fun h => e (by rw [h.1, h.2]))]; rfl
def hit (bad : List Int) (x z : Int) : Prop := ∃ t ∈ bad, x ≤ t ∧ t < z
def spForget (a : Ad) : Sp := fun vs H Q _ => ∃ (S : SA) (v d : Addr) (b y m k n : Int) (kvs : List (List Key × V)) (e : Nat) (sm : List (Int × Int)) (c : Nat) (ds : List (Int × Option Int)) (ts : List Int) (ws : List V), vs = [.ref v] ∧ StoreAt a H S n sm c ds ts ws ∧ ViewAt a H S v d b y m k kvs e sm ts ∧ ts.length ≤ 10000 ∧
  ∀ kvs' H', ViewAt a H' S v d b y m k kvs' ts.length sm ts → StoreAt a H' S n sm c ds ts ws → (∀ x z, has kvs' x z = true ↔ has kvs x z = true ∧ ¬ hit (ts.drop e) x z) → kvs'.length ≤ kvs.length → FrL [v, d] H H' → Q .non H'
section
variable {P : Program} {w : World} {K : PySem.W.Frag} {mg : Str → Option Value} {base : Heap} {a : Ad}
local macro_rules | `(tactic| walk_at "rd") => `(tactic| first
  | with_reducible refine rd_fld (by assumption) (‹Txt _ _ _›).c_View (‹Txt _ _ _›).n_View_source vfl_source ?_
  | with_reducible refine rd_fld (by assumption) (‹Txt _ _ _›).c_View (‹Txt _ _ _›).n_View_window vfl_window ?_
  | with_reducible refine rd_fld (by assumption) (‹Txt _ _ _›).c_View (‹Txt _ _ _›).n_View_asked vfl_asked ?_
  | with_reducible refine rd_fld (by assumption) (‹Txt _ _ _›).c_View (‹Txt _ _ _›).n_View_known vfl_known ?_
  | with_reducible refine rd_fld (by assumption) (‹Txt _ _ _›).c_View (‹Txt _ _ _›).n_View_seen vfl_seen ?_
  | with_reducible refine rd_dpopT0 ?_)
theorem sc_View_forget : FnScope ["self", "times", "t", "k"] ["self"] (defScope s_View_forget) := ⟨rfl, rfl, rfl, by decide +kernel, rfl, by decide +kernel, by decide +kernel⟩
theorem ok_View_forget (T : Txt K mg a) : FnOk P w K mg base CX0 3 a.f_View_forget a.d_View_forget ["self"] (spForget a) := by
  refine T.F_View_forget.ok sc_View_forget (fun vs H Q E h => ?_) (fun cdv A outer s H vs Q E hr h => ?_)
  · obtain ⟨S, v, d, b, y, m, k, n, kvs, e, sm, c, ds, ts, ws, rfl, _⟩ := h
    rfl
  · obtain ⟨S, v, d, b, y, m, k, n, kvs, e, sm, c, ds, ts, ws, rfl, hS, hV, hlen, kk⟩ := h
    have hu := hu_of hr
    obtain ⟨dx, q, hv, hW, hd, hk, av, ad⟩ := id hV
    obtain ⟨sx, svs, sp, _⟩ := id hS
    have hy := hW.2.1
    have hy2 := win_wide hW
    have hvd := hV.ne
    refine' ⟨_, QB.h ?pp, ?rr⟩
    case pp =>
     refine' qss_cons ?h547 ?h548
     case h547 =>
      refine' qs_setS (i := 1) sc_View_forget.nd rfl (by walk_at "o") ?h549
      case h549 =>
       refine' qe_meth0 ?h550 T.c_Store T.M_Store_times (ok_Store_times T) (hr.mono (by decide)) T.b_Store_times .nil pass0
       case h550 =>
        exact ke_fld K rfl (qv 0)
     case h548 =>
      refine' qss_cons ?h551 ?h552
      case h551 =>
       refine' qs_for PassesOwn.never rfl ?h553 (qg_name (i := 2) sc_View_forget.nd rfl (by walk_at "o")) ?h554
       case h553 =>
        refine' ki_tup K rfl ?h555
        case h555 =>
         refine' qe_slice (kl_tupU K rfl) (qv 1) ?h556 qo_none
         case h556 =>
          refine' qo_some ?h557
          case h557 =>
           exact ke_fld K rfl (qv 0)
       case h554 =>
        refine' qss_cons ?h558 ?h559
        case h558 =>
         refine' qs_setS (i := 3) sc_View_forget.nd rfl (by walk_at "o") ?h560
         case h560 =>
          refine' qe_callS (ok_column_of T) (hr.mono (by decide)) rfl T.m_column_of T.F_column_of.kp T.b_column_of .nil pass0 ?h561
          case h561 =>
           refine' qa_c ?h562 ?h563
           case h562 =>
            exact ke_fld K rfl (qv 0)
           case h563 =>
            exact qa_c (qv 2) qa_nil
        case h559 =>
         refine' qss_one ?h564
         case h564 =>
          refine' qs_if ?h565 ?h566 qss_nil
          case h565 =>
           exact qt_cmpR (oq_notN) (qv 3) qe_non (nomark _)
          case h566 =>
           refine' qss_one ?h567
           case h567 =>
            refine' qs_exprS ?h568
            case h568 =>
             refine' qe_dpopT hu ?h569 ?h570 qe_non
             case h569 =>
              exact ke_fld K rfl (qv 0)
             case h570 =>
              refine' qe_callS (ok_times_of T) hr rfl T.m_times_of T.F_times_of.kp T.b_times_of .nil pass0 ?h571
              case h571 =>
               refine' qa_c ?h572 ?h573
               case h572 =>
                exact ke_fld K rfl (qv 0)
               case h573 =>
                exact qa_c (qv 3) qa_nil
      case h552 =>
       refine' qss_one ?h574
       case h574 =>
        refine' ks_fld K rfl (qv 0) ?h575
        case h575 =>
         refine' qe_callBS (kc_len K rfl) rfl T.z_len bt_len ?h576
         case h576 =>
          exact qa_c (qv 1) qa_nil
    case rr =>
    walk_at "s"
    walk_at "w"
    refine rd_methO sp (sfl_no (by decide +kernel) (by decide +kernel) (by decide +kernel) (by decide +kernel)) ?_
    refine ⟨S, n, sm, c, ds, ts, ws, rfl, hS, fun u H1 f1 S1 => ?_⟩
    have hv1 := S1 _ _ hv
    walk_at "w"
    refine rd_slH f1 fun u2 H2 f2 S2 => ?_
    rw [cut_from, ← List.map_drop] at f2
    have S02 := S1.trans S2
    have hv2 := S02 _ _ hv
    have f12 := S2 _ _ f1
    have hW2 : WinT H2 q b y m := ⟨S02 _ _ hW.1, hW.2⟩
    have ntd : ∀ {e : Addr} {xs : List V}, H2 e = some (.tup xs) → e ≠ d := fun g z => by rw [z, S02 _ _ hd] at g; cases g
    walk_at "w"
    refine rd_forT (xs := (ts.drop e).map V.int) (fun i σ H' => (∃ v2 v3, σ = [some (.ref v), some (.ref u), v2, v3]) ∧ Kp d H2 H' ∧ ∃ kvs', H' d = some (.dT kvs') ∧ kvs'.length ≤ kvs.length ∧ (∀ x z w, valV kvs' (kx x z) = some w → valV kvs (kx x z) = some w) ∧ ∀ x z, has kvs' x z = true ↔ has kvs x z = true ∧ ¬ hit ((ts.drop e).take i) x z) ?_ ?_ ?_ ?_
    · exact ⟨⟨_, _, rfl⟩, fun _ _ e _ => e, kvs, S02 _ _ hd, Nat.le_refl _, fun _ _ _ h => h, fun x z => ⟨fun h => ⟨h, fun ⟨t, ht, _⟩ => by rw [List.take_zero] at ht; cases ht⟩, fun h => h.1⟩⟩
    · rintro i σ H3 _ ⟨_, K3, _⟩
      exact SqT.of (K3 _ _ f2 (ntd f2))
    · rintro i x σ H3 hx ⟨⟨v2, v3, rfl⟩, K3, kvs', f3, hl3, hs3, hh3⟩
      rw [List.getElem?_map] at hx
      obtain ⟨t, ht, rfl⟩ := Option.map_eq_some_iff.mp hx
      have hv3 := K3 _ _ hv2 hvd
      have hW3 := K3 _ _ hW2.1 (ntd hW2.1)
      have htk : ∀ x z, hit ((ts.drop e).take (i + 1)) x z ↔ hit ((ts.drop e).take i) x z ∨ (x ≤ t ∧ t < z) := fun x z => by
        unfold hit
        rw [List.take_succ, ht]
        constructor
        · rintro ⟨t', h1, h2⟩
          rcases List.mem_append.mp h1 with h1 | h1
          · exact .inl ⟨t', h1, h2⟩
          · obtain rfl : t' = t := by simpa using h1
            exact .inr h2
        · rintro (⟨t', h1, h2⟩ | h)
          · exact ⟨t', List.mem_append_left _ h1, h2⟩
          · exact ⟨t, List.mem_append_right _ (by simp), h⟩
      walk_at "w"
      refine ⟨q, b, y, m, t, rfl, hW3, hy, by omega, ?_⟩
      walk_at "w"
      unfold colV
      by_cases hc : 0 ≤ (t - b) / y ∧ (t - b) / y < m
      · rw [if_pos hc]
        walk_at "w"
        refine iteND (fun _ => ?_) (fun h => by cases h)
        walk_at "w"
        refine rd_dpopTm f3 ?_
        walk_at "w"
        refine ⟨q, b, y, m, _, rfl, hW3, hc.1, hc.2, by have := hW.2.2.2.1; omega, fun u4 H4 n4 f4 S4 => ?_⟩
        walk_at "w"
        refine rd_dpopT (k := kx (b + (t - b) / y * y) (b + (t - b) / y * y + y)) (S4 _ _ f3) f4 fun w5 H5 f5 K5 => ?_
        walk_at "w"
        refine ⟨⟨_, _, rfl⟩, (K3.then S4).trans K5, _, f5, Nat.le_trans (List.length_filter_le _ _) hl3, fun x z w h => ?_, fun x z => ?_⟩
        · rw [valV_drop] at h
          split at h
          · cases h
          · exact hs3 _ _ _ h
        · rw [has_drop, htk, Bool.and_eq_true, hh3]
          have hin := in_col (b := b) (t := t) hy
          constructor
          · rintro ⟨h1, h2, h3⟩
            refine ⟨h2, fun h => ?_⟩
            rcases h with h | h
            · exact h3 h
            · obtain ⟨w, hw⟩ := Option.isSome_iff_exists.mp h2
              obtain ⟨_, _, e1, e2⟩ := col_of hy (hk _ _ _ hw).1 h.1 h.2
              rw [decide_eq_true ⟨e1, e2⟩] at h1
              cases h1
          · rintro ⟨h1, h2⟩
            refine ⟨?_, h1, fun h => h2 (.inl h)⟩
            rw [decide_eq_false (fun h => h2 (.inr (by rw [h.1, h.2]; exact hin)))]
            rfl
      · rw [if_neg hc]
        walk_at "w"
        refine iteND (fun h => absurd rfl h) (fun _ => ?_)
        walk_at "w"
        refine ⟨⟨_, _, rfl⟩, K3, _, f3, hl3, hs3, fun x z => ?_⟩
        rw [htk, hh3]
        refine and_congr_right fun h1 => not_congr ⟨.inl, fun h => ?_⟩
        rcases h with h | h
        · exact h
        · obtain ⟨w, hw⟩ := Option.isSome_iff_exists.mp h1
          obtain ⟨e1, e2, _⟩ := col_of hy (hk _ _ _ hw).1 h.1 h.2
          exact absurd ⟨e1, e2⟩ hc
    · rintro σ H3 ⟨⟨v2, v3, rfl⟩, K3, kvs', f3, hl3, hs3, hh3⟩
      rw [List.length_map, List.take_length] at hh3
      have hv3 := K3 _ _ hv2 hvd
      have f13 := K3 _ _ f12 (ntd f12)
      walk_at "w"
      refine rd_setF hv3 T.c_View T.n_View_seen (by show 5 < 1000; decide) fun H4 f4 K4 => ?_
      rw [vfl_psee, List.length_map] at f4
      have F02 : FrL [v, d] H H4 := ((FrL.same S02).trans (FrL.kp K3 (by simp))).trans (FrL.kp K4 (by simp))
      have kt : ∀ b xs, H b = some (.tup xs) → H4 b = some (.tup xs) := fun b xs e => F02 _ _ e fun z => hV.noTup b z xs e
      have hF : ∀ x z u, valV kvs' (kx x z) = some u → Col b y m x z ∧ Good H sm x z u := fun x z u h => by
        obtain ⟨h1, h2⟩ := hk _ _ _ (hs3 _ _ _ h)
        refine ⟨h1, h2.resolve_left fun hh => ?_⟩
        exact ((hh3 x z).mp (has_some h)).2 hh
      walk_at "w"
      refine kk kvs' H4 ⟨dx, q, f4, ⟨kt _ _ hW.1, hW.2⟩, K4 _ _ f3 (Ne.symm hvd), fun x z u h => ⟨(hF x z u h).1, .inr ((hF x z u h).2.tups kt)⟩, av, ad⟩ (hS.frL F02 (fun b hb => ?_) hV.noTup) hh3 hl3 F02
      simp only [List.mem_cons, List.not_mem_nil, or_false] at hb
      rcases hb with rfl | rfl
      · exact av
      · exact ad
end
def miss (kvs : List (List Key × V)) (b y : Int) (N : Nat) : Nat := ((colsL b y N).filter fun p => !has kvs p.1 p.2).length
theorem miss_succ (kvs : List (List Key × V)) (b y : Int) (i : Nat) : miss kvs b y (i + 1) = miss kvs b y i + if has kvs (b + (i : Int) * y) (b + (i : Int) * y + y) = true then 0 else 1 := by
  unfold miss
  rw [colsL_succ, List.filter_append, List.length_append]
  congr 1
  cases hh : has kvs (b + (i : Int) * y) (b + (i : Int) * y + y) with
  | true => rw [List.filter_cons_of_neg (by simp [hh])]; rfl
  | false => rw [List.filter_cons_of_pos (by simp [hh])]; rfl
def spVFours (a : Ad) : Sp := fun vs H Q _ => ∃ (S : SA) (v d : Addr) (b y m k n : Int) (kvs : List (List Key × V)) (e : Nat) (sm : List (Int × Int)) (c : Nat) (ds : List (Int × Option Int)) (ts : List Int) (ws : List V), vs = [.ref v] ∧ StoreAt a H S n sm c ds ts ws ∧ ViewAt a H S v d b y m k kvs e sm ts ∧ ts.length ≤ 10000 ∧ kvs.length ≤ 100000 ∧
  ∀ (u : Addr) (us : List V) (fs : List (Option (List (Int × Int)))) (kvs1 kvs' : List (List Key × V)) (n' : Int) (H' : Hp), H' u = some (.tup us) → Fours H' us fs → Fours4 sm b y m.toNat fs → (∀ x z, has kvs1 x z = true ↔ has kvs x z = true ∧ ¬ hit (ts.drop e) x z) →
    ViewAt a H' S v d b y m (k + (miss kvs1 b y m.toNat : Int)) kvs' ts.length sm ts → StoreAt a H' S n' sm c ds ts ws → (∀ x z, Col b y m x z → has kvs' x z = true) → kvs'.length ≤ kvs.length + m.toNat → FrL [v, d, S.tr] H H' → Q (.ref u) H'
section
variable {P : Program} {w : World} {K : PySem.W.Frag} {mg : Str → Option Value} {base : Heap} {a : Ad}
local macro_rules | `(tactic| walk_at "rd") => `(tactic| first
  | with_reducible refine rd_fld (by assumption) (‹Txt _ _ _›).c_View (‹Txt _ _ _›).n_View_source vfl_source ?_
  | with_reducible refine rd_fld (by assumption) (‹Txt _ _ _›).c_View (‹Txt _ _ _›).n_View_window vfl_window ?_
  | with_reducible refine rd_fld (by assumption) (‹Txt _ _ _›).c_View (‹Txt _ _ _›).n_View_asked vfl_asked ?_
  | with_reducible refine rd_fld (by assumption) (‹Txt _ _ _›).c_View (‹Txt _ _ _›).n_View_known vfl_known ?_
  | with_reducible refine rd_fld (by assumption) (‹Txt _ _ _›).c_View (‹Txt _ _ _›).n_View_seen vfl_seen ?_)
theorem sc_View_fours : FnScope ["self", "columns", "first", "behind"] ["self"] (defScope s_View_fours) := ⟨rfl, rfl, rfl, by decide +kernel, rfl, by decide +kernel, by decide +kernel⟩
theorem ok_View_fours (T : Txt K mg a) : FnOk P w K mg base CX0 7 a.f_View_fours a.d_View_fours ["self"] (spVFours a) := by
  refine T.F_View_fours.ok sc_View_fours (fun vs H Q E h => ?_) (fun cdv A outer s H vs Q E hr h => ?_)
  · obtain ⟨S, v, d, b, y, m, k, n, kvs, e, sm, c, ds, ts, ws, rfl, _⟩ := h
    rfl
  · obtain ⟨S, v, d, b, y, m, k, n, kvs, e, sm, c, ds, ts, ws, rfl, hS, hV, hlen, hkl, kk⟩ := h
    have hu := hu_of hr
    obtain ⟨dx, q, hv, hW, hd, hk, av, ad⟩ := id hV
    have hvd := hV.ne
    have tro : S.tr ∈ S.p :: S.own := by simp [SA.own]
    have hvt : v ≠ S.tr := fun z => av (z ▸ tro)
    have hdt : d ≠ S.tr := fun z => ad (z ▸ tro)
    have apart : ∀ b ∈ [v, d], b ∉ S.p :: S.own := fun b hb => by
      simp only [List.mem_cons, List.not_mem_nil, or_false] at hb
      rcases hb with rfl | rfl
      · exact av
      · exact ad
    refine' ⟨_, QB.h ?pp, ?rr⟩
    case pp =>
     refine' qss_cons ?h577 ?h578
     case h577 =>
      refine' qs_exprS ?h579
      case h579 =>
       exact qe_meth0 (qv 0) T.c_View T.M_View_forget (ok_View_forget T) (hr.mono (by decide)) T.b_View_forget .nil pass0
     case h578 =>
      refine' qss_cons ?h580 ?h581
      case h580 =>
       refine' qs_setS (i := 1) sc_View_fours.nd rfl (by walk_at "o") ?h582
       case h582 =>
        refine' qe_callS (ok_columns_of T) (hr.mono (by decide)) rfl T.m_columns_of T.F_columns_of.kp T.b_columns_of .nil pass0 ?h583
        case h583 =>
         refine' qa_c ?h584 qa_nil
         case h584 =>
          exact ke_fld K rfl (qv 0)
      case h581 =>
       refine' qss_cons ?h585 ?h586
       case h585 =>
        refine' qs_for PassesOwn.never rfl ?h587 ?h588 ?h589
        case h587 =>
         exact ki_list K rfl (qv 1)
        case h588 =>
         refine' kg_tup (n := 2) K rfl rfl ?h590
         case h590 =>
          refine' qgs_cons (qg_name (i := 2) sc_View_fours.nd rfl (by walk_at "o")) ?h591
          case h591 =>
           exact qgs_cons (qg_name (i := 3) sc_View_fours.nd rfl (by walk_at "o")) qgs_nil
        case h589 =>
         refine' qss_one ?h592
         case h592 =>
          refine' qs_if ?h593 ?h594 qss_nil
          case h593 =>
           refine' qt_cmpR (op_notInDk hu) ?h595 ?h596 (by with_unfolding_all rfl)
           case h595 =>
            refine' qe_tup ?h597
            case h597 =>
             refine' qa_c (qv 2) ?h598
             case h598 =>
              exact qa_c (qv 3) qa_nil
           case h596 =>
            exact ke_fld K rfl (qv 0)
          case h594 =>
           refine' qss_cons ?h599 ?h600
           case h599 =>
            refine' qs_dput hu ?h601 ?h602 ?h603
            case h601 =>
             refine' qe_meth ?h604 T.c_Store T.M_Store_four (ok_Store_four T) hr T.b_Store_four .nil pass0 ?h605
             case h604 =>
              exact ke_fld K rfl (qv 0)
             case h605 =>
              refine' qa_c (qv 2) ?h606
              case h606 =>
               exact qa_c (qv 3) qa_nil
            case h602 =>
             exact ke_fld K rfl (qv 0)
            case h603 =>
             refine' qe_tup ?h607
             case h607 =>
              refine' qa_c (qv 2) ?h608
              case h608 =>
               exact qa_c (qv 3) qa_nil
           case h600 =>
            refine' qss_one ?h609
            case h609 =>
             exact ks_fldadd K rfl (qv 0) qe_int
       case h586 =>
        refine' qss_one ?h610
        case h610 =>
         refine' qs_ret ?h611
         case h611 =>
          refine' qe_callTyS (kc_tuple K rfl) rfl T.z_tuple bt_tuple ?h612
          case h612 =>
           refine' qa_c ?h613 qa_nil
           case h613 =>
            refine' qe_comp (N := ["self", "columns", "first", "behind"]) (sc := defScope s_View_fours) (own := ["times"]) (caps := ["self"]) (ks := [0]) rfl rfl rfl ⟨rfl, by decide +kernel, by decide +kernel, by decide +kernel, by decide +kernel, rfl, by decide +kernel⟩ ?h614 ?h615 ?h616 ?h617
            case h614 =>
             exact ki_list K rfl (qv 1)
            case h615 =>
             intro _ _ _ _ _
             exact qg_name (i := 0) (show List.Nodup (α := Str) ["times", "self"] from by decide +kernel) rfl (by walk_at "o") (.inr rfl)
            case h616 =>
             intro _ _ _ _ _
             exact qifs_nil
            case h617 =>
             intro _ _ _ _ _
             refine' qe_dget hu ?h618 (qv 0)
             case h618 =>
              exact ke_fld K rfl (qv 1)
    case rr =>
    walk_at "s"
    walk_at "w"
    refine rd_methO hv (vfl_no (by decide +kernel) (by decide +kernel) (by decide +kernel) (by decide +kernel) (by decide +kernel)) ?_
    refine ⟨S, v, d, b, y, m, k, n, kvs, e, sm, c, ds, ts, ws, rfl, hS, hV, hlen, fun kvs1 H1 hV1 hS1 hh1 hl1 F1 => ?_⟩
    obtain ⟨dx1, q1, hv1, hW1, hd1, hk1, _⟩ := id hV1
    obtain ⟨hq1, hy, hm1, hm2, hb, he⟩ := id hW1
    walk_at "w"
    refine ⟨q1, b, y, m, rfl, hq1, hm1, by omega, fun l us0 H2 n2 f2 hP2 S2 => ?_⟩
    have hul : us0.length = m.toNat := by rw [hP2.length, colsL_len]
    have lne : l ∉ [v, d, S.tr] := fun z => by
      simp only [List.mem_cons, List.not_mem_nil, or_false] at z
      obtain ⟨o, ho⟩ := hS1.live _ tro
      rcases z with rfl | rfl | rfl
      · rw [hv1] at n2; cases n2
      · rw [hd1] at n2; cases n2
      · rw [ho] at n2; cases n2
    have hV2 := hV1.same S2
    have hS2 := hS1.same S2
    have nt2 : ∀ b ∈ [v, d, S.tr], ∀ xs, H2 b ≠ some (.tup xs) := fun b hb xs => by
      simp only [List.mem_cons, List.not_mem_nil, or_false] at hb
      rcases hb with rfl | rfl | rfl
      · exact hV2.noTup _ (by simp) xs
      · exact hV2.noTup _ (by simp) xs
      · exact hS2.noTup _ (by simp [SA.own]) xs
    walk_at "w"
    refine rd_forL (xs := us0) (fun i σ H' => (∃ v2 v3, σ = [some (.ref v), some (.ref l), v2, v3]) ∧ FrL [v, d, S.tr] H2 H' ∧ ∃ kvs' n', ViewAt a H' S v d b y m (k + (miss kvs1 b y i : Int)) kvs' ts.length sm ts ∧ StoreAt a H' S n' sm c ds ts ws ∧ kvs'.length ≤ kvs1.length + i ∧
      ∀ x z, has kvs' x z = true ↔ has kvs1 x z = true ∨ ∃ j : Nat, j < i ∧ x = b + (j : Int) * y ∧ z = b + (j : Int) * y + y) ?_ ?_ ?_ ?_
    · refine ⟨⟨_, _, rfl⟩, fun _ _ e _ => e, kvs1, n, ?_, hS2, Nat.le_refl _, fun x z => ⟨.inl, fun h => h.resolve_right fun ⟨j, hj, _⟩ => by omega⟩⟩
      rw [show miss kvs1 b y 0 = 0 from rfl]
      simpa using hV2
    · rintro i σ H3 _ ⟨_, F3, _⟩
      exact SqL.of (F3 _ _ f2 lne)
    · rintro i x σ H3 hx ⟨⟨v2, v3, rfl⟩, F3, kvs', n3, hV3, hS3, hl3, hh3⟩
      obtain ⟨cc, pq, rfl, hpq, hc⟩ := hP2.at hx
      have hil : i < m.toNat := by rw [← hul]; exact (List.getElem?_eq_some_iff.mp hx).1
      obtain rfl := colsL_at hpq
      have hc3 := F3 _ _ hc fun z => nt2 _ z _ hc
      obtain ⟨w1, w2⟩ := hW1.col (k := (i : Int)) (by omega) (by omega)
      obtain ⟨dx3, q3, hv3, hW3, hd3, hk3, _⟩ := id hV3
      have hms := miss_succ kvs1 b y i
      have hnj : ∀ j : Nat, j < i → ¬ (b + (i : Int) * y = b + (j : Int) * y ∧ b + (i : Int) * y + y = b + (j : Int) * y + y) := fun j hj z => by
        have h1 : (i : Int) * y = (j : Int) * y := by omega
        have := Int.eq_of_mul_eq_mul_right (by omega) h1
        omega
      have hcol : Col b y m (b + (i : Int) * y) (b + (i : Int) * y + y) := ⟨i, by omega, by omega, rfl, rfl⟩
      have hsucc : ∀ x z, (∃ j : Nat, j < i + 1 ∧ x = b + (j : Int) * y ∧ z = b + (j : Int) * y + y) ↔ (∃ j : Nat, j < i ∧ x = b + (j : Int) * y ∧ z = b + (j : Int) * y + y) ∨ (x = b + (i : Int) * y ∧ z = b + (i : Int) * y + y) := fun x z => by
        constructor
        · rintro ⟨j, hj, e1, e2⟩
          by_cases ej : j = i
          · subst ej; exact .inr ⟨e1, e2⟩
          · exact .inl ⟨j, by omega, e1, e2⟩
        · rintro (⟨j, hj, e⟩ | e)
          · exact ⟨j, by omega, e⟩
          · exact ⟨i, by omega, e⟩
      generalize b + (i : Int) * y = X at *
      have g2 : (2 : Nat) ≤ sizeLine := by decide
      walk_at "w"
      refine rd_new g2 fun u4 H4 n4 f4 S4 => ?_
      have hv4 := S4 _ _ hv3
      have hd4 := S4 _ _ hd3
      walk_at "w"
      refine rd_notInDT (k := kx X (X + y)) hd4 f4 ?_
      cases hkx : valV kvs' (kx X (X + y)) with
      | some w =>
        walk_at "w"
        refine iteF ?_
        walk_at "w"
        have hh : has kvs1 X (X + y) = true := ((hh3 _ _).mp (has_some hkx)).resolve_right fun ⟨j, hj, e⟩ => hnj j hj e
        rw [if_pos hh] at hms
        refine ⟨⟨_, _, rfl⟩, F3.trans (FrL.same S4), kvs', n3, ?_, hS3.same S4, by omega, fun x z => ?_⟩
        · rw [hms]; exact hV3.same S4
        · rw [hh3, hsucc]
          constructor
          · rintro (h | h)
            · exact .inl h
            · exact .inr (.inl h)
          · rintro (h | h | ⟨rfl, rfl⟩)
            · exact .inl h
            · exact .inr h
            · exact .inl hh
      | none =>
        obtain ⟨sx, svs, sp, _⟩ := id (hS3.same S4)
        walk_at "w"
        refine iteT ?_
        walk_at "w"
        refine rd_methO sp (sfl_no (by decide +kernel) (by decide +kernel) (by decide +kernel) (by decide +kernel)) ?_
        walk_at "w"
        refine ⟨S, n3, _, _, sm, c, ds, ts, ws, rfl, hS3.same S4, w1, w2, fun v5 o5 n5 H5 h5 g5 hS5 K5 => ?_⟩
        have hv5 := K5 _ _ hv4 hvt
        have hd5 := K5 _ _ hd4 hdt
        walk_at "w"
        refine rd_new g2 fun u6 H6 n6 f6 S6 => ?_
        have hd6 := S6 _ _ hd5
        have hv6 := S6 _ _ hv5
        walk_at "w"
        refine rd_dputT (k := kx X (X + y)) hd6 f6 (by show _ < 2 ^ 24; omega) fun H7 f7 K7 => ?_
        have hv7 := K7 _ _ hv6 hvd
        walk_at "w"
        refine rd_fldaugA hv7 T.c_View T.n_View_asked vfl_asked ?_
        walk_at "w"
        refine ⟨_, _, rfl, rfl, dx3, _, hv7, by show 5 < 1000; decide, ?_⟩
        rw [vfl_pask]
        have hh : ¬ has kvs1 X (X + y) = true := fun h => by
          have := (hh3 X (X + y)).mpr (.inl h)
          rw [has_none hkx] at this; cases this
        rw [if_neg hh] at hms
        have f8 : (upd H7 v (.ins a.C_View dx3 (vfl S.p q3 d (k + (miss kvs1 b y i : Int) + 1) (ts.length : Int)))) v = some (.ins a.C_View dx3 (vfl S.p q3 d (k + (miss kvs1 b y i : Int) + 1) (ts.length : Int))) := upd_same
        have K8 : Kp v H7 (upd H7 v (.ins a.C_View dx3 (vfl S.p q3 d (k + (miss kvs1 b y i : Int) + 1) (ts.length : Int)))) := Kp.upd
        generalize upd H7 v (.ins a.C_View dx3 (vfl S.p q3 d (k + (miss kvs1 b y i : Int) + 1) (ts.length : Int))) = H8 at f8 K8 ⊢
        have F68 : FrL [v, d] H6 H8 := (FrL.kp K7 (by simp)).trans (FrL.kp K8 (by simp))
        have F38 : FrL [v, d, S.tr] H3 H8 := (((FrL.same S4).trans (FrL.kp K5 (by simp))).trans (FrL.same S6)).trans (F68.mono fun b hb => by simp only [List.mem_cons, List.not_mem_nil, or_false] at hb ⊢; rcases hb with h | h <;> simp [h])
        have nt6 : ∀ b ∈ [v, d], ∀ xs, H6 b ≠ some (.tup xs) := fun b hb xs z => by
          simp only [List.mem_cons, List.not_mem_nil, or_false] at hb
          rcases hb with rfl | rfl
          · rw [hv6] at z; cases z
          · rw [hd6] at z; cases z
        have kt6 : ∀ b xs, H6 b = some (.tup xs) → H8 b = some (.tup xs) := fun b xs e => F68 _ _ e fun z => nt6 b z xs e
        have kt3 : ∀ b xs, H3 b = some (.tup xs) → H8 b = some (.tup xs) := fun b xs e => kt6 _ _ (S6 _ _ (K5 _ _ (S4 _ _ e) fun z => hS3.noTup b (by rw [z]; simp [SA.own]) xs e))
        have ek : (k + (miss kvs1 b y (i + 1) : Int)) = k + (miss kvs1 b y i : Int) + 1 := by omega
        walk_at "w"
        refine ⟨⟨_, _, rfl⟩, F3.trans F38, _, n5, ⟨dx3, q3, by rw [ek]; exact f8, ⟨kt3 _ _ hW3.1, hW3.2⟩, K8 _ _ f7 (Ne.symm hvd), fun x z u h => ?_, av, ad⟩, (hS5.same S6).frL F68 apart nt6, ?_, fun x z => ?_⟩
        · rw [valV_put] at h
          split at h
          · rename_i e
            obtain ⟨rfl, rfl⟩ := kx_inj e
            cases h
            exact ⟨hcol, .inr ⟨o5, (h5.tups fun b xs e => S6 _ _ e).tups kt6, g5⟩⟩
          · exact ⟨(hk3 _ _ _ h).1, (hk3 _ _ _ h).2.imp id fun g => g.tups kt3⟩
        · have := length_putK kvs' (kx X (X + y)) v5
          omega
        · rw [has_put, Bool.or_eq_true, decide_eq_true_iff, hh3, hsucc]
          constructor
          · rintro (h | h | h)
            · exact .inr (.inr h)
            · exact .inl h
            · exact .inr (.inl h)
          · rintro (h | h | h)
            · exact .inr (.inl h)
            · exact .inr (.inr h)
            · exact .inl h
    · rintro σ H3 ⟨⟨v2, v3, rfl⟩, F3, kvs', n3, hV3, hS3, hl3, hh3⟩
      rw [hul] at hV3 hl3 hh3
      have hall : ∀ x z, Col b y m x z → has kvs' x z = true := fun x z h => by
        obtain ⟨j, h0, h1, e1, e2⟩ := h
        exact (hh3 x z).mpr (.inr ⟨j.toNat, by omega, by rw [Int.toNat_of_nonneg h0]; exact e1, by rw [Int.toNat_of_nonneg h0]; exact e2⟩)
      have f23 := F3 _ _ f2 lne
      obtain ⟨dx3, q3, hv3, hW3, hd3, hk3, _⟩ := id hV3
      rw [List.drop_length] at hk3
      walk_at "w"
      intro l2 n4
      refine comp_by m.toNat (fun i σ' H' => (∃ o1, σ' = [o1, some (.ref v)]) ∧ Same H3 H' ∧ ∃ vs fs, H' l2 = some (.lst vs) ∧ Fours H' vs fs ∧ fs.length = i ∧ ∀ (k : Nat) o, fs[k]? = some o → Is4 (inCol sm (b + (k : Int) * y) (b + (k : Int) * y + y)) o) ?_ ?_ ?_
      · exact ⟨⟨none, rfl⟩, Same.new n4, [], [], upd_same, .nil, rfl, fun k o h => by simp at h⟩
      · rintro σ' H5 ⟨_, S5, vs, fs, f5, hF5, hfl, hO5⟩
        refine ⟨⟨_, SqL.of (S5 _ _ f23), by rw [hul]; exact Nat.le_refl _⟩, ?_⟩
        walk_at "w"
        refine rd_tupL (SqL.of f5) fun u H6 n6 f6 S6 => ?_
        have S36 := S5.trans S6
        refine kk u vs fs kvs1 kvs' n3 H6 f6 (hF5.same S6) ⟨hfl, hO5⟩ hh1 (hV3.same S36) (hS3.same S36) hall (by omega) ?_
        exact (((F1.mono fun b hb => by simp only [List.mem_cons, List.not_mem_nil, or_false] at hb ⊢; rcases hb with h | h <;> simp [h]).trans (FrL.same S2)).trans F3).trans (FrL.same S36)
      · rintro i σ' H5 hi ⟨⟨o1, rfl⟩, S5, vs, fs, f5, hF5, hfl, hO5⟩
        have hi2 : i < us0.length := by rw [hul]; exact hi
        have f25 := S5 _ _ f23
        refine ⟨⟨_, _, SqL.of f25, List.getElem?_eq_getElem hi2⟩, ?_⟩
        rintro x H'' ⟨rfl, hx⟩
        have hx := hx _ (SqL.of f25)
        obtain ⟨u, pr, rfl, hpr, f6⟩ := hP2.at hx
        have hpr := colsL_at hpr
        subst hpr
        have f65 := S5 _ _ (F3 _ _ f6 fun z => nt2 _ z _ f6)
        have hv5 := S5 _ _ hv3
        have hd5 := S5 _ _ hd3
        have hcol : Col b y m (b + (i : Int) * y) (b + (i : Int) * y + y) := ⟨i, by omega, by omega, rfl, rfl⟩
        obtain ⟨w, hw⟩ := Option.isSome_iff_exists.mp (hall _ _ hcol)
        obtain ⟨o6, g6, i6⟩ := ((hk3 _ _ _ hw).2.resolve_left fun ⟨t, ht, _⟩ => by cases ht).tups (H' := H'') fun b xs e => S5 _ _ e
        walk_at "w"
        refine iteT ?_
        walk_at "w"
        refine ⟨d, w, rfl, by rw [← hw]; exact DGet.t (k := kx (b + (i : Int) * y) (b + (i : Int) * y + y)) hd5 f65, ?_⟩
        refine ⟨vs, f5, ?_, ⟨_, rfl⟩, S5.kpN n4 Kp.upd, vs ++ [w], fs ++ [o6], upd_same, (hF5.snoc g6).mapP fun _ _ d => d.kpL Kp.upd f5, by simp [hfl], ?_⟩
        · rw [hF5.len, hfl]
          exact Nat.lt_of_lt_of_le (show i < 100 by omega) (by decide)
        · intro k' o' h'
          rw [List.getElem?_append] at h'
          split at h'
          · exact hO5 k' o' h'
          · have : k' = i := by
              have := (List.getElem?_eq_some_iff.mp h').1
              simp at this
              omega
            subst this
            rw [hfl, Nat.sub_self] at h'
            have : o6 = o' := by simpa using h'
            subst this
            exact i6
end
def WinV (b y m : Int) : Prop := 0 < y ∧ 1 ≤ m ∧ m ≤ 100 ∧ InT b ∧ InT (b + m * y)
def spVInit (a : Ad) : Sp := fun vs H Q _ => ∃ (S : SA) (p dx q : Addr) (b y m n : Int) (sm : List (Int × Int)) (c : Nat) (ds : List (Int × Option Int)) (ts : List Int) (ws : List V), vs = [.ref p, .ref S.p, .ref q] ∧ H p = some (.ins a.C_View dx []) ∧ StoreAt a H S n sm c ds ts ws ∧ WinT H q b y m ∧ p ∉ S.p :: S.own ∧
  ∀ d H', H d = none → ViewAt a H' S p d b y m 0 [] 0 sm ts → StoreAt a H' S n sm c ds ts ws → Kp p H H' → Q .non H'
def VPost (a : Ad) (H : Hp) (S : SA) (v d : Addr) (k n : Int) (kvs : List (List Key × V)) (e : Nat) (sm : List (Int × Int)) (c : Nat) (ds : List (Int × Option Int)) (ts : List Int) (ws : List V) (b' y' m' : Int) (Q : VK) : Prop :=
  ∀ (d' : Addr) (kvs1 kvs' : List (List Key × V)) (H' : Hp), H d' = none → (∀ x z, has kvs1 x z = true ↔ has kvs x z = true ∧ ¬ hit (ts.drop e) x z) → (∀ x z, Col b' y' m' x z → (has kvs' x z = true ↔ Kin kvs1 x z)) → kvs'.length ≤ m'.toNat →
    ViewAt a H' S v d' b' y' m' k kvs' ts.length sm ts → StoreAt a H' S n sm c ds ts ws → FrL [v, d] H H' → Q .non H'
theorem VPost.at {a : Ad} {H H1 : Hp} {S : SA} {v d : Addr} {k n : Int} {kvs : List (List Key × V)} {e : Nat} {sm : List (Int × Int)} {c : Nat} {ds : List (Int × Option Int)} {ts : List Int} {ws : List V} {b' y' m' : Int} {Q : VK} (h : VPost a H S v d k n kvs e sm c ds ts ws b' y' m' Q) (s : Same H H1) : VPost a H1 S v d k n kvs e sm c ds ts ws b' y' m' Q :=
  fun d' kvs1 kvs' H' n' h1 h2 h3 h4 h5 f => h d' kvs1 kvs' H' (free_of s n') h1 h2 h3 h4 h5 ((FrL.same s).trans f)
def spStepTo (a : Ad) : Sp := fun vs H Q _ => ∃ (S : SA) (v d q : Addr) (b y m k n b' y' m' : Int) (kvs : List (List Key × V)) (e : Nat) (sm : List (Int × Int)) (c : Nat) (ds : List (Int × Option Int)) (ts : List Int) (ws : List V), vs = [.ref v, .ref q] ∧ StoreAt a H S n sm c ds ts ws ∧ ViewAt a H S v d b y m k kvs e sm ts ∧ ts.length ≤ 10000 ∧ WinT H q b' y' m' ∧
  VPost a H S v d k n kvs e sm c ds ts ws b' y' m' Q
def spVOn (a : Ad) : Sp := fun vs H Q _ => ∃ (S : SA) (v d : Addr) (b y m k n j : Int) (kvs : List (List Key × V)) (e : Nat) (sm : List (Int × Int)) (c : Nat) (ds : List (Int × Option Int)) (ts : List Int) (ws : List V), vs = [.ref v, .int j] ∧ StoreAt a H S n sm c ds ts ws ∧ ViewAt a H S v d b y m k kvs e sm ts ∧ ts.length ≤ 10000 ∧ IntMulOk j y ∧ WinV (b + j * y) y m ∧
  VPost a H S v d k n kvs e sm c ds ts ws (b + j * y) y m Q
def spVWide (a : Ad) : Sp := fun vs H Q _ => ∃ (S : SA) (v d : Addr) (b y m k n : Int) (kvs : List (List Key × V)) (e : Nat) (sm : List (Int × Int)) (c : Nat) (ds : List (Int × Option Int)) (ts : List Int) (ws : List V), vs = [.ref v] ∧ StoreAt a H S n sm c ds ts ws ∧ ViewAt a H S v d b y m k kvs e sm ts ∧ ts.length ≤ 10000 ∧ WinV b (y * 2) m ∧
  VPost a H S v d k n kvs e sm c ds ts ws b (y * 2) m Q
def spVNarrow (a : Ad) : Sp := fun vs H Q _ => ∃ (S : SA) (v d : Addr) (b y m k n : Int) (kvs : List (List Key × V)) (e : Nat) (sm : List (Int × Int)) (c : Nat) (ds : List (Int × Option Int)) (ts : List Int) (ws : List V), vs = [.ref v] ∧ StoreAt a H S n sm c ds ts ws ∧ ViewAt a H S v d b y m k kvs e sm ts ∧ ts.length ≤ 10000 ∧ y % 2 = 0 ∧ WinV b (y / 2) m ∧
  VPost a H S v d k n kvs e sm c ds ts ws b (y / 2) m Q
def spVCols (a : Ad) : Sp := fun vs H Q _ => ∃ (S : SA) (v d : Addr) (b y m k n j : Int) (kvs : List (List Key × V)) (e : Nat) (sm : List (Int × Int)) (c : Nat) (ds : List (Int × Option Int)) (ts : List Int) (ws : List V), vs = [.ref v, .int j] ∧ StoreAt a H S n sm c ds ts ws ∧ ViewAt a H S v d b y m k kvs e sm ts ∧ ts.length ≤ 10000 ∧ WinV b y j ∧
  VPost a H S v d k n kvs e sm c ds ts ws b y j Q
section
variable {P : Program} {w : World} {K : PySem.W.Frag} {mg : Str → Option Value} {base : Heap} {a : Ad}
local macro_rules | `(tactic| walk_at "rd") => `(tactic| first
  | with_reducible refine rd_fld (by assumption) (‹Txt _ _ _›).c_View (‹Txt _ _ _›).n_View_source vfl_source ?_
  | with_reducible refine rd_fld (by assumption) (‹Txt _ _ _›).c_View (‹Txt _ _ _›).n_View_window vfl_window ?_
  | with_reducible refine rd_fld (by assumption) (‹Txt _ _ _›).c_View (‹Txt _ _ _›).n_View_known vfl_known ?_)
theorem sc_View___init__ : FnScope ["self", "store", "window"] ["self", "store", "window"] (defScope s_View___init__) := ⟨rfl, rfl, rfl, by decide +kernel, rfl, by decide +kernel, by decide +kernel⟩
theorem ok_View___init__ (T : Txt K mg a) : FnOk P w K mg base CX0 5 a.f_View___init__ a.d_View___init__ ["self", "store", "window"] (spVInit a) := by
  refine T.F_View___init__.ok sc_View___init__ (fun vs H Q E h => ?_) (fun cdv A outer s H vs Q E hr h => ?_)
  · obtain ⟨S, p, dx, q, b, y, m, n, sm, c, ds, ts, ws, rfl, _⟩ := h
    rfl
  · obtain ⟨S, p, dx, q, b, y, m, n, sm, c, ds, ts, ws, rfl, hp, hS, hW, ap, kk⟩ := h
    obtain ⟨hq, hy, hm1, hm2, hb, he⟩ := id hW
    refine' ⟨_, QB.h ?pp, ?rr⟩
    case pp =>
     refine' qss_cons ?h619 ?h620
     case h619 =>
      refine' qs_exprS ?h621
      case h621 =>
       refine' qe_callS (ok_check_window T) hr rfl T.m_check_window T.F_check_window.kp T.b_check_window .nil pass0 ?h622
       case h622 =>
        exact qa_c (qv 2) qa_nil
     case h620 =>
      refine' qss_cons ?h623 ?h624
      case h623 =>
       exact ks_fld K rfl (qv 0) (qv 1)
      case h624 =>
       refine' qss_cons ?h625 ?h626
       case h625 =>
        exact ks_fld K rfl (qv 0) (qv 2)
       case h626 =>
        refine' qss_cons ?h627 ?h628
        case h627 =>
         exact ks_fld K rfl (qv 0) qe_int
        case h628 =>
         refine' qss_cons ?h629 ?h630
         case h629 =>
          exact ks_fld K rfl (qv 0) qe_dnewT
         case h630 =>
          refine' qss_one ?h631
          case h631 =>
           exact ks_fld K rfl (qv 0) qe_int
    case rr =>
    walk_at "s"
    walk_at "w"
    refine ⟨q, b, y, m, rfl, hq, by omega, by omega, hb, he, ?_⟩
    walk_at "w"
    refine rd_setF hp T.c_View T.n_View_source (by show 0 < 1000; decide) fun H1 f1 K1 => ?_
    walk_at "w"
    refine rd_setF f1 T.c_View T.n_View_window (by show 1 < 1000; decide) fun H2 f2 K2 => ?_
    walk_at "w"
    refine rd_setF f2 T.c_View T.n_View_asked (by show 2 < 1000; decide) fun H3 f3 K3 => ?_
    walk_at "w"
    refine rd_dnewT fun d H4 n4 f4 S4 => ?_
    have nd : d ≠ p := fun z => by rw [z, f3] at n4; cases n4
    walk_at "w"
    refine rd_setF (S4 _ _ f3) T.c_View T.n_View_known (by show 3 < 1000; decide) fun H5 f5 K5 => ?_
    walk_at "w"
    refine rd_setF f5 T.c_View T.n_View_seen (by show 4 < 1000; decide) fun H6 f6 K6 => ?_
    rw [vfl_new] at f6
    have K03 : Kp p H H3 := (K1.trans K2).trans K3
    have K06 : Kp p H H6 := ((K03.then S4).trans K5).trans K6
    have n0 : H d = none := by
      cases e : H d with
      | none => rfl
      | some o => rw [K03 _ _ e nd] at n4; cases n4
    have hnt : ∀ b ∈ [p], ∀ xs, H b ≠ some (.tup xs) := fun b hb xs e => by
      obtain rfl : b = p := by simpa using hb
      rw [hp] at e; cases e
    have hS6 := hS.frL (FrL.kp K06 (l := [p]) (by simp)) (fun b hb => by obtain rfl : b = p := (by simpa using hb); exact ap) hnt
    walk_at "w"
    refine kk d H6 n0 ⟨dx, q, f6, ⟨K06 _ _ hq (fun z => hnt q (by simp [z]) _ hq), hW.2⟩, K6 _ _ (K5 _ _ f4 nd) nd, fun x z u h => (by cases h), ap, hS.apart (l := [d]) (fun b hb => by obtain rfl : b = d := (by simpa using hb); exact n0) d (by simp)⟩ hS6 K06
theorem sc_View_step_to : FnScope ["self", "window"] ["self", "window"] (defScope s_View_step_to) := ⟨rfl, rfl, rfl, by decide +kernel, rfl, by decide +kernel, by decide +kernel⟩
theorem ok_View_step_to (T : Txt K mg a) : FnOk P w K mg base CX0 5 a.f_View_step_to a.d_View_step_to ["self", "window"] (spStepTo a) := by
  refine T.F_View_step_to.ok sc_View_step_to (fun vs H Q E h => ?_) (fun cdv A outer s H vs Q E hr h => ?_)
  · obtain ⟨S, v, d, q, b, y, m, k, n, b', y', m', kvs, e, sm, c, ds, ts, ws, rfl, _⟩ := h
    rfl
  · obtain ⟨S, v, d, q, b, y, m, k, n, b', y', m', kvs, e, sm, c, ds, ts, ws, rfl, hS, hV, hlen, hW, kk⟩ := h
    obtain ⟨hq, hy, hm1, hm2, hb, he⟩ := id hW
    obtain ⟨dx, q0, hv, hW0, hd, hk, av, ad⟩ := id hV
    refine' ⟨_, QB.h ?pp, ?rr⟩
    case pp =>
     refine' qss_cons ?h632 ?h633
     case h632 =>
      refine' qs_exprS ?h634
      case h634 =>
       refine' qe_callS (ok_check_window T) hr rfl T.m_check_window T.F_check_window.kp T.b_check_window .nil pass0 ?h635
       case h635 =>
        exact qa_c (qv 1) qa_nil
     case h633 =>
      refine' qss_cons ?h636 ?h637
      case h636 =>
       refine' qs_exprS ?h638
       case h638 =>
        exact qe_meth0 (qv 0) T.c_View T.M_View_forget (ok_View_forget T) (hr.mono (by decide)) T.b_View_forget .nil pass0
      case h637 =>
       refine' qss_cons ?h639 ?h640
       case h639 =>
        refine' ks_fld K rfl (qv 0) ?h641
        case h641 =>
         refine' qe_callS (ok_known_in T) hr rfl T.m_known_in T.F_known_in.kp T.b_known_in .nil pass0 ?h642
         case h642 =>
          refine' qa_c ?h643 ?h644
          case h643 =>
           exact ke_fld K rfl (qv 0)
          case h644 =>
           exact qa_c (qv 1) qa_nil
       case h640 =>
        refine' qss_one ?h645
        case h645 =>
         exact ks_fld K rfl (qv 0) (qv 1)
    case rr =>
    walk_at "s"
    walk_at "w"
    refine ⟨q, b', y', m', rfl, hq, by omega, by omega, hb, he, ?_⟩
    walk_at "w"
    refine rd_methO hv (vfl_no (by decide +kernel) (by decide +kernel) (by decide +kernel) (by decide +kernel) (by decide +kernel)) ?_
    refine ⟨S, v, d, b, y, m, k, n, kvs, e, sm, c, ds, ts, ws, rfl, hS, hV, hlen, fun kvs1 H1 hV1 hS1 hh1 hl1 F1 => ?_⟩
    obtain ⟨dx1, q1, hv1, hW1, hd1, hk1, _⟩ := id hV1
    rw [List.drop_length] at hk1
    have hWn : WinT H1 q b' y' m' := ⟨F1 _ _ hq fun z => hV.noTup _ z _ hq, hW.2⟩
    walk_at "w"
    refine ⟨d, q, b', y', m', kvs1, sm, rfl, hd1, hWn, fun x z u h => (hk1 x z u h).2.resolve_left fun ⟨t, ht, _⟩ => (by cases ht), fun d2 kvs2 H2 n2 f2 hl2 hg2 hi2 S2 => ?_⟩
    have hv2 := S2 _ _ hv1
    have nd2 : d2 ≠ v := fun z => by rw [z, hv1] at n2; cases n2
    walk_at "w"
    refine rd_setF hv2 T.c_View T.n_View_known (by show 5 < 1000; decide) fun H3 f3 K3 => ?_
    rw [vfl_pkno] at f3
    walk_at "w"
    refine rd_setF f3 T.c_View T.n_View_window (by show 5 < 1000; decide) fun H4 f4 K4 => ?_
    rw [vfl_pwin] at f4
    have K24 := K3.trans K4
    have nt2 : ∀ b ∈ [v], ∀ xs, H2 b ≠ some (.tup xs) := fun b hb xs e => by
      obtain rfl : b = v := by simpa using hb
      rw [hv2] at e; cases e
    have kt2 : ∀ b xs, H2 b = some (.tup xs) → H4 b = some (.tup xs) := fun b xs e => K24 _ _ e fun z => nt2 b (by simp [z]) xs e
    have n0 : H d2 = none := by
      cases e : H d2 with
      | none => rfl
      | some o =>
        by_cases z : d2 ∈ [v, d]
        · simp only [List.mem_cons, List.not_mem_nil, or_false] at z
          rcases z with z | z
          · exact absurd z nd2
          · rw [z, hd1] at n2; cases n2
        · rw [F1 _ _ e z] at n2; cases n2
    walk_at "w"
    refine kk d2 kvs1 kvs2 H4 n0 hh1 hi2 hl2 ⟨dx1, q, f4, ⟨kt2 _ _ (S2 _ _ hWn.1), hW.2⟩, K24 _ _ f2 nd2, fun x z u h => ⟨(hg2 x z u h).1, .inr ((hg2 x z u h).2.tups kt2)⟩, av, ?_⟩ ((hS1.same S2).frL (FrL.kp K24 (l := [v]) (by simp)) (fun b hb => by obtain rfl : b = v := (by simpa using hb); exact av) nt2) ((F1.trans (FrL.same S2)).trans (FrL.kp K24 (by simp)))
    exact hS.apart (l := [d2]) (fun b hb => by obtain rfl : b = d2 := (by simpa using hb); exact n0) d2 (by simp)
theorem sc_View_on : FnScope ["self", "c"] ["self", "c"] (defScope s_View_on) := ⟨rfl, rfl, rfl, by decide +kernel, rfl, by decide +kernel, by decide +kernel⟩
theorem ok_View_on (T : Txt K mg a) : FnOk P w K mg base CX0 6 a.f_View_on a.d_View_on ["self", "c"] (spVOn a) := by
  refine T.F_View_on.ok sc_View_on (fun vs H Q E h => ?_) (fun cdv A outer s H vs Q E hr h => ?_)
  · obtain ⟨S, v, d, b, y, m, k, n, j, kvs, e, sm, c, ds, ts, ws, rfl, _⟩ := h
    rfl
  · obtain ⟨S, v, d, b, y, m, k, n, j, kvs, e, sm, c, ds, ts, ws, rfl, hS, hV, hlen, hj, hw, kk⟩ := h
    obtain ⟨dx, q, hv, hW, hd, hk, av, ad⟩ := id hV
    refine' ⟨_, QB.h ?pp, ?rr⟩
    case pp =>
     refine' qss_one ?h646
     case h646 =>
      refine' qs_exprS ?h647
      case h647 =>
       refine' qe_meth (qv 0) T.c_View T.M_View_step_to (ok_View_step_to T) hr T.b_View_step_to .nil pass0 ?h648
       case h648 =>
        refine' qa_c ?h649 qa_nil
        case h649 =>
         refine' qe_callS (ok_moved T) (hr.mono (by decide)) rfl T.m_moved T.F_moved.kp T.b_moved .nil pass0 ?h650
         case h650 =>
          refine' qa_c ?h651 ?h652
          case h651 =>
           exact ke_fld K rfl (qv 0)
          case h652 =>
           exact qa_c (qv 1) qa_nil
    case rr =>
    walk_at "s"
    walk_at "w"
    refine rd_methO hv (vfl_no (by decide +kernel) (by decide +kernel) (by decide +kernel) (by decide +kernel) (by decide +kernel)) ?_
    walk_at "w"
    refine ⟨q, b, y, m, j, rfl, SqT.of hW.1, hj, fun u H1 n1 f1 S1 => ?_⟩
    walk_at "w"
    exact ⟨S, v, d, u, b, y, m, k, n, _, _, _, kvs, e, sm, c, ds, ts, ws, rfl, hS.same S1, hV.same S1, hlen, ⟨f1, hw⟩, kk.at S1⟩
theorem sc_View_wide : FnScope ["self"] ["self"] (defScope s_View_wide) := ⟨rfl, rfl, rfl, by decide +kernel, rfl, by decide +kernel, by decide +kernel⟩
theorem ok_View_wide (T : Txt K mg a) : FnOk P w K mg base CX0 6 a.f_View_wide a.d_View_wide ["self"] (spVWide a) := by
  refine T.F_View_wide.ok sc_View_wide (fun vs H Q E h => ?_) (fun cdv A outer s H vs Q E hr h => ?_)
  · obtain ⟨S, v, d, b, y, m, k, n, kvs, e, sm, c, ds, ts, ws, rfl, _⟩ := h
    rfl
  · obtain ⟨S, v, d, b, y, m, k, n, kvs, e, sm, c, ds, ts, ws, rfl, hS, hV, hlen, hw, kk⟩ := h
    obtain ⟨dx, q, hv, hW, hd, hk, av, ad⟩ := id hV
    refine' ⟨_, QB.h ?pp, ?rr⟩
    case pp =>
     refine' qss_one ?h653
     case h653 =>
      refine' qs_exprS ?h654
      case h654 =>
       refine' qe_meth (qv 0) T.c_View T.M_View_step_to (ok_View_step_to T) hr T.b_View_step_to .nil pass0 ?h655
       case h655 =>
        refine' qa_c ?h656 qa_nil
        case h656 =>
         refine' qe_callS (ok_widened T) (hr.mono (by decide)) rfl T.m_widened T.F_widened.kp T.b_widened .nil pass0 ?h657
         case h657 =>
          refine' qa_c ?h658 qa_nil
          case h658 =>
           exact ke_fld K rfl (qv 0)
    case rr =>
    walk_at "s"
    walk_at "w"
    refine rd_methO hv (vfl_no (by decide +kernel) (by decide +kernel) (by decide +kernel) (by decide +kernel) (by decide +kernel)) ?_
    walk_at "w"
    refine ⟨q, b, y, m, rfl, SqT.of hW.1, fun u H1 n1 f1 S1 => ?_⟩
    walk_at "w"
    exact ⟨S, v, d, u, b, y, m, k, n, _, _, _, kvs, e, sm, c, ds, ts, ws, rfl, hS.same S1, hV.same S1, hlen, ⟨f1, hw⟩, kk.at S1⟩
theorem sc_View_narrow : FnScope ["self"] ["self"] (defScope s_View_narrow) := ⟨rfl, rfl, rfl, by decide +kernel, rfl, by decide +kernel, by decide +kernel⟩
theorem ok_View_narrow (T : Txt K mg a) : FnOk P w K mg base CX0 6 a.f_View_narrow a.d_View_narrow ["self"] (spVNarrow a) := by
  refine T.F_View_narrow.ok sc_View_narrow (fun vs H Q E h => ?_) (fun cdv A outer s H vs Q E hr h => ?_)
  · obtain ⟨S, v, d, b, y, m, k, n, kvs, e, sm, c, ds, ts, ws, rfl, _⟩ := h
    rfl
  · obtain ⟨S, v, d, b, y, m, k, n, kvs, e, sm, c, ds, ts, ws, rfl, hS, hV, hlen, h2, hw, kk⟩ := h
    obtain ⟨dx, q, hv, hW, hd, hk, av, ad⟩ := id hV
    refine' ⟨_, QB.h ?pp, ?rr⟩
    case pp =>
     refine' qss_one ?h659
     case h659 =>
      refine' qs_exprS ?h660
      case h660 =>
       refine' qe_meth (qv 0) T.c_View T.M_View_step_to (ok_View_step_to T) hr T.b_View_step_to .nil pass0 ?h661
       case h661 =>
        refine' qa_c ?h662 qa_nil
        case h662 =>
         refine' qe_callS (ok_narrowed T) (hr.mono (by decide)) rfl T.m_narrowed T.F_narrowed.kp T.b_narrowed .nil pass0 ?h663
         case h663 =>
          refine' qa_c ?h664 qa_nil
          case h664 =>
           exact ke_fld K rfl (qv 0)
    case rr =>
    walk_at "s"
    walk_at "w"
    refine rd_methO hv (vfl_no (by decide +kernel) (by decide +kernel) (by decide +kernel) (by decide +kernel) (by decide +kernel)) ?_
    walk_at "w"
    refine ⟨q, b, y, m, rfl, SqT.of hW.1, h2, fun u H1 n1 f1 S1 => ?_⟩
    walk_at "w"
    exact ⟨S, v, d, u, b, y, m, k, n, _, _, _, kvs, e, sm, c, ds, ts, ws, rfl, hS.same S1, hV.same S1, hlen, ⟨f1, hw⟩, kk.at S1⟩
theorem sc_View_columns : FnScope ["self", "n"] ["self", "n"] (defScope s_View_columns) := ⟨rfl, rfl, rfl, by decide +kernel, rfl, by decide +kernel, by decide +kernel⟩
theorem ok_View_columns (T : Txt K mg a) : FnOk P w K mg base CX0 6 a.f_View_columns a.d_View_columns ["self", "n"] (spVCols a) := by
  refine T.F_View_columns.ok sc_View_columns (fun vs H Q E h => ?_) (fun cdv A outer s H vs Q E hr h => ?_)
  · obtain ⟨S, v, d, b, y, m, k, n, j, kvs, e, sm, c, ds, ts, ws, rfl, _⟩ := h
    rfl
  · obtain ⟨S, v, d, b, y, m, k, n, j, kvs, e, sm, c, ds, ts, ws, rfl, hS, hV, hlen, hw, kk⟩ := h
    obtain ⟨dx, q, hv, hW, hd, hk, av, ad⟩ := id hV
    refine' ⟨_, QB.h ?pp, ?rr⟩
    case pp =>
     refine' qss_one ?h665
     case h665 =>
      refine' qs_exprS ?h666
      case h666 =>
       refine' qe_meth (qv 0) T.c_View T.M_View_step_to (ok_View_step_to T) hr T.b_View_step_to .nil pass0 ?h667
       case h667 =>
        refine' qa_c ?h668 qa_nil
        case h668 =>
         refine' qe_callS (ok_with_columns T) (hr.mono (by decide)) rfl T.m_with_columns T.F_with_columns.kp T.b_with_columns .nil pass0 ?h669
         case h669 =>
          refine' qa_c ?h670 ?h671
          case h670 =>
           exact ke_fld K rfl (qv 0)
          case h671 =>
           exact qa_c (qv 1) qa_nil
    case rr =>
    walk_at "s"
    walk_at "w"
    refine rd_methO hv (vfl_no (by decide +kernel) (by decide +kernel) (by decide +kernel) (by decide +kernel) (by decide +kernel)) ?_
    walk_at "w"
    refine ⟨q, b, y, m, j, rfl, SqT.of hW.1, fun u H1 n1 f1 S1 => ?_⟩
    walk_at "w"
    exact ⟨S, v, d, u, b, y, m, k, n, _, _, _, kvs, e, sm, c, ds, ts, ws, rfl, hS.same S1, hV.same S1, hlen, ⟨f1, hw⟩, kk.at S1⟩
end
def BP (cv : List (Int × Int)) : Prop := ∀ p ∈ cv, Bn 200 p.1 ∧ Bn 200 p.2
theorem bn_small {x : Int} (h1 : -2000000000 < x) (h2 : x < 2000000000) : Bn 200 x := (show Bn 32 x by unfold Bn; omega).mono (by decide)
theorem bn_59 {x : Int} (h1 : -(10 ^ 59) - 1000 < x) (h2 : x < 10 ^ 59 + 1000) : Bn 200 x := Bn.of (Int.lt_of_le_of_lt (show (-(2 ^ 200) : Int) ≤ -(10 ^ 59) - 1000 by decide) h1) (Int.lt_of_lt_of_le h2 (by decide))
def spCell (K : PySem.W.Frag) : Sp := fun vs H Q _ => ∃ (s : Addr) (ns : List Int) (k : Int), vs = [.ref s, .int k] ∧ SqL K H s (ns.map V.int) ∧ 0 ≤ k ∧ Q (.int (ns.getD k.toNat 0)) H
def spPot : Sp := fun vs H Q _ => ∃ c : Int, vs = [.int c] ∧ ∀ (p : Addr) (H' : Hp), H p = none → Pot H' p → Same H H' → Q (.ref p) H'
def spDraw : Sp := fun vs H Q _ => ∃ (p : Addr) (n : Int), vs = [.ref p, .int n] ∧ Pot H p ∧ 0 < n ∧ n < 2 ^ 250 ∧ ∀ (d : Int) (H' : Hp), 0 ≤ d → d < n → Pot H' p → Kp p H H' → Q (.int d) H'
def spNum : Sp := fun vs H Q _ => ∃ p : Addr, vs = [.ref p] ∧ Pot H p ∧ ∀ (x : Int) (H' : Hp), -(10 ^ 59) < x → x < 10 ^ 59 → Pot H' p → Kp p H H' → Q (.int x) H'
section
variable {P : Program} {w : World} {K : PySem.W.Frag} {mg : Str → Option Value} {base : Heap} {a : Ad}
theorem rd_ixAny {H : Hp} {Q : VK} {l : Addr} {ns : List Int} {d : Int} (h : H l = some (.lst (ns.map V.int))) (h0 : 0 ≤ d) (h1 : d < (ns.length : Int)) (q : ∀ n ∈ ns, Q (.int n) H) : rIxL K (.ref l) (.int d) H Q := by
  obtain ⟨n, rfl⟩ : ∃ n : Nat, d = (n : Int) := ⟨d.toNat, by omega⟩
  have hn : n < ns.length := by omega
  refine rd_ixL (v := .int ns[n]) (SqL.of h) (atI_nat ?_) (q _ (List.getElem_mem hn))
  rw [List.getElem?_map, List.getElem?_eq_getElem hn]
  rfl
theorem putI_all {m : List (Int × Int)} {t h : Int} (R : Int × Int → Prop) (hm : ∀ q ∈ m, R q) (hn : R (t, h)) : ∀ q ∈ putI m t h, R q := by
  intro q hq
  unfold putI at hq
  split at hq
  · obtain ⟨kv, h1, rfl⟩ := List.mem_map.mp hq
    split
    · rename_i e
      rw [e]
      exact hn
    · exact hm _ h1
  · rcases List.mem_append.mp hq with h1 | h1
    · exact hm _ h1
    · simp only [List.mem_cons, List.not_mem_nil, or_false] at h1
      rw [h1]
      exact hn
theorem sc_l_cell : FnScope ["_law_script", "_law_k"] ["_law_script", "_law_k"] (defScope s_l_cell) := ⟨rfl, rfl, rfl, by decide +kernel, rfl, by decide +kernel, by decide +kernel⟩
theorem ok_l_cell (T : Txt K mg a) : FnOk P w K mg base CX0 1 a.f_l_cell a.d_l_cell ["_law_script", "_law_k"] (spCell K) := by
  refine T.F_l_cell.ok sc_l_cell (fun vs H Q E h => ?_) (fun cdv A outer s H vs Q E hr h => ?_)
  · obtain ⟨p, ns, k, rfl, _⟩ := h
    rfl
  · obtain ⟨p, ns, k, rfl, hS, hk, q⟩ := h
    refine' ⟨_, QB.h ?pp, ?rr⟩
    case pp =>
     refine' qss_cons ?h672 ?h673
     case h672 =>
      refine' qs_if ?h674 ?h675 qss_nil
      case h674 =>
       refine' qt_cmpR (op_lt) (qv 1) ?h676 (nomark _)
       case h676 =>
        refine' qe_callBS (kc_len K rfl) rfl T.z_len bt_len ?h677
        case h677 =>
         exact qa_c (qv 0) qa_nil
      case h675 =>
       refine' qss_one ?h678
       case h678 =>
        refine' qs_ret ?h679
        case h679 =>
         exact qe_ix (kx_list K rfl) (qv 0) (qv 1)
     case h673 =>
      refine' qss_one ?h680
      case h680 =>
       exact qs_ret qe_int
    case rr =>
    walk_at "s"
    walk_at "w"
    rw [List.length_map]
    refine iteD (fun h => ?_) (fun h => ?_)
    · walk_at "w"
      obtain ⟨n, rfl⟩ : ∃ n : Nat, k = (n : Int) := ⟨k.toNat, by omega⟩
      have hk2 : n < ns.length := by omega
      refine rd_ixL (v := .int (ns.getD n 0)) hS (atI_nat ?_) q
      rw [List.getElem?_map, List.getElem?_eq_getElem hk2]
      simp [List.getD, hk2]
    · walk_at "w"
      have e : ns.getD k.toNat 0 = 0 := by
        rw [List.getD, List.getElem?_eq_none (by omega)]
        rfl
      rw [e] at q
      exact q
theorem sc_l_pot : FnScope ["_law_cell_here"] ["_law_cell_here"] (defScope s_l_pot) := ⟨rfl, rfl, rfl, by decide +kernel, rfl, by decide +kernel, by decide +kernel⟩
theorem ok_l_pot (T : Txt K mg a) : FnOk P w K mg base CX0 1 a.f_l_pot a.d_l_pot ["_law_cell_here"] spPot := by
  refine T.F_l_pot.ok sc_l_pot (fun vs H Q E h => ?_) (fun cdv A outer s H vs Q E hr h => ?_)
  · obtain ⟨c, rfl, _⟩ := h
    rfl
  · obtain ⟨c, rfl, k⟩ := h
    refine' ⟨_, QB.h ?pp, ?rr⟩
    case pp =>
     refine' qss_one ?h681
     case h681 =>
      refine' qs_ret ?h682
      case h682 =>
       refine' qe_lst ?h683
       case h683 =>
        refine' qa_c ?h684 ?h685
        case h684 =>
         refine' qe_callBS (ca_max rfl) rfl T.z_max bt_max ?h686
         case h686 =>
          refine' qa_c qe_int ?h687
          case h687 =>
           refine' qa_c ?h688 qa_nil
           case h688 =>
            refine' qe_op op_sub ?h689 ?h690
            case h689 =>
             refine' qe_callBS ca_abs rfl T.z_abs bt_abs ?h691
             case h691 =>
              exact qa_c (qv 0) qa_nil
            case h690 =>
             exact qe_op op_pow qe_int qe_int
        case h685 =>
         refine' qa_c ?h692 qa_nil
         case h692 =>
          refine' qe_op op_add ?h693 qe_int
          case h693 =>
           refine' qe_op op_mod ?h694 qe_int
           case h694 =>
            refine' qe_callBS ca_abs rfl T.z_abs bt_abs ?h695
            case h695 =>
             exact qa_c (qv 0) qa_nil
    case rr =>
    walk_at "s"
    walk_at "w"
    refine rd_new (by show 2 ≤ sizeLine; decide) fun p H2 hp f2 S2 => ?_
    refine k p H2 hp ⟨_, _, f2, ?_, Int.add_nonneg (Int.emod_nonneg _ (by decide)) (by decide), Int.lt_of_lt_of_le (Int.add_lt_add_right (Int.emod_lt_of_pos _ (by decide)) 1) (by decide)⟩ S2
    split <;> omega
theorem sc_l_draw : FnScope ["_law_pot_here", "_law_many", "_law_digit"] ["_law_pot_here", "_law_many"] (defScope s_l_draw) := ⟨rfl, rfl, rfl, by decide +kernel, rfl, by decide +kernel, by decide +kernel⟩
theorem ok_l_draw (T : Txt K mg a) : FnOk P w K mg base CX0 1 a.f_l_draw a.d_l_draw ["_law_pot_here", "_law_many"] spDraw := by
  refine T.F_l_draw.ok sc_l_draw (fun vs H Q E h => ?_) (fun cdv A outer s H vs Q E hr h => ?_)
  · obtain ⟨p, n, rfl, _⟩ := h
    rfl
  · obtain ⟨p, n, rfl, ⟨x, y, hp, hx, hy, hy2⟩, hn, hn2, k⟩ := h
    have hdiv : ∀ i : Int, CDivB i n := fun i => CDivB.of (k := 250) hn hn2 (by decide)
    refine' ⟨_, QB.h ?pp, ?rr⟩
    case pp =>
     refine' qss_cons ?h696 ?h697
     case h696 =>
      refine' qs_if ?h698 ?h699 qss_nil
      case h698 =>
       refine' qt_cmpR (op_gt) ?h700 qe_int (nomark _)
       case h700 =>
        exact qe_ix (kx_list K rfl) (qv 0) qe_int
      case h699 =>
       refine' qss_cons ?h701 ?h702
       case h701 =>
        refine' qs_asg ?h703 ?h704
        case h703 =>
         refine' qe_callBS call_divmodB rfl T.z_divmod bt_divmod ?h705
         case h705 =>
          refine' qa_c ?h706 ?h707
          case h706 =>
           exact qe_ix (kx_list K rfl) (qv 0) qe_int
          case h707 =>
           exact qa_c (qv 1) qa_nil
        case h704 =>
         refine' kg_tup (n := 2) K rfl rfl ?h708
         case h708 =>
          refine' qgs_cons ?h709 ?h710
          case h709 =>
           exact qg_sub (qv 0) qe_int set_list
          case h710 =>
           exact qgs_cons (qg_name (i := 2) sc_l_draw.nd rfl (by walk_at "o")) qgs_nil
       case h702 =>
        refine' qss_one ?h711
        case h711 =>
         exact qs_ret (qv 2)
     case h697 =>
      refine' qss_cons ?h712 ?h713
      case h712 =>
       refine' qs_asg ?h714 ?h715
       case h714 =>
        refine' qe_op op_mod ?h716 qe_int
        case h716 =>
         refine' qe_op op_add ?h717 qe_int
         case h717 =>
          refine' qe_op op_mulG ?h718 qe_int
          case h718 =>
           exact qe_ix (kx_list K rfl) (qv 0) qe_int
       case h715 =>
        exact qg_sub (qv 0) qe_int set_list
      case h713 =>
       refine' qss_one ?h719
       case h719 =>
        refine' qs_ret ?h720
        case h720 =>
         refine' qe_op op_mod ?h721 (qv 1)
         case h721 =>
          refine' qe_op op_fdivB ?h722 qe_int
          case h722 =>
           refine' qe_op op_mod ?h723 qe_int
           case h723 =>
            refine' qe_op op_mulG ?h724 ?h725
            case h724 =>
             exact qe_ix (kx_list K rfl) (qv 0) qe_int
            case h725 =>
             exact qe_ix (kx_list K rfl) (qv 0) qe_int
    case rr =>
    walk_at "s"
    walk_at "w"
    refine iteD (fun h => ?_) (fun h => ?_)
    · walk_at "w"
      refine rd_divmod (hdiv _) fun c H2 n2 f2 S2 => ?_
      have hp2 := S2 _ _ hp
      walk_at "w"
      refine rd_setA hp2 (by rfl) fun H3 f3 K3 => ?_
      walk_at "w"
      exact k _ _ (Int.emod_nonneg _ (by omega)) (Int.emod_lt_of_pos _ hn) ⟨_, _, f3, Int.ediv_nonneg hx (by omega), hy, hy2⟩ (fun q o e nq => K3 q o (S2 q o e) nq)
    · walk_at "w"
      refine rd_setA hp (by rfl) fun H2 f2 K2 => ?_
      generalize hz : (y * 48271 + 11) % 2147483647 = z at f2
      have h0 : 0 ≤ z := by rw [← hz]; exact Int.emod_nonneg _ (by decide)
      have h1 : z < 2147483647 := by rw [← hz]; exact Int.emod_lt_of_pos _ (by decide)
      have f2 : H2 p = some (.lst [V.int x, V.int z]) := f2
      walk_at "w"
      exact k _ _ (Int.emod_nonneg _ (by omega)) (Int.emod_lt_of_pos _ hn) ⟨_, _, f2, hx, h0, by omega⟩ (fun q o e nq => K2 q o e nq)
end
def spIn : Sp := fun vs H Q _ => ∃ t : Int, vs = [.int t] ∧ ∀ x : Int, Tm x → Q (.int x) H
def spWithin : Sp := fun vs H Q _ => ∃ (q : Addr) (b y m : Int), vs = [.ref q] ∧ H q = some (.tup [.int b, .int y, .int m]) ∧ IntMulOk y m ∧ Q (.bl (decide (-1099511627776 ≤ b) && decide (b + y * m ≤ 1099511627776))) H
def spWindow : Sp := fun vs H Q _ => ∃ p : Addr, vs = [.ref p] ∧ Pot H p ∧ ∀ (q : Addr) (b y m : Int) (H' : Hp), WinT H' q b y m → m ≤ 9 → Pot H' p → Kp p H H' → Q (.ref q) H'
def spTime : Sp := fun vs H Q _ => ∃ (p q : Addr) (b y m : Int), vs = [.ref p, .ref q] ∧ Pot H p ∧ WinT H q b y m ∧ ∀ (x : Int) (H' : Hp), Tm x → Pot H' p → Kp p H H' → Q (.int x) H'
def spCurveD : Sp := fun vs H Q _ => ∃ (p q : Addr) (b y m : Int), vs = [.ref p, .ref q] ∧ Pot H p ∧ WinT H q b y m ∧
  ∀ (d : Addr) (ps : List (Int × Int)) (H' : Hp), H d = none → H' d = some (.dK (dkOf ps)) → (ps.map (·.1)).Nodup → ps.length ≤ 24 → (∀ r ∈ ps, Tm r.1 ∧ -(10 ^ 59) < r.2 ∧ r.2 < 10 ^ 59) → Pot H' p → Kp p H H' → Q (.ref d) H'
def StepTo (n : Str) (c b y m b' y' m' : Int) : Prop :=
  (n = "wide" ∧ b' = b ∧ y' = 2 * y ∧ m' = m) ∨ (n = "narrow" ∧ y % 2 = 0 ∧ b' = b ∧ y' = y / 2 ∧ m' = m) ∨ (n = "columns" ∧ 1 ≤ c ∧ c ≤ 12 ∧ b' = b ∧ y' = y ∧ m' = c) ∨ (n = "on" ∧ -1099511627776 ≤ c ∧ c < 1099511627776 ∧ b' = b + c * y ∧ y' = y ∧ m' = m)
def StepAt (H : Hp) (u : Addr) (b y m b' y' m' : Int) : Prop := ∃ (n : Str) (c : Int) (q : Addr), H u = some (.tup [.str n, .int c, .ref q]) ∧ H q = some (.tup [.int b', .int y', .int m']) ∧ StepTo n c b y m b' y' m'
def spStep : Sp := fun vs H Q _ => ∃ (p q : Addr) (b y m : Int), vs = [.ref p, .ref q] ∧ Pot H p ∧ WinT H q b y m ∧
  ∀ (u : Addr) (b' y' m' : Int) (H' : Hp), StepAt H' u b y m b' y' m' → Pot H' p → Kp p H H' → Q (.ref u) H'
section
variable {P : Program} {w : World} {K : PySem.W.Frag} {mg : Str → Option Value} {base : Heap} {a : Ad}
theorem sc_l_height : FnScope ["_law_pot_here"] ["_law_pot_here"] (defScope s_l_height) := ⟨rfl, rfl, rfl, by decide +kernel, rfl, by decide +kernel, by decide +kernel⟩
theorem ok_l_height (T : Txt K mg a) : FnOk P w K mg base CX0 2 a.f_l_height a.d_l_height ["_law_pot_here"] spNum := by
  refine T.F_l_height.ok sc_l_height (fun vs H Q E h => ?_) (fun cdv A outer s H vs Q E hr h => ?_)
  · obtain ⟨p, rfl, _⟩ := h
    rfl
  · obtain ⟨p, rfl, hp, k⟩ := h
    have sm : ∀ x : Int, -2000000000 < x → x < 2000000000 → -(10 ^ 59) < x ∧ x < 10 ^ 59 := fun x h1 h2 => ⟨Int.lt_of_le_of_lt (by decide) h1, Int.lt_of_lt_of_le h2 (by decide)⟩
    refine' ⟨_, QB.h ?pp, ?rr⟩
    case pp =>
     refine' qss_cons ?h726 ?h727
     case h726 =>
      refine' qs_if ?h728 ?h729 qss_nil
      case h728 =>
       refine' qt_cmpR (op_gt) ?h730 qe_int (nomark _)
       case h730 =>
        refine' qe_callS (ok_l_draw T) hr rfl T.m_l_draw T.F_l_draw.kp T.b_l_draw .nil pass0 ?h731
        case h731 =>
         refine' qa_c (qv 0) ?h732
         case h732 =>
          exact qa_c qe_int qa_nil
      case h729 =>
       refine' qss_one ?h733
       case h733 =>
        refine' qs_ret ?h734
        case h734 =>
         refine' qe_op op_sub ?h735 qe_int
         case h735 =>
          refine' qe_callS (ok_l_draw T) hr rfl T.m_l_draw T.F_l_draw.kp T.b_l_draw .nil pass0 ?h736
          case h736 =>
           refine' qa_c (qv 0) ?h737
           case h737 =>
            exact qa_c qe_int qa_nil
     case h727 =>
      refine' qss_one ?h738
      case h738 =>
       refine' qs_ret ?h739
       case h739 =>
        refine' qe_op op_add ?h740 qe_int
        case h740 =>
         refine' qe_op op_sub ?h741 ?h742
         case h741 =>
          refine' qe_op op_mod ?h743 ?h744
          case h743 =>
           refine' qe_op op_mulG ?h745 ?h746
           case h745 =>
            refine' qe_callS (ok_l_draw T) hr rfl T.m_l_draw T.F_l_draw.kp T.b_l_draw .nil pass0 ?h747
            case h747 =>
             refine' qa_c (qv 0) ?h748
             case h748 =>
              refine' qa_c ?h749 qa_nil
              case h749 =>
               refine' qe_op op_sub ?h750 qe_int
               case h750 =>
                refine' qe_op op_mulG qe_int ?h751
                case h751 =>
                 exact qe_op op_pow qe_int qe_int
           case h746 =>
            exact qe_op op_pow qe_int qe_int
          case h744 =>
           refine' qe_op op_sub ?h752 qe_int
           case h752 =>
            refine' qe_op op_mulG qe_int ?h753
            case h753 =>
             exact qe_op op_pow qe_int qe_int
         case h742 =>
          exact qe_op op_pow qe_int qe_int
    case rr =>
    walk_at "s"
    walk_at "w"
    refine ⟨p, _, rfl, hp, by decide, by decide, fun d1 H1 h1 h1' P1 K1 => ?_⟩
    walk_at "w"
    refine iteD (fun _ => ?_) (fun _ => ?_)
    · walk_at "w"
      refine ⟨p, _, rfl, P1, by decide, by decide, fun d2 H2 h2 h2' P2 K2 => ?_⟩
      walk_at "w"
      have hb := sm (d2 - 2) (by omega) (by omega)
      exact k _ H2 hb.1 hb.2 P2 (K1.trans K2)
    walk_at "w"
    refine ⟨p, _, rfl, P1, by decide, by decide, fun d2 H2 h2 h2' P2 K2 => ?_⟩
    have hbd : Bn 200 d2 := Bn.of (Int.lt_of_lt_of_le (by decide) h2) (Int.lt_trans h2' (by decide))
    walk_at "w"
    refine rd_I (mulBig hbd (show Bn 190 _ by unfold Bn; decide) (by decide)) ?_
    walk_at "w"
    generalize hz : _ % (2 * 100000000000000000000000000000000000000000000000000000000000 - 1 : Int) = z
    have g0 : 0 ≤ z := by rw [← hz]; exact Int.emod_nonneg _ (by decide)
    have g1 : z < 2 * 100000000000000000000000000000000000000000000000000000000000 - 1 := by rw [← hz]; exact Int.emod_lt_of_pos _ (by decide)
    exact k _ H2 (by omega) (by omega) P2 (K1.trans K2)
theorem sc_l_in : FnScope ["_law_t"] ["_law_t"] (defScope s_l_in) := ⟨rfl, rfl, rfl, by decide +kernel, rfl, by decide +kernel, by decide +kernel⟩
theorem ok_l_in (T : Txt K mg a) : FnOk P w K mg base CX0 1 a.f_l_in a.d_l_in ["_law_t"] spIn := by
  refine T.F_l_in.ok sc_l_in (fun vs H Q E h => ?_) (fun cdv A outer s H vs Q E hr h => ?_)
  · obtain ⟨t, rfl, _⟩ := h
    rfl
  · obtain ⟨t, rfl, k⟩ := h
    refine' ⟨_, QB.h ?pp, ?rr⟩
    case pp =>
     refine' qss_one ?h754
     case h754 =>
      refine' qs_ret ?h755
      case h755 =>
       refine' qe_callBS (ca_max rfl) rfl T.z_max bt_max ?h756
       case h756 =>
        refine' qa_c ?h757 ?h758
        case h757 =>
         refine' qe_un un_neg ?h759
         case h759 =>
          exact qe_op op_pow qe_int qe_int
        case h758 =>
         refine' qa_c ?h760 qa_nil
         case h760 =>
          refine' qe_callBS (ca_min rfl) rfl T.z_min bt_min ?h761
          case h761 =>
           refine' qa_c ?h762 ?h763
           case h762 =>
            refine' qe_op op_sub ?h764 qe_int
            case h764 =>
             exact qe_op op_pow qe_int qe_int
           case h763 =>
            exact qa_c (qv 0) qa_nil
    case rr =>
    walk_at "s"
    walk_at "w"
    refine k _ ?_
    unfold Tm
    repeat' split
    all_goals omega
theorem sc_l_within : FnScope ["_law_window_here"] ["_law_window_here"] (defScope s_l_within) := ⟨rfl, rfl, rfl, by decide +kernel, rfl, by decide +kernel, by decide +kernel⟩
theorem ok_l_within (T : Txt K mg a) : FnOk P w K mg base CX0 1 a.f_l_within a.d_l_within ["_law_window_here"] spWithin := by
  refine T.F_l_within.ok sc_l_within (fun vs H Q E h => ?_) (fun cdv A outer s H vs Q E hr h => ?_)
  · obtain ⟨q, b, y, m, rfl, _⟩ := h
    rfl
  · obtain ⟨q, b, y, m, rfl, hq, hm, k⟩ := h
    refine' ⟨_, QB.h ?pp, ?rr⟩
    case pp =>
     refine' qss_one ?h765
     case h765 =>
      refine' qs_ret ?h766
      case h766 =>
       refine' qe_and ?h767 ?h768
       case h767 =>
        refine' qe_cmpR (op_ge) ?h769 ?h770 (nomark _)
        case h769 =>
         exact qe_ix (kx_tup K rfl) (qv 0) qe_int
        case h770 =>
         refine' qe_un un_neg ?h771
         case h771 =>
          exact qe_op op_pow qe_int qe_int
       case h768 =>
        refine' qe_one ?h772
        case h772 =>
         refine' qe_cmpR (op_le) ?h773 ?h774 (nomark _)
         case h773 =>
          refine' qe_op op_add ?h775 ?h776
          case h775 =>
           exact qe_ix (kx_tup K rfl) (qv 0) qe_int
          case h776 =>
           refine' qe_op op_mulG ?h777 ?h778
           case h777 =>
            exact qe_ix (kx_tup K rfl) (qv 0) qe_int
           case h778 =>
            exact qe_ix (kx_tup K rfl) (qv 0) qe_int
         case h774 =>
          exact qe_op op_pow qe_int qe_int
    case rr =>
    walk_at "s"
    walk_at "w"
    refine iteD (fun h => ?_) (fun h => ?_)
    · walk_at "w"
      refine rd_I hm ?_
      walk_at "w"
      rw [decide_eq_true h, Bool.true_and] at k
      exact k
    · rw [decide_eq_false h, Bool.false_and] at k
      exact k
theorem sc_l_window : FnScope ["_law_pot_here", "_law_wide", "_law_many", "_law_place", "_law_begin"] ["_law_pot_here"] (defScope s_l_window) := ⟨rfl, rfl, rfl, by decide +kernel, rfl, by decide +kernel, by decide +kernel⟩
theorem ok_l_window (T : Txt K mg a) : FnOk P w K mg base CX0 2 a.f_l_window a.d_l_window ["_law_pot_here"] spWindow := by
  refine T.F_l_window.ok sc_l_window (fun vs H Q E h => ?_) (fun cdv A outer s H vs Q E hr h => ?_)
  · obtain ⟨p, rfl, _⟩ := h
    rfl
  · obtain ⟨p, rfl, hp, k⟩ := h
    refine' ⟨_, QB.h ?pp, ?rr⟩
    case pp =>
     refine' qss_cons ?h779 ?h780
     case h779 =>
      refine' qs_setS (i := 1) sc_l_window.nd rfl (by walk_at "o") ?h781
      case h781 =>
       refine' qe_op op_add qe_int ?h782
       case h782 =>
        refine' qe_callS (ok_l_draw T) hr rfl T.m_l_draw T.F_l_draw.kp T.b_l_draw .nil pass0 ?h783
        case h783 =>
         refine' qa_c (qv 0) ?h784
         case h784 =>
          refine' qa_c ?h785 qa_nil
          case h785 =>
           refine' qe_ix (kx_list K rfl) ?h786 ?h787
           case h786 =>
            refine' qe_lst ?h788
            case h788 =>
             refine' qa_c qe_int ?h789
             case h789 =>
              refine' qa_c qe_int ?h790
              case h790 =>
               refine' qa_c ?h791 qa_nil
               case h791 =>
                exact qe_op op_pow qe_int qe_int
           case h787 =>
            refine' qe_callS (ok_l_draw T) hr rfl T.m_l_draw T.F_l_draw.kp T.b_l_draw .nil pass0 ?h792
            case h792 =>
             refine' qa_c (qv 0) ?h793
             case h793 =>
              exact qa_c qe_int qa_nil
     case h780 =>
      refine' qss_cons ?h794 ?h795
      case h794 =>
       refine' qs_setS (i := 2) sc_l_window.nd rfl (by walk_at "o") ?h796
       case h796 =>
        refine' qe_op op_add qe_int ?h797
        case h797 =>
         refine' qe_callS (ok_l_draw T) hr rfl T.m_l_draw T.F_l_draw.kp T.b_l_draw .nil pass0 ?h798
         case h798 =>
          refine' qa_c (qv 0) ?h799
          case h799 =>
           exact qa_c qe_int qa_nil
      case h795 =>
       refine' qss_cons ?h800 ?h801
       case h800 =>
        refine' qs_setS (i := 3) sc_l_window.nd rfl (by walk_at "o") ?h802
        case h802 =>
         refine' qe_callS (ok_l_draw T) hr rfl T.m_l_draw T.F_l_draw.kp T.b_l_draw .nil pass0 ?h803
         case h803 =>
          refine' qa_c (qv 0) ?h804
          case h804 =>
           exact qa_c qe_int qa_nil
       case h801 =>
        refine' qss_cons ?h805 ?h806
        case h805 =>
         refine' qs_setS (i := 4) sc_l_window.nd rfl (by walk_at "o") ?h807
         case h807 =>
          refine' qe_op op_sub ?h808 qe_int
          case h808 =>
           refine' qe_callS (ok_l_draw T) hr rfl T.m_l_draw T.F_l_draw.kp T.b_l_draw .nil pass0 ?h809
           case h809 =>
            refine' qa_c (qv 0) ?h810
            case h810 =>
             exact qa_c qe_int qa_nil
        case h806 =>
         refine' qss_cons ?h811 ?h812
         case h811 =>
          refine' qs_if ?h813 ?h814 qss_nil
          case h813 =>
           exact qt_cmpR (op_eq) (qv 3) qe_int (nomark _)
          case h814 =>
           refine' qss_one ?h815
           case h815 =>
            refine' qs_setS (i := 4) sc_l_window.nd rfl (by walk_at "o") ?h816
            case h816 =>
             refine' qe_op op_add ?h817 ?h818
             case h817 =>
              refine' qe_un un_neg ?h819
              case h819 =>
               exact qe_op op_pow qe_int qe_int
             case h818 =>
              refine' qe_op op_mulG ?h820 (qv 1)
              case h820 =>
               refine' qe_callS (ok_l_draw T) hr rfl T.m_l_draw T.F_l_draw.kp T.b_l_draw .nil pass0 ?h821
               case h821 =>
                refine' qa_c (qv 0) ?h822
                case h822 =>
                 exact qa_c qe_int qa_nil
         case h812 =>
          refine' qss_cons ?h823 ?h824
          case h823 =>
           refine' qs_if ?h825 ?h826 qss_nil
           case h825 =>
            exact qt_cmpR (op_eq) (qv 3) qe_int (nomark _)
           case h826 =>
            refine' qss_one ?h827
            case h827 =>
             refine' qs_setS (i := 4) sc_l_window.nd rfl (by walk_at "o") ?h828
             case h828 =>
              refine' qe_op op_sub ?h829 ?h830
              case h829 =>
               refine' qe_op op_sub ?h831 ?h832
               case h831 =>
                exact qe_op op_pow qe_int qe_int
               case h832 =>
                exact qe_op op_mulG (qv 1) (qv 2)
              case h830 =>
               refine' qe_callS (ok_l_draw T) hr rfl T.m_l_draw T.F_l_draw.kp T.b_l_draw .nil pass0 ?h833
               case h833 =>
                refine' qa_c (qv 0) ?h834
                case h834 =>
                 exact qa_c qe_int qa_nil
          case h824 =>
           refine' qss_one ?h835
           case h835 =>
            refine' qs_ret ?h836
            case h836 =>
             refine' qe_tup ?h837
             case h837 =>
              refine' qa_c (qv 4) ?h838
              case h838 =>
               refine' qa_c (qv 1) ?h839
               case h839 =>
                exact qa_c (qv 2) qa_nil
    case rr =>
    walk_at "s"
    walk_at "w"
    refine rd_new (by show 3 ≤ sizeLine; decide) fun l H1 n1 f1 S1 => ?_
    have hne1 := hp.neN n1
    walk_at "w"
    refine ⟨p, _, rfl, hp.same S1, by decide, by decide, fun d2 H2 h2 h2' P2 K2 => ?_⟩
    walk_at "w"
    refine rd_ixAny (ns := [_, _, _]) (K2 _ _ f1 hne1) h2 (by simpa using h2') fun n hn => ?_
    have hn2 : 0 < n ∧ n ≤ 17179869184 := by
      simp only [List.mem_cons, List.not_mem_nil, or_false] at hn
      rcases hn with rfl | rfl | rfl <;> decide
    walk_at "w"
    refine ⟨p, _, rfl, P2, hn2.1, Int.lt_of_le_of_lt hn2.2 (by decide), fun d3 H3 h3 h3' P3 K3 => ?_⟩
    walk_at "w"
    refine ⟨p, _, rfl, P3, by decide, by decide, fun d4 H4 h4 h4' P4 K4 => ?_⟩
    walk_at "w"
    refine ⟨p, _, rfl, P4, by decide, by decide, fun d5 H5 h5 h5' P5 K5 => ?_⟩
    walk_at "w"
    refine ⟨p, _, rfl, P5, by decide, by decide, fun d6 H6 h6 h6' P6 K6 => ?_⟩
    have K16 : Kp p H H6 := (((((Kp.same S1).trans K2).trans K3).trans K4).trans K5).trans K6
    have hy : 0 < 1 + d3 ∧ 1 + d3 ≤ 17179869184 := by omega
    have hm : 0 < 1 + d4 ∧ 1 + d4 ≤ 9 := by omega
    have hym : (1 + d4) * (1 + d3) ≤ 9 * 17179869184 := Int.mul_le_mul hm.2 hy.2 (by omega) (by decide)
    have hym0 : 0 ≤ (1 + d4) * (1 + d3) := Int.mul_nonneg (by omega) (by omega)
    have fin : ∀ (b : Int) (H' : Hp) (q : Addr), H' q = some (.tup [.int b, .int (1 + d3), .int (1 + d4)]) → -1099511627776 ≤ b → b + (1 + d4) * (1 + d3) ≤ 1099511627776 → WinT H' q b (1 + d3) (1 + d4) := fun b H' q hq hb hb2 =>
      ⟨hq, by omega, by omega, by omega, ⟨by omega, by omega⟩, ⟨by omega, by omega⟩⟩
    walk_at "w"
    rw [dec_i]
    refine iteD (fun e0 => ?_) (fun e0 => ?_)
    · walk_at "w"
      refine ⟨p, _, rfl, P6, by decide, by decide, fun d7 H7 h7 h7' P7 K7 => ?_⟩
      have hd7 : d7 = 0 ∨ d7 = 1 ∨ d7 = 2 := by omega
      walk_at "w"
      rw [dec_i]
      refine iteD (fun h => absurd (e0.symm.trans h) (by decide)) (fun _ => ?_)
      walk_at "w"
      refine rd_new (by show 3 ≤ sizeLine; decide) fun q H8 n8 f8 S8 => ?_
      refine k q _ _ _ H8 (fin _ _ _ f8 ?_ ?_) (by omega) (P7.same S8) ((K16.trans K7).then S8)
      · rcases hd7 with rfl | rfl | rfl <;> omega
      · rcases hd7 with rfl | rfl | rfl <;> omega
    · walk_at "w"
      rw [dec_i]
      refine iteD (fun e1 => ?_) (fun e1 => ?_)
      · walk_at "w"
        refine ⟨p, _, rfl, P6, by decide, by decide, fun d7 H7 h7 h7' P7 K7 => ?_⟩
        walk_at "w"
        refine rd_new (by show 3 ≤ sizeLine; decide) fun q H8 n8 f8 S8 => ?_
        rw [Int.mul_comm] at f8
        exact k q _ _ _ H8 (fin _ _ _ f8 (by omega) (by omega)) (by omega) (P7.same S8) ((K16.trans K7).then S8)
      · walk_at "w"
        refine rd_new (by show 3 ≤ sizeLine; decide) fun q H8 n8 f8 S8 => ?_
        exact k q _ _ _ H8 (fin _ _ _ f8 (by omega) (by omega)) (by omega) (P6.same S8) (K16.then S8)
theorem sc_l_time : FnScope ["_law_pot_here", "_law_window_here", "_law_begin", "_law_wide", "_law_many"] ["_law_pot_here", "_law_window_here"] (defScope s_l_time) := ⟨rfl, rfl, rfl, by decide +kernel, rfl, by decide +kernel, by decide +kernel⟩
theorem ok_l_time (T : Txt K mg a) : FnOk P w K mg base CX0 2 a.f_l_time a.d_l_time ["_law_pot_here", "_law_window_here"] spTime := by
  refine T.F_l_time.ok sc_l_time (fun vs H Q E h => ?_) (fun cdv A outer s H vs Q E hr h => ?_)
  · obtain ⟨p, q, b, y, m, rfl, _⟩ := h
    rfl
  · obtain ⟨p, q, b, y, m, rfl, hp, hW, k⟩ := h
    have hy2 := win_wide hW
    obtain ⟨hq, hy, hm1, hm2, hb, he⟩ := id hW
    have g0 : 0 < y * (m + 4) := Int.mul_pos hy (by omega)
    have g1 : y * (m + 4) ≤ 2199023255552 * 104 := Int.mul_le_mul hy2 (by omega) (by omega) (by decide)
    refine' ⟨_, QB.h ?pp, ?rr⟩
    case pp =>
     refine' qss_cons ?h840 ?h841
     case h840 =>
      refine' qs_asg (qv 1) ?h842
      case h842 =>
       refine' kg_tup (n := 3) K rfl rfl ?h843
       case h843 =>
        refine' qgs_cons (qg_name (i := 2) sc_l_time.nd rfl (by walk_at "o")) ?h844
        case h844 =>
         refine' qgs_cons (qg_name (i := 3) sc_l_time.nd rfl (by walk_at "o")) ?h845
         case h845 =>
          exact qgs_cons (qg_name (i := 4) sc_l_time.nd rfl (by walk_at "o")) qgs_nil
     case h841 =>
      refine' qss_one ?h846
      case h846 =>
       refine' qs_ret ?h847
       case h847 =>
        refine' qe_callS (ok_l_in T) hr rfl T.m_l_in T.F_l_in.kp T.b_l_in .nil pass0 ?h848
        case h848 =>
         refine' qa_c ?h849 qa_nil
         case h849 =>
          refine' qe_op op_add ?h850 ?h851
          case h850 =>
           refine' qe_op op_sub (qv 2) ?h852
           case h852 =>
            exact qe_op op_mulG qe_int (qv 3)
          case h851 =>
           refine' qe_callS (ok_l_draw T) hr rfl T.m_l_draw T.F_l_draw.kp T.b_l_draw .nil pass0 ?h853
           case h853 =>
            refine' qa_c (qv 0) ?h854
            case h854 =>
             refine' qa_c ?h855 qa_nil
             case h855 =>
              refine' qe_op op_mulG (qv 3) ?h856
              case h856 =>
               exact qe_op op_add (qv 4) qe_int
    case rr =>
    walk_at "s"
    walk_at "w"
    refine ⟨p, _, rfl, hp, g0, Int.lt_of_le_of_lt g1 (by decide), fun d1 H1 h1 h1' P1 K1 => ?_⟩
    walk_at "w"
    refine ⟨_, rfl, fun x hx => ?_⟩
    walk_at "w"
    exact k x H1 hx P1 K1
theorem sc_l_curve : FnScope ["_law_pot_here", "_law_window_here", "_law_made", "_law_k", "_law_t"] ["_law_pot_here", "_law_window_here"] (defScope s_l_curve) := ⟨rfl, rfl, rfl, by decide +kernel, rfl, by decide +kernel, by decide +kernel⟩
theorem ok_l_curve (T : Txt K mg a) : FnOk P w K mg base CX0 3 a.f_l_curve a.d_l_curve ["_law_pot_here", "_law_window_here"] spCurveD := by
  refine T.F_l_curve.ok sc_l_curve (fun vs H Q E h => ?_) (fun cdv A outer s H vs Q E hr h => ?_)
  · obtain ⟨p, q, b, y, m, rfl, _⟩ := h
    rfl
  · obtain ⟨p, q, b, y, m, rfl, hp, hW, k⟩ := h
    have hu := hu_of hr
    have nqp : q ≠ p := fun z => by
      obtain ⟨u, v, e, _⟩ := hp
      have := hW.1
      rw [z, e] at this; cases this
    refine' ⟨_, QB.h ?pp, ?rr⟩
    case pp =>
     refine' qss_cons ?h857 ?h858
     case h857 =>
      exact qs_setS (i := 2) sc_l_curve.nd rfl (by walk_at "o") qe_dnewK
     case h858 =>
      refine' qss_cons ?h859 ?h860
      case h859 =>
       refine' qs_for PassesOwn.never rfl ?h861 (qg_name (i := 3) sc_l_curve.nd rfl (by walk_at "o")) ?h862
       case h861 =>
        refine' qi_range1 rfl T.z_range ?h863
        case h863 =>
         refine' qa_c ?h864 qa_nil
         case h864 =>
          refine' qe_callS (ok_l_draw T) (hr.mono (by decide)) rfl T.m_l_draw T.F_l_draw.kp T.b_l_draw .nil pass0 ?h865
          case h865 =>
           refine' qa_c (qv 0) ?h866
           case h866 =>
            exact qa_c qe_int qa_nil
       case h862 =>
        refine' qss_cons ?h867 ?h868
        case h867 =>
         refine' qs_setS (i := 4) sc_l_curve.nd rfl (by walk_at "o") ?h869
         case h869 =>
          refine' qe_callS (ok_l_time T) hr rfl T.m_l_time T.F_l_time.kp T.b_l_time .nil pass0 ?h870
          case h870 =>
           refine' qa_c (qv 0) ?h871
           case h871 =>
            exact qa_c (qv 1) qa_nil
        case h868 =>
         refine' qss_one ?h872
         case h872 =>
          refine' qs_dput hu ?h873 (qv 2) (qv 4)
          case h873 =>
           refine' qe_callS (ok_l_height T) hr rfl T.m_l_height T.F_l_height.kp T.b_l_height .nil pass0 ?h874
           case h874 =>
            exact qa_c (qv 0) qa_nil
      case h860 =>
       refine' qss_one ?h875
       case h875 =>
        exact qs_ret (qv 2)
    case rr =>
    walk_at "s"
    walk_at "w"
    refine rd_dnewI fun d H1 n1 f1 S1 => ?_
    have P1 := hp.same S1
    have hned := hp.neN n1
    walk_at "w"
    refine ⟨p, _, rfl, P1, by decide, by decide, fun d2 H2 h2 h2' P2 K2 => ?_⟩
    have f2 := K2 _ _ f1 hned
    have KA : Kp p H H2 := (Kp.same S1).trans K2
    walk_at "w"
    refine rd_rng (by omega) (by omega) (rd_forR (fun i σ H' => (∃ v3 v4, σ = [some (.ref p), some (.ref q), some (.ref d), v3, v4]) ∧ Pot H' p ∧ Kp p H H' ∧ ∃ ps : List (Int × Int), H' d = some (.dK (dkOf ps)) ∧ (ps.map (·.1)).Nodup ∧ ps.length ≤ i ∧ ∀ r ∈ ps, Tm r.1 ∧ -(10 ^ 59) < r.2 ∧ r.2 < 10 ^ 59) ?_ ?_ ?_)
    · exact ⟨⟨_, _, rfl⟩, P2, KA, [], f2, List.nodup_nil, Nat.zero_le _, fun q hq => by simp at hq⟩
    · rintro i σ H3 hi ⟨⟨v3, v4, rfl⟩, P3, K3, ps, f3, hnd, hl, hbp⟩
      have hlt : ps.length < sizeLine := by show _ < 2 ^ 24; omega
      walk_at "w"
      refine ⟨p, q, b, y, m, rfl, P3, ⟨K3 _ _ hW.1 nqp, hW.2⟩, fun t H4 ht P4 K4 => ?_⟩
      walk_at "w"
      refine ⟨p, rfl, P4, fun x H5 hx1 hx2 P5 K5 => ?_⟩
      have f5 := K5 _ _ (K4 _ _ f3 hned) hned
      walk_at "w"
      refine rd_dputI f5 hlt fun H6 f6 K6 => ?_
      walk_at "w"
      exact ⟨⟨_, _, rfl⟩, P5.kp K6 hned.symm, fun c o e nc => K6 c o (K5 c o (K4 c o (K3 c o e nc) nc) nc) (ne_of_none e n1), _, f6, putI_nodup hnd, Nat.le_trans (putI_len _ _ _) (by omega), putI_all _ hbp ⟨ht, hx1, hx2⟩⟩
    · rintro σ H3 ⟨⟨v3, v4, rfl⟩, P3, K3, ps, f3, hnd, hl, hbp⟩
      walk_at "w"
      exact k d ps H3 n1 f3 hnd (by omega) hbp P3 K3
theorem sc_l_step : FnScope ["_law_pot_here", "_law_window_here", "_law_begin", "_law_wide", "_law_many", "_law_way", "_law_n", "_law_c"] ["_law_pot_here", "_law_window_here"] (defScope s_l_step) := ⟨rfl, rfl, rfl, by decide +kernel, rfl, by decide +kernel, by decide +kernel⟩
theorem ok_l_step (T : Txt K mg a) : FnOk P w K mg base CX0 2 a.f_l_step a.d_l_step ["_law_pot_here", "_law_window_here"] spStep := by
  refine T.F_l_step.ok sc_l_step (fun vs H Q E h => ?_) (fun cdv A outer s H vs Q E hr h => ?_)
  · obtain ⟨p, q, b, y, m, rfl, _⟩ := h
    rfl
  · obtain ⟨p, q, b, y, m, rfl, hp, hW, k⟩ := h
    have hy2 := win_wide hW
    obtain ⟨hq, hy, hm1, hm2, hb, he⟩ := id hW
    have g3 : (3 : Nat) ≤ sizeLine := by decide
    refine' ⟨_, QB.h ?pp, ?rr⟩
    case pp =>
     refine' qss_cons ?h876 ?h877
     case h876 =>
      refine' qs_asg (qv 1) ?h878
      case h878 =>
       refine' kg_tup (n := 3) K rfl rfl ?h879
       case h879 =>
        refine' qgs_cons (qg_name (i := 2) sc_l_step.nd rfl (by walk_at "o")) ?h880
        case h880 =>
         refine' qgs_cons (qg_name (i := 3) sc_l_step.nd rfl (by walk_at "o")) ?h881
         case h881 =>
          exact qgs_cons (qg_name (i := 4) sc_l_step.nd rfl (by walk_at "o")) qgs_nil
     case h877 =>
      refine' qss_cons ?h882 ?h883
      case h882 =>
       refine' qs_setS (i := 5) sc_l_step.nd rfl (by walk_at "o") ?h884
       case h884 =>
        refine' qe_callS (ok_l_draw T) hr rfl T.m_l_draw T.F_l_draw.kp T.b_l_draw .nil pass0 ?h885
        case h885 =>
         refine' qa_c (qv 0) ?h886
         case h886 =>
          exact qa_c qe_int qa_nil
      case h883 =>
       refine' qss_cons ?h887 ?h888
       case h887 =>
        refine' qs_if ?h889 ?h890 qss_nil
        case h889 =>
         exact qt_cmpR (op_eq) (qv 5) qe_int (nomark _)
        case h890 =>
         refine' qss_one ?h891
         case h891 =>
          refine' qs_ret ?h892
          case h892 =>
           refine' qe_tup ?h893
           case h893 =>
            refine' qa_c qe_str ?h894
            case h894 =>
             refine' qa_c qe_int ?h895
             case h895 =>
              refine' qa_c ?h896 qa_nil
              case h896 =>
               refine' qe_tup ?h897
               case h897 =>
                refine' qa_c (qv 2) ?h898
                case h898 =>
                 refine' qa_c ?h899 ?h900
                 case h899 =>
                  exact qe_op op_mulG qe_int (qv 3)
                 case h900 =>
                  exact qa_c (qv 4) qa_nil
       case h888 =>
        refine' qss_cons ?h901 ?h902
        case h901 =>
         refine' qs_if ?h903 ?h904 qss_nil
         case h903 =>
          refine' QW.pt ?h905
          case h905 =>
           refine' qw_and ?h906 ?h907
           case h906 =>
            exact qt_cmpR (op_eq) (qv 5) qe_int (nomark _)
           case h907 =>
            refine' qw_and1 ?h908
            case h908 =>
             refine' qt_cmpR (op_eq) ?h909 qe_int (nomark _)
             case h909 =>
              exact qe_op op_mod (qv 3) qe_int
         case h904 =>
          refine' qss_one ?h910
          case h910 =>
           refine' qs_ret ?h911
           case h911 =>
            refine' qe_tup ?h912
            case h912 =>
             refine' qa_c qe_str ?h913
             case h913 =>
              refine' qa_c qe_int ?h914
              case h914 =>
               refine' qa_c ?h915 qa_nil
               case h915 =>
                refine' qe_tup ?h916
                case h916 =>
                 refine' qa_c (qv 2) ?h917
                 case h917 =>
                  refine' qa_c ?h918 ?h919
                  case h918 =>
                   exact qe_op op_fdivB (qv 3) qe_int
                  case h919 =>
                   exact qa_c (qv 4) qa_nil
        case h902 =>
         refine' qss_cons ?h920 ?h921
         case h920 =>
          refine' qs_if ?h922 ?h923 qss_nil
          case h922 =>
           exact qt_cmpR (op_eq) (qv 5) qe_int (nomark _)
          case h923 =>
           refine' qss_cons ?h924 ?h925
           case h924 =>
            refine' qs_setS (i := 6) sc_l_step.nd rfl (by walk_at "o") ?h926
            case h926 =>
             refine' qe_op op_add qe_int ?h927
             case h927 =>
              refine' qe_callS (ok_l_draw T) hr rfl T.m_l_draw T.F_l_draw.kp T.b_l_draw .nil pass0 ?h928
              case h928 =>
               refine' qa_c (qv 0) ?h929
               case h929 =>
                exact qa_c qe_int qa_nil
           case h925 =>
            refine' qss_one ?h930
            case h930 =>
             refine' qs_ret ?h931
             case h931 =>
              refine' qe_tup ?h932
              case h932 =>
               refine' qa_c qe_str ?h933
               case h933 =>
                refine' qa_c (qv 6) ?h934
                case h934 =>
                 refine' qa_c ?h935 qa_nil
                 case h935 =>
                  refine' qe_tup ?h936
                  case h936 =>
                   refine' qa_c (qv 2) ?h937
                   case h937 =>
                    refine' qa_c (qv 3) ?h938
                    case h938 =>
                     exact qa_c (qv 6) qa_nil
         case h921 =>
          refine' qss_cons ?h939 ?h940
          case h939 =>
           refine' qs_setS (i := 7) sc_l_step.nd rfl (by walk_at "o") ?h941
           case h941 =>
            refine' qe_op op_sub ?h942 qe_int
            case h942 =>
             refine' qe_callS (ok_l_draw T) hr rfl T.m_l_draw T.F_l_draw.kp T.b_l_draw .nil pass0 ?h943
             case h943 =>
              refine' qa_c (qv 0) ?h944
              case h944 =>
               exact qa_c qe_int qa_nil
          case h940 =>
           refine' qss_cons ?h945 ?h946
           case h945 =>
            refine' qs_if ?h947 ?h948 qss_nil
            case h947 =>
             exact qt_cmpR (op_eq) (qv 5) qe_int (nomark _)
            case h948 =>
             refine' qss_one ?h949
             case h949 =>
              refine' qs_setS (i := 7) sc_l_step.nd rfl (by walk_at "o") ?h950
              case h950 =>
               refine' qe_op op_sub ?h951 ?h952
               case h951 =>
                refine' qe_callS (ok_l_draw T) hr rfl T.m_l_draw T.F_l_draw.kp T.b_l_draw .nil pass0 ?h953
                case h953 =>
                 refine' qa_c (qv 0) ?h954
                 case h954 =>
                  refine' qa_c ?h955 qa_nil
                  case h955 =>
                   exact qe_op op_pow qe_int qe_int
               case h952 =>
                exact qe_op op_pow qe_int qe_int
           case h946 =>
            refine' qss_one ?h956
            case h956 =>
             refine' qs_ret ?h957
             case h957 =>
              refine' qe_tup ?h958
              case h958 =>
               refine' qa_c qe_str ?h959
               case h959 =>
                refine' qa_c (qv 7) ?h960
                case h960 =>
                 refine' qa_c ?h961 qa_nil
                 case h961 =>
                  refine' qe_tup ?h962
                  case h962 =>
                   refine' qa_c ?h963 ?h964
                   case h963 =>
                    refine' qe_op op_add (qv 2) ?h965
                    case h965 =>
                     exact qe_op op_mulG (qv 7) (qv 3)
                   case h964 =>
                    refine' qa_c (qv 3) ?h966
                    case h966 =>
                     exact qa_c (qv 4) qa_nil
    case rr =>
    walk_at "s"
    walk_at "w"
    refine ⟨p, _, rfl, hp, by decide, by decide, fun d1 H1 h1 h1' P1 K1 => ?_⟩
    walk_at "w"
    rw [dec_i]
    refine iteD (fun e0 => ?_) (fun e0 => ?_)
    · walk_at "w"
      refine rd_new g3 fun w2 H2 n2 f2 S2 => ?_
      walk_at "w"
      refine rd_new g3 fun u3 H3 n3 f3 S3 => ?_
      exact k u3 _ _ _ H3 ⟨_, _, w2, f3, S3 _ _ f2, .inl ⟨rfl, rfl, rfl, rfl⟩⟩ ((P1.same S2).same S3) ((K1.then S2).then S3)
    repeat walk_at "ri"
    refine rd_meet (fun σ' H' => σ' = [some (.ref p), some (.ref q), some (.int b), some (.int y), some (.int m), some (.int d1), none, none] ∧ H' = H1) ?_ ?_
    · rintro σ' H' ⟨rfl, rfl⟩
      walk_at "w"
      rw [dec_i]
      refine iteD (fun e2 => ?_) (fun e2 => ?_)
      · walk_at "w"
        refine ⟨p, _, rfl, P1, by decide, by decide, fun d2 H2 h2 h2' P2 K2 => ?_⟩
        walk_at "w"
        refine rd_new g3 fun w3 H3 n3 f3 S3 => ?_
        walk_at "w"
        refine rd_new g3 fun u4 H4 n4 f4 S4 => ?_
        exact k u4 _ _ _ H4 ⟨_, _, w3, f4, S4 _ _ f3, .inr (.inr (.inl ⟨rfl, by omega, by omega, rfl, rfl, rfl⟩))⟩ ((P2.same S3).same S4) (((K1.trans K2).then S3).then S4)
      walk_at "w"
      refine ⟨p, _, rfl, P1, by decide, by decide, fun d2 H2 h2 h2' P2 K2 => ?_⟩
      walk_at "w"
      rw [dec_i]
      refine iteD (fun e3 => ?_) (fun e3 => ?_)
      · walk_at "w"
        refine ⟨p, _, rfl, P2, by decide, by decide, fun d3 H3 h3 h3' P3 K3 => ?_⟩
        walk_at "w"
        refine rd_new g3 fun w4 H4 n4 f4 S4 => ?_
        walk_at "w"
        refine rd_new g3 fun u5 H5 n5 f5 S5 => ?_
        exact k u5 _ _ _ H5 ⟨_, _, w4, f5, S5 _ _ f4, .inr (.inr (.inr ⟨rfl, by omega, by omega, rfl, rfl, rfl⟩))⟩ ((P3.same S4).same S5) ((((K1.trans K2).trans K3).then S4).then S5)
      · walk_at "w"
        refine rd_new g3 fun w4 H4 n4 f4 S4 => ?_
        walk_at "w"
        refine rd_new g3 fun u5 H5 n5 f5 S5 => ?_
        exact k u5 _ _ _ H5 ⟨_, _, w4, f5, S5 _ _ f4, .inr (.inr (.inr ⟨rfl, by omega, by omega, rfl, rfl, rfl⟩))⟩ ((P2.same S4).same S5) (((K1.trans K2).then S4).then S5)
    · intro D' hrt hD'
      walk_at "w"
      rw [dec_i]
      refine iteD (fun e1 => ?_) (fun e1 => ?_)
      · walk_at "w"
        rw [dec_i]
        refine iteD (fun e2 => ?_) (fun e2 => ?_)
        · walk_at "w"
          refine rd_new g3 fun w2 H2 n2 f2 S2 => ?_
          walk_at "w"
          refine rd_new g3 fun u3 H3 n3 f3 S3 => ?_
          rw [hrt]
          exact k u3 _ _ _ H3 ⟨_, _, w2, f3, S3 _ _ f2, .inr (.inl ⟨rfl, e2, rfl, rfl, rfl⟩)⟩ ((P1.same S2).same S3) ((K1.then S2).then S3)
        · walk_at "w"
          exact hD' _ _ ⟨rfl, rfl⟩
      · walk_at "w"
        exact hD' _ _ ⟨rfl, rfl⟩
def spGo (a : Ad) : Sp := fun vs H Q _ => ∃ (S : SA) (v d u : Addr) (b y m k n b' y' m' : Int) (kvs : List (List Key × V)) (e : Nat) (sm : List (Int × Int)) (c : Nat) (ds : List (Int × Option Int)) (ts : List Int) (ws : List V), vs = [.ref v, .ref u] ∧ StoreAt a H S n sm c ds ts ws ∧ ViewAt a H S v d b y m k kvs e sm ts ∧ ts.length ≤ 10000 ∧ StepAt H u b y m b' y' m' ∧ WinV b' y' m' ∧
  VPost a H S v d k n kvs e sm c ds ts ws b' y' m' (fun _ H' => Q (.bl true) H')
theorem sc_l_go : FnScope ["_law_view", "_law_step_here", "_law_told"] ["_law_view", "_law_step_here"] (defScope s_l_go) := ⟨rfl, rfl, rfl, by decide +kernel, rfl, by decide +kernel, by decide +kernel⟩
theorem ok_l_go (T : Txt K mg a) : FnOk P w K mg base CX0 7 a.f_l_go a.d_l_go ["_law_view", "_law_step_here"] (spGo a) := by
  refine T.F_l_go.ok sc_l_go (fun vs H Q E h => ?_) (fun cdv A outer s H vs Q E hr h => ?_)
  · obtain ⟨S, v, d, u, b, y, m, k, n, b', y', m', kvs, e, sm, c, ds, ts, ws, rfl, _⟩ := h
    rfl
  · obtain ⟨S, v, d, u, b, y, m, k, n, b', y', m', kvs, e, sm, c, ds, ts, ws, rfl, hS, hV, hlen, ⟨nm, j, q, hu1, hq, hst⟩, hw, kk⟩ := h
    obtain ⟨dx, q0, hv, hW, hd, hk, av, ad⟩ := id hV
    have hy2 := win_wide hW
    refine' ⟨_, QB.h ?pp, ?rr⟩
    case pp =>
     refine' qss_cons ?h967 ?h968
     case h967 =>
      exact qs_setS (i := 2) sc_l_go.nd rfl (by walk_at "o") qe_non
     case h968 =>
      refine' qss_cons ?h969 ?h970
      case h969 =>
       refine' qs_if ?h971 ?h972 ?h973
       case h971 =>
        refine' qt_cmpR (op_eq) ?h974 qe_str (nomark _)
        case h974 =>
         exact qe_ix (kx_tup K rfl) (qv 1) qe_int
       case h972 =>
        refine' qss_one ?h975
        case h975 =>
         refine' qs_setS (i := 2) sc_l_go.nd rfl (by walk_at "o") ?h976
         case h976 =>
          exact qe_meth0 (qv 0) T.c_View T.M_View_wide (ok_View_wide T) hr T.b_View_wide .nil pass0
       case h973 =>
        refine' qss_one ?h977
        case h977 =>
         refine' qs_if ?h978 ?h979 ?h980
         case h978 =>
          refine' qt_cmpR (op_eq) ?h981 qe_str (nomark _)
          case h981 =>
           exact qe_ix (kx_tup K rfl) (qv 1) qe_int
         case h979 =>
          refine' qss_one ?h982
          case h982 =>
           refine' qs_setS (i := 2) sc_l_go.nd rfl (by walk_at "o") ?h983
           case h983 =>
            exact qe_meth0 (qv 0) T.c_View T.M_View_narrow (ok_View_narrow T) hr T.b_View_narrow .nil pass0
         case h980 =>
          refine' qss_one ?h984
          case h984 =>
           refine' qs_if ?h985 ?h986 ?h987
           case h985 =>
            refine' qt_cmpR (op_eq) ?h988 qe_str (nomark _)
            case h988 =>
             exact qe_ix (kx_tup K rfl) (qv 1) qe_int
           case h986 =>
            refine' qss_one ?h989
            case h989 =>
             refine' qs_setS (i := 2) sc_l_go.nd rfl (by walk_at "o") ?h990
             case h990 =>
              refine' qe_meth (qv 0) T.c_View T.M_View_columns (ok_View_columns T) hr T.b_View_columns .nil pass0 ?h991
              case h991 =>
               refine' qa_c ?h992 qa_nil
               case h992 =>
                exact qe_ix (kx_tup K rfl) (qv 1) qe_int
           case h987 =>
            refine' qss_one ?h993
            case h993 =>
             refine' qs_setS (i := 2) sc_l_go.nd rfl (by walk_at "o") ?h994
             case h994 =>
              refine' qe_meth (qv 0) T.c_View T.M_View_on (ok_View_on T) hr T.b_View_on .nil pass0 ?h995
              case h995 =>
               refine' qa_c ?h996 qa_nil
               case h996 =>
                exact qe_ix (kx_tup K rfl) (qv 1) qe_int
      case h970 =>
       refine' qss_one ?h997
       case h997 =>
        refine' qs_ret ?h998
        case h998 =>
         exact qe_cmpR (oq_isN) (qv 2) qe_non (nomark _)
    case rr =>
    walk_at "s"
    walk_at "w"
    have ne1 : (("narrow" : Str) = "wide") = False := eq_false (by decide +kernel)
    have ne2 : (("columns" : Str) = "wide") = False := eq_false (by decide +kernel)
    have ne3 : (("on" : Str) = "wide") = False := eq_false (by decide +kernel)
    have ne4 : (("columns" : Str) = "narrow") = False := eq_false (by decide +kernel)
    have ne5 : (("on" : Str) = "narrow") = False := eq_false (by decide +kernel)
    have ne6 : (("on" : Str) = "columns") = False := eq_false (by decide +kernel)
    rcases hst with ⟨rfl, rfl, rfl, rfl⟩ | ⟨rfl, h2, rfl, rfl, rfl⟩ | ⟨rfl, h1, h2, rfl, rfl, rfl⟩ | ⟨rfl, h1, h2, rfl, rfl, rfl⟩
    · refine rd_eqS ?_
      rw [decide_eq_true rfl]
      walk_at "w"
      refine iteT ?_
      walk_at "w"
      refine rd_methO hv (vfl_no (by decide +kernel) (by decide +kernel) (by decide +kernel) (by decide +kernel) (by decide +kernel)) ?_
      rw [Int.mul_comm] at hw kk
      refine ⟨S, v, d, b', y, m', k, n, kvs, e, sm, c, ds, ts, ws, rfl, hS, hV, hlen, hw, fun d' kvs1 kvs' H' n' g1 g2 g3 g4 g5 F => ?_⟩
      walk_at "w"
      exact kk d' kvs1 kvs' H' n' g1 g2 g3 g4 g5 F
    · refine rd_eqS ?_
      rw [decide_eq_false (by rw [ne1]; exact id)]
      walk_at "w"
      refine iteF ?_
      walk_at "w"
      refine rd_eqS ?_
      rw [decide_eq_true rfl]
      walk_at "w"
      refine iteT ?_
      walk_at "w"
      refine rd_methO hv (vfl_no (by decide +kernel) (by decide +kernel) (by decide +kernel) (by decide +kernel) (by decide +kernel)) ?_
      refine ⟨S, v, d, b', y, m', k, n, kvs, e, sm, c, ds, ts, ws, rfl, hS, hV, hlen, h2, hw, fun d' kvs1 kvs' H' n' g1 g2 g3 g4 g5 F => ?_⟩
      walk_at "w"
      exact kk d' kvs1 kvs' H' n' g1 g2 g3 g4 g5 F
    · refine rd_eqS ?_
      rw [decide_eq_false (by rw [ne2]; exact id)]
      walk_at "w"
      refine iteF ?_
      walk_at "w"
      refine rd_eqS ?_
      rw [decide_eq_false (by rw [ne4]; exact id)]
      walk_at "w"
      refine iteF ?_
      walk_at "w"
      refine rd_eqS ?_
      rw [decide_eq_true rfl]
      walk_at "w"
      refine iteT ?_
      walk_at "w"
      refine rd_methO hv (vfl_no (by decide +kernel) (by decide +kernel) (by decide +kernel) (by decide +kernel) (by decide +kernel)) ?_
      walk_at "w"
      refine ⟨S, v, d, b', y', m, k, n, m', kvs, e, sm, c, ds, ts, ws, rfl, hS, hV, hlen, hw, fun d' kvs1 kvs' H' n' g1 g2 g3 g4 g5 F => ?_⟩
      walk_at "w"
      exact kk d' kvs1 kvs' H' n' g1 g2 g3 g4 g5 F
    · refine rd_eqS ?_
      rw [decide_eq_false (by rw [ne3]; exact id)]
      walk_at "w"
      refine iteF ?_
      walk_at "w"
      refine rd_eqS ?_
      rw [decide_eq_false (by rw [ne5]; exact id)]
      walk_at "w"
      refine iteF ?_
      walk_at "w"
      refine rd_eqS ?_
      rw [decide_eq_false (by rw [ne6]; exact id)]
      walk_at "w"
      refine iteF ?_
      walk_at "w"
      refine rd_methO hv (vfl_no (by decide +kernel) (by decide +kernel) (by decide +kernel) (by decide +kernel) (by decide +kernel)) ?_
      walk_at "w"
      refine ⟨S, v, d, b, y', m', k, n, j, kvs, e, sm, c, ds, ts, ws, rfl, hS, hV, hlen, mulBig (m := 42) (n := 43) (by unfold Bn; omega) (by have := hw.1; unfold Bn; omega) (by decide), hw, fun d' kvs1 kvs' H' n' g1 g2 g3 g4 g5 F => ?_⟩
      walk_at "w"
      exact kk d' kvs1 kvs' H' n' g1 g2 g3 g4 g5 F
end
def cols (kvs : List (List Key × V)) (b y : Int) (N : Nat) : List Nat := (List.range N).filter fun (j : Nat) => has kvs (b + (j : Int) * y) (b + (j : Int) * y + y)
theorem mem_cols {kvs : List (List Key × V)} {b y : Int} {N j : Nat} : j ∈ cols kvs b y N ↔ j < N ∧ has kvs (b + (j : Int) * y) (b + (j : Int) * y + y) = true := by
  unfold cols
  rw [List.mem_filter, List.mem_range]
theorem miss_cols (kvs : List (List Key × V)) (b y : Int) (N : Nat) : miss kvs b y N + (cols kvs b y N).length = N := by
  induction N with
  | zero => rfl
  | succ n ih =>
    rw [miss_succ]
    unfold cols at ih ⊢
    rw [List.range_succ, List.filter_append, List.length_append]
    cases hh : has kvs (b + (n : Int) * y) (b + (n : Int) * y + y) with
    | true => rw [List.filter_cons_of_pos (by simp [hh]), if_pos rfl]; simp only [List.filter_nil, List.length_cons, List.length_nil]; omega
    | false => rw [List.filter_cons_of_neg (by simp [hh]), if_neg (by decide)]; simp only [List.filter_nil, List.length_nil]; omega
def spKnown : Sp := fun vs H Q _ => ∃ (u q l : Addr) (b y m b' y' m' : Int) (ks : List Nat), vs = [.ref u, .ref q, .ref l] ∧ StepAt H u b y m b' y' m' ∧ WinT H q b y m ∧ WinV b' y' m' ∧ H l = some (.lst (natL ks)) ∧ ks.Nodup ∧ ks.length ≤ 1000 ∧ (∀ j ∈ ks, (j : Int) < m) ∧
  ∀ (l' : Addr) (H' : Hp), H l' = none → H' l' = some (.lst (natL ((List.range m'.toNat).filter fun (k : Nat) => (decide (y' = 2 * y) && (decide (2 * k ∈ ks) && decide (2 * k + 1 ∈ ks))) || ks.any fun (j : Nat) => decide (y' = y ∧ b' + (k : Int) * y' = b + (j : Int) * y')))) → Same H H' → Q (.ref l') H'
theorem winv_wide {b y m : Int} (h : WinV b y m) : y ≤ 2199023255552 := by
  obtain ⟨hy, h1, h2, hb, he⟩ := h
  have : 0 ≤ (m - 1) * y := Int.mul_nonneg (by omega) (by omega)
  rw [Int.sub_mul, Int.one_mul] at this
  unfold InT at hb he
  omega
theorem filt_succ (f : Nat → Bool) (i : Nat) : (List.range (i + 1)).filter f = (List.range i).filter f ++ (if f i = true then [i] else []) := by
  rw [List.range_succ, List.filter_append]
  congr 1
  by_cases h : f i = true
  · rw [if_pos h, List.filter_cons_of_pos h]; rfl
  · rw [if_neg h, List.filter_cons_of_neg h]; rfl
theorem natL_app (l r : List Nat) : natL (l ++ r) = natL l ++ natL r := List.map_append
section
variable {P : Program} {w : World} {K : PySem.W.Frag} {mg : Str → Option Value} {base : Heap} {a : Ad}
theorem sc_l_known : FnScope ["_law_step_here", "_law_window_here", "_law_known_here", "_law_begin", "_law_wide", "_law_many", "_law_found", "_law_k", "_law_j"] ["_law_step_here", "_law_window_here", "_law_known_here"] (defScope s_l_known) := ⟨rfl, rfl, rfl, by decide +kernel, rfl, by decide +kernel, by decide +kernel⟩
theorem ok_l_known (T : Txt K mg a) : FnOk P w K mg base CX0 1 a.f_l_known a.d_l_known ["_law_step_here", "_law_window_here", "_law_known_here"] spKnown := by
  refine T.F_l_known.ok sc_l_known (fun vs H Q E h => ?_) (fun cdv A outer s H vs Q E hr h => ?_)
  · obtain ⟨u, q, l, b, y, m, b', y', m', ks, rfl, _⟩ := h
    rfl
  · obtain ⟨u, q, l, b, y, m, b', y', m', ks, rfl, ⟨nm, j, q2, hu1, hq2, hst⟩, hW, hw, hl, hnd, hkl, hks, kk⟩ := h
    have hy2 := win_wide hW
    obtain ⟨hq, hy, hm1, hm2, hb, he⟩ := id hW
    obtain ⟨hy', hm1', hm2', hb', he'⟩ := id hw
    refine' ⟨_, QB.h ?pp, ?rr⟩
    case pp =>
     refine' qss_cons ?h999 ?h1000
     case h999 =>
      refine' qs_asg ?h1001 ?h1002
      case h1001 =>
       exact qe_ix (kx_tup K rfl) (qv 0) qe_int
      case h1002 =>
       refine' kg_tup (n := 3) K rfl rfl ?h1003
       case h1003 =>
        refine' qgs_cons (qg_name (i := 3) sc_l_known.nd rfl (by walk_at "o")) ?h1004
        case h1004 =>
         refine' qgs_cons (qg_name (i := 4) sc_l_known.nd rfl (by walk_at "o")) ?h1005
         case h1005 =>
          exact qgs_cons (qg_name (i := 5) sc_l_known.nd rfl (by walk_at "o")) qgs_nil
     case h1000 =>
      refine' qss_cons ?h1006 ?h1007
      case h1006 =>
       refine' qs_if ?h1008 ?h1009 qss_nil
       case h1008 =>
        refine' qt_cmpR (op_eq) ?h1010 qe_str (nomark _)
        case h1010 =>
         exact qe_ix (kx_tup K rfl) (qv 0) qe_int
       case h1009 =>
        refine' qss_one ?h1011
        case h1011 =>
         refine' qs_ret ?h1012
         case h1012 =>
          refine' qe_comp (N := ["_law_step_here", "_law_window_here", "_law_known_here", "_law_begin", "_law_wide", "_law_many", "_law_found", "_law_k", "_law_j"]) (sc := defScope s_l_known) (own := ["_law_k"]) (caps := ["_law_known_here"]) (ks := [2]) rfl rfl rfl ⟨rfl, by decide +kernel, by decide +kernel, by decide +kernel, by decide +kernel, rfl, by decide +kernel⟩ ?h1013 ?h1014 ?h1015 ?h1016
          case h1013 =>
           refine' qi_range1 rfl T.z_range ?h1017
           case h1017 =>
            exact qa_c (qv 5) qa_nil
          case h1014 =>
           intro _ _ _ _ _
           exact qg_name (i := 0) (show List.Nodup (α := Str) ["_law_k", "_law_known_here"] from by decide +kernel) rfl (by walk_at "o") (.inr rfl)
          case h1015 =>
           intro _ _ _ _ _
           refine' qifs_one ?h1018
           case h1018 =>
            refine' QW.pt ?h1019
            case h1019 =>
             refine' qw_and ?h1020 ?h1021
             case h1020 =>
              refine' qt_cmpR (ko_inL K rfl) ?h1022 (qv 1) (by with_unfolding_all rfl)
              case h1022 =>
               exact qe_op op_mulG qe_int (qv 0)
             case h1021 =>
              refine' qw_and1 ?h1023
              case h1023 =>
               refine' qt_cmpR (ko_inL K rfl) ?h1024 (qv 1) (by with_unfolding_all rfl)
               case h1024 =>
                refine' qe_op op_add ?h1025 qe_int
                case h1025 =>
                 exact qe_op op_mulG qe_int (qv 0)
          case h1016 =>
           intro _ _ _ _ _
           exact qv 0
      case h1007 =>
       refine' qss_cons ?h1026 ?h1027
       case h1026 =>
        refine' qs_setS (i := 6) sc_l_known.nd rfl (by walk_at "o") ?h1028
        case h1028 =>
         exact qe_lst qa_nil
       case h1027 =>
        refine' qss_cons ?h1029 ?h1030
        case h1029 =>
         refine' qs_for PassesOwn.never rfl ?h1031 (qg_name (i := 7) sc_l_known.nd rfl (by walk_at "o")) ?h1032
         case h1031 =>
          refine' qi_range1 rfl T.z_range ?h1033
          case h1033 =>
           exact qa_c (qv 5) qa_nil
         case h1032 =>
          refine' qss_one ?h1034
          case h1034 =>
           refine' qs_for PassesOwn.never rfl ?h1035 (qg_name (i := 8) sc_l_known.nd rfl (by walk_at "o")) ?h1036
           case h1035 =>
            exact ki_list K rfl (qv 2)
           case h1036 =>
            refine' qss_one ?h1037
            case h1037 =>
             refine' qs_if ?h1038 ?h1039 qss_nil
             case h1038 =>
              refine' QW.pt ?h1040
              case h1040 =>
               refine' qw_and ?h1041 ?h1042
               case h1041 =>
                refine' qt_cmpR (op_eq) (qv 4) ?h1043 (nomark _)
                case h1043 =>
                 exact qe_ix (kx_tup K rfl) (qv 1) qe_int
               case h1042 =>
                refine' qw_and1 ?h1044
                case h1044 =>
                 refine' qt_cmpR (op_eq) ?h1045 ?h1046 (nomark _)
                 case h1045 =>
                  refine' qe_op op_add (qv 3) ?h1047
                  case h1047 =>
                   exact qe_op op_mulG (qv 7) (qv 4)
                 case h1046 =>
                  refine' qe_op op_add ?h1048 ?h1049
                  case h1048 =>
                   exact qe_ix (kx_tup K rfl) (qv 1) qe_int
                  case h1049 =>
                   exact qe_op op_mulG (qv 8) (qv 4)
             case h1039 =>
              refine' qss_one ?h1050
              case h1050 =>
               refine' qs_exprS ?h1051
               case h1051 =>
                refine' qe_bm PySem.F.plainAttrs_list PySem.F.slot_list_append PySem.F.type_list_append mt_append (qv 6) ?h1052
                case h1052 =>
                 exact qa_c (qv 7) qa_nil
        case h1030 =>
         refine' qss_one ?h1053
         case h1053 =>
          exact qs_ret (qv 6)
    case rr =>
    walk_at "s"
    walk_at "w"
    refine rd_eqS ?_
    by_cases hwd : nm = "wide"
    · rw [decide_eq_true hwd]
      walk_at "w"
      refine iteT ?_
      walk_at "w"
      have hy3 : y' = 2 * y := by
        rcases hst with ⟨_, _, h, _⟩ | ⟨h, _⟩ | ⟨h, _⟩ | ⟨h, _⟩
        · exact h
        all_goals (rw [hwd] at h; exact absurd h (by decide +kernel))
      have hP : ∀ k : Nat, ((decide (y' = 2 * y) && (decide (2 * k ∈ ks) && decide (2 * k + 1 ∈ ks))) || ks.any fun (j : Nat) => decide (y' = y ∧ b' + (k : Int) * y' = b + (j : Int) * y')) = (decide (2 * k ∈ ks) && decide (2 * k + 1 ∈ ks)) := fun k => by
        rw [decide_eq_true hy3, Bool.true_and]
        have : (ks.any fun (j : Nat) => decide (y' = y ∧ b' + (k : Int) * y' = b + (j : Int) * y')) = false := by
          rw [List.any_eq_false]
          intro j _
          rw [decide_eq_true_iff]
          rintro ⟨h, _⟩
          omega
        rw [this, Bool.or_false]
      refine rd_rng (by omega) (by omega) ?_
      intro l2 n2
      refine comp_by m'.toNat (fun i σ' H' => (∃ o, σ' = [o, some (.ref l)]) ∧ Same H H' ∧ H' l2 = some (.lst (natL ((List.range i).filter fun (k : Nat) => decide (2 * k ∈ ks) && decide (2 * k + 1 ∈ ks))))) ?_ ?_ ?_
      · exact ⟨⟨none, rfl⟩, Same.new n2, upd_same⟩
      · rintro σ' H2 ⟨_, S2, f2⟩
        refine ⟨Nat.le_refl _, ?_⟩
        walk_at "w"
        refine kk l2 H2 n2 ?_ S2
        rw [f2]
        congr 4
        funext k
        exact (hP k).symm
      · rintro i σ' H2 hi ⟨⟨o, rfl⟩, S2, f2⟩
        refine ⟨hi, ?_⟩
        rintro x H'' ⟨rfl, rfl⟩
        have hl2 := S2 _ _ hl
        have hle := List.length_filter_le (fun (k : Nat) => decide (2 * k ∈ ks) && decide (2 * k + 1 ∈ ks)) (List.range i)
        rw [List.length_range] at hle
        have skip : (decide (2 * i ∈ ks) && decide (2 * i + 1 ∈ ks)) = false → (List.range (i + 1)).filter (fun (k : Nat) => decide (2 * k ∈ ks) && decide (2 * k + 1 ∈ ks)) = (List.range i).filter fun (k : Nat) => decide (2 * k ∈ ks) && decide (2 * k + 1 ∈ ks) := fun h => by
          rw [filt_succ, if_neg (by rw [h]; decide), List.append_nil]
        walk_at "w"
        refine rd_inN (k := 2 * i) (by omega) hl2 ?_
        by_cases c1 : 2 * i ∈ ks
        · rw [decide_eq_true c1]
          walk_at "w"
          refine iteT ?_
          walk_at "w"
          refine rd_inN (k := 2 * i + 1) (by omega) hl2 ?_
          by_cases c2 : 2 * i + 1 ∈ ks
          · rw [decide_eq_true c2]
            walk_at "w"
            refine iteT ?_
            walk_at "w"
            refine ⟨_, f2, ?_, ⟨_, rfl⟩, S2.kpN n2 Kp.upd, ?_⟩
            · unfold natL
              rw [List.length_map]
              show _ < 2 ^ 24
              omega
            · rw [filt_succ, if_pos (by rw [decide_eq_true c1, decide_eq_true c2]; rfl), natL_app]
              have e0 : (0 + (i : Int)) = (i : Int) := by omega
              rw [e0]
              exact upd_same
          · rw [decide_eq_false c2]
            walk_at "w"
            refine iteF ?_
            refine ⟨⟨_, rfl⟩, S2, ?_⟩
            rw [skip (by rw [decide_eq_false c2, Bool.and_false])]
            exact f2
        · rw [decide_eq_false c1]
          walk_at "w"
          refine iteF ?_
          walk_at "w"
          refine ⟨⟨_, rfl⟩, S2, ?_⟩
          rw [skip (by rw [decide_eq_false c1, Bool.false_and])]
          exact f2
    · rw [decide_eq_false hwd]
      walk_at "w"
      refine iteF ?_
      have hy3 : ¬ y' = 2 * y := fun z => by
        rcases hst with ⟨h, _⟩ | ⟨_, _, _, h, _⟩ | ⟨_, _, _, _, h, _⟩ | ⟨_, _, _, _, h, _⟩
        · exact hwd h
        all_goals omega
      have hP : ∀ k : Nat, ((decide (y' = 2 * y) && (decide (2 * k ∈ ks) && decide (2 * k + 1 ∈ ks))) || ks.any fun (j : Nat) => decide (y' = y ∧ b' + (k : Int) * y' = b + (j : Int) * y')) = ks.any fun (j : Nat) => decide (y' = y ∧ b' + (k : Int) * y' = b + (j : Int) * y') := fun k => by
        rw [decide_eq_false hy3, Bool.false_and, Bool.false_or]
      have hy4 := winv_wide hw
      walk_at "w"
      refine rd_new (by show 0 ≤ sizeLine; decide) fun lf H1 n1 f1 S1 => ?_
      have nl : l ≠ lf := ne_of_none hl n1
      have ntp : ∀ {e : Addr} {xs : List V}, H e = some (.tup xs) → e ≠ lf := fun g => ne_of_none g n1
      walk_at "w"
      refine rd_rng (by omega) (by omega) (rd_forR (fun i σ H' => (∃ v7 v8, σ = [some (.ref u), some (.ref q), some (.ref l), some (.int b'), some (.int y'), some (.int m'), some (.ref lf), v7, v8]) ∧ Kp lf H1 H' ∧ H' lf = some (.lst (natL ((List.range i).filter fun (k : Nat) => ks.any fun (j : Nat) => decide (y' = y ∧ b' + (k : Int) * y' = b + (j : Int) * y'))))) ?_ ?_ ?_)
      · exact ⟨⟨_, _, rfl⟩, fun _ _ e _ => e, f1⟩
      · rintro i σ H2 hi ⟨⟨v7, v8, rfl⟩, K2, f2⟩
        have e0 : (0 + (i : Int)) = (i : Int) := by omega
        rw [e0]
        generalize hpv : ((List.range i).filter fun (k : Nat) => ks.any fun (j : Nat) => decide (y' = y ∧ b' + (k : Int) * y' = b + (j : Int) * y')) = prev at f2
        have hle : prev.length ≤ i := by
          rw [← hpv]
          have := List.length_filter_le (fun (k : Nat) => ks.any fun (j : Nat) => decide (y' = y ∧ b' + (k : Int) * y' = b + (j : Int) * y')) (List.range i)
          rwa [List.length_range] at this
        have k02 : ∀ {e : Addr} {o : HO}, H e = some o → H2 e = some o := fun h => K2 _ _ (S1 _ _ h) (ne_of_none h n1)
        have hl2 := k02 hl
        walk_at "w"
        refine rd_forL (xs := natL ks) (fun i2 σ H' => (∃ v8, σ = [some (.ref u), some (.ref q), some (.ref l), some (.int b'), some (.int y'), some (.int m'), some (.ref lf), some (.int (i : Int)), v8]) ∧ Kp lf H1 H' ∧ H' lf = some (.lst (natL (prev ++ if ((ks.take i2).any fun (j : Nat) => decide (y' = y ∧ b' + (i : Int) * y' = b + (j : Int) * y')) = true then [i] else [])))) ?_ ?_ ?_ ?_
        · exact ⟨⟨_, rfl⟩, K2, by rw [List.take_zero, List.any_nil, if_neg (by decide), List.append_nil]; exact f2⟩
        · rintro i2 σ H3 _ ⟨_, K3, _⟩
          exact SqL.of (K3 _ _ (S1 _ _ hl) nl)
        · rintro i2 x σ H3 hx ⟨⟨v8, rfl⟩, K3, f3⟩
          unfold natL at hx
          rw [List.getElem?_map] at hx
          obtain ⟨j0, hj, rfl⟩ := Option.map_eq_some_iff.mp hx
          have hjm := hks j0 (List.mem_of_getElem? hj)
          have hq3 := K3 _ _ (S1 _ _ hq) (ntp hq)
          have tk : (ks.take (i2 + 1)).any (fun (j : Nat) => decide (y' = y ∧ b' + (i : Int) * y' = b + (j : Int) * y')) = ((ks.take i2).any (fun (j : Nat) => decide (y' = y ∧ b' + (i : Int) * y' = b + (j : Int) * y')) || decide (y' = y ∧ b' + (i : Int) * y' = b + (j0 : Int) * y')) := by
            rw [List.take_succ, hj, List.any_append]
            simp
          have hfirst : (y' = y ∧ b' + (i : Int) * y' = b + (j0 : Int) * y') → ((ks.take i2).any fun (j : Nat) => decide (y' = y ∧ b' + (i : Int) * y' = b + (j : Int) * y')) = false := fun h => by
            rw [List.any_eq_false]
            intro j1 hj1
            rw [decide_eq_true_iff]
            rintro ⟨_, h1⟩
            have e1 : (j1 : Int) * y' = (j0 : Int) * y' := by omega
            have e2 := Int.eq_of_mul_eq_mul_right (by omega) e1
            have e3 : j1 = j0 := by omega
            obtain ⟨z, hz, hz2⟩ := List.getElem_of_mem hj1
            rw [List.length_take] at hz
            rw [List.getElem_take] at hz2
            obtain ⟨w1, w2⟩ := List.getElem?_eq_some_iff.mp hj
            have := (List.getElem_inj hnd).mp ((hz2.trans e3).trans w2.symm)
            omega
          have skip : ¬ (y' = y ∧ b' + (i : Int) * y' = b + (j0 : Int) * y') → H3 lf = some (.lst (natL (prev ++ if ((ks.take (i2 + 1)).any fun (j : Nat) => decide (y' = y ∧ b' + (i : Int) * y' = b + (j : Int) * y')) = true then [i] else []))) := fun h => by
            rw [tk, decide_eq_false h, Bool.or_false]
            exact f3
          walk_at "w"
          rw [dec_i]
          refine iteD (fun c1 => ?_) (fun c1 => ?_)
          · walk_at "w"
            rw [dec_i]
            refine iteD (fun c2 => ?_) (fun c2 => ?_)
            · rw [hfirst ⟨c1, c2⟩, if_neg (by decide), List.append_nil] at f3
              walk_at "w"
              refine ⟨tyL f3, ?_⟩
              walk_at "w"
              refine rd_append f3 (by unfold natL; rw [List.length_map]; show _ < 2 ^ 24; omega) fun H4 f4 K4 => ?_
              walk_at "w"
              refine ⟨⟨_, rfl⟩, K3.trans K4, ?_⟩
              rw [tk, decide_eq_true ⟨c1, c2⟩, Bool.or_true, if_pos rfl, natL_app]
              exact f4
            · walk_at "w"
              exact ⟨⟨_, rfl⟩, K3, skip fun h => c2 h.2⟩
          · walk_at "w"
            exact ⟨⟨_, rfl⟩, K3, skip fun h => c1 h.1⟩
        · rintro σ H3 ⟨⟨v8, rfl⟩, K3, f3⟩
          rw [show (natL ks).length = ks.length from List.length_map _, List.take_length] at f3
          refine ⟨⟨_, _, rfl⟩, K3, ?_⟩
          rw [filt_succ, hpv]
          exact f3
      · rintro σ H2 ⟨⟨v7, v8, rfl⟩, K2, f2⟩
        walk_at "w"
        refine kk lf H2 n1 ?_ fun b o e => K2 _ _ (S1 _ _ e) (ne_of_none e n1)
        rw [f2]
        congr 4
        funext k
        exact (hP k).symm
end
theorem nodup_cols (kvs : List (List Key × V)) (b y : Int) (N : Nat) : (cols kvs b y N).Nodup := List.Nodup.sublist List.filter_sublist List.nodup_range
theorem len_cols (kvs : List (List Key × V)) (b y : Int) (N : Nat) : (cols kvs b y N).length ≤ N := by
  have := miss_cols kvs b y N
  omega
theorem hit_nil (ts : List Int) (x z : Int) : ¬ hit (ts.drop ts.length) x z := fun ⟨t, ht, _⟩ => by rw [List.drop_length] at ht; cases ht
theorem cols_step {n : Str} {c b y m b' y' m' : Int} {kvs kvs' : List (List Key × V)} (hst : StepTo n c b y m b' y' m') (hy : 0 < y) (hw : WinV b' y' m') (hk : ∀ x z, has kvs x z = true → Col b y m x z) (hi : ∀ x z, Col b' y' m' x z → (has kvs' x z = true ↔ Kin kvs x z)) :
    cols kvs' b' y' m'.toNat = (List.range m'.toNat).filter fun (k : Nat) => (decide (y' = 2 * y) && (decide (2 * k ∈ cols kvs b y m.toNat) && decide (2 * k + 1 ∈ cols kvs b y m.toNat))) || (cols kvs b y m.toNat).any fun (j : Nat) => decide (y' = y ∧ b' + (k : Int) * y' = b + (j : Int) * y') := by
  unfold cols
  apply List.filter_congr
  intro k hk0
  rw [List.mem_range] at hk0
  obtain ⟨hy', hm1, hm2, _⟩ := hw
  rw [Bool.eq_iff_iff, hi _ _ ⟨(k : Int), by omega, by omega, rfl, rfl⟩, Bool.or_eq_true, Bool.and_eq_true, Bool.and_eq_true, decide_eq_true_iff, decide_eq_true_iff, decide_eq_true_iff, List.any_eq_true]
  have hcol : ∀ {x z : Int}, has kvs x z = true → ∃ j : Nat, j < m.toNat ∧ x = b + (j : Int) * y ∧ z = b + (j : Int) * y + y ∧ has kvs (b + (j : Int) * y) (b + (j : Int) * y + y) = true := fun {x z} h => by
    obtain ⟨j, j0, j1, e1, e2⟩ := hk _ _ h
    refine ⟨j.toNat, by omega, by rw [Int.toNat_of_nonneg j0]; exact e1, by rw [Int.toNat_of_nonneg j0]; exact e2, ?_⟩
    rw [Int.toNat_of_nonneg j0, ← e1, show x + y = z by omega]
    exact h
  have mc : ∀ j : Nat, j ∈ (List.range m.toNat).filter (fun (j : Nat) => has kvs (b + (j : Int) * y) (b + (j : Int) * y + y)) ↔ j < m.toNat ∧ has kvs (b + (j : Int) * y) (b + (j : Int) * y + y) = true := fun j => by rw [List.mem_filter, List.mem_range]
  rw [mc, mc]
  generalize hX : b' + (k : Int) * y' = X
  constructor
  · rintro (h | ⟨h1, h2⟩)
    · obtain ⟨j, hj, e1, e2, e3⟩ := hcol h
      have ey : y' = y := by omega
      exact .inr ⟨j, (mc j).mpr ⟨hj, e3⟩, by rw [decide_eq_true_iff]; exact ⟨ey, by rw [ey]; exact e1⟩⟩
    · obtain ⟨j1, hj1, e1, e2, e3⟩ := hcol h1
      obtain ⟨j2, hj2, g1, g2, g3⟩ := hcol h2
      have ey : y' = 2 * y := by omega
      have eb : b' = b := by
        rcases hst with ⟨_, h, _⟩ | ⟨_, _, h, h', _⟩ | ⟨_, _, _, h, h', _⟩ | ⟨_, _, _, h, h', _⟩
        · exact h
        · exact h
        all_goals omega
      have ek : (k : Int) * y' = (2 * (k : Int)) * y := by rw [ey, ← Int.mul_assoc, Int.mul_comm (k : Int) 2]
      have e4 : (j1 : Int) * y = (2 * (k : Int)) * y := by omega
      have e5 := Int.eq_of_mul_eq_mul_right (by omega) e4
      have g4 : (j2 : Int) * y = (2 * (k : Int) + 1) * y := by rw [Int.add_mul, Int.one_mul]; omega
      have g5 := Int.eq_of_mul_eq_mul_right (by omega) g4
      have f1 : j1 = 2 * k := by omega
      have f2 : j2 = 2 * k + 1 := by omega
      subst f1 f2
      exact .inl ⟨ey, ⟨hj1, e3⟩, hj2, g3⟩
  · rintro (⟨ey, ⟨h1, h2⟩, h3, h4⟩ | ⟨j, hj, h⟩)
    · have eb : b' = b := by
        rcases hst with ⟨_, h, _⟩ | ⟨_, _, h, h', _⟩ | ⟨_, _, _, h, h', _⟩ | ⟨_, _, _, h, h', _⟩
        · exact h
        · exact h
        all_goals omega
      have ek : (k : Int) * y' = ((2 * k : Nat) : Int) * y := by rw [ey, ← Int.mul_assoc, Int.mul_comm (k : Int) 2]; rfl
      have ek2 : ((2 * k + 1 : Nat) : Int) * y = ((2 * k : Nat) : Int) * y + y := by
        rw [show ((2 * k + 1 : Nat) : Int) = ((2 * k : Nat) : Int) + 1 from by omega, Int.add_mul, Int.one_mul]
      have em : (X + (X + y')) / 2 = X + y := by omega
      refine .inr ⟨?_, ?_⟩
      · rw [em, show X = b + ((2 * k : Nat) : Int) * y by omega]
        exact h2
      · rw [em, show X + y = b + ((2 * k + 1 : Nat) : Int) * y by omega, show X + y' = b + ((2 * k + 1 : Nat) : Int) * y + y by omega]
        exact h4
    · rw [decide_eq_true_iff] at h
      obtain ⟨ey, e1⟩ := h
      have := ((mc j).mp hj).2
      rw [ey] at e1
      rw [← e1] at this
      refine .inl ?_
      rw [ey]
      exact this
def Iv (a : Ad) (H : Hp) (S : SA) (v q l ln : Addr) (sm : List (Int × Int)) (due : Int) (i : Nat) (xs : List V) : Prop :=
  ∃ (n : Int) (c : Nat) (d : Addr) (b y m : Int) (kvs : List (List Key × V)), StoreAt a H S n sm c [] [] [] ∧ ViewAt a H S v d b y m due kvs 0 sm [] ∧ WinT H q b y m ∧ m ≤ 12 ∧ H l = some (.lst (natL (cols kvs b y m.toNat))) ∧ kvs.length ≤ 100 * i + 12 ∧ H ln = some (.lst xs)
theorem Iv.same {a : Ad} {H H' : Hp} {S : SA} {v q l ln : Addr} {sm : List (Int × Int)} {due : Int} {i : Nat} {xs : List V} (h : Iv a H S v q l ln sm due i xs) (s : Same H H') : Iv a H' S v q l ln sm due i xs := by
  obtain ⟨n, c, d, b, y, m, kvs, h1, h2, h3, h4, h5, h6, h7⟩ := h
  exact ⟨n, c, d, b, y, m, kvs, h1.same s, h2.same s, ⟨s _ _ h3.1, h3.2⟩, h4, s _ _ h5, h6, s _ _ h7⟩
theorem Iv.pot {a : Ad} {H H' : Hp} {S : SA} {v q l ln p : Addr} {sm : List (Int × Int)} {due : Int} {i : Nat} {xs : List V} (h : Iv a H S v q l ln sm due i xs) (hp : Pot H p) (k : Kp p H H') (n1 : p ∉ S.ls) (n2 : p ≠ l) (n3 : p ≠ ln) : Iv a H' S v q l ln sm due i xs := by
  obtain ⟨n, c, d, b, y, m, kvs, h1, h2, h3, h4, h5, h6, h7⟩ := h
  have hs := h1.pot hp k n1
  obtain ⟨x1, x2, e, _⟩ := hp
  have nt : ∀ b ∈ [p], ∀ ys, H b ≠ some (.tup ys) := fun b hb ys z => by
    obtain rfl : b = p := (by simpa using hb)
    rw [e] at z; cases z
  obtain ⟨dx, q0, g1, _, g3, _⟩ := id h2
  refine ⟨n, c, d, b, y, m, kvs, hs, h2.frL (FrL.kp k (l := [p]) (by simp)) (fun z => ?_) (fun z => ?_) nt, ⟨k _ _ h3.1 fun z => nt q (by simp [z]) _ h3.1, h3.2⟩, h4, k _ _ h5 (Ne.symm n2), h6, k _ _ h7 (Ne.symm n3)⟩
  · obtain rfl : v = p := (by simpa using z)
    rw [e] at g1; cases g1
  · obtain rfl : d = p := (by simpa using z)
    rw [e] at g3; cases g3
theorem miss_eq {kvs kvs1 : List (List Key × V)} (h : ∀ x z, has kvs1 x z = true ↔ has kvs x z = true ∧ ¬ hit (([] : List Int).drop 0) x z) (b y : Int) (N : Nat) : miss kvs1 b y N = miss kvs b y N := by
  have e : ∀ x z, has kvs1 x z = has kvs x z := fun x z => by
    rw [Bool.eq_iff_iff, h]
    exact ⟨fun g => g.1, fun g => ⟨g, fun ⟨t, ht, _⟩ => by cases ht⟩⟩
  unfold miss
  congr 2
  funext p
  rw [e]
theorem cols_all {kvs : List (List Key × V)} {b y m : Int} (h : ∀ x z, Col b y m x z → has kvs x z = true) : cols kvs b y m.toNat = List.range m.toNat := by
  unfold cols
  rw [List.filter_eq_self]
  intro j hj
  rw [List.mem_range] at hj
  exact h _ _ ⟨(j : Int), by omega, by omega, rfl, rfl⟩
theorem ViewAt.cols {a : Ad} {H : Hp} {S : SA} {v d : Addr} {b y m n : Int} {kvs : List (List Key × V)} {e : Nat} {sm : List (Int × Int)} {ts : List Int} (h : ViewAt a H S v d b y m n kvs e sm ts) : ∀ x z, has kvs x z = true → Col b y m x z := fun x z hh => by
  obtain ⟨dx, q, h1, h2, h3, h4, _⟩ := h
  obtain ⟨w, hw⟩ := Option.isSome_iff_exists.mp hh
  exact (h4 x z w hw).1
def spLaw (K : PySem.W.Frag) : Sp := fun vs H Q _ => ∃ (s : Addr) (ns : List Int), vs = [.ref s] ∧ SqL K H s (ns.map V.int) ∧ ns.length ≤ 63 ∧ ∀ H', Q (.bl true) H'
section
variable {P : Program} {w : World} {K : PySem.W.Frag} {mg : Str → Option Value} {base : Heap} {a : Ad}
local macro_rules | `(tactic| walk_at "rd") => `(tactic| first
  | with_reducible refine rd_fld (by assumption) (‹Txt _ _ _›).c_View (‹Txt _ _ _›).n_View_asked vfl_asked ?_
  | with_reducible refine rd_listRng0 ?_)
theorem sc_law : FnScope ["_law_script", "_law_pot_here", "_law_window_here", "_law_made", "_law_view", "_law_known_here", "_law_due", "_law_number", "_law_step_here"] ["_law_script"] (defScope s_law) := ⟨rfl, rfl, rfl, by decide +kernel, rfl, by decide +kernel, by decide +kernel⟩
theorem ok_law (T : Txt K mg a) : FnOk P w K mg base CX0 9 a.f_law a.d_law ["_law_script"] (spLaw K) := by
  refine T.F_law.ok sc_law (fun vs H Q E h => ?_) (fun cdv A outer s H vs Q E hr h => ?_)
  · obtain ⟨s, ns, rfl, _⟩ := h
    rfl
  · obtain ⟨s, ns, rfl, hS, hn, k⟩ := h
    have hu := hu_of hr
    refine' ⟨_, QB.h ?pp, ?rr⟩
    case pp =>
     refine' qss_cons ?h1054 ?h1055
     case h1054 =>
      refine' qs_setS (i := 1) sc_law.nd rfl (by walk_at "o") ?h1056
      case h1056 =>
       refine' qe_callS (ok_l_pot T) (hr.mono (by decide)) rfl T.m_l_pot T.F_l_pot.kp T.b_l_pot .nil pass0 ?h1057
       case h1057 =>
        refine' qa_c ?h1058 qa_nil
        case h1058 =>
         refine' qe_callS (ok_l_cell T) (hr.mono (by decide)) rfl T.m_l_cell T.F_l_cell.kp T.b_l_cell .nil pass0 ?h1059
         case h1059 =>
          refine' qa_c (qv 0) ?h1060
          case h1060 =>
           exact qa_c qe_int qa_nil
     case h1055 =>
      refine' qss_cons ?h1061 ?h1062
      case h1061 =>
       refine' qs_setS (i := 2) sc_law.nd rfl (by walk_at "o") ?h1063
       case h1063 =>
        refine' qe_callS (ok_l_window T) (hr.mono (by decide)) rfl T.m_l_window T.F_l_window.kp T.b_l_window .nil pass0 ?h1064
        case h1064 =>
         exact qa_c (qv 1) qa_nil
      case h1062 =>
       refine' qss_cons ?h1065 ?h1066
       case h1065 =>
        refine' qs_setS (i := 3) sc_law.nd rfl (by walk_at "o") ?h1067
        case h1067 =>
         refine' qe_callS (ok_l_curve T) (hr.mono (by decide)) rfl T.m_l_curve T.F_l_curve.kp T.b_l_curve .nil pass0 ?h1068
         case h1068 =>
          refine' qa_c (qv 1) ?h1069
          case h1069 =>
           exact qa_c (qv 2) qa_nil
       case h1066 =>
        refine' qss_cons ?h1070 ?h1071
        case h1070 =>
         refine' qs_setS (i := 4) sc_law.nd rfl (by walk_at "o") ?h1072
         case h1072 =>
          refine' qe_make T.Mk_View (ok_View___init__ T) (hr.mono (by decide)) rfl T.m_View T.b_View___init__ .nil pass0 ?h1073
          case h1073 =>
           refine' qa_c ?h1074 ?h1075
           case h1074 =>
            refine' qe_make T.Mk_Store (ok_Store___init__ T) hr rfl T.m_Store T.b_Store___init__ .nil pass0 ?h1076
            case h1076 =>
             refine' qa_c ?h1077 qa_nil
             case h1077 =>
              refine' qe_callTyS (kc_tuple K rfl) rfl T.z_tuple bt_tuple ?h1078
              case h1078 =>
               refine' qa_c ?h1079 qa_nil
               case h1079 =>
                refine' qe_comp (N := ["_law_script", "_law_pot_here", "_law_window_here", "_law_made", "_law_view", "_law_known_here", "_law_due", "_law_number", "_law_step_here"]) (sc := defScope s_law) (own := ["_law_t"]) (caps := ["_law_made"]) (ks := [3]) rfl rfl rfl ⟨rfl, by decide +kernel, by decide +kernel, by decide +kernel, by decide +kernel, rfl, by decide +kernel⟩ ?h1080 ?h1081 ?h1082 ?h1083
                case h1080 =>
                 refine' ki_list K rfl ?h1084
                 case h1084 =>
                  refine' qe_callBS (kc_sortedD rfl) rfl T.z_sorted bt_sorted ?h1085
                  case h1085 =>
                   exact qa_c (qv 3) qa_nil
                case h1081 =>
                 intro _ _ _ _ _
                 exact qg_name (i := 0) (show List.Nodup (α := Str) ["_law_t", "_law_made"] from by decide +kernel) rfl (by walk_at "o") (.inr rfl)
                case h1082 =>
                 intro _ _ _ _ _
                 exact qifs_nil
                case h1083 =>
                 intro _ _ _ _ _
                 refine' qe_tup ?h1086
                 case h1086 =>
                  refine' qa_c (qv 0) ?h1087
                  case h1087 =>
                   refine' qa_c ?h1088 qa_nil
                   case h1088 =>
                    exact qe_dget hu (qv 1) (qv 0)
           case h1075 =>
            exact qa_c (qv 2) qa_nil
        case h1071 =>
         refine' qss_cons ?h1089 ?h1090
         case h1089 =>
          refine' qs_setS (i := 5) sc_law.nd rfl (by walk_at "o") ?h1091
          case h1091 =>
           exact qe_lst qa_nil
         case h1090 =>
          refine' qss_cons ?h1092 ?h1093
          case h1092 =>
           exact qs_setS (i := 6) sc_law.nd rfl (by walk_at "o") qe_int
          case h1093 =>
           refine' qss_cons ?h1094 ?h1095
           case h1094 =>
            refine' qs_for PassesOwn.never rfl ?h1096 (qg_name (i := 7) sc_law.nd rfl (by walk_at "o")) ?h1097
            case h1096 =>
             refine' ki_list K rfl ?h1098
             case h1098 =>
              refine' qe_op op_cat ?h1099 ?h1100
              case h1099 =>
               refine' qe_lst ?h1101
               case h1101 =>
                refine' qa_c ?h1102 qa_nil
                case h1102 =>
                 refine' qe_callS (ok_l_cell T) (hr.mono (by decide)) rfl T.m_l_cell T.F_l_cell.kp T.b_l_cell .nil pass0 ?h1103
                 case h1103 =>
                  refine' qa_c (qv 0) ?h1104
                  case h1104 =>
                   exact qa_c qe_int qa_nil
              case h1100 =>
               refine' qe_slice (kl_list K rfl) (qv 0) ?h1105 ?h1106
               case h1105 =>
                exact qo_some qe_int
               case h1106 =>
                exact qo_some qe_int
            case h1097 =>
             refine' qss_cons ?h1107 ?h1108
             case h1107 =>
              refine' qs_setS (i := 1) sc_law.nd rfl (by walk_at "o") ?h1109
              case h1109 =>
               refine' qe_callS (ok_l_pot T) (hr.mono (by decide)) rfl T.m_l_pot T.F_l_pot.kp T.b_l_pot .nil pass0 ?h1110
               case h1110 =>
                exact qa_c (qv 7) qa_nil
             case h1108 =>
              refine' qss_cons ?h1111 ?h1112
              case h1111 =>
               refine' qs_setS (i := 8) sc_law.nd rfl (by walk_at "o") ?h1113
               case h1113 =>
                refine' qe_callS (ok_l_step T) (hr.mono (by decide)) rfl T.m_l_step T.F_l_step.kp T.b_l_step .nil pass0 ?h1114
                case h1114 =>
                 refine' qa_c (qv 1) ?h1115
                 case h1115 =>
                  exact qa_c (qv 2) qa_nil
              case h1112 =>
               refine' qss_cons ?h1116 ?h1117
               case h1116 =>
                refine' qs_if ?h1118 ?h1119 qss_nil
                case h1118 =>
                 refine' QW.pt ?h1120
                 case h1120 =>
                  refine' qw_and ?h1121 ?h1122
                  case h1121 =>
                   refine' qt_cmpR (op_gt) ?h1123 qe_int (nomark _)
                   case h1123 =>
                    refine' qe_callS (ok_l_draw T) (hr.mono (by decide)) rfl T.m_l_draw T.F_l_draw.kp T.b_l_draw .nil pass0 ?h1124
                    case h1124 =>
                     refine' qa_c (qv 1) ?h1125
                     case h1125 =>
                      exact qa_c qe_int qa_nil
                  case h1122 =>
                   refine' qw_and1 ?h1126
                   case h1126 =>
                    refine' qt_val ?h1127
                    case h1127 =>
                     refine' qe_callS (ok_l_within T) (hr.mono (by decide)) rfl T.m_l_within T.F_l_within.kp T.b_l_within .nil pass0 ?h1128
                     case h1128 =>
                      refine' qa_c ?h1129 qa_nil
                      case h1129 =>
                       exact qe_ix (kx_tup K rfl) (qv 8) qe_int
                case h1119 =>
                 refine' qss_cons ?h1130 ?h1131
                 case h1130 =>
                  refine' qs_exprS ?h1132
                  case h1132 =>
                   refine' qe_callS (ok_l_go T) (hr.mono (by decide)) rfl T.m_l_go T.F_l_go.kp T.b_l_go .nil pass0 ?h1133
                   case h1133 =>
                    refine' qa_c (qv 4) ?h1134
                    case h1134 =>
                     exact qa_c (qv 8) qa_nil
                 case h1131 =>
                  refine' qss_cons ?h1135 ?h1136
                  case h1135 =>
                   refine' qs_setS (i := 5) sc_law.nd rfl (by walk_at "o") ?h1137
                   case h1137 =>
                    refine' qe_callS (ok_l_known T) (hr.mono (by decide)) rfl T.m_l_known T.F_l_known.kp T.b_l_known .nil pass0 ?h1138
                    case h1138 =>
                     refine' qa_c (qv 8) ?h1139
                     case h1139 =>
                      refine' qa_c (qv 2) ?h1140
                      case h1140 =>
                       exact qa_c (qv 5) qa_nil
                  case h1136 =>
                   refine' qss_one ?h1141
                   case h1141 =>
                    refine' qs_setS (i := 2) sc_law.nd rfl (by walk_at "o") ?h1142
                    case h1142 =>
                     exact qe_ix (kx_tup K rfl) (qv 8) qe_int
               case h1117 =>
                refine' qss_cons ?h1143 ?h1144
                case h1143 =>
                 refine' qs_if ?h1145 ?h1146 qss_nil
                 case h1145 =>
                  refine' QW.pt ?h1147
                  case h1147 =>
                   refine' qw_or ?h1148 ?h1149
                   case h1148 =>
                    refine' qt_cmpR (op_ne) ?h1150 (qv 6) (nomark _)
                    case h1150 =>
                     exact ke_fld K rfl (qv 4)
                   case h1149 =>
                    refine' qw_or1 ?h1151
                    case h1151 =>
                     refine' qt_val ?h1152
                     case h1152 =>
                      refine' qe_callBS (kc_isi K rfl) rfl T.z_isinstance bt_isinstance ?h1153
                      case h1153 =>
                       refine' qa_c ?h1154 ?h1155
                       case h1154 =>
                        exact ke_fld K rfl (qv 4)
                       case h1155 =>
                        exact qa_c (qe_bltn (v := .ty "bool") rfl T.z_bool bt_bool rfl) qa_nil
                 case h1146 =>
                  refine' qss_one ?h1156
                  case h1156 =>
                   exact qs_ret qe_bl
                case h1144 =>
                 refine' qss_cons ?h1157 ?h1158
                 case h1157 =>
                  refine' qs_if ?h1159 ?h1160 qss_nil
                  case h1159 =>
                   refine' qt_cmpR (op_gt) ?h1161 qe_int (nomark _)
                   case h1161 =>
                    refine' qe_callS (ok_l_draw T) (hr.mono (by decide)) rfl T.m_l_draw T.F_l_draw.kp T.b_l_draw .nil pass0 ?h1162
                    case h1162 =>
                     refine' qa_c (qv 1) ?h1163
                     case h1163 =>
                      exact qa_c qe_int qa_nil
                  case h1160 =>
                   refine' qss_cons ?h1164 ?h1165
                   case h1164 =>
                    refine' qs_aug (i := 6) sc_law.nd rfl (by walk_at "o") iop_add ?h1166
                    case h1166 =>
                     refine' qe_op op_sub ?h1167 ?h1168
                     case h1167 =>
                      exact qe_ix (kx_tup K rfl) (qv 2) qe_int
                     case h1168 =>
                      refine' qe_callBS (kc_len K rfl) rfl T.z_len bt_len ?h1169
                      case h1169 =>
                       exact qa_c (qv 5) qa_nil
                   case h1165 =>
                    refine' qss_cons ?h1170 ?h1171
                    case h1170 =>
                     refine' qs_setS (i := 5) sc_law.nd rfl (by walk_at "o") ?h1172
                     case h1172 =>
                      refine' qe_listRng rfl rfl T.z_list rfl T.z_range ?h1173
                      case h1173 =>
                       refine' qa_c ?h1174 qa_nil
                       case h1174 =>
                        exact qe_ix (kx_tup K rfl) (qv 2) qe_int
                    case h1171 =>
                     refine' qss_one ?h1175
                     case h1175 =>
                      refine' qs_exprS ?h1176
                      case h1176 =>
                       exact qe_meth0 (qv 4) T.c_View T.M_View_fours (ok_View_fours T) (hr.mono (by decide)) T.b_View_fours .nil pass0
                 case h1158 =>
                  refine' qss_one ?h1177
                  case h1177 =>
                   refine' qs_if ?h1178 ?h1179 qss_nil
                   case h1178 =>
                    refine' qt_cmpR (op_ne) ?h1180 (qv 6) (nomark _)
                    case h1180 =>
                     exact ke_fld K rfl (qv 4)
                   case h1179 =>
                    refine' qss_one ?h1181
                    case h1181 =>
                     exact qs_ret qe_bl
           case h1095 =>
            refine' qss_cons ?h1182 ?h1183
            case h1182 =>
             refine' qs_exprS ?h1184
             case h1184 =>
              exact qe_meth0 (qv 4) T.c_View T.M_View_fours (ok_View_fours T) (hr.mono (by decide)) T.b_View_fours .nil pass0
            case h1183 =>
             refine' qss_one ?h1185
             case h1185 =>
              refine' qs_ret ?h1186
              case h1186 =>
               refine' qe_cmpR (op_eq) ?h1187 ?h1188 (nomark _)
               case h1187 =>
                exact ke_fld K rfl (qv 4)
               case h1188 =>
                refine' qe_op op_sub ?h1189 ?h1190
                case h1189 =>
                 refine' qe_op op_add (qv 6) ?h1191
                 case h1191 =>
                  exact qe_ix (kx_tup K rfl) (qv 2) qe_int
                case h1190 =>
                 refine' qe_callBS (kc_len K rfl) rfl T.z_len bt_len ?h1192
                 case h1192 =>
                  exact qa_c (qv 5) qa_nil
    case rr =>
    walk_at "s"
    walk_at "w"
    refine ⟨s, ns, 0, rfl, hS, by decide, ?_⟩
    walk_at "w"
    refine ⟨_, rfl, fun p H1 n1 P1 S1 => ?_⟩
    walk_at "w"
    refine ⟨p, rfl, P1, fun q b y m H2 hW hm P2 K2 => ?_⟩
    walk_at "w"
    refine ⟨p, q, b, y, m, rfl, P2, hW, fun d ps H3 n3 f3 hnd hpl hps P3 K3 => ?_⟩
    have np : ∀ {e : Addr} {o : HO}, H e = some o → e ≠ p := fun g => ne_of_none g n1
    have K13 : Kp p H1 H3 := K2.trans K3
    have S03 : Same H H3 := fun e o g => K13 _ _ (S1 _ _ g) (np g)
    walk_at "w"
    refine rd_sortedI f3 (by omega) fun l4 H4 is n4 f4 hp hs S4 => ?_
    have hnl : is.length = ps.length := by have := hp.length_eq; simpa using this
    walk_at "w"
    intro l5 n5
    refine comp_by is.length (fun i σ' H' => (∃ o, σ' = [o, some (.ref d)]) ∧ Same H4 H' ∧ ∃ vs, H' l5 = some (.lst vs) ∧ PairsAt H' vs ((curveBy ps is).take i)) ?_ ?_ ?_
    · exact ⟨⟨none, rfl⟩, Same.new n5, [], upd_same, .nil⟩
    · rintro σ H' ⟨_, s5, vs, f5, hPc⟩
      refine ⟨⟨_, SqL.of (s5 _ _ f4), by simp⟩, ?_⟩
      walk_at "w"
      refine rd_tupL (SqL.of f5) fun t H6 n6 f6 S6 => ?_
      have ecv : (curveBy ps is).take is.length = curveBy ps is := List.take_of_length_le (by simp [curveBy])
      rw [ecv] at hPc
      have hT6 : PrT H6 t (curveBy ps is) := ⟨vs, f6, hPc.same S6⟩
      have S36 := (S4.trans s5).trans S6
      have hcv := curveBy_of hnd hp hs
      walk_at "w"
      refine rd_make fun x7 dx7 H7 n7 f7 S7 => ?_
      have hcl : (curveBy ps is).length ≤ 24 := by unfold curveBy; rw [List.length_map, hnl]; exact hpl
      have htm : ∀ r ∈ curveBy ps is, Tm r.1 := fun r hr => (hps r ((getI_mem hnd).mp ((hcv.2 r.1 r.2).mp hr))).1
      refine ⟨x7, dx7, .ref t, _, rfl, f7, .inr ⟨t, rfl, hT6.same S7⟩, asc_keysN hcv.1, htm, by omega, fun S sm H8 hSp hfr8 hS8 hm8 hl8 K8 => ⟨rfl, ?_⟩⟩
      subst hSp
      walk_at "w"
      refine rd_make fun v dv H9 n9 f9 S9 => ?_
      have ntp2 : ∀ {e : Addr} {xs : List V}, H2 e = some (.tup xs) → e ≠ p := fun g z => by
        obtain ⟨x1, x2, e, _⟩ := P2
        rw [z, e] at g; cases g
      have g36 := S36 _ _ (K3 _ _ hW.1 (ntp2 hW.1))
      have S69 : Same H6 H9 := fun e o g => S9 _ _ (K8 _ _ (S7 _ _ g) (ne_of_none g n7))
      have hW9 : WinT H9 q b y m := ⟨S69 _ _ g36, hW.2⟩
      have av : v ∉ S.p :: S.own := hS8.apart (l := [v]) (fun b hb => by obtain rfl : b = v := (by simpa using hb); exact n9) v (by simp)
      refine ⟨S, v, dv, q, b, y, m, 0, sm, _, [], [], [], rfl, f9, hS8.same S9, hW9, av, fun d' H10 n10 hV10 hS10 K10 => ⟨rfl, ?_⟩⟩
      have nqv : q ≠ v := ne_of_none (K8 _ _ (S7 _ _ g36) (ne_of_none g36 n7)) n9
      have hsS : SqL K H6 s (ns.map V.int) := (S03.trans S36).seq hS
      have S610 : Same H6 H10 := fun e o g => K10 _ _ (S69 _ _ g) (ne_of_none (K8 _ _ (S7 _ _ g) (ne_of_none g n7)) n9)
      walk_at "w"
      refine rd_new (by show 0 ≤ sizeLine; decide) fun l11 H11 n11 f11 S11 => ?_
      walk_at "w"
      refine ⟨s, ns, _, rfl, S11.seq (S610.seq hsS), by decide, ?_⟩
      walk_at "w"
      refine rd_new (by show 1 ≤ sizeLine; decide) fun l12 H12 n12 f12 S12 => ?_
      walk_at "w"
      refine rd_slL (S12.seq (S11.seq (S610.seq hsS))) fun l13 H13 n13 f13 S13 => ?_
      have hcl2 := cutV_length (ns.map V.int) (some 2) (some 30)
      have hcl3 : (cutV (ns.map V.int) (some 2) (some 30)).length ≤ 28 := by
        unfold cutV
        rw [List.length_take]
        have e1 : HT.sIx (ns.map V.int).length (ns.map V.int).length (some (30 : Int)) ≤ 30 := by
          rw [show (30 : Int) = ((30 : Nat) : Int) from rfl, HT.sIx_nat]; exact Nat.min_le_left _ _
        have e2 : min 2 (ns.map V.int).length = HT.sIx (ns.map V.int).length 0 (some (2 : Int)) := by
          rw [show (2 : Int) = ((2 : Nat) : Int) from rfl, HT.sIx_nat]
        by_cases h2 : 2 ≤ (ns.map V.int).length
        · rw [Nat.min_eq_left h2] at e2
          omega
        · refine Nat.le_trans (Nat.min_le_right _ _) ?_
          rw [List.length_drop]
          omega
      rw [List.length_map] at hcl2
      refine rd_cat (S13 _ _ f12) f13 (by show 1 + _ ≤ _; exact Nat.le_trans (show _ ≤ 100 by omega) (by decide)) fun ln H14 n14 f14 S14 => ?_
      generalize hxs : [V.int (ns.getD (Int.toNat 1) 0)] ++ cutV (ns.map V.int) (some 2) (some 30) = xs at f14
      have hxl : xs.length ≤ 29 := by rw [← hxs, List.length_append]; simp only [List.length_cons, List.length_nil]; omega
      have hint : ∀ x ∈ xs, ∃ c : Int, x = .int c := by
        intro x hx
        rw [← hxs] at hx
        rcases List.mem_append.mp hx with hx | hx
        · exact ⟨_, List.mem_singleton.mp hx⟩
        · have : x ∈ ns.map V.int := List.mem_of_mem_drop (List.mem_of_mem_take hx)
          obtain ⟨c, _, rfl⟩ := List.mem_map.mp this
          exact ⟨c, rfl⟩
      have S1014 := S11.trans (S12.trans (S13.trans S14))
      have hI14 : Iv a H14 S v q l11 ln sm 0 0 xs := by
        refine ⟨0, _, d', b, y, m, [], hS10.same S1014, hV10.same S1014, ⟨S1014 _ _ (S610 _ _ g36), hW.2⟩, by omega, ?_, Nat.zero_le _, f14⟩
        have : cols [] b y m.toNat = [] := by
          unfold cols
          rw [List.filter_eq_nil_iff]
          intro j _
          simp [has, valV_nil]
        rw [this]
        exact S14 _ _ (S13 _ _ (S12 _ _ f11))
      refine rd_itL (SqL.of f14) ?_
      refine rd_forL (xs := xs) (fun i σ H' => ∃ v1 q' l' v7 v8 due, σ = [some (.ref s), v1, some (.ref q'), some (.ref d), some (.ref v), some (.ref l'), some (.int due), v7, v8] ∧ Iv a H' S v q' l' ln sm due i xs) ⟨_, _, _, _, _, _, rfl, hI14⟩ ?_ ?_ ?_
      · rintro i σ H' _ ⟨_, _, _, _, _, _, _, _, _, _, _, _, _, _, _, _, _, _, _, _, f'⟩
        exact SqL.of f'
      · rintro i x σ H15 hx ⟨v1, q', l', v7, v8, due, rfl, hI⟩
        obtain ⟨num, rfl⟩ := hint x (List.mem_of_getElem? hx)
        have hil : i < 29 := Nat.lt_of_lt_of_le (List.getElem?_eq_some_iff.mp hx).1 hxl
        walk_at "w"
        refine ⟨_, rfl, fun p H16 n16 P16 S16 => ?_⟩
        have hI16 := hI.same S16
        obtain ⟨n0, c0, d0, b0, y0, m0, kv0, hS0, hV0, hW0, hm0, hl0, hkl0, hln0⟩ := id hI
        have hpS : p ∉ S.ls := (hS0.fresh n16).1
        have hpl : p ≠ l' := fun z => by rw [z, hl0] at n16; cases n16
        have hpn : p ≠ ln := fun z => by rw [z, hln0] at n16; cases n16
        walk_at "w"
        refine ⟨p, q', b0, y0, m0, rfl, P16, ⟨S16 _ _ hW0.1, hW0.2⟩, fun u b1 y1 m1 H17 hst P17 K17 => ?_⟩
        have hI17 := hI16.pot P16 K17 hpS hpl hpn
        have hIm : ∀ {H' : Hp}, Iv a H' S v q' l' ln sm due i xs → Pot H' p → Kp p H17 H' → ∀ {e : Addr} {zs : List V}, H17 e = some (.tup zs) → H' e = some (.tup zs) := fun {H'} _ _ kp {e0 zs} g => kp _ _ g fun z => by
          obtain ⟨x1, x2, e, _⟩ := P17
          rw [z, e] at g; cases g
        repeat walk_at "ri"
        refine rd_meet (fun σ' H' => ∃ q2 l2, σ' = [some (.ref s), some (.ref p), some (.ref q2), some (.ref d), some (.ref v), some (.ref l2), some (.int due), some (.int num), some (.ref u)] ∧ Iv a H' S v q2 l2 ln sm due i xs ∧ Pot H' p ∧ p ≠ l2) ?_ ?_
        · rintro σ' H21 ⟨q2, l2, rfl, hI21, P21, hp2⟩
          obtain ⟨n2, c2, d2, b2, y2, m2, kv2, hS2, hV2, hW2, hm2, hl2, hkl2, hln2⟩ := id hI21
          obtain ⟨dx2, qv2, hv2, _⟩ := id hV2
          walk_at "w"
          rw [show (!decide (V.int due = V.int due)) = false by simp]
          refine iteF ?_
          walk_at "w"
          refine rd_isi (.int _) (k_int_bool _) ?_
          walk_at "w"
          refine iteF ?_
          walk_at "w"
          refine ⟨p, _, rfl, P21, by decide, by decide, fun d22 H22 h22 h22' P22 K22 => ?_⟩
          have hI22 := hI21.pot P21 K22 hpS hp2 hpn
          obtain ⟨n3, c3, d3, b3, y3, m3, kv3, hS3, hV3, hW3, hm3, hl3, hkl3, hln3⟩ := id hI22
          obtain ⟨dx3, qv3, hv3, _⟩ := id hV3
          walk_at "w"
          refine iteD (fun c1 => ?_) (fun c1 => ?_)
          · have hq3 := hW3.1
            walk_at "w"
            refine rd_listRng (by have := hW3.2.2.1; omega) (by omega) fun l23 H23 n23 f23 S23 => ?_
            have hv23 := S23 _ _ hv3
            walk_at "w"
            refine rd_methO hv23 (vfl_no (by decide +kernel) (by decide +kernel) (by decide +kernel) (by decide +kernel) (by decide +kernel)) ?_
            refine ⟨S, v, d3, b3, y3, m3, due, n3, kv3, 0, sm, c3, [], [], [], rfl, hS3.same S23, hV3.same S23, by decide, by omega, fun uu us fs kv1 kv4 n4 H24 f24 hF24 h424 hh24 hV24 hS24 hall24 hl24 F24 => ?_⟩
            obtain ⟨dx4, qv4, hv4, _⟩ := id hV24
            have hms := miss_cols kv3 b3 y3 m3.toNat
            have hnlen : (natL (cols kv3 b3 y3 m3.toNat)).length = (cols kv3 b3 y3 m3.toNat).length := List.length_map _
            have hmp := hW3.2.2.1
            have edue : due + (miss kv1 b3 y3 m3.toNat : Int) = due + (m3 - ((natL (cols kv3 b3 y3 m3.toNat)).length : Int)) := by
              rw [miss_eq hh24, hnlen]
              omega
            have nT : ∀ {e : Addr} {o : HO}, H23 e = some o → (∀ C dx fs, o ≠ .ins C dx fs) → (∀ kv, o ≠ .dT kv) → H24 e = some o := fun {e o} g h1 h2 => F24 _ _ g fun z => by
              obtain ⟨dx, q0, e1, _, e2, _⟩ := id hV3
              obtain ⟨_, _, _, ⟨_, _, t1, _⟩, _⟩ := id hS3
              simp only [List.mem_cons, List.not_mem_nil, or_false] at z
              rcases z with z | z | z
              · rw [z, S23 _ _ e1] at g; exact h1 _ _ _ (Option.some.inj g).symm
              · rw [z, S23 _ _ e2] at g; exact h2 _ (Option.some.inj g).symm
              · rw [z, S23 _ _ t1] at g; exact h1 _ _ _ (Option.some.inj g).symm
            walk_at "w"
            rw [edue, show (!decide (V.int (due + (m3 - ((natL (cols kv3 b3 y3 m3.toNat)).length : Int))) = V.int (due + (m3 - ((natL (cols kv3 b3 y3 m3.toNat)).length : Int))))) = false by simp]
            refine iteF ?_
            walk_at "w"
            refine ⟨_, _, _, _, _, _, rfl, n4, c3, d3, b3, y3, m3, kv4, hS24, by rw [← edue]; exact hV24, ⟨nT (S23 _ _ hW3.1) (fun _ _ _ z => by cases z) (fun _ z => by cases z), hW3.2⟩, hm3, ?_, by omega, nT (S23 _ _ hln3) (fun _ _ _ z => by cases z) (fun _ z => by cases z)⟩
            rw [cols_all hall24]
            exact nT f23 (fun _ _ _ z => by cases z) (fun _ z => by cases z)
          · walk_at "w"
            rw [show (!decide (V.int due = V.int due)) = false by simp]
            refine iteF ?_
            walk_at "w"
            exact ⟨_, _, _, _, _, _, rfl, n3, c3, d3, b3, y3, m3, kv3, hS3, hV3, hW3, hm3, hl3, by omega, hln3⟩
        · intro D' hrt hD'
          walk_at "w"
          refine ⟨p, _, rfl, P17, by decide, by decide, fun d18 H18 h18 h18' P18 K18 => ?_⟩
          have hI18 := hI17.pot P17 K18 hpS hpl hpn
          obtain ⟨nm, cc, qq, hu1, hqq, hstp⟩ := hst
          have hu18 := hIm hI18 P18 K18 hu1
          have hqq18 := hIm hI18 P18 K18 hqq
          have hy2 := win_wide hW0
          have hb1 : 0 < y1 ∧ y1 ≤ 4398046511104 ∧ 1 ≤ m1 ∧ m1 ≤ 12 := by
            have h1 := hW0.2.1
            have h2 := hW0.2.2.1
            rcases hstp with ⟨_, _, h, h'⟩ | ⟨_, g, _, h, h'⟩ | ⟨_, g1, g2, _, h, h'⟩ | ⟨_, _, _, _, h, h'⟩ <;> omega
          walk_at "w"
          refine iteD (fun c1 => ?_) (fun c1 => ?_)
          · walk_at "w"
            refine ⟨qq, b1, y1, m1, rfl, hqq18, mulBig (m := 50) (n := 50) (by unfold Bn; omega) (by unfold Bn; omega) (by decide), ?_⟩
            by_cases hin : -1099511627776 ≤ b1 ∧ b1 + y1 * m1 ≤ 1099511627776
            · rw [decide_eq_true hin.1, decide_eq_true hin.2]
              have hz : 0 ≤ y1 * m1 := Int.mul_nonneg (by omega) (by omega)
              have hWV : WinV b1 y1 m1 := ⟨by omega, by omega, by omega, ⟨by omega, by omega⟩, by rw [Int.mul_comm]; exact ⟨by omega, by omega⟩⟩
              obtain ⟨n3, c3, d3, b3, y3, m3, kv3, hS3, hV3, hW3, hm3, hl3, hkl3, hln3⟩ := id hI18
              have hst18 : StepAt H18 u b0 y0 m0 b1 y1 m1 := ⟨nm, cc, qq, hu18, hqq18, hstp⟩
              have e3 : [V.int b3, .int y3, .int m3] = [V.int b0, .int y0, .int m0] := by
                have g1 := hW3.1
                rw [hIm hI18 P18 K18 ((K17 _ _ (S16 _ _ hW0.1)) (fun z => by
                  have g := S16 _ _ hW0.1
                  obtain ⟨x1, x2, e, _⟩ := P16
                  rw [z, e] at g; cases g))] at g1
                injection g1 with g1
                injection g1 with g1
                exact g1.symm
              simp only [List.cons.injEq, V.int.injEq, and_true] at e3
              obtain ⟨rfl, rfl, rfl⟩ := e3
              walk_at "w"
              refine iteT ?_
              walk_at "w"
              refine ⟨S, v, d3, u, b3, y3, m3, due, n3, b1, y1, m1, kv3, 0, sm, c3, [], [], [], rfl, hS3, hV3, by decide, hst18, hWV, fun d4 kv1 kv4 H19 n19 g1 g2 g3 g4 g5 F19 => ?_⟩
              have kt19 : ∀ {e : Addr} {zs : List V}, H18 e = some (.tup zs) → H19 e = some (.tup zs) := fun g => F19 _ _ g fun z => hV3.noTup _ z _ g
              have klst : ∀ {e : Addr} {zs : List V}, H18 e = some (.lst zs) → H19 e = some (.lst zs) := fun {e zs} g => F19 _ _ g fun z => by
                obtain ⟨dx, q0, e1, _, e2, _⟩ := id hV3
                simp only [List.mem_cons, List.not_mem_nil, or_false] at z
                rcases z with z | z
                · rw [z, e1] at g; cases g
                · rw [z, e2] at g; cases g
              have eh : ∀ x z, has kv1 x z = has kv3 x z := fun x z => by
                rw [Bool.eq_iff_iff, g1]
                exact ⟨fun g => g.1, fun g => ⟨g, fun ⟨t, ht, _⟩ => by cases ht⟩⟩
              have hst19 : StepAt H19 u b3 y3 m3 b1 y1 m1 := ⟨nm, cc, qq, kt19 hu18, kt19 hqq18, hstp⟩
              have hu19 := kt19 hu18
              walk_at "w"
              refine ⟨u, q', l', b3, y3, m3, b1, y1, m1, cols kv3 b3 y3 m3.toNat, rfl, hst19, ⟨kt19 hW3.1, hW3.2⟩, hWV, klst hl3, nodup_cols _ _ _ _, Nat.le_trans (len_cols _ _ _ _) (by omega), fun j hj => by have := (mem_cols.mp hj).1; omega, fun l20 H20 n20 f20 S20 => ?_⟩
              have hu20 := S20 _ _ hu19
              walk_at "w"
              refine hD' _ _ ⟨qq, l20, rfl, ⟨n3, c3, d4, b1, y1, m1, kv4, g5.same S20, g4.same S20, ⟨S20 _ _ (kt19 hqq18), hWV⟩, by omega, ?_, by omega, S20 _ _ (klst hln3)⟩, ?_, ?_⟩
              · rw [f20, cols_step hstp hW3.2.1 hWV hV3.cols fun x z hc => ?_]
                rw [g2 x z hc]
                unfold Kin
                rw [eh, eh, eh]
              · obtain ⟨x1, x2, e, hr⟩ := P18
                exact ⟨x1, x2, S20 _ _ (klst e), hr⟩
              · intro z
                obtain ⟨x1, x2, e, _⟩ := P18
                rw [← z, klst e] at n20; cases n20
            · have hf : (decide (-1099511627776 ≤ b1) && decide (b1 + y1 * m1 ≤ 1099511627776)) = false := by
                rw [Bool.eq_false_iff]
                intro z
                rw [Bool.and_eq_true, decide_eq_true_iff, decide_eq_true_iff] at z
                exact hin z
              rw [hf]
              walk_at "w"
              refine iteF ?_
              walk_at "w"
              exact hD' _ _ ⟨q', l', rfl, hI18, P18, hpl⟩
          · walk_at "w"
            exact hD' _ _ ⟨q', l', rfl, hI18, P18, hpl⟩
      · rintro σ H15 ⟨v1, q', l', v7, v8, due, rfl, hI⟩
        obtain ⟨n2, c2, d2, b2, y2, m2, kv2, hS2, hV2, hW2, hm2, hl2, hkl2, hln2⟩ := id hI
        obtain ⟨dx2, qv2, hv2, _⟩ := id hV2
        walk_at "w"
        refine rd_methO hv2 (vfl_no (by decide +kernel) (by decide +kernel) (by decide +kernel) (by decide +kernel) (by decide +kernel)) ?_
        refine ⟨S, v, d2, b2, y2, m2, due, n2, kv2, 0, sm, c2, [], [], [], rfl, hS2, hV2, by decide, by omega, fun uu us fs kv1 kv3 n3 H3 f3 hF3 h43 hh3 hV3 hS3 hall3 hl3 F3 => ?_⟩
        obtain ⟨dx3, qv3, hv3, _⟩ := id hV3
        have hms := miss_cols kv2 b2 y2 m2.toNat
        have hnlen : (natL (cols kv2 b2 y2 m2.toNat)).length = (cols kv2 b2 y2 m2.toNat).length := List.length_map _
        have hmp := hW2.2.2.1
        have nT : ∀ {e : Addr} {o : HO}, H15 e = some o → (∀ C dx fs, o ≠ .ins C dx fs) → (∀ kv, o ≠ .dT kv) → H3 e = some o := fun {e o} g h1 h2 => F3 _ _ g fun z => by
          obtain ⟨dx, q0, e1, _, e2, _⟩ := id hV2
          obtain ⟨_, _, _, ⟨_, _, t1, _⟩, _⟩ := id hS2
          simp only [List.mem_cons, List.not_mem_nil, or_false] at z
          rcases z with z | z | z
          · rw [z, e1] at g; exact h1 _ _ _ (Option.some.inj g).symm
          · rw [z, e2] at g; exact h2 _ (Option.some.inj g).symm
          · rw [z, t1] at g; exact h1 _ _ _ (Option.some.inj g).symm
        have hq3 := nT hW2.1 (fun _ _ _ z => by cases z) (fun _ z => by cases z)
        have hl3 := nT hl2 (fun _ _ _ z => by cases z) (fun _ z => by cases z)
        have edue : due + (miss kv1 b2 y2 m2.toNat : Int) = due + m2 - ((natL (cols kv2 b2 y2 m2.toNat)).length : Int) := by
          rw [miss_eq hh3, hnlen]
          omega
        walk_at "w"
        rw [edue, decide_eq_true rfl]
        exact k H3
    · rintro i σ H' hi ⟨⟨o, rfl⟩, s5, vs, f5, hPc⟩
      have hi2 : i < (is.map V.int).length := by simpa using hi
      refine ⟨⟨_, _, SqL.of (s5 _ _ f4), List.getElem?_eq_getElem hi2⟩, ?_⟩
      rintro u H'' ⟨rfl, hu'⟩
      have hu' := hu' _ (SqL.of (s5 _ _ f4))
      have eu : u = .int is[i] := by
        rw [List.getElem?_map, List.getElem?_eq_getElem hi] at hu'
        simpa using hu'.symm
      subst eu
      walk_at "w"
      refine iteT ?_
      walk_at "w"
      have hmem : is[i] ∈ ps.map (·.1) := hp.mem_iff.mp (List.getElem_mem hi)
      obtain ⟨x, hx⟩ : ∃ x, getI ps is[i] = some x := by
        cases hg : getI ps is[i] with
        | none => exact absurd hmem (getI_none.mp hg)
        | some x => exact ⟨x, rfl⟩
      refine rd_dgetI (s5 _ _ (S4 _ _ f3)) hx ?_
      walk_at "w"
      refine rd_new (by show 2 ≤ sizeLine; decide) fun t H4 n4 f4 S4 => ?_
      have f34 := S4 _ _ f5
      refine ⟨vs, f34, ?_, ⟨_, rfl⟩, ?_, ?_⟩
      · rw [hPc.length, List.length_take]
        exact Nat.lt_of_le_of_lt (Nat.min_le_left _ _) (by show _ < 2 ^ 24; omega)
      · exact (s5.trans S4).kpN (l := l5) n5 Kp.upd
      · refine ⟨_, upd_same, ?_⟩
        have e3 : (curveBy ps is).take (i + 1) = (curveBy ps is).take i ++ [(is[i], x)] := by
          rw [List.take_succ]
          congr 1
          simp [curveBy, List.getElem?_eq_getElem hi, hx]
        rw [e3]
        exact PairsAt.kpL Kp.upd f34 ((hPc.same S4).snoc f4)
end
theorem all_mk {l : PySem.W.OpenLaw} {w : World} {K : PySem.W.Frag} {h : Heap} {mg : Str → Option Value} {fa : Addr} (X : K.In h) (G : h.Ns mainGlobals mg) (hfa : mg "law" = some (.ref fa))
    {C_Tree : Addr}
    {C_View : Addr}
    {C_Store : Addr}
    {C_NoColumn : Addr}
    {C_NotHalf : Addr}
    {C_OutOfTimes : Addr}
    {C_NoSample : Addr}
    {f0 : Addr} {od0 an0 : Option Addr} {sl0 : Array (Option Value)} {oc0 kV0 dc0 pm0 cd0 ct0 : Value}
    {f1 : Addr} {od1 an1 : Option Addr} {sl1 : Array (Option Value)} {oc1 kV1 dc1 pm1 cd1 ct1 : Value}
    {f2 : Addr} {od2 an2 : Option Addr} {sl2 : Array (Option Value)} {oc2 kV2 dc2 pm2 cd2 ct2 : Value}
    {f3 : Addr} {od3 an3 : Option Addr} {sl3 : Array (Option Value)} {oc3 kV3 dc3 pm3 cd3 ct3 : Value}
    {f4 : Addr} {od4 an4 : Option Addr} {sl4 : Array (Option Value)} {oc4 kV4 dc4 pm4 cd4 ct4 : Value}
    {f5 : Addr} {od5 an5 : Option Addr} {sl5 : Array (Option Value)} {oc5 kV5 dc5 pm5 cd5 ct5 : Value}
    {f6 : Addr} {od6 an6 : Option Addr} {sl6 : Array (Option Value)} {oc6 kV6 dc6 pm6 cd6 ct6 : Value}
    {f7 : Addr} {od7 an7 : Option Addr} {sl7 : Array (Option Value)} {oc7 kV7 dc7 pm7 cd7 ct7 : Value}
    {f8 : Addr} {od8 an8 : Option Addr} {sl8 : Array (Option Value)} {oc8 kV8 dc8 pm8 cd8 ct8 : Value}
    {f9 : Addr} {od9 an9 : Option Addr} {sl9 : Array (Option Value)} {oc9 kV9 dc9 pm9 cd9 ct9 : Value}
    {f10 : Addr} {od10 an10 : Option Addr} {sl10 : Array (Option Value)} {oc10 kV10 dc10 pm10 cd10 ct10 : Value}
    {f11 : Addr} {od11 an11 : Option Addr} {sl11 : Array (Option Value)} {oc11 kV11 dc11 pm11 cd11 ct11 : Value}
    {f12 : Addr} {od12 an12 : Option Addr} {sl12 : Array (Option Value)} {oc12 kV12 dc12 pm12 cd12 ct12 : Value}
    {f13 : Addr} {od13 an13 : Option Addr} {sl13 : Array (Option Value)} {oc13 kV13 dc13 pm13 cd13 ct13 : Value}
    {f14 : Addr} {od14 an14 : Option Addr} {sl14 : Array (Option Value)} {oc14 kV14 dc14 pm14 cd14 ct14 : Value}
    {f15 : Addr} {od15 an15 : Option Addr} {sl15 : Array (Option Value)} {oc15 kV15 dc15 pm15 cd15 ct15 : Value}
    {f16 : Addr} {od16 an16 : Option Addr} {sl16 : Array (Option Value)} {oc16 kV16 dc16 pm16 cd16 ct16 : Value}
    {f17 : Addr} {od17 an17 : Option Addr} {sl17 : Array (Option Value)} {oc17 kV17 dc17 pm17 cd17 ct17 : Value}
    {f18 : Addr} {od18 an18 : Option Addr} {sl18 : Array (Option Value)} {oc18 kV18 dc18 pm18 cd18 ct18 : Value}
    {dt18 : Addr} {dod18 : Option Addr} {dsl18 : Array (Option Value)} {doc18 : Value} {dn18 : Nat}
    {f19 : Addr} {od19 an19 : Option Addr} {sl19 : Array (Option Value)} {oc19 kV19 dc19 pm19 cd19 ct19 : Value}
    {f20 : Addr} {od20 an20 : Option Addr} {sl20 : Array (Option Value)} {oc20 kV20 dc20 pm20 cd20 ct20 : Value}
    {f21 : Addr} {od21 an21 : Option Addr} {sl21 : Array (Option Value)} {oc21 kV21 dc21 pm21 cd21 ct21 : Value}
    {f22 : Addr} {od22 an22 : Option Addr} {sl22 : Array (Option Value)} {oc22 kV22 dc22 pm22 cd22 ct22 : Value}
    {f23 : Addr} {od23 an23 : Option Addr} {sl23 : Array (Option Value)} {oc23 kV23 dc23 pm23 cd23 ct23 : Value}
    {f24 : Addr} {od24 an24 : Option Addr} {sl24 : Array (Option Value)} {oc24 kV24 dc24 pm24 cd24 ct24 : Value}
    {f25 : Addr} {od25 an25 : Option Addr} {sl25 : Array (Option Value)} {oc25 kV25 dc25 pm25 cd25 ct25 : Value}
    {f26 : Addr} {od26 an26 : Option Addr} {sl26 : Array (Option Value)} {oc26 kV26 dc26 pm26 cd26 ct26 : Value}
    {f27 : Addr} {od27 an27 : Option Addr} {sl27 : Array (Option Value)} {oc27 kV27 dc27 pm27 cd27 ct27 : Value}
    {f28 : Addr} {od28 an28 : Option Addr} {sl28 : Array (Option Value)} {oc28 kV28 dc28 pm28 cd28 ct28 : Value}
    {f29 : Addr} {od29 an29 : Option Addr} {sl29 : Array (Option Value)} {oc29 kV29 dc29 pm29 cd29 ct29 : Value}
    {f30 : Addr} {od30 an30 : Option Addr} {sl30 : Array (Option Value)} {oc30 kV30 dc30 pm30 cd30 ct30 : Value}
    {f31 : Addr} {od31 an31 : Option Addr} {sl31 : Array (Option Value)} {oc31 kV31 dc31 pm31 cd31 ct31 : Value}
    {f32 : Addr} {od32 an32 : Option Addr} {sl32 : Array (Option Value)} {oc32 kV32 dc32 pm32 cd32 ct32 : Value}
    {f33 : Addr} {od33 an33 : Option Addr} {sl33 : Array (Option Value)} {oc33 kV33 dc33 pm33 cd33 ct33 : Value}
    {f34 : Addr} {od34 an34 : Option Addr} {sl34 : Array (Option Value)} {oc34 kV34 dc34 pm34 cd34 ct34 : Value}
    {dt34 : Addr} {dod34 : Option Addr} {dsl34 : Array (Option Value)} {doc34 : Value} {dn34 : Nat}
    {f35 : Addr} {od35 an35 : Option Addr} {sl35 : Array (Option Value)} {oc35 kV35 dc35 pm35 cd35 ct35 : Value}
    {f36 : Addr} {od36 an36 : Option Addr} {sl36 : Array (Option Value)} {oc36 kV36 dc36 pm36 cd36 ct36 : Value}
    {f37 : Addr} {od37 an37 : Option Addr} {sl37 : Array (Option Value)} {oc37 kV37 dc37 pm37 cd37 ct37 : Value}
    {f38 : Addr} {od38 an38 : Option Addr} {sl38 : Array (Option Value)} {oc38 kV38 dc38 pm38 cd38 ct38 : Value}
    {f39 : Addr} {od39 an39 : Option Addr} {sl39 : Array (Option Value)} {oc39 kV39 dc39 pm39 cd39 ct39 : Value}
    {f40 : Addr} {od40 an40 : Option Addr} {sl40 : Array (Option Value)} {oc40 kV40 dc40 pm40 cd40 ct40 : Value}
    {f41 : Addr} {od41 an41 : Option Addr} {sl41 : Array (Option Value)} {oc41 kV41 dc41 pm41 cd41 ct41 : Value}
    {f42 : Addr} {od42 an42 : Option Addr} {sl42 : Array (Option Value)} {oc42 kV42 dc42 pm42 cd42 ct42 : Value}
    {f43 : Addr} {od43 an43 : Option Addr} {sl43 : Array (Option Value)} {oc43 kV43 dc43 pm43 cd43 ct43 : Value}
    {f44 : Addr} {od44 an44 : Option Addr} {sl44 : Array (Option Value)} {oc44 kV44 dc44 pm44 cd44 ct44 : Value}
    {f45 : Addr} {od45 an45 : Option Addr} {sl45 : Array (Option Value)} {oc45 kV45 dc45 pm45 cd45 ct45 : Value}
    {f46 : Addr} {od46 an46 : Option Addr} {sl46 : Array (Option Value)} {oc46 kV46 dc46 pm46 cd46 ct46 : Value}
    {f47 : Addr} {od47 an47 : Option Addr} {sl47 : Array (Option Value)} {oc47 kV47 dc47 pm47 cd47 ct47 : Value}
    {f48 : Addr} {od48 an48 : Option Addr} {sl48 : Array (Option Value)} {oc48 kV48 dc48 pm48 cd48 ct48 : Value}
    {f49 : Addr} {od49 an49 : Option Addr} {sl49 : Array (Option Value)} {oc49 kV49 dc49 pm49 cd49 ct49 : Value}
    {f50 : Addr} {od50 an50 : Option Addr} {sl50 : Array (Option Value)} {oc50 kV50 dc50 pm50 cd50 ct50 : Value}
    {f51 : Addr} {od51 an51 : Option Addr} {sl51 : Array (Option Value)} {oc51 kV51 dc51 pm51 cd51 ct51 : Value}
    {f52 : Addr} {od52 an52 : Option Addr} {sl52 : Array (Option Value)} {oc52 kV52 dc52 pm52 cd52 ct52 : Value}
    {f53 : Addr} {od53 an53 : Option Addr} {sl53 : Array (Option Value)} {oc53 kV53 dc53 pm53 cd53 ct53 : Value}
    {f54 : Addr} {od54 an54 : Option Addr} {sl54 : Array (Option Value)} {oc54 kV54 dc54 pm54 cd54 ct54 : Value}
    {f55 : Addr} {od55 an55 : Option Addr} {sl55 : Array (Option Value)} {oc55 kV55 dc55 pm55 cd55 ct55 : Value}
    {f56 : Addr} {od56 an56 : Option Addr} {sl56 : Array (Option Value)} {oc56 kV56 dc56 pm56 cd56 ct56 : Value}
    {f57 : Addr} {od57 an57 : Option Addr} {sl57 : Array (Option Value)} {oc57 kV57 dc57 pm57 cd57 ct57 : Value}
    {f58 : Addr} {od58 an58 : Option Addr} {sl58 : Array (Option Value)} {oc58 kV58 dc58 pm58 cd58 ct58 : Value}
    {f59 : Addr} {od59 an59 : Option Addr} {sl59 : Array (Option Value)} {oc59 kV59 dc59 pm59 cd59 ct59 : Value}
    {f60 : Addr} {od60 an60 : Option Addr} {sl60 : Array (Option Value)} {oc60 kV60 dc60 pm60 cd60 ct60 : Value}
    {tk_TOP_LEVEL : Tok}
    {tk_TIMES_END : Tok}
    (aC_NoColumn : PySem.W.nsIn K mainGlobals "NoColumn" = some (some (.ref C_NoColumn))) (ex_NoColumn : PySem.W.excIn K C_NoColumn [.type "ValueError", .type "Exception", .type "BaseException", .type "object"] "ValueError.__new__" = true) (ga_NoColumn : PySem.W.findIn K (.ref C_NoColumn) "__getattribute__" = some (some (.builtin "BaseException.__getattribute__"))) (gt_NoColumn : PySem.W.findIn K (.ref C_NoColumn) "__getattr__" = some none) (cl_NoColumn : PySem.W.findIn K (.ref C_NoColumn) "__class__" = some (some (.builtin "object.__class__"))) (ob_NoColumn : PySem.W.mroIn K C_NoColumn (.type "object") = some true) (be_NoColumn : PySem.W.mroIn K C_NoColumn (.type "BaseException") = some true)
    (aC_NotHalf : PySem.W.nsIn K mainGlobals "NotHalf" = some (some (.ref C_NotHalf))) (ex_NotHalf : PySem.W.excIn K C_NotHalf [.type "ValueError", .type "Exception", .type "BaseException", .type "object"] "ValueError.__new__" = true) (ga_NotHalf : PySem.W.findIn K (.ref C_NotHalf) "__getattribute__" = some (some (.builtin "BaseException.__getattribute__"))) (gt_NotHalf : PySem.W.findIn K (.ref C_NotHalf) "__getattr__" = some none) (cl_NotHalf : PySem.W.findIn K (.ref C_NotHalf) "__class__" = some (some (.builtin "object.__class__"))) (ob_NotHalf : PySem.W.mroIn K C_NotHalf (.type "object") = some true) (be_NotHalf : PySem.W.mroIn K C_NotHalf (.type "BaseException") = some true)
    (aC_OutOfTimes : PySem.W.nsIn K mainGlobals "OutOfTimes" = some (some (.ref C_OutOfTimes))) (ex_OutOfTimes : PySem.W.excIn K C_OutOfTimes [.type "ValueError", .type "Exception", .type "BaseException", .type "object"] "ValueError.__new__" = true) (ga_OutOfTimes : PySem.W.findIn K (.ref C_OutOfTimes) "__getattribute__" = some (some (.builtin "BaseException.__getattribute__"))) (gt_OutOfTimes : PySem.W.findIn K (.ref C_OutOfTimes) "__getattr__" = some none) (cl_OutOfTimes : PySem.W.findIn K (.ref C_OutOfTimes) "__class__" = some (some (.builtin "object.__class__"))) (ob_OutOfTimes : PySem.W.mroIn K C_OutOfTimes (.type "object") = some true) (be_OutOfTimes : PySem.W.mroIn K C_OutOfTimes (.type "BaseException") = some true)
    (aC_NoSample : PySem.W.nsIn K mainGlobals "NoSample" = some (some (.ref C_NoSample))) (ex_NoSample : PySem.W.excIn K C_NoSample [.type "ValueError", .type "Exception", .type "BaseException", .type "object"] "ValueError.__new__" = true) (ga_NoSample : PySem.W.findIn K (.ref C_NoSample) "__getattribute__" = some (some (.builtin "BaseException.__getattribute__"))) (gt_NoSample : PySem.W.findIn K (.ref C_NoSample) "__getattr__" = some none) (cl_NoSample : PySem.W.findIn K (.ref C_NoSample) "__class__" = some (some (.builtin "object.__class__"))) (ob_NoSample : PySem.W.mroIn K C_NoSample (.type "object") = some true) (be_NoSample : PySem.W.mroIn K C_NoSample (.type "BaseException") = some true)
    (aC_Tree : PySem.W.nsIn K mainGlobals "Tree" = some (some (.ref C_Tree))) (pg_Tree : PySem.W.plainGet K C_Tree Str.empty = true) (hd_Tree : PySem.W.hasDictIn K C_Tree = true) (po_Tree : PySem.W.plainOver K C_Tree = true) (sa_Tree : PySem.W.findIn K (.ref C_Tree) "__setattr__" = some (some (.builtin "object.__setattr__"))) (mk_Tree : PySem.W.makesIn K C_Tree = true) (kc_Tree : PySem.W.keepIn K (.ref C_Tree) = true)
    (na_Tree_looks : PySem.W.findIn K (.ref C_Tree) "looks" = some none)
    (na_Tree_samples : PySem.W.findIn K (.ref C_Tree) "samples" = some none)
    (na_Tree_kept_fours : PySem.W.findIn K (.ref C_Tree) "kept_fours" = some none)
    (aC_View : PySem.W.nsIn K mainGlobals "View" = some (some (.ref C_View))) (pg_View : PySem.W.plainGet K C_View Str.empty = true) (hd_View : PySem.W.hasDictIn K C_View = true) (po_View : PySem.W.plainOver K C_View = true) (sa_View : PySem.W.findIn K (.ref C_View) "__setattr__" = some (some (.builtin "object.__setattr__"))) (mk_View : PySem.W.makesIn K C_View = true) (kc_View : PySem.W.keepIn K (.ref C_View) = true)
    (na_View_source : PySem.W.findIn K (.ref C_View) "source" = some none)
    (na_View_window : PySem.W.findIn K (.ref C_View) "window" = some none)
    (na_View_asked : PySem.W.findIn K (.ref C_View) "asked" = some none)
    (na_View_known : PySem.W.findIn K (.ref C_View) "known" = some none)
    (na_View_seen : PySem.W.findIn K (.ref C_View) "seen" = some none)
    (aC_Store : PySem.W.nsIn K mainGlobals "Store" = some (some (.ref C_Store))) (pg_Store : PySem.W.plainGet K C_Store Str.empty = true) (hd_Store : PySem.W.hasDictIn K C_Store = true) (po_Store : PySem.W.plainOver K C_Store = true) (sa_Store : PySem.W.findIn K (.ref C_Store) "__setattr__" = some (some (.builtin "object.__setattr__"))) (mk_Store : PySem.W.makesIn K C_Store = true) (kc_Store : PySem.W.keepIn K (.ref C_Store) = true)
    (na_Store_tree : PySem.W.findIn K (.ref C_Store) "tree" = some none)
    (na_Store_deeds : PySem.W.findIn K (.ref C_Store) "deeds" = some none)
    (na_Store_done : PySem.W.findIn K (.ref C_Store) "done" = some none)
    (na_Store_watches : PySem.W.findIn K (.ref C_Store) "watches" = some none)
    (a0 : PySem.W.nsIn K mainGlobals "_wall" = some (some (.ref f0)))
    (l0 : K.lookup f0 = some ⟨oc0, od0, .func (PySem.W.fnOf "_wall" "_wall" (defArgs s__wall) (defBody s__wall) (defScope s__wall) .none kV0 dc0 pm0 an0 cd0 ct0), sl0⟩) (c0 : PySem.W.codeIn K cd0 "_wall" = true) (k0 : PySem.W.keepIn K (.ref f0) = true)
    (a1 : PySem.W.nsIn K mainGlobals "is_whole" = some (some (.ref f1)))
    (l1 : K.lookup f1 = some ⟨oc1, od1, .func (PySem.W.fnOf "is_whole" "is_whole" (defArgs s_is_whole) (defBody s_is_whole) (defScope s_is_whole) .none kV1 dc1 pm1 an1 cd1 ct1), sl1⟩) (c1 : PySem.W.codeIn K cd1 "is_whole" = true) (k1 : PySem.W.keepIn K (.ref f1) = true)
    (a2 : PySem.W.nsIn K mainGlobals "column_of" = some (some (.ref f2)))
    (l2 : K.lookup f2 = some ⟨oc2, od2, .func (PySem.W.fnOf "column_of" "column_of" (defArgs s_column_of) (defBody s_column_of) (defScope s_column_of) .none kV2 dc2 pm2 an2 cd2 ct2), sl2⟩) (c2 : PySem.W.codeIn K cd2 "column_of" = true) (k2 : PySem.W.keepIn K (.ref f2) = true)
    (a3 : PySem.W.nsIn K mainGlobals "times_of" = some (some (.ref f3)))
    (l3 : K.lookup f3 = some ⟨oc3, od3, .func (PySem.W.fnOf "times_of" "times_of" (defArgs s_times_of) (defBody s_times_of) (defScope s_times_of) .none kV3 dc3 pm3 an3 cd3 ct3), sl3⟩) (c3 : PySem.W.codeIn K cd3 "times_of" = true) (k3 : PySem.W.keepIn K (.ref f3) = true)
    (a4 : PySem.W.nsIn K mainGlobals "columns_of" = some (some (.ref f4)))
    (l4 : K.lookup f4 = some ⟨oc4, od4, .func (PySem.W.fnOf "columns_of" "columns_of" (defArgs s_columns_of) (defBody s_columns_of) (defScope s_columns_of) .none kV4 dc4 pm4 an4 cd4 ct4), sl4⟩) (c4 : PySem.W.codeIn K cd4 "columns_of" = true) (k4 : PySem.W.keepIn K (.ref f4) = true)
    (a5 : PySem.W.nsIn K mainGlobals "moved" = some (some (.ref f5)))
    (l5 : K.lookup f5 = some ⟨oc5, od5, .func (PySem.W.fnOf "moved" "moved" (defArgs s_moved) (defBody s_moved) (defScope s_moved) .none kV5 dc5 pm5 an5 cd5 ct5), sl5⟩) (c5 : PySem.W.codeIn K cd5 "moved" = true) (k5 : PySem.W.keepIn K (.ref f5) = true)
    (a6 : PySem.W.nsIn K mainGlobals "widened" = some (some (.ref f6)))
    (l6 : K.lookup f6 = some ⟨oc6, od6, .func (PySem.W.fnOf "widened" "widened" (defArgs s_widened) (defBody s_widened) (defScope s_widened) .none kV6 dc6 pm6 an6 cd6 ct6), sl6⟩) (c6 : PySem.W.codeIn K cd6 "widened" = true) (k6 : PySem.W.keepIn K (.ref f6) = true)
    (a7 : PySem.W.nsIn K mainGlobals "narrowed" = some (some (.ref f7)))
    (l7 : K.lookup f7 = some ⟨oc7, od7, .func (PySem.W.fnOf "narrowed" "narrowed" (defArgs s_narrowed) (defBody s_narrowed) (defScope s_narrowed) .none kV7 dc7 pm7 an7 cd7 ct7), sl7⟩) (c7 : PySem.W.codeIn K cd7 "narrowed" = true) (k7 : PySem.W.keepIn K (.ref f7) = true)
    (a8 : PySem.W.nsIn K mainGlobals "with_columns" = some (some (.ref f8)))
    (l8 : K.lookup f8 = some ⟨oc8, od8, .func (PySem.W.fnOf "with_columns" "with_columns" (defArgs s_with_columns) (defBody s_with_columns) (defScope s_with_columns) .none kV8 dc8 pm8 an8 cd8 ct8), sl8⟩) (c8 : PySem.W.codeIn K cd8 "with_columns" = true) (k8 : PySem.W.keepIn K (.ref f8) = true)
    (a9 : PySem.W.nsIn K mainGlobals "height_of" = some (some (.ref f9)))
    (l9 : K.lookup f9 = some ⟨oc9, od9, .func (PySem.W.fnOf "height_of" "height_of" (defArgs s_height_of) (defBody s_height_of) (defScope s_height_of) .none kV9 dc9 pm9 an9 cd9 ct9), sl9⟩) (c9 : PySem.W.codeIn K cd9 "height_of" = true) (k9 : PySem.W.keepIn K (.ref f9) = true)
    (a10 : PySem.W.nsIn K mainGlobals "four_of" = some (some (.ref f10)))
    (l10 : K.lookup f10 = some ⟨oc10, od10, .func (PySem.W.fnOf "four_of" "four_of" (defArgs s_four_of) (defBody s_four_of) (defScope s_four_of) .none kV10 dc10 pm10 an10 cd10 ct10), sl10⟩) (c10 : PySem.W.codeIn K cd10 "four_of" = true) (k10 : PySem.W.keepIn K (.ref f10) = true)
    (a11 : PySem.W.nsIn K mainGlobals "joined" = some (some (.ref f11)))
    (l11 : K.lookup f11 = some ⟨oc11, od11, .func (PySem.W.fnOf "joined" "joined" (defArgs s_joined) (defBody s_joined) (defScope s_joined) .none kV11 dc11 pm11 an11 cd11 ct11), sl11⟩) (c11 : PySem.W.codeIn K cd11 "joined" = true) (k11 : PySem.W.keepIn K (.ref f11) = true)
    (a12 : PySem.W.nsIn K mainGlobals "is_border" = some (some (.ref f12)))
    (l12 : K.lookup f12 = some ⟨oc12, od12, .func (PySem.W.fnOf "is_border" "is_border" (defArgs s_is_border) (defBody s_is_border) (defScope s_is_border) .none kV12 dc12 pm12 an12 cd12 ct12), sl12⟩) (c12 : PySem.W.codeIn K cd12 "is_border" = true) (k12 : PySem.W.keepIn K (.ref f12) = true)
    (a13 : PySem.W.nsIn K mainGlobals "check_borders" = some (some (.ref f13)))
    (l13 : K.lookup f13 = some ⟨oc13, od13, .func (PySem.W.fnOf "check_borders" "check_borders" (defArgs s_check_borders) (defBody s_check_borders) (defScope s_check_borders) .none kV13 dc13 pm13 an13 cd13 ct13), sl13⟩) (c13 : PySem.W.codeIn K cd13 "check_borders" = true) (k13 : PySem.W.keepIn K (.ref f13) = true)
    (a14 : PySem.W.nsIn K mainGlobals "check_time" = some (some (.ref f14)))
    (l14 : K.lookup f14 = some ⟨oc14, od14, .func (PySem.W.fnOf "check_time" "check_time" (defArgs s_check_time) (defBody s_check_time) (defScope s_check_time) .none kV14 dc14 pm14 an14 cd14 ct14), sl14⟩) (c14 : PySem.W.codeIn K cd14 "check_time" = true) (k14 : PySem.W.keepIn K (.ref f14) = true)
    (a15 : PySem.W.nsIn K mainGlobals "check_window" = some (some (.ref f15)))
    (l15 : K.lookup f15 = some ⟨oc15, od15, .func (PySem.W.fnOf "check_window" "check_window" (defArgs s_check_window) (defBody s_check_window) (defScope s_check_window) .none kV15 dc15 pm15 an15 cd15 ct15), sl15⟩) (c15 : PySem.W.codeIn K cd15 "check_window" = true) (k15 : PySem.W.keepIn K (.ref f15) = true)
    (a16 : PySem.W.nsIn K mainGlobals "stretches" = some (some (.ref f16)))
    (l16 : K.lookup f16 = some ⟨oc16, od16, .func (PySem.W.fnOf "stretches" "stretches" (defArgs s_stretches) (defBody s_stretches) (defScope s_stretches) .none kV16 dc16 pm16 an16 cd16 ct16), sl16⟩) (c16 : PySem.W.codeIn K cd16 "stretches" = true) (k16 : PySem.W.keepIn K (.ref f16) = true)
    (a17 : PySem.W.nsIn K mainGlobals "longest" = some (some (.ref f17)))
    (l17 : K.lookup f17 = some ⟨oc17, od17, .func (PySem.W.fnOf "longest" "longest" (defArgs s_longest) (defBody s_longest) (defScope s_longest) .none kV17 dc17 pm17 an17 cd17 ct17), sl17⟩) (c17 : PySem.W.codeIn K cd17 "longest" = true) (k17 : PySem.W.keepIn K (.ref f17) = true)
    (a18 : PySem.W.findIn K (.ref C_Tree) "__init__" = some (some (.ref f18))) (i18 : PySem.W.isFn K (.ref f18) = true)
    (l18 : K.lookup f18 = some ⟨oc18, od18, .func (PySem.W.fnOf "__init__" "Tree.__init__" (defArgs s_Tree___init__) (defBody s_Tree___init__) (defScope s_Tree___init__) (.ref dt18) kV18 dc18 pm18 an18 cd18 ct18), sl18⟩) (c18 : PySem.W.codeIn K cd18 "Tree.__init__" = true) (k18 : PySem.W.keepIn K (.ref f18) = true)
    (dl18 : K.lookup dt18 = some ⟨doc18, dod18, .seq #[.none] dn18, dsl18⟩)
    (a19 : PySem.W.findIn K (.ref C_Tree) "put" = some (some (.ref f19))) (i19 : PySem.W.isFn K (.ref f19) = true)
    (l19 : K.lookup f19 = some ⟨oc19, od19, .func (PySem.W.fnOf "put" "Tree.put" (defArgs s_Tree_put) (defBody s_Tree_put) (defScope s_Tree_put) .none kV19 dc19 pm19 an19 cd19 ct19), sl19⟩) (c19 : PySem.W.codeIn K cd19 "Tree.put" = true) (k19 : PySem.W.keepIn K (.ref f19) = true)
    (a20 : PySem.W.findIn K (.ref C_Tree) "take" = some (some (.ref f20))) (i20 : PySem.W.isFn K (.ref f20) = true)
    (l20 : K.lookup f20 = some ⟨oc20, od20, .func (PySem.W.fnOf "take" "Tree.take" (defArgs s_Tree_take) (defBody s_Tree_take) (defScope s_Tree_take) .none kV20 dc20 pm20 an20 cd20 ct20), sl20⟩) (c20 : PySem.W.codeIn K cd20 "Tree.take" = true) (k20 : PySem.W.keepIn K (.ref f20) = true)
    (a21 : PySem.W.findIn K (.ref C_Tree) "renew" = some (some (.ref f21))) (i21 : PySem.W.isFn K (.ref f21) = true)
    (l21 : K.lookup f21 = some ⟨oc21, od21, .func (PySem.W.fnOf "renew" "Tree.renew" (defArgs s_Tree_renew) (defBody s_Tree_renew) (defScope s_Tree_renew) .none kV21 dc21 pm21 an21 cd21 ct21), sl21⟩) (c21 : PySem.W.codeIn K cd21 "Tree.renew" = true) (k21 : PySem.W.keepIn K (.ref f21) = true)
    (a22 : PySem.W.findIn K (.ref C_Tree) "four" = some (some (.ref f22))) (i22 : PySem.W.isFn K (.ref f22) = true)
    (l22 : K.lookup f22 = some ⟨oc22, od22, .func (PySem.W.fnOf "four" "Tree.four" (defArgs s_Tree_four) (defBody s_Tree_four) (defScope s_Tree_four) .none kV22 dc22 pm22 an22 cd22 ct22), sl22⟩) (c22 : PySem.W.codeIn K cd22 "Tree.four" = true) (k22 : PySem.W.keepIn K (.ref f22) = true)
    (a23 : PySem.W.findIn K (.ref C_Tree) "fours" = some (some (.ref f23))) (i23 : PySem.W.isFn K (.ref f23) = true)
    (l23 : K.lookup f23 = some ⟨oc23, od23, .func (PySem.W.fnOf "fours" "Tree.fours" (defArgs s_Tree_fours) (defBody s_Tree_fours) (defScope s_Tree_fours) .none kV23 dc23 pm23 an23 cd23 ct23), sl23⟩) (c23 : PySem.W.codeIn K cd23 "Tree.fours" = true) (k23 : PySem.W.keepIn K (.ref f23) = true)
    (a24 : PySem.W.findIn K (.ref C_Tree) "told" = some (some (.ref f24))) (i24 : PySem.W.isFn K (.ref f24) = true)
    (l24 : K.lookup f24 = some ⟨oc24, od24, .func (PySem.W.fnOf "told" "Tree.told" (defArgs s_Tree_told) (defBody s_Tree_told) (defScope s_Tree_told) .none kV24 dc24 pm24 an24 cd24 ct24), sl24⟩) (c24 : PySem.W.codeIn K cd24 "Tree.told" = true) (k24 : PySem.W.keepIn K (.ref f24) = true)
    (a25 : PySem.W.nsIn K mainGlobals "known_in" = some (some (.ref f25)))
    (l25 : K.lookup f25 = some ⟨oc25, od25, .func (PySem.W.fnOf "known_in" "known_in" (defArgs s_known_in) (defBody s_known_in) (defScope s_known_in) .none kV25 dc25 pm25 an25 cd25 ct25), sl25⟩) (c25 : PySem.W.codeIn K cd25 "known_in" = true) (k25 : PySem.W.keepIn K (.ref f25) = true)
    (a26 : PySem.W.findIn K (.ref C_View) "__init__" = some (some (.ref f26))) (i26 : PySem.W.isFn K (.ref f26) = true)
    (l26 : K.lookup f26 = some ⟨oc26, od26, .func (PySem.W.fnOf "__init__" "View.__init__" (defArgs s_View___init__) (defBody s_View___init__) (defScope s_View___init__) .none kV26 dc26 pm26 an26 cd26 ct26), sl26⟩) (c26 : PySem.W.codeIn K cd26 "View.__init__" = true) (k26 : PySem.W.keepIn K (.ref f26) = true)
    (a27 : PySem.W.findIn K (.ref C_View) "fours" = some (some (.ref f27))) (i27 : PySem.W.isFn K (.ref f27) = true)
    (l27 : K.lookup f27 = some ⟨oc27, od27, .func (PySem.W.fnOf "fours" "View.fours" (defArgs s_View_fours) (defBody s_View_fours) (defScope s_View_fours) .none kV27 dc27 pm27 an27 cd27 ct27), sl27⟩) (c27 : PySem.W.codeIn K cd27 "View.fours" = true) (k27 : PySem.W.keepIn K (.ref f27) = true)
    (a28 : PySem.W.findIn K (.ref C_View) "forget" = some (some (.ref f28))) (i28 : PySem.W.isFn K (.ref f28) = true)
    (l28 : K.lookup f28 = some ⟨oc28, od28, .func (PySem.W.fnOf "forget" "View.forget" (defArgs s_View_forget) (defBody s_View_forget) (defScope s_View_forget) .none kV28 dc28 pm28 an28 cd28 ct28), sl28⟩) (c28 : PySem.W.codeIn K cd28 "View.forget" = true) (k28 : PySem.W.keepIn K (.ref f28) = true)
    (a29 : PySem.W.findIn K (.ref C_View) "on" = some (some (.ref f29))) (i29 : PySem.W.isFn K (.ref f29) = true)
    (l29 : K.lookup f29 = some ⟨oc29, od29, .func (PySem.W.fnOf "on" "View.on" (defArgs s_View_on) (defBody s_View_on) (defScope s_View_on) .none kV29 dc29 pm29 an29 cd29 ct29), sl29⟩) (c29 : PySem.W.codeIn K cd29 "View.on" = true) (k29 : PySem.W.keepIn K (.ref f29) = true)
    (a30 : PySem.W.findIn K (.ref C_View) "wide" = some (some (.ref f30))) (i30 : PySem.W.isFn K (.ref f30) = true)
    (l30 : K.lookup f30 = some ⟨oc30, od30, .func (PySem.W.fnOf "wide" "View.wide" (defArgs s_View_wide) (defBody s_View_wide) (defScope s_View_wide) .none kV30 dc30 pm30 an30 cd30 ct30), sl30⟩) (c30 : PySem.W.codeIn K cd30 "View.wide" = true) (k30 : PySem.W.keepIn K (.ref f30) = true)
    (a31 : PySem.W.findIn K (.ref C_View) "narrow" = some (some (.ref f31))) (i31 : PySem.W.isFn K (.ref f31) = true)
    (l31 : K.lookup f31 = some ⟨oc31, od31, .func (PySem.W.fnOf "narrow" "View.narrow" (defArgs s_View_narrow) (defBody s_View_narrow) (defScope s_View_narrow) .none kV31 dc31 pm31 an31 cd31 ct31), sl31⟩) (c31 : PySem.W.codeIn K cd31 "View.narrow" = true) (k31 : PySem.W.keepIn K (.ref f31) = true)
    (a32 : PySem.W.findIn K (.ref C_View) "columns" = some (some (.ref f32))) (i32 : PySem.W.isFn K (.ref f32) = true)
    (l32 : K.lookup f32 = some ⟨oc32, od32, .func (PySem.W.fnOf "columns" "View.columns" (defArgs s_View_columns) (defBody s_View_columns) (defScope s_View_columns) .none kV32 dc32 pm32 an32 cd32 ct32), sl32⟩) (c32 : PySem.W.codeIn K cd32 "View.columns" = true) (k32 : PySem.W.keepIn K (.ref f32) = true)
    (a33 : PySem.W.findIn K (.ref C_View) "step_to" = some (some (.ref f33))) (i33 : PySem.W.isFn K (.ref f33) = true)
    (l33 : K.lookup f33 = some ⟨oc33, od33, .func (PySem.W.fnOf "step_to" "View.step_to" (defArgs s_View_step_to) (defBody s_View_step_to) (defScope s_View_step_to) .none kV33 dc33 pm33 an33 cd33 ct33), sl33⟩) (c33 : PySem.W.codeIn K cd33 "View.step_to" = true) (k33 : PySem.W.keepIn K (.ref f33) = true)
    (a34 : PySem.W.findIn K (.ref C_Store) "__init__" = some (some (.ref f34))) (i34 : PySem.W.isFn K (.ref f34) = true)
    (l34 : K.lookup f34 = some ⟨oc34, od34, .func (PySem.W.fnOf "__init__" "Store.__init__" (defArgs s_Store___init__) (defBody s_Store___init__) (defScope s_Store___init__) (.ref dt34) kV34 dc34 pm34 an34 cd34 ct34), sl34⟩) (c34 : PySem.W.codeIn K cd34 "Store.__init__" = true) (k34 : PySem.W.keepIn K (.ref f34) = true)
    (dl34 : K.lookup dt34 = some ⟨doc34, dod34, .seq #[.none] dn34, dsl34⟩)
    (a35 : PySem.W.findIn K (.ref C_Store) "put" = some (some (.ref f35))) (i35 : PySem.W.isFn K (.ref f35) = true)
    (l35 : K.lookup f35 = some ⟨oc35, od35, .func (PySem.W.fnOf "put" "Store.put" (defArgs s_Store_put) (defBody s_Store_put) (defScope s_Store_put) .none kV35 dc35 pm35 an35 cd35 ct35), sl35⟩) (c35 : PySem.W.codeIn K cd35 "Store.put" = true) (k35 : PySem.W.keepIn K (.ref f35) = true)
    (a36 : PySem.W.findIn K (.ref C_Store) "take" = some (some (.ref f36))) (i36 : PySem.W.isFn K (.ref f36) = true)
    (l36 : K.lookup f36 = some ⟨oc36, od36, .func (PySem.W.fnOf "take" "Store.take" (defArgs s_Store_take) (defBody s_Store_take) (defScope s_Store_take) .none kV36 dc36 pm36 an36 cd36 ct36), sl36⟩) (c36 : PySem.W.codeIn K cd36 "Store.take" = true) (k36 : PySem.W.keepIn K (.ref f36) = true)
    (a37 : PySem.W.findIn K (.ref C_Store) "height" = some (some (.ref f37))) (i37 : PySem.W.isFn K (.ref f37) = true)
    (l37 : K.lookup f37 = some ⟨oc37, od37, .func (PySem.W.fnOf "height" "Store.height" (defArgs s_Store_height) (defBody s_Store_height) (defScope s_Store_height) .none kV37 dc37 pm37 an37 cd37 ct37), sl37⟩) (c37 : PySem.W.codeIn K cd37 "Store.height" = true) (k37 : PySem.W.keepIn K (.ref f37) = true)
    (a38 : PySem.W.findIn K (.ref C_Store) "check_sample" = some (some (.ref f38))) (i38 : PySem.W.isFn K (.ref f38) = true)
    (l38 : K.lookup f38 = some ⟨oc38, od38, .func (PySem.W.fnOf "check_sample" "Store.check_sample" (defArgs s_Store_check_sample) (defBody s_Store_check_sample) (defScope s_Store_check_sample) .none kV38 dc38 pm38 an38 cd38 ct38), sl38⟩) (c38 : PySem.W.codeIn K cd38 "Store.check_sample" = true) (k38 : PySem.W.keepIn K (.ref f38) = true)
    (a39 : PySem.W.findIn K (.ref C_Store) "do" = some (some (.ref f39))) (i39 : PySem.W.isFn K (.ref f39) = true)
    (l39 : K.lookup f39 = some ⟨oc39, od39, .func (PySem.W.fnOf "do" "Store.do" (defArgs s_Store_do) (defBody s_Store_do) (defScope s_Store_do) .none kV39 dc39 pm39 an39 cd39 ct39), sl39⟩) (c39 : PySem.W.codeIn K cd39 "Store.do" = true) (k39 : PySem.W.keepIn K (.ref f39) = true)
    (a40 : PySem.W.findIn K (.ref C_Store) "bring" = some (some (.ref f40))) (i40 : PySem.W.isFn K (.ref f40) = true)
    (l40 : K.lookup f40 = some ⟨oc40, od40, .func (PySem.W.fnOf "bring" "Store.bring" (defArgs s_Store_bring) (defBody s_Store_bring) (defScope s_Store_bring) .none kV40 dc40 pm40 an40 cd40 ct40), sl40⟩) (c40 : PySem.W.codeIn K cd40 "Store.bring" = true) (k40 : PySem.W.keepIn K (.ref f40) = true)
    (a41 : PySem.W.findIn K (.ref C_Store) "undo" = some (some (.ref f41))) (i41 : PySem.W.isFn K (.ref f41) = true)
    (l41 : K.lookup f41 = some ⟨oc41, od41, .func (PySem.W.fnOf "undo" "Store.undo" (defArgs s_Store_undo) (defBody s_Store_undo) (defScope s_Store_undo) .none kV41 dc41 pm41 an41 cd41 ct41), sl41⟩) (c41 : PySem.W.codeIn K cd41 "Store.undo" = true) (k41 : PySem.W.keepIn K (.ref f41) = true)
    (a42 : PySem.W.findIn K (.ref C_Store) "times" = some (some (.ref f42))) (i42 : PySem.W.isFn K (.ref f42) = true)
    (l42 : K.lookup f42 = some ⟨oc42, od42, .func (PySem.W.fnOf "times" "Store.times" (defArgs s_Store_times) (defBody s_Store_times) (defScope s_Store_times) .none kV42 dc42 pm42 an42 cd42 ct42), sl42⟩) (c42 : PySem.W.codeIn K cd42 "Store.times" = true) (k42 : PySem.W.keepIn K (.ref f42) = true)
    (a43 : PySem.W.findIn K (.ref C_Store) "four" = some (some (.ref f43))) (i43 : PySem.W.isFn K (.ref f43) = true)
    (l43 : K.lookup f43 = some ⟨oc43, od43, .func (PySem.W.fnOf "four" "Store.four" (defArgs s_Store_four) (defBody s_Store_four) (defScope s_Store_four) .none kV43 dc43 pm43 an43 cd43 ct43), sl43⟩) (c43 : PySem.W.codeIn K cd43 "Store.four" = true) (k43 : PySem.W.keepIn K (.ref f43) = true)
    (a44 : PySem.W.findIn K (.ref C_Store) "fours" = some (some (.ref f44))) (i44 : PySem.W.isFn K (.ref f44) = true)
    (l44 : K.lookup f44 = some ⟨oc44, od44, .func (PySem.W.fnOf "fours" "Store.fours" (defArgs s_Store_fours) (defBody s_Store_fours) (defScope s_Store_fours) .none kV44 dc44 pm44 an44 cd44 ct44), sl44⟩) (c44 : PySem.W.codeIn K cd44 "Store.fours" = true) (k44 : PySem.W.keepIn K (.ref f44) = true)
    (a45 : PySem.W.findIn K (.ref C_Store) "told" = some (some (.ref f45))) (i45 : PySem.W.isFn K (.ref f45) = true)
    (l45 : K.lookup f45 = some ⟨oc45, od45, .func (PySem.W.fnOf "told" "Store.told" (defArgs s_Store_told) (defBody s_Store_told) (defScope s_Store_told) .none kV45 dc45 pm45 an45 cd45 ct45), sl45⟩) (c45 : PySem.W.codeIn K cd45 "Store.told" = true) (k45 : PySem.W.keepIn K (.ref f45) = true)
    (a46 : PySem.W.findIn K (.ref C_Store) "watch" = some (some (.ref f46))) (i46 : PySem.W.isFn K (.ref f46) = true)
    (l46 : K.lookup f46 = some ⟨oc46, od46, .func (PySem.W.fnOf "watch" "Store.watch" (defArgs s_Store_watch) (defBody s_Store_watch) (defScope s_Store_watch) .none kV46 dc46 pm46 an46 cd46 ct46), sl46⟩) (c46 : PySem.W.codeIn K cd46 "Store.watch" = true) (k46 : PySem.W.keepIn K (.ref f46) = true)
    (a47 : PySem.W.findIn K (.ref C_Store) "news" = some (some (.ref f47))) (i47 : PySem.W.isFn K (.ref f47) = true)
    (l47 : K.lookup f47 = some ⟨oc47, od47, .func (PySem.W.fnOf "news" "Store.news" (defArgs s_Store_news) (defBody s_Store_news) (defScope s_Store_news) .none kV47 dc47 pm47 an47 cd47 ct47), sl47⟩) (c47 : PySem.W.codeIn K cd47 "Store.news" = true) (k47 : PySem.W.keepIn K (.ref f47) = true)
    (a48 : PySem.W.nsIn K mainGlobals "_law_cell" = some (some (.ref f48)))
    (l48 : K.lookup f48 = some ⟨oc48, od48, .func (PySem.W.fnOf "_law_cell" "_law_cell" (defArgs s_l_cell) (defBody s_l_cell) (defScope s_l_cell) .none kV48 dc48 pm48 an48 cd48 ct48), sl48⟩) (c48 : PySem.W.codeIn K cd48 "_law_cell" = true) (k48 : PySem.W.keepIn K (.ref f48) = true)
    (a49 : PySem.W.nsIn K mainGlobals "_law_pot" = some (some (.ref f49)))
    (l49 : K.lookup f49 = some ⟨oc49, od49, .func (PySem.W.fnOf "_law_pot" "_law_pot" (defArgs s_l_pot) (defBody s_l_pot) (defScope s_l_pot) .none kV49 dc49 pm49 an49 cd49 ct49), sl49⟩) (c49 : PySem.W.codeIn K cd49 "_law_pot" = true) (k49 : PySem.W.keepIn K (.ref f49) = true)
    (a50 : PySem.W.nsIn K mainGlobals "_law_draw" = some (some (.ref f50)))
    (l50 : K.lookup f50 = some ⟨oc50, od50, .func (PySem.W.fnOf "_law_draw" "_law_draw" (defArgs s_l_draw) (defBody s_l_draw) (defScope s_l_draw) .none kV50 dc50 pm50 an50 cd50 ct50), sl50⟩) (c50 : PySem.W.codeIn K cd50 "_law_draw" = true) (k50 : PySem.W.keepIn K (.ref f50) = true)
    (a51 : PySem.W.nsIn K mainGlobals "_law_in" = some (some (.ref f51)))
    (l51 : K.lookup f51 = some ⟨oc51, od51, .func (PySem.W.fnOf "_law_in" "_law_in" (defArgs s_l_in) (defBody s_l_in) (defScope s_l_in) .none kV51 dc51 pm51 an51 cd51 ct51), sl51⟩) (c51 : PySem.W.codeIn K cd51 "_law_in" = true) (k51 : PySem.W.keepIn K (.ref f51) = true)
    (a52 : PySem.W.nsIn K mainGlobals "_law_within" = some (some (.ref f52)))
    (l52 : K.lookup f52 = some ⟨oc52, od52, .func (PySem.W.fnOf "_law_within" "_law_within" (defArgs s_l_within) (defBody s_l_within) (defScope s_l_within) .none kV52 dc52 pm52 an52 cd52 ct52), sl52⟩) (c52 : PySem.W.codeIn K cd52 "_law_within" = true) (k52 : PySem.W.keepIn K (.ref f52) = true)
    (a53 : PySem.W.nsIn K mainGlobals "_law_height" = some (some (.ref f53)))
    (l53 : K.lookup f53 = some ⟨oc53, od53, .func (PySem.W.fnOf "_law_height" "_law_height" (defArgs s_l_height) (defBody s_l_height) (defScope s_l_height) .none kV53 dc53 pm53 an53 cd53 ct53), sl53⟩) (c53 : PySem.W.codeIn K cd53 "_law_height" = true) (k53 : PySem.W.keepIn K (.ref f53) = true)
    (a54 : PySem.W.nsIn K mainGlobals "_law_window" = some (some (.ref f54)))
    (l54 : K.lookup f54 = some ⟨oc54, od54, .func (PySem.W.fnOf "_law_window" "_law_window" (defArgs s_l_window) (defBody s_l_window) (defScope s_l_window) .none kV54 dc54 pm54 an54 cd54 ct54), sl54⟩) (c54 : PySem.W.codeIn K cd54 "_law_window" = true) (k54 : PySem.W.keepIn K (.ref f54) = true)
    (a55 : PySem.W.nsIn K mainGlobals "_law_time" = some (some (.ref f55)))
    (l55 : K.lookup f55 = some ⟨oc55, od55, .func (PySem.W.fnOf "_law_time" "_law_time" (defArgs s_l_time) (defBody s_l_time) (defScope s_l_time) .none kV55 dc55 pm55 an55 cd55 ct55), sl55⟩) (c55 : PySem.W.codeIn K cd55 "_law_time" = true) (k55 : PySem.W.keepIn K (.ref f55) = true)
    (a56 : PySem.W.nsIn K mainGlobals "_law_curve" = some (some (.ref f56)))
    (l56 : K.lookup f56 = some ⟨oc56, od56, .func (PySem.W.fnOf "_law_curve" "_law_curve" (defArgs s_l_curve) (defBody s_l_curve) (defScope s_l_curve) .none kV56 dc56 pm56 an56 cd56 ct56), sl56⟩) (c56 : PySem.W.codeIn K cd56 "_law_curve" = true) (k56 : PySem.W.keepIn K (.ref f56) = true)
    (a57 : PySem.W.nsIn K mainGlobals "_law_step" = some (some (.ref f57)))
    (l57 : K.lookup f57 = some ⟨oc57, od57, .func (PySem.W.fnOf "_law_step" "_law_step" (defArgs s_l_step) (defBody s_l_step) (defScope s_l_step) .none kV57 dc57 pm57 an57 cd57 ct57), sl57⟩) (c57 : PySem.W.codeIn K cd57 "_law_step" = true) (k57 : PySem.W.keepIn K (.ref f57) = true)
    (a58 : PySem.W.nsIn K mainGlobals "_law_go" = some (some (.ref f58)))
    (l58 : K.lookup f58 = some ⟨oc58, od58, .func (PySem.W.fnOf "_law_go" "_law_go" (defArgs s_l_go) (defBody s_l_go) (defScope s_l_go) .none kV58 dc58 pm58 an58 cd58 ct58), sl58⟩) (c58 : PySem.W.codeIn K cd58 "_law_go" = true) (k58 : PySem.W.keepIn K (.ref f58) = true)
    (a59 : PySem.W.nsIn K mainGlobals "_law_known" = some (some (.ref f59)))
    (l59 : K.lookup f59 = some ⟨oc59, od59, .func (PySem.W.fnOf "_law_known" "_law_known" (defArgs s_l_known) (defBody s_l_known) (defScope s_l_known) .none kV59 dc59 pm59 an59 cd59 ct59), sl59⟩) (c59 : PySem.W.codeIn K cd59 "_law_known" = true) (k59 : PySem.W.keepIn K (.ref f59) = true)
    (a60 : PySem.W.nsIn K mainGlobals "law" = some (some (.ref f60)))
    (l60 : K.lookup f60 = some ⟨oc60, od60, .func (PySem.W.fnOf "law" "law" (defArgs s_law) (defBody s_law) (defScope s_law) .none kV60 dc60 pm60 an60 cd60 ct60), sl60⟩) (c60 : PySem.W.codeIn K cd60 "law" = true) (k60 : PySem.W.keepIn K (.ref f60) = true)
    (ac_TOP_LEVEL : PySem.W.nsIn K mainGlobals "TOP_LEVEL" = some (some (.int 40 tk_TOP_LEVEL)))
    (ac_TIMES_END : PySem.W.nsIn K mainGlobals "TIMES_END" = some (some (.int 1099511627776 tk_TIMES_END)))
    (z_ValueError : PySem.W.nsIn K mainGlobals "ValueError" = some none)
    (z_abs : PySem.W.nsIn K mainGlobals "abs" = some none)
    (z_bool : PySem.W.nsIn K mainGlobals "bool" = some none)
    (z_divmod : PySem.W.nsIn K mainGlobals "divmod" = some none)
    (z_int : PySem.W.nsIn K mainGlobals "int" = some none)
    (z_isinstance : PySem.W.nsIn K mainGlobals "isinstance" = some none)
    (z_len : PySem.W.nsIn K mainGlobals "len" = some none)
    (z_list : PySem.W.nsIn K mainGlobals "list" = some none)
    (z_max : PySem.W.nsIn K mainGlobals "max" = some none)
    (z_min : PySem.W.nsIn K mainGlobals "min" = some none)
    (z_range : PySem.W.nsIn K mainGlobals "range" = some none)
    (z_sorted : PySem.W.nsIn K mainGlobals "sorted" = some none)
    (z_tuple : PySem.W.nsIn K mainGlobals "tuple" = some none)
    : ∃ fd : FuncData, (∀ (s : Shared) (v : Value), BindsTo s fd ⟨[v], []⟩ [("_law_script", v)]) ∧ ∀ base : Heap, K.In base → base.Ns mainGlobals mg → FnOk l.prog w K mg base CX0 9 fa fd ["_law_script"] (spLaw K) := by
  have e := hfa.symm.trans (PySem.W.mg_of X G a60)
  cases e
  have F0 := fun_mk (st := s__wall) l0 c0 k0
  have F1 := fun_mk (st := s_is_whole) l1 c1 k1
  have F2 := fun_mk (st := s_column_of) l2 c2 k2
  have F3 := fun_mk (st := s_times_of) l3 c3 k3
  have F4 := fun_mk (st := s_columns_of) l4 c4 k4
  have F5 := fun_mk (st := s_moved) l5 c5 k5
  have F6 := fun_mk (st := s_widened) l6 c6 k6
  have F7 := fun_mk (st := s_narrowed) l7 c7 k7
  have F8 := fun_mk (st := s_with_columns) l8 c8 k8
  have F9 := fun_mk (st := s_height_of) l9 c9 k9
  have F10 := fun_mk (st := s_four_of) l10 c10 k10
  have F11 := fun_mk (st := s_joined) l11 c11 k11
  have F12 := fun_mk (st := s_is_border) l12 c12 k12
  have F13 := fun_mk (st := s_check_borders) l13 c13 k13
  have F14 := fun_mk (st := s_check_time) l14 c14 k14
  have F15 := fun_mk (st := s_check_window) l15 c15 k15
  have F16 := fun_mk (st := s_stretches) l16 c16 k16
  have F17 := fun_mk (st := s_longest) l17 c17 k17
  have F18 := fund_mk (st := s_Tree___init__) l18 c18 k18
  have F19 := fun_mk (st := s_Tree_put) l19 c19 k19
  have F20 := fun_mk (st := s_Tree_take) l20 c20 k20
  have F21 := fun_mk (st := s_Tree_renew) l21 c21 k21
  have F22 := fun_mk (st := s_Tree_four) l22 c22 k22
  have F23 := fun_mk (st := s_Tree_fours) l23 c23 k23
  have F24 := fun_mk (st := s_Tree_told) l24 c24 k24
  have F25 := fun_mk (st := s_known_in) l25 c25 k25
  have F26 := fun_mk (st := s_View___init__) l26 c26 k26
  have F27 := fun_mk (st := s_View_fours) l27 c27 k27
  have F28 := fun_mk (st := s_View_forget) l28 c28 k28
  have F29 := fun_mk (st := s_View_on) l29 c29 k29
  have F30 := fun_mk (st := s_View_wide) l30 c30 k30
  have F31 := fun_mk (st := s_View_narrow) l31 c31 k31
  have F32 := fun_mk (st := s_View_columns) l32 c32 k32
  have F33 := fun_mk (st := s_View_step_to) l33 c33 k33
  have F34 := fund_mk (st := s_Store___init__) l34 c34 k34
  have F35 := fun_mk (st := s_Store_put) l35 c35 k35
  have F36 := fun_mk (st := s_Store_take) l36 c36 k36
  have F37 := fun_mk (st := s_Store_height) l37 c37 k37
  have F38 := fun_mk (st := s_Store_check_sample) l38 c38 k38
  have F39 := fun_mk (st := s_Store_do) l39 c39 k39
  have F40 := fun_mk (st := s_Store_bring) l40 c40 k40
  have F41 := fun_mk (st := s_Store_undo) l41 c41 k41
  have F42 := fun_mk (st := s_Store_times) l42 c42 k42
  have F43 := fun_mk (st := s_Store_four) l43 c43 k43
  have F44 := fun_mk (st := s_Store_fours) l44 c44 k44
  have F45 := fun_mk (st := s_Store_told) l45 c45 k45
  have F46 := fun_mk (st := s_Store_watch) l46 c46 k46
  have F47 := fun_mk (st := s_Store_news) l47 c47 k47
  have F48 := fun_mk (st := s_l_cell) l48 c48 k48
  have F49 := fun_mk (st := s_l_pot) l49 c49 k49
  have F50 := fun_mk (st := s_l_draw) l50 c50 k50
  have F51 := fun_mk (st := s_l_in) l51 c51 k51
  have F52 := fun_mk (st := s_l_within) l52 c52 k52
  have F53 := fun_mk (st := s_l_height) l53 c53 k53
  have F54 := fun_mk (st := s_l_window) l54 c54 k54
  have F55 := fun_mk (st := s_l_time) l55 c55 k55
  have F56 := fun_mk (st := s_l_curve) l56 c56 k56
  have F57 := fun_mk (st := s_l_step) l57 c57 k57
  have F58 := fun_mk (st := s_l_go) l58 c58 k58
  have F59 := fun_mk (st := s_l_known) l59 c59 k59
  have F60 := fun_mk (st := s_law) l60 c60 k60
  have T : Txt K mg ⟨f0, PySem.W.fnOf "_wall" "_wall" (defArgs s__wall) (defBody s__wall) (defScope s__wall) .none kV0 dc0 pm0 an0 cd0 ct0, f1, PySem.W.fnOf "is_whole" "is_whole" (defArgs s_is_whole) (defBody s_is_whole) (defScope s_is_whole) .none kV1 dc1 pm1 an1 cd1 ct1, f2, PySem.W.fnOf "column_of" "column_of" (defArgs s_column_of) (defBody s_column_of) (defScope s_column_of) .none kV2 dc2 pm2 an2 cd2 ct2, f3, PySem.W.fnOf "times_of" "times_of" (defArgs s_times_of) (defBody s_times_of) (defScope s_times_of) .none kV3 dc3 pm3 an3 cd3 ct3, f4, PySem.W.fnOf "columns_of" "columns_of" (defArgs s_columns_of) (defBody s_columns_of) (defScope s_columns_of) .none kV4 dc4 pm4 an4 cd4 ct4, f5, PySem.W.fnOf "moved" "moved" (defArgs s_moved) (defBody s_moved) (defScope s_moved) .none kV5 dc5 pm5 an5 cd5 ct5, f6, PySem.W.fnOf "widened" "widened" (defArgs s_widened) (defBody s_widened) (defScope s_widened) .none kV6 dc6 pm6 an6 cd6 ct6, f7, PySem.W.fnOf "narrowed" "narrowed" (defArgs s_narrowed) (defBody s_narrowed) (defScope s_narrowed) .none kV7 dc7 pm7 an7 cd7 ct7, f8, PySem.W.fnOf "with_columns" "with_columns" (defArgs s_with_columns) (defBody s_with_columns) (defScope s_with_columns) .none kV8 dc8 pm8 an8 cd8 ct8, f9, PySem.W.fnOf "height_of" "height_of" (defArgs s_height_of) (defBody s_height_of) (defScope s_height_of) .none kV9 dc9 pm9 an9 cd9 ct9, f10, PySem.W.fnOf "four_of" "four_of" (defArgs s_four_of) (defBody s_four_of) (defScope s_four_of) .none kV10 dc10 pm10 an10 cd10 ct10, f11, PySem.W.fnOf "joined" "joined" (defArgs s_joined) (defBody s_joined) (defScope s_joined) .none kV11 dc11 pm11 an11 cd11 ct11, f12, PySem.W.fnOf "is_border" "is_border" (defArgs s_is_border) (defBody s_is_border) (defScope s_is_border) .none kV12 dc12 pm12 an12 cd12 ct12, f13, PySem.W.fnOf "check_borders" "check_borders" (defArgs s_check_borders) (defBody s_check_borders) (defScope s_check_borders) .none kV13 dc13 pm13 an13 cd13 ct13, f14, PySem.W.fnOf "check_time" "check_time" (defArgs s_check_time) (defBody s_check_time) (defScope s_check_time) .none kV14 dc14 pm14 an14 cd14 ct14, f15, PySem.W.fnOf "check_window" "check_window" (defArgs s_check_window) (defBody s_check_window) (defScope s_check_window) .none kV15 dc15 pm15 an15 cd15 ct15, f16, PySem.W.fnOf "stretches" "stretches" (defArgs s_stretches) (defBody s_stretches) (defScope s_stretches) .none kV16 dc16 pm16 an16 cd16 ct16, f17, PySem.W.fnOf "longest" "longest" (defArgs s_longest) (defBody s_longest) (defScope s_longest) .none kV17 dc17 pm17 an17 cd17 ct17, f18, PySem.W.fnOf "__init__" "Tree.__init__" (defArgs s_Tree___init__) (defBody s_Tree___init__) (defScope s_Tree___init__) (.ref dt18) kV18 dc18 pm18 an18 cd18 ct18, f19, PySem.W.fnOf "put" "Tree.put" (defArgs s_Tree_put) (defBody s_Tree_put) (defScope s_Tree_put) .none kV19 dc19 pm19 an19 cd19 ct19, f20, PySem.W.fnOf "take" "Tree.take" (defArgs s_Tree_take) (defBody s_Tree_take) (defScope s_Tree_take) .none kV20 dc20 pm20 an20 cd20 ct20, f21, PySem.W.fnOf "renew" "Tree.renew" (defArgs s_Tree_renew) (defBody s_Tree_renew) (defScope s_Tree_renew) .none kV21 dc21 pm21 an21 cd21 ct21, f22, PySem.W.fnOf "four" "Tree.four" (defArgs s_Tree_four) (defBody s_Tree_four) (defScope s_Tree_four) .none kV22 dc22 pm22 an22 cd22 ct22, f23, PySem.W.fnOf "fours" "Tree.fours" (defArgs s_Tree_fours) (defBody s_Tree_fours) (defScope s_Tree_fours) .none kV23 dc23 pm23 an23 cd23 ct23, f24, PySem.W.fnOf "told" "Tree.told" (defArgs s_Tree_told) (defBody s_Tree_told) (defScope s_Tree_told) .none kV24 dc24 pm24 an24 cd24 ct24, f25, PySem.W.fnOf "known_in" "known_in" (defArgs s_known_in) (defBody s_known_in) (defScope s_known_in) .none kV25 dc25 pm25 an25 cd25 ct25, f26, PySem.W.fnOf "__init__" "View.__init__" (defArgs s_View___init__) (defBody s_View___init__) (defScope s_View___init__) .none kV26 dc26 pm26 an26 cd26 ct26, f27, PySem.W.fnOf "fours" "View.fours" (defArgs s_View_fours) (defBody s_View_fours) (defScope s_View_fours) .none kV27 dc27 pm27 an27 cd27 ct27, f28, PySem.W.fnOf "forget" "View.forget" (defArgs s_View_forget) (defBody s_View_forget) (defScope s_View_forget) .none kV28 dc28 pm28 an28 cd28 ct28, f29, PySem.W.fnOf "on" "View.on" (defArgs s_View_on) (defBody s_View_on) (defScope s_View_on) .none kV29 dc29 pm29 an29 cd29 ct29, f30, PySem.W.fnOf "wide" "View.wide" (defArgs s_View_wide) (defBody s_View_wide) (defScope s_View_wide) .none kV30 dc30 pm30 an30 cd30 ct30, f31, PySem.W.fnOf "narrow" "View.narrow" (defArgs s_View_narrow) (defBody s_View_narrow) (defScope s_View_narrow) .none kV31 dc31 pm31 an31 cd31 ct31, f32, PySem.W.fnOf "columns" "View.columns" (defArgs s_View_columns) (defBody s_View_columns) (defScope s_View_columns) .none kV32 dc32 pm32 an32 cd32 ct32, f33, PySem.W.fnOf "step_to" "View.step_to" (defArgs s_View_step_to) (defBody s_View_step_to) (defScope s_View_step_to) .none kV33 dc33 pm33 an33 cd33 ct33, f34, PySem.W.fnOf "__init__" "Store.__init__" (defArgs s_Store___init__) (defBody s_Store___init__) (defScope s_Store___init__) (.ref dt34) kV34 dc34 pm34 an34 cd34 ct34, f35, PySem.W.fnOf "put" "Store.put" (defArgs s_Store_put) (defBody s_Store_put) (defScope s_Store_put) .none kV35 dc35 pm35 an35 cd35 ct35, f36, PySem.W.fnOf "take" "Store.take" (defArgs s_Store_take) (defBody s_Store_take) (defScope s_Store_take) .none kV36 dc36 pm36 an36 cd36 ct36, f37, PySem.W.fnOf "height" "Store.height" (defArgs s_Store_height) (defBody s_Store_height) (defScope s_Store_height) .none kV37 dc37 pm37 an37 cd37 ct37, f38, PySem.W.fnOf "check_sample" "Store.check_sample" (defArgs s_Store_check_sample) (defBody s_Store_check_sample) (defScope s_Store_check_sample) .none kV38 dc38 pm38 an38 cd38 ct38, f39, PySem.W.fnOf "do" "Store.do" (defArgs s_Store_do) (defBody s_Store_do) (defScope s_Store_do) .none kV39 dc39 pm39 an39 cd39 ct39, f40, PySem.W.fnOf "bring" "Store.bring" (defArgs s_Store_bring) (defBody s_Store_bring) (defScope s_Store_bring) .none kV40 dc40 pm40 an40 cd40 ct40, f41, PySem.W.fnOf "undo" "Store.undo" (defArgs s_Store_undo) (defBody s_Store_undo) (defScope s_Store_undo) .none kV41 dc41 pm41 an41 cd41 ct41, f42, PySem.W.fnOf "times" "Store.times" (defArgs s_Store_times) (defBody s_Store_times) (defScope s_Store_times) .none kV42 dc42 pm42 an42 cd42 ct42, f43, PySem.W.fnOf "four" "Store.four" (defArgs s_Store_four) (defBody s_Store_four) (defScope s_Store_four) .none kV43 dc43 pm43 an43 cd43 ct43, f44, PySem.W.fnOf "fours" "Store.fours" (defArgs s_Store_fours) (defBody s_Store_fours) (defScope s_Store_fours) .none kV44 dc44 pm44 an44 cd44 ct44, f45, PySem.W.fnOf "told" "Store.told" (defArgs s_Store_told) (defBody s_Store_told) (defScope s_Store_told) .none kV45 dc45 pm45 an45 cd45 ct45, f46, PySem.W.fnOf "watch" "Store.watch" (defArgs s_Store_watch) (defBody s_Store_watch) (defScope s_Store_watch) .none kV46 dc46 pm46 an46 cd46 ct46, f47, PySem.W.fnOf "news" "Store.news" (defArgs s_Store_news) (defBody s_Store_news) (defScope s_Store_news) .none kV47 dc47 pm47 an47 cd47 ct47, f48, PySem.W.fnOf "_law_cell" "_law_cell" (defArgs s_l_cell) (defBody s_l_cell) (defScope s_l_cell) .none kV48 dc48 pm48 an48 cd48 ct48, f49, PySem.W.fnOf "_law_pot" "_law_pot" (defArgs s_l_pot) (defBody s_l_pot) (defScope s_l_pot) .none kV49 dc49 pm49 an49 cd49 ct49, f50, PySem.W.fnOf "_law_draw" "_law_draw" (defArgs s_l_draw) (defBody s_l_draw) (defScope s_l_draw) .none kV50 dc50 pm50 an50 cd50 ct50, f51, PySem.W.fnOf "_law_in" "_law_in" (defArgs s_l_in) (defBody s_l_in) (defScope s_l_in) .none kV51 dc51 pm51 an51 cd51 ct51, f52, PySem.W.fnOf "_law_within" "_law_within" (defArgs s_l_within) (defBody s_l_within) (defScope s_l_within) .none kV52 dc52 pm52 an52 cd52 ct52, f53, PySem.W.fnOf "_law_height" "_law_height" (defArgs s_l_height) (defBody s_l_height) (defScope s_l_height) .none kV53 dc53 pm53 an53 cd53 ct53, f54, PySem.W.fnOf "_law_window" "_law_window" (defArgs s_l_window) (defBody s_l_window) (defScope s_l_window) .none kV54 dc54 pm54 an54 cd54 ct54, f55, PySem.W.fnOf "_law_time" "_law_time" (defArgs s_l_time) (defBody s_l_time) (defScope s_l_time) .none kV55 dc55 pm55 an55 cd55 ct55, f56, PySem.W.fnOf "_law_curve" "_law_curve" (defArgs s_l_curve) (defBody s_l_curve) (defScope s_l_curve) .none kV56 dc56 pm56 an56 cd56 ct56, f57, PySem.W.fnOf "_law_step" "_law_step" (defArgs s_l_step) (defBody s_l_step) (defScope s_l_step) .none kV57 dc57 pm57 an57 cd57 ct57, f58, PySem.W.fnOf "_law_go" "_law_go" (defArgs s_l_go) (defBody s_l_go) (defScope s_l_go) .none kV58 dc58 pm58 an58 cd58 ct58, f59, PySem.W.fnOf "_law_known" "_law_known" (defArgs s_l_known) (defBody s_l_known) (defScope s_l_known) .none kV59 dc59 pm59 an59 cd59 ct59, fa, PySem.W.fnOf "law" "law" (defArgs s_law) (defBody s_law) (defScope s_law) .none kV60 dc60 pm60 an60 cd60 ct60, C_Tree, C_View, C_Store, C_NoColumn, C_NotHalf, C_OutOfTimes, C_NoSample, tk_TOP_LEVEL, tk_TIMES_END⟩ := ⟨F0,
    (F0.binds (ps := ["k"]) fun _ _ _ _ _ _ us hl => match us, hl with | [_], _ => rfl),
    (PySem.W.mg_of X G a0),
    F1,
    (F1.binds (ps := ["thing"]) fun _ _ _ _ _ _ us hl => match us, hl with | [_], _ => rfl),
    (PySem.W.mg_of X G a1),
    F2,
    (F2.binds (ps := ["window", "t"]) fun _ _ _ _ _ _ us hl => match us, hl with | [_, _], _ => rfl),
    (PySem.W.mg_of X G a2),
    F3,
    (F3.binds (ps := ["window", "k"]) fun _ _ _ _ _ _ us hl => match us, hl with | [_, _], _ => rfl),
    (PySem.W.mg_of X G a3),
    F4,
    (F4.binds (ps := ["window"]) fun _ _ _ _ _ _ us hl => match us, hl with | [_], _ => rfl),
    (PySem.W.mg_of X G a4),
    F5,
    (F5.binds (ps := ["window", "c"]) fun _ _ _ _ _ _ us hl => match us, hl with | [_, _], _ => rfl),
    (PySem.W.mg_of X G a5),
    F6,
    (F6.binds (ps := ["window"]) fun _ _ _ _ _ _ us hl => match us, hl with | [_], _ => rfl),
    (PySem.W.mg_of X G a6),
    F7,
    (F7.binds (ps := ["window"]) fun _ _ _ _ _ _ us hl => match us, hl with | [_], _ => rfl),
    (PySem.W.mg_of X G a7),
    F8,
    (F8.binds (ps := ["window", "n"]) fun _ _ _ _ _ _ us hl => match us, hl with | [_, _], _ => rfl),
    (PySem.W.mg_of X G a8),
    F9,
    (F9.binds (ps := ["sample"]) fun _ _ _ _ _ _ us hl => match us, hl with | [_], _ => rfl),
    (PySem.W.mg_of X G a9),
    F10,
    (F10.binds (ps := ["curve"]) fun _ _ _ _ _ _ us hl => match us, hl with | [_], _ => rfl),
    (PySem.W.mg_of X G a10),
    F11,
    (F11.binds (ps := ["one", "other"]) fun _ _ _ _ _ _ us hl => match us, hl with | [_, _], _ => rfl),
    (PySem.W.mg_of X G a11),
    F12,
    (F12.binds (ps := ["thing"]) fun _ _ _ _ _ _ us hl => match us, hl with | [_], _ => rfl),
    (PySem.W.mg_of X G a12),
    F13,
    (F13.binds (ps := ["begin", "end"]) fun _ _ _ _ _ _ us hl => match us, hl with | [_, _], _ => rfl),
    (PySem.W.mg_of X G a13),
    F14,
    (F14.binds (ps := ["t"]) fun _ _ _ _ _ _ us hl => match us, hl with | [_], _ => rfl),
    (PySem.W.mg_of X G a14),
    F15,
    (F15.binds (ps := ["window"]) fun _ _ _ _ _ _ us hl => match us, hl with | [_], _ => rfl),
    (PySem.W.mg_of X G a15),
    F16,
    (F16.binds (ps := ["begin", "end"]) fun _ _ _ _ _ _ us hl => match us, hl with | [_, _], _ => rfl),
    (PySem.W.mg_of X G a16),
    F17,
    (F17.binds (ps := ["first", "end"]) fun _ _ _ _ _ _ us hl => match us, hl with | [_, _], _ => rfl),
    (PySem.W.mg_of X G a17),
    F18,
    (fun s us hI hl => by match us, hl with | [_, _], _ => exact PySem.W.binds_K hI rfl dl18 rfl rfl rfl),
    (fun s us hI hl => have hl2 : us.length = 1 := (by simpa using hl); match us, hl2 with | [_], _ => PySem.W.binds_K hI rfl dl18 rfl rfl rfl),
    (fun s u v hI => PySem.W.binds_K hI rfl dl18 rfl rfl rfl),
    F19,
    (F19.binds (ps := ["self", "t", "h"]) fun _ _ _ _ _ _ us hl => match us, hl with | [_, _, _], _ => rfl),
    ⟨a19, i19, k19⟩,
    F20,
    (F20.binds (ps := ["self", "t"]) fun _ _ _ _ _ _ us hl => match us, hl with | [_, _], _ => rfl),
    ⟨a20, i20, k20⟩,
    F21,
    (F21.binds (ps := ["self", "t", "four"]) fun _ _ _ _ _ _ us hl => match us, hl with | [_, _, _], _ => rfl),
    ⟨a21, i21, k21⟩,
    F22,
    (F22.binds (ps := ["self", "begin", "end"]) fun _ _ _ _ _ _ us hl => match us, hl with | [_, _, _], _ => rfl),
    ⟨a22, i22, k22⟩,
    F23,
    (F23.binds (ps := ["self", "window"]) fun _ _ _ _ _ _ us hl => match us, hl with | [_, _], _ => rfl),
    ⟨a23, i23, k23⟩,
    F24,
    (F24.binds (ps := ["self"]) fun _ _ _ _ _ _ us hl => match us, hl with | [_], _ => rfl),
    ⟨a24, i24, k24⟩,
    F25,
    (F25.binds (ps := ["known", "window"]) fun _ _ _ _ _ _ us hl => match us, hl with | [_, _], _ => rfl),
    (PySem.W.mg_of X G a25),
    F26,
    (F26.binds (ps := ["self", "store", "window"]) fun _ _ _ _ _ _ us hl => match us, hl with | [_, _, _], _ => rfl),
    F27,
    (F27.binds (ps := ["self"]) fun _ _ _ _ _ _ us hl => match us, hl with | [_], _ => rfl),
    ⟨a27, i27, k27⟩,
    F28,
    (F28.binds (ps := ["self"]) fun _ _ _ _ _ _ us hl => match us, hl with | [_], _ => rfl),
    ⟨a28, i28, k28⟩,
    F29,
    (F29.binds (ps := ["self", "c"]) fun _ _ _ _ _ _ us hl => match us, hl with | [_, _], _ => rfl),
    ⟨a29, i29, k29⟩,
    F30,
    (F30.binds (ps := ["self"]) fun _ _ _ _ _ _ us hl => match us, hl with | [_], _ => rfl),
    ⟨a30, i30, k30⟩,
    F31,
    (F31.binds (ps := ["self"]) fun _ _ _ _ _ _ us hl => match us, hl with | [_], _ => rfl),
    ⟨a31, i31, k31⟩,
    F32,
    (F32.binds (ps := ["self", "n"]) fun _ _ _ _ _ _ us hl => match us, hl with | [_, _], _ => rfl),
    ⟨a32, i32, k32⟩,
    F33,
    (F33.binds (ps := ["self", "window"]) fun _ _ _ _ _ _ us hl => match us, hl with | [_, _], _ => rfl),
    ⟨a33, i33, k33⟩,
    F34,
    (fun s us hI hl => by match us, hl with | [_, _], _ => exact PySem.W.binds_K hI rfl dl34 rfl rfl rfl),
    (fun s us hI hl => have hl2 : us.length = 1 := (by simpa using hl); match us, hl2 with | [_], _ => PySem.W.binds_K hI rfl dl34 rfl rfl rfl),
    (fun s u v hI => PySem.W.binds_K hI rfl dl34 rfl rfl rfl),
    F35,
    (F35.binds (ps := ["self", "t", "h"]) fun _ _ _ _ _ _ us hl => match us, hl with | [_, _, _], _ => rfl),
    ⟨a35, i35, k35⟩,
    F36,
    (F36.binds (ps := ["self", "t"]) fun _ _ _ _ _ _ us hl => match us, hl with | [_, _], _ => rfl),
    ⟨a36, i36, k36⟩,
    F37,
    (F37.binds (ps := ["self", "t"]) fun _ _ _ _ _ _ us hl => match us, hl with | [_, _], _ => rfl),
    ⟨a37, i37, k37⟩,
    F38,
    (F38.binds (ps := ["self", "t"]) fun _ _ _ _ _ _ us hl => match us, hl with | [_, _], _ => rfl),
    ⟨a38, i38, k38⟩,
    F39,
    (F39.binds (ps := ["self", "t", "h"]) fun _ _ _ _ _ _ us hl => match us, hl with | [_, _, _], _ => rfl),
    ⟨a39, i39, k39⟩,
    F40,
    (F40.binds (ps := ["self", "t", "h"]) fun _ _ _ _ _ _ us hl => match us, hl with | [_, _, _], _ => rfl),
    ⟨a40, i40, k40⟩,
    F41,
    (F41.binds (ps := ["self"]) fun _ _ _ _ _ _ us hl => match us, hl with | [_], _ => rfl),
    ⟨a41, i41, k41⟩,
    F42,
    (F42.binds (ps := ["self"]) fun _ _ _ _ _ _ us hl => match us, hl with | [_], _ => rfl),
    ⟨a42, i42, k42⟩,
    F43,
    (F43.binds (ps := ["self", "begin", "end"]) fun _ _ _ _ _ _ us hl => match us, hl with | [_, _, _], _ => rfl),
    ⟨a43, i43, k43⟩,
    F44,
    (F44.binds (ps := ["self", "window"]) fun _ _ _ _ _ _ us hl => match us, hl with | [_, _], _ => rfl),
    ⟨a44, i44, k44⟩,
    F45,
    (F45.binds (ps := ["self"]) fun _ _ _ _ _ _ us hl => match us, hl with | [_], _ => rfl),
    ⟨a45, i45, k45⟩,
    F46,
    (F46.binds (ps := ["self", "window"]) fun _ _ _ _ _ _ us hl => match us, hl with | [_, _], _ => rfl),
    ⟨a46, i46, k46⟩,
    F47,
    (F47.binds (ps := ["self", "number"]) fun _ _ _ _ _ _ us hl => match us, hl with | [_, _], _ => rfl),
    ⟨a47, i47, k47⟩,
    F48,
    (F48.binds (ps := ["_law_script", "_law_k"]) fun _ _ _ _ _ _ us hl => match us, hl with | [_, _], _ => rfl),
    (PySem.W.mg_of X G a48),
    F49,
    (F49.binds (ps := ["_law_cell_here"]) fun _ _ _ _ _ _ us hl => match us, hl with | [_], _ => rfl),
    (PySem.W.mg_of X G a49),
    F50,
    (F50.binds (ps := ["_law_pot_here", "_law_many"]) fun _ _ _ _ _ _ us hl => match us, hl with | [_, _], _ => rfl),
    (PySem.W.mg_of X G a50),
    F51,
    (F51.binds (ps := ["_law_t"]) fun _ _ _ _ _ _ us hl => match us, hl with | [_], _ => rfl),
    (PySem.W.mg_of X G a51),
    F52,
    (F52.binds (ps := ["_law_window_here"]) fun _ _ _ _ _ _ us hl => match us, hl with | [_], _ => rfl),
    (PySem.W.mg_of X G a52),
    F53,
    (F53.binds (ps := ["_law_pot_here"]) fun _ _ _ _ _ _ us hl => match us, hl with | [_], _ => rfl),
    (PySem.W.mg_of X G a53),
    F54,
    (F54.binds (ps := ["_law_pot_here"]) fun _ _ _ _ _ _ us hl => match us, hl with | [_], _ => rfl),
    (PySem.W.mg_of X G a54),
    F55,
    (F55.binds (ps := ["_law_pot_here", "_law_window_here"]) fun _ _ _ _ _ _ us hl => match us, hl with | [_, _], _ => rfl),
    (PySem.W.mg_of X G a55),
    F56,
    (F56.binds (ps := ["_law_pot_here", "_law_window_here"]) fun _ _ _ _ _ _ us hl => match us, hl with | [_, _], _ => rfl),
    (PySem.W.mg_of X G a56),
    F57,
    (F57.binds (ps := ["_law_pot_here", "_law_window_here"]) fun _ _ _ _ _ _ us hl => match us, hl with | [_, _], _ => rfl),
    (PySem.W.mg_of X G a57),
    F58,
    (F58.binds (ps := ["_law_view", "_law_step_here"]) fun _ _ _ _ _ _ us hl => match us, hl with | [_, _], _ => rfl),
    (PySem.W.mg_of X G a58),
    F59,
    (F59.binds (ps := ["_law_step_here", "_law_window_here", "_law_known_here"]) fun _ _ _ _ _ _ us hl => match us, hl with | [_, _, _], _ => rfl),
    (PySem.W.mg_of X G a59),
    F60,
    (F60.binds (ps := ["_law_script"]) fun _ _ _ _ _ _ us hl => match us, hl with | [_], _ => rfl),
    (PySem.W.mg_of X G a60),
    ⟨pg_Tree, hd_Tree, po_Tree, sa_Tree⟩,
    (PySem.W.mg_of X G aC_Tree),
    ⟨mk_Tree, a18, i18, kc_Tree⟩,
    na_Tree_looks,
    na_Tree_samples,
    na_Tree_kept_fours,
    ⟨pg_View, hd_View, po_View, sa_View⟩,
    (PySem.W.mg_of X G aC_View),
    ⟨mk_View, a26, i26, kc_View⟩,
    na_View_source,
    na_View_window,
    na_View_asked,
    na_View_known,
    na_View_seen,
    ⟨pg_Store, hd_Store, po_Store, sa_Store⟩,
    (PySem.W.mg_of X G aC_Store),
    ⟨mk_Store, a34, i34, kc_Store⟩,
    na_Store_tree,
    na_Store_deeds,
    na_Store_done,
    na_Store_watches,
    ex_NoColumn,
    ⟨ga_NoColumn, gt_NoColumn, cl_NoColumn, ob_NoColumn, be_NoColumn⟩,
    (PySem.W.mg_of X G aC_NoColumn),
    ex_NotHalf,
    ⟨ga_NotHalf, gt_NotHalf, cl_NotHalf, ob_NotHalf, be_NotHalf⟩,
    (PySem.W.mg_of X G aC_NotHalf),
    ex_OutOfTimes,
    ⟨ga_OutOfTimes, gt_OutOfTimes, cl_OutOfTimes, ob_OutOfTimes, be_OutOfTimes⟩,
    (PySem.W.mg_of X G aC_OutOfTimes),
    ex_NoSample,
    ⟨ga_NoSample, gt_NoSample, cl_NoSample, ob_NoSample, be_NoSample⟩,
    (PySem.W.mg_of X G aC_NoSample),
    (PySem.W.mg_of X G ac_TOP_LEVEL),
    (PySem.W.mg_of X G ac_TIMES_END),
    (PySem.W.mg_none_of X G z_ValueError),
    (PySem.W.mg_none_of X G z_abs),
    (PySem.W.mg_none_of X G z_bool),
    (PySem.W.mg_none_of X G z_divmod),
    (PySem.W.mg_none_of X G z_int),
    (PySem.W.mg_none_of X G z_isinstance),
    (PySem.W.mg_none_of X G z_len),
    (PySem.W.mg_none_of X G z_list),
    (PySem.W.mg_none_of X G z_max),
    (PySem.W.mg_none_of X G z_min),
    (PySem.W.mg_none_of X G z_range),
    (PySem.W.mg_none_of X G z_sorted),
    (PySem.W.mg_none_of X G z_tuple)⟩
  exact ⟨PySem.W.fnOf "law" "law" (defArgs s_law) (defBody s_law) (defScope s_law) .none kV60 dc60 pm60 an60 cd60 ct60, fun s v => .of_eq rfl, fun base _ _ => ok_law T⟩
theorem walk {l : PySem.W.OpenLaw} {q : Program} {loose : List Str} {XP : (Str → Option Value) → Heap → Prop} {YP : World → Heap → Prop} {d : DefRec} {K : Params → PySem.W.Frag} (hn : l.most = some 63) (hdf : d.params.defaults = [])
    (hY : ∀ (w : World) (h : Heap), YP w h → (K w.params).In h)
    (F : ∀ (w : World) (mg : Str → Option Value) (fa : Addr) (h : Heap), (K w.params).In h → h.Ns mainGlobals mg → mg d.name = some (.ref fa) →
      ∃ fd : FuncData, (∀ (s : Shared) (u : Value), BindsTo s fd ⟨[u], []⟩ [("_law_script", u)]) ∧ ∀ base : Heap, (K w.params).In base → base.Ns mainGlobals mg → FnOk l.prog w (K w.params) mg base CX0 9 fa fd ["_law_script"] (spLaw (K w.params))) :
    PySem.W.WalkO q loose XP YP l.row.toRowW d [] (fun f vs => PySem.call f vs) :=
  L2.walk_of (n := 63) (k := 9) (x := "_law_script") (CX := fun _ => CX0) (sp := fun w => spLaw (K w.params)) hn (by decide) hdf ⟨rfl, by decide, by decide, rfl⟩ hY F (fun _ _ a ns hl _ hS => ⟨a, ns, rfl, hS, hl, fun _ => rfl⟩) fun _ _ _ _ _ z => z
end My
def PySem.W.Fast.tw9608122921781596771 : Unit := ()
def PySem.W.Fast.tw11781502653529036515 : Unit := ()
def PySem.W.Fast.tw2220231770537012521 : Unit := ()
def PySem.W.Fast.tw4338303209411171468 : Unit := ()
def PySem.W.Fast.tw8354776257382482509 : Unit := ()
def PySem.W.Fast.tw10995820157894977455 : Unit := ()
def PySem.W.Fast.tw1057718477836192401 : Unit := ()
def PySem.W.Fast.tw96696057661146418 : Unit := ()
def PySem.W.Fast.tw17447096655204199314 : Unit := ()
def PySem.W.Fast.tw15788533456606241555 : Unit := ()
def PySem.W.Fast.tw4517881120520373140 : Unit := ()
def PySem.W.Fast.tw3492148133659213045 : Unit := ()
def PySem.W.Fast.tw18412231639163683799 : Unit := ()
def PySem.W.Fast.tw3220401661974551961 : Unit := ()
def PySem.W.Fast.tw10634760892908686618 : Unit := ()
def PySem.W.Fast.tw16641637853392914106 : Unit := ()
def PySem.W.Fast.tw3912173870741570811 : Unit := ()
def PySem.W.Fast.tw18074717561343571484 : Unit := ()
def PySem.W.Fast.tw12534410823472661439 : Unit := ()
open PySem PySem.W PyProof.Rows
set_option maxRecDepth 100000 in
set_option maxHeartbeats 0 in
theorem PySem.Challenge.cw_fourpoints_k72_columns_asked_for_holds : PySem.Challenge.rw_fourpoints_k72_columns_asked_for.Holds := by
  w_on; o_law; k_head; (case hw => w_witness2)
  k_fill
  refine My.walk (l := PySem.Challenge.rw_fourpoints_k72_columns_asked_for) rfl rfl (fun w h Y => PySem.W.kIn_of Y) ?F
  case F =>
    intro w mg fa h KX G hmg
    refine' My.all_mk KX G hmg ?aC_NoColumn ?ex_NoColumn ?ga_NoColumn ?gt_NoColumn ?cl_NoColumn ?ob_NoColumn ?be_NoColumn ?aC_NotHalf ?ex_NotHalf ?ga_NotHalf ?gt_NotHalf ?cl_NotHalf ?ob_NotHalf ?be_NotHalf ?aC_OutOfTimes ?ex_OutOfTimes ?ga_OutOfTimes ?gt_OutOfTimes ?cl_OutOfTimes ?ob_OutOfTimes ?be_OutOfTimes ?aC_NoSample ?ex_NoSample ?ga_NoSample ?gt_NoSample ?cl_NoSample ?ob_NoSample ?be_NoSample ?aC_Tree ?pg_Tree ?hd_Tree ?po_Tree ?sa_Tree ?mk_Tree ?kc_Tree ?na_Tree_looks ?na_Tree_samples ?na_Tree_kept_fours ?aC_View ?pg_View ?hd_View ?po_View ?sa_View ?mk_View ?kc_View ?na_View_source ?na_View_window ?na_View_asked ?na_View_known ?na_View_seen ?aC_Store ?pg_Store ?hd_Store ?po_Store ?sa_Store ?mk_Store ?kc_Store ?na_Store_tree ?na_Store_deeds ?na_Store_done ?na_Store_watches ?a0 ?l0 ?c0 ?k0 ?a1 ?l1 ?c1 ?k1 ?a2 ?l2 ?c2 ?k2 ?a3 ?l3 ?c3 ?k3 ?a4 ?l4 ?c4 ?k4 ?a5 ?l5 ?c5 ?k5 ?a6 ?l6 ?c6 ?k6 ?a7 ?l7 ?c7 ?k7 ?a8 ?l8 ?c8 ?k8 ?a9 ?l9 ?c9 ?k9 ?a10 ?l10 ?c10 ?k10 ?a11 ?l11 ?c11 ?k11 ?a12 ?l12 ?c12 ?k12 ?a13 ?l13 ?c13 ?k13 ?a14 ?l14 ?c14 ?k14 ?a15 ?l15 ?c15 ?k15 ?a16 ?l16 ?c16 ?k16 ?a17 ?l17 ?c17 ?k17 ?a18 ?i18 ?l18 ?c18 ?k18 ?dl18 ?a19 ?i19 ?l19 ?c19 ?k19 ?a20 ?i20 ?l20 ?c20 ?k20 ?a21 ?i21 ?l21 ?c21 ?k21 ?a22 ?i22 ?l22 ?c22 ?k22 ?a23 ?i23 ?l23 ?c23 ?k23 ?a24 ?i24 ?l24 ?c24 ?k24 ?a25 ?l25 ?c25 ?k25 ?a26 ?i26 ?l26 ?c26 ?k26 ?a27 ?i27 ?l27 ?c27 ?k27 ?a28 ?i28 ?l28 ?c28 ?k28 ?a29 ?i29 ?l29 ?c29 ?k29 ?a30 ?i30 ?l30 ?c30 ?k30 ?a31 ?i31 ?l31 ?c31 ?k31 ?a32 ?i32 ?l32 ?c32 ?k32 ?a33 ?i33 ?l33 ?c33 ?k33 ?a34 ?i34 ?l34 ?c34 ?k34 ?dl34 ?a35 ?i35 ?l35 ?c35 ?k35 ?a36 ?i36 ?l36 ?c36 ?k36 ?a37 ?i37 ?l37 ?c37 ?k37 ?a38 ?i38 ?l38 ?c38 ?k38 ?a39 ?i39 ?l39 ?c39 ?k39 ?a40 ?i40 ?l40 ?c40 ?k40 ?a41 ?i41 ?l41 ?c41 ?k41 ?a42 ?i42 ?l42 ?c42 ?k42 ?a43 ?i43 ?l43 ?c43 ?k43 ?a44 ?i44 ?l44 ?c44 ?k44 ?a45 ?i45 ?l45 ?c45 ?k45 ?a46 ?i46 ?l46 ?c46 ?k46 ?a47 ?i47 ?l47 ?c47 ?k47 ?a48 ?l48 ?c48 ?k48 ?a49 ?l49 ?c49 ?k49 ?a50 ?l50 ?c50 ?k50 ?a51 ?l51 ?c51 ?k51 ?a52 ?l52 ?c52 ?k52 ?a53 ?l53 ?c53 ?k53 ?a54 ?l54 ?c54 ?k54 ?a55 ?l55 ?c55 ?k55 ?a56 ?l56 ?c56 ?k56 ?a57 ?l57 ?c57 ?k57 ?a58 ?l58 ?c58 ?k58 ?a59 ?l59 ?c59 ?k59 ?a60 ?l60 ?c60 ?k60 ?ac_TOP_LEVEL ?ac_TIMES_END ?z_ValueError ?z_abs ?z_bool ?z_divmod ?z_int ?z_isinstance ?z_len ?z_list ?z_max ?z_min ?z_range ?z_sorted ?z_tuple
    (case aC_NoColumn => k_is)
    (case ex_NoColumn => k_exc)
    (case ga_NoColumn => k_is)
    (case gt_NoColumn => k_is)
    (case cl_NoColumn => k_is)
    (case ob_NoColumn => k_is)
    (case be_NoColumn => k_is)
    (case aC_NotHalf => k_is)
    (case ex_NotHalf => k_exc)
    (case ga_NotHalf => k_is)
    (case gt_NotHalf => k_is)
    (case cl_NotHalf => k_is)
    (case ob_NotHalf => k_is)
    (case be_NotHalf => k_is)
    (case aC_OutOfTimes => k_is)
    (case ex_OutOfTimes => k_exc)
    (case ga_OutOfTimes => k_is)
    (case gt_OutOfTimes => k_is)
    (case cl_OutOfTimes => k_is)
    (case ob_OutOfTimes => k_is)
    (case be_OutOfTimes => k_is)
    (case aC_NoSample => k_is)
    (case ex_NoSample => k_exc)
    (case ga_NoSample => k_is)
    (case gt_NoSample => k_is)
    (case cl_NoSample => k_is)
    (case ob_NoSample => k_is)
    (case be_NoSample => k_is)
    (case aC_Tree => k_is)
    (case pg_Tree => k_is)
    (case hd_Tree => k_is)
    (case po_Tree => k_is)
    (case sa_Tree => k_is)
    (case mk_Tree => k_is)
    (case kc_Tree => k_is)
    (case na_Tree_looks => k_is)
    (case na_Tree_samples => k_is)
    (case na_Tree_kept_fours => k_is)
    (case aC_View => k_is)
    (case pg_View => k_is)
    (case hd_View => k_is)
    (case po_View => k_is)
    (case sa_View => k_is)
    (case mk_View => k_is)
    (case kc_View => k_is)
    (case na_View_source => k_is)
    (case na_View_window => k_is)
    (case na_View_asked => k_is)
    (case na_View_known => k_is)
    (case na_View_seen => k_is)
    (case aC_Store => k_is)
    (case pg_Store => k_is)
    (case hd_Store => k_is)
    (case po_Store => k_is)
    (case sa_Store => k_is)
    (case mk_Store => k_is)
    (case kc_Store => k_is)
    (case na_Store_tree => k_is)
    (case na_Store_deeds => k_is)
    (case na_Store_done => k_is)
    (case na_Store_watches => k_is)
    (case a0 => k_is)
    (case l0 => k_is)
    (case c0 => k_is)
    (case k0 => k_is)
    (case a1 => k_is)
    (case l1 => k_is)
    (case c1 => k_is)
    (case k1 => k_is)
    (case a2 => k_is)
    (case l2 => k_is)
    (case c2 => k_is)
    (case k2 => k_is)
    (case a3 => k_is)
    (case l3 => k_is)
    (case c3 => k_is)
    (case k3 => k_is)
    (case a4 => k_is)
    (case l4 => k_is)
    (case c4 => k_is)
    (case k4 => k_is)
    (case a5 => k_is)
    (case l5 => k_is)
    (case c5 => k_is)
    (case k5 => k_is)
    (case a6 => k_is)
    (case l6 => k_is)
    (case c6 => k_is)
    (case k6 => k_is)
    (case a7 => k_is)
    (case l7 => k_is)
    (case c7 => k_is)
    (case k7 => k_is)
    (case a8 => k_is)
    (case l8 => k_is)
    (case c8 => k_is)
    (case k8 => k_is)
    (case a9 => k_is)
    (case l9 => k_is)
    (case c9 => k_is)
    (case k9 => k_is)
    (case a10 => k_is)
    (case l10 => k_is)
    (case c10 => k_is)
    (case k10 => k_is)
    (case a11 => k_is)
    (case l11 => k_is)
    (case c11 => k_is)
    (case k11 => k_is)
    (case a12 => k_is)
    (case l12 => k_is)
    (case c12 => k_is)
    (case k12 => k_is)
    (case a13 => k_is)
    (case l13 => k_is)
    (case c13 => k_is)
    (case k13 => k_is)
    (case a14 => k_is)
    (case l14 => k_is)
    (case c14 => k_is)
    (case k14 => k_is)
    (case a15 => k_is)
    (case l15 => k_is)
    (case c15 => k_is)
    (case k15 => k_is)
    (case a16 => k_is)
    (case l16 => k_is)
    (case c16 => k_is)
    (case k16 => k_is)
    (case a17 => k_is)
    (case l17 => k_is)
    (case c17 => k_is)
    (case k17 => k_is)
    (case a18 => k_is)
    (case i18 => k_is)
    (case l18 => k_is)
    (case c18 => k_is)
    (case k18 => k_is)
    (case dl18 => k_is)
    (case a19 => k_is)
    (case i19 => k_is)
    (case l19 => k_is)
    (case c19 => k_is)
    (case k19 => k_is)
    (case a20 => k_is)
    (case i20 => k_is)
    (case l20 => k_is)
    (case c20 => k_is)
    (case k20 => k_is)
    (case a21 => k_is)
    (case i21 => k_is)
    (case l21 => k_is)
    (case c21 => k_is)
    (case k21 => k_is)
    (case a22 => k_is)
    (case i22 => k_is)
    (case l22 => k_is)
    (case c22 => k_is)
    (case k22 => k_is)
    (case a23 => k_is)
    (case i23 => k_is)
    (case l23 => k_is)
    (case c23 => k_is)
    (case k23 => k_is)
    (case a24 => k_is)
    (case i24 => k_is)
    (case l24 => k_is)
    (case c24 => k_is)
    (case k24 => k_is)
    (case a25 => k_is)
    (case l25 => k_is)
    (case c25 => k_is)
    (case k25 => k_is)
    (case a26 => k_is)
    (case i26 => k_is)
    (case l26 => k_is)
    (case c26 => k_is)
    (case k26 => k_is)
    (case a27 => k_is)
    (case i27 => k_is)
    (case l27 => k_is)
    (case c27 => k_is)
    (case k27 => k_is)
    (case a28 => k_is)
    (case i28 => k_is)
    (case l28 => k_is)
    (case c28 => k_is)
    (case k28 => k_is)
    (case a29 => k_is)
    (case i29 => k_is)
    (case l29 => k_is)
    (case c29 => k_is)
    (case k29 => k_is)
    (case a30 => k_is)
    (case i30 => k_is)
    (case l30 => k_is)
    (case c30 => k_is)
    (case k30 => k_is)
    (case a31 => k_is)
    (case i31 => k_is)
    (case l31 => k_is)
    (case c31 => k_is)
    (case k31 => k_is)
    (case a32 => k_is)
    (case i32 => k_is)
    (case l32 => k_is)
    (case c32 => k_is)
    (case k32 => k_is)
    (case a33 => k_is)
    (case i33 => k_is)
    (case l33 => k_is)
    (case c33 => k_is)
    (case k33 => k_is)
    (case a34 => k_is)
    (case i34 => k_is)
    (case l34 => k_is)
    (case c34 => k_is)
    (case k34 => k_is)
    (case dl34 => k_is)
    (case a35 => k_is)
    (case i35 => k_is)
    (case l35 => k_is)
    (case c35 => k_is)
    (case k35 => k_is)
    (case a36 => k_is)
    (case i36 => k_is)
    (case l36 => k_is)
    (case c36 => k_is)
    (case k36 => k_is)
    (case a37 => k_is)
    (case i37 => k_is)
    (case l37 => k_is)
    (case c37 => k_is)
    (case k37 => k_is)
    (case a38 => k_is)
    (case i38 => k_is)
    (case l38 => k_is)
    (case c38 => k_is)
    (case k38 => k_is)
    (case a39 => k_is)
    (case i39 => k_is)
    (case l39 => k_is)
    (case c39 => k_is)
    (case k39 => k_is)
    (case a40 => k_is)
    (case i40 => k_is)
    (case l40 => k_is)
    (case c40 => k_is)
    (case k40 => k_is)
    (case a41 => k_is)
    (case i41 => k_is)
    (case l41 => k_is)
    (case c41 => k_is)
    (case k41 => k_is)
    (case a42 => k_is)
    (case i42 => k_is)
    (case l42 => k_is)
    (case c42 => k_is)
    (case k42 => k_is)
    (case a43 => k_is)
    (case i43 => k_is)
    (case l43 => k_is)
    (case c43 => k_is)
    (case k43 => k_is)
    (case a44 => k_is)
    (case i44 => k_is)
    (case l44 => k_is)
    (case c44 => k_is)
    (case k44 => k_is)
    (case a45 => k_is)
    (case i45 => k_is)
    (case l45 => k_is)
    (case c45 => k_is)
    (case k45 => k_is)
    (case a46 => k_is)
    (case i46 => k_is)
    (case l46 => k_is)
    (case c46 => k_is)
    (case k46 => k_is)
    (case a47 => k_is)
    (case i47 => k_is)
    (case l47 => k_is)
    (case c47 => k_is)
    (case k47 => k_is)
    (case a48 => k_is)
    (case l48 => k_is)
    (case c48 => k_is)
    (case k48 => k_is)
    (case a49 => k_is)
    (case l49 => k_is)
    (case c49 => k_is)
    (case k49 => k_is)
    (case a50 => k_is)
    (case l50 => k_is)
    (case c50 => k_is)
    (case k50 => k_is)
    (case a51 => k_is)
    (case l51 => k_is)
    (case c51 => k_is)
    (case k51 => k_is)
    (case a52 => k_is)
    (case l52 => k_is)
    (case c52 => k_is)
    (case k52 => k_is)
    (case a53 => k_is)
    (case l53 => k_is)
    (case c53 => k_is)
    (case k53 => k_is)
    (case a54 => k_is)
    (case l54 => k_is)
    (case c54 => k_is)
    (case k54 => k_is)
    (case a55 => k_is)
    (case l55 => k_is)
    (case c55 => k_is)
    (case k55 => k_is)
    (case a56 => k_is)
    (case l56 => k_is)
    (case c56 => k_is)
    (case k56 => k_is)
    (case a57 => k_is)
    (case l57 => k_is)
    (case c57 => k_is)
    (case k57 => k_is)
    (case a58 => k_is)
    (case l58 => k_is)
    (case c58 => k_is)
    (case k58 => k_is)
    (case a59 => k_is)
    (case l59 => k_is)
    (case c59 => k_is)
    (case k59 => k_is)
    (case a60 => k_is)
    (case l60 => k_is)
    (case c60 => k_is)
    (case k60 => k_is)
    (case ac_TOP_LEVEL => k_is)
    (case ac_TIMES_END => k_is)
    (case z_ValueError => k_is)
    (case z_abs => k_is)
    (case z_bool => k_is)
    (case z_divmod => k_is)
    (case z_int => k_is)
    (case z_isinstance => k_is)
    (case z_len => k_is)
    (case z_list => k_is)
    (case z_max => k_is)
    (case z_min => k_is)
    (case z_range => k_is)
    (case z_sorted => k_is)
    (case z_tuple => k_is)
