import PyProof.Rows.All
import Wide.All
import OpenK.AllK
import Wide.FinOn
import Lean
import PyProof.EqAt
import PyProof.EqKinds
import PyProof.TupleCall
import KE.KSortTup
import PyProof.CollectWalk
import PyProof.DictWalks
import PyProof.Rows.SortWalk
import KE.KItemsList
import PyProof.ReprText
import PyProof.Rows.StrIntSpec
import PyProof.RowDictHeap
import KE.KRevIter
import KE.KMinKey
import PyProof.P3In
import KE.KIntText
import PyProof.StrLawsTight
import PyProof.StrWalks
import PyProof.ListRange
import PySem.Challenge.RW_fourpoints_k93_whole_drawn_by_what_is_to
set_option Elab.async false
set_option linter.all false
set_option maxRecDepth 100000
set_option maxHeartbeats 4000000
-- CHANGE: your row's module here, as the last of these rows
abbrev L2.PL := List (Int × Int)
namespace L2
open PySem PySem.Spec PyProof.Rows
abbrev Key := Sum Int Str
def ZH7 : Key → Value → Bool
 | .inl k, v => Value.isInt k v
 | .inr x, v => Value.isStrOf x v
def ZV3 (w : World) : Key → Int
 | .inl k => hashInt k
 | .inr x => hashStr w x
theorem ZEh : ∀ {k : Key} {v : Value}, ZH7 k v = true → (∃ i t, k = Sum.inl i ∧ v = Value.int i t) ∨ (∃ x t, k = Sum.inr x ∧ v = Value.str x t)
 | .inl i, v, h => by
  obtain ⟨t, e⟩ := Value.isInt_shape (k := i) (v := v) h
  exact .inl ⟨i, t, rfl, e⟩
 | .inr x, v, h => by
  obtain ⟨t, e⟩ := Value.isStrOf_shape (x := x) (v := v) h
  exact .inr ⟨x, t, rfl, e⟩
theorem ZOm (i : Int) (t : Tok) : ZH7 (.inl i) (.int i t) = true := by simp [ZH7, Value.isInt]
theorem ZOn (x : Str) (t : Tok) : ZH7 (.inr x) (.str x t) = true := by simp [ZH7, Value.isStrOf]
theorem ZT6 (a b : Int) : decide ((Sum.inl a : Key) = Sum.inl b) = (a == b) := by
 by_cases e : a = b
 ·subst e; simp
 ·have h : ¬ (Sum.inl a : Key) = Sum.inl b := fun q => e (Sum.inl.inj q)
  rw [decide_eq_false h]
  exact (beq_eq_false_iff_ne.mpr e).symm
theorem ZT7 (a b : Str) : decide ((Sum.inr a : Key) = Sum.inr b) = decide (a = b) := by
 by_cases e : a = b
 ·subst e; simp
 ·have h : ¬ (Sum.inr a : Key) = Sum.inr b := fun q => e (Sum.inr.inj q)
  rw [decide_eq_false h, decide_eq_false e]
theorem ZT8 (a : Int) (b : Str) : decide ((Sum.inl a : Key) = Sum.inr b) = false := decide_eq_false (fun q => nomatch q)
theorem ZT9 (a : Str) (b : Int) : decide ((Sum.inr a : Key) = Sum.inl b) = false := decide_eq_false (fun q => nomatch q)
def ZEX (prog : Program) (w : World) : PySem.KeyKind prog w Key where
 is := ZH7
 hash := ZV3 w
 inj := fun v a b ha hb => by
  rcases ZEh ha with ⟨i, t, rfl, rfl⟩ | ⟨x, t, rfl, rfl⟩
  ·rcases ZEh hb with ⟨j, u, rfl, e⟩ | ⟨y, u, rfl, e⟩
   ·injection e with e1 _; rw [e1]
   ·exact nomatch e
  ·rcases ZEh hb with ⟨j, u, rfl, e⟩ | ⟨y, u, rfl, e⟩
   ·exact nomatch e
   ·injection e with e1 _; rw [e1]
 byValue := fun k v h => by
  rcases ZEh h with ⟨i, t, rfl, rfl⟩ | ⟨x, t, rfl, rfl⟩ <;> rfl
 pyHash := fun hv h => by
  rcases ZEh hv with ⟨i, t, rfl, rfl⟩ | ⟨x, t, rfl, rfl⟩
  ·exact wpAny_pyHash_int h
  ·exact wpAny_pyHash_str h
 eqBool := fun hu hv h => by
  rcases ZEh hu with ⟨i, t, rfl, rfl⟩ | ⟨x, t, rfl, rfl⟩
  ·rcases ZEh hv with ⟨j, u, rfl, rfl⟩ | ⟨y, u, rfl, rfl⟩
   ·rw [ZT6] at h; exact wpAny_eqBool_int h
   ·rw [ZT8] at h; exact SeqAt.EqAt.int_str i t y u _ _ _ _ h
  ·rcases ZEh hv with ⟨j, u, rfl, rfl⟩ | ⟨y, u, rfl, rfl⟩
   ·rw [ZT9] at h; exact SeqAt.EqAt.str_int x t j u _ _ _ _ h
   ·rw [ZT7] at h; exact wpAny_eqBool_str h
 «strs» := fun k x t v h => by
  rcases ZEh h with ⟨i, u, rfl, e⟩ | ⟨y, u, rfl, e⟩
  ·exact nomatch e
  ·injection e with e1 _
   subst e1
   cases v <;> rfl
theorem ZMy (prog : Program) (w : World) (i : Int) (t : Tok) : (ZEX prog w).is (.inl i) (.int i t) = true := ZOm i t
theorem ZMz (prog : Program) (w : World) (x : Str) (t : Tok) : (ZEX prog w).is (.inr x) (.str x t) = true := ZOn x t
inductive V where
 | non | bl (b : Bool) | int (i : Int) | str (x : Str) | byt (b : Array UInt8) | flt (b : UInt64) | ref (a : Addr) | ty (n : String)
 deriving DecidableEq
def ZDy : V → Value → Prop
 | .non, u => u = Value.none
 | .bl b, u => u = Value.bool b
 | .int i, u => ∃ t, u = Value.int i t
 | .str x, u => ∃ t, u = Value.str x t
 | .byt b, u => ∃ t, u = Value.bytes b t
 | .flt b, u => ∃ t, u = Value.float b t
 | .ref a, u => u = Value.ref a
 | .ty n, u => u = Value.type n
abbrev ZD0 : List V → List Value → Prop := Paired ZDy
theorem ZD0.length {xs : List V} {us : List Value} (r : ZD0 xs us) : xs.length = us.length := Paired.length r
theorem ZD0.get : ∀ {xs : List V} {us : List Value} {i : Nat} {x : V}, ZD0 xs us → xs[i]? = some x → ∃ u, us[i]? = some u ∧ ZDy x u
 | _, _, _, _, .nil, e => by simp at e
 | _, _, 0, _, .cons r _, e => by simp at e; subst e; exact ⟨_, rfl, r⟩
 | _, _, i + 1, x, .cons _ t, e => by
  obtain ⟨u, h1, h2⟩ := ZD0.get (i := i) (x := x) t (by simpa using e)
  exact ⟨u, by simpa using h1, h2⟩
theorem ZD0.set {x : V} {u : Value} (r : ZDy x u) : ∀ {xs : List V} {us : List Value} (i : Nat), ZD0 xs us → ZD0 (xs.set i x) (us.set i u)
 | _, _, _, .nil => .nil
 | _, _, 0, .cons _ t => .cons r t
 | _, _, i + 1, .cons q t => .cons q (ZD0.set r i t)
theorem ZD0.append : ∀ {xs ys : List V} {us ws : List Value}, ZD0 xs us → ZD0 ys ws → ZD0 (xs ++ ys) (us ++ ws)
 | _, _, _, _, .nil, s => s
 | _, _, _, _, .cons r t, s => .cons r (ZD0.append t s)
theorem ZD0.take : ∀ {xs : List V} {us : List Value} (n : Nat), ZD0 xs us → ZD0 (xs.take n) (us.take n)
 | _, _, 0, _ => .nil
 | _, _, _ + 1, .nil => .nil
 | _, _, n + 1, .cons r t => .cons r (ZD0.take n t)
theorem ZD0.drop : ∀ {xs : List V} {us : List Value} (n : Nat), ZD0 xs us → ZD0 (xs.drop n) (us.drop n)
 | _, _, 0, r => r
 | _, _, _ + 1, .nil => .nil
 | _, _, n + 1, .cons _ t => ZD0.drop n t
def ZFQ : Option V → Option Value → Prop
 | some v, some u => ZDy v u
 | none, none => True
 | _, _ => False
def KV {κ : Type} : List (κ × V) → List (κ × Value) → Prop := Paired fun (p : κ × V) (q : κ × Value) => p.1 = q.1 ∧ ZDy p.2 q.2
def kV : Key → V
 | .inl i => .int i
 | .inr x => .str x
inductive HO where
 /-- a list -/
 | lst (xs : List V)
 /-- a tuple (never changes) -/
 | tup (xs : List V)
 /-- a dict whose keys are ints and texts; one whose keys are tuples of ints and texts (the empty one is both) -/
 | dK (kvs : List (Key × V)) | dT (kvs : List (List Key × V))
 /-- a set of ints: its members, its size -/
 | set (S : Int → Bool) (n : Nat)
 /-- an instance of the class at C, its dict at dx, its attributes -/
 | ins (C dx : Addr) (fs : List (Str × V))
 /-- the dict of the instance at x -/
 | own (x : Addr)
 /-- the dict of an exception -/
 | xd (fs : List (Str × V))
 /-- a bound method, f of x -/
 | met (f x : Addr)
 /-- a range object lo, lo + 1, .. below hi -/
 | rng (lo hi : Int)
 /-- a thing that is known to the object (the script; a dict while a loop walks it): read, never written while it is so -/
 | frz (o : Obj) (u : HO)
 /-- a code object's table -/
 | tbl (ps : Array Value)
 /-- any other thing, by what is true of its one object (a def of one's own: SetO a S n := HO.ext fun h => ..) -/
 | ext (φ : Heap → Prop)
abbrev Hp := Addr → Option HO
def upd (H : Hp) (a : Addr) (o : HO) : Hp := fun b => if b = a then some o else H b
theorem ZDu {H : Hp} {a : Addr} {o : HO} : upd H a o a = some o := by unfold upd; rw [if_pos rfl]
theorem ZD6 {H : Hp} {a b : Addr} {o : HO} (h : b ≠ a) : upd H a o b = H b := by unfold upd; rw [if_neg h]
theorem ZRx {H : Hp} {a b : Addr} {o u : HO} (h : H a = some o) (h' : H b = some u) (d : o ≠ u) : a ≠ b := by
 intro e; subst e; rw [h] at h'; exact d (Option.some.inj h')
theorem ZD4 {H : Hp} {a b : Addr} {o : HO} (h : H a = some o) (h' : H b = none) : a ≠ b := by
 intro e; subst e; rw [h] at h'; cases h'
section
variable (P : Program) (w : World)
def ZER (H : Hp) (h : Heap) (a : Addr) : HO → Prop
 | .lst xs => xs.length ≤ sizeLine ∧ ∃ (its : List Value) (n : Nat), ZD0 xs its ∧ h.get? a = some { cls := .type "list", data := .seq its.toArray n }
 | .tup xs => (xs.length ≤ sizeLine ∧ ((∀ i : Int, xs.head? ≠ some (.int i)) → ∃ o, h.get? a = some o ∧ o.dict = none ∧ o.slots = #[])) ∧ ∃ its : List Value, ZD0 xs its ∧ IsTup h a its.toArray
 | .dK kvs => kvs.length ≤ sizeLine ∧ (a == sysModules) = false ∧ ∃ vs, KV kvs vs ∧ h.DictOf (ZEX P w) a vs
 | .dT kvs => kvs.length ≤ sizeLine ∧ (a == sysModules) = false ∧ ∃ xs : List (List Key × Addr × Value),
  Paired (fun (p : List Key × V) (q : List Key × Addr × Value) => p.1 = q.1 ∧ H q.2.1 = some (.tup (p.1.map kV)) ∧ ZDy p.2 q.2.2) kvs xs ∧
  ∃ o es ep, h.get? a = some o ∧ o.ExactDict ∧ o.data = .dict es ep ∧ es.toList = xs.map (entryOfKey (tupleKind (ZEX P w))) ∧ (xs.map (·.1)).Nodup
 | .set S n => h.SetOf (intKind P w) a S n
 | .ins C dx fs => H dx = some (.own a) ∧ fs.length ≤ 1000 ∧ dx ≠ a ∧ h.get? a = some (PySem.W.instObj C dx) ∧
  ∃ mA, h.Ns1 dx mA ∧ (∀ f, ZFQ (fs.lookup f) (mA f)) ∧ PySem.Within mA (fs.map (·.1))
 | .own _ => ∃ o, h.get? a = some o
 | .xd fs => ∃ mA, h.Ns1 a mA ∧ ∀ f, ZFQ (fs.lookup f) (mA f)
 | .rng lo hi => ∃ t u v, h.get? a = some { cls := .type "range", data := .fields #[.int lo t, .int hi u, .int 1 v] }
 | .frz o u => h.get? a = some o ∧ ZER H h a u
 | .tbl ps => h.get? a = some { cls := .none, data := .fields ps }
 | .met f x => h.get? a = some (PySem.W.methodObj (.ref f) (.ref x))
 | .ext φ => φ h ∧ (∃ o, h.get? a = some o) ∧ ∀ h1 h2 : Heap, φ h1 → (∀ o, h1.get? a = some o → h2.get? a = some o) → φ h2
def HOk (H : Hp) (h : Heap) : Prop := ∀ a o, H a = some o → ZER P w H h a o
end
section
variable {P : Program} {w : World} {H H' : Hp} {h h' : Heap} {a : Addr} {o : HO}
theorem ZER.lt (x : ZER P w H h a o) : a < h.objs.size := by
 cases o with
 | lst xs => obtain ⟨_, _, _, _, e⟩ := x; exact Heap.lt_size e
 | tup xs => obtain ⟨_, _, _, p⟩ := x; exact p.lt
 | dK kvs => obtain ⟨_, _, _, _, o, _, _, e, _⟩ := x; exact Heap.lt_size e
 | dT kvs => obtain ⟨_, _, _, _, o, _, _, e, _⟩ := x; exact Heap.lt_size e
 | set S n => obtain ⟨o, _, _, _, e, _⟩ := x; exact Heap.lt_size e
 | ins C dx fs => obtain ⟨_, _, _, e, _⟩ := x; exact Heap.lt_size e
 | own y => obtain ⟨_, e⟩ := x; exact Heap.lt_size e
 | xd fs => obtain ⟨_, ⟨_, _, _, e, _⟩, _⟩ := x; exact Heap.lt_size e
 | rng lo hi => obtain ⟨_, _, _, e⟩ := x; exact Heap.lt_size e
 | frz ob u => obtain ⟨e, _⟩ := x; exact Heap.lt_size e
 | tbl ps => exact Heap.lt_size (show h.get? a = some _ from x)
 | met f y => exact Heap.lt_size (show h.get? a = some _ from x)
 | ext φ => obtain ⟨_, ⟨_, e⟩, _⟩ := x; exact Heap.lt_size e
theorem Paired.mapP {α β : Type} {F G : α → β → Prop} : ∀ {l₁ : List α} {l₂ : List β}, Paired F l₁ l₂ → (∀ a b, F a b → G a b) → Paired G l₁ l₂
 | _, _, .nil, _ => .nil
 | _, _, .cons r t, f => .cons (f _ _ r) (Paired.mapP t f)
theorem ZER.stay (x : ZER P w H h a o) (k : ∀ b u, (b = a ∨ H b = some (.own a)) → h.get? b = some u → h'.get? b = some u)
  (ho : ∀ b, H b = some (.own a) → H' b = some (.own a)) (ht : ∀ b xs, H b = some (.tup xs) → H' b = some (.tup xs)) : ZER P w H' h' a o := by
 induction o with
 | lst xs => obtain ⟨z, its, n, r, e⟩ := x; exact ⟨z, its, n, r, k _ _ (.inl rfl) e⟩
 | tup xs =>
  obtain ⟨⟨z, pd⟩, its, r, ob, e, c⟩ := x
  exact ⟨⟨z, fun q => let ⟨od, ed, cd⟩ := pd q; ⟨od, k _ _ (.inl rfl) ed, cd⟩⟩, its, r, ob, k _ _ (.inl rfl) e, c⟩
 | dK kvs => obtain ⟨z, y, vs, r, ob, es, ep, e, c⟩ := x; exact ⟨z, y, vs, r, ob, es, ep, k _ _ (.inl rfl) e, c⟩
 | dT kvs =>
  obtain ⟨z, y, xs, r, ob, es, ep, e, c⟩ := x
  exact ⟨z, y, xs, Paired.mapP r fun p q z => ⟨z.1, ht _ _ z.2.1, z.2.2⟩, ob, es, ep, k _ _ (.inl rfl) e, c⟩
 | set S n => obtain ⟨ob, es, ep, t, e, c⟩ := x; exact ⟨ob, es, ep, t, k _ _ (.inl rfl) e, c⟩
 | ins C dx fs =>
  obtain ⟨d, z, ne, e, mA, ⟨od, es, ep, e2, c⟩, r⟩ := x
  exact ⟨ho _ d, z, ne, k _ _ (.inl rfl) e, mA, ⟨od, es, ep, k _ _ (.inr d) e2, c⟩, r⟩
 | own y => obtain ⟨ob, e⟩ := x; exact ⟨ob, k _ _ (.inl rfl) e⟩
 | xd fs => obtain ⟨mA, ⟨od, es, ep, e, c⟩, r⟩ := x; exact ⟨mA, ⟨od, es, ep, k _ _ (.inl rfl) e, c⟩, r⟩
 | rng lo hi => obtain ⟨t, u, v, e⟩ := x; exact ⟨t, u, v, k _ _ (.inl rfl) e⟩
 | frz ob u ih => obtain ⟨e, q⟩ := x; exact ⟨k _ _ (.inl rfl) e, ih q⟩
 | tbl ps =>
  have e : h.get? a = some { cls := .none, data := .fields ps } := x
  show h'.get? a = some { cls := .none, data := .fields ps }
  exact k a _ (.inl rfl) e
 | met f y =>
  have e : h.get? a = some (PySem.W.methodObj (.ref f) (.ref y)) := x
  show h'.get? a = some (PySem.W.methodObj (.ref f) (.ref y))
  exact k a _ (.inl rfl) e
 | ext φ => obtain ⟨p, ⟨o, e⟩, st⟩ := x; exact ⟨st _ _ p fun o q => k _ _ (.inl rfl) q, ⟨o, k _ _ (.inl rfl) e⟩, st⟩
theorem HOk.lt (x : HOk P w H h) (e : H a = some o) : a < h.objs.size := (x a o e).lt
theorem HOk.fresh (x : HOk P w H h) (e : h.objs.size ≤ a) : H a = none := by
 cases q : H a with
 | none => rfl
 | some u => exact absurd (Nat.lt_of_lt_of_le (x.lt q) e) (Nat.lt_irrefl _)
theorem HOk.kept (x : HOk P w H h) (k : ∀ b u, h.get? b = some u → h'.get? b = some u) : HOk P w H h' := fun a o e =>
 (x a o e).stay (fun b u _ q => k b u q) (fun _ q => q) fun _ _ q => q
theorem HOk.laid (x : HOk P w H h) (k : ∀ b u, h.get? b = some u → h'.get? b = some u) (hp : h.objs.size ≤ a) (new : ZER P w (upd H a o) h' a o) : HOk P w (upd H a o) h' := fun b u e => by
 have hn := x.fresh hp
 by_cases hb : b = a
 ·subst hb; rw [ZDu] at e; cases e; exact new
 ·rw [ZD6 hb] at e
  exact (x b u e).stay (fun c v _ q => k c v q) (fun c q => by rw [ZD6 (ZD4 q hn)]; exact q) fun c xs q => by rw [ZD6 (ZD4 q hn)]; exact q
end
def Rd (H : Hp) (a : Addr) (u : HO) : Prop := H a = some u ∨ ∃ o, H a = some (.frz o u)
theorem Rd.ok {P : Program} {w : World} {H : Hp} {h : Heap} {a : Addr} {u : HO} (r : Rd H a u) (x : HOk P w H h) : ZER P w H h a u := by
 rcases r with r | ⟨o, r⟩
 ·exact x a u r
 ·obtain ⟨_, q⟩ := x a _ r
  exact q
def Mut : Option HO → Prop
 | some (.lst _) => True
 | some (.dK _) => True
 | some (.dT _) => True
 | some (.set _ _) => True
 | some (.ins _ _ _) => True
 | some (.ext _) => True
 | _ => False
section
variable {P : Program} {w : World} {H : Hp} {h h' : Heap} {x e : Addr} {o' : HO}
theorem HOk.write (ok : HOk P w H h) (mu : Mut (H x)) (he : e = x ∨ H e = some (.own x)) (k : ∀ b u, b ≠ e → h.get? b = some u → h'.get? b = some u) (heo : ∃ u, h'.get? e = some u)
  (new : ZER P w (upd H x o') h' x o') : HOk P w (upd H x o') h' := fun b u q => by
 have nown : ∀ c y, H c = some (.own y) → c ≠ x := fun c y r z => by subst z; rw [r] at mu; exact mu
 have ntup : ∀ c xs, H c = some (.tup xs) → c ≠ x := fun c xs r z => by subst z; rw [r] at mu; exact mu
 by_cases hb : b = x
 ·subst hb; rw [ZDu] at q; cases q; exact new
 ·rw [ZD6 hb] at q
  by_cases hbe : b = e
  ·have q' : H b = some (.own x) := by
    rcases he with z | z
    ·exact absurd (hbe.trans z) hb
    ·rw [hbe]; exact z
   rw [q] at q'; cases q'
   obtain ⟨v, hv⟩ := heo
   exact ⟨v, by rw [hbe]; exact hv⟩
  ·refine (ok b u q).stay (fun c v hc r => k c v ?_ r) (fun c r => by rw [ZD6 (nown c b r)]; exact r) fun c xs r => by rw [ZD6 (ntup c xs r)]; exact r
   rcases hc with rfl | hc
   ·exact hbe
   ·rintro rfl
    rcases he with z | z
    ·exact nown c b hc z
    ·rw [hc] at z; cases z; exact hb rfl
end
structure Un (fs ex : List Addr) (H H' : Hp) (h h' : Heap) : Prop where
 keep : ∀ b o, h.get? b = some o → H b = none → b ∉ fs → b ∉ ex → h'.get? b = some o
 slot : ∀ b o, h.get? b = some o → H b = none → b ∈ fs → b ∉ ex → ∃ sl, h'.get? b = some { o with slots := sl }
 free : ∀ b o, h.get? b = some o → H b = none → b ∉ ex → H' b = none
 there : ∀ b o, h.get? b = some o → b ∉ ex → ∃ o', h'.get? b = some o'
 tups : ∀ b xs, H b = some (.tup xs) → H' b = some (.tup xs)
 frzs : ∀ b o u, H b = some (.frz o u) → H' b = some (.frz o u)
 tbls : ∀ b ps, H b = some (.tbl ps) → ∃ more, H' b = some (.tbl (ps ++ more))
section
variable {fs fs' ex ex' : List Addr} {H H1 H2 : Hp} {h h1 h2 h' : Heap} {a x e : Addr} {o : HO}
theorem Un.any (u : Un fs ex H H1 h h1) {b : Addr} {ob : Obj} (q : h.get? b = some ob) (n : H b = none) (hx : b ∉ ex) : ∃ sl, h1.get? b = some { ob with slots := sl } := by
 by_cases hb : b ∈ fs
 ·exact u.slot b ob q n hb hx
 ·exact ⟨ob.slots, u.keep b ob q n hb hx⟩
theorem Un.kept (k : ∀ b u, h.get? b = some u → h'.get? b = some u) : Un fs ex H H h h' :=
 ⟨fun b ob q _ _ _ => k b ob q, fun b ob q _ _ _ => ⟨ob.slots, k b ob q⟩, fun _ _ _ n _ => n, fun b ob q _ => ⟨ob, k b ob q⟩, fun _ _ q => q, fun _ _ _ q => q, fun _ ps q => ⟨#[], by rw [q]; simp⟩⟩
theorem Un.refl : Un fs ex H H h h := Un.kept fun _ _ q => q
theorem Un.laid (k : ∀ b u, h.get? b = some u → h'.get? b = some u) (hp : h.objs.size ≤ a) (hn : H a = none) : Un fs ex H (upd H a o) h h' where
 keep := fun b u q _ _ _ => k b u q
 slot := fun b u q _ _ _ => ⟨u.slots, k b u q⟩
 free := fun b u q n _ => by rw [ZD6 (Nat.ne_of_lt (Nat.lt_of_lt_of_le (Heap.lt_size q) hp))]; exact n
 there := fun b u q _ => ⟨u, k b u q⟩
 tups := fun b xs q => by rw [ZD6 (ZD4 q hn)]; exact q
 frzs := fun b u xs q => by rw [ZD6 (ZD4 q hn)]; exact q
 tbls := fun b ps q => ⟨#[], by rw [ZD6 (ZD4 q hn), q]; simp⟩
theorem Un.write (mu : Mut (H x)) (he : e = x ∨ H e = some (.own x)) (k : ∀ b u, b ≠ e → h.get? b = some u → h'.get? b = some u) (heo : ∃ u, h'.get? e = some u) : Un fs ex H (upd H x o) h h' := by
 have hx : ∀ b, H b = none → b ≠ x := fun b n z => by subst z; rw [n] at mu; exact mu
 have hb : ∀ b, H b = none → b ≠ e := fun b n z => by
  subst z
  rcases he with r | r
  ·exact hx b n r
  ·rw [n] at r; cases r
 have hm : ∀ b u, H b = some u → ¬ Mut (some u) → b ≠ x := fun b u q nm z => by subst z; rw [q] at mu; exact nm mu
 refine ⟨fun b u q n _ _ => k b u (hb b n) q, fun b u q n _ _ => ⟨u.slots, k b u (hb b n) q⟩, fun b u q n _ => by rw [ZD6 (hx b n)]; exact n, fun b u q _ => ?_,
  fun b xs q => by rw [ZD6 (hm b _ q fun z => z)]; exact q, fun b u xs q => by rw [ZD6 (hm b _ q fun z => z)]; exact q, fun b ps q => ⟨#[], by rw [ZD6 (hm b _ q fun z => z), q]; simp⟩⟩
 by_cases hbe : b = e
 ·subst hbe; exact heo
 ·exact ⟨u, k b u hbe q⟩
end
def trk (h : Heap) (H : Hp) : List Addr := (List.range h.objs.size).filter fun a => (H a).isSome
def ZH8 (h : Heap) (H : Hp) : Heap := PySem.W.hideAll h (trk h H)
theorem ZOo (h : Heap) (H : Hp) : (ZH8 h H).objs.size = h.objs.size := PySem.W.hideAll_size _ _
theorem ZP3 {h : Heap} {H : Hp} {b : Addr} {o : Obj} (e : h.get? b = some o) (n : H b = none) : (ZH8 h H).get? b = some o :=
 PySem.W.hideAll_get _ e fun hm => by
  have q : (H b).isSome = true := (List.mem_filter.mp hm).2
  rw [n] at q; simp at q
theorem ZSF {h : Heap} {H : Hp} {b : Addr} {o : Obj} (e : (ZH8 h H).get? b = some o) : h.get? b = some o ∧ H b = none := by
 have e' : h.get? b = some o := PySem.W.of_hideAll (trk h H) e
 refine ⟨e', ?_⟩
 cases q : H b with
 | none => rfl
 | some x =>
  have hm : b ∈ trk h H := List.mem_filter.mpr ⟨List.mem_range.mpr (Heap.lt_size e'), by simp [q]⟩
  have z : (ZH8 h H).get? b = none := PySem.W.hideAll_none (trk h H) hm
  rw [z] at e; cases e
def ZSG (g h : Heap) (L : Addr) : List (Addr × Obj) := (List.range h.objs.size).filterMap fun a => if a = L ∨ (g.get? a).isSome = true then none else (h.get? a).map fun o => (a, o)
def ZFC (g h : Heap) (L d : Addr) : List (Addr × Obj) := (ZSG g h L).filter fun p => decide (p.1 ≠ d)
structure Mod (K : W.Frag) (mg : Str → Option Value) (base : Heap) : Prop where
 kin : K.In base
 glob : base.Ns mainGlobals mg
 blt : ∃ mb, base.Ns builtinsNs mb ∧ ∀ x : Str, x ≠ "__name__" → mb x = bootBuiltins x
 nolimit : base.NoLimit
structure Cx where
 prog : Program
 w : World
 K : W.Frag
 mg : Str → Option Value
 base : Heap
 A : Around
 N : List Str
 s₀ : Shared
 H₀ : Hp
 env : Env
 outer : List Env
 stack : List Env
 ex : List Addr
 fn : Str → Bool
 calm : Bool
 pn : List (Addr × Obj)
 xe : Value → Shared → Prop
def frs (l : List Env) : List Addr := l.filterMap (·.frame)
abbrev Cx.fs (X : Cx) : List Addr := frs X.outer
def Vis (sc : Scope) (x : Str) : Prop := sc.names.lookup x = some .local ∨ sc.names.lookup x = some .cell ∨ sc.names.lookup x = some .free
def Loc (sc : Scope) (x : Str) : Prop := sc.names.lookup x = some .local ∨ sc.names.lookup x = some .cell
def ZV4 (env : Env) (h : Heap) (m : Str → Option Value) (x : Str) (u : Value) : Prop :=
 (env.kindOf x = some .local ∧ m x = some u) ∨ ((env.kindOf x = some .cell ∨ env.kindOf x = some .free) ∧ ∃ c, env.cells.lookup x = some c ∧ h.IsCell c (some u))
structure Cx.Ok (X : Cx) : Prop where
 mod : Mod X.K X.mg X.base
 kind : X.env.scope.kind = .function
 glob : X.env.globals = mainGlobals
 blt : X.env.builtins = builtinsNs
 above : X.s₀.heap.objs.size ≤ X.env.locals
 inj : ∀ x y c, X.env.cells.lookup x = some c → X.env.cells.lookup y = some c → x = y
 has : ∀ x, (X.env.kindOf x = some .cell ∨ X.env.kindOf x = some .free) → ∃ c, X.env.cells.lookup x = some c
 cab : ∀ x c, X.fn x = true → X.env.cells.lookup x = some c → X.s₀.heap.objs.size ≤ c
 hd : X.calm = true → X.A.handled = none
 frames : X.A.frames = some X.stack
 stk : X.stack = X.outer ∨ (X.stack = X.env :: X.outer ∧ X.env.frame = some X.env.locals)
 exf : ∀ b ∈ X.ex, b ≠ X.env.locals ∧ ∀ x c, X.env.cells.lookup x = some c → c ≠ b
 bs : ∀ b o, X.base.get? b = some o → X.s₀.heap.get? b = some o ∧ X.H₀ b = none
 bsz : X.base.objs.size ≤ X.s₀.heap.objs.size
 noex : ∀ b o, X.base.get? b = some o → b ∉ X.ex
 exfs : ∀ b ∈ X.ex, b ∉ X.fs
 funs : X.s₀.heap.FunFrames X.base X.outer
 frf : ∀ b ∈ X.fs, X.H₀ b = none
structure Inv (X : Cx) (pins : List (Addr × Obj)) (σ : List (Option V)) (H : Hp) (s : Shared) : Prop where
 ok : X.Ok
 os : s.os = X.s₀.os
 bare : AllBare s.gens
 base : Un X.fs X.ex X.H₀ H X.s₀.heap s.heap
 loc : ∃ m, s.heap.Ns X.env.locals m ∧ ∀ (i : Nat) (x : Str) (v : V), X.N[i]? = some x → σ[i]? = some (some v) → Vis X.env.scope x → ∃ u, ZDy v u ∧ ZV4 X.env s.heap m x u
 cell : ∀ x c, X.env.cells.lookup x = some c → ∃ v, s.heap.IsCell c v
 free : H X.env.locals = none
 freeC : ∀ x c, X.env.cells.lookup x = some c → H c = none
 pin : ∀ p ∈ X.pn ++ pins, s.heap.get? p.1 = some p.2 ∧ H p.1 = none ∧ p.1 ≠ X.env.locals ∧ p.1 ∉ X.fs ∧ ∀ v, p.2.data ≠ .cell v
 hok : HOk X.prog X.w H s.heap
 len : σ.length = X.N.length
section
variable {X : Cx} {pins : List (Addr × Obj)} {σ : List (Option V)} {H H' : Hp} {s : Shared} {h' : Heap}
theorem Cx.Ok.nofr (ok : X.Ok) {b : Addr} {o : Obj} (e : X.base.get? b = some o) : b ∉ X.fs := fun hb => by
 have := (ok.funs.mem hb).1
 rw [e] at this; cases this
theorem Inv.bs (I : Inv X pins σ H s) : ∀ b o, X.base.get? b = some o → s.heap.get? b = some o ∧ H b = none := fun b o e =>
 ⟨I.base.keep b o (I.ok.bs b o e).1 (I.ok.bs b o e).2 (I.ok.nofr e) (I.ok.noex b o e), I.base.free b o (I.ok.bs b o e).1 (I.ok.bs b o e).2 (I.ok.noex b o e)⟩
theorem Inv.bk (I : Inv X pins σ H s) : ∀ b o, X.base.get? b = some o → s.heap.get? b = some o := fun b o e => (I.bs b o e).1
theorem Inv.mod (I : Inv X pins σ H s) : Mod X.K X.mg X.base := I.ok.mod
theorem Inv.kIn (I : Inv X pins σ H s) : X.K.In s.heap := I.ok.mod.kin.keeps I.bk
theorem Inv.lt (I : Inv X pins σ H s) : X.env.locals < s.heap.objs.size := let ⟨_, hn, _⟩ := I.loc; hn.lt
theorem Inv.sz (I : Inv X pins σ H s) : X.s₀.heap.objs.size ≤ s.heap.objs.size := Nat.le_trans I.ok.above (Nat.le_of_lt I.lt)
theorem Inv.nofs (I : Inv X pins σ H s) {a : Addr} (h : s.heap.objs.size ≤ a) : a ∉ X.fs := fun hb => by
 obtain ⟨_, o, ho, _⟩ := I.ok.funs.mem hb
 exact absurd (Nat.lt_of_lt_of_le (Heap.lt_size ho) (Nat.le_trans I.sz h)) (Nat.lt_irrefl _)
theorem Inv.cne (I : Inv X pins σ H s) : ∀ x c, X.env.cells.lookup x = some c → c ≠ X.env.locals := fun x c e z => by
 obtain ⟨v, o, ho, hd⟩ := I.cell x c e
 obtain ⟨m, ⟨o', es, ep, ho', hd', _⟩, _⟩ := I.loc
 rw [z, ho'] at ho; cases ho; rw [hd'] at hd; cases hd
theorem Inv.funs (I : Inv X pins σ H s) : s.heap.FunFrames X.base X.outer := by
 have all : ∀ (l : List Env), (∀ b ∈ frs l, b ∈ X.fs) → X.s₀.heap.FunFrames X.base l → s.heap.FunFrames X.base l := by
  intro l
  induction l with
  | nil => intro _ _; trivial
  | cons env r ih =>
   intro hs hl
   obtain ⟨hk, ⟨L, o, hf, hn, ho, hd⟩, hr⟩ := hl
   have hL : L ∈ X.fs := hs L (by unfold frs; rw [List.filterMap_cons, hf]; exact List.mem_cons_self)
   obtain ⟨sl, e⟩ := I.base.slot L o ho (I.ok.frf L hL) hL fun z => I.ok.exfs L z hL
   exact ⟨hk, ⟨L, _, hf, hn, e, hd⟩, ih (fun b hb => hs b (by unfold frs; rw [List.filterMap_cons, hf]; exact List.mem_cons_of_mem _ hb)) hr⟩
 exact all X.outer (fun _ hb => hb) I.ok.funs
theorem Inv.stack (I : Inv X pins σ H s) : s.heap.FunFrames X.base X.stack := by
 rcases I.ok.stk with e | ⟨e, hf⟩
 ·rw [e]; exact I.funs
 ·rw [e]
  obtain ⟨m, hn, _⟩ := I.loc
  refine .cons (by rw [I.ok.kind]; decide) hf hn ?_ I.funs
  exact Heap.get?_none_of_le (Nat.le_trans I.ok.bsz I.ok.above)
theorem Inv.stkSub (I : Inv X pins σ H s) : ∀ b ∈ frs X.stack, b ∈ X.env.locals :: X.fs := fun b hb => by
 rcases I.ok.stk with e | ⟨e, hf⟩
 ·rw [e] at hb; exact List.mem_cons_of_mem _ hb
 ·rw [e] at hb
  unfold frs at hb
  rw [List.filterMap_cons, hf] at hb
  exact hb
theorem Inv.stkFree (I : Inv X pins σ H s) : ∀ b ∈ frs X.stack, H b = none := fun b hb => by
 rcases List.mem_cons.mp (I.stkSub b hb) with e | hb
 ·rw [e]; exact I.free
 ·obtain ⟨_, o, ho, _⟩ := I.ok.funs.mem hb
  exact I.base.free b o ho (I.ok.frf b hb) fun z => I.ok.exfs b z hb
theorem Inv.step {g' : Array GenState} {t' : Nat} {d' : Drawn} {ch : List Addr} (I : Inv X pins σ H s)
  (hch : ∀ b ∈ ch, (b ∈ X.ex ∨ X.s₀.heap.objs.size ≤ b) ∧ b ≠ X.env.locals ∧ (∀ x c, X.env.cells.lookup x = some c → c ≠ b) ∧ ∀ p ∈ X.pn ++ pins, p.1 ≠ b)
  (keep : ∀ b o, b ≠ X.env.locals → b ∉ X.fs → b ∉ ch → s.heap.get? b = some o → H b = none → h'.get? b = some o)
  (slot : ∀ b o, b ≠ X.env.locals → b ∈ X.fs → b ∉ ch → s.heap.get? b = some o → H b = none → ∃ sl, h'.get? b = some { o with slots := sl }) (free : ∀ b o, b ∉ ch → s.heap.get? b = some o → H b = none → H' b = none)
  (there : ∀ b o, b ∉ ch → s.heap.get? b = some o → ∃ o', h'.get? b = some o')
  (tups : ∀ b xs, H b = some (.tup xs) → H' b = some (.tup xs)) (frzs : ∀ b o u, H b = some (.frz o u) → H' b = some (.frz o u)) (tbls : ∀ b ps, H b = some (.tbl ps) → ∃ more, H' b = some (.tbl (ps ++ more)))
  (ns : ∀ m, s.heap.Ns X.env.locals m → h'.Ns X.env.locals m) (hok : HOk X.prog X.w H' h') (hg : AllBare g') :
  Inv X pins σ H' { s with heap := h', gens := g', drawn := d', toks := t' } := by
 have neL : ∀ b o, X.s₀.heap.get? b = some o → b ≠ X.env.locals := fun b o e => Nat.ne_of_lt (Nat.lt_of_lt_of_le (Heap.lt_size e) I.ok.above)
 have neC : ∀ b o, X.s₀.heap.get? b = some o → b ∉ X.ex → b ∉ ch := fun b o e hx hb => by
  rcases (hch b hb).1 with z | z
  ·exact hx z
  ·exact absurd (Nat.lt_of_lt_of_le (Heap.lt_size e) z) (Nat.lt_irrefl _)
 have cellK : ∀ x c, X.env.cells.lookup x = some c → ∀ v, s.heap.IsCell c v → h'.IsCell c v := fun x c e v ⟨o, ho, hd⟩ => by
  have nch : c ∉ ch := fun z => (hch c z).2.2.1 x c e rfl
  by_cases hc : c ∈ X.fs
  ·obtain ⟨sl, q⟩ := slot c o (I.cne x c e) hc nch ho (I.freeC x c e)
   exact ⟨_, q, hd⟩
  ·exact ⟨o, keep c o (I.cne x c e) hc nch ho (I.freeC x c e), hd⟩
 refine ⟨I.ok, I.os, hg, ⟨fun b o e n hb hx => ?_, fun b o e n hb hx => ?_, fun b o e n hx => ?_, fun b o e hx => ?_, fun b xs e => tups b xs (I.base.tups b xs e), fun b o xs e => frzs b o xs (I.base.frzs b o xs e), fun b ps e => ?_⟩, ?_, fun x c e => ?_, ?_, fun x c e => ?_, fun p hp => ?_, hok, I.len⟩
 ·exact keep b o (neL b o e) hb (neC b o e hx) (I.base.keep b o e n hb hx) (I.base.free b o e n hx)
 ·obtain ⟨sl, e1⟩ := I.base.slot b o e n hb hx
  obtain ⟨sl', e2⟩ := slot b _ (neL b o e) hb (neC b o e hx) e1 (I.base.free b o e n hx)
  exact ⟨sl', e2⟩
 ·obtain ⟨o', e1⟩ := I.base.there b o e hx
  exact free b o' (neC b o e hx) e1 (I.base.free b o e n hx)
 ·obtain ⟨o', e1⟩ := I.base.there b o e hx
  exact there b o' (neC b o e hx) e1
 ·obtain ⟨m1, e1⟩ := I.base.tbls b ps e
  obtain ⟨m2, e2⟩ := tbls b _ e1
  exact ⟨m1 ++ m2, by rw [e2, Array.append_assoc]⟩
 ·obtain ⟨m, hn, hl⟩ := I.loc
  refine ⟨m, ns m hn, fun i x v e1 e2 e3 => ?_⟩
  obtain ⟨u, r, l⟩ := hl i x v e1 e2 e3
  refine ⟨u, r, ?_⟩
  rcases l with l | ⟨k, c, e, z⟩
  ·exact .inl l
  ·exact .inr ⟨k, c, e, cellK x c e _ z⟩
 ·obtain ⟨v, z⟩ := I.cell x c e
  exact ⟨v, cellK x c e v z⟩
 ·obtain ⟨m, ⟨o, _, _, ho, _⟩, _⟩ := I.loc
  exact free _ o (fun z => (hch _ z).2.1 rfl) ho I.free
 ·obtain ⟨v, o, ho, hd⟩ := I.cell x c e
  exact free c o (fun z => (hch c z).2.2.1 x c e rfl) ho (I.freeC x c e)
 ·obtain ⟨e, n, ne, nf, d⟩ := I.pin p hp
  have nch : p.1 ∉ ch := fun z => (hch p.1 z).2.2.2 p hp rfl
  exact ⟨keep p.1 p.2 ne nf nch e n, free p.1 p.2 nch e n, ne, nf, d⟩
theorem Inv.un {t' : Nat} (I : Inv X pins σ H s) (u : Un X.fs [] H H' s.heap h') (hok : HOk X.prog X.w H' h') : Inv X pins σ H' { s with heap := h', toks := t' } := by
 obtain ⟨m, ⟨o, es, ep, ho, r⟩, _⟩ := id I.loc
 obtain ⟨sl, hL⟩ := u.any ho I.free (by simp)
 exact I.step (g' := s.gens) (d' := s.drawn) (ch := []) (fun _ z => nomatch z) (fun b o _ hb _ e n => u.keep b o e n hb (by simp)) (fun b o _ hb _ e n => u.slot b o e n hb (by simp)) (fun b o _ e n => u.free b o e n (by simp)) (fun b o _ e => u.there b o e (by simp)) u.tups u.frzs u.tbls (fun m' hm => by
  obtain ⟨o', es', ep', ho', r'⟩ := hm
  rw [ho] at ho'; cases ho'
  exact ⟨_, es', ep', hL, r'⟩) hok I.bare
theorem Inv.call {g' : Array GenState} {t' : Nat} {d' : Drawn} {ch : List Addr} (I : Inv X pins σ H s) (u : Un (frs X.stack) ch H H' s.heap h') (hok : HOk X.prog X.w H' h') (hg : AllBare g')
  (hch : ∀ b ∈ ch, (b ∈ X.ex ∨ X.s₀.heap.objs.size ≤ b) ∧ b ≠ X.env.locals ∧ (∀ x c, X.env.cells.lookup x = some c → c ≠ b) ∧ ∀ p ∈ X.pn ++ pins, p.1 ≠ b) :
  Inv X pins σ H' { s with heap := h', gens := g', drawn := d', toks := t' } := by
 obtain ⟨m, ⟨o, es, ep, ho, r⟩, _⟩ := id I.loc
 obtain ⟨sl, hL⟩ := u.any ho I.free fun z => (hch _ z).2.1 rfl
 exact I.step (ch := ch) hch (fun b o hL hb hc e n => u.keep b o e n (fun z => (List.mem_cons.mp (I.stkSub b z)).elim hL hb) hc) (fun b o _ _ hc e n => u.any e n hc) (fun b o hc e n => u.free b o e n hc) (fun b o hc e => u.there b o e hc) u.tups u.frzs u.tbls (fun m' hm => by
  obtain ⟨o', es', ep', ho', r'⟩ := hm
  rw [ho] at ho'; cases ho'
  exact ⟨_, es', ep', hL, r'⟩) hok hg
theorem Inv.turned {t' : Nat} {it : Addr} (I : Inv X pins σ H s) (k : ∀ b o, b ≠ it → s.heap.get? b = some o → h'.get? b = some o) (hn : H it = none) (hL : it ≠ X.env.locals)
  (h1 : it ∈ X.ex ∨ X.s₀.heap.objs.size ≤ it) (h2 : ∀ x c, X.env.cells.lookup x = some c → c ≠ it) (h3 : ∀ p ∈ X.pn ++ pins, p.1 ≠ it) : Inv X pins σ H { s with heap := h', toks := t' } := by
 have nit : ∀ b u, H b = some u → b ≠ it := fun b u e z => by rw [z, hn] at e; cases e
 refine I.step (g' := s.gens) (d' := s.drawn) (ch := [it]) (fun b hb => ?_) (fun b o _ _ hc e _ => k b o (fun z => hc (by simp [z])) e) (fun b o _ _ hc e _ => ⟨o.slots, k b o (fun z => hc (by simp [z])) e⟩) (fun _ _ _ _ n => n)
  (fun b o hc e => ⟨o, k b o (fun z => hc (by simp [z])) e⟩) (fun _ _ e => e) (fun _ _ _ e => e) (fun b ps e => ⟨#[], by rw [e]; simp⟩) (fun m hm => ?_) (fun b u e => ?_) I.bare
 ·have e : b = it := by simpa using hb
  subst e
  exact ⟨h1, hL, h2, h3⟩
 ·obtain ⟨o, es, ep, ho, r⟩ := hm
  exact ⟨o, es, ep, k _ o (Ne.symm hL) ho, r⟩
 ·refine (I.hok b u e).stay (fun c v hc q => k c v ?_ q) (fun _ q => q) fun _ _ q => q
  rcases hc with z | z
  ·rw [z]; exact nit b u e
  ·exact nit c _ z
theorem Inv.tok (I : Inv X pins σ H s) (t : Nat) : Inv X pins σ H { s with toks := t } := I.un (h' := s.heap) (t' := t) Un.refl I.hok
theorem Inv.kept {t' : Nat} (I : Inv X pins σ H s) (k : ∀ b u, s.heap.get? b = some u → h'.get? b = some u) : Inv X pins σ H { s with heap := h', toks := t' } := I.un (Un.kept k) (I.hok.kept k)
theorem Inv.laid {a : Addr} {o : HO} {t' : Nat} (I : Inv X pins σ H s) (k : ∀ b u, s.heap.get? b = some u → h'.get? b = some u) (hp : s.heap.objs.size ≤ a) (new : ZER X.prog X.w (upd H a o) h' a o) :
 Inv X pins σ (upd H a o) { s with heap := h', toks := t' } := I.un (Un.laid k hp (I.hok.fresh hp)) (I.hok.laid k hp new)
theorem Inv.write {x e : Addr} {o : HO} {t' : Nat} (I : Inv X pins σ H s) (mu : Mut (H x)) (he : e = x ∨ H e = some (.own x)) (k : ∀ b u, b ≠ e → s.heap.get? b = some u → h'.get? b = some u) (heo : ∃ u, h'.get? e = some u)
 (new : ZER X.prog X.w (upd H x o) h' x o) : Inv X pins σ (upd H x o) { s with heap := h', toks := t' } := I.un (Un.write mu he k heo) (I.hok.write mu he k heo new)
theorem Inv.pins_of {pins' : List (Addr × Obj)} (I : Inv X pins σ H s) (h : ∀ p ∈ pins', s.heap.get? p.1 = some p.2 ∧ H p.1 = none ∧ p.1 ≠ X.env.locals ∧ p.1 ∉ X.fs ∧ ∀ v, p.2.data ≠ .cell v) : Inv X pins' σ H s :=
 ⟨I.ok, I.os, I.bare, I.base, I.loc, I.cell, I.free, I.freeC, fun p hp => (List.mem_append.mp hp).elim (fun z => I.pin p (List.mem_append_left _ z)) (h p), I.hok, I.len⟩
theorem ZLr {N : List Str} (hN : N.Nodup) {i j : Nat} {x : Str} (a : N[i]? = some x) (b : N[j]? = some x) : i = j := by
 obtain ⟨h1, e1⟩ := List.getElem?_eq_some_iff.mp a
 obtain ⟨h2, e2⟩ := List.getElem?_eq_some_iff.mp b
 exact (List.getElem_inj hN).mp (e1.trans e2.symm)
theorem ZK3 {M : Model} {A : Around} {E : Value → Shared → Prop} {i : Nat} {x : Str} {v : V} {u : Value} {Q : Unit → Shared → Prop} (I : Inv X pins σ H s) (hN : X.N.Nodup) (hi : X.N[i]? = some x) (hx : Loc X.env.scope x) (r : ZDy v u)
  (h : ∀ s', Inv X pins (σ.set i (some v)) H s' → (∃ a, Heap.SameBut a s.heap s'.heap ∧ (a = X.env.locals ∨ X.env.cells.lookup x = some a)) → Q () s') (hf : X.fn x = true ∨ X.env.scope.names.lookup x = some .local := by first | exact .inl rfl | exact .inr rfl | assumption) : wpAny M A (storeName X.env x u) Q E s := by
 obtain ⟨m, hn, hl⟩ := id I.loc
 have hcls : (X.env.scope.kind == .class || (X.env.scope.kind == .module && X.env.locals != X.env.globals)) = false := by rw [I.ok.kind]; rfl
 have hiσ : i < σ.length := by rw [I.len]; exact (List.getElem?_eq_some_iff.mp hi).1
 have cne := I.cne
 have tracked : ∀ {a : Addr} {h' : Heap}, (∃ o, s.heap.get? a = some o ∧ H a = none) → Heap.SameBut a s.heap h' → HOk X.prog X.w H h' := fun {a h'} ha hs b ob e => by
  obtain ⟨_, _, hfree⟩ := ha
  refine (I.hok b ob e).stay (fun c w' hc q => (hs.2 c ?_).trans q) (fun _ q => q) fun _ _ q => q
  rintro rfl
  rcases hc with rfl | hc
  ·rw [hfree] at e; cases e
  ·rw [hfree] at hc; cases hc
 rcases hx with hk | hk
 ·refine wpAny_storeName_local hk hn (fun h' hn' hs => ?_) hcls
  obtain ⟨oL, _, _, hoL, _⟩ := id hn
  refine h _ ⟨I.ok, I.os, I.bare, ⟨fun b o e n hb hx => ?_, fun b o e n hb hx => ?_, I.base.free, fun b o e hx => ?_, I.base.tups, I.base.frzs, I.base.tbls⟩, ⟨_, hn', fun j y v' e1 e2 e3 => ?_⟩, fun y c e => ?_, I.free, I.freeC, fun p hp => ?_, tracked ⟨oL, hoL, I.free⟩ hs, by simpa using I.len⟩ ⟨_, hs, .inl rfl⟩
  ·exact (hs.2 b (Nat.ne_of_lt (Nat.lt_of_lt_of_le (Heap.lt_size e) I.ok.above))).trans (I.base.keep b o e n hb hx)
  ·obtain ⟨sl, e1⟩ := I.base.slot b o e n hb hx
   exact ⟨sl, (hs.2 b (Nat.ne_of_lt (Nat.lt_of_lt_of_le (Heap.lt_size e) I.ok.above))).trans e1⟩
  ·obtain ⟨o', e1⟩ := I.base.there b o e hx
   exact ⟨o', (hs.2 b (Nat.ne_of_lt (Nat.lt_of_lt_of_le (Heap.lt_size e) I.ok.above))).trans e1⟩
  ·by_cases hj : j = i
   ·subst hj
    rw [hi] at e1; cases e1
    rw [List.getElem?_set_self hiσ] at e2
    cases e2
    exact ⟨u, r, .inl ⟨hk, by simp⟩⟩
   ·rw [List.getElem?_set_ne (Ne.symm hj)] at e2
    obtain ⟨u', r', q⟩ := hl j y v' e1 e2 e3
    refine ⟨u', r', ?_⟩
    rcases q with ⟨k, e⟩ | ⟨k, c, e, z⟩
    ·refine .inl ⟨k, ?_⟩
     have : y ≠ x := fun e => hj (ZLr hN e1 (e ▸ hi))
     simp [this, e]
    ·exact .inr ⟨k, c, e, z.sameBut hs (cne y c e)⟩
  ·obtain ⟨w', z⟩ := I.cell y c e
   exact ⟨w', z.sameBut hs (cne y c e)⟩
  ·obtain ⟨e, n, ne, nf, d⟩ := I.pin p hp
   exact ⟨(hs.2 p.1 ne).trans e, n, ne, nf, d⟩
 ·have hfn : X.fn x = true := by
   rcases hf with z | z
   ·exact z
   ·rw [z] at hk; cases hk
  obtain ⟨c, hc⟩ := I.ok.has x (.inl hk)
  obtain ⟨w', z⟩ := I.cell x c hc
  refine wpAny_storeName_cell I.ok.kind hk hc z (fun h' hc' hs => ?_)
  obtain ⟨oc, hoc, hocd⟩ := id z
  refine h { s with heap := h' } ⟨I.ok, I.os, I.bare, ⟨fun b o e n hb hx => ?_, fun b o e n hb hx => ?_, I.base.free, fun b o e hx => ?_, I.base.tups, I.base.frzs, I.base.tbls⟩, ⟨m, hn.sameBut hs (Ne.symm (cne x c hc)), fun j y v' e1 e2 e3 => ?_⟩, fun y c' e => ?_, I.free, I.freeC, fun p hp => ?_, tracked ⟨oc, hoc, I.freeC x c hc⟩ hs, by simpa using I.len⟩ ⟨c, hs, .inr hc⟩
  ·exact (hs.2 b (Nat.ne_of_lt (Nat.lt_of_lt_of_le (Heap.lt_size e) (I.ok.cab x c hfn hc)))).trans (I.base.keep b o e n hb hx)
  ·obtain ⟨sl, e1⟩ := I.base.slot b o e n hb hx
   exact ⟨sl, (hs.2 b (Nat.ne_of_lt (Nat.lt_of_lt_of_le (Heap.lt_size e) (I.ok.cab x c hfn hc)))).trans e1⟩
  ·obtain ⟨o', e1⟩ := I.base.there b o e hx
   exact ⟨o', (hs.2 b (Nat.ne_of_lt (Nat.lt_of_lt_of_le (Heap.lt_size e) (I.ok.cab x c hfn hc)))).trans e1⟩
  ·by_cases hj : j = i
   ·subst hj
    rw [hi] at e1; cases e1
    rw [List.getElem?_set_self hiσ] at e2
    cases e2
    exact ⟨u, r, .inr ⟨.inl hk, c, hc, hc'⟩⟩
   ·rw [List.getElem?_set_ne (Ne.symm hj)] at e2
    obtain ⟨u', r', q⟩ := hl j y v' e1 e2 e3
    refine ⟨u', r', ?_⟩
    rcases q with q | ⟨k, c', e, z'⟩
    ·exact .inl q
    ·refine .inr ⟨k, c', e, z'.sameBut hs ?_⟩
     rintro rfl
     exact hj (ZLr hN e1 (I.ok.inj _ _ _ e hc ▸ hi))
  ·by_cases hcc : c' = c
   ·subst hcc; exact ⟨_, hc'⟩
   ·obtain ⟨w2, z2⟩ := I.cell y c' e
    exact ⟨w2, z2.sameBut hs hcc⟩
  ·obtain ⟨e, n, ne, nf, d⟩ := I.pin p hp
   refine ⟨(hs.2 p.1 ?_).trans e, n, ne, nf, d⟩
   intro q
   rw [q, hoc] at e
   have q' : oc = p.2 := Option.some.inj e
   exact d w' (by rw [← q']; exact hocd)
theorem ZJY {M : Model} {A : Around} {E : Value → Shared → Prop} {i : Nat} {x : Str} {v : V} {u : Value} {Q : Unit → Shared → Prop} (I : Inv X pins σ H s) (hN : X.N.Nodup) (hi : X.N[i]? = some x) (hx : Loc X.env.scope x) (r : ZDy v u)
  (h : ∀ s', Inv X pins (σ.set i (some v)) H s' → Q () s') (hf : X.fn x = true ∨ X.env.scope.names.lookup x = some .local := by first | exact .inl rfl | exact .inr rfl | assumption) : wpAny M A (storeName X.env x u) Q E s :=
 ZK3 I hN hi hx r (fun s' I' _ => h s' I') hf
theorem Inv.call' {s' : Shared} {ch : List Addr} (I : Inv X pins σ H s) (ho : s'.os = s.os) (u : Un (frs X.stack) ch H H' s.heap s'.heap) (hok : HOk X.prog X.w H' s'.heap) (hg : AllBare s'.gens)
  (hch : ∀ b ∈ ch, (b ∈ X.ex ∨ X.s₀.heap.objs.size ≤ b) ∧ b ≠ X.env.locals ∧ (∀ x c, X.env.cells.lookup x = some c → c ≠ b) ∧ ∀ p ∈ X.pn ++ pins, p.1 ≠ b) : Inv X pins σ H' s' := by
 obtain ⟨h', g', d', t', o'⟩ := s'
 have e : o' = s.os := ho
 subst e
 exact I.call (g' := g') (t' := t') (d' := d') u hok hg hch
end
abbrev XK := Value → Option Addr → Hp → Prop
abbrev St := List (Option V)
abbrev VK := V → Hp → Prop
abbrev TE := St → Hp → VK → Prop
abbrev TT := St → Hp → (Bool → Hp → Prop) → Prop
abbrev TA := St → Hp → (List V → Hp → Prop) → Prop
structure ZEp where
 nx : St → Hp → Prop
 rt : VK
 bk : St → Hp → Prop := fun _ _ => False
 ct : St → Hp → Prop := fun _ _ => False
abbrev TS := ZEp → St → Hp → Prop
def EP (X : Cx) (pins : List (Addr × Obj)) (σ : St) (Q : VK) (u : Value) (s' : Shared) : Prop := ∃ v H', Inv X pins σ H' s' ∧ ZDy v u ∧ Q v H'
def TP (X : Cx) (pins : List (Addr × Obj)) (σ : St) (Q : Bool → Hp → Prop) (b : Bool) (s' : Shared) : Prop := ∃ H', Inv X pins σ H' s' ∧ Q b H'
def AP (X : Cx) (pins : List (Addr × Obj)) (σ : St) (Q : List V → Hp → Prop) (us : List Value) (s' : Shared) : Prop := ∃ vs H', Inv X pins σ H' s' ∧ ZD0 vs us ∧ Q vs H'
def SP (X : Cx) (pins : List (Addr × Obj)) (D : ZEp) (f : Flow) (s' : Shared) : Prop :=
 match f with
 | .next => ∃ σ' H', Inv X pins σ' H' s' ∧ D.nx σ' H'
 | .brk => ∃ σ' H', Inv X pins σ' H' s' ∧ D.bk σ' H'
 | .cont => ∃ σ' H', Inv X pins σ' H' s' ∧ D.ct σ' H'
 | .ret u => ∃ v σ' H', Inv X pins σ' H' s' ∧ ZDy v u ∧ D.rt v H'
def PE (X : Cx) (e : Expr) (t : TE) : Prop :=
 ∀ (pins : List (Addr × Obj)) (s : Shared) (σ : St) (H : Hp) (Q : VK), Inv X pins σ H s → t σ H Q → wpAny (model X.prog X.w) X.A (eval e X.env) (EP X pins σ Q) X.xe s
def PT (X : Cx) (e : Expr) (t : TT) : Prop :=
 ∀ (pins : List (Addr × Obj)) (s : Shared) (σ : St) (H : Hp) (Q : Bool → Hp → Prop), Inv X pins σ H s → t σ H Q → wpAny (model X.prog X.w) X.A (isTrue e X.env (eval e X.env)) (TP X pins σ Q) X.xe s
def PW (X : Cx) (e : Expr) (t : TT) : Prop :=
 ∀ (whole : Sem Value) (pins : List (Addr × Obj)) (s : Shared) (σ : St) (H : Hp) (Q : Bool → Hp → Prop), Inv X pins σ H s → t σ H Q → wpAny (model X.prog X.w) X.A (isTrue e X.env whole) (TP X pins σ Q) X.xe s
theorem PW.pt {X : Cx} {e : Expr} {t : TT} (h : PW X e t) : PT X e t := h _
def PA (X : Cx) (es : List Expr) (t : TA) : Prop :=
 ∀ (pos : Pos) (pins : List (Addr × Obj)) (s : Shared) (σ : St) (H : Hp) (Q : List V → Hp → Prop), Inv X pins σ H s → t σ H Q → wpAny (model X.prog X.w) X.A (spliced (backTo pos (starEach es X.env))) (AP X pins σ Q) X.xe s
def PS (X : Cx) (st : Stmt) (t : TS) : Prop :=
 ∀ (pins : List (Addr × Obj)) (s : Shared) (σ : St) (H : Hp) (D : ZEp), Inv X pins σ H s → t D σ H → wpAny (model X.prog X.w) X.A (exec st X.env) (SP X pins D) X.xe s
def PSs (X : Cx) (st : List Stmt) (t : TS) : Prop :=
 ∀ (pins : List (Addr × Obj)) (s : Shared) (σ : St) (H : Hp) (D : ZEp), Inv X pins σ H s → t D σ H → wpAny (model X.prog X.w) X.A (execs st X.env) (SP X pins D) X.xe s
theorem thn {α : Type} {t : Sem α} {Q Q' : α → Shared → Prop} {M : Model} {A : Around} {E : Value → Shared → Prop} {s : Shared} (h : wpAny M A t Q E s) (hQ : ∀ a s, Q a s → Q' a s) : wpAny M A t Q' E s := wpAny_mono h hQ fun _ _ x => x
section
variable {X : Cx}
def ZP4 (i : Nat) : TE := fun σ H Q => ∃ v, σ[i]? = some (some v) ∧ Q v H
def tC (v : V) : TE := fun _ H Q => Q v H
theorem ZUA {i : Nat} {x : Str} {pos : Pos} (hN : X.N[i]? = some x) (hv : Vis X.env.scope x) (hd : (x == ("__debug__" : Str)) = false := by decide) (hcd : (x == ("__classdict__" : Str)) = false := by decide) : PE X (.Name x pos) (ZP4 i) := by
 intro pins s σ H Q I h
 obtain ⟨v, e, h⟩ := h
 obtain ⟨m, hn, hl⟩ := I.loc
 obtain ⟨u, r, l⟩ := hl i x v hN e hv
 have fin : EP X pins σ Q u s := ⟨v, H, I, r, h⟩
 rcases l with ⟨hk, hm⟩ | ⟨hk, c, hc, hcell⟩
 ·exact wpAny_Name (wpAny_loadName_local I.ok.kind hk hn hm fin) hd
 ·rcases hk with hk | hk
  ·exact wpAny_Name (wpAny_loadName_cell I.ok.kind hk hc hcell fin) hd
  ·exact wpAny_Name (wpAny_loadName_free I.ok.kind hk hc hcell fin hcd) hd
theorem ZUB {i j pos} : PE X (.Constant (.int i) j pos) (tC (.int i)) := fun _ _ _ H _ I h => wpAny_Constant_int ⟨.int i, H, I.tok _, ⟨_, rfl⟩, h⟩
theorem ZVg {b j pos} : PE X (.Constant (.bool b) j pos) (tC (.bl b)) := fun _ _ _ H _ I h => Constant_bool ⟨.bl b, H, I, rfl, h⟩
theorem ZUC {j pos} : PE X (.Constant .none j pos) (tC .non) := fun _ _ _ H _ I h => Constant_none ⟨.non, H, I, rfl, h⟩
def Gl (X : Cx) (x : Str) : Prop := X.env.kindOf x = some .globalImplicit
theorem ZG4 {E : Value → Shared → Prop} {pins : List (Addr × Obj)} {s : Shared} {σ : St} {H : Hp} {x : Str} {u : Value} {pos : Pos} {Q : Value → Shared → Prop} (I : Inv X pins σ H s) (hg : Gl X x) (hm : X.mg x = some u) (h : Q u s)
  (hd : (x == ("__debug__" : Str)) = false := by decide) : wpAny (model X.prog X.w) X.A (eval (.Name x pos) X.env) Q E s :=
 Calls.Name_function_global I.ok.kind hg (Calls.loadGlobal_global (by rw [I.ok.glob]; exact I.mod.glob.keeps I.bk) hm h) hd
theorem ZGm {E : Value → Shared → Prop} {pins : List (Addr × Obj)} {s : Shared} {σ : St} {H : Hp} {x : Str} {u : Value} {pos : Pos} {Q : Value → Shared → Prop} (I : Inv X pins σ H s) (hg : Gl X x) (hm : X.mg x = none) (hv : bootBuiltins x = some u) (h : Q u s)
  (hn : x ≠ "__name__" := by decide) (hd : (x == ("__debug__" : Str)) = false := by decide) : wpAny (model X.prog X.w) X.A (eval (.Name x pos) X.env) Q E s := by
 obtain ⟨mb, h1, h2⟩ := I.mod.blt
 exact Calls.Name_function_global I.ok.kind hg (Calls.loadGlobal_builtin (by rw [I.ok.glob]; exact I.mod.glob.keeps I.bk) hm (by rw [I.ok.blt]; exact h1.keeps I.bk) ((h2 x hn).trans hv) h) hd
theorem ZSH {x : Str} {v : V} {u : Value} {pos : Pos} (hg : Gl X x) (hm : X.mg x = some u) (r : ZDy v u) (hd : (x == ("__debug__" : Str)) = false := by decide) : PE X (.Name x pos) (tC v) :=
 fun _ _ _ H _ I h => ZG4 I hg hm ⟨v, H, I, r, h⟩ hd
theorem ZSI {x : Str} {v : V} {u : Value} {pos : Pos} (hg : Gl X x) (hm : X.mg x = none) (hv : bootBuiltins x = some u) (r : ZDy v u) (hn : x ≠ "__name__" := by decide) (hd : (x == ("__debug__" : Str)) = false := by decide) : PE X (.Name x pos) (tC v) :=
 fun _ _ _ H _ I h => ZGm I hg hm hv ⟨v, H, I, r, h⟩ hn hd
variable {a b : Expr} {ta tb : TE} {pos : Pos}
def tB (t : TE) : TT := fun σ H Q => t σ H fun x H1 => ∃ c, x = .bl c ∧ Q c H1
theorem ZUD {e : Expr} {t : TE} (h : PE X e t) (he : ∀ whole, isTrue e X.env whole = (do let v ← whole; standAt e.pos; holding [v] (truthy v)) := by intro _; rfl) : PT X e (tB t) := by
 intro pins s σ H Q I hw
 refine isTrue_plain (thn (h pins s σ H _ I hw) fun v s1 ⟨x, H1, I1, r1, q1⟩ => ?_) (he _)
 obtain ⟨d, rfl, q⟩ := q1
 cases r1
 exact wpAny_truthy_bool ⟨H1, I1, q⟩
variable {tA tB' : TT} {ZFC : List Expr}
def ZP5 (t u : TT) : TT := fun σ H Q => t σ H fun c H1 => if c = true then u σ H1 Q else Q false H1
def tOr (t u : TT) : TT := fun σ H Q => t σ H fun c H1 => if c = true then Q true H1 else u σ H1 Q
def ZP6 (t : TT) : TT := fun σ H Q => t σ H fun c H1 => Q (!c) H1
theorem ZSJ (ha : PT X a tA) : PW X (.BoolOp .And [a] pos) tA := by
 intro wh pins s σ H Q I h
 refine isTrue_and (thn (ha pins s σ H Q I h) fun c s1 e => ?_)
 cases c with
 | true => exact isTrue_and_nil e
 | false => exact e
theorem ZUE (ha : PT X a tA) : PW X (.BoolOp .Or [a] pos) tA := by
 intro wh pins s σ H Q I h
 refine isTrue_or (thn (ha pins s σ H Q I h) fun c s1 e => ?_)
 cases c with
 | false => exact isTrue_or_nil e
 | true => exact e
theorem ZUF (ha : PT X a tA) (hb : PW X (.BoolOp .And (b :: ZFC) pos) tB') : PW X (.BoolOp .And (a :: b :: ZFC) pos) (ZP5 tA tB') := by
 intro wh pins s σ H Q I h
 refine isTrue_and (thn (ha pins s σ H _ I h) fun c s1 ⟨H1, I1, q1⟩ => ?_)
 cases c with
 | true => exact hb wh pins s1 σ H1 Q I1 q1
 | false => exact ⟨H1, I1, q1⟩
theorem ZVh (ha : PT X a tA) (hb : PW X (.BoolOp .Or (b :: ZFC) pos) tB') : PW X (.BoolOp .Or (a :: b :: ZFC) pos) (tOr tA tB') := by
 intro wh pins s σ H Q I h
 refine isTrue_or (thn (ha pins s σ H _ I h) fun c s1 ⟨H1, I1, q1⟩ => ?_)
 cases c with
 | true => exact ⟨H1, I1, q1⟩
 | false => exact hb wh pins s1 σ H1 Q I1 q1
theorem ZUG (ha : PT X a tA) : PT X (.UnaryOp .Not a pos) (ZP6 tA) := by
 intro pins s σ H Q I h
 exact isTrue_not (ha pins s σ H (fun c H1 => Q (!c) H1) I h)
def ZNh (ta tb : TE) : TE := fun σ H Q => ta σ H fun x H1 => ∃ c, x = .bl c ∧ if c = true then tb σ H1 Q else Q (.bl false) H1
def ZNi (ta : TE) : TE := fun σ H Q => ta σ H fun x H1 => ∃ c, x = .bl c ∧ Q (.bl (!c)) H1
theorem ZUH {op} {t : TE} (h : PE X a t) : PE X (.BoolOp op [a] pos) t := fun pins s σ H Q I hw => BoolOp_one (h pins s σ H Q I hw)
theorem ZUI (ha : PE X a ta) (hb : PE X (.BoolOp .And (b :: ZFC) pos) tb) : PE X (.BoolOp .And (a :: b :: ZFC) pos) (ZNh ta tb) := by
 intro pins s σ H Q I h
 refine BoolOp_and (thn (ha pins s σ H _ I h) fun v s1 ⟨x, H1, I1, r1, q1⟩ => ?_)
 obtain ⟨c, rfl, q1⟩ := q1
 cases r1
 refine wpAny_truthy_bool ?_
 cases c with
 | true => exact hb pins s1 σ H1 Q I1 q1
 | false => exact ⟨.bl false, H1, I1, rfl, q1⟩
theorem ZUJ (ha : PE X a ta) : PE X (.UnaryOp .Not a pos) (ZNi ta) := by
 intro pins s σ H Q I h
 refine UnaryOp_ (thn (ha pins s σ H _ I h) fun v s1 ⟨x, H1, I1, r1, q1⟩ => ?_)
 obtain ⟨c, rfl, q1⟩ := q1
 cases r1
 exact not_of (wpAny_truthy_bool ⟨.bl (!c), H1, I1, rfl, q1⟩)
def tIf (t : TT) (ta tb : TE) : TE := fun σ H Q => t σ H fun c H1 => if c = true then ta σ H1 Q else tb σ H1 Q
theorem ZP7 {c : Expr} (hc : PT X c tA) (ha : PE X a ta) (hb : PE X b tb) : PE X (.IfExp c a b pos) (tIf tA ta tb) := by
 intro pins s σ H Q I h
 refine wpAny_IfExp (thn (hc pins s σ H _ I h) fun d s1 ⟨H1, I1, q1⟩ => ?_)
 cases d with
 | true => exact ha pins s1 σ H1 Q I1 q1
 | false => exact hb pins s1 σ H1 Q I1 q1
end
def SqL (K : W.Frag) (H : Hp) (a : Addr) (xs : List V) : Prop :=
 Rd H a (.lst xs) ∨
  ∃ (o : Obj) (its : Array Value) (n : Nat), K.lookup a = some o ∧ o.cls = .type "list" ∧ o.dict = none ∧ o.data = .seq its n ∧ its.size ≤ sizeLine ∧ ZD0 xs its.toList
def SqT (K : W.Frag) (H : Hp) (a : Addr) (xs : List V) : Prop :=
 Rd H a (.tup xs) ∨
  ∃ (o : Obj) (its : Array Value) (n : Nat), K.lookup a = some o ∧ o.cls = .type "tuple" ∧ o.data = .seq its n ∧ its.size ≤ sizeLine ∧ ZD0 xs its.toList
def ZV5 : Value → Option V
 | .none => some .non
 | .bool b => some (.bl b)
 | .int i _ => some (.int i)
 | .str x _ => some (.str x)
 | .bytes b _ => some (.byt b)
 | .float b _ => some (.flt b)
 | .ref a => some (.ref a)
 | .type n => some (.ty n)
 | _ => none
theorem ZDy.abs {x : V} {u : Value} (r : ZDy x u) : ZV5 u = some x := by
 cases x with
 | non => cases r; rfl
 | bl _ => cases r; rfl
 | int _ => obtain ⟨t, rfl⟩ := r; rfl
 | str _ => obtain ⟨t, rfl⟩ := r; rfl
 | byt _ => obtain ⟨t, rfl⟩ := r; rfl
 | flt _ => obtain ⟨t, rfl⟩ := r; rfl
 | ref _ => cases r; rfl
 | ty _ => cases r; rfl
theorem ZDy.inj {x y : V} {u : Value} (r : ZDy x u) (q : ZDy y u) : x = y := Option.some.inj (r.abs.symm.trans q.abs)
theorem ZD0.inj : ∀ {xs ys : List V} {us : List Value}, ZD0 xs us → ZD0 ys us → xs = ys
 | _, _, _, .nil, .nil => rfl
 | _, _, _, .cons r t, .cons r' t' => by rw [r.inj r', ZD0.inj t t']
section
variable {X : Cx} {pins : List (Addr × Obj)} {σ : St} {H : Hp} {s : Shared} {a : Addr} {xs ys : List V}
theorem SqL.of {K : W.Frag} (h : H a = some (.lst xs)) : SqL K H a xs := .inl (.inl h)
theorem SqT.of {K : W.Frag} (h : H a = some (.tup xs)) : SqT K H a xs := .inl (.inl h)
theorem Inv.list (I : Inv X pins σ H s) (h : SqL X.K H a xs) : ∃ its : List Value, ZD0 xs its ∧ PlainL s.heap a its.toArray ∧ xs.length ≤ sizeLine := by
 rcases h with h | ⟨o, its, n, hk, hc, hd, hs, hz, r⟩
 ·obtain ⟨z, its, n, r, e⟩ := h.ok I.hok
  exact ⟨its, r, ⟨_, n, e, rfl, rfl, rfl⟩, z⟩
 ·refine ⟨its.toList, r, ⟨o, n, I.kIn a o hk, hc, hd, by simpa using hs⟩, ?_⟩
  have e := r.length
  simp only [Array.length_toList] at e
  omega
theorem Inv.tuple (I : Inv X pins σ H s) (h : SqT X.K H a xs) : ∃ its : List Value, ZD0 xs its ∧ IsTup s.heap a its.toArray ∧ xs.length ≤ sizeLine := by
 rcases h with h | ⟨o, its, n, hk, hc, hs, hz, r⟩
 ·obtain ⟨z, its, r, p⟩ := h.ok I.hok
  exact ⟨its, r, p, z.1⟩
 ·refine ⟨its.toList, r, ⟨o, I.kIn a o hk, hc, n, by simpa using hs⟩, ?_⟩
  have e := r.length
  simp only [Array.length_toList] at e
  omega
theorem Inv.list_inj (I : Inv X pins σ H s) (h : SqL X.K H a xs) (h' : SqL X.K H a ys) : xs = ys := by
 obtain ⟨its, r, ⟨o, n, e, _, _, d⟩, _⟩ := I.list h
 obtain ⟨its', r', ⟨o', n', e', _, _, d'⟩, _⟩ := I.list h'
 rw [e] at e'; cases e'
 rw [d] at d'
 injection d' with d1 _
 have : its = its' := by simpa using congrArg Array.toList d1
 subst this
 exact r.inj r'
theorem Inv.tuple_inj (I : Inv X pins σ H s) (h : SqT X.K H a xs) (h' : SqT X.K H a ys) : xs = ys := by
 obtain ⟨its, r, ⟨o, e, _, n, d⟩, _⟩ := I.tuple h
 obtain ⟨its', r', ⟨o', e', _, n', d'⟩, _⟩ := I.tuple h'
 rw [e] at e'; cases e'
 rw [d] at d'
 injection d' with d1 _
 have : its = its' := by simpa using congrArg Array.toList d1
 subst this
 exact r.inj r'
end
abbrev Cx.wish (X : Cx) (E : Value → Shared → Prop) : Cx := { X with xe := E }
abbrev Cx.nox (X : Cx) : Cx := X.wish fun _ _ => False
theorem Cx.Ok.wish {X : Cx} (ok : X.Ok) (E : Value → Shared → Prop) : (X.wish E).Ok :=
 ⟨ok.mod, ok.kind, ok.glob, ok.blt, ok.above, ok.inj, ok.has, ok.cab, ok.hd, ok.frames, ok.stk, ok.exf, ok.bs, ok.bsz, ok.noex, ok.exfs, ok.funs, ok.frf⟩
theorem Cx.Ok.unwish {X : Cx} {E : Value → Shared → Prop} (ok : (X.wish E).Ok) : X.Ok :=
 ⟨ok.mod, ok.kind, ok.glob, ok.blt, ok.above, ok.inj, ok.has, ok.cab, ok.hd, ok.frames, ok.stk, ok.exf, ok.bs, ok.bsz, ok.noex, ok.exfs, ok.funs, ok.frf⟩
section
variable {X : Cx} {pins : List (Addr × Obj)} {σ : St} {H : Hp} {s : Shared} {E : Value → Shared → Prop}
theorem Inv.wish (I : Inv X pins σ H s) (E : Value → Shared → Prop) : Inv (X.wish E) pins σ H s := ⟨I.ok.wish E, I.os, I.bare, I.base, I.loc, I.cell, I.free, I.freeC, I.pin, I.hok, I.len⟩
theorem Inv.unwish (I : Inv (X.wish E) pins σ H s) : Inv X pins σ H s := ⟨I.ok.unwish, I.os, I.bare, I.base, I.loc, I.cell, I.free, I.freeC, I.pin, I.hok, I.len⟩
theorem SP.unwish {D : ZEp} {f : Flow} {s' : Shared} (h : SP (X.wish E) pins D f s') : SP X pins D f s' := by
 cases f with
 | next => obtain ⟨σ', H', I, q⟩ := h; exact ⟨σ', H', I.unwish, q⟩
 | brk => obtain ⟨σ', H', I, q⟩ := h; exact ⟨σ', H', I.unwish, q⟩
 | cont => obtain ⟨σ', H', I, q⟩ := h; exact ⟨σ', H', I.unwish, q⟩
 | ret u => obtain ⟨v, σ', H', I, r, q⟩ := h; exact ⟨v, σ', H', I.unwish, r, q⟩
theorem PSs.nox {st : List Stmt} {t : TS} (h : PSs X.nox st t) : PSs X st t := fun pins s σ H D I hw =>
 wpAny_mono (h pins s σ H D (I.wish _) hw) (fun _ _ q => q.unwish) fun _ _ z => False.elim z
end
section
variable {X : Cx} {st : Stmt} {ZFC : List Stmt} {t u : TS} {e : Expr} {te : TE} {pos : Pos}
def ZNj : TS := fun D σ H => D.nx σ H
def ZP8 (t u : TS) : TS := fun D σ H => t { D with nx := u D } σ H
theorem ZSK : PSs X [] ZNj := fun _ _ σ H _ I h => wpAny_execs_nil ⟨σ, H, I, h⟩
theorem ZP9 (h1 : PS X st t) (h2 : PSs X ZFC u) : PSs X (st :: ZFC) (ZP8 t u) := by
 intro pins s σ H D I h
 refine wpAny_execs_cons (thn (h1 pins s σ H { D with nx := u D } I h) fun f s1 q => ?_)
 cases f with
 | next =>
  obtain ⟨σ', H', I', q⟩ := q
  exact h2 pins s1 σ' H' D I' q
 | ret v => exact q
 | brk => exact q
 | cont => exact q
theorem ZSL (h1 : PS X st t) : PSs X [st] t := by
 intro pins s σ H D I h
 refine wpAny_execs_cons (thn (h1 pins s σ H D I h) fun f s1 q => ?_)
 cases f with
 | next => exact wpAny_execs_nil q
 | ret v => exact q
 | brk => exact q
 | cont => exact q
theorem Inv.quiet {pins : List (Addr × Obj)} {σ : St} {H : Hp} {s : Shared} (I : Inv X pins σ H s) : interactive X.env = false := by simp [interactive, I.ok.kind]
def ZLk (te : TE) : TS := fun D σ H => te σ H fun _ H1 => D.nx σ H1
theorem ZSM (he : PE X e te) (hs : swapsWith e none pos.line X.env = pure false := by rfl) : PS X (.Expr e pos) (ZLk te) := by
 intro pins s σ H D I h
 exact wpAny_Expr_any (thn (he pins s σ H _ I h) fun v s1 ⟨x, H1, I1, r1, q1⟩ => ⟨σ, H1, I1, q1⟩) I.quiet hs
def ZQA (te : TE) : TS := fun D σ H => te σ H D.rt
theorem ZUK (he : PE X e te) : PS X (.Return (some e) pos) (ZQA te) := by
 intro pins s σ H D I h
 exact wpAny_Return_some (thn (he pins s σ H _ I h) fun v s1 ⟨x, H1, I1, r1, q1⟩ => ⟨x, σ, H1, I1, r1, q1⟩)
def ZH9 (c : TT) (t u : TS) : TS := fun D σ H => c σ H fun b H1 => if b = true then t D σ H1 else u D σ H1
theorem ZVi {c : Expr} {a b : List Stmt} {tc : TT} (hc : PT X c tc) (ha : PSs X a t) (hb : PSs X b u) : PS X (.If c a b pos) (ZH9 tc t u) := by
 intro pins s σ H D I h
 refine wpAny_If (thn (hc pins s σ H _ I h) fun d s1 ⟨H1, I1, q1⟩ => ?_)
 cases d with
 | true => exact ha pins s1 σ H1 D I1 q1
 | false => exact hb pins s1 σ H1 D I1 q1
def ZOp : TS := fun _ _ _ => False
theorem ZQB : PS X st ZOp := fun _ _ _ _ _ _ h => h.elim
end
abbrev TG := V → St → Hp → (St → Hp → Prop) → Prop
abbrev TGs := List V → St → Hp → (St → Hp → Prop) → Prop
def PG (X : Cx) (target : Expr) (t : TG) : Prop :=
 ∀ (pins : List (Addr × Obj)) (s : Shared) (σ : St) (H : Hp) (v : V) (u : Value) (Q : St → Hp → Prop), Inv X pins σ H s → ZDy v u → t v σ H Q →
  wpAny (model X.prog X.w) X.A (assign target X.env u) (fun _ s' => ∃ σ' H', Inv X pins σ' H' s' ∧ Q σ' H') X.xe s
def PGs (X : Cx) (ts : List Expr) (t : TGs) : Prop :=
 ∀ (pins : List (Addr × Obj)) (s : Shared) (σ : St) (H : Hp) (vs : List V) (us : List Value) (Q : St → Hp → Prop), Inv X pins σ H s → ZD0 vs us → t vs σ H Q →
  wpAny (model X.prog X.w) X.A (assignInOrder ((assignEach ts X.env).map (·.2)) us) (fun _ s' => ∃ σ' H', Inv X pins σ' H' s' ∧ Q σ' H') X.xe s
abbrev ZLs := V → V → V → Hp → (Hp → Prop) → Prop
def ZQC (X : Cx) (t : ZLs) : Prop :=
 ∀ (pins : List (Addr × Obj)) (s : Shared) (σ : St) (H : Hp) (o i v : V) (ov iv u : Value) (Q : Hp → Prop), Inv X pins σ H s → ZDy o ov → ZDy i iv → ZDy v u → t o i v H Q →
  wpAny (model X.prog X.w) X.A (setItem ov iv u) (fun _ s' => ∃ H', Inv X pins σ H' s' ∧ Q H') X.xe s
abbrev TIp := V → V → Hp → VK → Prop
def PIp (X : Cx) (op : Operator) (t : TIp) : Prop :=
 ∀ (pins : List (Addr × Obj)) (s : Shared) (σ : St) (H : Hp) (x y : V) (v u : Value) (Q : VK), Inv X pins σ H s → ZDy x v → ZDy y u → t x y H Q →
  wpAny (model X.prog X.w) X.A (inplaceOp op v u) (EP X pins σ Q) X.xe s
section
variable {X : Cx} {pos : Pos}
def ZGE (i : Nat) : TG := fun v σ H Q => Q (σ.set i (some v)) H
theorem ZSN {i : Nat} {x : Str} (hN : X.N.Nodup) (hi : X.N[i]? = some x) (hx : Loc X.env.scope x) (hf : X.fn x = true ∨ X.env.scope.names.lookup x = some .local := by first | exact .inl rfl | exact .inr rfl | assumption) : PG X (.Name x pos) (ZGE i) := by
 intro pins s σ H v u Q I r h
 exact wpAny_assign_Name (ZJY I hN hi hx r (fun s' I' => ⟨_, H, I', h⟩) hf)
def ZQD : TGs := fun vs σ H Q => vs = [] ∧ Q σ H
def ZNk (t : TG) (u : TGs) : TGs := fun vs σ H Q => ∃ v r, vs = v :: r ∧ t v σ H fun σ' H' => u r σ' H' Q
theorem ZSO : PGs X [] ZQD := by
 intro pins s σ H vs us Q I r h
 obtain ⟨e, h⟩ := h
 subst e
 cases r
 exact assignInOrder_nil ⟨σ, H, I, h⟩
theorem ZQE {e : Expr} {es : List Expr} {t : TG} {u : TGs} (h1 : PG X e t) (h2 : PGs X es u)
  (hs : (assignEach (e :: es) X.env).map (·.2) = assign e X.env :: (assignEach es X.env).map (·.2) := by rfl) : PGs X (e :: es) (ZNk t u) := by
 intro pins s σ H vs us Q I r h
 obtain ⟨v, vr, e1, h⟩ := h
 subst e1
 cases r with
 | cons r rr =>
  rw [hs]
  refine assignInOrder_cons (thn (h1 pins s σ H _ _ _ I r h) fun _ s1 ⟨σ1, H1, I1, q1⟩ => ?_)
  exact h2 pins s1 σ1 H1 _ _ Q I1 rr q1
def ZNl (K : W.Frag) (n : Nat) (t : TGs) : TG := fun v σ H Q => ∃ a xs, v = .ref a ∧ SqT K H a xs ∧ xs.length = n ∧ t xs σ H Q
theorem ZUL {es : List Expr} {k : Nat} {t : TGs} {n : Nat} (hc : X.calm = true) (h : PGs X es t)
  (hn : (assignEach es X.env).length = n := by rfl) (hst : (assignEach es X.env).findIdx? (·.1) = none := by rfl) : PG X (.Tuple es k pos) (ZNl X.K n t) := by
 intro pins s σ H v u Q I r hw
 obtain ⟨a, xs, e1, hq, hl, hw⟩ := hw
 subst e1
 cases r
 obtain ⟨its, rv, ht, hz⟩ := I.tuple hq
 refine assign_Tuple_tuple (I.ok.hd hc) ht (by simp [hn, ← hl, rv.length]) hst fun h' hx => ?_
 have I1 : Inv X pins σ H { s with heap := h' } := I.kept (t' := s.toks) fun b o e => hx b o (Nat.ne_of_lt (Heap.lt_size e)) e
 exact h pins _ σ H xs _ Q I1 (by simpa using rv) hw
def ZQF (to ti : TE) (t : ZLs) : TG := fun v σ H Q => to σ H fun o H1 => ti σ H1 fun i H2 => t o i v H2 fun H3 => Q σ H3
theorem ZUM {o i : Expr} {to ti : TE} {t : ZLs} (ho : PE X o to) (hi : PE X i ti) (hs : ZQC X t)
  (ha : ∀ v, assign (.Subscript o i pos) X.env v = (do
   let ov ← holding [v] (eval o X.env)
   let iv ← holding [v, ov] (eval i X.env)
   standAt pos
   holding [v, ov, iv] (setItem ov iv v)
   release [v, ov, iv] []) := by intro _; rfl) : PG X (.Subscript o i pos) (ZQF to ti t) := by
 intro pins s σ H v u Q I r h
 rw [ha]
 refine wpAny_bind (wpAny_holding (thn (ho pins s σ H _ I h) fun ov s1 ⟨x, H1, I1, r1, q1⟩ => ?_))
 refine wpAny_bind (wpAny_holding (thn (hi pins s1 σ H1 _ I1 q1) fun iv s2 ⟨y, H2, I2, r2, q2⟩ => ?_))
 refine wpAny_bind (wpAny_standAt (wpAny_bind (wpAny_holding (thn (hs pins s2 σ H2 x y v ov iv u _ I2 r1 r2 r q2) fun _ s3 ⟨H3, I3, q3⟩ => ?_))))
 exact wpAny_release ⟨σ, H3, I3, q3⟩
def ZHd (te : TE) (g : TG) : TS := fun D σ H => te σ H fun x H1 => g x σ H1 D.nx
theorem ZUN {tg e : Expr} {te : TE} {g : TG} (he : PE X e te) (hg : PG X tg g) (hs : swapsWithSole [tg] e pos.line X.env = pure false := by rfl) (hw : swappedStores [tg] e X.env = pure none := by rfl)
  (h1 : (assignEach [tg] X.env).map (·.2) = [assign tg X.env] := by rfl) : PS X (.Assign [tg] e pos) (ZHd te g) := by
 intro pins s σ H D I h
 refine wpAny_Assign_stores (thn (he pins s σ H _ I h) fun v s1 ⟨x, H1, I1, r1, q1⟩ => ?_) hs hw
 rw [h1]
 exact thn (hg pins s1 σ H1 x v _ I1 r1 q1) fun _ s2 q => q
theorem ZOq {i : Nat} {x : Str} {e : Expr} {te : TE} {pos' : Pos} (hN : X.N.Nodup) (hi : X.N[i]? = some x) (hx : Loc X.env.scope x) (he : PE X e te) (hs : swapsWith e (some (.Name x pos')) pos.line X.env = pure false := by rfl) (hf : X.fn x = true ∨ X.env.scope.names.lookup x = some .local := by first | exact .inl rfl | exact .inr rfl | assumption) :
  PS X (.Assign [.Name x pos'] e pos) (ZHd te (ZGE i)) := by
 intro pins s σ H D I h
 refine wpAny_Assign_Name (thn (he pins s σ H _ I h) fun v s1 ⟨y, H1, I1, r1, q1⟩ => ?_) hs
 exact ZJY I1 hN hi hx r1 (fun s2 I2 => ⟨_, H1, I2, q1⟩) hf
def ZQG (i : Nat) (te : TE) (ti : TIp) : TS := fun D σ H => ∃ x, σ[i]? = some (some x) ∧ te σ H fun y H1 => ti x y H1 fun z H2 => D.nx (σ.set i (some z)) H2
theorem ZUO {i : Nat} {x : Str} {e : Expr} {te : TE} {op : Operator} {ti : TIp} {pos' : Pos} (hN : X.N.Nodup) (hi : X.N[i]? = some x) (hx : Loc X.env.scope x) (he : PE X e te) (ho : PIp X op ti) (hf : X.fn x = true ∨ X.env.scope.names.lookup x = some .local := by first | exact .inl rfl | exact .inr rfl | assumption) :
  PS X (.AugAssign (.Name x pos') op e pos) (ZQG i te ti) := by
 intro pins s σ H D I h
 obtain ⟨v, e1, h⟩ := h
 obtain ⟨m, hn, hl⟩ := I.loc
 have vis : Vis X.env.scope x := by rcases hx with k | k; exact .inl k; exact .inr (.inl k)
 obtain ⟨u, r, l⟩ := hl i x v hi e1 vis
 refine wpAny_AugAssign_Name ?_
 have go : wpAny (model X.prog X.w) X.A (eval e X.env) (fun w s₂ => wpAny (model X.prog X.w) X.A (inplaceOp op u w) (fun r s₃ => wpAny (model X.prog X.w) X.A (storeName X.env x r) (fun _ => SP X pins D .next) X.xe s₃) X.xe s₂) X.xe s := by
  refine thn (he pins s σ H _ I h) fun w s1 ⟨y, H1, I1, r1, q1⟩ => ?_
  refine thn (ho pins s1 σ H1 v y u w _ I1 r r1 q1) fun z s2 ⟨zv, H2, I2, r2, q2⟩ => ?_
  exact ZJY I2 hN hi hx r2 (fun s3 I3 => ⟨_, H2, I3, q2⟩) hf
 rcases l with ⟨hk, hm⟩ | ⟨hk, c, hc, hcell⟩
 ·exact wpAny_loadName_local I.ok.kind hk hn hm go
 ·rcases hk with hk | hk
  ·exact wpAny_loadName_cell I.ok.kind hk hc hcell go
  ·rcases hx with k | k
   ·have : X.env.scope.names.lookup x = some .free := hk
    rw [k] at this; cases this
   ·have : X.env.scope.names.lookup x = some .free := hk
    rw [k] at this; cases this
end
section
variable {X : Cx} {pos : Pos}
def ZLt (c : TT) (tb : TS) : TS := fun D σ H => ∃ W : Nat → St → Hp → Prop, (∃ m, W m σ H) ∧ ∀ m σ H, W m σ H →
 c σ H fun b H1 => if b = true then ∃ N : St → Hp → Prop, (∀ σ' H', N σ' H' → ∃ m', m' < m ∧ W m' σ' H') ∧ tb { D with nx := N, ct := N, bk := D.nx } σ H1 else D.nx σ H1
theorem ZQH {c : Expr} {body : List Stmt} {tc : TT} {tb : TS} (hp : PassesOwn (model X.prog X.w) X.A X.env X.xe) (hc : PT X c tc) (hb : PSs X body tb) : PS X (.While c body [] pos) (ZLt tc tb) := by
 intro pins s σ H D I h
 obtain ⟨W, ⟨m0, w0⟩, turn⟩ := h
 refine wpAny_While (codeAny_whileLoop (fun n s' => ∃ σ' H', Inv X pins σ' H' s' ∧ W n σ' H') ?_ m0 ⟨σ, H, I, w0⟩)
 rintro n s1 ⟨σ1, H1, I1, w1⟩
 refine wpAny_passesOwn hp (thn (hc pins s1 σ1 H1 _ I1 (turn n σ1 H1 w1)) fun b s2 ⟨H2, I2, q2⟩ => ?_)
 cases b with
 | true =>
  obtain ⟨N, hN, q2⟩ := q2
  rw [if_pos rfl]
  refine wpAny_passesOwn hp (thn (hb pins s2 σ1 H2 _ I2 q2) fun f s3 q3 => ?_)
  cases f with
  | next =>
   obtain ⟨σ3, H3, I3, n3⟩ := q3
   obtain ⟨m', hm, w3⟩ := hN σ3 H3 n3
   exact ⟨m', hm, σ3, H3, I3, w3⟩
  | cont =>
   obtain ⟨σ3, H3, I3, n3⟩ := q3
   obtain ⟨m', hm, w3⟩ := hN σ3 H3 n3
   exact ⟨m', hm, σ3, H3, I3, w3⟩
  | brk => exact q3
  | ret v => exact q3
 | false =>
  rw [if_neg Bool.false_ne_true]
  exact wpAny_execs_nil ⟨σ1, H2, I2, q2⟩
end
structure It where
 go : Nat → Hp → Prop
 yld : Nat → Hp → V → Hp → Prop
 stop : Nat → Hp → Prop
def ZFD (X : Cx) (pins : List (Addr × Obj)) (H : Hp) (b : Addr) : Prop :=
 H b = none ∧ b ≠ X.env.locals ∧ b ∉ X.fs ∧ (b ∈ X.ex ∨ X.s₀.heap.objs.size ≤ b) ∧ (∀ x c, X.env.cells.lookup x = some c → c ≠ b) ∧ ∀ p ∈ X.pn ++ pins, p.1 ≠ b
theorem Inv.fpOk {X : Cx} {pins : List (Addr × Obj)} {σ : St} {H H' : Hp} {s : Shared} {b : Addr} (I : Inv X pins σ H s) (hb : s.heap.objs.size ≤ b) (hn : H' b = none) : ZFD X pins H' b := by
 refine ⟨hn, Nat.ne_of_gt (Nat.lt_of_lt_of_le I.lt hb), I.nofs hb, .inr (Nat.le_trans I.sz hb), fun x c e z => ?_, fun p hp z => ?_⟩
 ·obtain ⟨v, q⟩ := I.cell x c e
  exact absurd (Nat.lt_of_lt_of_le q.lt (by rw [z]; exact hb)) (Nat.lt_irrefl _)
 ·exact absurd (Nat.lt_of_lt_of_le (Heap.lt_size (I.pin p hp).1) (by rw [z]; exact hb)) (Nat.lt_irrefl _)
structure ZLu (P : Program) (w : World) (K : W.Frag) (tg : Expr) (J : It) (fp : List Addr) (it : Addr) (tn : Nat → Heap → Prop) : Prop where
 mem : it ∈ fp
 obj : ∀ i h, tn i h → ∀ b ∈ fp, ∃ o, h.get? b = some o ∧ ∀ v, o.data ≠ .cell v
 keep : ∀ i h h', tn i h → (∀ b ∈ fp, ∀ o, h.get? b = some o → h'.get? b = some o) → tn i h'
 item : ∀ (X : Cx), X.prog = P → X.w = w → X.K = K → X.calm = true → ∀ (i : Nat) (pins : List (Addr × Obj)) (s : Shared) (σ : St) (H : Hp) (E : Value → Shared → Prop), Inv X pins σ H s → (∀ b ∈ fp, ZFD X pins H b) → tn i s.heap → J.go i H →
  wpAny (model P w) X.A (pyNext (.ref it)) (fun r s1 => ∃ u, r = some u ∧
   wpAny (model P w) X.A (letOwnedTupleGo tg (.ref it) u) (fun _ s2 => ∃ x H', Inv X pins σ H' s2 ∧ ZDy x u ∧ J.yld i H x H' ∧ tn (i + 1) s2.heap ∧ ∀ b ∈ fp, H' b = none) E s1) E s
 done : ∀ (X : Cx), X.prog = P → X.w = w → X.K = K → X.calm = true → ∀ (i : Nat) (pins : List (Addr × Obj)) (s : Shared) (σ : St) (H : Hp) (E : Value → Shared → Prop), Inv X pins σ H s → (∀ b ∈ fp, ZFD X pins H b) → tn i s.heap → J.stop i H →
  wpAny (model P w) X.A (pyNext (.ref it)) (fun r s1 => r = none ∧ Inv X pins σ H s1) E s
 self : ∀ (A : Around) (i : Nat) (s : Shared) (Q : Value → Shared → Prop) (E : Value → Shared → Prop), tn i s.heap → Q (.ref it) s → wpAny (model P w) A (pyIter (.ref it)) Q E s
abbrev TI := St → Hp → (It → Hp → Prop) → Prop
def PIE (X : Cx) (pins : List (Addr × Obj)) (σ : St) (tg : Expr) (R : It → Hp → Prop) (itv : Value) (s2 : Shared) : Prop :=
 ∃ (it : Addr) (fp : List Addr) (tn : Nat → Heap → Prop) (J : It) (H' : Hp), itv = .ref it ∧ Inv X pins σ H' s2 ∧ ZLu X.prog X.w X.K tg J fp it tn ∧ tn 0 s2.heap ∧ (∀ b ∈ fp, ZFD X pins H' b) ∧ R J H'
def PI (X : Cx) (tg iter : Expr) (wi : TI) : Prop :=
 ∀ (pins : List (Addr × Obj)) (s : Shared) (σ : St) (H : Hp) (R : It → Hp → Prop), Inv X pins σ H s → wi σ H R →
  wpAny (model X.prog X.w) X.A (eval iter X.env) (fun v s1 => wpAny (model X.prog X.w) X.A (pyIter v) (PIE X pins σ tg R) X.xe s1) X.xe s
theorem ZNm {M : Model} {A : Around} {E : Value → Shared → Prop} {s : Shared} {tg : Expr} {it : Addr} {u : Value} {o : Obj} {n : String} {vs : Array Value} {Q : Unit → Shared → Prop} (ho : s.heap.get? it = some o) (hc : o.cls = .type n) (hd : o.data = .fields vs)
    (hn : ["enumerate", "zip", "dict_itemiterator", "dict_reverseitemiterator", "odict_iterator", "itertools.zip_longest", "itertools.pairwise"].contains n = false) (hQ : Q () s) : wpAny M A (letOwnedTupleGo tg (.ref it) u) Q E s := by
  unfold letOwnedTupleGo
  cases tg <;> first
    | exact wpAny_pure hQ
    | (cases u <;> first
        | exact wpAny_pure hQ
        | (refine wpAny_bind (wpAny_load ho ?_)
           rw [hc, hd]
           show wpAny M A (if (["enumerate", "zip", "dict_itemiterator", "dict_reverseitemiterator", "odict_iterator", "itertools.zip_longest", "itertools.pairwise"].contains n && vs[0]? == some (rawInt _)) = true then _ else _) Q E s
           rw [if_neg (by intro h; rw [hn, Bool.false_and] at h; cases h)]
           exact wpAny_pure hQ))
def Itl (K : W.Frag) (a : Addr) : It :=
 ⟨fun i H => ∃ xs x, SqL K H a xs ∧ xs[i]? = some x, fun i H x H' => H' = H ∧ ∀ xs, SqL K H a xs → xs[i]? = some x, fun i H => ∃ xs, SqL K H a xs ∧ xs.length ≤ i⟩
def Itt (K : W.Frag) (a : Addr) : It :=
 ⟨fun i H => ∃ xs x, SqT K H a xs ∧ xs[i]? = some x, fun i H x H' => H' = H ∧ ∀ xs, SqT K H a xs → xs[i]? = some x, fun i H => ∃ xs, SqT K H a xs ∧ xs.length ≤ i⟩
def Itr (lo : Int) (n : Nat) : It := ⟨fun i _ => i < n, fun i H x H' => H' = H ∧ x = .int (lo + i), fun i _ => n ≤ i⟩
theorem ZK4 {P : Program} {w : World} {K : W.Frag} {tg : Expr} (a it : Addr) : ZLu P w K tg (Itl K a) [it] it (fun i h => h.IsListIter it a i) where
 mem := by simp
 obj := fun i h st b hb => by
  have e : b = it := by simpa using hb
  subst e
  obtain ⟨o, e, c, d⟩ := st
  exact ⟨o, e, fun v z => by rw [d] at z; cases z⟩
 keep := fun i h h' st k => st.at fun o e => k it (by simp) o e
 item := by
  intro X hP hw hK hc i pins s σ H E I hf st hg
  subst hP hw hK
  obtain ⟨xs, x, hq, hx⟩ := hg
  obtain ⟨its, rv, p, hz⟩ := I.list hq
  obtain ⟨u, hu, ru⟩ := rv.get hx
  obtain ⟨f0, f1, f2, f3, f4, f5⟩ := hf it (by simp)
  refine wpAny_pyNext_list_item st p.isList (x := u) (by simpa using hu) fun h' st' sb => ?_
  have I1 : Inv X pins σ H { s with heap := h' } := I.turned (t' := s.toks) (fun b o hb e => (sb.2 b hb).trans e) f0 f1 f3 f4 f5
  obtain ⟨o, e, c, d⟩ := id st'
  exact ⟨u, rfl, ZNm (s := { s with heap := h' }) e c d (by decide) ⟨x, H, I1, ru, ⟨rfl, fun ys hy => by rw [I.list_inj hy hq]; exact hx⟩, st', fun b hb => (hf b hb).1⟩⟩
 done := by
  intro X hP hw hK hc i pins s σ H E I hf st hg
  subst hP hw hK
  obtain ⟨xs, hq, hx⟩ := hg
  obtain ⟨its, rv, p, hz⟩ := I.list hq
  obtain ⟨f0, f1, f2, f3, f4, f5⟩ := hf it (by simp)
  have hl := rv.length
  exact wpAny_pyNext_list_end (I.ok.hd hc) st p.isList (by simp; omega) fun h' eb => ⟨rfl, I.turned (t' := s.toks) (fun b o hb e => eb b o hb e) f0 f1 f3 f4 f5⟩
 self := fun _ _ _ _ _ st h => wpAny_pyIter_listiter st h
theorem ZJ3 {P : Program} {w : World} {K : W.Frag} {tg : Expr} (a it : Addr) : ZLu P w K tg (Itt K a) [it] it (fun i h => h.IsTupleIter it a i) where
 mem := by simp
 obj := fun i h st b hb => by
  have e : b = it := by simpa using hb
  subst e
  obtain ⟨o, e, c, d⟩ := st
  exact ⟨o, e, fun v z => by rw [d] at z; cases z⟩
 keep := fun i h h' st k => st.at fun o e => k it (by simp) o e
 item := by
  intro X hP hw hK hc i pins s σ H E I hf st hg
  subst hP hw hK
  obtain ⟨xs, x, hq, hx⟩ := hg
  obtain ⟨its, rv, p, hz⟩ := I.tuple hq
  obtain ⟨u, hu, ru⟩ := rv.get hx
  obtain ⟨f0, f1, f2, f3, f4, f5⟩ := hf it (by simp)
  refine wpAny_pyNext_tuple_item st (show s.heap.IsTuple a its.toArray from p) (x := u) (by simpa using hu) fun h' st' sb => ?_
  have I1 : Inv X pins σ H { s with heap := h' } := I.turned (t' := s.toks) (fun b o hb e => (sb.2 b hb).trans e) f0 f1 f3 f4 f5
  obtain ⟨o, e, c, d⟩ := id st'
  exact ⟨u, rfl, ZNm (s := { s with heap := h' }) e c d (by decide) ⟨x, H, I1, ru, ⟨rfl, fun ys hy => by rw [I.tuple_inj hy hq]; exact hx⟩, st', fun b hb => (hf b hb).1⟩⟩
 done := by
  intro X hP hw hK hc i pins s σ H E I hf st hg
  subst hP hw hK
  obtain ⟨xs, hq, hx⟩ := hg
  obtain ⟨its, rv, p, hz⟩ := I.tuple hq
  obtain ⟨f0, f1, f2, f3, f4, f5⟩ := hf it (by simp)
  have hl := rv.length
  exact wpAny_pyNext_tuple_end (I.ok.hd hc) st (show s.heap.IsTuple a its.toArray from p) (by simp; omega) fun h' eb => ⟨rfl, I.turned (t' := s.toks) (fun b o hb e => eb b o hb e) f0 f1 f3 f4 f5⟩
 self := fun _ _ _ _ _ st h => wpAny_pyIter_tupleiter st h
theorem ZNn {P : Program} {w : World} {K : W.Frag} {tg : Expr} (it : Addr) (lo : Int) (n : Nat) : ZLu P w K tg (Itr lo n) [it] it (fun i h => IsRangeIter h it (lo + (i : Nat) * 1) ((n : Int) - (i : Nat)) 1) where
 mem := by simp
 obj := fun i h st b hb => by
  have e : b = it := by simpa using hb
  subst e
  exact ⟨_, st, fun v z => by
   have z' : Data.fields _ = Data.cell v := z
   cases z'⟩
 keep := fun i h h' st k => k it (by simp) _ st
 item := by
  intro X hP hw hK hc i pins s σ H E I hf st hg
  subst hP hw hK
  obtain ⟨f0, f1, f2, f3, f4, f5⟩ := hf it (by simp)
  have W := Walks.range (prog := X.prog) (w := X.w) (I.ok.hd hc) it lo 1 n
  refine W.item i s _ _ hg st fun v h' tk hv st' kk => ?_
  obtain ⟨t, rfl⟩ := hv
  have I1 : Inv X pins σ H { s with heap := h', toks := tk } := I.turned (fun b o hb e => kk b o (by simpa using hb) e) f0 f1 f3 f4 f5
  refine ⟨_, rfl, ZNm (s := { s with heap := h', toks := tk }) (n := "range_iterator") st' rfl rfl (by decide) ⟨.int (lo + i), H, I1, ⟨t, ?_⟩, ⟨rfl, rfl⟩, st', fun b hb => (hf b hb).1⟩⟩
  rw [Int.mul_one]
 done := by
  intro X hP hw hK hc i pins s σ H E I hf st hg
  subst hP hw hK
  obtain ⟨f0, f1, f2, f3, f4, f5⟩ := hf it (by simp)
  exact wpAny_pyNext_range_end (I.ok.hd hc) st (by have : n ≤ i := hg; omega) fun h' eb => ⟨rfl, I.turned (t' := s.toks) (fun b o hb e => eb b o hb e) f0 f1 f3 f4 f5⟩
 self := fun _ _ _ _ _ st h => wpAny_pyIter_rangeiter st h
section
variable {X : Cx} {tg : Expr}
def ZLl (K : W.Frag) (tl : TE) : TI := fun σ H R => tl σ H fun x H1 => ∃ a, x = .ref a ∧ (∃ xs, SqL K H1 a xs) ∧ R (Itl K a) H1
def ZNo (K : W.Frag) (tl : TE) : TI := fun σ H R => tl σ H fun x H1 => ∃ a, x = .ref a ∧ (∃ xs, SqT K H1 a xs) ∧ R (Itt K a) H1
theorem ZSP {l : Expr} {tl : TE} (hl : PE X l tl) : PI X tg l (ZLl X.K tl) := by
 intro pins s σ H R I h
 refine thn (hl pins s σ H _ I h) fun v s1 ⟨x, H1, I1, r1, q1⟩ => ?_
 obtain ⟨a, e, ⟨xs, hq⟩, q⟩ := q1
 subst e
 cases r1
 obtain ⟨its, rv, p, hz⟩ := I1.list hq
 refine wpAny_pyIter_list p.isList ?_
 refine ⟨s1.heap.objs.size, [s1.heap.objs.size], _, _, H1, rfl, I1.kept (t' := s1.toks) fun b o e => Heap.get?_push_of_some _ e, ZK4 a _, ⟨_, Heap.get?_push_size _ rfl, rfl, rfl⟩, fun b hb => ?_, q⟩
 have e : b = s1.heap.objs.size := by simpa using hb
 subst e
 exact I1.fpOk (Nat.le_refl _) (I1.hok.fresh (Nat.le_refl _))
theorem ZUP {l : Expr} {tl : TE} (hl : PE X l tl) : PI X tg l (ZNo X.K tl) := by
 intro pins s σ H R I h
 refine thn (hl pins s σ H _ I h) fun v s1 ⟨x, H1, I1, r1, q1⟩ => ?_
 obtain ⟨a, e, ⟨xs, hq⟩, q⟩ := q1
 subst e
 cases r1
 obtain ⟨its, rv, p, hz⟩ := I1.tuple hq
 refine wpAny_pyIter_tuple (show s1.heap.IsTuple a its.toArray from p) ?_
 refine ⟨s1.heap.objs.size, [s1.heap.objs.size], _, _, H1, rfl, I1.kept (t' := s1.toks) fun b o e => Heap.get?_push_of_some _ e, ZJ3 a _, ⟨_, Heap.get?_push_size _ rfl, rfl, rfl⟩, fun b hb => ?_, q⟩
 have e : b = s1.heap.objs.size := by simpa using hb
 subst e
 exact I1.fpOk (Nat.le_refl _) (I1.hok.fresh (Nat.le_refl _))
theorem ZQI {pins : List (Addr × Obj)} {σ : St} {H : Hp} {s : Shared} {R : It → Hp → Prop} {E : Value → Shared → Prop} {lo hi : Int} {t u v : Tok} {tk : Nat} (I : Inv X pins σ H s) (h1 : -(2 ^ 62) ≤ lo) (h2 : lo < 2 ^ 62) (h3 : -(2 ^ 62) ≤ hi) (h4 : hi < 2 ^ 62)
  (q : R (Itr lo (hi - lo).toNat) H) : wpAny (model X.prog X.w) X.A (pyIter (.ref s.heap.objs.size)) (PIE X pins σ tg R) E { s with heap := s.heap.push { cls := .type "range", data := .fields #[.int lo t, .int hi u, .int 1 v] }, toks := tk } := by
 refine wpAny_pyIter_range (IsRange.new ..) (small_one h1 h2 h3 h4) ?_
 have I1 : Inv X pins σ H { s with heap := s.heap.push { cls := .type "range", data := .fields #[.int lo t, .int hi u, .int 1 v] }, toks := tk } := I.kept fun b o e => Heap.get?_push_of_some _ e
 refine ⟨(s.heap.push { cls := .type "range", data := .fields #[.int lo t, .int hi u, .int 1 v] }).objs.size, [(s.heap.push { cls := .type "range", data := .fields #[.int lo t, .int hi u, .int 1 v] }).objs.size], _, _, H, rfl,
  I1.kept (t' := tk) fun b o e => Heap.get?_push_of_some _ e, ZNn _ lo (hi - lo).toNat, ?_, fun b hb => ?_, q⟩
 ·have e1 : lo + ((0 : Nat) : Int) * 1 = lo := by simp
  have e2 : (((hi - lo).toNat : Nat) : Int) - ((0 : Nat) : Int) = Builtin.Range.rangeSize lo hi 1 := by rw [rangeSize_one]; split <;> omega
  show IsRangeIter _ _ (lo + ((0 : Nat) : Int) * 1) ((((hi - lo).toNat : Nat) : Int) - ((0 : Nat) : Int)) 1
  rw [e1, e2]
  exact Heap.get?_push_size _ rfl
 ·have e : b = (s.heap.push { cls := .type "range", data := .fields #[.int lo t, .int hi u, .int 1 v] }).objs.size := by simpa using hb
  subst e
  exact I1.fpOk (Nat.le_refl _) (I1.hok.fresh (Nat.le_refl _))
def ZNp (ta : TA) : TI := fun σ H R => ta σ H fun vs H1 => ∃ j : Int, vs = [.int j] ∧ -(2 ^ 62) ≤ j ∧ j < 2 ^ 62 ∧ R (Itr 0 j.toNat) H1
theorem ZOr {a : Expr} {ta : TA} {p pos : Pos} (hg : Gl X "range") (hm : X.mg "range" = none) (ha : PA X [a] ta) (hs : starEach [a] X.env = [(false, eval a X.env)] := by rfl) : PI X tg (.Call (.Name "range" p) [a] [] pos) (ZNp ta) := by
 intro pins s σ H R I h
 refine Call_ (ZGm I hg hm boot_range (PyProof.Rows.callWith_type1 (thn (ha pos pins s σ H _ I h) fun us s1 ⟨vs, H1, I1, r1, q1⟩ => ?_) hs rfl))
 obtain ⟨j, e, q1, q2, q⟩ := q1
 subst e
 cases r1 with
 | cons r rr =>
  cases rr
  obtain ⟨t, rfl⟩ := r
  exact call_range_1 (ZQI I1 (by omega) (by omega) q1 q2 (by simpa using q))
def ZQJ (wi : TI) (g : TG) (tb : TS) : TS := fun D σ H => wi σ H fun J H1 => ∃ W : Nat → Nat → St → Hp → Prop, (∃ m, W 0 m σ H1) ∧ ∀ i m σ H, W i m σ H →
 (J.stop i H ∧ D.nx σ H) ∨ (J.go i H ∧ ∃ N : St → Hp → Prop, (∀ σ' H', N σ' H' → ∃ m', m' < m ∧ W (i + 1) m' σ' H') ∧ ∀ x H', J.yld i H x H' → g x σ H' fun σ2 H2 => tb { D with nx := N, ct := N, bk := D.nx } σ2 H2)
def ZHs (fp : List Addr) (h : Heap) : List (Addr × Obj) := fp.filterMap fun b => (h.get? b).map fun o => (b, o)
theorem ZFp {fp : List Addr} {h : Heap} {b : Addr} {o : Obj} (hb : b ∈ fp) (e : h.get? b = some o) : (b, o) ∈ ZHs fp h := List.mem_filterMap.mpr ⟨b, hb, by rw [e]; rfl⟩
theorem ZOs {fp : List Addr} {h : Heap} {p : Addr × Obj} (hp : p ∈ ZHs fp h) : p.1 ∈ fp ∧ h.get? p.1 = some p.2 := by
 obtain ⟨b, hb, e⟩ := List.mem_filterMap.mp hp
 cases q : h.get? b with
 | none => rw [q] at e; cases e
 | some o =>
  rw [q] at e
  have e' : (b, o) = p := Option.some.inj e
  subst e'
  exact ⟨hb, q⟩
theorem Inv.pinned {pins : List (Addr × Obj)} {σ : St} {H : Hp} {s : Shared} {fp : List Addr} (I : Inv X pins σ H s) (hf : ∀ b ∈ fp, ZFD X pins H b) (ho : ∀ b ∈ fp, ∃ o, s.heap.get? b = some o ∧ ∀ v, o.data ≠ .cell v) : Inv X (pins ++ ZHs fp s.heap) σ H s :=
 I.pins_of fun p hp => (List.mem_append.mp hp).elim (fun z => I.pin p (List.mem_append_right _ z)) fun z => by
  obtain ⟨hb, e⟩ := ZOs z
  obtain ⟨f0, f1, f2, _⟩ := hf p.1 hb
  obtain ⟨o, e', d⟩ := ho p.1 hb
  rw [e] at e'; cases e'
  exact ⟨e, f0, f1, f2, d⟩
theorem Inv.unpinned {pins pl : List (Addr × Obj)} {σ : St} {H : Hp} {s : Shared} (I : Inv X (pins ++ pl) σ H s) : Inv X pins σ H s := I.pins_of fun p hp => I.pin p (List.mem_append_right _ (List.mem_append_left _ hp))
theorem ZUQ {iter : Expr} {body : List Stmt} {wi : TI} {g : TG} {tb : TS} {pos : Pos} (hp : PassesOwn (model X.prog X.w) X.A X.env X.xe) (hc : X.calm = true) (hi : PI X tg iter wi) (hg : PG X tg g) (hb : PSs X body tb)
  (hs : ∀ x, foldedSetIterable iter X.env x = pure x := by intro _; rfl) : PS X (.For tg iter body [] pos) (ZQJ wi g tb) := by
 intro pins s σ H D I h
 refine wpAny_For (thn (hi pins s σ H _ I h) fun v s1 h1 => thn h1 fun itv s2 h2 => ?_) hs
 obtain ⟨it, fp, tn, J, H2, e, I2, T, st2, f2, W, ⟨m0, w0⟩, turn⟩ := h2
 subst e
 -- what stays true of the iterator's objects through the loop
 have stat : ∀ {H' : Hp}, (∀ b ∈ fp, H' b = none) → ∀ b ∈ fp, ZFD X pins H' b := fun hn b hb => ⟨hn b hb, (f2 b hb).2⟩
 refine codeAny_forLoop_any (fun n s' => ∃ i σ' H', Inv X pins σ' H' s' ∧ tn i s'.heap ∧ (∀ b ∈ fp, H' b = none) ∧ W i n σ' H') ?_ m0 ⟨0, σ, H2, I2, st2, fun b hb => (f2 b hb).1, w0⟩
 rintro n s3 ⟨i, σ3, H3, I3, st3, fr3, w3⟩
 rcases turn i n σ3 H3 w3 with ⟨stop, qn⟩ | ⟨go, N, hN, step⟩
 ·refine wpAny_passesOwn hp (thn (T.done X rfl rfl rfl hc i pins s3 σ3 H3 X.xe I3 (stat fr3) st3 stop) fun r s4 ⟨hr, I4⟩ => ?_)
  subst hr
  exact wpAny_execs_nil ⟨σ3, H3, I4, qn⟩
 ·refine wpAny_passesOwn hp (thn (T.item X rfl rfl rfl hc i pins s3 σ3 H3 X.xe I3 (stat fr3) st3 go) fun r s4 ⟨u, hr, h4⟩ => ?_)
  subst hr
  refine wpAny_passesOwn hp (thn h4 fun _ s5 ⟨x, H5, I5, r5, y5, st5, fr5⟩ => ?_)
  have I5' := I5.pinned (stat fr5) (T.obj _ _ st5)
  refine wpAny_passesOwn hp (thn (hg _ s5 σ3 H5 x u _ I5' r5 (step x H5 y5)) fun _ s6 ⟨σ6, H6, I6, q6⟩ => ?_)
  refine wpAny_passesOwn hp (thn (hb _ s6 σ6 H6 _ I6 q6) fun f s7 q7 => ?_)
  have again : ∀ {σ7 : St} {H7 : Hp}, Inv X (pins ++ ZHs fp s5.heap) σ7 H7 s7 → N σ7 H7 → ∃ m, m < n ∧ ∃ i σ' H', Inv X pins σ' H' s7 ∧ tn i s7.heap ∧ (∀ b ∈ fp, H' b = none) ∧ W i m σ' H' := fun {σ7 H7} I7 n7 => by
   obtain ⟨m', hm, w7⟩ := hN σ7 H7 n7
   refine ⟨m', hm, i + 1, σ7, H7, I7.unpinned, T.keep _ _ _ st5 fun b hb o e => (I7.pin (b, o) (List.mem_append_right _ (List.mem_append_right _ (ZFp hb e)))).1, fun b hb => ?_, w7⟩
   obtain ⟨o, e, d⟩ := T.obj _ _ st5 b hb
   exact (I7.pin (b, o) (List.mem_append_right _ (List.mem_append_right _ (ZFp hb e)))).2.1
  cases f with
  | next => obtain ⟨σ7, H7, I7, n7⟩ := q7; exact again I7 n7
  | cont => obtain ⟨σ7, H7, I7, n7⟩ := q7; exact again I7 n7
  | brk => obtain ⟨σ7, H7, I7, q7⟩ := q7; exact ⟨σ7, H7, I7.unpinned, q7⟩
  | ret v => obtain ⟨x7, σ7, H7, I7, r7, q7⟩ := q7; exact ⟨x7, σ7, H7, I7.unpinned, r7, q7⟩
end
theorem ZQK {K : W.Frag} {a : Addr} {xs : List V} {g : TG} {tb : TS} {D : ZEp} {σ : St} {H : Hp} (Pv : Nat → St → Hp → Prop) (h0 : Pv 0 σ H) (hl : ∀ i σ H, i ≤ xs.length → Pv i σ H → SqL K H a xs)
  (hs : ∀ i x σ H, xs[i]? = some x → Pv i σ H → g x σ H fun σ2 H2 => tb { D with nx := Pv (i + 1), ct := Pv (i + 1), bk := D.nx } σ2 H2) (hd : ∀ σ H, Pv xs.length σ H → D.nx σ H) :
  ∃ W : Nat → Nat → St → Hp → Prop, (∃ m, W 0 m σ H) ∧ ∀ i m σ H, W i m σ H →
   ((Itl K a).stop i H ∧ D.nx σ H) ∨ ((Itl K a).go i H ∧ ∃ N : St → Hp → Prop, (∀ σ' H', N σ' H' → ∃ m', m' < m ∧ W (i + 1) m' σ' H') ∧ ∀ x H', (Itl K a).yld i H x H' → g x σ H' fun σ2 H2 => tb { D with nx := N, ct := N, bk := D.nx } σ2 H2) := by
 refine ⟨fun i m σ H => m = xs.length - i ∧ i ≤ xs.length ∧ Pv i σ H, ⟨xs.length, by simp, Nat.zero_le _, h0⟩, ?_⟩
 rintro i m σ H ⟨rfl, hi, p⟩
 have q := hl i σ H hi p
 by_cases hlt : i < xs.length
 ·refine .inr ⟨⟨xs, xs[i], q, by simp [hlt]⟩, Pv (i + 1), fun σ' H' p' => ⟨xs.length - (i + 1), by omega, rfl, hlt, p'⟩, fun x H' y => ?_⟩
  obtain ⟨e, y⟩ := y
  subst e
  exact hs i x σ _ (y xs q) p
 ·have e : i = xs.length := by omega
  subst e
  exact .inl ⟨⟨xs, q, Nat.le_refl _⟩, hd σ H p⟩
theorem ZSQ {K : W.Frag} {a : Addr} {xs : List V} {g : TG} {tb : TS} {D : ZEp} {σ : St} {H : Hp} (Pv : Nat → St → Hp → Prop) (h0 : Pv 0 σ H) (hl : ∀ i σ H, i ≤ xs.length → Pv i σ H → SqT K H a xs)
  (hs : ∀ i x σ H, xs[i]? = some x → Pv i σ H → g x σ H fun σ2 H2 => tb { D with nx := Pv (i + 1), ct := Pv (i + 1), bk := D.nx } σ2 H2) (hd : ∀ σ H, Pv xs.length σ H → D.nx σ H) :
  ∃ W : Nat → Nat → St → Hp → Prop, (∃ m, W 0 m σ H) ∧ ∀ i m σ H, W i m σ H →
   ((Itt K a).stop i H ∧ D.nx σ H) ∨ ((Itt K a).go i H ∧ ∃ N : St → Hp → Prop, (∀ σ' H', N σ' H' → ∃ m', m' < m ∧ W (i + 1) m' σ' H') ∧ ∀ x H', (Itt K a).yld i H x H' → g x σ H' fun σ2 H2 => tb { D with nx := N, ct := N, bk := D.nx } σ2 H2) := by
 refine ⟨fun i m σ H => m = xs.length - i ∧ i ≤ xs.length ∧ Pv i σ H, ⟨xs.length, by simp, Nat.zero_le _, h0⟩, ?_⟩
 rintro i m σ H ⟨rfl, hi, p⟩
 have q := hl i σ H hi p
 by_cases hlt : i < xs.length
 ·refine .inr ⟨⟨xs, xs[i], q, by simp [hlt]⟩, Pv (i + 1), fun σ' H' p' => ⟨xs.length - (i + 1), by omega, rfl, hlt, p'⟩, fun x H' y => ?_⟩
  obtain ⟨e, y⟩ := y
  subst e
  exact hs i x σ _ (y xs q) p
 ·have e : i = xs.length := by omega
  subst e
  exact .inl ⟨⟨xs, q, Nat.le_refl _⟩, hd σ H p⟩
theorem ZOt {lo : Int} {n : Nat} {g : TG} {tb : TS} {D : ZEp} {σ : St} {H : Hp} (Pv : Nat → St → Hp → Prop) (h0 : Pv 0 σ H)
  (hs : ∀ i σ H, i < n → Pv i σ H → g (.int (lo + i)) σ H fun σ2 H2 => tb { D with nx := Pv (i + 1), ct := Pv (i + 1), bk := D.nx } σ2 H2) (hd : ∀ σ H, Pv n σ H → D.nx σ H) :
  ∃ W : Nat → Nat → St → Hp → Prop, (∃ m, W 0 m σ H) ∧ ∀ i m σ H, W i m σ H →
   ((Itr lo n).stop i H ∧ D.nx σ H) ∨ ((Itr lo n).go i H ∧ ∃ N : St → Hp → Prop, (∀ σ' H', N σ' H' → ∃ m', m' < m ∧ W (i + 1) m' σ' H') ∧ ∀ x H', (Itr lo n).yld i H x H' → g x σ H' fun σ2 H2 => tb { D with nx := N, ct := N, bk := D.nx } σ2 H2) := by
 refine ⟨fun i m σ H => m = n - i ∧ i ≤ n ∧ Pv i σ H, ⟨n, by simp, Nat.zero_le _, h0⟩, ?_⟩
 rintro i m σ H ⟨rfl, hi, p⟩
 by_cases hlt : i < n
 ·refine .inr ⟨hlt, Pv (i + 1), fun σ' H' p' => ⟨n - (i + 1), by omega, rfl, hlt, p'⟩, fun x H' y => ?_⟩
  obtain ⟨e, y⟩ := y
  subst e y
  exact hs i σ _ hlt p
 ·have e : i = n := by omega
  subst e
  exact .inl ⟨Nat.le_refl _, hd σ H p⟩
abbrev R2 := V → V → Hp → VK → Prop
def OpR (X : Cx) (f : Value → Value → Sem Value) (r : R2) : Prop :=
 ∀ (pins : List (Addr × Obj)) (s : Shared) (σ : St) (H : Hp) (x y : V) (v u : Value) (Q : VK), Inv X pins σ H s → ZDy x v → ZDy y u → r x y H Q →
  wpAny (model X.prog X.w) X.A (f v u) (EP X pins σ Q) X.xe s
def UnR (X : Cx) (f : Value → Sem Value) (r : V → Hp → VK → Prop) : Prop :=
 ∀ (pins : List (Addr × Obj)) (s : Shared) (σ : St) (H : Hp) (x : V) (v : Value) (Q : VK), Inv X pins σ H s → ZDy x v → r x H Q →
  wpAny (model X.prog X.w) X.A (f v) (EP X pins σ Q) X.xe s
def ZEq (X : Cx) (f : Value) (r : List V → Hp → VK → Prop) : Prop :=
 ∀ (pins : List (Addr × Obj)) (s : Shared) (σ : St) (H : Hp) (xs : List V) (us : List Value) (Q : VK), Inv X pins σ H s → ZD0 xs us → r xs H Q →
  wpAny (model X.prog X.w) X.A (call f us) (EP X pins σ Q) X.xe s
def tOp (r : R2) (ta tb : TE) : TE := fun σ H Q => ta σ H fun x H1 => tb σ H1 fun y H2 => r x y H2 Q
def tUn (r : V → Hp → VK → Prop) (ta : TE) : TE := fun σ H Q => ta σ H fun x H1 => r x H1 Q
def rI (C : Int → Int → Prop) (g : Int → Int → V) : R2 := fun x y H Q => ∃ i j, x = .int i ∧ y = .int j ∧ C i j ∧ Q (g i j) H
def rI0 (g : Int → Int → V) : R2 := fun x y H Q => ∃ i j, x = .int i ∧ y = .int j ∧ Q (g i j) H
def rU (g : Int → V) : V → Hp → VK → Prop := fun x H Q => ∃ i, x = .int i ∧ Q (g i) H
section
variable {X : Cx} {a b c : Expr} {ta tb tc : TE} {pos : Pos}
theorem ZQL (ha : PE X a ta) (hb : PE X b tb) {pins : List (Addr × Obj)} {s : Shared} {σ : St} {H : Hp} {R : V → V → Hp → Prop} (I : Inv X pins σ H s)
  (h : ta σ H fun x H1 => tb σ H1 fun y H2 => R x y H2) {Q : Value → Shared → Prop} {f : Value → Value → Sem Value}
  (hf : ∀ v u s2 x y H2, Inv X pins σ H2 s2 → ZDy x v → ZDy y u → R x y H2 → wpAny (model X.prog X.w) X.A (f v u) Q X.xe s2) :
  wpAny (model X.prog X.w) X.A (eval a X.env) (fun v s₁ => wpAny (model X.prog X.w) X.A (eval b X.env) (fun u s₂ => wpAny (model X.prog X.w) X.A (f v u) Q X.xe s₂) X.xe s₁) X.xe s := by
 refine thn (ha pins s σ H _ I h) fun v s1 ⟨x, H1, I1, r1, q1⟩ => ?_
 refine thn (hb pins s1 σ H1 _ I1 q1) fun u s2 ⟨y, H2, I2, r2, q2⟩ => ?_
 exact hf v u s2 x y H2 I2 r1 r2 q2
theorem ZVj {op : Operator} {r : R2} (ho : OpR X (binaryOp op) r) (ha : PE X a ta) (hb : PE X b tb) : PE X (.BinOp a op b pos) (tOp r ta tb) := by
 intro pins s σ H Q I h
 exact wpAny_BinOp (ZQL ha hb I h fun v u s2 x y H2 I2 rx ry q => ho pins s2 σ H2 x y v u Q I2 rx ry q)
theorem ZVk {op : UnaryOp} {r : V → Hp → VK → Prop} (ho : UnR X (unaryOp op) r) (ha : PE X a ta) : PE X (.UnaryOp op a pos) (tUn r ta) := by
 intro pins s σ H Q I h
 exact UnaryOp_ (thn (ha pins s σ H _ I h) fun v s1 ⟨x, H1, I1, r1, q1⟩ => ho pins s1 σ H1 x v Q I1 r1 q1)
theorem opI {f : Value → Value → Sem Value} {C : Int → Int → Prop} {g : Int → Int → Int}
  (rule : ∀ (i j : Int) (t u : Tok) (s : Shared) (Q : Value → Shared → Prop) (E : Value → Shared → Prop), C i j → Q (.int (g i j) s.toks) { s with toks := s.toks + 1 } → wpAny (model X.prog X.w) X.A (f (.int i t) (.int j u)) Q E s) :
  OpR X f (rI C fun i j => .int (g i j)) := by
 intro pins s σ H x y v u Q I rx ry h
 obtain ⟨i, j, rfl, rfl, hc, q⟩ := h
 obtain ⟨t, rfl⟩ := rx
 obtain ⟨t', rfl⟩ := ry
 exact rule i j t t' s _ _ hc ⟨.int (g i j), H, I.tok _, ⟨_, rfl⟩, q⟩
theorem ZQM {f : Value → Value → Sem Value} {g : Int → Int → Int}
  (rule : ∀ (i j : Int) (t u : Tok) (s : Shared) (Q : Value → Shared → Prop) (E : Value → Shared → Prop), Q (.int (g i j) s.toks) { s with toks := s.toks + 1 } → wpAny (model X.prog X.w) X.A (f (.int i t) (.int j u)) Q E s) :
  OpR X f (rI0 fun i j => .int (g i j)) := by
 intro pins s σ H x y v u Q I rx ry h
 obtain ⟨i, j, rfl, rfl, q⟩ := h
 obtain ⟨t, rfl⟩ := rx
 obtain ⟨t', rfl⟩ := ry
 exact rule i j t t' s _ _ ⟨.int (g i j), H, I.tok _, ⟨_, rfl⟩, q⟩
theorem ZNq {f : Value → Value → Sem Value} {g : Int → Int → Bool}
  (rule : ∀ (i j : Int) (t u : Tok) (s : Shared) (Q : Value → Shared → Prop) (E : Value → Shared → Prop), Q (.bool (g i j)) s → wpAny (model X.prog X.w) X.A (f (.int i t) (.int j u)) Q E s) :
  OpR X f (rI0 fun i j => .bl (g i j)) := by
 intro pins s σ H x y v u Q I rx ry h
 obtain ⟨i, j, rfl, rfl, q⟩ := h
 obtain ⟨t, rfl⟩ := rx
 obtain ⟨t', rfl⟩ := ry
 exact rule i j t t' s _ _ ⟨.bl (g i j), H, I, rfl, q⟩
def ZQN (i j : Int) : Prop := 0 ≤ j ∧ j ≤ 1000000 ∧ i.natAbs < 2 ^ 64
def ZQO (i j : Int) : Prop := (-(2 ^ 64) < i ∧ i < 2 ^ 64) ∨ (-(2 ^ 64) < j ∧ j < 2 ^ 64)
theorem ZQO.ok {i j : Int} (h : ZQO i j) : IntMulOk i j := by
 rcases h with ⟨h1, h2⟩ | ⟨h1, h2⟩
 ·exact .of_left (intBits_le_64 h1 h2)
 ·exact .of_right (intBits_le_64 h1 h2)
theorem ZEN : OpR X (binaryOp .Add) (rI0 fun i j => .int (i + j)) := ZQM fun _ _ _ _ _ _ _ q => add_int q
theorem ZE6 : OpR X (binaryOp .Sub) (rI0 fun i j => .int (i - j)) := ZQM fun _ _ _ _ _ _ _ q => sub_int q
theorem ZGF : OpR X (binaryOp .Mod) (rI (fun _ j => 0 < j) fun i j => .int (i % j)) := opI fun i j _ _ _ _ _ hc q => by
 have h1 : (0 : Int) < j := hc
 exact mod_int' (by omega) (by rw [Int.fmod_eq_emod_of_nonneg i (by omega)]; exact q)
theorem ZOu : OpR X (binaryOp .Pow) (rI ZQN fun i j => .int (i ^ j.toNat)) := opI fun _ _ _ _ _ _ _ hc q => pow_int_small hc.1 hc.2.1 hc.2.2 q
theorem ZNK : OpR X (inplaceOp .Add) (rI0 fun i j => .int (i + j)) := ZQM fun _ _ _ _ _ _ _ q => iadd_int q
theorem ZSR : OpR X (inplaceOp .Mult) (rI ZQO fun i j => .int (i * j)) := opI fun _ _ _ _ _ _ _ hc q => imul_int q hc.ok
theorem unI {f : Value → Sem Value} {g : Int → Int}
  (rule : ∀ (i : Int) (t : Tok) (s : Shared) (Q : Value → Shared → Prop) (E : Value → Shared → Prop), Q (.int (g i) s.toks) { s with toks := s.toks + 1 } → wpAny (model X.prog X.w) X.A (f (.int i t)) Q E s) :
  UnR X f (rU fun i => .int (g i)) := by
 intro pins s σ H x v Q I rx h
 obtain ⟨i, rfl, q⟩ := h
 obtain ⟨t, rfl⟩ := rx
 exact rule i t s _ _ ⟨.int (g i), H, I.tok _, ⟨_, rfl⟩, q⟩
theorem ZLv : UnR X (unaryOp .USub) (rU fun i => .int (-i)) := unI fun _ _ _ _ _ q => neg_int q
end
def ZV6 : V → V → Bool
 | .non, .non => true | .non, .int _ => true | .int _, .non => true | .non, .bl _ => true | .bl _, .non => true | .non, .str _ => true | .str _, .non => true
 | .int _, .int _ => true | .bl _, .bl _ => true | .str _, .str _ => true | .byt _, .byt _ => true
 | .int _, .str _ => true | .str _, .int _ => true | .bl _, .str _ => true | .str _, .bl _ => true
 | _, _ => false
def rEq : R2 := fun x y H Q => ZV6 x y = true ∧ Q (.bl (decide (x = y))) H
theorem ZSS {i j : Int} : decide (V.int i = V.int j) = (i == j) := by
 rw [Bool.eq_iff_iff]
 simp
theorem ZUR {i j : Bool} : decide (V.bl i = V.bl j) = (i == j) := by
 rw [Bool.eq_iff_iff]
 simp
theorem ZST {i j : Str} : decide (V.str i = V.str j) = (i == j) := by
 rw [Bool.eq_iff_iff]
 simp
theorem ZSU {i j : Array UInt8} : decide (V.byt i = V.byt j) = (i.toList == j.toList) := by
 rw [Bool.eq_iff_iff]
 cases i
 cases j
 simp
section
variable {X : Cx} {a b c : Expr} {ta tb tc : TE} {pos : Pos}
theorem ZEt {pins : List (Addr × Obj)} {σ : St} {H : Hp} {s : Shared} {Q : VK} {k k' : Bool} (I : Inv X pins σ H s) (q : Q (.bl k) H) (e : k = k') : EP X pins σ Q (.bool k') s := by
 subst e
 exact ⟨.bl k, H, I, rfl, q⟩
theorem ZGG : OpR X (compareOp .Eq) rEq := by
 intro pins s σ H x y v u Q I rx ry h
 obtain ⟨hs, q⟩ := h
 cases x with
 | non =>
  cases rx
  cases y with
  | non => cases ry; exact PySem.EqNone.eq_none_none (ZEt I q (by simp))
  | bl j => cases ry; exact PySem.EqNone.eq_none_bool (ZEt I q (by simp))
  | int j => obtain ⟨t', rfl⟩ := ry; exact PySem.EqNone.eq_none_int (ZEt I q (by simp))
  | str j => obtain ⟨t', rfl⟩ := ry; exact PySem.EqNone.eq_none_str (ZEt I q (by simp))
  | _ => exact absurd (show false = true from hs) Bool.false_ne_true
 | bl i =>
  cases rx
  cases y with
  | non => cases ry; exact PySem.EqNone.eq_bool_none (ZEt I q (by simp))
  | bl j => cases ry; exact eq_bool (ZEt I q ZUR)
  | str j => obtain ⟨t', rfl⟩ := ry; exact PySem.EqMixed.eq_bool_str (ZEt I q (by simp))
  | _ => exact absurd (show false = true from hs) Bool.false_ne_true
 | int i =>
  obtain ⟨t, rfl⟩ := rx
  cases y with
  | non => cases ry; exact PySem.EqNone.eq_int_none (ZEt I q (by simp))
  | int j => obtain ⟨t', rfl⟩ := ry; exact eq_int (ZEt I q ZSS)
  | str j => obtain ⟨t', rfl⟩ := ry; exact PySem.EqMixed.eq_int_str (ZEt I q (by simp))
  | _ => exact absurd (show false = true from hs) Bool.false_ne_true
 | str i =>
  obtain ⟨t, rfl⟩ := rx
  cases y with
  | non => cases ry; exact PySem.EqNone.eq_str_none (ZEt I q (by simp))
  | bl j => cases ry; exact PySem.EqMixed.eq_str_bool (ZEt I q (by simp))
  | int j => obtain ⟨t', rfl⟩ := ry; exact PySem.EqMixed.eq_str_int (ZEt I q (by simp))
  | str j => obtain ⟨t', rfl⟩ := ry; exact eq_str (ZEt I q ZST)
  | _ => exact absurd (show false = true from hs) Bool.false_ne_true
 | byt i =>
  obtain ⟨t, rfl⟩ := rx
  cases y with
  | byt j => obtain ⟨t', rfl⟩ := ry; exact PySem.W.eq_bytes (ZEt I q ZSU)
  | _ => exact absurd (show false = true from hs) Bool.false_ne_true
 | _ => cases y <;> exact absurd (show false = true from hs) Bool.false_ne_true
theorem ZF0 : OpR X (compareOp .Lt) (rI0 fun i j => .bl (decide (i < j))) := ZNq fun _ _ _ _ _ _ _ q => lt_int q
theorem ZGh : OpR X (compareOp .LtE) (rI0 fun i j => .bl (decide (i ≤ j))) := ZNq fun _ _ _ _ _ _ _ q => le_int q
theorem ZVl : OpR X (compareOp .Gt) (rI0 fun i j => .bl (decide (j < i))) := ZNq fun _ _ _ _ _ _ _ q => gt_int q
theorem ZRy : OpR X (compareOp .GtE) (rI0 fun i j => .bl (decide (j ≤ i))) := ZNq fun _ _ _ _ _ _ _ q => ge_int q
theorem ZUS : OpR X (compareOp .Is) (fun x y H Q => y = .non ∧ Q (.bl (decide (x = .non))) H) := by
 intro pins s σ H x y v u Q I rx ry h
 obtain ⟨rfl, q⟩ := h
 cases ry
 refine is_none_gen (ZEt I q ?_)
 cases x <;> first
  | (cases rx; rfl)
  | (obtain ⟨t, rfl⟩ := rx; rfl)
theorem ZSV : OpR X (compareOp .IsNot) (fun x y H Q => y = .non ∧ Q (.bl (!decide (x = .non))) H) := by
 intro pins s σ H x y v u Q I rx ry h
 obtain ⟨rfl, q⟩ := h
 cases ry
 refine isnot_none_gen (ZEt I q ?_)
 cases x <;> first
  | (cases rx; rfl)
  | (obtain ⟨t, rfl⟩ := rx; rfl)
theorem ZEB (b : Expr) {op : CmpOp} (h : op ≠ .In := by decide) (h2 : op ≠ .NotIn := by decide) : behindInMarks op b = false := by
 have e1 : (op == CmpOp.In) = false := by cases op <;> first | rfl | exact absurd rfl h
 have e2 : (op == CmpOp.NotIn) = false := by cases op <;> first | rfl | exact absurd rfl h2
 cases b <;> simp [behindInMarks, e1, e2]
theorem ZSW {op : CmpOp} {r : R2} (ho : OpR X (compareOp op) r) (ha : PE X a ta) (hb : PE X b tb) (hm : behindInMarks op b = false) : PE X (.Compare a [op] [b] pos) (tOp r ta tb) := by
 intro pins s σ H Q I h
 exact wpAny_Compare1 (ZQL ha hb I h fun v u s2 x y H2 I2 rx ry q => ho pins s2 σ H2 x y v u Q I2 rx ry q) hm
def ZJ4 (t : TE) : TT := fun σ H Q => t σ H fun x H' => ∃ k, x = .bl k ∧ Q k H'
theorem ZSX {op : CmpOp} {r : R2} (ho : OpR X (compareOp op) r) (ha : PE X a ta) (hb : PE X b tb) (hm : behindInMarks op b = false) : PT X (.Compare a [op] [b] pos) (ZJ4 (tOp r ta tb)) := by
 intro pins s σ H Q I h
 refine wpAny_isTrue_Compare1 (thn (ha pins s σ H _ I h) fun v s1 ⟨x, H1, I1, r1, q1⟩ => thn (hb pins s1 σ H1 _ I1 q1) fun u s2 ⟨y, H2, I2, r2, q2⟩ =>
  thn (ho pins s2 σ H2 x y v u _ I2 r1 r2 q2) fun c s3 ⟨z, H3, I3, r3, k, e, q3⟩ => ?_) hm
 subst e
 cases r3
 exact wpAny_truthy_bool ⟨H3, I3, q3⟩
def ZIg (r r' : R2) (ta tb tc : TE) : TE := fun σ H Q => ta σ H fun x H1 => tb σ H1 fun y H2 => r x y H2 fun z H3 => ∃ k, z = .bl k ∧
 (if k = true then tc σ H3 fun w' H4 => r' y w' H4 Q else Q (.bl false) H3)
theorem ZQP {op op' : CmpOp} {r r' : R2} (ho : OpR X (compareOp op) r) (ho' : OpR X (compareOp op') r') (ha : PE X a ta) (hb : PE X b tb) (hc : PE X c tc)
  (hm : lastMarks [op, op'] [b, c] = false := by with_unfolding_all rfl) : PE X (.Compare a [op, op'] [b, c] pos) (ZIg r r' ta tb tc) := by
 intro pins s σ H Q I h
 refine Compare_chain (thn (ha pins s σ H _ I h) fun v s1 ⟨x, H1, I1, r1, q1⟩ => chain_link (thn (hb pins s1 σ H1 _ I1 q1) fun u s2 ⟨y, H2, I2, r2, q2⟩ =>
  thn (ho pins s2 σ H2 x y v u _ I2 r1 r2 q2) fun d s3 ⟨z, H3, I3, r3, k, e, q3⟩ => ?_)) hm
 subst e
 cases r3
 refine wpAny_truthy_bool ?_
 cases k with
 | false => exact ite_ff ⟨.bl false, H3, I3, rfl, q3⟩
 | true => exact ite_tt (chain_last (thn (hc pins s3 σ H3 _ I3 q3) fun w' s4 ⟨z', H4, I4, r4, q4⟩ => ho' pins s4 σ H4 y z' u w' Q I4 r2 r4 q4))
theorem ZQQ {op op' : CmpOp} {r r' : R2} (ho : OpR X (compareOp op) r) (ho' : OpR X (compareOp op') r') (ha : PE X a ta) (hb : PE X b tb) (hc : PE X c tc)
  (hm : lastMarks [op, op'] [b, c] = false := by with_unfolding_all rfl) : PT X (.Compare a [op, op'] [b, c] pos) (ZJ4 (ZIg r r' ta tb tc)) := by
 intro pins s σ H Q I h
 refine isTrue_chain (thn (ha pins s σ H _ I h) fun v s1 ⟨x, H1, I1, r1, q1⟩ => test_link (thn (hb pins s1 σ H1 _ I1 q1) fun u s2 ⟨y, H2, I2, r2, q2⟩ =>
  thn (ho pins s2 σ H2 x y v u _ I2 r1 r2 q2) fun d s3 ⟨z, H3, I3, r3, k, e, q3⟩ => ?_)) hm
 subst e
 cases r3
 refine wpAny_truthy_bool ?_
 cases k with
 | false =>
  obtain ⟨k', e', q'⟩ := q3
  cases e'
  exact ite_ff ⟨H3, I3, q'⟩
 | true =>
  refine ite_tt (test_last (thn (hc pins s3 σ H3 _ I3 q3) fun w' s4 ⟨z', H4, I4, r4, q4⟩ => thn (ho' pins s4 σ H4 y z' u w' _ I4 r2 r4 q4) fun d' s5 ⟨z2, H5, I5, r5, k2, e2, q5⟩ => ?_))
  subst e2
  cases r5
  exact wpAny_truthy_bool ⟨H5, I5, q5⟩
theorem ZJ5 : (sizeLine : Nat) < 2 ^ 63 := by rw [sizeLine_eq]; decide
theorem ZNr {x : V} {us : List Value} (r : ZD0 [x] us) : ∃ u, us = [u] ∧ ZDy x u := by
 cases r with
 | cons r1 r2 => cases r2; exact ⟨_, rfl, r1⟩
theorem ZRz {x y : V} {us : List Value} (r : ZD0 [x, y] us) : ∃ u w', us = [u, w'] ∧ ZDy x u ∧ ZDy y w' := by
 cases r with
 | cons r1 r2 =>
  cases r2 with
  | cons r3 r4 => cases r4; exact ⟨_, _, rfl, r1, r3⟩
theorem ZQR : ZEq X (.builtin "abs") (fun xs H Q => ∃ i, xs = [.int i] ∧ Q (.int (if i < 0 then -i else i)) H) := by
 intro pins s σ H xs us Q I r h
 obtain ⟨i, rfl, q⟩ := h
 obtain ⟨u, rfl, t, rfl⟩ := ZNr r
 exact call_abs_int fun u tk => ⟨.int (if i < 0 then -i else i), H, I.tok _, ⟨_, rfl⟩, q⟩
theorem ZOv (hc : X.calm = true) : ZEq X (.builtin "max") (fun xs H Q => ∃ i j, xs = [.int i, .int j] ∧ Q (.int (if j > i then j else i)) H) := by
 intro pins s σ H xs us Q I r h
 obtain ⟨i, j, rfl, q⟩ := h
 obtain ⟨u, w', rfl, ⟨t, rfl⟩, ⟨t', rfl⟩⟩ := ZRz r
 refine max_two_ints (I.ok.hd hc) fun h' tk k => ⟨_, H, I.kept k, ?_, q⟩
 by_cases hj : j > i
 ·rw [if_pos hj, if_pos hj]; exact ⟨_, rfl⟩
 ·rw [if_neg hj, if_neg hj]; exact ⟨_, rfl⟩
theorem ZOw (hc : X.calm = true) : ZEq X (.builtin "min") (fun xs H Q => ∃ i j, xs = [.int i, .int j] ∧ Q (.int (if j < i then j else i)) H) := by
 intro pins s σ H xs us Q I r h
 obtain ⟨i, j, rfl, q⟩ := h
 obtain ⟨u, w', rfl, ⟨t, rfl⟩, ⟨t', rfl⟩⟩ := ZRz r
 refine min_two_ints (I.ok.hd hc) fun h' tk k => ⟨_, H, I.kept k, ?_, q⟩
 by_cases hj : j < i
 ·rw [if_pos hj, if_pos hj]; exact ⟨_, rfl⟩
 ·rw [if_neg hj, if_neg hj]; exact ⟨_, rfl⟩
end
structure ZJZ (h : Heap) (x dx C : Addr) (mA : Str → Option Value) : Prop where
 obj : h.get? x = some (PySem.W.instObj C dx)
 ns : h.Ns1 dx mA
 ne : dx ≠ x
theorem ZOx {h : Heap} {dx : Addr} {mA : Str → Option Value} (n : h.Ns1 dx mA) : ∃ od, h.get? dx = some od ∧ ∀ name, PySem.W.lookIn name od = some (mA name) := by
 obtain ⟨o, es, ep, ho, hd, hk, _, hm⟩ := n
 refine ⟨o, ho, fun name => ?_⟩
 have e := hm name
 unfold nsFind findBy at e
 rw [← Array.find?_toList] at e
 unfold PySem.W.lookIn
 rw [hd]
 dsimp only
 split
 ·rename_i y q
  rw [q] at e
  exact congrArg some e
 ·rename_i q
  rw [q] at e
  have a : es.toList.any (·.refKey) = false := by
   rw [List.any_eq_false]
   intro y hy
   obtain ⟨z, t, hkey⟩ := hk y (Array.mem_toList_iff.mp hy)
   simp [DictEntry.refKey, hkey]
  have a' : ¬ es.toList.any (·.refKey) = true := by rw [a]; exact Bool.false_ne_true
  rw [if_neg a']
  exact congrArg some e
theorem ZJZ.look {h : Heap} {x dx C : Addr} {mA : Str → Option Value} (I : ZJZ h x dx C mA) : ∃ od, PySem.W.InstAt h x (PySem.W.instObj C dx) C (some od) ∧ ∀ name, PySem.W.lookIn name od = some (mA name) :=
 let ⟨od, ho, hl⟩ := ZOx I.ns
 ⟨od, ⟨I.obj, rfl, rfl, ho⟩, hl⟩
section
variable {prog : Program} {w : World} {A : Around} {E : Value → Shared → Prop} {s : Shared} {K : W.Frag} {x dx C f : Addr} {mA : Str → Option Value} {name : Str} {v : Value}
theorem ZSY {expr : Bool} {Q : Value → Shared → Prop} (X : K.In s.heap) (I : ZJZ s.heap x dx C mA) (hg : PySem.W.plainGet K C name = true) (hh : PySem.W.hasDictIn K C = true)
  (ha : W.findIn K (.ref C) name = some none) (hv : mA name = some v) (hv' : PySem.W.handedIn v = true) (h : Q v { s with toks := s.toks + 1 }) :
  wpAny (model prog w) A (getAttr (.ref x) name expr) Q E s := by
 obtain ⟨od, J, hl⟩ := I.look
 exact PySem.W.get_value X J (PySem.W.plainGet_of hg).1 (PySem.W.findObj_own hh ha rfl (by rw [hl, hv])) hv' h
theorem ZQS {pl : Sem Bool} {Q : Value × List Value → Shared → Prop} (X : K.In s.heap) (I : ZJZ s.heap x dx C mA) (hg : PySem.W.plainGet K C name = true)
  (hf : W.findIn K (.ref C) name = some (some (.ref f))) (ht : PySem.W.isFn K (.ref f) = true) (hv : mA name = none) (h : Q (.ref f, [.ref x]) s) :
  wpAny (model prog w) A (getMethod (.ref x) name pl) Q E s := by
 obtain ⟨od, J, hl⟩ := I.look
 exact PySem.W.method_fn X J (PySem.W.plainGet_of hg).1 (PySem.W.plainGet_of hg).2 hf (beq_iff_eq.mp ht) (by show (PySem.W.lookIn name od).map (·.isSome) = some false; rw [hl, hv]; rfl) h
theorem ZSZ {ns : List Str} {Q : Unit → Shared → Prop} (X : K.In s.heap) (I : ZJZ s.heap x dx C mA)
  (hs : W.findIn K (.ref C) "__setattr__" = some (some (.builtin "object.__setattr__"))) (hp : PySem.W.plainOver K C = true) (ht : PySem.W.takerIn K C name = some none) (hh : PySem.W.hasDictIn K C = true)
  (hw : PySem.Within mA ns) (hsz : ns.length ≤ sizeLine)
  (h : ∀ h', ZJZ h' x dx C (fun y => if y = name then some v else mA y) → Heap.SameBut dx s.heap h' → Q () { s with heap := h', toks := s.toks + 2 }) :
  wpAny (model prog w) A (setAttr (.ref x) name v) Q E s := by
 obtain ⟨od, J, hl⟩ := I.look
 refine PySem.W.set_plain X J hs (PySem.W.osa_open (s := { s with toks := s.toks + 1 }) (r := none) X J hp ht fun b => ?_)
 obtain ⟨cd, hc, hd'⟩ := PySem.W.any_some hh
 have hx : s.heap.get? x = some ⟨.ref C, some dx, .plain, #[]⟩ := I.obj
 refine wpAny_bind (wpAny_pure (wpAny_bind (wpAny_bind (wpAny_loadPart hx (wpAny_bind (PySem.W.Looks.here (s := { s with toks := s.toks + 1 }) (PySem.W.looks_clsIn X hc) ?_))))))
 rw [hd']
 refine wpAny_pure (a := some dx) (wpAny_bind (wpAny_pure (wpAny_bind ?_)))
 refine wpAny_nsSet1 (s := { s with toks := s.toks + 1 }) I.ns fun h' hn2 hs2 => ?_
 obtain ⟨oD, esD, epD, hoD, hdD, hcD⟩ := hn2.count (PySem.Within.cons name v hw)
 refine wpAny_bind (wpAny_lookBehind hoD (by rw [hdD]; exact pastItsLine_dict (Nat.le_trans hcD (by rw [List.length_cons]; omega))) ?_)
 exact wpAny_pure (h _ ⟨(hs2.2 _ (Ne.symm I.ne)).trans I.obj, hn2, I.ne⟩ hs2)
theorem ZQT {R : Result → Shared → Prop} {vs : List Value} {kw : List (Str × Value)} (X : K.In s.heap) (hm : PySem.W.makesIn K C = true)
  (hi : W.findIn K (.ref C) "__init__" = some (some (.ref f))) (hf : PySem.W.typeIn K (.ref f) = some (.type "function"))
  (h : codeAny (model prog w) (A.under (.builtin "type.__call__" ⟨.ref C :: vs, kw⟩)) (.call (.ref f) ⟨.ref (s.heap.objs.size + 1) :: vs, kw⟩) (PySem.W.InitBack (s.heap.objs.size + 1) R)
   { s with heap := (s.heap.push PySem.W.emptyDict).push (PySem.W.instObj C s.heap.objs.size) }) :
  codeAny (model prog w) A (.call (.ref C) ⟨vs, kw⟩) R s := by
 obtain ⟨hh, g, d, t, os⟩ := s
 exact PySem.W.make_core (PySem.W.makes_of X hm) (PySem.W.looks_findIn X hi) (fun self => PySem.W.bind_fn X self hf) (.inl rfl) h
end
def ZD9 (f : Str) (v : V) : List (Str × V) → List (Str × V)
 | [] => [(f, v)]
 | (g, x) :: r => if g = f then (g, v) :: r else (g, x) :: ZD9 f v r
theorem ZJL (f g : Str) (v : V) : ∀ fs : List (Str × V), (ZD9 f v fs).lookup g = if g = f then some v else fs.lookup g
 | [] => by
  show List.lookup g [(f, v)] = _
  by_cases h : g = f
  ·have hb : (g == f) = true := beq_iff_eq.mpr h
   simp only [List.lookup, hb, if_pos h]
  ·have hb : (g == f) = false := beq_eq_false_iff_ne.mpr h
   simp only [List.lookup, hb, if_neg h]
 | (k, x) :: r => by
  have ih := ZJL f g v r
  rw [show ZD9 f v ((k, x) :: r) = (if k = f then (k, v) :: r else (k, x) :: ZD9 f v r) from rfl]
  by_cases hk : k = f
  ·rw [if_pos hk]
   by_cases h : g = k
   ·have hb : (g == k) = true := beq_iff_eq.mpr h
    simp only [List.lookup, hb, if_pos (h.trans hk)]
   ·have hb : (g == k) = false := beq_eq_false_iff_ne.mpr h
    simp only [List.lookup, hb, if_neg (fun e : g = f => h (e.trans hk.symm))]
  ·rw [if_neg hk]
   by_cases h : g = k
   ·have hb : (g == k) = true := beq_iff_eq.mpr h
    simp only [List.lookup, hb, if_neg (fun e : g = f => hk (h.symm.trans e))]
   ·have hb : (g == k) = false := beq_eq_false_iff_ne.mpr h
    simp only [List.lookup, hb]
    exact ih
theorem ZIh (f : Str) (v : V) : ∀ fs : List (Str × V), f ∈ (ZD9 f v fs).map (·.1) ∧ ∀ g, g ∈ fs.map (·.1) → g ∈ (ZD9 f v fs).map (·.1)
 | [] => ⟨by simp [ZD9], fun g h => by simp at h⟩
 | (k, x) :: r => by
  obtain ⟨i1, i2⟩ := ZIh f v r
  rw [show ZD9 f v ((k, x) :: r) = (if k = f then (k, v) :: r else (k, x) :: ZD9 f v r) from rfl]
  by_cases hk : k = f
  ·rw [if_pos hk]
   subst hk
   exact ⟨by simp, fun g h => by simpa using h⟩
  ·rw [if_neg hk]
   refine ⟨?_, fun g h => ?_⟩
   ·rw [List.map_cons]
    exact List.mem_cons_of_mem _ i1
   ·rw [List.map_cons] at h ⊢
    rcases List.mem_cons.mp h with e | e
    ·exact List.mem_cons.mpr (.inl e)
    ·exact List.mem_cons_of_mem _ (i2 g e)
theorem ZJM (f : Str) (v : V) : ∀ fs : List (Str × V), (ZD9 f v fs).length ≤ fs.length + 1
 | [] => by simp [ZD9]
 | (k, x) :: r => by
  have ih := ZJM f v r
  rw [show ZD9 f v ((k, x) :: r) = (if k = f then (k, v) :: r else (k, x) :: ZD9 f v r) from rfl]
  by_cases hk : k = f
  ·rw [if_pos hk, List.length_cons, List.length_cons]; omega
  ·rw [if_neg hk, List.length_cons, List.length_cons]; omega
theorem ZFQ.some_of {v : V} {o : Option Value} (r : ZFQ (some v) o) : ∃ u, o = some u ∧ ZDy v u := by
 cases o with
 | none => exact (show False from r).elim
 | some u => exact ⟨u, rfl, r⟩
theorem ZFQ.none_of {o : Option Value} (r : ZFQ none o) : o = none := by
 cases o with
 | none => rfl
 | some u => exact (show False from r).elim
theorem ZOy {v : V} {u : Value} (r : ZDy v u) : PySem.W.handedIn u = true := by
 cases v with
 | non => cases (show u = Value.none from r); rfl
 | bl b => cases (show u = Value.bool b from r); rfl
 | int i => obtain ⟨t, e⟩ := (show ∃ t, u = Value.int i t from r); cases e; rfl
 | str x => obtain ⟨t, e⟩ := (show ∃ t, u = Value.str x t from r); cases e; rfl
 | byt b => obtain ⟨t, e⟩ := (show ∃ t, u = Value.bytes b t from r); cases e; rfl
 | flt b => obtain ⟨t, e⟩ := (show ∃ t, u = Value.float b t from r); cases e; rfl
 | ref a => cases (show u = Value.ref a from r); rfl
 | ty n => cases (show u = Value.type n from r); rfl
section
variable {P : Program} {w : World} {H H' : Hp} {h h' : Heap} {a C dx : Addr} {fs fs' : List (Str × V)}
theorem ZJC (hok : HOk P w H h) (e : H a = some (.ins C dx fs)) : ∃ mA, ZJZ h a dx C mA ∧ (∀ f, ZFQ (fs.lookup f) (mA f)) ∧ PySem.Within mA (fs.map (·.1)) ∧ fs.length ≤ 1000 ∧ H dx = some (.own a) := by
 obtain ⟨d, z, ne, ob, mA, n, r, q⟩ := (show ZER P w H h a (.ins C dx fs) from hok a _ e)
 exact ⟨mA, ⟨ob, n, ne⟩, r, q, z, d⟩
end
structure Cls (K : W.Frag) (C : Addr) : Prop where
 pg : PySem.W.plainGet K C Str.empty = true
 hd : PySem.W.hasDictIn K C = true
 po : PySem.W.plainOver K C = true
 sa : W.findIn K (.ref C) "__setattr__" = some (some (.builtin "object.__setattr__"))
theorem Cls.get {K : W.Frag} {C : Addr} (c : Cls K C) (f : Str) : PySem.W.plainGet K C f = true := c.pg
def ZEU (K : W.Frag) (C : Addr) (f : Str) : Prop := W.findIn K (.ref C) f = some none
theorem ZEU.taker {K : W.Frag} {C : Addr} {f : Str} (n : ZEU K C f) : PySem.W.takerIn K C f = some none := by
 unfold PySem.W.takerIn
 rw [show W.findIn K (.ref C) f = some none from n]
 rfl
structure ZEk (K : W.Frag) (C : Addr) (m : Str) (f : Addr) : Prop where
 at_ : W.findIn K (.ref C) m = some (some (.ref f))
 fn : PySem.W.isFn K (.ref f) = true
 kp : W.keepIn K (.ref f) = true
section
variable {X : Cx} {pins : List (Addr × Obj)} {σ : St} {H : Hp} {s : Shared} {a C dx : Addr} {fs : List (Str × V)} {f : Str} {v : V} {A : Around} {E : Value → Shared → Prop}
theorem ZJ6 {b : Bool} {Q : Value → Shared → Prop} (I : Inv X pins σ H s) (e : H a = some (.ins C dx fs)) (c : Cls X.K C) (n : ZEU X.K C f) (l : fs.lookup f = some v)
  (h : ∀ u s', Inv X pins σ H s' → ZDy v u → Q u s') : wpAny (model X.prog X.w) A (getAttr (.ref a) f b) Q E s := by
 obtain ⟨mA, O, r, _, _, _⟩ := ZJC I.hok e
 obtain ⟨u, hu, ru⟩ := ZFQ.some_of (v := v) (o := mA f) (by rw [← l]; exact r f)
 exact ZSY I.kIn O (c.get f) c.hd n hu (ZOy ru) (h u _ (I.tok _) ru)
theorem ZJ7 {m : Str} {g : Addr} {pl : Sem Bool} {Q : Value × List Value → Shared → Prop} (I : Inv X pins σ H s) (e : H a = some (.ins C dx fs)) (c : Cls X.K C) (k : ZEk X.K C m g) (l : fs.lookup m = none)
  (h : Q (.ref g, [.ref a]) s) : wpAny (model X.prog X.w) A (getMethod (.ref a) m pl) Q E s := by
 obtain ⟨mA, O, r, _, _, _⟩ := ZJC I.hok e
 have hn : mA m = none := ZFQ.none_of (by rw [← l]; exact r m)
 exact ZQS I.kIn O (c.get m) k.at_ k.fn hn h
theorem ZJ8 {y : V} {u : Value} {Q : Unit → Shared → Prop} (I : Inv X pins σ H s) (e : H a = some (.ins C dx fs)) (c : Cls X.K C) (n : ZEU X.K C f) (hl : fs.length < 1000) (ry : ZDy y u)
  (h : ∀ s', Inv X pins σ (upd H a (.ins C dx (ZD9 f y fs))) s' → Q () s') : wpAny (model X.prog X.w) A (setAttr (.ref a) f u) Q E s := by
 obtain ⟨mA, O, r, wi, _, ho⟩ := ZJC I.hok e
 have hz : (fs.map (·.1)).length ≤ sizeLine := by rw [List.length_map, sizeLine_eq]; omega
 refine ZSZ I.kIn O c.sa c.po n.taker c.hd wi hz fun h' O' sb => h _ ?_
 have hd : ∃ o, h'.get? dx = some o := let ⟨o, _, _, e', _⟩ := O'.ns; ⟨o, e'⟩
 refine I.write (x := a) (e := dx) (by rw [e]; exact True.intro) (.inr ho) (fun b q hb z => (sb.2 b hb).trans z) hd ?_
 refine ⟨by rw [ZD6 O.ne]; exact ho, ?_, O.ne, O'.obj, _, O'.ns, fun g => ?_, fun g hg => ?_⟩
 ·have := ZJM f y fs; omega
 ·show ZFQ ((ZD9 f y fs).lookup g) (if g = f then some u else mA g)
  rw [ZJL]
  by_cases q : g = f
  ·rw [if_pos q, if_pos q]; exact ry
  ·rw [if_neg q, if_neg q]; exact r g
 ·by_cases q : g = f
  ·rw [q]; exact (ZIh f y fs).1
  ·refine (ZIh f y fs).2 g (wi g fun z => hg ?_)
   show (if g = f then some u else mA g) = none
   rw [if_neg q]; exact z
theorem Inv.made (I : Inv X pins σ H s) : Inv X pins σ (upd (upd H s.heap.objs.size (.own (s.heap.objs.size + 1))) (s.heap.objs.size + 1) (.ins C s.heap.objs.size []))
  { s with heap := (s.heap.push PySem.W.emptyDict).push (PySem.W.instObj C s.heap.objs.size) } := by
 have e1 : (s.heap.push PySem.W.emptyDict).get? s.heap.objs.size = some PySem.W.emptyDict := Heap.get?_push_size s.heap rfl
 have e2 : ((s.heap.push PySem.W.emptyDict).push (PySem.W.instObj C s.heap.objs.size)).get? (s.heap.objs.size + 1) = some (PySem.W.instObj C s.heap.objs.size) := by
  have := Heap.get?_push_size (s.heap.push PySem.W.emptyDict) (o := PySem.W.instObj C s.heap.objs.size) rfl
  rwa [Heap.size_push] at this
 have e3 : (s.heap.push PySem.W.emptyDict).Ns s.heap.objs.size (fun _ => none) := ⟨PySem.W.emptyDict, #[], _, e1, rfl, (fun e he => absurd he (by simp)), fun _ => rfl⟩
 have I1 := I.laid (a := s.heap.objs.size) (o := .own (s.heap.objs.size + 1)) (h' := s.heap.push PySem.W.emptyDict) (t' := s.toks) (fun b u q => Heap.get?_push_of_some _ q) (Nat.le_refl _) ⟨_, e1⟩
 refine I1.laid (a := s.heap.objs.size + 1) (o := .ins C s.heap.objs.size []) (t' := s.toks) (fun b u q => Heap.get?_push_of_some _ q) (Nat.le_of_eq (Heap.size_push _ _)) ?_
 have ne : s.heap.objs.size ≠ s.heap.objs.size + 1 := Nat.ne_of_lt (Nat.lt_succ_self _)
 refine ⟨by rw [ZD6 ne, ZDu], Nat.zero_le _, ne, e2, fun _ => none, (Heap.Ns1.of_empty e3).at fun o q => Heap.get?_push_of_some _ q, fun _ => True.intro, fun y hy => absurd rfl hy⟩
theorem ZSa {prog : Program} {w : World} {env : Env} {e : Expr} {f : Str} {pos : Pos} {s : Shared} {Q : Value → Shared → Prop} (hb : attributeBase e f env (eval e env) = eval e env)
  (h : wpAny (model prog w) A (eval e env) (fun o s₁ => wpAny (model prog w) A (getAttr o f true) Q E s₁) E s) : wpAny (model prog w) A (eval (.Attribute e f pos) env) Q E s :=
 Attribute_any_ h (by rw [arm_eval_Attribute, hb])
end
def ZQU (K : W.Frag) (ta : TE) (f : Str) : TE := fun σ H Q => ta σ H fun x H1 => ∃ a C dx fs v, x = .ref a ∧ H1 a = some (.ins C dx fs) ∧ Cls K C ∧ ZEU K C f ∧ fs.lookup f = some v ∧ Q v H1
def ZQV (K : W.Frag) (ta tv : TE) (f : Str) : TS := fun D σ H => tv σ H fun y H1 => ta σ H1 fun x H2 => ∃ a C dx fs, x = .ref a ∧ H2 a = some (.ins C dx fs) ∧ Cls K C ∧ ZEU K C f ∧ fs.length < 1000 ∧
 D.nx σ (upd H2 a (.ins C dx (ZD9 f y fs)))
def ZUT (X : Cx) (op : Operator) (rd : V → V → Hp → VK → Prop) : Prop :=
 ∀ (pins : List (Addr × Obj)) (s : Shared) (σ : St) (H : Hp) (x y : V) (u v : Value) (Q : VK), Inv X pins σ H s → ZDy x u → ZDy y v → rd x y H Q → wpAny (model X.prog X.w) X.A (inplaceOp op u v) (EP X pins σ Q) X.xe s
def ZKf (K : W.Frag) (ta tv : TE) (rd : V → V → Hp → VK → Prop) (f : Str) : TS := fun D σ H => ta σ H fun x H1 => ∃ a C dx fs v, x = .ref a ∧ H1 a = some (.ins C dx fs) ∧ Cls K C ∧ ZEU K C f ∧ fs.lookup f = some v ∧
 tv σ H1 fun y H2 => rd v y H2 fun z H3 => ∃ dx' fs', H3 a = some (.ins C dx' fs') ∧ fs'.length < 1000 ∧ D.nx σ (upd H3 a (.ins C dx' (ZD9 f z fs')))
section
variable {X : Cx} {o e value : Expr} {f : Str} {pos pos' tpos : Pos} {ta tv : TE}
theorem ZUU (he : PE X e ta) (hb : attributeBase e f X.env (eval e X.env) = eval e X.env) : PE X (.Attribute e f pos) (ZQU X.K ta f) := by
 intro pins s σ H Q I h
 refine ZSa hb (thn (he pins s σ H _ I h) fun u s1 ⟨x, H1, I1, rx, a, C, dx, fs, v, ex, ea, c, n, l, q⟩ => ?_)
 subst ex
 obtain rfl : u = Value.ref a := rx
 exact ZJ6 I1 ea c n l fun u' s2 I2 ru => ⟨v, H1, I2, ru, q⟩
theorem ZUV (ha : PE X o ta) (hv : PE X value tv) (hs : swapsWith value (some (.Attribute o f pos')) pos.line X.env = pure false) : PS X (.Assign [.Attribute o f pos'] value pos) (ZQV X.K ta tv f) := by
 intro pins s σ H D I h
 refine plainObj_wpAny_Assign_Attribute (thn (hv pins s σ H _ I h) fun u s1 ⟨y, H1, I1, ry, q⟩ => thn (ha pins s1 σ H1 _ I1 q) fun ov s2 ⟨x, H2, I2, rx, a, C, dx, fs, ex, ea, c, n, l, q2⟩ => ?_) hs
 subst ex
 obtain rfl : ov = Value.ref a := rx
 exact ZJ8 I2 ea c n l ry fun s3 I3 => ⟨σ, _, I3, q2⟩
theorem ZOz {op : Operator} {rd : V → V → Hp → VK → Prop} (ha : PE X o ta) (hv : PE X value tv) (hop : ZUT X op rd) : PS X (.AugAssign (.Attribute o f tpos) op value pos) (ZKf X.K ta tv rd f) := by
 intro pins s σ H D I h
 refine wpAny_AugAssign_AttributeAny (thn (ha pins s σ H _ I h) fun ov s1 ⟨x, H1, I1, rx, a, C, dx, fs, v, ex, ea, c, n, l, q⟩ => ?_)
 subst ex
 obtain rfl : ov = Value.ref a := rx
 refine ZJ6 I1 ea c n l fun u s2 I2 ru => thn (hv pins s2 σ H1 _ I2 q) fun w3 s3 ⟨y, H2, I3, ry, q3⟩ => thn (hop pins s3 σ H2 v y u w3 _ I3 ru ry q3) fun w4 s4 ⟨z, H3, I4, rz, dx', fs', ea', l', q4⟩ => ?_
 exact ZJ8 I4 ea' c n l' rz fun s5 I5 => ⟨σ, _, I5, q4⟩
def ZLw : V → V → Hp → VK → Prop := fun x y H Q => ∃ i j, x = .int i ∧ y = .int j ∧ Q (.int (i + j)) H
theorem ZUW : ZUT X .Add ZLw := by
 rintro pins s σ H x y u v Q I rx ry ⟨i, j, rfl, rfl, q⟩
 obtain ⟨t, rfl⟩ := (show ∃ t, u = Value.int i t from rx)
 obtain ⟨t', rfl⟩ := (show ∃ t', v = Value.int j t' from ry)
 exact PyProof.Rows.iadd_int ⟨.int (i + j), H, I.tok _, ⟨_, rfl⟩, q⟩
end
section
variable {X : Cx} {pins : List (Addr × Obj)} {σ : St} {H : Hp} {s : Shared} {A : Around} {E : Value → Shared → Prop} {Q : Value → Shared → Prop} {c : Value} {b : Bool}
inductive ZGH (K : W.Frag) (H : Hp) : V → Value → Prop where
 | non : ZGH K H .non (.type "NoneType")
 | bl (x : Bool) : ZGH K H (.bl x) (.type "bool")
 | int (i : Int) : ZGH K H (.int i) (.type "int")
 | str (x : Str) : ZGH K H (.str x) (.type "str")
 | flt (x : UInt64) : ZGH K H (.flt x) (.type "float")
 | lst {a : Addr} {xs : List V} (e : H a = some (.lst xs)) : ZGH K H (.ref a) (.type "list")
 | frz {a : Addr} {o : Obj} {xs : List V} (e : H a = some (.frz o (.lst xs))) : ZGH K H (.ref a) (.type "list")
 | tup {a : Addr} {xs : List V} (e : H a = some (.tup xs)) : ZGH K H (.ref a) (.type "tuple")
 | dK {a : Addr} {kvs : List (Key × V)} (e : H a = some (.dK kvs)) : ZGH K H (.ref a) (.type "dict")
 | dT {a : Addr} {kvs : List (List Key × V)} (e : H a = some (.dT kvs)) : ZGH K H (.ref a) (.type "dict")
 | ins {a C dx : Addr} {fs : List (Str × V)} (e : H a = some (.ins C dx fs)) (cl : Cls K C) (ha : W.findIn K (.ref C) "__class__" = some (some (.builtin "object.__class__")))
  (hn : PySem.W.specialIn K (.builtin "object.__class__") "__get__" = some (some (.builtin "getset_descriptor.__get__"))) (htk : PySem.W.takesIn K (.builtin "object.__class__") = some true)
  (hm : PySem.W.mroIn K C (.type "object") = some true) : ZGH K H (.ref a) (.ref C)
theorem ZO0 {x : V} {u t : Value} (I : Inv X pins σ H s) (rx : ZDy x u) (ty : ZGH X.K H x t) (e : W.kitOne X.K t c = some b) (h : ∀ tk, Q (.bool b) { s with toks := tk }) :
  wpAny (model X.prog X.w) A (call (.builtin "isinstance") [u, c]) Q E s := by
 cases ty with
 | non => cases (show u = Value.none from rx); exact PySem.W.kia_one PySem.W.kitx_none I.kIn True.intro e (fun z => nomatch z) h
 | bl y => cases (show u = Value.bool y from rx); exact PySem.W.kia_one PySem.W.kitx_bool I.kIn True.intro e (fun z => nomatch z) h
 | int i => obtain ⟨t, q⟩ := (show ∃ t, u = Value.int i t from rx); cases q; exact PySem.W.kia_one PySem.W.kitx_int I.kIn True.intro e (fun z => nomatch z) h
 | str y => obtain ⟨t, q⟩ := (show ∃ t, u = Value.str y t from rx); cases q; exact PySem.W.kia_one PySem.W.kitx_str I.kIn True.intro e (fun z => nomatch z) h
 | flt y => obtain ⟨t, q⟩ := (show ∃ t, u = Value.float y t from rx); cases q; exact PySem.W.kia_one PySem.W.kitx_float I.kIn True.intro e (fun z => nomatch z) h
 | @lst a xs ea =>
  cases (show u = Value.ref a from rx)
  obtain ⟨_, _, n, _, h1⟩ := (show ZER X.prog X.w H s.heap a (.lst xs) from I.hok a _ ea)
  exact PySem.W.kia_one PySem.W.kitx_list I.kIn ⟨_, h1, rfl⟩ e (fun z => nomatch z) h
 | @frz a ob xs ea =>
  cases (show u = Value.ref a from rx)
  obtain ⟨_, _, _, n, _, h1⟩ := (show ZER X.prog X.w H s.heap a (.frz ob (.lst xs)) from I.hok a _ ea)
  exact PySem.W.kia_one PySem.W.kitx_list I.kIn ⟨_, h1, rfl⟩ e (fun z => nomatch z) h
 | @tup a xs ea =>
  cases (show u = Value.ref a from rx)
  obtain ⟨_, _, _, p⟩ := (show ZER X.prog X.w H s.heap a (.tup xs) from I.hok a _ ea)
  obtain ⟨o, h1, h2, _⟩ := p
  exact PySem.W.kia_one PySem.W.kitx_tuple I.kIn ⟨o, h1, h2⟩ e (fun z => nomatch z) h
 | @dK a kvs ea =>
  cases (show u = Value.ref a from rx)
  obtain ⟨_, _, vs, _, p⟩ := (show ZER X.prog X.w H s.heap a (.dK kvs) from I.hok a _ ea)
  obtain ⟨o, es, ep, h1, h2, _⟩ := p
  exact PySem.W.kia_one PySem.W.kitx_dict I.kIn ⟨o, h1, h2.1⟩ e (fun z => nomatch z) h
 | @dT a kvs ea =>
  cases (show u = Value.ref a from rx)
  obtain ⟨_, _, xs, _, o, es, ep, h1, h2, _⟩ := (show ZER X.prog X.w H s.heap a (.dT kvs) from I.hok a _ ea)
  exact PySem.W.kia_one PySem.W.kitx_dict I.kIn ⟨o, h1, h2.1⟩ e (fun z => nomatch z) h
 | @ins a C dx fs ea cl ha hn htk hm =>
  cases (show u = Value.ref a from rx)
  obtain ⟨mA, O, _⟩ := ZJC I.hok ea
  obtain ⟨od, J, _⟩ := O.look
  exact PySem.W.kia_one (PySem.W.kitx_own (cl.get _) cl.hd ha hn htk hm) I.kIn J e (fun z => nomatch z) h
end
structure Room (k : Nat) (A : Around) : Prop where
 hd : A.handled = none
 dp : A.depth + 3 * k + 5 < recursionLimit
 un : A.units + 16 * k + 200 < cLine
 gd : A.guards = some []
theorem Room.mono {j k : Nat} {A : Around} (r : Room k A) (h : j ≤ k) : Room j A := ⟨r.hd, by have := r.dp; omega, by have := r.un; omega, r.gd⟩
theorem Room.deeper {k : Nat} {A : Around} (r : Room (k + 1) A) (env : Env) : Room k (A.deeper env) :=
 ⟨r.hd, by have := r.dp; show A.depth + 1 + 3 * k + 5 < _; omega, by have := r.un; show A.units + 3 + 16 * k + 200 < _; omega, r.gd⟩
theorem Room.in1 {k : Nat} {A : Around} (r : Room (k + 1) A) : Room k A.in1 :=
 ⟨r.hd, by have := r.dp; show A.depth + 3 * k + 5 < _; omega, by have := r.un; show A.units + 1 + 16 * k + 200 < _; omega, r.gd⟩
theorem ZNs {A : Around} {C : Addr} {us : List Value} {kw : List (Str × Value)} : (A.under (.builtin "type.__call__" ⟨.ref C :: us, kw⟩)).depth = A.depth + 1 := by
 first | rfl | simp [Around.under, Code.weight, Code.isCreation, Code.isGuard, Code.isCaller, Code.frames, Code.isFrame, guardIds]
theorem ZNt {A : Around} {C : Addr} {us : List Value} {kw : List (Str × Value)} : (A.under (.builtin "type.__call__" ⟨.ref C :: us, kw⟩)).units = A.units + 1 := by
 first | rfl | simp [Around.under, Code.cUnits, Code.frames, Code.isFrame]
theorem ZM0 {A : Around} {C : Addr} {us : List Value} {kw : List (Str × Value)} : (A.under (.builtin "type.__call__" ⟨.ref C :: us, kw⟩)).guards = A.guards := by
 have e : pushGuards [] A.guards = A.guards := by cases A.guards <;> rfl
 first | exact e | rfl | simp [Around.under, Code.guards, Code.isGuard, guardIds, pushGuards]
theorem Room.make {k : Nat} {A : Around} (r : Room (k + 1) A) (C : Addr) (us : List Value) (kw : List (Str × Value)) : Room k (A.under (.builtin "type.__call__" ⟨.ref C :: us, kw⟩)) :=
 ⟨r.hd, by have := r.dp; rw [ZNs]; omega, by have := r.un; rw [ZNt]; omega, (ZM0).trans r.gd⟩
theorem Room.depth {k : Nat} {A : Around} (r : Room k A) : A.depth < recursionLimit := by have := r.dp; omega
theorem Room.units {k : Nat} {A : Around} (r : Room k A) : A.units + 64 < cLine := by have := r.un; omega
def ZJa : TA := fun _ H Q => Q [] H
def ZLm (ta : TE) (tr : TA) : TA := fun σ H Q => ta σ H fun x H1 => tr σ H1 fun xs H2 => Q (x :: xs) H2
section
variable {X : Cx} {e : Expr} {es : List Expr} {te : TE} {t : TA} {pos : Pos}
theorem ZUX : PA X [] ZJa := fun _ _ _ _ H Q I h => Calls.spliced_nil ⟨[], H, I, .nil, h⟩
theorem ZSb (ha : PE X e te) (hr : PA X es t) (hs : starEach (e :: es) X.env = (false, eval e X.env) :: starEach es X.env := by rfl) : PA X (e :: es) (ZLm te t) := by
 intro pos pins s σ H Q I h
 rw [hs]
 show wpAny _ _ (spliced ((false, eval e X.env) :: backTo pos (starEach es X.env))) _ _ s
 refine Calls.spliced_cons (thn (ha pins s σ H _ I h) fun u s1 ⟨x, H1, I1, r1, q1⟩ => ?_)
 exact thn (hr pos pins s1 σ H1 _ I1 q1) fun us s2 ⟨xs, H2, I2, r2, q2⟩ => ⟨x :: xs, H2, I2, .cons r1 r2, q2⟩
def ZQW (t : TA) : TE := fun σ H Q => t σ H fun xs H1 => xs.length ≤ sizeLine ∧ ∀ p, H1 p = none → Q (.ref p) (upd H1 p (.tup xs))
def ZQX (t : TA) : TE := fun σ H Q => t σ H fun xs H1 => xs.length ≤ sizeLine ∧ ∀ p, H1 p = none → Q (.ref p) (upd H1 p (.lst xs))
theorem ZUY {x1} (h : PA X es t) : PE X (.Tuple es x1 pos) (ZQW t) := by
 intro pins s σ H Q I hq
 refine wpAny_Tuple_spliced (thn (h pos pins s σ H _ I hq) fun us s1 ⟨xs, H1, I1, r, z, q⟩ => ⟨by rw [← r.length]; exact z, ?_⟩)
 have hf : H1 s1.heap.objs.size = none := I1.hok.fresh (Nat.le_refl _)
 refine ⟨.ref s1.heap.objs.size, upd H1 s1.heap.objs.size (.tup xs), I1.laid (t' := s1.toks) (fun b u e => Heap.get?_push_of_some _ e) (Nat.le_refl _) ?_, rfl, q _ hf⟩
 exact ⟨⟨z, fun _ => ⟨_, Heap.get?_push_size _ rfl, rfl, rfl⟩⟩, us, r, ⟨_, Heap.get?_push_size _ rfl, rfl, _, rfl⟩⟩
theorem ZUZ (h : PA X es t) : PE X (.List es pos) (ZQX t) := by
 intro pins s σ H Q I hq
 refine wpAny_List_spliced (thn (h pos pins s σ H _ I hq) fun us s1 ⟨xs, H1, I1, r, z, q⟩ => ⟨by rw [← r.length]; exact z, ?_⟩)
 have hf : H1 s1.heap.objs.size = none := I1.hok.fresh (Nat.le_refl _)
 refine ⟨.ref s1.heap.objs.size, upd H1 s1.heap.objs.size (.lst xs), I1.laid (t' := s1.toks) (fun b u e => Heap.get?_push_of_some _ e) (Nat.le_refl _) ?_, rfl, q _ hf⟩
 exact ⟨z, us, 0, r, Heap.get?_push_size _ rfl⟩
end
abbrev Sp := List V → Hp → VK → XK → Prop
abbrev CXT := List Env → Hp → Shared → XK → Value → Shared → Prop
structure ZHe (P : Program) (w : World) (K : W.Frag) (mg : Str → Option Value) (base : Heap) (A : Around) (outer : List Env) (s : Shared) (H : Hp) : Prop where
 frames : A.frames = some outer
 mod : Mod K mg base
 bs : ∀ b o, base.get? b = some o → s.heap.get? b = some o ∧ H b = none
 bsz : base.objs.size ≤ s.heap.objs.size
 funs : s.heap.FunFrames base outer
 frf : ∀ b ∈ frs outer, H b = none
 hok : HOk P w H s.heap
 bare : AllBare s.gens
def CE (outer : List Env) (P : Program) (w : World) (H : Hp) (s : Shared) (Q : VK) (u : Value) (s' : Shared) : Prop :=
 ∃ v H', s'.os = s.os ∧ AllBare s'.gens ∧ Un (frs outer) [] H H' s.heap s'.heap ∧ HOk P w H' s'.heap ∧ ZDy v u ∧ Q v H'
def CR (CX : CXT) (outer : List Env) (P : Program) (w : World) (H : Hp) (s : Shared) (Q : VK) (E : XK) (r : Result) (s' : Shared) : Prop :=
 match r with
 | .ok (.ret u) => CE outer P w H s Q u s'
 | .ok _ => False
 | .error e => CX outer H s E e s'
structure ZDw (P : Program) (w : World) (K : W.Frag) (mg : Str → Option Value) (base : Heap) (CX : CXT) (k : Nat) (f : Addr) (fd : FuncData) (ps : List Str) (sp : Sp) : Prop where
 len : ∀ vs H Q E, sp vs H Q E → vs.length = ps.length
 run : ∀ (A : Around) (outer : List Env) (s : Shared) (H : Hp) (args : Args) (us : List Value) (vs : List V) (Q : VK) (E : XK), Room k A → ZHe P w K mg base A outer s H → BindsTo s fd args (ps.zip us) → ZD0 vs us → sp vs H Q E →
  codeAny (model P w) A (.call (.ref f) args) (CR CX outer P w H s Q E) s
theorem ZHe.make {P : Program} {w : World} {K : W.Frag} {mg : Str → Option Value} {base : Heap} {A : Around} {outer : List Env} {s : Shared} {H : Hp} (e : ZHe P w K mg base A outer s H) (C : Addr) (us : List Value) (kw : List (Str × Value)) :
 ZHe P w K mg base (A.under (.builtin "type.__call__" ⟨.ref C :: us, kw⟩)) outer s H := ⟨by first | exact e.frames | (simpa [Around.under, Code.envs, Code.isFrame, pushEnvs] using e.frames), e.mod, e.bs, e.bsz, e.funs, e.frf, e.hok, e.bare⟩
theorem ZHe.in1 {P : Program} {w : World} {K : W.Frag} {mg : Str → Option Value} {base : Heap} {A : Around} {outer : List Env} {s : Shared} {H : Hp} (e : ZHe P w K mg base A outer s H) :
 ZHe P w K mg base A.in1 outer s H := ⟨e.frames, e.mod, e.bs, e.bsz, e.funs, e.frf, e.hok, e.bare⟩
section
variable {X : Cx} {pins : List (Addr × Obj)} {σ : St} {H : Hp} {s s' : Shared}
theorem Inv.env0 (I : Inv X pins σ H s) : ZHe X.prog X.w X.K X.mg X.base X.A X.stack s H :=
 ⟨I.ok.frames, I.ok.mod, I.bs, Nat.le_trans I.ok.bsz I.sz, I.stack, I.stkFree, I.hok, I.bare⟩
theorem Inv.after {Q : VK} {u : Value} (I : Inv X pins σ H s) (h : CE X.stack X.prog X.w H s Q u s') : EP X pins σ Q u s' := by
 obtain ⟨v, H', os, bare, un, hok, r, q⟩ := h
 obtain ⟨hh, g, d, t, os'⟩ := s'
 obtain rfl : os' = s.os := os
 exact ⟨v, H', I.call (h' := hh) (g' := g) (d' := d) (t' := t) (ch := []) un hok bare (fun b z => absurd z (by simp)), r, q⟩
end
def ZJ9 (sp : Sp) (dvs : List V) (E : XK) (t : TA) : TE := fun σ H Q => t σ H fun vs H1 => sp (vs ++ dvs) H1 Q E
def ZKA (C : Addr) (m : Str) (sp : Sp) (dvs : List V) (E : XK) (ta : TE) (t : TA) : TE := fun σ H Q => ta σ H fun x H1 => ∃ a dx fs, x = .ref a ∧ H1 a = some (.ins C dx fs) ∧ fs.lookup m = none ∧
 t σ H1 fun vs H2 => sp (x :: (vs ++ dvs)) H2 Q E
def ZKB (C : Addr) (sp : Sp) (dvs : List V) (E : XK) (t : TA) : TE := fun σ H Q => t σ H fun vs H1 => ∀ x dx, H1 x = none → H1 dx = none → dx ≠ x →
 sp (.ref x :: (vs ++ dvs)) (upd (upd H1 dx (.own x)) x (.ins C dx [])) (fun v H2 => v = .non ∧ Q (.ref x) H2) E
def ZDo (K : W.Frag) (fd : FuncData) (ps : List Str) (ds : List Value) : Prop :=
 ∀ (s : Shared) (us : List Value), K.In s.heap → (us ++ ds).length = ps.length → BindsTo s fd ⟨us, []⟩ (ps.zip (us ++ ds))
theorem ZDo.all {K : W.Frag} {fd : FuncData} {ps : List Str} (h : ∀ us : List Value, us.length = ps.length → bindArgs fd ⟨us, []⟩ = pure (ps.zip us)) : ZDo K fd ps [] := fun s us _ hl => by
 rw [List.append_nil] at hl ⊢
 exact .of_eq (h us hl)
def ZE7 (CX : CXT) (X : Cx) (E : XK) : Prop := ∀ (pins : List (Addr × Obj)) (σ : St) (H : Hp) (s : Shared) (e : Value) (s' : Shared), Inv X pins σ H s → CX X.stack H s E e s' → X.xe e s'
section
variable {X : Cx} {CX : CXT} {k : Nat} {f C : Addr} {fd : FuncData} {ps : List Str} {sp : Sp} {dvs : List V} {ds : List Value} {E : XK} {x m : Str} {p pos apos : Pos} {e o : Expr} {es : List Expr} {ta : TE} {t : TA}
theorem ZLx {pins : List (Addr × Obj)} {σ : St} {H : Hp} {s : Shared} {Q : VK} {us : List Value} {vs : List V} (F : ZDw X.prog X.w X.K X.mg X.base CX k f fd ps sp) (hr : Room k X.A) (hb : ZDo X.K fd ps ds) (hd : ZD0 dvs ds) (hx : ZE7 CX X E)
  (I : Inv X pins σ H s) (r : ZD0 vs us) (h : sp (vs ++ dvs) H Q E) : wpAny (model X.prog X.w) X.A (call (.ref f) us) (EP X pins σ Q) X.xe s := by
 have r2 : ZD0 (vs ++ dvs) (us ++ ds) := r.append hd
 have hl : (us ++ ds).length = ps.length := by rw [← r2.length]; exact F.len _ _ _ _ h
 refine wpAny_call (codeAny_mono (F.run X.A X.stack s H ⟨us, []⟩ (us ++ ds) (vs ++ dvs) Q E hr I.env0 (hb s us I.kIn hl) r2 h) fun r s' hq => ?_)
 cases r with
 | error e => exact hx pins σ H s e s' I hq
 | ok fl =>
  cases fl with
  | ret u => exact I.after hq
  | next => exact False.elim hq
  | brk => exact False.elim hq
  | cont => exact False.elim hq
theorem ZSc (F : ZDw X.prog X.w X.K X.mg X.base CX k f fd ps sp) (hr : Room k X.A) (hg : Gl X x) (hm : X.mg x = some (.ref f)) (hk : W.keepIn X.K (.ref f) = true) (hb : ZDo X.K fd ps ds) (hd : ZD0 dvs ds) (hx : ZE7 CX X E)
  (ha : PA X (e :: es) t) (hdb : (x == ("__debug__" : Str)) = false := by decide) (he : starEach (e :: es) X.env = (false, eval e X.env) :: starEach es X.env := by rfl) (hpl : (backTo pos (starEach es X.env)).any (·.1) = false := by rfl) :
  PE X (.Call (.Name x p) (e :: es) [] pos) (ZJ9 sp dvs E t) := by
 intro pins s σ H Q I h
 refine wpAny_Call_Name_kw (ZG4 I hg hm ?_ hdb)
 refine PySem.W.callWith_K (h₀ := X.base) I.ok.mod.kin hk (thn (ha pos pins s σ H _ I h) fun us s1 ⟨vs, H1, I1, r, q⟩ => ⟨I1.kIn, ?_⟩) he hpl
 exact ZLx F hr hb hd hx I1 r q
theorem ZSd {pl : Sem Bool} (he : PE X o ta) (c : Cls X.K C) (hm : ZEk X.K C m f) (F : ZDw X.prog X.w X.K X.mg X.base CX k f fd ps sp) (hr : Room k X.A) (hb : ZDo X.K fd ps ds) (hd : ZD0 dvs ds) (hx : ZE7 CX X E) (ha : PA X (e :: es) t)
  (hst : starEach (e :: es) X.env = (false, eval e X.env) :: starEach es X.env := by rfl) (hpl : (backTo pos (starEach es X.env)).any (·.1) = false := by rfl)
  (ht : eval (.Call (.Attribute o m apos) (e :: es) [] pos) X.env = (do
   let ov ← eval o X.env
   standAt apos.atName
   let (f, first) ← holding [ov] (getMethod ov m pl)
   callWith pos f first (backTo pos (starEach (e :: es) X.env)) (backToKw pos (keywordEach [] X.env))) := by rfl) :
  PE X (.Call (.Attribute o m apos) (e :: es) [] pos) (ZKA C m sp dvs E ta t) := by
 intro pins s σ H Q I h
 refine PySem.W.methodCall_KW (pl := pl) (thn (he pins s σ H _ I h) fun u s1 ⟨x, H1, I1, rx, a, dx, fs, ex, ea, l, q⟩ => ?_) ht
 subst ex
 obtain rfl : u = Value.ref a := rx
 refine ZJ7 I1 ea c hm l ?_
 refine PySem.W.callWith_K (first := [.ref a]) (h₀ := X.base) I.ok.mod.kin hm.kp (thn (ha pos pins s1 σ H1 _ I1 q) fun us s2 ⟨vs, H2, I2, r, q2⟩ => ⟨I2.kIn, ?_⟩) hst hpl
 exact ZLx (us := .ref a :: us) (vs := .ref a :: vs) F hr hb hd hx I2 (.cons rfl r) q2
theorem ZQY {pl : Sem Bool} (he : PE X o ta) (c : Cls X.K C) (hm : ZEk X.K C m f) (F : ZDw X.prog X.w X.K X.mg X.base CX k f fd ps sp) (hr : Room k X.A) (hb : ZDo X.K fd ps ds) (hd : ZD0 dvs ds) (hx : ZE7 CX X E)
  (ht : eval (.Call (.Attribute o m apos) [] [] pos) X.env = (do
   let ov ← eval o X.env
   standAt apos.atName
   let (f, first) ← holding [ov] (getMethod ov m pl)
   callWith pos f first (backTo pos (starEach [] X.env)) (backToKw pos (keywordEach [] X.env))) := by rfl) :
  PE X (.Call (.Attribute o m apos) [] [] pos) (ZKA C m sp dvs E ta ZJa) := by
 intro pins s σ H Q I h
 refine PySem.W.methodCall_KW (pl := pl) (thn (he pins s σ H _ I h) fun u s1 ⟨x, H1, I1, rx, a, dx, fs, ex, ea, l, q⟩ => ?_) ht
 subst ex
 obtain rfl : u = Value.ref a := rx
 refine ZJ7 I1 ea c hm l ?_
 exact PySem.W.callWith_K0 (first := [.ref a]) I1.kIn hm.kp (ZLx (us := [.ref a]) (vs := [.ref a]) F hr hb hd hx I1 (.cons rfl .nil) q)
structure Mk (K : W.Frag) (C f : Addr) : Prop where
 makes : PySem.W.makesIn K C = true
 init : W.findIn K (.ref C) "__init__" = some (some (.ref f))
 fn : PySem.W.isFn K (.ref f) = true
 kp : W.keepIn K (.ref C) = true
theorem ZLy {pins : List (Addr × Obj)} {σ : St} {H : Hp} {s : Shared} {Q : VK} {us : List Value} {vs : List V} (M : Mk X.K C f) (F : ZDw X.prog X.w X.K X.mg X.base CX k f fd ps sp) (hr : Room (k + 1) X.A) (hb : ZDo X.K fd ps ds) (hd : ZD0 dvs ds)
  (hx : ZE7 CX X E) (I : Inv X pins σ H s) (r : ZD0 vs us)
  (h : ∀ x dx, H x = none → H dx = none → dx ≠ x → sp (.ref x :: (vs ++ dvs)) (upd (upd H dx (.own x)) x (.ins C dx [])) (fun v H2 => v = .non ∧ Q (.ref x) H2) E) :
  wpAny (model X.prog X.w) X.A (call (.ref C) us) (EP X pins σ Q) X.xe s := by
 have hq := h (s.heap.objs.size + 1) s.heap.objs.size (I.hok.fresh (Nat.le_succ _)) (I.hok.fresh (Nat.le_refl _)) (Nat.ne_of_lt (Nat.lt_succ_self _))
 have I2 := Inv.made (C := C) I
 have r2 : ZD0 (V.ref (s.heap.objs.size + 1) :: (vs ++ dvs)) (Value.ref (s.heap.objs.size + 1) :: (us ++ ds)) := .cons rfl (r.append hd)
 have hl : (Value.ref (s.heap.objs.size + 1) :: us ++ ds).length = ps.length := by
  have e := r2.length
  rw [F.len _ _ _ _ hq] at e
  exact e.symm
 refine wpAny_call (ZQT (f := f) I.kIn M.makes M.init (beq_iff_eq.mp M.fn) (codeAny_mono (F.run _ X.stack _ _ ⟨Value.ref (s.heap.objs.size + 1) :: us, []⟩ (Value.ref (s.heap.objs.size + 1) :: (us ++ ds)) _ _ E (hr.make C us [])
  (I2.env0.make C us []) (hb _ (Value.ref (s.heap.objs.size + 1) :: us) I2.kIn hl) r2 hq) fun r s' hq' => ?_))
 cases r with
 | error e => exact hx pins σ _ _ e s' I2 hq'
 | ok fl =>
  cases fl with
  | ret u =>
   obtain ⟨v, H', I3, rv, ev, q3⟩ := I2.after hq'
   subst ev
   exact ⟨rv, ⟨V.ref (s.heap.objs.size + 1), H', I3, rfl, q3⟩⟩
  | next => exact False.elim hq'
  | brk => exact False.elim hq'
  | cont => exact False.elim hq'
theorem ZSe (M : Mk X.K C f) (F : ZDw X.prog X.w X.K X.mg X.base CX k f fd ps sp) (hr : Room (k + 1) X.A) (hg : Gl X x) (hm : X.mg x = some (.ref C)) (hb : ZDo X.K fd ps ds) (hd : ZD0 dvs ds) (hx : ZE7 CX X E)
  (ha : PA X (e :: es) t) (hdb : (x == ("__debug__" : Str)) = false := by decide) (he : starEach (e :: es) X.env = (false, eval e X.env) :: starEach es X.env := by rfl) (hpl : (backTo pos (starEach es X.env)).any (·.1) = false := by rfl) :
  PE X (.Call (.Name x p) (e :: es) [] pos) (ZKB C sp dvs E t) := by
 intro pins s σ H Q I h
 refine wpAny_Call_Name_kw (ZG4 I hg hm ?_ hdb)
 refine PySem.W.callWith_K (h₀ := X.base) I.ok.mod.kin M.kp (thn (ha pos pins s σ H _ I h) fun us s1 ⟨vs, H1, I1, r, q⟩ => ⟨I1.kIn, ?_⟩) he hpl
 exact ZLy M F hr hb hd hx I1 r q
theorem ZQZ (M : Mk X.K C f) (F : ZDw X.prog X.w X.K X.mg X.base CX k f fd ps sp) (hr : Room (k + 1) X.A) (hg : Gl X x) (hm : X.mg x = some (.ref C)) (hb : ZDo X.K fd ps ds) (hd : ZD0 dvs ds) (hx : ZE7 CX X E)
  (hdb : (x == ("__debug__" : Str)) = false := by decide) : PE X (.Call (.Name x p) [] [] pos) (ZKB C sp dvs E ZJa) := by
 intro pins s σ H Q I h
 refine wpAny_Call_Name_kw (ZG4 I hg hm ?_ hdb)
 exact PySem.W.callWith_K0 I.kIn M.kp (ZLy (us := []) M F hr hb hd hx I .nil h)
end
section
variable {X : Cx} {CX : CXT} {k : Nat} {f C : Addr} {fd : FuncData} {ps ks : List Str} {sp : Sp} {E : XK} {x m : Str} {p pos apos kpos : Pos} {e o : Expr} {es : List Expr} {kws : List Keyword} {te ta : TE} {t tk : TA} {nm : Option Str}
variable {g : List Value → List Value → List Value} {gV : List V → List V → List V}
end
structure ZDs (N P : List Str) (sc : Scope) : Prop where
 kind : sc.kind = .function
 co : sc.isCoroutine = false
 gen : sc.isGenerator = false
 nd : N.Nodup
 pre : N.take P.length = P
 par : ∀ x ∈ P, sc.names.lookup x = some .local ∨ sc.names.lookup x = some .cell
 nofree : ∀ y ∈ sc.names, y.2 ≠ .free
theorem ZK5 {kindOf : Str → Option NameKind} {x : Str} : ∀ {binds : List (Str × Value)} {m : Str → Option Value}, (∀ v, (x, v) ∉ binds) → bindL kindOf binds m x = m x
 | [], _, _ => rfl
 | (n, v) :: r, m, h => by
  unfold bindL
  rw [ZK5 fun w hw => h w (List.mem_cons_of_mem _ hw)]
  split
  ·have : x ≠ n := by rintro rfl; exact h v List.mem_cons_self
   simp [this]
  ·rfl
theorem ZK6 {kindOf : Str → Option NameKind} {x : Str} : ∀ {binds : List (Str × Value)} {m : Str → Option Value}, (∀ v, (x, v) ∉ binds) → bindC kindOf binds m x = m x
 | [], _, _ => rfl
 | (n, v) :: r, m, h => by
  unfold bindC
  rw [ZK6 fun w hw => h w (List.mem_cons_of_mem _ hw)]
  split
  ·rfl
  ·have : x ≠ n := by rintro rfl; exact h v List.mem_cons_self
   simp [this]
theorem ZK7 {kindOf : Str → Option NameKind} {x : Str} {v : Value} : ∀ {P : List Str} {vs : List Value} {i : Nat} {m : Str → Option Value}, P.Nodup → P[i]? = some x → vs[i]? = some v → kindOf x = some .local →
  bindL kindOf (P.zip vs) m x = some v
 | [], _, _, _, _, h, _, _ => by simp at h
 | _ :: _, [], _, _, _, _, h, _ => by simp at h
 | p :: P, w :: vs, 0, m, nd, h1, h2, hk => by
  simp at h1 h2; subst h1; subst h2
  show bindL kindOf ((p, w) :: P.zip vs) m p = _
  unfold bindL
  rw [ZK5 fun v hv => (List.nodup_cons.mp nd).1 (List.of_mem_zip hv).1, if_pos hk]
  simp
 | p :: P, w :: vs, i + 1, m, nd, h1, h2, hk => by
  show bindL kindOf ((p, w) :: P.zip vs) m x = _
  unfold bindL
  exact ZK7 (i := i) (List.nodup_cons.mp nd).2 (by simpa using h1) (by simpa using h2) hk
theorem ZK8 {kindOf : Str → Option NameKind} {x : Str} {v : Value} : ∀ {P : List Str} {vs : List Value} {i : Nat} {m : Str → Option Value}, P.Nodup → P[i]? = some x → vs[i]? = some v → kindOf x ≠ some .local →
  bindC kindOf (P.zip vs) m x = some v
 | [], _, _, _, _, h, _, _ => by simp at h
 | _ :: _, [], _, _, _, _, h, _ => by simp at h
 | p :: P, w :: vs, 0, m, nd, h1, h2, hk => by
  simp at h1 h2; subst h1; subst h2
  show bindC kindOf ((p, w) :: P.zip vs) m p = _
  unfold bindC
  rw [ZK6 fun v hv => (List.nodup_cons.mp nd).1 (List.of_mem_zip hv).1, if_neg hk]
  simp
 | p :: P, w :: vs, i + 1, m, nd, h1, h2, hk => by
  show bindC kindOf ((p, w) :: P.zip vs) m x = _
  unfold bindC
  exact ZK8 (i := i) (List.nodup_cons.mp nd).2 (by simpa using h1) (by simpa using h2) hk
def start (N : List Str) (vs : List V) : St := vs.map some ++ List.replicate (N.length - vs.length) none
def ZJb (CX : CXT) (P : Program) (w : World) (K : W.Frag) (mg : Str → Option Value) (base : Heap) (N : List Str) (qual : Str) (scope : Scope) (f : Addr) (cd : Value) (A : Around) (outer : List Env) (s : Shared) (H : Hp) (E : XK) : Cx where
 prog := P
 w := w
 K := K
 mg := mg
 base := base
 A := A.deeper (envOfC qual scope s.heap.objs.size f cd)
 N := N
 s₀ := s
 H₀ := H
 env := envOfC qual scope s.heap.objs.size f cd
 outer := outer
 stack := envOfC qual scope s.heap.objs.size f cd :: outer
 ex := []
 calm := true
 fn := fun _ => true
 pn := []
 xe := fun e s' => wpAny (model P w) (A.deeper (envOfC qual scope s.heap.objs.size f cd)) (leaving (envOfC qual scope s.heap.objs.size f cd) e) (fun _ s'' => CX outer H s E e s'') (fun e' s'' => CX outer H s E e' s'') s'
theorem ZLz {sc : Scope} {n : Nat} {x : Str} (h : sc.names.lookup x = some .cell) : ∃ c, (cellsFrom n sc.names []).lookup x = some c := by
 have q := PySem.W.cellsFrom_some sc.names n [] (.inl h)
 exact Option.isSome_iff_exists.mp q
theorem ZO1 {CX : CXT} {P : Program} {w : World} {K : W.Frag} {mg : Str → Option Value} {base : Heap} {N ps : List Str} {qual : Str} {scope : Scope} {f : Addr} {cd : Value} {A : Around} {outer : List Env} {s s1 : Shared} {H : Hp} {E : XK} {us : List Value} {vs : List V}
  (S : ZDs N ps scope) (hd : A.handled = none) (e0 : ZHe P w K mg base A outer s H) (hl : vs.length = ps.length) (r : ZD0 vs us)
  (x : InCallC s s.heap.objs.size (bindL (envOfC qual scope s.heap.objs.size f cd).kindOf (ps.zip us) fun _ => none) (cellsFrom (s.heap.objs.size + 1) scope.names []) (bindC (envOfC qual scope s.heap.objs.size f cd).kindOf (ps.zip us) fun _ => none) s1) :
  Inv (ZJb CX P w K mg base N qual scope f cd A outer s H E) [] (start N vs) H s1 := by
 have hpl : ps.length ≤ N.length := by have := congrArg List.length S.pre; rw [List.length_take] at this; omega
 obtain ⟨h1, tk, rfl, hk⟩ := x.done
 have noA : ∀ b : Addr, b ∉ (ZJb CX P w K mg base N qual scope f cd A outer s H E).ex := fun b z => absurd (show b ∈ ([] : List Addr) from z) (by simp)
 refine ⟨⟨e0.mod, S.kind, rfl, rfl, Nat.le_refl _, fun y z c h1 h2 => ?_, fun y hy => ?_, fun y c _ h => ?_, fun _ => hd, Around.frames_deeper e0.frames, .inr ⟨rfl, rfl⟩, fun b z => absurd z (noA b), e0.bs, e0.bsz, fun b _ _ => noA b, fun b z => absurd z (noA b), e0.funs, e0.frf⟩,
  rfl, e0.bare, Un.kept hk, ⟨_, x.toInCall.ns, fun i y v h1 h2 h3 => ?_⟩, fun y c h => ⟨_, x.cell y c h⟩, e0.hok.fresh (Nat.le_refl _), fun y c h => ?_, fun p hp => absurd (show p ∈ ([] : List (Addr × Obj)) from hp) (by simp), e0.hok.kept hk, ?_⟩
 ·exact name_of_addr x.apart (PySem.mem_of_lookup h1) (PySem.mem_of_lookup h2)
 ·have hy : scope.names.lookup y = some .cell ∨ scope.names.lookup y = some .free := hy
  rcases hy with hy | hy
  ·exact ZLz hy
  ·exact absurd rfl (S.nofree _ (PySem.mem_of_lookup hy))
 ·exact Nat.le_of_lt (x.above y c (PySem.mem_of_lookup h))
 ·have hi : i < vs.length := by
   unfold start at h2
   by_cases hi : i < vs.length
   ·exact hi
   ·rw [List.getElem?_append_right (by simpa using hi)] at h2
    rw [List.getElem?_replicate] at h2
    split at h2 <;> cases h2
  have ha : vs[i]? = some v := by
   unfold start at h2
   rw [List.getElem?_append_left (by simpa using hi), List.getElem?_map] at h2
   cases e : vs[i]? with
   | none => rw [e] at h2; cases h2
   | some a => rw [e] at h2; cases h2; rfl
  obtain ⟨u, hu, rv⟩ := r.get ha
  have hp : ps[i]? = some y := by
   rw [← S.pre, List.getElem?_take_of_lt (by omega)]; exact h1
  have ndP : ps.Nodup := by rw [← S.pre]; exact S.nd.sublist (List.take_sublist _ _)
  refine ⟨u, rv, ?_⟩
  rcases S.par y (List.mem_of_getElem? hp) with k | k
  ·exact .inl ⟨k, ZK7 ndP hp hu k⟩
  ·obtain ⟨c, e⟩ := ZLz (n := s.heap.objs.size + 1) k
   refine .inr ⟨.inl k, c, e, ?_⟩
   have q := x.cell y c e
   rw [ZK8 ndP hp hu (by show scope.names.lookup y ≠ _; rw [k]; decide)] at q
   exact q
 ·exact e0.hok.fresh (Nat.le_of_lt (x.above y c (PySem.mem_of_lookup h)))
 ·unfold start
  show _ = N.length
  rw [List.length_append, List.length_map, List.length_replicate]
  omega
theorem ZR0 {CX : CXT} {P : Program} {w : World} {K : W.Frag} {mg : Str → Option Value} {base : Heap} {k : Nat} {f : Addr} {name qual : Str} {params : Arguments} {body : List Stmt} {scope : Scope} {dV kV doc pm cdv ct oc : Value} {an od : Option Addr}
  {osl : Array (Option Value)} {N ps : List Str} {sp : Sp} (lk : K.lookup f = some ⟨oc, od, .func (W.fnOf name qual params body scope dV kV doc pm an cdv ct), osl⟩) (hcd : W.codeIn K cdv qual = true) (S : ZDs N ps scope)
  (len : ∀ vs H Q E, sp vs H Q E → vs.length = ps.length)
  (hbody : ∀ (A : Around) (outer : List Env) (s : Shared) (H : Hp) (vs : List V) (Q : VK) (E : XK), Room k (A.deeper (envOfC qual scope s.heap.objs.size f cdv)) → sp vs H Q E →
   ∃ t, PSs (ZJb CX P w K mg base N qual scope f cdv A outer s H E) body t ∧ t { nx := fun _ H' => Q .non H', rt := Q } (start N vs) H) :
  ZDw P w K mg base CX (k + 1) f (W.fnOf name qual params body scope dV kV doc pm an cdv ct) ps sp := by
 refine ⟨len, fun A outer s H args us vs Q E hr e0 hb r hsp => ?_⟩
 have hl := len _ _ _ _ hsp
 have KX : K.In s.heap := e0.mod.kin.keeps fun b o e => (e0.bs b o e).1
 have lim : s.heap.NoLimit := e0.mod.nolimit.keeps fun b o e => (e0.bs b o e).1
 have hkind : ∀ y ∈ ps.zip us, scope.names.lookup y.1 = some .local ∨ (scope.names.lookup y.1 = some .cell ∧ ((cellsFrom (s.heap.objs.size + 1) scope.names []).lookup y.1).isSome = true) := fun ⟨n, v⟩ hy => by
  rcases S.par n (List.of_mem_zip hy).1 with q | q
  ·exact .inl q
  ·exact .inr ⟨q, PySem.W.cellsFrom_some _ _ _ (.inl q)⟩
 refine codeAny_call_function hr.depth (KX _ _ lk) rfl S.co S.gen rfl (PySem.W.codeRec_of KX hcd) (hb _ _ _ _ ?_)
 refine wpAny_newFunctionEnv_cells S.kind hkind fun env he s1 x => ?_
 subst he
 refine ⟨lim.keeps x.toInCall.keep, codeAny_func ?_⟩
 obtain ⟨t, ht, hq⟩ := hbody A outer s H vs Q E (hr.deeper _) hsp
 have I : Inv (ZJb CX P w K mg base N qual scope f cdv A outer s H E) [] (start N vs) H s1 := ZO1 S hr.hd e0 hl r x
 refine wpAny_mono (ht [] s1 (start N vs) H _ I hq) (fun fl s' hs => ?_) fun e s' hs => hs
 have fin : ∀ {σ' : St} {H' : Hp} {v : V} {u : Value}, Inv (ZJb CX P w K mg base N qual scope f cdv A outer s H E) [] σ' H' s' → ZDy v u → Q v H' → CE outer P w H s Q u s' :=
  fun {σ' H' v u} J rv q => ⟨v, H', J.os, J.bare, J.base, J.hok, rv, q⟩
 cases fl with
 | ret u =>
  obtain ⟨v, σ', H', J, rv, q⟩ := hs
  exact fin J rv q
 | next =>
  obtain ⟨σ', H', J, q⟩ := hs
  exact fin (v := V.non) (u := Value.none) J rfl q
 | brk =>
  obtain ⟨_, _, _, q⟩ := hs
  exact False.elim q
 | cont =>
  obtain ⟨_, _, _, q⟩ := hs
  exact False.elim q
section
variable {X : Cx} {x : Str} {p pos : Pos} {e : Expr} {es : List Expr} {t : TA} {id T : String} {r : List V → Hp → VK → Prop}
def tCB (r : List V → Hp → VK → Prop) (t : TA) : TE := fun σ H Q => t σ H fun vs H1 => r vs H1 Q
theorem ZQa (hc : ZEq X (.builtin id) r) (hg : Gl X x) (hm : X.mg x = none) (hv : bootBuiltins x = some (.builtin id)) (ha : PA X (e :: es) t) (hn : x ≠ "__name__" := by decide) (hdb : (x == ("__debug__" : Str)) = false := by decide)
  (he : starEach (e :: es) X.env = (false, eval e X.env) :: starEach es X.env := by rfl) (hpl : (backTo pos (starEach es X.env)).any (·.1) = false := by rfl) : PE X (.Call (.Name x p) (e :: es) [] pos) (tCB r t) := by
 intro pins s σ H Q I h
 refine wpAny_Call_Name_kw (ZGm I hg hm hv ?_ hn hdb)
 exact PyProof.Rows.callWith_builtin1 (thn (ha pos pins s σ H _ I h) fun us s1 ⟨vs, H1, I1, r1, q1⟩ => hc pins s1 σ H1 vs us Q I1 r1 q1) he hpl
theorem ZO2 (hc : ZEq X (.type T) r) (hg : Gl X x) (hm : X.mg x = none) (hv : bootBuiltins x = some (.type T)) (ha : PA X (e :: es) t) (hn : x ≠ "__name__" := by decide) (hdb : (x == ("__debug__" : Str)) = false := by decide)
  (he : starEach (e :: es) X.env = (false, eval e X.env) :: starEach es X.env := by rfl) (hpl : (backTo pos (starEach es X.env)).any (·.1) = false := by rfl) : PE X (.Call (.Name x p) (e :: es) [] pos) (tCB r t) := by
 intro pins s σ H Q I h
 refine wpAny_Call_Name_kw (ZGm I hg hm hv ?_ hn hdb)
 exact PyProof.Rows.callWith_type1 (thn (ha pos pins s σ H _ I h) fun us s1 ⟨vs, H1, I1, r1, q1⟩ => hc pins s1 σ H1 vs us Q I1 r1 q1) he hpl
end
end L2
namespace HT
open PySem PyProof.Rows
section
open PySem.SeqAt
open PySem.AutoSeq1 (wpAny_loadPart')
open PySem.MeetsSeq PySem.MeetsSeq2 PySem.MeetsSeq3
end
section
variable {prog : Program} {w : World} {A : Around} {E : Value → Shared → Prop} {s : Shared}
def sIx (n d : Nat) : Option Int → Nat
 | none => d
 | some v => if v < 0 then (v + (n : Int)).toNat else min v.toNat n
theorem sIx_none (n d : Nat) : sIx n d none = d := rfl
theorem sIx_nat (n d k : Nat) : sIx n d (some (k : Int)) = min k n := by
 show (if (k : Int) < 0 then ((k : Int) + (n : Int)).toNat else min (k : Int).toNat n) = min k n
 rw [if_neg (by omega), Int.toNat_natCast]
theorem ZUa (n d : Nat) (hd : d ≤ n) (o : Option Int) : sIx n d o ≤ n := by
 cases o with
 | none => exact hd
 | some v =>
  show (if v < 0 then (v + (n : Int)).toNat else min v.toNat n) ≤ n
  by_cases hv : v < 0
  ·rw [if_pos hv]; omega
  ·rw [if_neg hv]; exact Nat.min_le_right _ _
theorem ZNL (v : Int) (n d : Nat) : (if v < 0 then max (v + (n : Int)) 0 else min v (n : Int)) = ((sIx n d (some v) : Nat) : Int) := by
 show (if v < 0 then max (v + (n : Int)) 0 else min v (n : Int)) = (((if v < 0 then (v + (n : Int)).toNat else min v.toNat n) : Nat) : Int)
 by_cases hv : v < 0
 ·simp only [if_pos hv]; omega
 ·simp only [if_neg hv]; omega
theorem ZNu (lo hi : Option Int) (n : Nat) : Builtin.Slice.sliceAdjust lo hi 1 (n : Int) = (((sIx n 0 lo : Nat) : Int), ((sIx n n hi : Nat) : Int)) := by
 have h1 : ¬ ((1 : Int) < 0) := by omega
 unfold Builtin.Slice.sliceAdjust
 simp only [h1, if_false]
 refine Prod.ext ?_ ?_
 ·cases lo with
  | none => rfl
  | some v => exact ZNL v n 0
 ·cases hi with
  | none => rfl
  | some v => exact ZNL v n n
theorem ZNv (i j : Nat) : Builtin.Slice.slicePlaces (i : Int) (j : Int) 1 = j - i := by
 unfold Builtin.Slice.slicePlaces
 have h1 : (1 : Int) > 0 := by omega
 simp only [h1, if_true, Int.ediv_one]
 split <;> omega
theorem ZKC {v : Value} {o : Option Int} {Q : Option Int → Shared → Prop} (p : IsPart v o) (h : Q o s) : wpAny (model prog w) A (Builtin.Slice.slicePartIndex v) Q E s := by
 cases p with
 | none => exact slicePart_none h
 | int i t => exact slicePart_int h
theorem sliceApplied_gen {sl : Addr} {vl vu : Value} {lo hi : Option Int} {n : Nat} {Q : Int × Int × Nat → Shared → Prop} (hs : s.heap.IsSliceOf sl vl vu .none) (pl : IsPart vl lo) (pu : IsPart vu hi)
  (h : Q (((sIx n 0 lo : Nat) : Int), 1, sIx n n hi - sIx n 0 lo) s) : wpAny (model prog w) A (Builtin.Slice.sliceApplied (.ref sl) (pure (n : Int))) Q E s := by
 obtain ⟨os, hos, hcs, hds⟩ := id hs
 unfold Builtin.Slice.sliceApplied Builtin.Slice.sliceFields
 refine wpAny_bind (wpAny_bind (wpAny_field hos hds (x := vl) rfl (wpAny_bind (wpAny_field hos hds (x := vu) rfl (wpAny_bind (wpAny_field hos hds (x := .none) rfl (wpAny_pure ?_)))))))
 refine wpAny_bind (slicePart_none ?_)
 show wpAny _ _ (if ((1 : Int) == 0) = true then _ else _) _ _ s
 rw [if_neg (by decide)]
 refine wpAny_bind (ZKC pl (wpAny_bind (ZKC pu (wpAny_bind (wpAny_pure ?_)))))
 show wpAny _ _ (match Builtin.Slice.sliceAdjust lo hi 1 (n : Int) with | (lo, hi) => pure (lo, (1 : Int), Builtin.Slice.slicePlaces lo hi 1)) _ _ s
 rw [ZNu lo hi n]
 show wpAny _ _ (pure (((sIx n 0 lo : Nat) : Int), (1 : Int), Builtin.Slice.slicePlaces ((sIx n 0 lo : Nat) : Int) ((sIx n n hi : Nat) : Int) 1)) _ _ s
 rw [ZNv]
 exact wpAny_pure h
theorem ZQb (xs : Array Value) (i k : Nat) : ((List.range k).filterMap fun (m : Nat) => xs[((i : Int) + (m : Int) * 1).toNat]?).toArray = ((xs.toList.drop i).take k).toArray := by
 have e : (fun (m : Nat) => xs[((i : Int) + (m : Int) * 1).toNat]?) = fun m => xs[i + m]? := by
  funext m
  have : ((i : Int) + (m : Int) * 1).toNat = i + m := by omega
  rw [this]
 rw [e]
 have := pick_run xs i k
 rw [List.filterMap_map] at this
 have e2 : ((fun x => xs[x]?) ∘ fun x => i + x) = fun m => xs[i + m]? := rfl
 rw [e2] at this
 rw [this]
theorem getItem_tuple_cut {t sl : Addr} {items : Array Value} {vl vu : Value} {lo hi : Option Int} {Q : Value → Shared → Prop} (ht : IsTup s.heap t items) (hs : s.heap.IsSliceOf sl vl vu .none) (pl : IsPart vl lo) (pu : IsPart vu hi)
  (hw : ¬ (sIx items.size 0 lo = 0 ∧ sIx items.size items.size hi = items.size))
  (h : Q (.ref s.heap.objs.size) { s with heap := s.heap.push { cls := .type "tuple", data := .seq ((items.toList.drop (sIx items.size 0 lo)).take (sIx items.size items.size hi - sIx items.size 0 lo)).toArray } })
  (hsz : items.size ≤ sizeLine) : wpAny (model prog w) A (getItem (.ref t) (.ref sl)) Q E s := by
 have htake : sizeOk (.seq ((items.toList.drop (sIx items.size 0 lo)).take (sIx items.size items.size hi - sIx items.size 0 lo)).toArray) := by
  show ((items.toList.drop (sIx items.size 0 lo)).take (sIx items.size items.size hi - sIx items.size 0 lo)).toArray.size ≤ sizeLine
  rw [List.size_toArray, List.length_take, List.length_drop, Array.length_toList]
  omega
 have hj : sIx items.size items.size hi ≤ items.size := ZUa _ _ (Nat.le_refl _) hi
 obtain ⟨os, hos, hcs, hds⟩ := id hs
 have hTs : s.TypeIs (.ref sl) "slice" := ⟨os, hos, hcs⟩
 unfold getItem
 try with_reducible refine wpAny_holding ?_
 first | refine wpAny_bind (wpAny_pure ?_) | skip
 refine wpAny_bind (wpAny_sequenceKey ht.typeIs (by decide) ?_)
 refine wpAny_bind (wpAny_callSpecial?_slot (name := Str.ofString "__getitem__") ht.typeIs PyProof.Rows.slot_tuple_getitem
  (wpAny_call_entry PyProof.Rows.slot_tuple_getitem ht.typeIs entry_tuple_getitem ?_ (args_tuple_getitem _ _)))
 show wpAny _ _ (Builtin.Tuple.tupleItemsOf (.ref t) >>= _) _ _ s
 refine wpAny_bind (tupleItemsOf_ ht ?_)
 refine wpAny_bind (wpAny_typeOf hTs ?_)
 rw [if_pos (by decide)]
 refine wpAny_bind (sliceApplied_gen hs pl pu ?_)
 have hno : ¬ ((((sIx items.size 0 lo : Nat) : Int) == 0 && (1 : Int) == 1 && (sIx items.size items.size hi - sIx items.size 0 lo) == items.size) = true) := by
  intro q
  rw [Bool.and_eq_true, Bool.and_eq_true] at q
  have q1 : ((sIx items.size 0 lo : Nat) : Int) = 0 := eq_of_beq q.1.1
  have q2 : sIx items.size items.size hi - sIx items.size 0 lo = items.size := eq_of_beq q.2
  exact hw ⟨by omega, by omega⟩
 show wpAny _ _ (if (((sIx items.size 0 lo : Nat) : Int) == 0 && (1 : Int) == 1 && (sIx items.size items.size hi - sIx items.size 0 lo) == items.size) = true then _ else _) _ _ s
 rw [if_neg hno, ZQb]
 first
  | exact wpAny_bind (m := Builtin.Tuple.tupleExact _) (wpAny_newObj_type (wpAny_pure ⟨_, rfl, wpAny_pure h⟩) htake)
  | exact wpAny_bind (m := Builtin.Tuple.tupleExact _) (wpAny_newObj_type (wpAny_bind (wpAny_pure (wpAny_pure ⟨_, rfl, wpAny_pure h⟩))) htake)
  | exact wpAny_bind (wpAny_bind (m := Builtin.Tuple.tupleExact _) (wpAny_newObj_type (wpAny_pure (wpAny_pure ⟨_, rfl, wpAny_pure h⟩)) htake))
  | exact wpAny_bind (wpAny_bind (m := Builtin.Tuple.tupleExact _) (wpAny_newObj_type (wpAny_pure ⟨_, rfl, wpAny_pure h⟩) htake))
end
end HT
namespace L2
open PySem PySem.Spec PyProof.Rows
abbrev TO := St → Hp → (Option Int → Hp → Prop) → Prop
def PO (X : Cx) (e : Option Expr) (t : TO) : Prop :=
 ∀ (pins : List (Addr × Obj)) (s : Shared) (σ : St) (H : Hp) (Q : Option Int → Hp → Prop), Inv X pins σ H s → t σ H Q →
  wpAny (model X.prog X.w) X.A (evalPart e X.env) (fun u s' => ∃ o H', Inv X pins σ H' s' ∧ IsPart u o ∧ Q o H') X.xe s
def ZKg : TO := fun _ H Q => Q none H
def ZNw (t : TE) : TO := fun σ H Q => t σ H fun x H1 => ∃ i, x = .int i ∧ Q (some i) H1
section
variable {X : Cx} {e : Expr} {te : TE} {lo hi : Option Expr} {tl th : TO} {pos p2 : Pos}
theorem ZSf : PO X none ZKg := by
 intro pins s σ H Q I h
 rw [evalPart_none]
 exact wpAny_pure ⟨none, H, I, .none, h⟩
theorem ZSg (h : PE X e te) : PO X (some e) (ZNw te) := by
 intro pins s σ H Q I hw
 rw [evalPart_some]
 refine thn (h pins s σ H _ I hw) fun u s1 ⟨x, H1, I1, r1, q1⟩ => ?_
 obtain ⟨i, rfl, q⟩ := q1
 obtain ⟨t, rfl⟩ := r1
 exact ⟨some i, H1, I1, .int i t, q⟩
def SlR (X : Cx) (r : V → Option Int → Option Int → Hp → VK → Prop) : Prop :=
 ∀ (pins : List (Addr × Obj)) (s : Shared) (σ : St) (H : Hp) (x : V) (v vl vu : Value) (lo hi : Option Int) (sl : Addr) (Q : VK), Inv X pins σ H s → ZDy x v → s.heap.IsSliceOf sl vl vu .none → IsPart vl lo → IsPart vu hi → r x lo hi H Q →
  ∃ T id, typeLookup (.type T) "__getitem__" = pure (some (.builtin id)) ∧ s.TypeIs v T ∧ wpAny (model X.prog X.w) X.A (getItem v (.ref sl)) (EP X pins σ Q) X.xe s
def tSl (r : V → Option Int → Option Int → Hp → VK → Prop) (te : TE) (tl th : TO) : TE := fun σ H Q => te σ H fun x H1 => tl σ H1 fun l H2 => th σ H2 fun u H3 => r x l u H3 Q
theorem ZQc {r : V → Option Int → Option Int → Hp → VK → Prop} (hr : SlR X r) (he : PE X e te) (hl : PO X lo tl) (hu : PO X hi th) : PE X (.Subscript e (.Slice lo hi none p2) pos) (tSl r te tl th) := by
 intro pins s σ H Q I h
 refine Subscript_ (thn (he pins s σ H _ I h) fun v s1 ⟨x, H1, I1, r1, q1⟩ => ?_)
 refine wpAny_Slice (thn (hl pins s1 σ H1 _ I1 q1) fun vl s2 ⟨l, H2, I2, pl, q2⟩ => thn (hu pins s2 σ H2 _ I2 q2) fun vu s3 ⟨u, H3, I3, pu, q3⟩ => ?_)
 rw [evalPart_none]
 refine wpAny_pure ?_
 have I4 : Inv X pins σ H3 { s3 with heap := s3.heap.push { cls := .type "slice", data := .fields #[vl, vu, .none] } } := I3.kept (t' := s3.toks) fun b ob q => Heap.get?_push_of_some _ q
 obtain ⟨T, id, hT, ht, hg⟩ := hr pins { s3 with heap := s3.heap.push { cls := .type "slice", data := .fields #[vl, vu, .none] } } σ H3 x v vl vu l u s3.heap.objs.size Q I4 r1 (Heap.IsSliceOf.new ..) pl pu q3
 show wpAny (model X.prog X.w) X.A (subscriptTail e (.Slice lo hi none p2) v (.ref s3.heap.objs.size)) (EP X pins σ Q) X.xe { s3 with heap := s3.heap.push { cls := .type "slice", data := .fields #[vl, vu, .none] } }
 exact tail_any (ops := [.ref s3.heap.objs.size, v]) ht hT hg (by with_unfolding_all rfl)
def ZF6 (xs : List V) (lo hi : Option Int) : List V := (xs.drop (HT.sIx xs.length 0 lo)).take (HT.sIx xs.length xs.length hi - HT.sIx xs.length 0 lo)
theorem ZJN (xs : List V) (lo hi : Option Int) : (ZF6 xs lo hi).length ≤ xs.length := by
 unfold ZF6
 rw [List.length_take, List.length_drop]
 omega
def ZV7 (K : W.Frag) : V → Option Int → Option Int → Hp → VK → Prop := fun x lo hi H Q => ∃ a xs, x = .ref a ∧ SqT K H a xs ∧
 ¬ (HT.sIx xs.length 0 lo = 0 ∧ HT.sIx xs.length xs.length hi = xs.length) ∧ ∀ p, H p = none → Q (.ref p) (upd H p (.tup (ZF6 xs lo hi)))
theorem ZUb : SlR X (ZV7 X.K) := by
 intro pins s σ H x v vl vu lo hi sl Q I rx hs pl pu h
 obtain ⟨a, xs, rfl, hx, hw, q⟩ := h
 cases rx
 obtain ⟨its, r, ht, hz⟩ := I.tuple hx
 have hlen : its.toArray.size = xs.length := by rw [List.size_toArray]; exact r.length.symm
 refine ⟨"tuple", _, PyProof.Rows.slot_tuple_getitem.lookup, ht.typeIs, ?_⟩
 refine HT.getItem_tuple_cut ht hs pl pu (by rw [hlen]; exact hw) ?_ (by rw [hlen]; exact hz)
 rw [hlen]
 refine ⟨.ref s.heap.objs.size, _, I.laid (t' := s.toks) (o := .tup (ZF6 xs lo hi)) (fun b ob q => Heap.get?_push_of_some _ q) (Nat.le_refl _) ?_, rfl, q _ (I.hok.fresh (Nat.le_refl _))⟩
 exact ⟨⟨Nat.le_trans (ZJN xs lo hi) hz, fun _ => ⟨_, Heap.get?_push_size _ rfl, rfl, rfl⟩⟩, _, (r.drop (HT.sIx xs.length 0 lo)).take (HT.sIx xs.length xs.length hi - HT.sIx xs.length 0 lo), IsTup.new _ _⟩
end
def ixN (n : Nat) (i : Int) : Option Nat := if 0 ≤ i then (if i < n then some i.toNat else none) else if -(n : Int) ≤ i then some (i + n).toNat else none
def atI {α : Type} (xs : List α) (i : Int) : Option α := (ixN xs.length i).bind fun j => xs[j]?
theorem ZNM {n : Nat} {i : Int} {j : Nat} (h : ixN n i = some j) : seqIndex? i n = some j ∧ j < n ∧ -(n : Int) ≤ i ∧ i < n := by
 unfold ixN at h
 by_cases h0 : 0 ≤ i
 ·rw [if_pos h0] at h
  by_cases h1 : i < n
  ·rw [if_pos h1] at h
   have e : i.toNat = j := Option.some.inj h
   exact ⟨by rw [seqIndex_of h0 h1, e], by omega, by omega, h1⟩
  ·rw [if_neg h1] at h; cases h
 ·rw [if_neg h0] at h
  by_cases h1 : -(n : Int) ≤ i
  ·rw [if_pos h1] at h
   have e : (i + n).toNat = j := Option.some.inj h
   exact ⟨by rw [seqIndex_neg (by omega) h1, e], by omega, h1, by omega⟩
  ·rw [if_neg h1] at h; cases h
theorem ZNN {α : Type} {xs : List α} {i : Int} {v : α} (h : atI xs i = some v) : ∃ j, seqIndex? i xs.length = some j ∧ xs[j]? = some v ∧ j < xs.length ∧ -(xs.length : Int) ≤ i ∧ i < xs.length := by
 unfold atI at h
 cases e : ixN xs.length i with
 | none => rw [e] at h; cases h
 | some j =>
  rw [e] at h
  obtain ⟨h1, h2, h3, h4⟩ := ZNM e
  exact ⟨j, h1, h, h2, h3, h4⟩
theorem ZKh {α : Type} {xs : List α} {j : Nat} {v : α} (h : xs[j]? = some v) : atI xs (j : Int) = some v := by
 have hj : j < xs.length := (List.getElem?_eq_some_iff.mp h).1
 have e : ixN xs.length (j : Int) = some j := by
  unfold ixN
  rw [if_pos (by omega), if_pos (by omega)]; simp
 unfold atI; rw [e]; exact h
theorem ZQd {α : Type} (xs : List α) (v : α) : atI (xs ++ [v]) (-1) = some v := by
 have hl : (xs ++ [v]).length = xs.length + 1 := by simp
 have e : ixN (xs ++ [v]).length (-1) = some xs.length := by
  unfold ixN
  rw [hl, if_neg (by decide), if_pos (by omega)]
  congr 1
  omega
 unfold atI
 rw [e]
 show (xs ++ [v])[xs.length]? = some v
 simp
def ZNO (b : Expr) : Prop := ∀ o i, subscripted b false o i = operate [o, i] (getItem o i)
def IxR (X : Cx) (r : R2) : Prop :=
 ∀ (value slice : Expr) (pins : List (Addr × Obj)) (s : Shared) (σ : St) (H : Hp) (x y : V) (v u : Value) (Q : VK), Inv X pins σ H s → ZDy x v → ZDy y u → r x y H Q →
  subscripted slice false v u = operate [v, u] (getItem v u) → wpAny (model X.prog X.w) X.A (subscriptTail value slice v u) (EP X pins σ Q) X.xe s
def MtR (X : Cx) (id : String) (r : V → List V → Hp → VK → Prop) : Prop :=
 ∀ (pins : List (Addr × Obj)) (s : Shared) (σ : St) (H : Hp) (x : V) (xs : List V) (v : Value) (us : List Value) (Q : VK), Inv X pins σ H s → ZDy x v → ZD0 xs us → r x xs H Q →
  wpAny (model X.prog X.w) X.A (call (.builtin id) (v :: us)) (EP X pins σ Q) X.xe s
section
variable {X : Cx} {a b : Expr} {ta tb : TE} {pos : Pos}
theorem ZVm {r : R2} (hr : IxR X r) (ha : PE X a ta) (hb : PE X b tb) (hs : ZNO b) : PE X (.Subscript a b pos) (tOp r ta tb) := by
 intro pins s σ H Q I h
 exact Subscript_ (ZQL ha hb I h fun v u s2 x y H2 I2 rx ry q => hr a b pins s2 σ H2 x y v u Q I2 rx ry q (hs _ _))
def ZQe (K : W.Frag) : R2 := fun x y H Q => ∃ p xs i v, x = .ref p ∧ y = .int i ∧ SqL K H p xs ∧ atI xs i = some v ∧ Q v H
def ZQf (K : W.Frag) : R2 := fun x y H Q => ∃ p xs i v, x = .ref p ∧ y = .int i ∧ SqT K H p xs ∧ atI xs i = some v ∧ Q v H
theorem ZSh : IxR X (ZQe X.K) := by
 intro value slice pins s σ H x y v u Q I rx ry h hs
 obtain ⟨p, xs, i, z, rfl, rfl, hq, he, q⟩ := h
 cases rx
 obtain ⟨t, rfl⟩ := ry
 obtain ⟨its, r, pl, hz⟩ := I.list hq
 obtain ⟨j, h1, h2, h3, h4, h5⟩ := ZNN he
 obtain ⟨w, ew, rw'⟩ := r.get h2
 have hl := r.length
 have hn := ZJ5
 have fin : EP X pins σ Q w s := ⟨z, H, I, rw', q⟩
 by_cases h0 : 0 ≤ i
 ·have hj : i.toNat = j := by
   rw [seqIndex_of h0 h5] at h1
   exact Option.some.inj h1
  exact item_listR pl.isList h0 (by omega) (by rw [hj]; simpa using ew) fin hs
 ·have hj : (i + (its.toArray.size : Int)).toNat = j := by
   rw [seqIndex_neg (by omega) h4] at h1
   rw [List.size_toArray, ← hl]
   exact Option.some.inj h1
  exact subscriptTail_builtinR (x := w) pl.isList.typeIs slot_list_getitem.lookup
   (wpAny_getItem_list_neg (Q := fun r s' => r = w ∧ EP X pins σ Q r s') pl.isList (by omega) (by rw [List.size_toArray] <;> omega) (by omega) (by rw [hj]; simpa using ew) ⟨rfl, fin⟩) hs
theorem ZUc : IxR X (ZQf X.K) := by
 intro value slice pins s σ H x y v u Q I rx ry h hs
 obtain ⟨p, xs, i, z, rfl, rfl, hq, he, q⟩ := h
 cases rx
 obtain ⟨t, rfl⟩ := ry
 obtain ⟨its, r, pl, hz⟩ := I.tuple hq
 obtain ⟨j, h1, h2, h3, h4, h5⟩ := ZNN he
 obtain ⟨w, ew, rw'⟩ := r.get h2
 have hl := r.length
 have hn := ZJ5
 have fin : EP X pins σ Q w s := ⟨z, H, I, rw', q⟩
 exact subscriptTail_builtinR (x := w) pl.typeIs slot_tuple_getitem.lookup
  (getItem_tuple (j := j) (Q := fun r s' => r = w ∧ EP X pins σ Q r s') pl (by omega) (by omega) (by rw [List.size_toArray, ← hl]; exact h1) (by simpa using ew) ⟨rfl, fin⟩) hs
theorem ZNx (its : List Value) (n j : Nat) (u : Value) : Obj.mapSeq (·.setIfInBounds j u) { cls := .type "list", data := .seq its.toArray n } = { cls := .type "list", data := .seq (its.set j u).toArray n } := by
 simp [Obj.mapSeq]
theorem Inv.lst {pins : List (Addr × Obj)} {σ : St} {H : Hp} {s : Shared} {p : Addr} {xs : List V} (I : Inv X pins σ H s) (h : H p = some (.lst xs)) :
  ∃ (its : List Value) (n : Nat), ZD0 xs its ∧ s.heap.get? p = some { cls := .type "list", data := .seq its.toArray n } ∧ xs.length ≤ sizeLine := by
 obtain ⟨z, its, n, r, e⟩ := I.hok p _ h
 exact ⟨its, n, r, e, z⟩
theorem Inv.lstUpd {pins : List (Addr × Obj)} {σ : St} {H : Hp} {s : Shared} {p : Addr} {xs ys : List V} {its its' : List Value} {n n' : Nat} {f : Obj → Obj} (I : Inv X pins σ H s) (h : H p = some (.lst xs))
  (ho : s.heap.get? p = some { cls := .type "list", data := .seq its.toArray n }) (hf : f { cls := .type "list", data := .seq its.toArray n } = { cls := .type "list", data := .seq its'.toArray n' }) (r : ZD0 ys its') (hz : ys.length ≤ sizeLine) (t : Nat) :
  Inv X pins σ (upd H p (.lst ys)) { s with heap := s.heap.update p f, toks := t } := by
 have e : (s.heap.update p f).get? p = some { cls := .type "list", data := .seq its'.toArray n' } := by
  rw [Heap.get?_update_self f ho (by rw [hf] <;> rfl), hf]
 refine I.write (x := p) (e := p) (by rw [h]; trivial) (.inl rfl) (fun b u hb q => (Heap.get?_update_other _ _ (Ne.symm hb)).trans q) ⟨_, e⟩ ?_
 exact ⟨hz, its', n', r, e⟩
def ZNy : V → V → V → Hp → (Hp → Prop) → Prop := fun o i v H Q => ∃ p xs k j, o = .ref p ∧ i = .int k ∧ H p = some (.lst xs) ∧ ixN xs.length k = some j ∧ Q (upd H p (.lst (xs.set j v)))
theorem ZJc : ZQC X ZNy := by
 intro pins s σ H o i v ov iv u Q I ro ri rv h
 obtain ⟨p, xs, k, j, rfl, rfl, hp, hj, q⟩ := h
 cases ro
 obtain ⟨t, rfl⟩ := ri
 obtain ⟨its, n, r, ho, hz⟩ := I.lst hp
 obtain ⟨h1, h2, h3, h4⟩ := ZNM hj
 have hl := r.length
 have hn := ZJ5
 have I' : Inv X pins σ (upd H p (.lst (xs.set j v))) { s with heap := s.heap.update p (Obj.mapSeq (·.setIfInBounds j u)) } :=
  I.lstUpd hp ho (ZNx its n j u) (r.set rv j) (by rw [List.length_set]; exact hz) s.toks
 by_cases h0 : 0 ≤ k
 ·have hk : k.toNat = j := by
   rw [seqIndex_of h0 h4] at h1
   exact Option.some.inj h1
  exact PySem.W.ki_setAt ho h0 (by omega) (by rw [List.size_toArray, ← hl]; exact h4) (by rw [hk]; exact ⟨_, I', q⟩)
 ·have hk : (k + (its.toArray.size : Int)).toNat = j := by
   rw [seqIndex_neg (by omega) h3] at h1
   rw [List.size_toArray, ← hl]
   exact Option.some.inj h1
  exact PySem.W.ki_setBack ho (by omega) (by rw [List.size_toArray, ← hl]; exact h3) (by omega) (by rw [hk]; exact ⟨_, I', q⟩)
theorem ZL0 (lo hi : Option Int) (n : Nat) : (sliceBounds lo hi none n).1 = ((HT.sIx n 0 lo : Nat) : Int) ∧ (sliceBounds lo hi none n).2.1 = ((HT.sIx n n hi : Nat) : Int) ∧ (sliceBounds lo hi none n).2.2 = 1 := by
 refine ⟨?_, ?_, rfl⟩
 ·cases lo with
  | none => simp [sliceBounds, HT.sIx]
  | some i =>
   simp only [sliceBounds, HT.sIx, Option.getD_none, show (1 : Int) > 0 by decide, if_true]
   by_cases h : i < 0
   ·simp only [h, if_true] <;> omega
   ·simp only [h, if_false] <;> omega
 ·cases hi with
  | none => simp [sliceBounds, HT.sIx]
  | some i =>
   simp only [sliceBounds, HT.sIx, Option.getD_none, show (1 : Int) > 0 by decide, if_true]
   by_cases h : i < 0
   ·simp only [h, if_true] <;> omega
   ·simp only [h, if_false] <;> omega
theorem ZLX (its : List Value) (lo hi : Option Int) : slicePick its.toArray lo hi none = ((its.drop (HT.sIx its.length 0 lo)).take (HT.sIx its.length its.length hi - HT.sIx its.length 0 lo)).toArray := by
 obtain ⟨h1, h2, h3⟩ := ZL0 lo hi its.toArray.size
 unfold slicePick
 rw [h1, h2, h3]
 simp only [sliceRange_one, pick_run, List.size_toArray] <;> rfl
def ZNz (K : W.Frag) : V → Option Int → Option Int → Hp → VK → Prop := fun x lo hi H Q => ∃ a xs, x = .ref a ∧ SqL K H a xs ∧ ∀ p, H p = none → Q (.ref p) (upd H p (.lst (ZF6 xs lo hi)))
theorem ZSi : SlR X (ZNz X.K) := by
 intro pins s σ H x v vl vu lo hi sl Q I rx hs pl pu h
 obtain ⟨a, xs, rfl, hx, q⟩ := h
 cases rx
 obtain ⟨its, r, ht, hz⟩ := I.list hx
 have hlen := r.length
 refine ⟨"list", _, slot_list_getitem.lookup, ht.isList.typeIs, ?_⟩
 refine wpAny_getItem_list_slice ht.isList hs pl pu .none (by simp) ?_ (by rw [List.size_toArray] <;> omega)
 rw [ZLX, ← hlen]
 refine ⟨.ref s.heap.objs.size, _, I.laid (t' := s.toks) (o := .lst (ZF6 xs lo hi)) (fun b ob q => Heap.get?_push_of_some _ q) (Nat.le_refl _) ?_, rfl, q _ (I.hok.fresh (Nat.le_refl _))⟩
 exact ⟨Nat.le_trans (ZJN xs lo hi) hz, _, 0, (r.drop (HT.sIx xs.length 0 lo)).take (HT.sIx xs.length xs.length hi - HT.sIx xs.length 0 lo), Heap.get?_push_size _ rfl⟩
theorem ZL1 : ZEq X (.builtin "len") (fun xs H Q => ∃ p ys, xs = [.ref p] ∧ (SqL X.K H p ys ∨ SqT X.K H p ys) ∧ Q (.int ys.length) H) := by
 intro pins s σ H xs us Q I r h
 obtain ⟨p, ys, rfl, hq, q⟩ := h
 obtain ⟨u, rfl, rx⟩ := ZNr r
 cases rx
 have hn := ZJ5
 rcases hq with hq | hq
 ·obtain ⟨its, r', pl, hz⟩ := I.list hq
  have hlen := r'.length
  exact Calls.call_len_list pl.isList (by simp only [List.size_toArray] <;> omega) ⟨.int ys.length, H, I.tok _, ⟨s.toks + 1, by rw [List.size_toArray, hlen]⟩, q⟩
 ·obtain ⟨its, r', pl, hz⟩ := I.tuple hq
  have hlen := r'.length
  exact len_tuple pl (by simp only [List.size_toArray] <;> omega) ⟨.int ys.length, H, I.tok _, ⟨s.toks + 1, by rw [List.size_toArray, hlen]⟩, q⟩
theorem ZLY : ZEq X (.type "tuple") (fun xs H Q => ∃ p ys, xs = [.ref p] ∧ ((SqL X.K H p ys ∧ ∀ l, H l = none → Q (.ref l) (upd H l (.tup ys))) ∨ (SqT X.K H p ys ∧ Q (.ref p) H))) := by
 intro pins s σ H xs us Q I r h
 obtain ⟨p, ys, rfl, h⟩ := h
 obtain ⟨u, rfl, rx⟩ := ZNr r
 cases rx
 rcases h with ⟨hq, q⟩ | ⟨hq, q⟩
 ·obtain ⟨its, r', pl, hz⟩ := I.list hq
  have hlen := r'.length
  refine call_tuple_list pl.isList (fun h' kp => ?_) (by simp only [List.size_toArray] <;> omega)
  have I1 : Inv X pins σ H { s with heap := h' } := I.kept (t' := s.toks) kp
  have I2 : Inv X pins σ (upd H h'.objs.size (.tup ys)) { s with heap := h'.push { cls := .type "tuple", data := .seq its.toArray } } :=
   I1.laid (t' := s.toks) (fun b o e => Heap.get?_push_of_some _ e) (Nat.le_refl _) (show ZER X.prog X.w _ _ _ (.tup ys) from ⟨⟨hz, fun _ => ⟨_, Heap.get?_push_size _ rfl, rfl, rfl⟩⟩, its, r', IsTup.new _ _⟩)
  exact ⟨.ref h'.objs.size, _, I2, rfl, q _ (I1.hok.fresh (Nat.le_refl _))⟩
 ·obtain ⟨its, r', pl, hz⟩ := I.tuple hq
  exact call_tuple_same pl ⟨.ref p, H, I, rfl, q⟩
def tyV (K : W.Frag) (T : String) (x : V) (H : Hp) : Prop := match x with
 | .str _ => T = "str"
 | .int _ => T = "int"
 | .ref p => (T = "list" ∧ ∃ xs, SqL K H p xs) ∨ (T = "tuple" ∧ ∃ o, K.lookup p = some o ∧ o.cls = .type "tuple" ∧ o.dict = none) ∨
  (T = "dict" ∧ ((∃ kvs, H p = some (.dK kvs)) ∨ ∃ kvs, H p = some (.dT kvs))) ∨ (T = "set" ∧ ∃ S n, H p = some (.set S n))
 | _ => False
theorem ZUd {pins : List (Addr × Obj)} {σ : St} {H : Hp} {s : Shared} {T : String} {x : V} {v : Value} (I : Inv X pins σ H s) (r : ZDy x v) (ty : tyV X.K T x H) :
  s.TypeIs v T ∧ ∀ a, v = .ref a → ∃ ob, s.heap.get? a = some ob ∧ ob.dict = none := by
 cases x with
 | str z =>
  obtain ⟨t, rfl⟩ := r
  cases (show T = "str" from ty)
  exact ⟨typeIs_str s z t, fun _ e => nomatch e⟩
 | int i =>
  obtain ⟨t, rfl⟩ := r
  cases (show T = "int" from ty)
  exact ⟨typeIs_int s i t, fun _ e => nomatch e⟩
 | ref p =>
  cases r
  rcases ty with ⟨rfl, xs, hq⟩ | ⟨rfl, o, hk, hc, hd⟩ | ⟨rfl, hk⟩ | ⟨rfl, S, n, hk⟩
  ·obtain ⟨its, _, pl, _⟩ := I.list hq
   refine ⟨pl.isList.typeIs, fun a e => ?_⟩
   cases e
   obtain ⟨o, n, e, c, hd, _⟩ := pl
   exact ⟨o, e, hd⟩
  ·refine ⟨⟨o, I.kIn p o hk, hc⟩, fun a e => ?_⟩
   cases e
   exact ⟨o, I.kIn _ o hk, hd⟩
  ·have z : ∃ o, s.heap.get? p = some o ∧ o.ExactDict := by
    rcases hk with ⟨kvs, hk⟩ | ⟨kvs, hk⟩
    ·obtain ⟨_, _, _, _, o, _, _, e, ex, _⟩ := I.hok p _ hk
     exact ⟨o, e, ex⟩
    ·obtain ⟨_, _, _, _, o, _, _, e, ex, _⟩ := I.hok p _ hk
     exact ⟨o, e, ex⟩
   obtain ⟨o, e, ex⟩ := z
   refine ⟨⟨o, e, ex.1⟩, fun a e2 => ?_⟩
   cases e2
   exact ⟨o, e, ex.2.1⟩
  ·obtain ⟨o, _, _, _, e, ex, _⟩ := I.hok p _ hk
   refine ⟨⟨o, e, ex.1⟩, fun a e2 => ?_⟩
   cases e2
   exact ⟨o, e, ex.2.1⟩
 | _ => exact False.elim ty
def tBM (K : W.Frag) (T : String) (r : V → List V → Hp → VK → Prop) (to : TE) (t : TA) : TE := fun σ H Q => to σ H fun x H1 => tyV K T x H1 ∧ t σ H1 fun xs H2 => r x xs H2 Q
variable {o e : Expr} {es : List Expr} {to : TE} {t : TA} {name : Str} {apos cpos : Pos} {T id : String} {r : V → List V → Hp → VK → Prop}
theorem ZVn (pa : PlainAttrs T) (slot : Slot T name id) (hty : typeOf (.builtin id) = pure (.type "method_descriptor")) (hm : MtR X id r) (ho : PE X o to) (ha : PA X (e :: es) t)
  (hbase : attributeBase o name X.env (eval o X.env) = eval o X.env := by rfl)
  (hfew : ((backTo cpos (starEach (e :: es) X.env)).all (fun x => !x.1) && (backToKw cpos (keywordEach [] X.env)).all (fun x => x.1.isSome)
   && decide ((e :: es).length + ([] : List Keyword).length + (if ([] : List Keyword).isEmpty then 0 else 1) < 30)) = true := by rfl)
  (hline : (apos.endLine == cpos.line) = true := by rfl) (hs : starEach (e :: es) X.env = (false, eval e X.env) :: starEach es X.env := by rfl) (hplain : (backTo cpos (starEach es X.env)).any (·.1) = false := by rfl) :
  PE X (.Call (.Attribute o name apos) (e :: es) [] cpos) (tBM X.K T r to t) := by
 intro pins s σ H Q I h
 refine wpAny_Call_method_late hbase hfew hline rfl (thn (ho pins s σ H _ I h) fun v s1 ⟨x, H1, I1, r1, ty, q1⟩ => ?_)
 obtain ⟨h1, h2⟩ := ZUd I1 r1 ty
 refine ⟨T, id, pa, slot, hty, h1, h2, ?_⟩
 have hA := ha cpos pins s1 σ H1 _ I1 q1
 rw [hs] at hA ⊢
 refine Calls.callWith_builtin (by show (false || (backTo cpos (starEach es X.env)).any (·.1)) = false; rw [hplain] <;> rfl) (Calls.evalArgs_plain ?_)
 exact thn hA fun us s2 ⟨vs, H2, I2, r2, q2⟩ => hm pins s2 σ H2 x vs v us Q I2 r1 r2 q2
/- xs.append(e), list.index on a module's tuple .. are MtR facts of 06m -/
end
def MtM (X : Cx) (id : String) (r : V → List V → Hp → VK → Prop) : Prop :=
 ∀ (pins : List (Addr × Obj)) (s : Shared) (σ : St) (H : Hp) (x : V) (xs : List V) (v : Value) (us : List Value) (Q : VK), Inv X pins σ H s → ZDy x v → ZD0 xs us → r x xs H Q →
  wpAny (model X.prog X.w) X.A (call (.builtin id) (v :: us)) (EP X pins σ Q) X.xe s
theorem ZD0.one : ∀ {x : V} {us : List Value}, ZD0 [x] us → ∃ u, us = [u] ∧ ZDy x u
 | _, _, .cons r .nil => ⟨_, rfl, r⟩
theorem ZD0.two : ∀ {x y : V} {us : List Value}, ZD0 [x, y] us → ∃ u v, us = [u, v] ∧ ZDy x u ∧ ZDy y v
 | _, _, _, .cons r (.cons q .nil) => ⟨_, _, rfl, r, q⟩
section
variable {X : Cx} {pins : List (Addr × Obj)} {σ : St} {H : Hp} {s : Shared} {l b : Addr} {xs ys zs : List V}
theorem Inv.lset {its its' : List Value} {n : Nat} {f : Array Value → Array Value} {t' : Nat} (I : Inv X pins σ H s) (hH : H l = some (.lst xs))
  (e : s.heap.get? l = some { cls := .type "list", data := .seq its.toArray n }) (hf : f its.toArray = its'.toArray) (hv : ZD0 ys its') (hz : ys.length ≤ sizeLine) :
  Inv X pins σ (upd H l (.lst ys)) { s with heap := s.heap.update l (Obj.mapSeq f), toks := t' } := by
 have q := PySem.IsL.update e f
 rw [hf] at q
 refine I.write (x := l) (e := l) (by rw [hH]; exact trivial) (.inl rfl) (fun b' u hb hu => (Heap.get?_update_other s.heap (Obj.mapSeq f) (Ne.symm hb)).trans hu) ⟨_, q⟩ ?_
 exact ⟨hz, its', _, hv, q⟩
theorem Inv.lstM (I : Inv X pins σ H s) (hH : H l = some (.lst xs)) : xs.length ≤ sizeLine ∧ ∃ (its : List Value) (n : Nat), ZD0 xs its ∧ xs.length = its.length ∧ s.heap.get? l = some { cls := .type "list", data := .seq its.toArray n } := by
 obtain ⟨z, its, n, r, e⟩ := I.hok l _ hH
 exact ⟨z, its, n, r, r.length, e⟩
theorem ZQg {n : Nat} (h : n ≤ sizeLine) : Builtin.List.listTooLong n = false := by
 unfold Builtin.List.listTooLong
 exact decide_eq_false (by omega)
end
section
variable {X : Cx}
def ZNP : V → List V → Hp → VK → Prop := fun x vs H Q => ∃ l xs y, x = .ref l ∧ vs = [y] ∧ H l = some (.lst xs) ∧ xs.length < sizeLine ∧ Q .non (upd H l (.lst (xs ++ [y])))
theorem ZE2 : MtM X "list.append" ZNP := by
 intro pins s σ H x vs v us Q I rx rv h
 obtain ⟨l, xs, y, rfl, rfl, hH, hz, q⟩ := h
 cases rx
 obtain ⟨u, rfl, ru⟩ := rv.one
 obtain ⟨z, its, n, r, hl, e⟩ := I.lstM hH
 refine call_meets F.slot_list_append ⟨_, e, rfl⟩ F.entry_list_append (F.args_list_append_2 _ _) (PySem.list_append l its.toArray n u (by rw [List.size_toArray]; omega)) ⟨e, ?_⟩
 refine ⟨.non, _, I.lset (its' := its ++ [u]) hH e (by simp) (r.append (.cons ru .nil)) ?_, rfl, q⟩
 rw [List.length_append, List.length_singleton]
 omega
end
section
variable {prog : Program} {w : World} {A : Around} {E : Value → Shared → Prop} {s : Shared}
end
section
variable {X : Cx}
end
end L2
namespace Att
open PySem PySem.W PySem.Calls PyProof.Rows
theorem ZKD {P : Params} {h : Heap} : ∀ (ns : List Int) (vs : List Value), WellAll P h vs (ns.map WData.int) → IntsAre vs ns := by
 intro ns
 induction ns with
 | nil =>
  intro vs w
  rw [List.map_nil] at w
  cases w
  exact .nil
 | cons n ns ih =>
  intro vs w
  rw [List.map_cons] at w
  cases w with
  | cons a b =>
   cases a
   exact .cons _ _ (ih _ b)
theorem ZO3 {l : OpenLaw} {n : Nat} (hn : l.most = some n) {P : Params} {h : Heap} {args : List WData} {vals : List Value}
  (hpre : l.row.toRowW.claim.pre args = true) (hwl : WellAll P h vals args) :
  ∃ a vs ns, vals = [Value.ref a] ∧ args = [WData.list (ns.map WData.int)] ∧ h.get? a = some { cls := .type "list", data := .seq vs.toArray } ∧ IntsAre vs ns ∧ ns.length ≤ n := by
 have hsh : WShape.hasAll [] args [.list .int] = true := (pre_splitW hpre).1
 have hc : l.pre.holds [] { args := args } = true := (pre_splitW hpre).2
 obtain ⟨d, r, rfl, h1, h2⟩ := hasAllW_cons hsh
 obtain rfl := hasAllW_nil h2
 obtain ⟨xs, rfl, h3⟩ := hasW_list h1
 obtain ⟨ns, rfl⟩ := items_int h3
 have hlen : ns.length ≤ n := by
  unfold OpenLaw.pre at hc
  have h4 : (WTm.not (.lt (.lit (.int (n : Int))) (.len (.arg 0)))).holds [] { args := [.list (ns.map .int)] } = true := by
   have h4 := (holds_andW hc).1
   rw [hn] at h4
   exact h4
  have h5 := condW_of h4 (w_not (w_lt w_lit (w_len_list (w_arg rfl))))
  rw [List.length_map] at h5
  refine Nat.le_of_not_lt fun q => ?_
  have q' : (n : Int) < ((ns.length : Nat) : Int) := by omega
  first
   | (rw [decide_eq_true q'] at h5; exact absurd h5 (by decide))
   | (simp at h5; omega)
 cases hwl with
 | cons w1 w2 =>
  cases w2
  cases w1 with
  | list ho hall => exact ⟨_, _, ns, rfl, rfl, ho, ZKD ns _ hall, hlen⟩
theorem ZO4 (l : OpenLaw) (args : List WData) : l.row.toRowW.claim.post args (.bool true) args = true :=
 postW_of (r := l.row.toRowW) (X := (true == true))
  (show WShape.has [] (.bool true) .bool = true by first | rfl | decide | simp [WShape.has, WShape.arms, WShape.armsAll])
  (show (WTm.eq .res (.lit (.bool true))).value [] { args := args, res := some (.bool true), after := args } = some (.bool (true == true)) from w_eq_bool (w_res rfl) w_lit) rfl
theorem attach_call {l : OpenLaw} {n : Nat} {q : Program} {loose : List Str} {XP : (Str → Option Value) → Heap → Prop} {YP : World → Heap → Prop} {d : DefRec}
  (hn : l.most = some n) (hdf : d.params.defaults = [])
  (call : ∀ (w : World) (s₀ s₁ : Shared) (mg mb : Str → Option Value) (fa : Addr) (o : Obj) (pm cd doc : Value) (a : Addr) (vs : List Value) (ns : List Int),
   Ground q loose [] XP w s₀ mg mb s₁.heap → YP w s₁.heap →
   s₁.heap.get? fa = some o → o.data = .func (docDef d.name d.params d.body d.scope pm cd doc) → s₁.heap.CodeRec cd d.name → mg d.name = some (.ref fa) →
   s₁.heap.get? a = some { cls := .type "list", data := .seq vs.toArray } → IntsAre vs ns → ns.length ≤ n → s₁.gens = #[] →
   codeAny (model l.prog w) callerA (.call (.ref fa) ⟨[.ref a], []⟩) (fun r s' => r = .ok (.ret (.bool true)) ∧ OldK s₁.heap s'.heap ∧ s'.os = s₁.os ∧ AllBare s'.gens) s₁) :
  WalkO q loose XP YP l.row.toRowW d [] (fun f vs => PySem.call f vs) := by
 intro w s₀ s₁ mg mb G Y fa o pm cd doc dV kV ho hd hcd hD hmg hg args vals as hpre hlay hrd hwl hlo
 obtain rfl : dV = .none := Dflts.none hD hdf
 obtain rfl : kV = .none := Dflts.noKw hD
 obtain ⟨a, vs, ns, rfl, rfl, hobj, hints, hlen⟩ := ZO3 hn hpre hwl
 refine enter_call (codeAny_mono (call w s₀ s₁ mg mb fa o pm cd doc a vs ns G Y ho (fd_plain hd) hcd hmg hobj hints hlen hg) fun r s' hq => ?_)
 obtain ⟨rfl, h2, h3, h4⟩ := hq
 exact ⟨.inl ⟨.bool true, .bool true, [], rfl, fun _ => rfl, .bool true, ZO4 l _, fun _ => ⟨List.Pairwise.nil, fun _ hm => (nomatch hm)⟩⟩, h2, h3, h4⟩
section
variable {prog : Program} {w : World} {A : Around} {E : Value → Shared → Prop} {s : Shared} {K : Frag}
def ZWI (h : Heap) (L d : Addr) : List (Addr × Obj) := (List.range h.objs.size).filterMap fun a => if a = L ∨ a = d then none else (h.get? a).map fun o => (a, o)
end
end Att
namespace L2
open PySem PySem.Spec PyProof.Rows
theorem ZK9 : ∀ {vs : List Value} {ns : List Int}, IntsAre vs ns → ZD0 (ns.map V.int) vs
 | _, _, .nil => .nil
 | _, _, .cons n t h => .cons ⟨t, rfl⟩ (ZK9 h)
def ZQh (H : Hp) : Prop := ∀ b, H b = none ∨ ∃ o xs, H b = some (.frz o (.lst xs))
theorem ZQi {P : Program} {w : World} {K : W.Frag} {mg mb : Str → Option Value} {CX : CXT} {k : Nat} {fa a : Addr} {fd : FuncData} {x : Str} {sp : Sp} {s₁ : Shared} {vs : List Value} {ns : List Int}
  (KX : K.In s₁.heap) (hns : s₁.heap.Ns mainGlobals mg) (hb : s₁.heap.Ns builtinsNs mb) (hbb : ∀ x : Str, x ≠ "__name__" → mb x = bootBuiltins x) (hlim : s₁.heap.NoLimit) (hg : s₁.gens = #[])
  (ha : s₁.heap.get? a = some { cls := .type "list", data := .seq vs.toArray }) (hi : IntsAre vs ns) (hl : ns.length ≤ sizeLine) (hr : Room k callerA)
  (F : ∀ base : Heap, K.In base → base.Ns mainGlobals mg → ZDw P w K mg base CX k fa fd [x] sp) (hbind : ∀ (s : Shared) (u : Value), BindsTo s fd ⟨[u], []⟩ [(x, u)])
  (hsp : ∀ H : Hp, ZQh H → SqL K H a (ns.map V.int) → sp [.ref a] H (fun v _ => v = .bl true) fun _ _ _ => False)
  (hCX : ∀ H e s', CX [] H s₁ (fun _ _ _ => False) e s' → False) :
  codeAny (model P w) callerA (.call (.ref fa) ⟨[.ref a], []⟩) (fun r s' => r = .ok (.ret (.bool true)) ∧ OldK s₁.heap s'.heap ∧ s'.os = s₁.os ∧ AllBare s'.gens) s₁ := by
 have rv := ZK9 hi
 have lenV := hi.length
 -- from an abstract heap in which nothing but the script may be tracked
 have core : ∀ H : Hp, ZQh H → SqL K H a (ns.map V.int) → HOk P w H s₁.heap → (∀ b, H b ≠ none → b = a) → (H a ≠ none → K.lookup a = none) →
   codeAny (model P w) callerA (.call (.ref fa) ⟨[.ref a], []⟩) (fun r s' => r = .ok (.ret (.bool true)) ∧ OldK s₁.heap s'.heap ∧ s'.os = s₁.os ∧ AllBare s'.gens) s₁ := by
  intro H hO hS hok hA hK
  have base_of : ∀ {b : Addr} {o : Obj}, s₁.heap.get? b = some o → H b = none → (ZH8 s₁.heap H).get? b = some o := fun e n => ZP3 e n
  have noA : ∀ {b : Addr} {o : Obj} {es : Array DictEntry} {ep : Nat}, s₁.heap.get? b = some o → o.data = .dict es ep → H b = none := fun {b o es ep} e d => by
   cases q : H b with
   | none => rfl
   | some u =>
    have e' : b = a := hA b (by rw [q]; simp)
    subst e'
    rw [ha] at e; cases e
    have d' : Data.seq vs.toArray _ = Data.dict es ep := d
    cases d'
  have nsK : ∀ {b : Addr} {m : Str → Option Value}, s₁.heap.Ns b m → (ZH8 s₁.heap H).Ns b m := fun {b m} ⟨o, es, ep, e, d, r⟩ => ⟨o, es, ep, base_of e (noA e d), d, r⟩
  have hKb : K.In (ZH8 s₁.heap H) := fun b o e => base_of (KX b o e) (by
   cases q : H b with
   | none => rfl
   | some u =>
    have e' : b = a := hA b (by rw [q]; simp)
    subst e'
    rw [hK (by rw [q]; simp)] at e; cases e)
  have hM : Mod K mg (ZH8 s₁.heap H) := ⟨hKb, nsK hns, ⟨mb, nsK hb, hbb⟩, let ⟨mc, h1, h2⟩ := hlim; ⟨mc, nsK h1, h2⟩⟩
  have e0 : ZHe P w K mg (ZH8 s₁.heap H) callerA [] s₁ H := ⟨rfl, hM, fun b o e => ZSF e, Nat.le_of_eq (ZOo _ _), trivial, fun b hb => absurd (show b ∈ ([] : List Addr) from hb) (by simp), hok, .of_eq hg⟩
  refine codeAny_mono ((F _ hKb (nsK hns)).run callerA [] s₁ H ⟨[.ref a], []⟩ [.ref a] [.ref a] _ _ hr e0 (hbind s₁ (.ref a)) (.cons rfl .nil) (hsp H hO hS)) fun r s' h => ?_
  cases r with
  | error e => exact (hCX H e s' h).elim
  | ok fl =>
   cases fl with
   | next => exact False.elim h
   | brk => exact False.elim h
   | cont => exact False.elim h
   | ret u =>
    obtain ⟨v, H', os, bare, un, hok', r', q⟩ := h
    have q' : v = .bl true := q
    subst q'
    obtain rfl : u = Value.bool true := r'
    refine ⟨rfl, OldK.of_keep fun b o e => ?_, os, bare⟩
    cases q : H b with
    | none => exact un.keep b o e q (by intro z; exact absurd (show b ∈ ([] : List Addr) from z) (by simp)) (by simp)
    | some u =>
     rcases hO b with z | ⟨ob, xs, z⟩
     ·rw [q] at z; cases z
     ·have z2 := un.frzs b ob _ z
      obtain ⟨e1, _⟩ := hok b _ z
      obtain ⟨e2, _⟩ := hok' b _ z2
      rw [e] at e1; cases e1
      exact e2
 cases hk : K.lookup a with
 | some o =>
  -- the script is one of the module's own objects
  have e := KX a o hk
  rw [ha] at e
  cases e
  refine core (fun _ => none) (fun _ => .inl rfl) (.inr ⟨_, vs.toArray, _, hk, rfl, rfl, rfl, by rw [List.size_toArray, lenV]; exact hl, by simpa using rv⟩) (fun b u z => by have z' : (none : Option HO) = some u := z; cases z') (fun b z => absurd rfl z) fun z => absurd rfl z
 | none =>
  refine core (fun b => if b = a then some (.frz { cls := .type "list", data := .seq vs.toArray } (.lst (ns.map V.int))) else none) (fun b => ?_) (.inl (.inr ⟨{ cls := .type "list", data := .seq vs.toArray }, if_pos rfl⟩)) (fun b u z => ?_) (fun b z => ?_) fun _ => hk
  ·by_cases hb : b = a
   ·exact .inr ⟨_, _, if_pos hb⟩
   ·exact .inl (if_neg hb)
  ·by_cases hb : b = a
   ·have z' := (if_pos hb).symm.trans z
    cases z'
    subst hb
    exact ⟨ha, by rw [List.length_map]; exact hl, vs, _, rv, ha⟩
   ·have z' := (if_neg hb).symm.trans z
    cases z'
  ·by_cases hb : b = a
   ·exact hb
   ·exact absurd (if_neg hb) z
theorem walk_of {l : PySem.W.OpenLaw} {n k : Nat} {q : Program} {loose : List Str} {XP : (Str → Option Value) → Heap → Prop} {YP : World → Heap → Prop} {d : DefRec} {K : Params → W.Frag} {CX : World → CXT} {sp : World → Sp} {x : Str}
  (hn : l.most = some n) (hn2 : n ≤ sizeLine) (hdf : d.params.defaults = []) (hr : Room k callerA)
  (hY : ∀ (w : World) (h : Heap), YP w h → (K w.params).In h)
  (F : ∀ (w : World) (mg : Str → Option Value) (fa : Addr) (h : Heap), (K w.params).In h → h.Ns mainGlobals mg → mg d.name = some (.ref fa) →
   ∃ fd : FuncData, (∀ (s : Shared) (u : Value), BindsTo s fd ⟨[u], []⟩ [(x, u)]) ∧
    ∀ base : Heap, (K w.params).In base → base.Ns mainGlobals mg → ZDw l.prog w (K w.params) mg base (CX w) k fa fd [x] (sp w))
  (hsp : ∀ (w : World) (H : Hp) (a : Addr) (ns : List Int), ns.length ≤ n → ZQh H → SqL (K w.params) H a (ns.map V.int) → sp w [.ref a] H (fun v _ => v = .bl true) fun _ _ _ => False)
  (hCX : ∀ (w : World) (H : Hp) (s : Shared) (e : Value) (s' : Shared), CX w [] H s (fun _ _ _ => False) e s' → False) :
  PySem.W.WalkO q loose XP YP l.row.toRowW d [] (fun f vs => PySem.call f vs) := by
 refine Att.attach_call hn hdf fun w s₀ s₁ mg mb fa o pm cd doc a vs ns G Y ho hd hcd hmg hobj hints hlen hg => ?_
 have KX := hY w _ Y
 obtain ⟨fd, hb, hF⟩ := F w mg fa _ KX G.T.g hmg
 exact ZQi KX G.T.g G.T.b G.T.builtins G.T.nolimit hg hobj hints (Nat.le_trans hlen hn2) hr hF hb (fun H hO hS => hsp w H a ns hlen hO hS) fun H e s' => hCX w H s₁ e s'
end L2
/- THE LAST THEOREM (shape; LID, My.* are yours):
 My.Adr: a structure of the addresses that your layer names (classes, functions); My.Txt K t: a structure (Prop) of the equations over K;
 My.txt_mk : {K} {implicit addresses ..} (e1 : nsIn K mainGlobals "law" = some (some (.ref f))) (e2 : K.lookup f = some ⟨oc, od, .func (fnOf "law" "law" params body scope dV kV doc pm an cdv ct), sl⟩) (e3 : codeIn K cdv "law" = true) .. : ∃ t, My.Txt K t
(the tactic k_is has no namespace: write k_is) -/
namespace L2
open PySem PySem.Spec PyProof.Rows
def ZED (s : Stmt) (j : Nat) : Stmt := match s with
 | .ClassDef _ _ _ body _ _ _ _ _ _ _ => body.getD j (.Pass ⟨0, 0, 0, 0⟩)
 | _ => .Pass ⟨0, 0, 0, 0⟩
def ZEf (s : Stmt) : Arguments := match s with
 | .FunctionDef _ a _ _ _ _ _ _ _ _ => a
 | _ => { posonlyargs := [], args := [], vararg := none, kwonlyargs := [], kw_defaults := [], kwarg := none, defaults := [] }
def ZEY (s : Stmt) : List Stmt := match s with
 | .FunctionDef _ _ b _ _ _ _ _ _ _ => b
 | _ => []
def ZDl (s : Stmt) : Scope := match s with
 | .FunctionDef _ _ _ _ _ _ sc _ _ _ => sc
 | _ => { kind := .function, names := [], isGenerator := false, isCoroutine := false }
abbrev CX0 : CXT := fun _ _ _ _ _ _ => False
abbrev E0 : XK := fun _ _ _ => False
theorem ZEa {X : Cx} : ZE7 CX0 X E0 := fun _ _ _ _ _ _ _ h => h.elim
structure Fun (K : W.Frag) (x qual : Str) (st : Stmt) (f : Addr) (fd : FuncData) : Prop where
 ex : ∃ (oc : Value) (od : Option Addr) (kV doc pm : Value) (an : Option Addr) (cdv ct : Value) (osl : Array (Option Value)),
  fd = W.fnOf x qual (ZEf st) (ZEY st) (ZDl st) .none kV doc pm an cdv ct ∧ K.lookup f = some ⟨oc, od, .func fd, osl⟩ ∧ W.codeIn K cdv qual = true
 kp : W.keepIn K (.ref f) = true
section
variable {P : Program} {w : World} {K : W.Frag} {mg : Str → Option Value} {base : Heap}
theorem Fun.ok {x qual : Str} {st : Stmt} {f : Addr} {fd : FuncData} {N ps : List Str} {k : Nat} {sp : Sp} (F : Fun K x qual st f fd) (S : ZDs N ps (ZDl st)) (len : ∀ vs H Q E, sp vs H Q E → vs.length = ps.length)
  (hbody : ∀ (cdv : Value) (A : Around) (outer : List Env) (s : Shared) (H : Hp) (vs : List V) (Q : VK) (E : XK), Room k (A.deeper (envOfC qual (ZDl st) s.heap.objs.size f cdv)) → sp vs H Q E →
   ∃ t, PSs (ZJb CX0 P w K mg base N qual (ZDl st) f cdv A outer s H E).nox (ZEY st) t ∧ t { nx := fun _ H' => Q .non H', rt := Q } (start N vs) H) : ZDw P w K mg base CX0 (k + 1) f fd ps sp := by
 obtain ⟨oc, od, kV, doc, pm, an, cdv, ct, osl, rfl, lk, hcd⟩ := F.ex
 refine ZR0 lk hcd S len fun A outer s H vs Q E hr hsp => ?_
 obtain ⟨t, h, q⟩ := hbody cdv A outer s H vs Q E hr hsp
 exact ⟨t, h.nox, q⟩
theorem Fun.binds {x qual : Str} {st : Stmt} {f : Addr} {fd : FuncData} {ps : List Str} (F : Fun K x qual st f fd)
  (h : ∀ (kV doc pm : Value) (an : Option Addr) (cdv ct : Value) (us : List Value), us.length = ps.length → bindArgs (W.fnOf x qual (ZEf st) (ZEY st) (ZDl st) .none kV doc pm an cdv ct) ⟨us, []⟩ = pure (ps.zip us)) : ZDo K fd ps [] := by
 obtain ⟨oc, od, kV, doc, pm, an, cdv, ct, osl, rfl, lk, hcd⟩ := F.ex
 exact .all (h kV doc pm an cdv ct)
theorem fun_mk {x qual : Str} {st : Stmt} {f : Addr} {oc : Value} {od an : Option Addr} {osl : Array (Option Value)} {kV doc pm cdv ct : Value} (l : K.lookup f = some ⟨oc, od, .func (W.fnOf x qual (ZEf st) (ZEY st) (ZDl st) .none kV doc pm an cdv ct), osl⟩)
 (c : W.codeIn K cdv qual = true) (k : W.keepIn K (.ref f) = true) : Fun K x qual st f (W.fnOf x qual (ZEf st) (ZEY st) (ZDl st) .none kV doc pm an cdv ct) := ⟨⟨oc, od, kV, doc, pm, an, cdv, ct, osl, rfl, l, c⟩, k⟩
end
theorem ZGI {A : Around} {k : Nat} (hr : Room k A) : A.units + 1 < cLine := Nat.lt_of_le_of_lt (Nat.add_le_add_left (by decide : 1 ≤ 64) _) hr.units
section
variable {X : Cx}
end
theorem ZE0 {A B : Prop} (h : B) : if false = true then A else B := by
 rw [if_neg Bool.false_ne_true]
 exact h
theorem ZFF {A B : Prop} (h : A) : if true = true then A else B := by
 rw [if_pos rfl]
 exact h
def ZDn (H H' : Hp) : Prop := ∀ b o, H b = some o → H' b = some o
theorem ZDn.refl (H : Hp) : ZDn H H := fun _ _ h => h
theorem ZDn.trans {H H1 H2 : Hp} (a : ZDn H H1) (b : ZDn H1 H2) : ZDn H H2 := fun c o h => b c o (a c o h)
theorem ZDn.free {H H' : Hp} (e : ZDn H H') {l : Addr} (h : H' l = Option.none) : H l = Option.none := by
 cases q : H l with
 | none => rfl
 | some o =>
  rw [e l o q] at h
  cases h
theorem ZDn.seq {K : W.Frag} {H H' : Hp} {a : Addr} {xs : List V} (e : ZDn H H') (h : SqL K H a xs) : SqL K H' a xs := by
 rcases h with (h | ⟨o, h⟩) | h
 ·exact .inl (.inl (e _ _ h))
 ·exact .inl (.inr ⟨o, e _ _ h⟩)
 ·exact .inr h
end L2
namespace L2
open PySem PySem.Spec PyProof.Rows PySem.W
def evT (c : Nat → Nat → Bool) {α : Type} : KasT α → α
 | .ret a => a
 | .ask i j k => evT c (k (c i j))
theorem ZGW (c : Nat → Nat → Bool) {α β : Type} (f : α → KasT β) : ∀ t : KasT α, evT c (t.bind f) = evT c (f (evT c t))
 | .ret _ => rfl
 | .ask i j k => ZGW c f (k (c i j))
abbrev gt0 (p : Array Nat) (i : Nat) : Nat := p.getD i 0
section
variable {c : Nat → Nat → Bool} {n : Nat}
structure Ord (c : Nat → Nat → Bool) (n : Nat) : Prop where
 tr : ∀ i j k, c i j = true → c j k = true → c i k = true
 asy : ∀ i j, c i j = true → c j i = false
 tot : ∀ i j, i < n → j < n → i ≠ j → c i j = false → c j i = true
structure Ixs (p : Array Nat) (n : Nat) : Prop where
 size : p.size = n
 lt : ∀ i, i < n → gt0 p i < n
 inj : ∀ i j, i < n → j < n → gt0 p i = gt0 p j → i = j
theorem ZKE {p : Array Nat} {i v : Nat} (h : p[i]? = some v) : gt0 p i = v := by
 simp [gt0, h]
theorem ZGA {p : Array Nat} {i : Nat} (h : i < p.size) : p[i]? = some (gt0 p i) := by
 simp [gt0, h]
theorem Ixs.of_perm {p : Array Nat} (h : p.toList.Perm (List.range n)) : Ixs p n := by
 have hs : p.size = n := by have := h.length_eq; simpa using this
 refine ⟨hs, fun i hi => ?_, fun i j hi hj e => ?_⟩
 ·have hm : gt0 p i ∈ p.toList := by
   have := ZGA (p := p) (i := i) (by omega)
   exact Array.mem_toList_iff.mpr (Array.mem_of_getElem? this)
  exact List.mem_range.mp (h.mem_iff.mp hm)
 ·have hn : p.toList.Nodup := h.nodup_iff.mpr List.nodup_range
  have h1 : p.toList[i]? = some (gt0 p i) := by rw [Array.getElem?_toList]; exact ZGA (by omega)
  have h2 : p.toList[j]? = some (gt0 p i) := by rw [Array.getElem?_toList, e]; exact ZGA (by omega)
  have hi' : i < p.toList.length := by simp; omega
  have hj' : j < p.toList.length := by simp; omega
  rw [List.getElem?_eq_getElem hi'] at h1
  rw [List.getElem?_eq_getElem hj'] at h2
  have hpw := List.pairwise_iff_getElem.mp (List.nodup_iff_pairwise_ne.mp hn)
  have ee : p.toList[i] = p.toList[j] := by rw [Option.some.inj h1, Option.some.inj h2]
  rcases Nat.lt_trichotomy i j with z | z | z
  ·exact absurd ee (hpw i j hi' hj' z)
  ·exact z
  ·exact absurd ee.symm (hpw j i hj' hi' z)
def Up (c : Nat → Nat → Bool) (p : Array Nat) (m : Nat) : Prop := ∀ a b, a < b → b < m → c (gt0 p a) (gt0 p b) = true
theorem ZJO (O : Ord c n) {p : Array Nat} {m : Nat} (h : ∀ i, 1 ≤ i → i < m → c (gt0 p (i - 1)) (gt0 p i) = true) : Up c p m := by
 intro a b hab hb
 obtain ⟨d, rfl⟩ := Nat.exists_eq_add_of_lt hab
 induction d with
 | zero => have := h (a + 1) (by omega) hb; simpa using this
 | succ d ih =>
  have h1 := ih (by omega) (by omega)
  have h2 := h (a + (d + 1) + 1) (by omega) hb
  have e : a + (d + 1) + 1 - 1 = a + d + 1 := by omega
  rw [e] at h2
  exact O.tr _ _ _ h1 h2
theorem ZKF (p : Array Nat) : ∀ (f a : Nat), a ≤ evT c (kas_asc p f a) ∧ evT c (kas_asc p f a) ≤ a + f ∧ (∀ i, a ≤ i → i < evT c (kas_asc p f a) → c (gt0 p i) (gt0 p (i - 1)) = false) ∧
  (evT c (kas_asc p f a) = a + f ∨ c (gt0 p (evT c (kas_asc p f a))) (gt0 p (evT c (kas_asc p f a) - 1)) = true)
 | 0, a => ⟨Nat.le_refl _, Nat.le_refl _, fun i h1 h2 => absurd h2 (by show ¬ i < a; omega), .inl rfl⟩
 | f + 1, a => by
  have e : evT c (kas_asc p (f + 1) a) = evT c (if c (gt0 p a) (gt0 p (a - 1)) = true then KasT.ret a else kas_asc p f (a + 1)) := rfl
  rw [e]
  cases hc : c (gt0 p a) (gt0 p (a - 1)) with
  | true =>
   rw [if_pos rfl]
   exact ⟨Nat.le_refl _, Nat.le_add_right _ _, fun i h1 h2 => absurd h2 (by show ¬ i < a; omega), .inr hc⟩
  | false =>
   rw [if_neg (by decide)]
   obtain ⟨h1, h2, h3, h4⟩ := ZKF p f (a + 1)
   refine ⟨by omega, by omega, fun i g1 g2 => ?_, ?_⟩
   ·by_cases z : i = a
    ·rw [z]; exact hc
    ·exact h3 i (by omega) g2
   ·rcases h4 with h4 | h4
    ·left; omega
    ·right; exact h4
theorem ZNQ (O : Ord c n) {p : Array Nat} (P : Ixs p n) : ∀ (f a : Nat), 1 ≤ a → a + f ≤ n → ∃ m, evT c (kas_desc f p a 0) = (p, m, 0) ∧ a ≤ m ∧ m ≤ a + f ∧ ∀ i, a ≤ i → i < m → c (gt0 p i) (gt0 p (i - 1)) = true
 | 0, a, _, _ => ⟨a, rfl, Nat.le_refl _, Nat.le_refl _, fun i h1 h2 => absurd h2 (by omega)⟩
 | f + 1, a, h1, h2 => by
  have e : evT c (kas_desc (f + 1) p a 0) = evT c (if c (gt0 p a) (gt0 p (a - 1)) = true then (if 0 > 0 then kas_desc f (kas_rev p (a - (0 + 1)) a) (a + 1) 0 else kas_desc f p (a + 1) 0)
   else .ask (p.getD (a - 1) 0) (p.getD a 0) fun d => if d = true then .ret (p, a, 0) else kas_desc f p (a + 1) (0 + 1)) := rfl
  rw [e]
  cases hc : c (gt0 p a) (gt0 p (a - 1)) with
  | true =>
   rw [if_pos rfl, if_neg (by decide)]
   obtain ⟨m, g1, g2, g3, g4⟩ := ZNQ O P f (a + 1) (by omega) (by omega)
   refine ⟨m, g1, by omega, by omega, fun i k1 k2 => ?_⟩
   by_cases z : i = a
   ·rw [z]; exact hc
   ·exact g4 i (by omega) k2
  | false =>
   rw [if_neg (by decide)]
   have hd : c (gt0 p (a - 1)) (gt0 p a) = true := O.tot _ _ (P.lt _ (by omega)) (P.lt _ (by omega)) (fun z => by have := P.inj _ _ (by omega) (by omega) z; omega) hc
   have e2 : evT c (KasT.ask (p.getD (a - 1) 0) (p.getD a 0) fun d => if d = true then KasT.ret (p, a, 0) else kas_desc f p (a + 1) (0 + 1)) = evT c (if c (gt0 p (a - 1)) (gt0 p a) = true then KasT.ret (p, a, 0) else kas_desc f p (a + 1) (0 + 1)) := rfl
   rw [e2, hd, if_pos rfl]
   exact ⟨a, rfl, Nat.le_refl _, by omega, fun i k1 k2 => absurd k2 (by omega)⟩
theorem ZL2 (p : Array Nat) (i j : Nat) : (kas_rev p i j).toList.Perm p.toList := Array.perm_iff_toList_perm.mp (mirror_perm p i j _)
theorem ZNR {p : Array Nat} {m : Nat} (hm : m ≤ p.size) (k : Nat) (hk : k < m) : gt0 (kas_rev p 0 m) k = gt0 p (m - 1 - k) := by
 refine ZKE ?_
 have e : (kas_rev p 0 m)[k]? = if 0 ≤ k ∧ k < m then p[0 + m - 1 - k]? else p[k]? := getElem?_mirror_all (i := 0) hm k
 rw [e, if_pos ⟨by omega, hk⟩]
 have e2 : 0 + m - 1 - k = m - 1 - k := by omega
 rw [e2]
 exact ZGA (by omega)
theorem ZNS (O : Ord c n) {p : Array Nat} (P : Ixs p n) {m f : Nat} (h1 : 1 ≤ m) (h : Up c p m) (hf : m + f ≤ n) : Up c p (evT c (kas_asc p f m)) := by
 obtain ⟨g1, g2, g3, _⟩ := ZKF (c := c) p f m
 refine ZJO O fun i hi1 hi2 => ?_
 by_cases z : i < m
 ·exact h (i - 1) i (by omega) z
 ·have := g3 i (by omega) hi2
  exact O.tot _ _ (P.lt _ (by omega)) (P.lt _ (by omega)) (fun e => by have := P.inj _ _ (by omega) (by omega) e; omega) this
theorem ZQj (O : Ord c n) {p : Array Nat} (hp : p.toList.Perm (List.range n)) (hn : 1 ≤ n) : (evT c (kas_count n p)).2.toList.Perm (List.range n) ∧ 1 ≤ (evT c (kas_count n p)).1 ∧ (evT c (kas_count n p)).1 ≤ n ∧ Up c (evT c (kas_count n p)).2 (evT c (kas_count n p)).1 := by
 have P := Ixs.of_perm hp
 unfold kas_count
 rw [ZGW]
 obtain ⟨g1, g2, g3, g4⟩ := ZKF (c := c) p (n - 1) 1
 have hup := ZNS O P (m := 1) (f := n - 1) (Nat.le_refl _) (fun a b h1 h2 => by omega) (by omega)
 generalize hm : evT c (kas_asc p (n - 1) 1) = m at *
 by_cases h1 : (m == n) = true
 ·rw [if_pos h1]
  exact ⟨hp, g1, by show m ≤ n; omega, hup⟩
 ·rw [if_neg h1]
  have hmn : m < n := by
   have : m ≠ n := fun z => h1 (by simp [z])
   omega
  by_cases h2 : m > 1
  ·rw [if_pos h2]
   have hc : c (gt0 p 0) (gt0 p (m - 1)) = true := hup 0 (m - 1) (by omega) (by omega)
   have e : evT c (KasT.ask (p.getD 0 0) (p.getD (m - 1) 0) fun c => if c = true then KasT.ret (m, p) else kas_descPart m n (kas_rev p 0 m)) = evT c (if c (gt0 p 0) (gt0 p (m - 1)) = true then KasT.ret (m, p) else kas_descPart m n (kas_rev p 0 m)) := rfl
   rw [e, hc, if_pos rfl]
   exact ⟨hp, by show 1 ≤ m; omega, by show m ≤ n; omega, hup⟩
  ·rw [if_neg h2]
   have hm1 : m = 1 := by omega
   subst hm1
   have h10 : c (gt0 p 1) (gt0 p 0) = true := by
    rcases g4 with g4 | g4
    ·omega
    ·exact g4
   unfold kas_descPart
   rw [ZGW]
   obtain ⟨m, k1, k2, k3, k4⟩ := ZNQ O P (n - (1 + 1)) (1 + 1) (by omega) (by omega)
   rw [k1]
   rw [if_neg (show ¬ ((p, m, 0) : Array Nat × Nat × Nat).2.2 > 0 by show ¬ 0 > 0; omega)]
   show (evT c (kas_tail3 m n p)).2.toList.Perm (List.range n) ∧ _
   unfold kas_tail3
   rw [ZGW]
   have hrp : (kas_rev p 0 m).toList.Perm (List.range n) := (ZL2 p 0 m).trans hp
   have R := Ixs.of_perm hrp
   have hupr : Up c (kas_rev p 0 m) m := by
    refine ZJO O fun i hi1 hi2 => ?_
    rw [ZNR (by rw [P.size]; omega) _ (by omega), ZNR (by rw [P.size]; omega) _ hi2]
    have e : m - 1 - (i - 1) = m - i := by omega
    have e2 : m - 1 - i = m - i - 1 := by omega
    rw [e, e2]
    by_cases z : m - i = 1
    ·rw [z]; exact h10
    ·exact k4 (m - i) (by omega) (by omega)
   have hfin := ZNS O R (m := m) (f := n - m) (by omega) hupr (by omega)
   obtain ⟨q1, q2, _, _⟩ := ZKF (c := c) (kas_rev p 0 m) (n - m) m
   exact ⟨hrp, by show 1 ≤ evT c _; omega, by show evT c _ ≤ n; omega, hfin⟩
theorem ZJd (O : Ord c n) {p : Array Nat} (P : Ixs p n) {k : Nat} (hk : k < n) (h : Up c p k) : ∀ (f l r : Nat), l ≤ r → r ≤ k → r - l ≤ f → (∀ i, i < l → c (gt0 p i) (gt0 p k) = true) → (∀ i, r ≤ i → i < k → c (gt0 p k) (gt0 p i) = true) →
  ∃ m, evT c (kas_place p k f l r) = m ∧ m ≤ k ∧ (∀ i, i < m → c (gt0 p i) (gt0 p k) = true) ∧ (∀ i, m ≤ i → i < k → c (gt0 p k) (gt0 p i) = true)
 | 0, l, r, h1, h2, h3, h4, h5 => ⟨l, rfl, by omega, h4, fun i g1 g2 => h5 i (by omega) g2⟩
 | f + 1, l, r, h1, h2, h3, h4, h5 => by
  by_cases hlr : l ≥ r
  ·have e : evT c (kas_place p k (f + 1) l r) = l := by
    show evT c (if l ≥ r then KasT.ret l else _) = l
    rw [if_pos hlr]
    rfl
   exact ⟨l, e, by omega, h4, fun i g1 g2 => h5 i (by omega) g2⟩
  ·have e : evT c (kas_place p k (f + 1) l r) = evT c (if c (gt0 p k) (gt0 p ((l + r) / 2)) = true then kas_place p k f l ((l + r) / 2) else kas_place p k f ((l + r) / 2 + 1) r) := by
    show evT c (if l ≥ r then KasT.ret l else _) = _
    rw [if_neg hlr]
    rfl
   rw [e]
   cases hc : c (gt0 p k) (gt0 p ((l + r) / 2)) with
   | true =>
    rw [if_pos rfl]
    refine ZJd O P hk h f l ((l + r) / 2) (by omega) (by omega) (by omega) h4 fun i g1 g2 => ?_
    by_cases z : i = (l + r) / 2
    ·rw [z]; exact hc
    ·exact O.tr _ _ _ hc (h ((l + r) / 2) i (by omega) g2)
   | false =>
    rw [if_neg (by decide)]
    have hd : c (gt0 p ((l + r) / 2)) (gt0 p k) = true := O.tot _ _ (P.lt _ hk) (P.lt _ (by omega)) (fun z => by have := P.inj _ _ hk (by omega) z; omega) hc
    refine ZJd O P hk h f ((l + r) / 2 + 1) r (by omega) h2 (by omega) (fun i g1 => ?_) h5
    by_cases z : i = (l + r) / 2
    ·rw [z]; exact hd
    ·exact O.tr _ _ _ (h i ((l + r) / 2) (by omega) (by omega)) hd
theorem ZNT {p : Array Nat} {k l : Nat} (hk : k < p.size) (hl : l ≤ k) (i : Nat) (hi : i < p.size) : gt0 (bubble p k (k - l)) i = if i = l then gt0 p k else if l < i ∧ i ≤ k then gt0 p (i - 1) else gt0 p i := by
 refine ZKE ?_
 rw [getElem?_bubble hk (k - l) (by omega)]
 have e : k - (k - l) = l := by omega
 rw [e]
 by_cases h1 : i = l
 ·rw [if_pos h1, if_pos h1]; exact ZGA hk
 ·rw [if_neg h1, if_neg h1]
  by_cases h2 : l < i ∧ i ≤ k
  ·rw [if_pos h2, if_pos h2]; exact ZGA (by omega)
  ·rw [if_neg h2, if_neg h2]; exact ZGA hi
theorem ZO5 (O : Ord c n) : ∀ (f : Nat) (p : Array Nat) (k : Nat), p.toList.Perm (List.range n) → k + f = n → Up c p k → (evT c (kas_bin f p k)).toList.Perm (List.range n) ∧ Up c (evT c (kas_bin f p k)) n
 | 0, p, k, hp, hk, h => by
  have e : k = n := by omega
  refine ⟨hp, ?_⟩
  show Up c p n
  rw [← e]
  exact h
 | f + 1, p, k, hp, hk, h => by
  have P := Ixs.of_perm hp
  show (evT c ((kas_place p k k 0 k).bind fun l => kas_bin f (bubble p k (k - l)) (k + 1))).toList.Perm (List.range n) ∧ Up c (evT c ((kas_place p k k 0 k).bind fun l => kas_bin f (bubble p k (k - l)) (k + 1))) n
  rw [ZGW]
  obtain ⟨m, e, g1, g2, g3⟩ := ZJd O P (k := k) (by omega) h k 0 k (by omega) (Nat.le_refl _) (by omega) (fun i hi => by omega) (fun i h1 h2 => by omega)
  rw [e]
  refine ZO5 O f (bubble p k (k - m)) (k + 1) ((Array.perm_iff_toList_perm.mp (bubble_perm p k _)).trans hp) (by omega) fun a b hab hb => ?_
  rw [ZNT (by rw [P.size]; omega) g1 a (by rw [P.size]; omega), ZNT (by rw [P.size]; omega) g1 b (by rw [P.size]; omega)]
  by_cases ha : a = m
  ·rw [if_pos ha, if_neg (by omega), if_pos ⟨by omega, by omega⟩]
   exact g3 (b - 1) (by omega) (by omega)
  ·rw [if_neg ha]
   by_cases hb2 : b = m
   ·rw [if_pos hb2, if_neg (by omega)]
    exact g2 a (by omega)
   ·rw [if_neg hb2]
    by_cases ha3 : m < a ∧ a ≤ k
    ·rw [if_pos ha3, if_pos ⟨by omega, by omega⟩]
     exact h (a - 1) (b - 1) (by omega) (by omega)
    ·rw [if_neg ha3]
     by_cases hb3 : m < b ∧ b ≤ k
     ·rw [if_pos hb3]
      by_cases z : a = b - 1
      ·omega
      ·exact h a (b - 1) (by omega) (by omega)
     ·rw [if_neg hb3]
      exact h a b hab (by omega)
theorem ZSj (O : Ord c n) (hn : 1 ≤ n) : (evT c (kas_sort n)).toList.Perm (List.range n) ∧ Up c (evT c (kas_sort n)) n := by
 unfold kas_sort
 rw [ZGW]
 obtain ⟨h1, h2, h3, h4⟩ := ZQj O (p := List.toArray (List.range n)) (List.Perm.refl _) hn
 generalize evT c (kas_count n (List.toArray (List.range n))) = r at *
 by_cases h : r.1 < n
 ·rw [if_pos h]
  have e : max r.1 1 = r.1 := by omega
  rw [e]
  exact ZO5 O (n - r.1) r.2 r.1 h1 (by omega) h4
 ·rw [if_neg h]
  refine ⟨h1, ?_⟩
  have e : r.1 = n := by omega
  rw [e] at h4
  exact h4
end
section
variable {X : Cx}
theorem ZEE : OpR X (binaryOp .Mult) (rI IntMulOk fun i j => .int (i * j)) := opI fun _ _ _ _ _ _ _ hc q => mul_int q hc
def ZHV (_ j : Int) : Prop := 0 < j ∧ j.natAbs.log2 < 9000
theorem ZFf : OpR X (binaryOp .FloorDiv) (rI ZHV fun i j => .int (i / j)) := opI fun i j _ _ _ _ _ hc q => by
 have h1 : (0 : Int) < j := hc.1
 exact floordiv_int (by omega) (by rw [Int.fdiv_eq_ediv_of_nonneg i (by omega)]; exact q) (.inl (PyProof.noPylong_of_log2 hc.2))
theorem ZHV.of {i j : Int} (h : 0 < j) {k : Nat} (h2 : j < 2 ^ k) (hk : k ≤ 9000) : ZHV i j := by
 refine ⟨h, ?_⟩
 have h3 : j.natAbs < 2 ^ k := by
  have e : ((j.natAbs : Nat) : Int) = j := by omega
  have e2 : ((2 ^ k : Nat) : Int) = (2 : Int) ^ k := by simp
  have : ((j.natAbs : Nat) : Int) < ((2 ^ k : Nat) : Int) := by rw [e, e2]; exact h2
  exact Int.ofNat_lt.mp this
 have h4 : j.natAbs.log2 < k := (Nat.log2_lt (by omega)).mpr h3
 omega
theorem ZUe {i j : Int} (h1 : -(2 ^ 64) < i) (h2 : i < 2 ^ 64) : IntMulOk i j := .of_left (intBits_le_64 h1 h2)
theorem ZV8 {i j : Int} (h1 : -(2 ^ 64) < j) (h2 : j < 2 ^ 64) : IntMulOk i j := .of_right (intBits_le_64 h1 h2)
end
section
variable {X : Cx}
end
section
variable {X : Cx}
end
section
variable {X : Cx}
def ZQk (K : W.Frag) : List V → Hp → VK → Prop := fun xs H Q => ∃ x n t b, xs = [x, .ty n] ∧ ZGH K H x t ∧ W.kitOne K t (.type n) = some b ∧ Q (.bl b) H
theorem ZQl : ZEq X (.builtin "isinstance") (ZQk X.K) := by
 intro pins s σ H xs us Q I r h
 obtain ⟨x, n, t, b, rfl, ty, e, q⟩ := h
 obtain ⟨u, v, rfl, ru, rv⟩ := r.two
 obtain rfl : v = Value.type n := rv
 exact ZO0 I ru ty e fun tk => ⟨.bl b, H, I.tok _, rfl, q⟩
end
section
variable {X : Cx}
end
theorem ZLZ {l : List (Str × Addr)} {x : Str} {c : Addr} (h : (x, c) ∈ l) : ∃ d, l.lookup x = some d := by
 induction l with
 | nil => cases h
 | cons p r ih =>
  obtain ⟨y, d⟩ := p
  cases hx : x == y with
  | true => exact ⟨d, by simp [List.lookup_cons, hx]⟩
  | false =>
   have hr : (x, c) ∈ r := by
    rcases List.mem_cons.mp h with e | e
    ·cases e
     simp at hx
    ·exact e
   obtain ⟨d', e⟩ := ih hr
   exact ⟨d', by simp only [List.lookup_cons, hx]; exact e⟩
theorem ZG9 {env : Env} : ∀ (names : List (Str × NameKind)) (acc : List (Str × Addr)), (∀ y ∈ names, y.2 = NameKind.free → ∃ c, env.cells.lookup y.1 = some c) → (∀ p ∈ acc, env.cells.lookup p.1 = some p.2) →
  ∃ cl : List (Str × Addr), (forIn names acc fun (x : Str × NameKind) (r : List (Str × Addr)) => (match x with | (name, kind) => if (kind == NameKind.free) = true then (do let a ← cellOf env name; pure (ForInStep.yield ((name, a) :: r))) else pure (ForInStep.yield r) : Sem (ForInStep (List (Str × Addr))))) = pure cl
   ∧ (∀ p ∈ cl, env.cells.lookup p.1 = some p.2) ∧ (∀ p ∈ acc, p ∈ cl) ∧ ∀ y ∈ names, y.2 = NameKind.free → ∃ c, (y.1, c) ∈ cl
 | [], acc, _, ha => ⟨acc, by simp, ha, fun _ h => h, fun y h => by cases h⟩
 | (n, k) :: r, acc, h, ha => by
  by_cases hk : k = NameKind.free
  ·subst hk
   obtain ⟨c, hc⟩ := h (n, .free) List.mem_cons_self rfl
   obtain ⟨cl, e, h1, h2, h3⟩ := ZG9 r ((n, c) :: acc) (fun y hy => h y (List.mem_cons_of_mem _ hy)) (fun p hp => by
    rcases List.mem_cons.mp hp with rfl | hp
    ·exact hc
    ·exact ha p hp)
   refine ⟨cl, ?_, h1, fun p hp => h2 p (List.mem_cons_of_mem _ hp), fun y hy hf => ?_⟩
   ·rw [List.forIn_cons]
    simp only [beq_self_eq_true, if_true, cellOf, hc, pure_bind]
    exact e
   ·rcases List.mem_cons.mp hy with rfl | hy
    ·exact ⟨c, h2 _ List.mem_cons_self⟩
    ·exact h3 y hy hf
  ·obtain ⟨cl, e, h1, h2, h3⟩ := ZG9 r acc (fun y hy => h y (List.mem_cons_of_mem _ hy)) ha
   have hb : (k == NameKind.free) = false := by simpa using hk
   refine ⟨cl, ?_, h1, h2, fun y hy hf => ?_⟩
   ·rw [List.forIn_cons]
    simp only [hb, Bool.false_eq_true, if_false, pure_bind]
    exact e
   ·rcases List.mem_cons.mp hy with rfl | hy
    ·exact absurd hf hk
    ·exact h3 y hy hf
theorem ZKG {scope : Scope} {env : Env} (h : ∀ y ∈ scope.names, y.2 = NameKind.free → ∃ c, env.cells.lookup y.1 = some c) :
  ∃ cl, closureFor scope env = pure cl ∧ (∀ x c, cl.lookup x = some c → env.cells.lookup x = some c) ∧ ∀ y ∈ scope.names, y.2 = .free → ∃ c, cl.lookup y.1 = some c := by
 obtain ⟨cl, e, h1, _, h3⟩ := ZG9 scope.names [] h (fun p hp => by cases hp)
 refine ⟨cl, ?_, fun x c hx => h1 (x, c) (PySem.mem_of_lookup hx), fun y hy hf => ?_⟩
 ·simp only [closureFor]
  rw [e]
  rfl
 ·obtain ⟨c, hc⟩ := h3 y hy hf
  exact ZLZ hc
theorem ZGX {env : Env} : ∀ (names : List (Str × NameKind)) (x : Str),
  (names.map fun (n, k) => if (k == NameKind.free && env.scope.kind == .function && env.kindOf n == some .cell) then (n, NameKind.cell) else (n, k)).lookup x =
   (names.lookup x).map fun k => if (k == NameKind.free && env.scope.kind == .function && env.kindOf x == some .cell) then NameKind.cell else k
 | [], _ => rfl
 | (n, k) :: r, x => by
  have ih := ZGX (env := env) r x
  show List.lookup x ((if (k == NameKind.free && env.scope.kind == .function && env.kindOf n == some .cell) = true then (n, NameKind.cell) else (n, k)) :: _) = _
  cases hx : x == n with
  | true =>
   have e : x = n := eq_of_beq hx
   subst e
   by_cases hc : (k == NameKind.free && env.scope.kind == .function && env.kindOf x == some .cell) = true
   ·rw [if_pos hc]
    simp only [List.lookup_cons, beq_self_eq_true, Option.map_some]
    rw [if_pos hc]
   ·rw [if_neg hc]
    simp only [List.lookup_cons, beq_self_eq_true, Option.map_some]
    rw [if_neg hc]
  | false =>
   by_cases hc : (k == NameKind.free && env.scope.kind == .function && env.kindOf n == some .cell) = true
   ·rw [if_pos hc]; simp only [List.lookup_cons, hx]; exact ih
   ·rw [if_neg hc]; simp only [List.lookup_cons, hx]; exact ih
structure ZIi (N : List Str) (sc : Scope) (own caps : List Str) (ks : List Nat) (scope : Scope) : Prop where
 kind : scope.kind = .function
 nocell : ∀ y ∈ scope.names, y.2 ≠ .cell
 names : ∀ y ∈ scope.names, y.2 = .local → scope.names.lookup y.1 = some .local
 free : ∀ y ∈ scope.names, y.2 = .free → sc.names.lookup y.1 = some .cell
 nd : (own ++ caps).Nodup
 cap : ks.map (fun k => N[k]?) = caps.map some
 fr : ∀ x ∈ caps, scope.names.lookup x = some .free
def ZEC (X : Cx) (N' : List Str) (scope : Scope) (cl : List (Str × Addr)) (C : Addr) (s₂ : Shared) (H₂ : Hp) (fp : List Addr) : Cx :=
 { X with N := N', s₀ := s₂, H₀ := H₂, env := compEnvC scope cl C X.env, outer := X.stack, stack := X.stack, ex := fp, fn := fun _ => false, pn := [], xe := fun _ _ => False }
def ZF1 (own : Nat) (ks : List Nat) (σ : St) : St := List.replicate own none ++ ks.map fun k => (σ[k]?).join
section
variable {prog : Program} {w : World} {A : Around} {R : Result → Shared → Prop} {s : Shared}
theorem ZGJ {elt target iter : Expr} {ifs : List Expr} {scope : Scope} {pos : Pos} {it acc : Value} {env : Env} (I : Nat → Shared → Prop)
  (turn : ∀ n s, I n s → wpAny (model prog w) A (pyNext it) (fun r s₁ => match r with
   | none => R (.ok .next) s₁
   | some v => wpAny (model prog w) A (letOwnedTupleGo target it v) (fun _ s₁' => wpAny (model prog w) A (assign target env v) (fun _ s₂ =>
    wpAny (model prog w) A (forIn ifs true fun c r => if r = true then do let ok ← isTrue c env (eval c env); pure (ForInStep.yield ok) else pure (ForInStep.yield r)) (fun ok s₃ =>
     if ok = true then wpAny (model prog w) A (eval elt env) (fun x s₄ =>
      wpAny (model prog w) A (call (.builtin "list.append") [acc, x]) (fun _ s₅ => ∃ m, m < n ∧ I m s₅) (notedBy (model prog w) A env fun e s' => R (.error e) s') s₄) (notedBy (model prog w) A env fun e s' => R (.error e) s') s₃
     else ∃ m, m < n ∧ I m s₃) (notedBy (model prog w) A env fun e s' => R (.error e) s') s₂) (notedBy (model prog w) A env fun e s' => R (.error e) s') s₁') (notedBy (model prog w) A env fun e s' => R (.error e) s') s₁) (notedBy (model prog w) A env fun e s' => R (.error e) s') s)
  (n : Nat) (h : I n s) :
  codeAny (model prog w) A (.compLoop (.ListComp elt [⟨target, iter, ifs, 0⟩] scope pos) 0 it acc env) R s := by
 refine codeAny_loop rfl I (fun n s hI => ?_) n h
 show wpAny _ A ((compTurn (.ListComp elt [⟨target, iter, ifs, 0⟩] scope pos) 0 it acc env).onRaise (fun x => do noteFrame x env; theTreesLotGoes x)) _ _ s
 refine wpAny_noted ?_
 rw [compTurn_list]
 refine wpAny_bind (wpAny_standAt (wpAny_bind (wpAny_mono (turn n s hI) (fun r s₁ h₁ => ?_) fun _ _ h' => h')))
 cases r with
 | none => exact wpAny_pure h₁
 | some v =>
  refine wpAny_bind (wpAny_mono h₁ (fun _ s₁' h₁' => ?_) fun _ _ h' => h')
  refine wpAny_bind (wpAny_mono h₁' (fun _ s₂ h₂ => wpAny_bind (wpAny_mono h₂ (fun ok s₃ h₃ => ?_) fun _ _ h' => h')) fun _ _ h' => h')
  cases ok with
  | false => exact wpAny_pure ⟨rfl, h₃⟩
  | true =>
   exact wpAny_bind (wpAny_bind (wpAny_mono h₃ (fun x s₄ h₄ => wpAny_bind (wpAny_mono h₄ (fun _ s₅ h₅ => wpAny_pure (wpAny_pure ⟨rfl, h₅⟩)) fun _ _ h' => h')) fun _ _ h' => h'))
end
def ZKi (X : Cx) (ifs : List Expr) (t : TT) : Prop :=
 ∀ (pins : List (Addr × Obj)) (s : Shared) (σ : St) (H : Hp) (Q : Bool → Hp → Prop), Inv X pins σ H s → t σ H Q →
  wpAny (model X.prog X.w) X.A (forIn ifs true fun c r => if r = true then do let ok ← isTrue c X.env (eval c X.env); pure (ForInStep.yield ok) else pure (ForInStep.yield r)) (TP X pins σ Q) X.xe s
def ZN0 : TT := fun _ H Q => Q true H
section
variable {X : Cx}
theorem ZQm : ZKi X [] ZN0 := fun _ _ _ H _ I h => wpAny_tests_nil ⟨H, I, h⟩
theorem ZQn {c : Expr} {t : TT} (hc : PT X c t) : ZKi X [c] t := fun pins s σ H Q I h => wpAny_tests_one (hc pins s σ H Q I h)
def ZJD (own : Nat) (ks : List Nat) (wi : TI) (g : TG) (tt : TT) (te : TE) : TE := fun σ H Q => wi σ H fun J H1 => ∀ l, H1 l = none →
 ∃ W : Nat → Nat → St → Hp → Prop, (∃ m, W 0 m (ZF1 own ks σ) (upd H1 l (.lst []))) ∧ ∀ i m σ' H', W i m σ' H' →
  (J.stop i H' ∧ Q (.ref l) H') ∨ (J.go i H' ∧ ∃ N : St → Hp → Prop, (∀ σ2 H2, N σ2 H2 → ∃ m', m' < m ∧ W (i + 1) m' σ2 H2) ∧
   ∀ x H'', J.yld i H' x H'' → g x σ' H'' fun σ2 H2 => tt σ2 H2 fun b H3 =>
    if b = true then te σ2 H3 fun v H4 => ∃ xs, H4 l = some (.lst xs) ∧ xs.length < sizeLine ∧ N σ2 (upd H4 l (.lst (xs ++ [v]))) else N σ2 H3)
theorem ZLA {α : Type} {o : Option (Option α)} {v : α} (h : o.join = some v) : o = some (some v) := by
 cases o with
 | none => cases h
 | some x => exact congrArg some h
theorem ZSk {N : List Str} {sc : Scope} {own caps : List Str} {ks : List Nat} {elt tg iter : Expr} {ifs : List Expr} {scope : Scope} {pos : Pos} {wi : TI} {g : TG} {tt : TT} {te : TE}
  (hN : X.N = N) (hsc : X.env.scope = sc) (hc : X.calm = true) (S : ZIi N sc own caps ks scope) (hi : PI X tg iter wi)
  (hg : ∀ cl C s₂ H₂ fp, PG (ZEC X (own ++ caps) scope cl C s₂ H₂ fp) tg g)
  (ht : ∀ cl C s₂ H₂ fp, ZKi (ZEC X (own ++ caps) scope cl C s₂ H₂ fp) ifs tt)
  (he : ∀ cl C s₂ H₂ fp, PE (ZEC X (own ++ caps) scope cl C s₂ H₂ fp) elt te)
  (hs : ∀ x, foldedSetIterable iter X.env x = pure x := by intro _; rfl) :
  PE X (.ListComp elt [⟨tg, iter, ifs, 0⟩] scope pos) (ZJD own.length ks wi g tt te) := by
 intro pins s σ H Q I h
 subst hN hsc
 rw [eval_ListComp]
 obtain ⟨cl, hclos, hcl, hclf⟩ := ZKG (scope := scope) (env := X.env) fun y hy hf => I.ok.has y.1 (.inl (S.free y hy hf))
 refine wpAny_comprehension_free (use := none) rfl hs hclos S.kind S.names (wpAny_mono (hi pins s σ H _ I h) (fun xv s₁ h₁ => wpAny_mono h₁ (fun it s₂ h₂ => ?_) fun _ _ e => e) fun _ _ e => e)
 obtain ⟨it, fp, tn, J, H2, e, I2, T, st2, f2, q⟩ := h₂
 subst e
 refine wpAny_newObj_type (wpAny_newFunctionEnv S.nocell (by intro y hy; simp at hy) (fun h₁ hns₁ hsb₁ => ?_) S.kind)
 dsimp only at hns₁ hsb₁ ⊢
 generalize hH2 : s₂.heap.push { cls := .type "list", dict := none, data := .seq ([] : List Value).toArray } = HP at hns₁ hsb₁ ⊢
 have hC : HP.objs.size = s₂.heap.objs.size + 1 := by rw [← hH2, Heap.size_push]
 have hDC : s₂.heap.objs.size ≠ HP.objs.size := by rw [hC]; exact Nat.ne_of_lt (Nat.lt_succ_self _)
 have hCle : s₂.heap.objs.size ≤ HP.objs.size := by rw [hC]; exact Nat.le_succ _
 have old : ∀ b o, s₂.heap.get? b = some o → h₁.get? b = some o := fun b o e => by
  have hb : b < s₂.heap.objs.size := Heap.lt_size e
  exact hsb₁.extBut b o (by rw [hC]; exact Nat.ne_of_lt (Nat.lt_succ_of_lt hb)) (Heap.get?_push_of_some _ (hH2 ▸ Heap.get?_push_of_some _ e))
 have hacc : h₁.get? s₂.heap.objs.size = some { cls := .type "list", dict := none, data := .seq ([] : List Value).toArray } := hsb₁.extBut _ _ hDC (Heap.get?_push_of_some _ (hH2 ▸ Heap.get?_push_size _ rfl))
 have fpl : ∀ b ∈ fp, b < s₂.heap.objs.size := fun b hb => by
  obtain ⟨o, e, _⟩ := T.obj _ _ st2 b hb
  exact Heap.lt_size e
 have hfD : H2 s₂.heap.objs.size = none := I2.hok.fresh (Nat.le_refl _)
 obtain ⟨W, ⟨m0, w0⟩, turn⟩ := q s₂.heap.objs.size hfD
 have hkr : ∀ x, (compEnvC scope cl HP.objs.size X.env).kindOf x = (scope.names.lookup x).map fun k => if (k == NameKind.free && X.env.scope.kind == .function && X.env.kindOf x == some .cell) then NameKind.cell else k := fun x => ZGX (env := X.env) scope.names x
 have cellOfN : ∀ x, scope.names.lookup x = some .free → X.env.kindOf x = some .cell := fun x e => S.free (x, .free) (PySem.mem_of_lookup e) rfl
 -- the context within
 have ok : (ZEC X (own ++ caps) scope cl HP.objs.size s₂ H2 fp).Ok := by
  refine ⟨I2.ok.mod, S.kind, I2.ok.glob, I2.ok.blt, hCle, fun x y c e1 e2 => I2.ok.inj x y c (hcl x c e1) (hcl y c e2), fun x hx => ?_, fun x c z => (by cases z), I2.ok.hd, I2.ok.frames, .inl rfl, fun b hb => ⟨?_, fun x c e => (f2 b hb).2.2.2.2.1 x c (hcl x c e)⟩,
   I2.bs, Nat.le_trans I2.ok.bsz I2.sz, fun b o e hb => ?_, fun b hb z => ?_, I2.stack, I2.stkFree⟩
  ·have hx' : (scope.names.lookup x).map (fun k => if (k == NameKind.free && X.env.scope.kind == .function && X.env.kindOf x == some .cell) then NameKind.cell else k) = some .cell ∨
     (scope.names.lookup x).map (fun k => if (k == NameKind.free && X.env.scope.kind == .function && X.env.kindOf x == some .cell) then NameKind.cell else k) = some .free := by rw [← hkr x]; exact hx
   cases e : scope.names.lookup x with
   | none => rw [e] at hx'; rcases hx' with z | z <;> cases z
   | some k =>
    have hm := PySem.mem_of_lookup e
    have hk : k = .free := by
     by_cases hkf : k = .free
     ·exact hkf
     ·have hb : (k == NameKind.free) = false := by simpa using hkf
      rw [e] at hx'
      simp only [Option.map_some, hb, Bool.false_and, Bool.false_eq_true, if_false, Option.some.injEq] at hx'
      rcases hx' with z | z
      ·exact absurd z (S.nocell _ hm)
      ·exact z
    exact hclf _ hm hk
  ·exact Nat.ne_of_lt (Nat.lt_of_lt_of_le (fpl b hb) hCle)
  ·rcases (f2 b hb).2.2.2.1 with z | z
   ·exact I2.ok.noex b o e z
   ·exact absurd (Nat.lt_of_lt_of_le (Heap.lt_size e) (Nat.le_trans I2.ok.bsz z)) (Nat.lt_irrefl _)
  ·rcases List.mem_cons.mp (I2.stkSub b z) with r | r
   ·exact (f2 b hb).2.1 r
   ·exact (f2 b hb).2.2.1 r
 have hlen : (ZF1 own.length ks σ).length = (own ++ caps).length := by
  have := congrArg List.length S.cap
  simp only [List.length_map] at this
  simp [ZF1, this]
 have I4 : Inv (ZEC X (own ++ caps) scope cl HP.objs.size s₂ H2 fp) [] (ZF1 own.length ks σ) (upd H2 s₂.heap.objs.size (.lst [])) { s₂ with heap := h₁, toks := s₂.toks + ([] : List (Str × Value)).length } := by
  obtain ⟨mX, hnX, hlX⟩ := I2.loc
  refine ⟨ok, rfl, I2.bare, Un.laid old (Nat.le_refl _) hfD, ⟨_, hns₁, fun i x v e1 e2 e3 => ?_⟩, fun x c e => ?_, ?_, fun x c e => ?_, fun p hp => (by cases hp), I2.hok.laid old (Nat.le_refl _) ⟨Nat.zero_le _, [], 0, .nil, hacc⟩, hlen⟩
  ·have e1 : (own ++ caps)[i]? = some x := e1
   by_cases hio : i < own.length
   ·unfold ZF1 at e2
    rw [List.getElem?_append_left (by simpa using hio), List.getElem?_replicate] at e2
    rw [if_pos hio] at e2
    cases e2
   ·unfold ZF1 at e2
    rw [List.getElem?_append_right (by simpa using hio), List.length_replicate, List.getElem?_map] at e2
    rw [List.getElem?_append_right (by simpa using hio)] at e1
    cases ek : ks[i - own.length]? with
    | none => rw [ek] at e2; cases e2
    | some k =>
     rw [ek] at e2
     have e2' := ZLA (Option.some.inj e2)
     have hcap := congrArg (fun l => l[i - own.length]?) S.cap
     simp only [List.getElem?_map, ek, e1, Option.map_some] at hcap
     have hNk : X.N[k]? = some x := Option.some.inj hcap
     have hfx := S.fr x (List.mem_of_getElem? e1)
     have hkX := cellOfN x hfx
     obtain ⟨u, ru, lk⟩ := hlX k x v hNk e2' (.inr (.inl hkX))
     refine ⟨u, ru, .inr ⟨.inl ?_, ?_⟩⟩
     ·show (compEnvC scope cl HP.objs.size X.env).kindOf x = some .cell
      rw [hkr x, hfx]
      simp [I2.ok.kind, hkX]
     ·rcases lk with ⟨z, _⟩ | ⟨_, c, ec, o, ho, hd⟩
      ·rw [hkX] at z; cases z
      ·obtain ⟨c', ec'⟩ := hclf (x, .free) (PySem.mem_of_lookup hfx) rfl
       have := hcl _ _ ec'
       rw [ec] at this
       cases this
       exact ⟨c, ec', o, old _ _ ho, hd⟩
  ·obtain ⟨v, o, ho, hd⟩ := I2.cell x c (hcl x c e)
   exact ⟨v, o, old _ _ ho, hd⟩
  ·show upd H2 s₂.heap.objs.size (.lst []) HP.objs.size = none
   rw [ZD6 (Ne.symm hDC)]
   exact I2.hok.fresh hCle
  ·obtain ⟨v, o, ho, hd⟩ := I2.cell x c (hcl x c e)
   show upd H2 s₂.heap.objs.size (.lst []) c = none
   rw [ZD6 (Nat.ne_of_lt (Heap.lt_size ho))]
   exact I2.freeC x c (hcl x c e)
 -- the way out
 have out : ∀ {σ' : St} {H' : Hp} {s' : Shared}, Inv (ZEC X (own ++ caps) scope cl HP.objs.size s₂ H2 fp) [] σ' H' s' → Q (.ref s₂.heap.objs.size) H' →
   ∃ m, s'.heap.Ns HP.objs.size m ∧ ∀ h', Heap.SameBut HP.objs.size s'.heap h' → EP X pins σ Q (.ref s₂.heap.objs.size) { s' with heap := h' } := fun {σ' H' s'} I' q' => by
  obtain ⟨m, hn, _⟩ := I'.loc
  refine ⟨m, hn, fun h' hs' => ⟨.ref s₂.heap.objs.size, H', ?_, rfl, q'⟩⟩
  have hfree : H' HP.objs.size = none := I'.free
  have neC : ∀ {b : Addr} {o : Obj}, s₂.heap.get? b = some o → b ≠ HP.objs.size := fun e => Nat.ne_of_lt (Nat.lt_of_lt_of_le (Heap.lt_size e) hCle)
  refine I2.call' (ch := fp) (s' := { s' with heap := h' }) I'.os ⟨fun b o e n hb hx => ?_, fun b o e n hb hx => ?_, I'.base.free, fun b o e hx => ?_, I'.base.tups, I'.base.frzs, I'.base.tbls⟩ (fun b ob e => ?_) I'.bare fun b hb => ⟨(f2 b hb).2.2.2.1, (f2 b hb).2.1, (f2 b hb).2.2.2.2.1, (f2 b hb).2.2.2.2.2⟩
  ·exact (hs'.2 b (neC e)).trans (I'.base.keep b o e n hb hx)
  ·obtain ⟨sl, e1⟩ := I'.base.slot b o e n hb hx
   exact ⟨sl, (hs'.2 b (neC e)).trans e1⟩
  ·obtain ⟨o', e1⟩ := I'.base.there b o e hx
   exact ⟨o', (hs'.2 b (neC e)).trans e1⟩
  ·refine (I'.hok b ob e).stay (fun c w' hc q => (hs'.2 c ?_).trans q) (fun _ q => q) fun _ _ q => q
   rintro rfl
   rcases hc with rfl | hc
   ·rw [hfree] at e; cases e
   ·rw [hfree] at hc; cases hc
 have stat : ∀ {H' : Hp}, (∀ b ∈ fp, H' b = none) → ∀ b ∈ fp, ZFD (ZEC X (own ++ caps) scope cl HP.objs.size s₂ H2 fp) [] H' b := fun hn b hb =>
  ⟨hn b hb, Nat.ne_of_lt (Nat.lt_of_lt_of_le (fpl b hb) hCle), ok.exfs b hb, .inl hb, (ok.exf b hb).2, fun p hp => by cases hp⟩
 have fr4 : ∀ b ∈ fp, upd H2 s₂.heap.objs.size (.lst []) b = none := fun b hb => by
  rw [ZD6 (Nat.ne_of_lt (fpl b hb))]
  exact (f2 b hb).1
 have tn4 : tn 0 h₁ := T.keep _ _ _ st2 fun b _ o e => old b o e
 have loop : ∀ s4 : Shared, s4 = { s₂ with heap := h₁, toks := s₂.toks + ([] : List (Str × Value)).length } →
   codeAny (model X.prog X.w) X.A (.compLoop (.ListComp elt [⟨tg, iter, ifs, 0⟩] scope pos) 0 (.ref it) (.ref s₂.heap.objs.size) (compEnvC scope cl HP.objs.size X.env))
    (compPost (model X.prog X.w) X.A X.xe none (EP X pins σ Q) (.ref s₂.heap.objs.size) HP.objs.size) s4 := by
  rintro s4 rfl
  refine ZGJ (fun n s' => ∃ i σ' H', Inv (ZEC X (own ++ caps) scope cl HP.objs.size s₂ H2 fp) [] σ' H' s' ∧ tn i s'.heap ∧ (∀ b ∈ fp, H' b = none) ∧ W i n σ' H') ?_ m0 ⟨0, _, _, I4, tn4, fr4, w0⟩
  rintro n s3 ⟨i, σ3, H3, I3, st3, fr3, w3⟩
  rcases turn i n σ3 H3 w3 with ⟨stop, qn⟩ | ⟨go, N, hN, step⟩
  ·refine wpAny_mono (T.done (ZEC X (own ++ caps) scope cl HP.objs.size s₂ H2 fp) rfl rfl rfl hc i [] s3 σ3 H3 (fun _ _ => False) I3 (stat fr3) st3 stop) (fun r s4 ⟨hr, I4'⟩ => ?_) fun _ _ z => False.elim z
   subst hr
   exact out I4' qn
  ·refine wpAny_mono (T.item (ZEC X (own ++ caps) scope cl HP.objs.size s₂ H2 fp) rfl rfl rfl hc i [] s3 σ3 H3 (fun _ _ => False) I3 (stat fr3) st3 go) (fun r s4 ⟨u, hr, h4⟩ => ?_) fun _ _ z => False.elim z
   subst hr
   refine wpAny_mono h4 (fun _ s5 ⟨x, H5, I5, r5, y5, st5, fr5⟩ => ?_) fun _ _ z => False.elim z
   have I5' := I5.pinned (stat fr5) (T.obj _ _ st5)
   have back : ∀ {s7 : Shared} {σ7 : St} {H7 : Hp}, Inv (ZEC X (own ++ caps) scope cl HP.objs.size s₂ H2 fp) ([] ++ ZHs fp s5.heap) σ7 H7 s7 → N σ7 H7 →
     ∃ m, m < n ∧ ∃ i σ' H', Inv (ZEC X (own ++ caps) scope cl HP.objs.size s₂ H2 fp) [] σ' H' s7 ∧ tn i s7.heap ∧ (∀ b ∈ fp, H' b = none) ∧ W i m σ' H' := fun {s7 σ7 H7} I7 n7 => by
    obtain ⟨m', hm, w7⟩ := hN σ7 H7 n7
    refine ⟨m', hm, i + 1, σ7, H7, I7.unpinned, T.keep _ _ _ st5 fun b hb o e => (I7.pin (b, o) (List.mem_append_right _ (List.mem_append_right _ (ZFp hb e)))).1, fun b hb => ?_, w7⟩
    obtain ⟨o, e, d⟩ := T.obj _ _ st5 b hb
    exact (I7.pin (b, o) (List.mem_append_right _ (List.mem_append_right _ (ZFp hb e)))).2.1
   refine wpAny_mono (hg _ _ _ _ _ _ s5 σ3 H5 x u _ I5' r5 (step x H5 y5)) (fun _ s6 ⟨σ6, H6, I6, q6⟩ => ?_) fun _ _ z => False.elim z
   refine wpAny_mono (ht _ _ _ _ _ _ s6 σ6 H6 _ I6 q6) (fun b s7 ⟨H7, I7, q7⟩ => ?_) fun _ _ z => False.elim z
   cases b with
   | false =>
    rw [if_neg Bool.false_ne_true]
    rw [if_neg Bool.false_ne_true] at q7
    exact back I7 q7
   | true =>
    rw [if_pos rfl]
    rw [if_pos rfl] at q7
    refine wpAny_mono (he _ _ _ _ _ _ s7 σ6 H7 _ I7 q7) (fun y s8 ⟨v, H8, I8, r8, xs, hx8, hz8, n8⟩ => ?_) fun _ _ z => False.elim z
    refine wpAny_mono (ZE2 (X := ZEC X (own ++ caps) scope cl HP.objs.size s₂ H2 fp) _ s8 σ6 H8 (.ref s₂.heap.objs.size) [v] (.ref s₂.heap.objs.size) [y] (fun _ H' => N σ6 H') I8 rfl (.cons r8 .nil) ⟨_, xs, v, rfl, rfl, hx8, hz8, n8⟩) (fun _ s9 ⟨_, H9, I9, _, n9⟩ => ?_) fun _ _ z => False.elim z
    exact back I9 n9
 exact codeAny_compStart_list (loop _ rfl) (T.self _ 0 _ _ _ tn4 (loop _ rfl))
end
theorem ZUf : bootBuiltins "int" = some (.type "int") := by decide +kernel
theorem ZSl : bootBuiltins "bool" = some (.type "bool") := by decide +kernel
theorem ZFR : bootBuiltins "tuple" = some (.type "tuple") := by decide +kernel
theorem ZHt : bootBuiltins "len" = some (.builtin "len") := by decide +kernel
theorem ZUg : bootBuiltins "abs" = some (.builtin "abs") := by decide +kernel
theorem ZHu : bootBuiltins "max" = some (.builtin "max") := by decide +kernel
theorem ZHv : bootBuiltins "min" = some (.builtin "min") := by decide +kernel
theorem ZLB : bootBuiltins "sorted" = some (.builtin "sorted") := by decide +kernel
theorem ZIa : bootBuiltins "isinstance" = some (.builtin "isinstance") := by decide +kernel
def ZFg : Expr → Bool
 | .Starred _ _ => true
 | _ => false
def ZEg (es : List Expr) : Bool := es.all fun e => !ZFg e
theorem ZFO {e : Expr} {es : List Expr} {env : Env} (h : ZFg e = false) : starEach (e :: es) env = (false, eval e env) :: starEach es env := by
 cases e <;> first | rfl | cases h
theorem ZGY {e : Expr} {es : List Expr} {env : Env} (h : ZEg (e :: es) = true) : starEach (e :: es) env = (false, eval e env) :: starEach es env := by
 refine ZFO ?_
 unfold ZEg at h
 rw [List.all_cons, Bool.and_eq_true] at h
 simpa using h.1
theorem ZF7 {pos : Pos} {env : Env} : ∀ {es : List Expr}, ZEg es = true → (backTo pos (starEach es env)).any (·.1) = false
 | [], _ => rfl
 | e :: es, h => by
  rw [ZGY h]
  have h2 : ZEg es = true := by
   unfold ZEg at h ⊢
   rw [List.all_cons, Bool.and_eq_true] at h
   exact h.2
  exact ZF7 h2
theorem ZGB {e : Expr} {es : List Expr} (h : ZEg (e :: es) = true) : ZEg es = true := by
 unfold ZEg at h ⊢
 rw [List.all_cons, Bool.and_eq_true] at h
 exact h.2
section
variable {X : Cx} {CX : CXT} {k : Nat} {f : Addr} {fd : FuncData} {ps : List Str} {sp : Sp} {dvs : List V} {ds : List Value} {E : XK} {x : Str} {p pos : Pos} {e : Expr} {es : List Expr} {te : TE} {t : TA} {id T : String} {r : List V → Hp → VK → Prop}
theorem ZV9 (ha : PE X e te) (hr : PA X es t) (hs : ZFg e = false := by rfl) : PA X (e :: es) (ZLm te t) := ZSb ha hr (ZFO hs)
theorem ZQo (F : ZDw X.prog X.w X.K X.mg X.base CX k f fd ps sp) (hr : Room k X.A) (hg : Gl X x) (hm : X.mg x = some (.ref f)) (hk : W.keepIn X.K (.ref f) = true) (hb : ZDo X.K fd ps ds) (hd : ZD0 dvs ds) (hx : ZE7 CX X E)
  (ha : PA X (e :: es) t) (hns : ZEg (e :: es) = true := by rfl) (hdb : (x == ("__debug__" : Str)) = false := by decide) : PE X (.Call (.Name x p) (e :: es) [] pos) (ZJ9 sp dvs E t) :=
 ZSc F hr hg hm hk hb hd hx ha hdb (ZGY hns) (ZF7 (ZGB hns))
theorem ZO6 (hc : ZEq X (.builtin id) r) (hg : Gl X x) (hm : X.mg x = none) (hv : bootBuiltins x = some (.builtin id)) (ha : PA X (e :: es) t) (hns : ZEg (e :: es) = true := by rfl) (hn : x ≠ "__name__" := by decide) (hdb : (x == ("__debug__" : Str)) = false := by decide) :
 PE X (.Call (.Name x p) (e :: es) [] pos) (tCB r t) := ZQa hc hg hm hv ha hn hdb (ZGY hns) (ZF7 (ZGB hns))
theorem ZN1 (hc : ZEq X (.type T) r) (hg : Gl X x) (hm : X.mg x = none) (hv : bootBuiltins x = some (.type T)) (ha : PA X (e :: es) t) (hns : ZEg (e :: es) = true := by rfl) (hn : x ≠ "__name__" := by decide) (hdb : (x == ("__debug__" : Str)) = false := by decide) :
 PE X (.Call (.Name x p) (e :: es) [] pos) (tCB r t) := ZO2 hc hg hm hv ha hn hdb (ZGY hns) (ZF7 (ZGB hns))
end
def ZFq : Expr → Bool
 | .ListComp _ _ _ _ => true
 | .SetComp _ _ _ _ => true
 | .DictComp _ _ _ _ _ => true
 | _ => false
theorem ZHA {e : Expr} {tg : Option Expr} {n : Nat} {env : Env} (h : ZFq e = false) : swapsWith e tg n env = pure false := by
 cases e <;> first | rfl | cases h
section
variable {X : Cx} {e : Expr} {te : TE} {pos : Pos}
theorem ZQp (he : PE X e te) (hs : ZFq e = false := by rfl) : PS X (.Expr e pos) (ZLk te) := ZSM he (ZHA hs)
theorem ZSm {i : Nat} {x : Str} {pos' : Pos} (hN : X.N.Nodup) (hi : X.N[i]? = some x) (hx : Loc X.env.scope x) (he : PE X e te) (hs : ZFq e = false := by rfl) (hf : X.fn x = true ∨ X.env.scope.names.lookup x = some .local := by first | exact .inl rfl | exact .inr rfl | assumption) :
 PS X (.Assign [.Name x pos'] e pos) (ZHd te (ZGE i)) := ZOq hN hi hx he (ZHA hs) hf
end
def ZN2 (K : W.Frag) : List V → Hp → VK → Prop := fun xs H Q => ∃ p ys, xs = [.ref p] ∧ (SqL K H p ys ∨ SqT K H p ys) ∧ Q (.int ys.length) H
def ZUh : List V → Hp → VK → Prop := fun xs H Q => ∃ i, xs = [.int i] ∧ Q (.int (if i < 0 then -i else i)) H
def ZUi : List V → Hp → VK → Prop := fun xs H Q => ∃ i j, xs = [.int i, .int j] ∧ Q (.int (if j > i then j else i)) H
def ZUj : List V → Hp → VK → Prop := fun xs H Q => ∃ i j, xs = [.int i, .int j] ∧ Q (.int (if j < i then j else i)) H
def ZL3 (K : W.Frag) : List V → Hp → VK → Prop := fun xs H Q => ∃ p ys, xs = [.ref p] ∧ ((SqL K H p ys ∧ ∀ l, H l = none → Q (.ref l) (upd H l (.tup ys))) ∨ (SqT K H p ys ∧ Q (.ref p) H))
def ZUk : R2 := fun x y H Q => y = .non ∧ Q (.bl (decide (x = .non))) H
def ZR1 : R2 := fun x y H Q => y = .non ∧ Q (.bl (!decide (x = .non))) H
section
variable {X : Cx}
theorem ZUl : ZEq X (.builtin "len") (ZN2 X.K) := ZL1
theorem ZUm : ZEq X (.builtin "abs") ZUh := ZQR
theorem ZKH (hc : X.calm = true) : ZEq X (.builtin "max") ZUi := ZOv hc
theorem ZKI (hc : X.calm = true) : ZEq X (.builtin "min") ZUj := ZOw hc
theorem ZQq : ZEq X (.type "tuple") (ZL3 X.K) := ZLY
theorem ZL4 : OpR X (compareOp .Is) ZUk := ZUS
theorem ZKj : OpR X (compareOp .IsNot) ZR1 := ZSV
end
section
variable {K : W.Frag} {σ : St} {H : Hp} {Q : VK} {D : ZEp}
theorem ZUn {t u : TS} (h : t { D with nx := u D } σ H) : ZP8 t u D σ H := h
theorem ZUo {te : TE} (h : te σ H D.rt) : ZQA te D σ H := h
theorem ZSn {te : TE} (h : te σ H fun _ H1 => D.nx σ H1) : ZLk te D σ H := h
theorem ZSo (h : D.nx σ H) : ZNj D σ H := h
theorem ZUp {te : TE} {g : TG} (h : te σ H fun x H1 => g x σ H1 D.nx) : ZHd te g D σ H := h
theorem ZQr {i : Nat} {v : V} {R : St → Hp → Prop} (h : R (σ.set i (some v)) H) : ZGE i v σ H R := h
theorem ZSp {R : St → Hp → Prop} (h : R σ H) : ZQD [] σ H R := ⟨rfl, h⟩
theorem ZQs {t : TG} {u : TGs} {v : V} {r : List V} {R : St → Hp → Prop} (h : t v σ H fun σ' H' => u r σ' H' R) : ZNk t u (v :: r) σ H R := ⟨v, r, rfl, h⟩
theorem ZSq {to ti : TE} {t : ZLs} {v : V} {R : St → Hp → Prop} (h : to σ H fun o H1 => ti σ H1 fun i H2 => t o i v H2 fun H3 => R σ H3) : ZQF to ti t v σ H R := h
theorem ZUq {c : TT} {t u : TS} (h : c σ H fun b H1 => if b = true then t D σ H1 else u D σ H1) : ZH9 c t u D σ H := h
theorem ZSr {t : TE} {R : Bool → Hp → Prop} (h : t σ H fun x H' => ∃ k, x = .bl k ∧ R k H') : ZJ4 t σ H R := h
theorem ZWA {t : TE} {R : Bool → Hp → Prop} (h : t σ H fun x H' => ∃ k, x = .bl k ∧ R k H') : tB t σ H R := h
theorem ZUr {b : Bool} {R : Bool → Prop} (h : R b) : ∃ k, V.bl b = .bl k ∧ R k := ⟨b, rfl, h⟩
theorem ZUs {t u : TT} {R : Bool → Hp → Prop} (h : t σ H fun c H1 => if c = true then u σ H1 R else R false H1) : ZP5 t u σ H R := h
theorem ZVo {t u : TT} {R : Bool → Hp → Prop} (h : t σ H fun c H1 => if c = true then R true H1 else u σ H1 R) : tOr t u σ H R := h
theorem ZUt {t : TT} {R : Bool → Hp → Prop} (h : t σ H fun c H1 => R (!c) H1) : ZP6 t σ H R := h
theorem ZSs {t u : TE} (h : t σ H fun x H1 => ∃ c, x = .bl c ∧ if c = true then u σ H1 Q else Q (.bl false) H1) : ZNh t u σ H Q := h
theorem ZSt {t : TE} (h : t σ H fun x H1 => ∃ c, x = .bl c ∧ Q (.bl (!c)) H1) : ZNi t σ H Q := h
theorem ZVp {t : TT} {ta tb : TE} (h : t σ H fun c H1 => if c = true then ta σ H1 Q else tb σ H1 Q) : tIf t ta tb σ H Q := h
theorem ZUu {i : Nat} {v : V} (e : σ[i]? = some (some v)) (h : Q v H) : ZP4 i σ H Q := ⟨v, e, h⟩
theorem ZL5 {i j : Int} (h1 : 0 ≤ j) (h2 : j ≤ 1000000) (h3 : i.natAbs < 2 ^ 64) : ZQN i j := ⟨h1, h2, h3⟩
theorem ZWB {v : V} (h : Q v H) : tC v σ H Q := h
theorem ZVq {r : R2} {ta tb : TE} (h : ta σ H fun x H1 => tb σ H1 fun y H2 => r x y H2 Q) : tOp r ta tb σ H Q := h
theorem ZVr {r : V → Hp → VK → Prop} {ta : TE} (h : ta σ H fun x H1 => r x H1 Q) : tUn r ta σ H Q := h
theorem ZVs {g : Int → Int → V} {i j : Int} (h : Q (g i j) H) : rI0 g (.int i) (.int j) H Q := ⟨i, j, rfl, rfl, h⟩
theorem ZGo {C : Int → Int → Prop} {g : Int → Int → V} {i j : Int} (c : C i j) (h : Q (g i j) H) : rI C g (.int i) (.int j) H Q := ⟨i, j, rfl, rfl, c, h⟩
theorem ZWC {g : Int → V} {i : Int} (h : Q (g i) H) : rU g (.int i) H Q := ⟨i, rfl, h⟩
theorem ZUv {i j : Int} (h : Q (.bl (decide (V.int i = V.int j))) H) : rEq (.int i) (.int j) H Q := ⟨rfl, h⟩
theorem ZVt {r : List V → Hp → VK → Prop} {t : TA} (h : t σ H fun vs H1 => r vs H1 Q) : tCB r t σ H Q := h
theorem ZSu {sp : Sp} {dvs : List V} {E : XK} {t : TA} (h : t σ H fun vs H1 => sp (vs ++ dvs) H1 Q E) : ZJ9 sp dvs E t σ H Q := h
theorem ZSv {ta : TE} {tr : TA} {R : List V → Hp → Prop} (h : ta σ H fun x H1 => tr σ H1 fun xs H2 => R (x :: xs) H2) : ZLm ta tr σ H R := h
theorem ZUw {R : List V → Hp → Prop} (h : R [] H) : ZJa σ H R := h
def ZQt (n : Nat) (o : HO) (H : Hp) (Q : VK) : Prop := n ≤ sizeLine ∧ ∀ p, H p = none → Q (.ref p) (upd H p o)
theorem ZUx {t : TA} (h : t σ H fun xs H1 => ZQt xs.length (.tup xs) H1 Q) : ZQW t σ H Q := h
theorem ZUy {t : TA} (h : t σ H fun xs H1 => ZQt xs.length (.lst xs) H1 Q) : ZQX t σ H Q := h
theorem ZDx {n : Nat} {o : HO} (hz : n ≤ sizeLine) (h : ∀ p H2, H p = none → H2 p = some o → ZDn H H2 → Q (.ref p) H2) : ZQt n o H Q :=
 ⟨hz, fun p hp => h p _ hp ZDu (fun b u e => by rw [ZD6 (ZD4 e hp)]; exact e)⟩
theorem ZQu {r r' : R2} {ta tb tc : TE} (h : ta σ H fun x H1 => tb σ H1 fun y H2 => r x y H2 fun z H3 => ∃ k, z = .bl k ∧ (if k = true then tc σ H3 fun w' H4 => r' y w' H4 Q else Q (.bl false) H3)) : ZIg r r' ta tb tc σ H Q := h
theorem ZKJ {p : Addr} {xs : List V} {i : Int} {v : V} (h1 : SqL K H p xs) (h2 : atI xs i = some v) (h : Q v H) : ZQe K (.ref p) (.int i) H Q := ⟨p, xs, i, v, rfl, rfl, h1, h2, h⟩
theorem ZL6 {p : Addr} {xs : List V} {i : Int} {v : V} (h1 : SqT K H p xs) (h2 : atI xs i = some v) (h : Q v H) : ZQf K (.ref p) (.int i) H Q := ⟨p, xs, i, v, rfl, rfl, h1, h2, h⟩
theorem ZNU {p : Addr} {xs : List V} {k : Int} {j : Nat} {v : V} {R : Hp → Prop} (h1 : H p = some (.lst xs)) (h2 : ixN xs.length k = some j)
  (h : ∀ H2, H2 p = some (.lst (xs.set j v)) → (∀ q o, H q = some o → q ≠ p → H2 q = some o) → R H2) : ZNy (.ref p) (.int k) v H R :=
 ⟨p, xs, k, j, rfl, rfl, h1, h2, h _ ZDu fun q o e n => by rw [ZD6 n]; exact e⟩
theorem ZSw {p : Addr} {xs : List V} {k : Int} {j : Nat} {v : V} {R : Hp → Prop} (h1 : H p = some (.lst xs)) (h2 : ixN xs.length k = some j) (h : R (upd H p (.lst (xs.set j v)))) : ZNy (.ref p) (.int k) v H R := ⟨p, xs, k, j, rfl, rfl, h1, h2, h⟩
def rFor (J : It) (g : TG) (tb : TS) (D : ZEp) (σ : St) (H : Hp) : Prop := ∃ W : Nat → Nat → St → Hp → Prop, (∃ m, W 0 m σ H) ∧ ∀ i m σ H, W i m σ H →
 (J.stop i H ∧ D.nx σ H) ∨ (J.go i H ∧ ∃ N : St → Hp → Prop, (∀ σ' H', N σ' H' → ∃ m', m' < m ∧ W (i + 1) m' σ' H') ∧ ∀ x H', J.yld i H x H' → g x σ H' fun σ2 H2 => tb { D with nx := N, ct := N, bk := D.nx } σ2 H2)
theorem ZUz {wi : TI} {g : TG} {tb : TS} (h : wi σ H fun J H1 => rFor J g tb D σ H1) : ZQJ wi g tb D σ H := h
def ZR2 (vs : List V) (H : Hp) (R : It → Hp → Prop) : Prop := ∃ j : Int, vs = [.int j] ∧ -(2 ^ 62) ≤ j ∧ j < 2 ^ 62 ∧ R (Itr 0 j.toNat) H
theorem ZSx {ta : TA} {R : It → Hp → Prop} (h : ta σ H fun vs H1 => ZR2 vs H1 R) : ZNp ta σ H R := h
theorem ZHB {j : Int} {R : It → Hp → Prop} (h1 : -(2 ^ 62) ≤ j) (h2 : j < 2 ^ 62) (h : R (Itr 0 j.toNat) H) : ZR2 [.int j] H R := ⟨j, rfl, h1, h2, h⟩
theorem ZU0 {i : Int} (h : Q (.int (if i < 0 then -i else i)) H) : ZUh [.int i] H Q := ⟨i, rfl, h⟩
theorem ZU1 {i j : Int} (h : Q (.int (if j > i then j else i)) H) : ZUi [.int i, .int j] H Q := ⟨i, j, rfl, h⟩
theorem ZU2 {i j : Int} (h : Q (.int (if j < i then j else i)) H) : ZUj [.int i, .int j] H Q := ⟨i, j, rfl, h⟩
theorem ZSy {p : Addr} {ys : List V} (h1 : SqL K H p ys) (h : Q (.int ys.length) H) : ZN2 K [.ref p] H Q := ⟨p, ys, rfl, .inl h1, h⟩
theorem ZSz {p : Addr} {ys : List V} (h1 : SqT K H p ys) (h : Q (.int ys.length) H) : ZN2 K [.ref p] H Q := ⟨p, ys, rfl, .inr h1, h⟩
theorem ZO7 {x : V} {n : String} {t : Value} {b : Bool} (ty : ZGH K H x t) (e : W.kitOne K t (.type n) = some b) (h : Q (.bl b) H) : ZQk K [x, .ty n] H Q := ⟨x, n, t, b, rfl, ty, e, h⟩
theorem ZU3 {x : V} (h : Q (.bl (decide (x = .non))) H) : ZUk x .non H Q := ⟨rfl, h⟩
theorem ZS0 {x : V} (h : Q (.bl (!decide (x = .non))) H) : ZR1 x .non H Q := ⟨rfl, h⟩
theorem ZS1 {n : Nat} {t : TGs} {p : Addr} {xs : List V} {R : St → Hp → Prop} (h1 : SqT K H p xs) (h2 : xs.length = n) (h : t xs σ H R) : ZNl K n t (.ref p) σ H R := ⟨p, xs, rfl, h1, h2, h⟩
theorem ZFr {p : Addr} {ys : List V} (h1 : SqL K H p ys) (h : ∀ l H2, H l = none → H2 l = some (.tup ys) → ZDn H H2 → Q (.ref l) H2) :
  ZL3 K [.ref p] H Q :=
 ⟨p, ys, rfl, .inl ⟨h1, fun l hl => h l _ hl ZDu (fun b u e => by rw [ZD6 (ZD4 e hl)]; exact e)⟩⟩
theorem ZU4 {p : Addr} {xs : List V} {lo hi : Option Int} (h1 : SqL K H p xs) (h : ∀ l H2, H l = none → H2 l = some (.lst (ZF6 xs lo hi)) → ZDn H H2 → Q (.ref l) H2) : ZNz K (.ref p) lo hi H Q :=
 ⟨p, xs, rfl, h1, fun l hl => h l _ hl ZDu (fun b u e => by rw [ZD6 (ZD4 e hl)]; exact e)⟩
theorem ZVu {r : V → Option Int → Option Int → Hp → VK → Prop} {te : TE} {tl th : TO} (h : te σ H fun x H1 => tl σ H1 fun l H2 => th σ H2 fun u H3 => r x l u H3 Q) : tSl r te tl th σ H Q := h
theorem ZO8 {R : Option Int → Hp → Prop} (h : R none H) : ZKg σ H R := h
theorem ZS2 {t : TE} {R : Option Int → Hp → Prop} (h : t σ H fun x H1 => ∃ i, x = .int i ∧ R (some i) H1) : ZNw t σ H R := h
theorem ZWD {i : Int} {R : Int → Prop} (h : R i) : ∃ j, V.int i = .int j ∧ R j := ⟨i, rfl, h⟩
theorem ZEP {c A B : Prop} [Decidable c] (h1 : c → A) (h2 : ¬ c → B) : if decide c = true then A else B := by
 by_cases h : c
 ·rw [decide_eq_true h]; exact ZFF (h1 h)
 ·rw [decide_eq_false h]; exact ZE0 (h2 h)
theorem ZIA {c A B : Prop} [Decidable c] (h1 : ¬ c → A) (h2 : c → B) : if (!decide c) = true then A else B := by
 by_cases h : c
 ·rw [decide_eq_true h]; exact ZE0 (h2 h)
 ·rw [decide_eq_false h]; exact ZFF (h1 h)
theorem ZGv {i j : Int} : decide (V.int i = V.int j) = decide (i = j) := by
 by_cases h : i = j
 ·subst h; simp
 ·rw [decide_eq_false h, decide_eq_false (fun z => h (V.int.inj z))]
theorem ZHw {lo : Int} {n : Nat} {g : TG} {tb : TS} (Pv : Nat → St → Hp → Prop) (h0 : Pv 0 σ H)
 (hs : ∀ i σ H, i < n → Pv i σ H → g (.int (lo + i)) σ H fun σ2 H2 => tb { D with nx := Pv (i + 1), ct := Pv (i + 1), bk := D.nx } σ2 H2) (hd : ∀ σ H, Pv n σ H → D.nx σ H) :
 rFor (Itr lo n) g tb D σ H := ZOt Pv h0 hs hd
theorem ZKk {a : Addr} {xs : List V} {g : TG} {tb : TS} (Pv : Nat → St → Hp → Prop) (h0 : Pv 0 σ H) (hl : ∀ i σ H, i ≤ xs.length → Pv i σ H → SqL K H a xs)
 (hs : ∀ i x σ H, xs[i]? = some x → Pv i σ H → g x σ H fun σ2 H2 => tb { D with nx := Pv (i + 1), ct := Pv (i + 1), bk := D.nx } σ2 H2) (hd : ∀ σ H, Pv xs.length σ H → D.nx σ H) :
 rFor (Itl K a) g tb D σ H := ZQK Pv h0 hl hs hd
theorem ZHx {a : Addr} {xs : List V} {g : TG} {tb : TS} (Pv : Nat → St → Hp → Prop) (h0 : Pv 0 σ H) (hl : ∀ i σ H, i ≤ xs.length → Pv i σ H → SqT K H a xs)
 (hs : ∀ i x σ H, xs[i]? = some x → Pv i σ H → g x σ H fun σ2 H2 => tb { D with nx := Pv (i + 1), ct := Pv (i + 1), bk := D.nx } σ2 H2) (hd : ∀ σ H, Pv xs.length σ H → D.nx σ H) :
 rFor (Itt K a) g tb D σ H := ZSQ Pv h0 hl hs hd
def ZR3 (J : It) (g : TG) (tt : TT) (te : TE) (l : Addr) (σ0 : St) (H : Hp) (Q : VK) : Prop :=
 ∃ W : Nat → Nat → St → Hp → Prop, (∃ m, W 0 m σ0 (upd H l (.lst []))) ∧ ∀ i m σ' H', W i m σ' H' →
  (J.stop i H' ∧ Q (.ref l) H') ∨ (J.go i H' ∧ ∃ N : St → Hp → Prop, (∀ σ2 H2, N σ2 H2 → ∃ m', m' < m ∧ W (i + 1) m' σ2 H2) ∧
   ∀ x H'', J.yld i H' x H'' → g x σ' H'' fun σ2 H2 => tt σ2 H2 fun b H3 =>
    if b = true then te σ2 H3 fun v H4 => ∃ xs, H4 l = some (.lst xs) ∧ xs.length < sizeLine ∧ N σ2 (upd H4 l (.lst (xs ++ [v]))) else N σ2 H3)
theorem ZEw {J : It} {g : TG} {tt : TT} {te : TE} {σ0 : St} {l : Addr} (n : Nat) (Pv : Nat → St → Hp → Prop) (h0 : Pv 0 σ0 (upd H l (.lst [])))
  (stop : ∀ σ H, Pv n σ H → J.stop n H ∧ Q (.ref l) H)
  (go : ∀ i σ H, i < n → Pv i σ H → J.go i H ∧ ∀ x H', J.yld i H x H' → g x σ H' fun σ2 H2 => tt σ2 H2 fun b H3 =>
   if b = true then te σ2 H3 fun v H4 => ∃ xs, H4 l = some (.lst xs) ∧ xs.length < sizeLine ∧ Pv (i + 1) σ2 (upd H4 l (.lst (xs ++ [v]))) else Pv (i + 1) σ2 H3) :
  ZR3 J g tt te l σ0 H Q := by
 refine ⟨fun i m σ H => m = n - i ∧ i ≤ n ∧ Pv i σ H, ⟨n, by simp, Nat.zero_le _, h0⟩, ?_⟩
 rintro i m σ H ⟨rfl, hi, p⟩
 by_cases hlt : i < n
 ·obtain ⟨hgo, h⟩ := go i σ H hlt p
  exact .inr ⟨hgo, Pv (i + 1), fun σ' H' p' => ⟨n - (i + 1), by omega, rfl, hlt, p'⟩, h⟩
 ·have e : i = n := by omega
  subst e
  exact .inl (stop σ H p)
theorem ZS3 {own : Nat} {ks : List Nat} {wi : TI} {g : TG} {tt : TT} {te : TE} (h : wi σ H fun J H1 => ∀ l, H1 l = none → ZR3 J g tt te l (ZF1 own ks σ) H1 Q) : ZJD own ks wi g tt te σ H Q := h
def ZU5 (K : W.Frag) (x : V) (H : Hp) (R : It → Hp → Prop) : Prop := ∃ a, x = .ref a ∧ (∃ xs, SqT K H a xs) ∧ R (Itt K a) H
def ZU6 (K : W.Frag) (x : V) (H : Hp) (R : It → Hp → Prop) : Prop := ∃ a, x = .ref a ∧ (∃ xs, SqL K H a xs) ∧ R (Itl K a) H
theorem ZS4 {tl : TE} {R : It → Hp → Prop} (h : tl σ H fun x H1 => ZU5 K x H1 R) : ZNo K tl σ H R := h
theorem ZQv {tl : TE} {R : It → Hp → Prop} (h : tl σ H fun x H1 => ZU6 K x H1 R) : ZLl K tl σ H R := h
theorem ZU7 {p : Addr} {xs : List V} {R : It → Hp → Prop} (h1 : SqT K H p xs) (h : R (Itt K p) H) : ZU5 K (.ref p) H R := ⟨p, rfl, ⟨xs, h1⟩, h⟩
theorem ZU8 {p : Addr} {xs : List V} {R : It → Hp → Prop} (h1 : SqL K H p xs) (h : R (Itl K p) H) : ZU6 K (.ref p) H R := ⟨p, rfl, ⟨xs, h1⟩, h⟩
theorem ZS5 {R : Bool → Hp → Prop} (h : R true H) : ZN0 σ H R := h
end
theorem ZDn.seqT {K : W.Frag} {H H' : Hp} {a : Addr} {xs : List V} (e : ZDn H H') (h : SqT K H a xs) : SqT K H' a xs := by
 rcases h with (h | ⟨o, h⟩) | h
 ·exact .inl (.inl (e _ _ h))
 ·exact .inl (.inr ⟨o, e _ _ h⟩)
 ·exact .inr h
def Kp (p : Addr) (H H' : Hp) : Prop := ∀ q o, H q = some o → q ≠ p → H' q = some o
theorem Kp.refl (p : Addr) (H : Hp) : Kp p H H := fun _ _ h _ => h
theorem Kp.trans {p : Addr} {H H1 H2 : Hp} (a : Kp p H H1) (b : Kp p H1 H2) : Kp p H H2 := fun q o h n => b q o (a q o h n) n
theorem Kp.upd {p : Addr} {H : Hp} {o : HO} : Kp p H (upd H p o) := fun q u h n => by rw [ZD6 n]; exact h
theorem Kp.same {p : Addr} {H H' : Hp} (a : ZDn H H') : Kp p H H' := fun q o h _ => a q o h
theorem ZDn.new {H : Hp} {l : Addr} {o : HO} (h : H l = none) : ZDn H (upd H l o) := fun b u e => by rw [ZD6 (ZD4 e h)]; exact e
theorem Kp.then {H H1 H2 : Hp} {p : Addr} (h : Kp p H H1) (s : ZDn H1 H2) : Kp p H H2 := h.trans (Kp.same s)
structure QE (X : Cx) (e : Expr) (t : TE) : Prop where
 h : PE X e t
structure QT (X : Cx) (e : Expr) (t : TT) : Prop where
 h : PT X e t
structure QW (X : Cx) (e : Expr) (t : TT) : Prop where
 h : PW X e t
structure QA (X : Cx) (es : List Expr) (t : TA) : Prop where
 h : PA X es t
structure QS (X : Cx) (st : Stmt) (t : TS) : Prop where
 h : PS X st t
structure QB (X : Cx) (st : List Stmt) (t : TS) : Prop where
 h : PSs X st t
structure QG (X : Cx) (e : Expr) (t : TG) : Prop where
 h : PG X e t
structure QGs (X : Cx) (es : List Expr) (t : TGs) : Prop where
 h : PGs X es t
structure QI (X : Cx) (tg e : Expr) (t : TI) : Prop where
 h : PI X tg e t
structure QF (X : Cx) (es : List Expr) (t : TT) : Prop where
 h : ZKi X es t
structure QO (X : Cx) (e : Option Expr) (t : TO) : Prop where
 h : PO X e t
def ZLn : Expr → Bool
 | .Slice _ _ _ _ => true
 | _ => false
theorem ZS6 {b : Expr} (h : ZLn b = false) : ZNO b := by
 intro o i
 cases b <;> first | rfl | cases h
def ZL7 : Expr → Bool
 | .UnaryOp _ _ _ => false
 | .BoolOp _ _ _ => false
 | .IfExp _ _ _ _ => false
 | .Compare _ _ _ _ => false
 | _ => true
theorem ZU9 {e : Expr} {env : Env} (h : ZL7 e = true) : ∀ whole, isTrue e env whole = (do let v ← whole; standAt e.pos; holding [v] (truthy v)) := by
 intro whole
 cases e <;> first | rfl | cases h
section
variable {X : Cx} {a b c e o : Expr} {es ZFC : List Expr} {ta tb tc te to ti : TE} {tA tB' : TT} {t tr : TA} {pos p p2 pos' : Pos} {x : Str}
theorem qv (i : Nat) {x : Str} {pos : Pos} (hN : X.N[i]? = some x := by rfl) (hv : Vis X.env.scope x := by first | exact Or.inl rfl | exact Or.inr (Or.inl rfl) | exact Or.inr (Or.inr rfl)) (hd : (x == ("__debug__" : Str)) = false := by decide)
 (hcd : (x == ("__classdict__" : Str)) = false := by decide) : QE X (.Name x pos) (ZP4 i) := ⟨ZUA hN hv hd hcd⟩
theorem ZDk {i j pos} : QE X (.Constant (.int i) j pos) (tC (.int i)) := ⟨ZUB⟩
theorem ZR4 {b j pos} : QE X (.Constant (.bool b) j pos) (tC (.bl b)) := ⟨ZVg⟩
theorem ZE8 {j pos} : QE X (.Constant .none j pos) (tC .non) := ⟨ZUC⟩
theorem ZJE {v : V} {u : Value} (hg : Gl X x) (hm : X.mg x = some u) (r : ZDy v u) (hd : (x == ("__debug__" : Str)) = false := by decide) : QE X (.Name x pos) (tC v) := ⟨ZSH hg hm r hd⟩
theorem ZNV {v : V} {u : Value} (hg : Gl X x) (hm : X.mg x = none) (hv : bootBuiltins x = some u) (r : ZDy v u) (hn : x ≠ "__name__" := by decide) (hd : (x == ("__debug__" : Str)) = false := by decide) : QE X (.Name x pos) (tC v) := ⟨ZSI hg hm hv r hn hd⟩
theorem ZDr {op : Operator} {r : R2} (ho : OpR X (binaryOp op) r) (ha : QE X a ta) (hb : QE X b tb) : QE X (.BinOp a op b pos) (tOp r ta tb) := ⟨ZVj ho ha.h hb.h⟩
theorem ZN3 {op : UnaryOp} {r : V → Hp → VK → Prop} (ho : UnR X (unaryOp op) r) (ha : QE X a ta) : QE X (.UnaryOp op a pos) (tUn r ta) := ⟨ZVk ho ha.h⟩
theorem ZVA (ha : QE X a ta) : QE X (.UnaryOp .Not a pos) (ZNi ta) := ⟨ZUJ ha.h⟩
theorem ZO9 {op} (h : QE X a ta) : QE X (.BoolOp op [a] pos) ta := ⟨ZUH h.h⟩
theorem ZPA (ha : QE X a ta) (hb : QE X (.BoolOp .And (b :: ZFC) pos) tb) : QE X (.BoolOp .And (a :: b :: ZFC) pos) (ZNh ta tb) := ⟨ZUI ha.h hb.h⟩
theorem ZGZ (hc : QT X c tA) (ha : QE X a ta) (hb : QE X b tb) : QE X (.IfExp c a b pos) (tIf tA ta tb) := ⟨ZP7 hc.h ha.h hb.h⟩
theorem ZS7 {op : CmpOp} {r : R2} (ho : OpR X (compareOp op) r) (ha : QE X a ta) (hb : QE X b tb) (hm : behindInMarks op b = false) : QE X (.Compare a [op] [b] pos) (tOp r ta tb) := ⟨ZSW ho ha.h hb.h hm⟩
theorem ZD3 {op : CmpOp} {r : R2} (ho : OpR X (compareOp op) r) (ha : QE X a ta) (hb : QE X b tb) (hm : behindInMarks op b = false) : QT X (.Compare a [op] [b] pos) (ZJ4 (tOp r ta tb)) := ⟨ZSX ho ha.h hb.h hm⟩
theorem ZQw {op op' : CmpOp} {r r' : R2} (ho : OpR X (compareOp op) r) (ho' : OpR X (compareOp op') r') (ha : QE X a ta) (hb : QE X b tb) (hc : QE X c tc)
 (hm : lastMarks [op, op'] [b, c] = false := by with_unfolding_all rfl) : QE X (.Compare a [op, op'] [b, c] pos) (ZIg r r' ta tb tc) := ⟨ZQP ho ho' ha.h hb.h hc.h hm⟩
theorem ZHC {op op' : CmpOp} {r r' : R2} (ho : OpR X (compareOp op) r) (ho' : OpR X (compareOp op') r') (ha : QE X a ta) (hb : QE X b tb) (hc : QE X c tc)
 (hm : lastMarks [op, op'] [b, c] = false := by with_unfolding_all rfl) : QT X (.Compare a [op, op'] [b, c] pos) (ZJ4 (ZIg r r' ta tb tc)) := ⟨ZQQ ho ho' ha.h hb.h hc.h hm⟩
theorem ZHy (h : QE X e te) (he : ZL7 e = true := by rfl) : QT X e (tB te) := ⟨ZUD h.h (ZU9 he)⟩
theorem QW.pt (h : QW X e tA) : QT X e tA := ⟨h.h.pt⟩
theorem ZG5 (ha : QT X a tA) : QW X (.BoolOp .And [a] pos) tA := ⟨ZSJ ha.h⟩
theorem ZIj (ha : QT X a tA) : QW X (.BoolOp .Or [a] pos) tA := ⟨ZUE ha.h⟩
theorem ZHz (ha : QT X a tA) (hb : QW X (.BoolOp .And (b :: ZFC) pos) tB') : QW X (.BoolOp .And (a :: b :: ZFC) pos) (ZP5 tA tB') := ⟨ZUF ha.h hb.h⟩
theorem ZKK (ha : QT X a tA) (hb : QW X (.BoolOp .Or (b :: ZFC) pos) tB') : QW X (.BoolOp .Or (a :: b :: ZFC) pos) (tOr tA tB') := ⟨ZVh ha.h hb.h⟩
theorem ZH0 (ha : QT X a tA) : QT X (.UnaryOp .Not a pos) (ZP6 tA) := ⟨ZUG ha.h⟩
theorem ZDi : QA X [] ZJa := ⟨ZUX⟩
theorem ZDh (ha : QE X e te) (hr : QA X es t) (hs : ZFg e = false := by rfl) : QA X (e :: es) (ZLm te t) := ⟨ZV9 ha.h hr.h hs⟩
theorem ZEA {x1} (h : QA X es t) : QE X (.Tuple es x1 pos) (ZQW t) := ⟨ZUY h.h⟩
theorem ZFh (h : QA X es t) : QE X (.List es pos) (ZQX t) := ⟨ZUZ h.h⟩
theorem ZD2 {r : R2} (hr : IxR X r) (ha : QE X a ta) (hb : QE X b tb) (hs : ZLn b = false := by rfl) : QE X (.Subscript a b pos) (tOp r ta tb) := ⟨ZVm hr ha.h hb.h (ZS6 hs)⟩
theorem ZKl : QO X none ZKg := ⟨ZSf⟩
theorem ZKm (h : QE X e te) : QO X (some e) (ZNw te) := ⟨ZSg h.h⟩
theorem ZJe {lo hi : Option Expr} {tl th : TO} {r : V → Option Int → Option Int → Hp → VK → Prop} (hr : SlR X r) (he : QE X e te) (hl : QO X lo tl) (hu : QO X hi th) : QE X (.Subscript e (.Slice lo hi none p2) pos) (tSl r te tl th) := ⟨ZQc hr he.h hl.h hu.h⟩
theorem ZQx {CX : CXT} {k : Nat} {f : Addr} {fd : FuncData} {ps : List Str} {sp : Sp} {dvs : List V} {ds : List Value} {E : XK} (F : ZDw X.prog X.w X.K X.mg X.base CX k f fd ps sp) (hr : Room k X.A) (hg : Gl X x) (hm : X.mg x = some (.ref f)) (hk : W.keepIn X.K (.ref f) = true) (hb : ZDo X.K fd ps ds) (hd : ZD0 dvs ds) (hx : ZE7 CX X E)
 (ha : QA X (e :: es) t) (hns : ZEg (e :: es) = true := by rfl) (hdb : (x == ("__debug__" : Str)) = false := by decide) : QE X (.Call (.Name x p) (e :: es) [] pos) (ZJ9 sp dvs E t) := ⟨ZQo F hr hg hm hk hb hd hx ha.h hns hdb⟩
theorem ZEJ {id : String} {r : List V → Hp → VK → Prop} (hc : ZEq X (.builtin id) r) (hg : Gl X x) (hm : X.mg x = none) (hv : bootBuiltins x = some (.builtin id)) (ha : QA X (e :: es) t) (hns : ZEg (e :: es) = true := by rfl) (hn : x ≠ "__name__" := by decide) (hdb : (x == ("__debug__" : Str)) = false := by decide) :
 QE X (.Call (.Name x p) (e :: es) [] pos) (tCB r t) := ⟨ZO6 hc hg hm hv ha.h hns hn hdb⟩
theorem ZE1 {T : String} {r : List V → Hp → VK → Prop} (hc : ZEq X (.type T) r) (hg : Gl X x) (hm : X.mg x = none) (hv : bootBuiltins x = some (.type T)) (ha : QA X (e :: es) t) (hns : ZEg (e :: es) = true := by rfl) (hn : x ≠ "__name__" := by decide) (hdb : (x == ("__debug__" : Str)) = false := by decide) :
 QE X (.Call (.Name x p) (e :: es) [] pos) (tCB r t) := ⟨ZN1 hc hg hm hv ha.h hns hn hdb⟩
theorem ZFS : QF X [] ZN0 := ⟨ZQm⟩
theorem ZHD (hc : QT X c tA) : QF X [c] tA := ⟨ZQn hc.h⟩
theorem ZS8 {tg : Expr} (hl : QE X e te) : QI X tg e (ZLl X.K te) := ⟨ZSP hl.h⟩
theorem ZVB {tg : Expr} (hl : QE X e te) : QI X tg e (ZNo X.K te) := ⟨ZUP hl.h⟩
theorem ZFi {tg : Expr} (hg : Gl X "range") (hm : X.mg "range" = none) (ha : QA X [a] t) (hs : ZFg a = false := by rfl) : QI X tg (.Call (.Name "range" p) [a] [] pos) (ZNp t) := ⟨ZOr hg hm ha.h (ZFO hs)⟩
theorem ZEc {i : Nat} (hN : X.N.Nodup) (hi : X.N[i]? = some x) (hx : Loc X.env.scope x) (hf : X.fn x = true ∨ X.env.scope.names.lookup x = some .local := by first | exact .inl rfl | exact .inr rfl | assumption) : QG X (.Name x pos) (ZGE i) := ⟨ZSN hN hi hx hf⟩
theorem ZEQ : QGs X [] ZQD := ⟨ZSO⟩
theorem ZPB {e : Expr} {es : List Expr} {env : Env} (h : ZFg e = false) : (assignEach (e :: es) env).map (·.2) = assign e env :: (assignEach es env).map (·.2) := by
 cases e <;> first | rfl | cases h
theorem ZDq {g : TG} {u : TGs} (h1 : QG X e g) (h2 : QGs X es u) (hs : ZFg e = false := by rfl) : QGs X (e :: es) (ZNk g u) := ⟨ZQE h1.h h2.h (ZPB hs)⟩
theorem ZVC {k : Nat} {u : TGs} {n : Nat} (hc : X.calm = true) (h : QGs X es u) (hn : (assignEach es X.env).length = n := by rfl) (hst : (assignEach es X.env).findIdx? (·.1) = none := by rfl) : QG X (.Tuple es k pos) (ZNl X.K n u) := ⟨ZUL hc h.h hn hst⟩
theorem ZL8 {s : ZLs} (ho : QE X o to) (hi : QE X e ti) (hs : ZQC X s)
 (ha : ∀ v, assign (.Subscript o e pos) X.env v = (do
  let ov ← holding [v] (eval o X.env)
  let iv ← holding [v, ov] (eval e X.env)
  standAt pos
  holding [v, ov, iv] (setItem ov iv v)
  release [v, ov, iv] []) := by intro _; rfl) : QG X (.Subscript o e pos) (ZQF to ti s) := ⟨ZUM ho.h hi.h hs ha⟩
theorem ZFs {N : List Str} {sc : Scope} {own caps : List Str} {ks : List Nat} {elt tg iter : Expr} {ifs : List Expr} {scope : Scope} {wi : TI} {g : TG} {tt : TT}
  (hN : X.N = N) (hsc : X.env.scope = sc) (hc : X.calm = true) (S : ZIi N sc own caps ks scope) (hi : QI X tg iter wi)
  (hg : ∀ cl C s₂ H₂ fp, QG (ZEC X (own ++ caps) scope cl C s₂ H₂ fp) tg g)
  (ht : ∀ cl C s₂ H₂ fp, QF (ZEC X (own ++ caps) scope cl C s₂ H₂ fp) ifs tt)
  (he : ∀ cl C s₂ H₂ fp, QE (ZEC X (own ++ caps) scope cl C s₂ H₂ fp) elt te)
  (hs : ∀ x, foldedSetIterable iter X.env x = pure x := by intro _; rfl) :
  QE X (.ListComp elt [⟨tg, iter, ifs, 0⟩] scope pos) (ZJD own.length ks wi g tt te) :=
 ⟨ZSk hN hsc hc S hi.h (fun cl C s₂ H₂ fp => (hg cl C s₂ H₂ fp).h) (fun cl C s₂ H₂ fp => (ht cl C s₂ H₂ fp).h) (fun cl C s₂ H₂ fp => (he cl C s₂ H₂ fp).h) hs⟩
theorem ZGw {T : String} {name : Str} {id : String} {r : V → List V → Hp → VK → Prop} {apos cpos : Pos} (pa : PlainAttrs T) (slot : Slot T name id) (hty : typeOf (.builtin id) = pure (.type "method_descriptor")) (hm : MtR X id r) (ho : QE X o to) (ha : QA X (e :: es) t)
  (hst : ZEg (e :: es) = true := by rfl) (hbase : attributeBase o name X.env (eval o X.env) = eval o X.env := by rfl)
  (hfew : ((backTo cpos (starEach (e :: es) X.env)).all (fun x => !x.1) && (backToKw cpos (keywordEach [] X.env)).all (fun x => x.1.isSome)
   && decide ((e :: es).length + ([] : List Keyword).length + (if ([] : List Keyword).isEmpty then 0 else 1) < 30)) = true := by rfl)
  (hline : (apos.endLine == cpos.line) = true := by rfl) : QE X (.Call (.Attribute o name apos) (e :: es) [] cpos) (tBM X.K T r to t) :=
 ⟨ZVn pa slot hty hm ho.h ha.h hbase hfew hline (ZGY hst) (ZF7 (ZGB hst))⟩
end
section
variable {X : Cx} {st : Stmt} {ZFC sa sb : List Stmt} {t u : TS} {e c : Expr} {te : TE} {tA : TT} {pos pos' : Pos} {x : Str}
theorem ZEZ : QB X [] ZNj := ⟨ZSK⟩
theorem ZDj (h1 : QS X st t) (h2 : QB X ZFC u) : QB X (st :: ZFC) (ZP8 t u) := ⟨ZP9 h1.h h2.h⟩
theorem ZDm (h1 : QS X st t) : QB X [st] t := ⟨ZSL h1.h⟩
theorem ZDz (he : QE X e te) (hs : ZFq e = false := by rfl) : QS X (.Expr e pos) (ZLk te) := ⟨ZQp he.h hs⟩
theorem ZD1 (he : QE X e te) : QS X (.Return (some e) pos) (ZQA te) := ⟨ZUK he.h⟩
theorem ZEi (hc : QT X c tA) (ha : QB X sa t) (hb : QB X sb u) : QS X (.If c sa sb pos) (ZH9 tA t u) := ⟨ZVi hc.h ha.h hb.h⟩
theorem ZIB : QS X st ZOp := ⟨ZQB⟩
theorem ZS9 {i : Nat} (hN : X.N.Nodup) (hi : X.N[i]? = some x) (hx : Loc X.env.scope x) (he : QE X e te) (hs : ZFq e = false := by rfl) (hf : X.fn x = true ∨ X.env.scope.names.lookup x = some .local := by first | exact .inl rfl | exact .inr rfl | assumption) :
 QS X (.Assign [.Name x pos'] e pos) (ZHd te (ZGE i)) := ⟨ZSm hN hi hx he.h hs hf⟩
theorem ZEy {tg : Expr} {g : TG} (he : QE X e te) (hg : QG X tg g) (hs : ZFq e = false := by rfl) (hw : swappedStores [tg] e X.env = pure none := by rfl)
 (h1 : (assignEach [tg] X.env).map (·.2) = [assign tg X.env] := by rfl) : QS X (.Assign [tg] e pos) (ZHd te g) := ⟨ZUN he.h hg.h (ZHA hs) hw h1⟩
theorem ZE9 {tg iter : Expr} {wi : TI} {g : TG} (hp : PassesOwn (model X.prog X.w) X.A X.env X.xe) (hc : X.calm = true) (hi : QI X tg iter wi) (hg : QG X tg g) (hb : QB X sa t)
 (hs : ∀ x, foldedSetIterable iter X.env x = pure x := by intro _; rfl) : QS X (.For tg iter sa [] pos) (ZQJ wi g t) := ⟨ZUQ hp hc hi.h hg.h hb.h hs⟩
theorem ZL9 (hp : PassesOwn (model X.prog X.w) X.A X.env X.xe) (hc : QT X c tA) (hb : QB X sa t) : QS X (.While c sa [] pos) (ZLt tA t) := ⟨ZQH hp hc.h hb.h⟩
end
section
variable {X : Cx} {e : Expr} {es : List Expr} {te : TE} {pos : Pos} (K : W.Frag) (h : X.K = K)
include h
theorem ZH1 : ZEq X (.builtin "len") (ZN2 K) := h ▸ ZUl
theorem ZFT : ZEq X (.type "tuple") (ZL3 K) := h ▸ ZQq
theorem ZPC : ZEq X (.builtin "isinstance") (ZQk K) := h ▸ ZQl
theorem ZFG : IxR X (ZQe K) := h ▸ ZSh
theorem ZD5 : IxR X (ZQf K) := h ▸ ZUc
theorem ZTA : SlR X (ZNz K) := h ▸ ZSi
theorem ZFH {tg : Expr} (hl : QE X e te) : QI X tg e (ZLl K te) := h ▸ ZS8 hl
theorem ZHE {tg : Expr} (hl : QE X e te) : QI X tg e (ZNo K te) := h ▸ ZVB hl
theorem ZEb {k : Nat} {u : TGs} {n : Nat} (hc : X.calm = true) (hg : QGs X es u) (hn : (assignEach es X.env).length = n := by rfl) (hst : (assignEach es X.env).findIdx? (·.1) = none := by rfl) : QG X (.Tuple es k pos) (ZNl K n u) := h ▸ ZVC hc hg hn hst
end
section
variable {X : Cx} {tg : Expr}
end
section
variable {σ : St} {H : Hp}
end
mutual
inductive Dat (K : W.Frag) (H : Hp) : V → PyData → Prop
 | non : Dat K H .non .none
 | bl (b : Bool) : Dat K H (.bl b) (.bool b)
 | int (i : Int) : Dat K H (.int i) (.int i)
 | str (x : Str) : Dat K H (.str x) (.str x)
 | tup {a : Addr} {xs : List V} {ds : List PyData} (h : SqT K H a xs) (r : ZFj K H xs ds) : Dat K H (.ref a) (.tuple ds)
 | lst {a : Addr} {xs : List V} {ds : List PyData} (h : SqL K H a xs) (r : ZFj K H xs ds) : Dat K H (.ref a) (.list ds)
inductive ZFj (K : W.Frag) (H : Hp) : List V → List PyData → Prop
 | nil : ZFj K H [] []
 | cons {x : V} {d : PyData} {xs : List V} {ds : List PyData} (h : Dat K H x d) (r : ZFj K H xs ds) : ZFj K H (x :: xs) (d :: ds)
end
section
variable {X : Cx} {pins : List (Addr × Obj)} {σ : St} {H : Hp} {s : Shared}
mutual
theorem Dat.reads (I : Inv X pins σ H s) : ∀ {x : V} {d : PyData} {u : Value}, Dat X.K H x d → ZDy x u → ∃ as, Reads s.heap u d as
 | _, _, u, .non, r => by cases (show u = Value.none from r); exact ⟨_, .none⟩
 | _, _, u, .bl b, r => by cases (show u = Value.bool b from r); exact ⟨_, .bool b⟩
 | _, _, u, .int i, r => by obtain ⟨t, rfl⟩ := (show ∃ t, u = Value.int i t from r); exact ⟨_, .int i t⟩
 | _, _, u, .str x, r => by obtain ⟨t, rfl⟩ := (show ∃ t, u = Value.str x t from r); exact ⟨_, .str x t⟩
 | _, _, u, @Dat.tup _ _ a xs ds h rs, r => by
  cases (show u = Value.ref a from r)
  obtain ⟨its, rv, ⟨o, ho, hc, n, hd⟩, _⟩ := I.tuple h
  obtain ⟨as, ra⟩ := ZFj.reads I rs rv
  exact ⟨_, .tuple ho hc hd (by simpa using ra)⟩
 | _, _, u, @Dat.lst _ _ a xs ds h rs, r => by
  cases (show u = Value.ref a from r)
  obtain ⟨its, rv, ⟨o, n, ho, hc, _, hd⟩, _⟩ := I.list h
  obtain ⟨as, ra⟩ := ZFj.reads I rs rv
  exact ⟨_, .list ho hc hd (by simpa using ra)⟩
theorem ZFj.reads (I : Inv X pins σ H s) : ∀ {xs : List V} {ds : List PyData} {us : List Value}, ZFj X.K H xs ds → ZD0 xs us → ∃ as, ReadsAll s.heap us ds as
 | _, _, _, .nil, .nil => ⟨_, .nil⟩
 | _, _, _, .cons h r, .cons r1 r2 => by
  obtain ⟨as, ra⟩ := Dat.reads I h r1
  obtain ⟨bs, rb⟩ := ZFj.reads I r r2
  exact ⟨_, .cons ra rb⟩
end
end
section
variable {X : Cx}
def ZQy (K : W.Frag) : R2 := fun x y H Q => ∃ d e, Dat K H x d ∧ Dat K H y e ∧ d.canLay0 = true ∧ e.canLay0 = true ∧ d.depth ≤ 60 ∧ Q (.bl (!PyData.eqv d e)) H
theorem ZPD (K : W.Frag) (hK : X.K = K) (hu : X.A.units + 64 < cLine) : OpR X (compareOp .NotEq) (ZQy K) := by
 subst hK
 intro pins s σ H x y v u Q I rx ry h
 obtain ⟨d, e, h1, h2, c1, c2, hd, q⟩ := h
 obtain ⟨as, ra⟩ := h1.reads I rx
 obtain ⟨bs, rb⟩ := h2.reads I ry
 exact SeqAt.compareNe_reads ra rb c1 c2 (by have := Nat.min_le_left d.depth e.depth; omega) ⟨.bl _, H, I, rfl, q⟩
theorem ZVD {K : W.Frag} {H : Hp} {Q : VK} {x y : V} {d e : PyData} (h1 : Dat K H x d) (h2 : Dat K H y e) (c1 : d.canLay0 = true) (c2 : e.canLay0 = true) (hd : d.depth ≤ 60) (h : Q (.bl (!PyData.eqv d e)) H) : ZQy K x y H Q := ⟨d, e, h1, h2, c1, c2, hd, h⟩
theorem ZVv {K : W.Frag} {T : String} {r : V → List V → Hp → VK → Prop} {to : TE} {t : TA} {σ : St} {H : Hp} {Q : VK} (h : to σ H fun x H1 => tyV K T x H1 ∧ t σ H1 fun xs H2 => r x xs H2 Q) : tBM K T r to t σ H Q := h
theorem tyL {K : W.Frag} {H : Hp} {p : Addr} {xs : List V} (h : H p = some (.lst xs)) : tyV K "list" (.ref p) H := .inl ⟨rfl, xs, SqL.of h⟩
theorem ZFA {H : Hp} {Q : VK} {p : Addr} {xs : List V} {y : V} (h1 : H p = some (.lst xs)) (hz : xs.length < sizeLine) (h : ∀ H2, H2 p = some (.lst (xs ++ [y])) → Kp p H H2 → Q .non H2) : ZNP (.ref p) [y] H Q :=
 ⟨p, xs, y, rfl, rfl, h1, hz, h _ ZDu Kp.upd⟩
end
def ZVw (p : Int × Int) : PyData := .tuple [.int p.1, .int p.2]
def ZDt (H : Hp) (vs : List V) (l : PL) : Prop := Paired (fun v (p : Int × Int) => ∃ a, v = V.ref a ∧ H a = some (.tup [.int p.1, .int p.2])) vs l
theorem ZDt.same {H H' : Hp} {vs : List V} {l : PL} (h : ZDt H vs l) (s : ZDn H H') : ZDt H' vs l := Paired.mapP h fun _ _ ⟨a, e, z⟩ => ⟨a, e, s _ _ z⟩
section
variable {κ : Type} [DecidableEq κ]
def ZD7 (kvs : List (κ × V)) (k : κ) : Option V := (kvs.find? fun kv => decide (kv.1 = k)).map (·.2)
def ZEx (kvs : List (κ × V)) (k : κ) (v : V) : List (κ × V) :=
 if (kvs.any fun kv => decide (kv.1 = k)) = true then kvs.map (fun kv => if kv.1 = k then (kv.1, v) else kv) else kvs ++ [(k, v)]
def ZE5 (kvs : List (κ × V)) (k : κ) : List (κ × V) := kvs.filter fun kv => decide (kv.1 ≠ k)
theorem ZEr {p : κ × V} {r : List (κ × V)} {k : κ} (e : p.1 = k) : ZD7 (p :: r) k = some p.2 := by simp [ZD7, List.find?_cons, e]
theorem ZEl {p : κ × V} {r : List (κ × V)} {k : κ} (e : ¬ p.1 = k) : ZD7 (p :: r) k = ZD7 r k := by simp [ZD7, List.find?_cons, e]
theorem ZIC (k : κ) : ∀ kvs : List (κ × V), (kvs.any fun kv => decide (kv.1 = k)) = (ZD7 kvs k).isSome
 | [] => rfl
 | p :: r => by
  rw [List.any_cons]
  by_cases e : p.1 = k
  ·simp only [ZEr e, decide_eq_true e, Bool.true_or, Option.isSome_some]
  ·rw [ZEl e, decide_eq_false e, Bool.false_or]; exact ZIC k r
theorem ZMA (k j : κ) (y : V) : ∀ kvs : List (κ × V), ZD7 (kvs.map fun kv => if kv.1 = k then (kv.1, y) else kv) j = (ZD7 kvs j).map fun x => if j = k then y else x
 | [] => rfl
 | p :: r => by
  have ih := ZMA k j y r
  rw [List.map_cons]
  by_cases h : p.1 = k
  ·rw [if_pos h]
   by_cases e : p.1 = j
   ·rw [ZEr (p := (p.1, y)) e, ZEr e, Option.map_some, if_pos (e.symm.trans h)]
   ·rw [ZEl (p := (p.1, y)) e, ZEl e, ih]
  ·rw [if_neg h]
   by_cases e : p.1 = j
   ·rw [ZEr (p := p) e, ZEr e, Option.map_some, if_neg (fun z => h (e.trans z))]
   ·rw [ZEl (p := p) e, ZEl e, ih]
theorem ZLC (k j : κ) (y : V) : ∀ kvs : List (κ × V), ZD7 kvs k = none → ZD7 (kvs ++ [(k, y)]) j = if j = k then some y else ZD7 kvs j
 | [], _ => by
  by_cases e : k = j
  ·rw [if_pos e.symm]; exact ZEr (p := (k, y)) e
  ·rw [if_neg (fun z => e z.symm)]; exact ZEl (p := (k, y)) e
 | p :: r, hn => by
  rw [List.cons_append]
  have hk : ¬ p.1 = k := fun z => by rw [ZEr z] at hn; cases hn
  rw [ZEl hk] at hn
  have ih := ZLC k j y r hn
  by_cases e : p.1 = j
  ·rw [ZEr e, ZEr e, if_neg (fun z => hk (e.trans z))]
  ·rw [ZEl e, ZEl e, ih]
theorem ZGa (kvs : List (κ × V)) (k j : κ) (y : V) : ZD7 (ZEx kvs k y) j = if j = k then some y else ZD7 kvs j := by
 unfold ZEx
 by_cases a : (kvs.any fun kv => decide (kv.1 = k)) = true
 ·rw [if_pos a, ZMA]
  rw [ZIC] at a
  by_cases e : j = k
  ·obtain ⟨x, hx⟩ := Option.isSome_iff_exists.mp a
   rw [if_pos e, e, hx, Option.map_some, if_pos rfl]
  ·rw [if_neg e]
   cases ZD7 kvs j with
   | none => rfl
   | some x => rw [Option.map_some, if_neg e]
 ·rw [if_neg a]
  refine ZLC k j y kvs ?_
  rw [ZIC] at a
  cases q : ZD7 kvs k with
  | none => rfl
  | some x => rw [q] at a; exact (a rfl).elim
theorem ZFZ (kvs : List (κ × V)) (k : κ) (v : V) : (ZEx kvs k v).length ≤ kvs.length + 1 := by
 unfold ZEx
 split
 ·rw [List.length_map]; omega
 ·rw [List.length_append, List.length_cons, List.length_nil]; omega
theorem ZFQ.isSome_eq {o : Option V} {u : Option Value} (r : ZFQ o u) : o.isSome = u.isSome := by
 cases o with
 | none => cases u with
  | none => rfl
  | some _ => exact (show False from r).elim
 | some _ => cases u with
  | none => exact (show False from r).elim
  | some _ => rfl
theorem ZFQ.getD {o : Option V} {u : Option Value} {d : V} {d' : Value} (r : ZFQ o u) (rd : ZDy d d') : ZDy (o.getD d) (u.getD d') := by
 cases o with
 | none => cases u with
  | none => exact rd
  | some _ => exact (show False from r).elim
 | some _ => cases u with
  | none => exact (show False from r).elim
  | some _ => exact r
theorem KV.val {kvs : List (κ × V)} {vs : List (κ × Value)} (r : KV kvs vs) (k : κ) : ZFQ (ZD7 kvs k) (valueAt vs k) := by
 unfold KV at r
 induction r with
 | nil => exact True.intro
 | @cons p q ps qs h t ih =>
  obtain ⟨h1, h2⟩ := h
  by_cases e : p.1 = k
  ·have e' : q.1 = k := h1.symm.trans e
   have b : valueAt (q :: qs) k = some q.2 := by simp [valueAt, List.find?_cons, e']
   rw [ZEr e, b]; exact h2
  ·have e' : ¬ q.1 = k := fun z => e (h1.trans z)
   have b : valueAt (q :: qs) k = valueAt qs k := by simp [valueAt, List.find?_cons, e']
   rw [ZEl e, b]; exact ih
theorem KV.any {kvs : List (κ × V)} {vs : List (κ × Value)} (r : KV kvs vs) (k : κ) : (kvs.any fun kv => decide (kv.1 = k)) = vs.any fun kv => decide (kv.1 = k) := by
 unfold KV at r
 induction r with
 | nil => rfl
 | cons h t ih => rw [List.any_cons, List.any_cons, ih, h.1]
theorem KV.repl {kvs : List (κ × V)} {vs : List (κ × Value)} (r : KV kvs vs) (k : κ) {y : V} {u : Value} (ry : ZDy y u) :
  KV (kvs.map fun kv => if kv.1 = k then (kv.1, y) else kv) (vs.map fun kv => if kv.1 = k then (kv.1, u) else kv) := by
 unfold KV at r ⊢
 induction r with
 | nil => exact .nil
 | @cons p q ps qs h t ih =>
  rw [List.map_cons, List.map_cons]
  refine .cons ?_ ih
  obtain ⟨h1, h2⟩ := h
  by_cases e : p.1 = k
  ·rw [if_pos e, if_pos (h1.symm.trans e)]; exact ⟨h1, ry⟩
  ·rw [if_neg e, if_neg (fun z => e (h1.trans z))]; exact ⟨h1, h2⟩
theorem KV.put {kvs : List (κ × V)} {vs : List (κ × Value)} (r : KV kvs vs) (k : κ) {y : V} {u : Value} (ry : ZDy y u) : KV (ZEx kvs k y) (stored vs k u) := by
 unfold ZEx stored
 rw [r.any k]
 by_cases e : (vs.any fun kv => decide (kv.1 = k)) = true
 ·rw [if_pos e, if_pos e]; exact r.repl k ry
 ·rw [if_neg e, if_neg e]; exact Paired.snoc r ⟨rfl, ry⟩
theorem KV.drop {kvs : List (κ × V)} {vs : List (κ × Value)} (r : KV kvs vs) (k : κ) : KV (ZE5 kvs k) (without vs k) := by
 unfold KV at r ⊢
 unfold ZE5 without
 induction r with
 | nil => exact .nil
 | @cons p q ps qs h t ih =>
  obtain ⟨h1, h2⟩ := h
  rw [List.filter_cons, List.filter_cons]
  by_cases e : p.1 = k
  ·have a : ¬ decide (p.1 ≠ k) = true := by simp [e]
   have b : ¬ decide (q.1 ≠ k) = true := by simp [h1.symm.trans e]
   rw [if_neg a, if_neg b]; exact ih
  ·have e' : ¬ q.1 = k := fun z => e (h1.trans z)
   have a : decide (p.1 ≠ k) = true := by simp [e]
   have b : decide (q.1 ≠ k) = true := by simp [e']
   rw [if_pos a, if_pos b]; exact .cons ⟨h1, h2⟩ ih
theorem KV.length {kvs : List (κ × V)} {vs : List (κ × Value)} (r : KV kvs vs) : kvs.length = vs.length := Paired.length r
theorem ZQz (kvs : List (κ × V)) (k : κ) : (ZE5 kvs k).length ≤ kvs.length := List.length_filter_le _ _
end
theorem ZID {P : Program} {w : World} {k : Key} {u : Value} (r : ZDy (kV k) u) : (ZEX P w).is k u = true := by
 cases k with
 | inl i => obtain ⟨t, e⟩ := (show ∃ t, u = Value.int i t from r); subst e; exact ZMy P w i t
 | inr x => obtain ⟨t, e⟩ := (show ∃ t, u = Value.str x t from r); subst e; exact ZMz P w x t
theorem ZLD {P : Program} {w : World} : ∀ {ks : List Key} {us : List Value}, ZD0 (ks.map kV) us → ItemsAre (ZEX P w) ks us
 | [], _, r => by rw [List.map_nil] at r; cases r; exact .nil
 | k :: ks, _, r => by
  rw [List.map_cons] at r
  cases r with
  | cons h t => exact .cons (ZID h) (ZLD t)
abbrev KT (H : Hp) : List (List Key × V) → List (List Key × Addr × Value) → Prop := Paired fun p q => p.1 = q.1 ∧ H q.2.1 = some (.tup (p.1.map kV)) ∧ ZDy p.2 q.2.2
theorem KT.val {H : Hp} {kvs : List (List Key × V)} {xs : List (List Key × Addr × Value)} (r : KT H kvs xs) (k : List Key) : ZFQ (ZD7 kvs k) ((atKey xs k).map (·.2)) := by
 induction r with
 | nil => exact True.intro
 | @cons p q ps qs h t ih =>
  obtain ⟨h1, _, h2⟩ := h
  by_cases e : p.1 = k
  ·have e' : q.1 = k := h1.symm.trans e
   have b : atKey (q :: qs) k = some q.2 := by simp [atKey, List.find?_cons, e']
   rw [ZEr e, b]; exact h2
  ·have e' : ¬ q.1 = k := fun z => e (h1.trans z)
   have b : atKey (q :: qs) k = atKey qs k := by simp [atKey, List.find?_cons, e']
   rw [ZEl e, b]; exact ih
theorem KT.repl {H : Hp} {kvs : List (List Key × V)} {xs : List (List Key × Addr × Value)} (r : KT H kvs xs) (k : List Key) {y : V} {u : Value} (ry : ZDy y u) :
  KT H (kvs.map fun kv => if kv.1 = k then (kv.1, y) else kv) (xs.map (putAt k u)) := by
 induction r with
 | nil => exact .nil
 | @cons p q ps qs h t ih =>
  rw [List.map_cons, List.map_cons]
  refine .cons ?_ ih
  obtain ⟨h1, h2, h3⟩ := h
  unfold putAt
  by_cases e : p.1 = k
  ·rw [if_pos e, if_pos (h1.symm.trans e)]; exact ⟨h1, h2, ry⟩
  ·rw [if_neg e, if_neg (fun z => e (h1.trans z))]; exact ⟨h1, h2, h3⟩
theorem KT.put {H : Hp} {kvs : List (List Key × V)} {xs : List (List Key × Addr × Value)} (r : KT H kvs xs) (k : List Key) {b : Addr} {y : V} {u : Value} (hb : H b = some (.tup (k.map kV))) (ry : ZDy y u) :
  KT H (ZEx kvs k y) (storedH xs k b u) := by
 have e : (kvs.any fun kv => decide (kv.1 = k)) = (atKey xs k).isSome := by
  rw [ZIC, (r.val k).isSome_eq, Option.isSome_map]
 unfold ZEx storedH
 rw [e]
 by_cases q : (atKey xs k).isSome = true
 ·rw [if_pos q, if_pos q]; exact r.repl k ry
 ·rw [if_neg q, if_neg q]; exact Paired.snoc r ⟨rfl, hb, ry⟩
theorem KT.keeps {H H' : Hp} {kvs : List (List Key × V)} {xs : List (List Key × Addr × Value)} (r : KT H kvs xs) (ht : ∀ b ys, H b = some (.tup ys) → H' b = some (.tup ys)) : KT H' kvs xs :=
 Paired.mapP r fun _ _ z => ⟨z.1, ht _ _ z.2.1, z.2.2⟩
section
variable {P : Program} {w : World} {H : Hp} {h : Heap} {a : Addr}
theorem ZR5 {u : HO} (ok : HOk P w H h) (e : Rd H a u) : ZER P w H h a u := e.ok ok
theorem ZGx {kvs : List (Key × V)} (ok : HOk P w H h) (e : Rd H a (.dK kvs)) : kvs.length ≤ sizeLine ∧ (a == sysModules) = false ∧ ∃ vs, KV kvs vs ∧ h.DictOf (ZEX P w) a vs :=
 show ZER P w H h a (.dK kvs) from ZR5 ok e
theorem ZLo {kvs : List (Key × V)} (ok : HOk P w H h) (e : H a = some (.dK kvs)) : kvs.length ≤ sizeLine ∧ (a == sysModules) = false ∧ ∃ vs, KV kvs vs ∧ h.DictOf (ZEX P w) a vs := ZGx ok (.inl e)
theorem ZHF {ks : List Key} (ok : HOk P w H h) (e : H a = some (.tup (ks.map kV))) : (tupleKind (ZEX P w)).is h ks a := by
 obtain ⟨_, its, r, o, h1, h2, n, h3⟩ := (show ZER P w H h a (.tup (ks.map kV)) from ok a _ e)
 exact ⟨o, its.toArray, n, h1, h2, h3, by simpa using ZLD r⟩
theorem ZHW {kvs : List (List Key × V)} (ok : HOk P w H h) (e : Rd H a (.dT kvs)) : kvs.length ≤ sizeLine ∧ (a == sysModules) = false ∧
  ∃ xs, KT H kvs xs ∧ h.DictOfH (tupleKind (ZEX P w)) a xs := by
 obtain ⟨z, y, xs, r, o, es, ep, h1, h2, h3, h4, h5⟩ := (show ZER P w H h a (.dT kvs) from ZR5 ok e)
 refine ⟨z, y, xs, r, o, es, ep, h1, h2, h3, h4, fun x hx => ?_, h5⟩
 have all : ∀ {l : List (List Key × V)} {m : List (List Key × Addr × Value)}, KT H l m → ∀ x ∈ m, (tupleKind (ZEX P w)).is h x.1 x.2.1 := by
  intro l m q
  induction q with
  | nil => intro x hx; exact nomatch hx
  | @cons p q ps qs hq t ih =>
   intro x hx
   rcases List.mem_cons.mp hx with e | hx
   ·subst e
    exact ZHF ok (by rw [← hq.1]; exact hq.2.1)
   ·exact ih x hx
 exact all r x hx
theorem ZR6 {kvs : List (List Key × V)} (ok : HOk P w H h) (e : H a = some (.dT kvs)) : kvs.length ≤ sizeLine ∧ (a == sysModules) = false ∧
 ∃ xs, KT H kvs xs ∧ h.DictOfH (tupleKind (ZEX P w)) a xs := ZHW ok (.inl e)
end
def ZEu (H : Hp) (a : Addr) (y : V) (r : Option V) : Prop :=
 (∃ kvs k, Rd H a (.dK kvs) ∧ y = kV k ∧ r = ZD7 kvs k) ∨ ∃ kvs k b, Rd H a (.dT kvs) ∧ y = .ref b ∧ H b = some (.tup (k.map kV)) ∧ r = ZD7 kvs k
def ZIE (H : Hp) (a : Addr) (y v : V) (H' : Hp) : Prop :=
 (∃ kvs k, H a = some (.dK kvs) ∧ y = kV k ∧ kvs.length < sizeLine ∧ H' = upd H a (.dK (ZEx kvs k v))) ∨
 ∃ kvs k b, H a = some (.dT kvs) ∧ y = .ref b ∧ H b = some (.tup (k.map kV)) ∧ kvs.length < sizeLine ∧ H' = upd H a (.dT (ZEx kvs k v))
theorem ZEu.k {H : Hp} {a : Addr} {kvs : List (Key × V)} {k : Key} (e : H a = some (.dK kvs)) : ZEu H a (kV k) (ZD7 kvs k) := .inl ⟨kvs, k, .inl e, rfl, rfl⟩
theorem ZEu.t {H : Hp} {a b : Addr} {kvs : List (List Key × V)} {k : List Key} (e : H a = some (.dT kvs)) (eb : H b = some (.tup (k.map kV))) : ZEu H a (.ref b) (ZD7 kvs k) := .inr ⟨kvs, k, b, .inl e, rfl, eb, rfl⟩
theorem ZIE.k {H : Hp} {a : Addr} {kvs : List (Key × V)} {k : Key} {v : V} (e : H a = some (.dK kvs)) (hl : kvs.length < sizeLine) : ZIE H a (kV k) v (upd H a (.dK (ZEx kvs k v))) := .inl ⟨kvs, k, e, rfl, hl, rfl⟩
theorem ZIE.t {H : Hp} {a b : Addr} {kvs : List (List Key × V)} {k : List Key} {v : V} (e : H a = some (.dT kvs)) (eb : H b = some (.tup (k.map kV))) (hl : kvs.length < sizeLine) :
 ZIE H a (.ref b) v (upd H a (.dT (ZEx kvs k v))) := .inr ⟨kvs, k, b, e, rfl, eb, hl, rfl⟩
section
variable {X : Cx} {pins : List (Addr × Obj)} {σ : St} {H : Hp} {s : Shared} {a : Addr} {y v : V} {u r : Value} {o : Option V} {A : Around} {E : Value → Shared → Prop}
theorem Inv.big (I : Inv X pins σ H s) : sysModules < s.heap.objs.size := by
 have h : mainGlobals < s.heap.objs.size := (I.mod.glob.keeps I.bk).lt
 exact Nat.lt_trans (by decide) h
theorem ZPE {Q : Value → Shared → Prop} (hu : A.units + 1 < cLine) (I : Inv X pins σ H s) (g : ZEu H a y (some v)) (ry : ZDy y u) (h : ∀ w' s', Inv X pins σ H s' → ZDy v w' → Q w' s') :
  wpAny (model X.prog X.w) A (getItem (.ref a) u) Q E s := by
 rcases g with ⟨kvs, k, e, ey, l⟩ | ⟨kvs, k, b, e, ey, eb, l⟩
 ·subst ey
  obtain ⟨z, hd, vs, rel, dd⟩ := ZGx I.hok e
  obtain ⟨w', hw, rw'⟩ := ZFQ.some_of (v := v) (o := valueAt vs k) (by rw [l]; exact rel.val k)
  exact wpAny_getItem_of (ZID ry) dd.mapOf hw (h w' _ (I.tok _) rw')
 ·subst ey
  cases (show u = Value.ref b from ry)
  obtain ⟨z, hd, xs, rel, dd⟩ := ZHW I.hok e
  obtain ⟨w', hw, rw'⟩ := ZFQ.some_of (v := v) (o := (atKey xs k).map (·.2)) (by rw [l]; exact rel.val k)
  obtain ⟨p, hp, hp2⟩ := Option.map_eq_some_iff.mp hw
  refine wpAny_getItem_heap (tupleKind_room_in1 hu) (ZHF I.hok eb) dd hp ?_
  rw [hp2]
  exact h w' _ (I.tok _) rw'
theorem ZWE {Q : Value → Shared → Prop} (hu : A.units + 1 < cLine) (I : Inv X pins σ H s) (g : ZEu H a y o) (ry : ZDy y u) (h : ∀ s', Inv X pins σ H s' → Q (.bool o.isSome) s') :
  wpAny (model X.prog X.w) A (compareOp .In u (.ref a)) Q E s := by
 rcases g with ⟨kvs, k, e, ey, l⟩ | ⟨kvs, k, b, e, ey, eb, l⟩
 ·subst ey
  obtain ⟨z, hd, vs, rel, dd⟩ := ZGx I.hok e
  refine wpAny_in_of (ZID ry) hd dd.mapOf ?_
  rw [← (rel.val k).isSome_eq, ← l]
  exact h _ (I.tok _)
 ·subst ey
  cases (show u = Value.ref b from ry)
  obtain ⟨z, hd, xs, rel, dd⟩ := ZHW I.hok e
  refine wpAny_in_heap (tupleKind_room_in1 hu) (ZHF I.hok eb) hd dd ?_
  have q := (rel.val k).isSome_eq
  rw [Option.isSome_map] at q
  rw [← q, ← l]
  exact h _ (I.tok _)
theorem ZTB {Q : Value → Shared → Prop} (hu : A.units + 1 < cLine) (I : Inv X pins σ H s) (g : ZEu H a y o) (ry : ZDy y u) (h : ∀ s', Inv X pins σ H s' → Q (.bool (!o.isSome)) s') :
  wpAny (model X.prog X.w) A (compareOp .NotIn u (.ref a)) Q E s := by
 rcases g with ⟨kvs, k, e, ey, l⟩ | ⟨kvs, k, b, e, ey, eb, l⟩
 ·subst ey
  obtain ⟨z, hd, vs, rel, dd⟩ := ZGx I.hok e
  refine wpAny_notIn_of (ZID ry) hd dd.mapOf ?_
  rw [← (rel.val k).isSome_eq, ← l]
  exact h _ (I.tok _)
 ·subst ey
  cases (show u = Value.ref b from ry)
  obtain ⟨z, hd, xs, rel, dd⟩ := ZHW I.hok e
  refine wpAny_notIn_heap (tupleKind_room_in1 hu) (ZHF I.hok eb) hd dd ?_
  have q := (rel.val k).isSome_eq
  rw [Option.isSome_map] at q
  rw [← q, ← l]
  exact h _ (I.tok _)
theorem ZJF {h' : Heap} {t' : Nat} {ob : HO} (I : Inv X pins σ H s) (mu : Mut (H a)) (hs : Heap.SameBut a s.heap h') (he : ∃ q, h'.get? a = some q) (new : ZER X.prog X.w (upd H a ob) h' a ob) :
  Inv X pins σ (upd H a ob) { s with heap := h', toks := t' } :=
 I.write (x := a) (e := a) mu (.inl rfl) (fun b q hb z => (hs.2 b hb).trans z) he new
theorem ZPF {P : Program} {w : World} {H' : Hp} {h' : Heap} {kvs : List (Key × V)} {vs : List (Key × Value)} (z : kvs.length ≤ sizeLine) (hd : (a == sysModules) = false) (rel : KV kvs vs) (dd : h'.DictOf (ZEX P w) a vs) :
 ZER P w H' h' a (.dK kvs) := ⟨z, hd, vs, rel, dd⟩
theorem ZPG {H' : Hp} {Q : Unit → Shared → Prop} (hu : A.units + 1 < cLine) (I : Inv X pins σ H s) (g : ZIE H a y v H') (ry : ZDy y u) (rv : ZDy v r) (h : ∀ s', Inv X pins σ H' s' → Q () s') :
  wpAny (model X.prog X.w) A (setItem (.ref a) u r) Q E s := by
 rcases g with ⟨kvs, k, e, ey, l, eH⟩ | ⟨kvs, k, b, e, ey, eb, l, eH⟩
 ·subst ey eH
  obtain ⟨z, hd, vs, rel, dd⟩ := ZLo I.hok e
  have hz : vs.length ≤ sizeLine := by rw [← rel.length]; exact z
  have hl : (ZEx kvs k v).length ≤ sizeLine := by have := ZFZ kvs k v; omega
  refine wpAny_setItem_pairs (hsz := hz) (ZID ry) dd fun h' dd' hs => h _ ?_
  have he : ∃ q, h'.get? a = some q := let ⟨q, _, _, hq, _⟩ := dd'; ⟨q, hq⟩
  exact ZJF I (by rw [e]; exact True.intro) hs he (ZPF hl hd (rel.put k rv) dd')
 ·subst ey eH
  cases (show u = Value.ref b from ry)
  obtain ⟨z, hd, xs, rel, dd⟩ := ZR6 I.hok e
  have hz : xs.length ≤ sizeLine := by rw [← Paired.length rel]; exact z
  have hl : (ZEx kvs k v).length ≤ sizeLine := by have := ZFZ kvs k v; omega
  refine wpAny_setItem_heap (hsz := hz) (tupleKind_room_in1 hu) (ZHF I.hok eb) dd fun h' dd' hs => h _ ?_
  obtain ⟨q, es, ep, hq, h2, h3, h4, _, h5⟩ := dd'
  refine ZJF I (by rw [e]; exact True.intro) hs ⟨q, hq⟩ ⟨hl, hd, _, (rel.put k eb rv).keeps fun c ys ec => ?_, q, es, ep, hq, h2, h3, h4, h5⟩
  rw [ZD6 (ZRx ec e (fun z => nomatch z))]
  exact ec
end
section
variable {X : Cx} {pins : List (Addr × Obj)} {σ : St} {H : Hp} {s : Shared} {a : Addr} {kvs : List (Key × V)} {k : Key} {u : Value} {A : Around} {E : Value → Shared → Prop}
theorem ZVx {v : V} {more : List Value} {Q : Value → Shared → Prop} (I : Inv X pins σ H s) (e : H a = some (.dK kvs)) (ry : ZDy (kV k) u) (l : ZD7 kvs k = some v) (hm : more = [] ∨ ∃ x, more = [x])
  (h : ∀ w' s', Inv X pins σ (upd H a (.dK (ZE5 kvs k))) s' → ZDy v w' → Q w' s') : wpAny (model X.prog X.w) A (call (.builtin "dict.pop") (.ref a :: u :: more)) Q E s := by
 obtain ⟨z, hd, vs, rel, dd⟩ := ZLo I.hok e
 obtain ⟨w', hw, rw'⟩ := ZFQ.some_of (v := v) (o := valueAt vs k) (by rw [← l]; exact rel.val k)
 have hp : (keyPart u).isSome = true := by
  cases k with
  | inl i => obtain ⟨t, q⟩ := (show ∃ t, u = Value.int i t from ry); subst q; rfl
  | inr x => obtain ⟨t, q⟩ := (show ∃ t, u = Value.str x t from ry); subst q; rfl
 have ha : argsOk "dict.pop" ⟨.ref a :: u :: more, []⟩ := by
  rcases hm with q | ⟨x, q⟩
  ·subst q; exact PySem.F.args_dict_pop_2 _ _
  ·subst q; exact PySem.F.args_dict_pop_3 _ _ _
 refine call_meetsIn PySem.F.slot_dict_pop dd.typeIs PySem.F.entry_dict_pop ha (meets_dict_pop_there (ZEX X.prog X.w) a (ZID ry) more hm hp)
  ⟨vs, w', dd, by rw [← rel.length]; exact z, hw, fun h' dd' hs => h w' _ ?_ rw'⟩
 have he : ∃ q, h'.get? a = some q := let ⟨q, _, _, hq, _⟩ := dd'; ⟨q, hq⟩
 exact ZJF I (by rw [e]; exact True.intro) hs he (ZPF (Nat.le_trans (ZQz kvs k) z) hd (rel.drop k) dd')
end
def ZQ0 (i : Expr) : Prop := ∀ ov iv, subscripted i false ov iv = operate [ov, iv] (getItem ov iv)
theorem ZTC {prog : Program} {w : World} {A : Around} {E : Value → Shared → Prop} {s : Shared} {env : Env} {value slice : Expr} {pos : Pos} {T id : String} {Q : Value → Shared → Prop}
  (hl : typeLookup (.type T) "__getitem__" = pure (some (.builtin id))) (hs : ZQ0 slice)
  (h : wpAny (model prog w) A (eval value env) (fun o s₁ => wpAny (model prog w) A (eval slice env) (fun i s₂ => s₂.TypeIs o T ∧ wpAny (model prog w) A (getItem o i) Q E s₂) E s₁) E s) :
  wpAny (model prog w) A (eval (.Subscript value slice pos) env) Q E s := by
 refine Subscript_ (wpAny_mono h (fun o s₁ h₁ => wpAny_mono h₁ (fun i s₂ h₂ => ?_) fun _ _ x => x) fun _ _ x => x)
 obtain ⟨hT, h₂⟩ := h₂
 unfold subscriptTail
 refine wpAny_bind ?_
 rw [getitemInPython_of_ne hT.not_modules]
 refine wpAny_bind (wpAny_specialOf hT hl ?_)
 have fin : wpAny (model prog w) A (subscripted slice false o i) (fun r s₃ => wpAny (model prog w) A (letTemporaryGo value o r >>= fun _ => pure r) Q E s₃) E s₂ := by
  rw [hs o i]
  exact wpAny_operating (wpAny_mono h₂ (fun r s₃ h₃ => wpAny_bind (wpAny_letTemporaryGo (wpAny_pure h₃))) fun _ _ x => x)
 first
  | exact wpAny_pure (wpAny_bind fin)
  | exact wpAny_bind (wpAny_pure (wpAny_bind fin))
  | exact wpAny_bind fin
theorem ZM1 {X : Cx} {pins : List (Addr × Obj)} {σ : St} {H : Hp} {s : Shared} {a : Addr} {y : V} {o : Option V} (I : Inv X pins σ H s) (g : ZEu H a y o) : s.TypeIs (.ref a) "dict" := by
 rcases g with ⟨kvs, k, e, _, _⟩ | ⟨kvs, k, b, e, _, _, _⟩
 ·obtain ⟨_, _, vs, _, dd⟩ := ZGx I.hok e
  exact dd.typeIs
 ·obtain ⟨_, _, xs, _, dd⟩ := ZHW I.hok e
  exact dd.typeIs
theorem ZM2 {X : Cx} {pins : List (Addr × Obj)} {σ : St} {H : Hp} {s : Shared} {a : Addr} {y : V} {o : Option V} (I : Inv X pins σ H s) (g : ZEu H a y o) :
  ∀ b, Value.ref a = .ref b → ∃ ob, s.heap.get? b = some ob ∧ ob.dict = none := fun b q => by
 cases q
 rcases g with ⟨kvs, k, e, _, _⟩ | ⟨kvs, k, b, e, _, _, _⟩
 ·obtain ⟨_, _, vs, _, ob, _, _, h1, h2, _⟩ := ZGx I.hok e
  exact ⟨ob, h1, h2.2.1⟩
 ·obtain ⟨_, _, xs, _, ob, _, _, h1, h2, _⟩ := ZHW I.hok e
  exact ⟨ob, h1, h2.2.1⟩
def ZN4 (td ty : TE) : TE := fun σ H Q => td σ H fun x H1 => ty σ H1 fun y H2 => ∃ a v, x = .ref a ∧ ZEu H2 a y (some v) ∧ Q v H2
def ZN5 (td ty tv : TE) : TS := fun D σ H => tv σ H fun v H1 => td σ H1 fun x H2 => ty σ H2 fun y H3 => ∃ a H4, x = .ref a ∧ ZIE H3 a y v H4 ∧ D.nx σ H4
section
variable {X : Cx} {o i e value : Expr} {pos pos' tpos : Pos} {td ty tv : TE}
theorem ZTD (hu : X.A.units + 1 < cLine) (ho : PE X o td) (hi : PE X i ty) (hs : ZQ0 i) : PE X (.Subscript o i pos) (ZN4 td ty) := by
 intro pins s σ H Q I h
 refine ZTC PySem.F.slot_dict_getitem.lookup hs (thn (ho pins s σ H _ I h) fun u s1 ⟨x, H1, I1, rx, q1⟩ => thn (hi pins s1 σ H1 _ I1 q1) fun iv s2 ⟨y, H2, I2, ry, a, v, ex, g, q2⟩ => ?_)
 subst ex
 obtain rfl : u = Value.ref a := rx
 exact ⟨ZM1 I2 g, ZPE hu I2 g ry fun w' s3 I3 rw' => ⟨v, H2, I3, rw', q2⟩⟩
theorem ZTE (hu : X.A.units + 1 < cLine) (ho : PE X o td) (hi : PE X i ty) (hv : PE X value tv) (hs : swapsWith value (some (.Subscript o i pos')) pos.line X.env = pure false) :
  PS X (.Assign [.Subscript o i pos'] value pos) (ZN5 td ty tv) := by
 intro pins s σ H D I h
 refine wpAny_Assign_Subscript (thn (hv pins s σ H _ I h) fun r s1 ⟨v, H1, I1, rv, q1⟩ => thn (ho pins s1 σ H1 _ I1 q1) fun u s2 ⟨x, H2, I2, rx, q2⟩ => thn (hi pins s2 σ H2 _ I2 q2) fun iv s3 ⟨y, H3, I3, ry, a, H4, ex, g, q3⟩ => ?_) hs
 subst ex
 obtain rfl : u = Value.ref a := rx
 exact ZPG hu I3 g ry rv fun s4 I4 => ⟨σ, H4, I4, q3⟩
end
theorem ZQ1 {P : Program} {w : World} {H : Hp} (h : Heap) (hb : sysModules < h.objs.size) : ZER P w H (h.push { cls := .type "dict", data := .dict #[] }) h.objs.size (.dK []) :=
 ⟨Nat.zero_le _, beq_eq_false_iff_ne.mpr (Ne.symm (Nat.ne_of_lt hb)), [], .nil, Heap.DictOf.new h⟩
theorem ZQ2 {P : Program} {w : World} {H : Hp} (h : Heap) (hb : sysModules < h.objs.size) : ZER P w H (h.push { cls := .type "dict", data := .dict #[] }) h.objs.size (.dT []) :=
 ⟨Nat.zero_le _, beq_eq_false_iff_ne.mpr (Ne.symm (Nat.ne_of_lt hb)), [], .nil, _, #[], 0, Heap.get?_push_size _ rfl, ⟨rfl, rfl, rfl⟩, rfl, rfl, List.nodup_nil⟩
def ZMB : TE := fun _ H Q => ∀ p, H p = none → Q (.ref p) (upd H p (.dK []))
def ZMC : TE := fun _ H Q => ∀ p, H p = none → Q (.ref p) (upd H p (.dT []))
section
variable {X : Cx} {pos : Pos}
theorem ZQ3 : PE X (.Dict [] [] pos) ZMB := fun pins s σ H Q I h =>
 wpAny_Dict_empty ⟨.ref s.heap.objs.size, _, I.laid (a := s.heap.objs.size) (o := .dK []) (t' := s.toks) (fun _ _ q => Heap.get?_push_of_some _ q) (Nat.le_refl _) (ZQ1 s.heap I.big), rfl, h _ (I.hok.fresh (Nat.le_refl _))⟩
theorem ZQ4 : PE X (.Dict [] [] pos) ZMC := fun pins s σ H Q I h =>
 wpAny_Dict_empty ⟨.ref s.heap.objs.size, _, I.laid (a := s.heap.objs.size) (o := .dT []) (t' := s.toks) (fun _ _ q => Heap.get?_push_of_some _ q) (Nat.le_refl _) (ZQ2 s.heap I.big), rfl, h _ (I.hok.fresh (Nat.le_refl _))⟩
end
structure M1 (X : Cx) (o : Expr) (m : Str) (apos : Pos) (e : Expr) (cpos : Pos) : Prop where
 base : attributeBase o m X.env (eval o X.env) = eval o X.env
 few : ((backTo cpos (starEach [e] X.env)).all (fun x => !x.1) && (backToKw cpos (keywordEach [] X.env)).all (fun x => x.1.isSome)
  && decide (([e] : List Expr).length + ([] : List Keyword).length + (if ([] : List Keyword).isEmpty then 0 else 1) < 30)) = true
 line : (apos.endLine == cpos.line) = true
 trees : backTo cpos (starEach [e] X.env) = [(false, eval e X.env)]
structure M2 (X : Cx) (o : Expr) (m : Str) (apos : Pos) (e f : Expr) (cpos : Pos) : Prop where
 base : attributeBase o m X.env (eval o X.env) = eval o X.env
 few : ((backTo cpos (starEach [e, f] X.env)).all (fun x => !x.1) && (backToKw cpos (keywordEach [] X.env)).all (fun x => x.1.isSome)
  && decide (([e, f] : List Expr).length + ([] : List Keyword).length + (if ([] : List Keyword).isEmpty then 0 else 1) < 30)) = true
 line : (apos.endLine == cpos.line) = true
 trees : backTo cpos (starEach [e, f] X.env) = [(false, eval e X.env), (false, eval f X.env)]
def IsD (H : Hp) (a : Addr) : Prop := (∃ kvs, Rd H a (.dK kvs)) ∨ ∃ kvs, Rd H a (.dT kvs)
theorem ZMD {X : Cx} {pins : List (Addr × Obj)} {σ : St} {H : Hp} {s : Shared} {a : Addr} (I : Inv X pins σ H s) (d : IsD H a) :
  s.TypeIs (.ref a) "dict" ∧ (∀ b, Value.ref a = .ref b → ∃ ob, s.heap.get? b = some ob ∧ ob.dict = none) ∧ (a == sysModules) = false := by
 rcases d with ⟨kvs, e⟩ | ⟨kvs, e⟩
 ·obtain ⟨_, hd, vs, _, dd⟩ := ZGx I.hok e
  refine ⟨dd.typeIs, fun b q => ?_, hd⟩
  cases q
  obtain ⟨ob, _, _, h1, h2, _⟩ := dd
  exact ⟨ob, h1, h2.2.1⟩
 ·obtain ⟨_, hd, xs, _, dd⟩ := ZHW I.hok e
  refine ⟨dd.typeIs, fun b q => ?_, hd⟩
  cases q
  obtain ⟨ob, _, _, h1, h2, _⟩ := dd
  exact ⟨ob, h1, h2.2.1⟩
section
variable {X : Cx} {pins : List (Addr × Obj)} {σ : St} {H : Hp} {s : Shared} {a : Addr} {y d : V} {u r : Value} {o : Option V} {A : Around} {E : Value → Shared → Prop}
theorem ZVE {Q : Value → Shared → Prop} (hu : A.units + 1 < cLine) (I : Inv X pins σ H s) (g : ZEu H a y o) (ry : ZDy y u) (h : ∀ w' s', Inv X pins σ H s' → ZDy (o.getD .non) w' → Q w' s') :
  wpAny (model X.prog X.w) A (call (.builtin "dict.get") [.ref a, u]) Q E s := by
 rcases g with ⟨kvs, k, e, ey, l⟩ | ⟨kvs, k, b, e, ey, eb, l⟩
 ·subst ey
  obtain ⟨z, hd, vs, rel, dd⟩ := ZGx I.hok e
  refine call_meetsIn PySem.F.slot_dict_get dd.typeIs PySem.F.entry_dict_get (PySem.F.args_dict_get_2 _ _) (meets_dict_get (ZEX X.prog X.w) a (ZID ry) hd) ⟨_, dd.mapOf, h _ _ (I.tok _) ?_⟩
  rw [l]
  exact (rel.val k).getD rfl
 ·subst ey
  cases (show u = Value.ref b from ry)
  obtain ⟨z, hd, xs, rel, dd⟩ := ZHW I.hok e
  refine call_meetsIn PySem.F.slot_dict_get dd.typeIs PySem.F.entry_dict_get (PySem.F.args_dict_get_2 _ _) (meetsH_dict_get (tupleKind (ZEX X.prog X.w)) a b hd) ⟨tupleKind_room_in1 hu, k, xs, ZHF I.hok eb, dd, h _ _ (I.tok _) ?_⟩
  rw [l]
  exact (rel.val k).getD rfl
end
def ZME (td ty : TE) : TE := fun σ H Q => td σ H fun x H1 => ∃ a, x = .ref a ∧ IsD H1 a ∧ ty σ H1 fun y H2 => ∃ o, ZEu H2 a y o ∧ Q (o.getD .non) H2
def ZMF (td ty : TE) : TE := fun σ H Q => td σ H fun x H1 => ∃ a, x = .ref a ∧ IsD H1 a ∧ ty σ H1 fun y H2 => ∃ kvs k v, H2 a = some (.dK kvs) ∧ y = kV k ∧ ZD7 kvs k = some v ∧ Q v (upd H2 a (.dK (ZE5 kvs k)))
section
variable {X : Cx} {o e f : Expr} {apos cpos : Pos} {td ty tx : TE}
theorem ZQ5 (hu : X.A.units + 1 < cLine) (ho : PE X o td) (he : PE X e ty) (m : M1 X o "get" apos e cpos) : PE X (.Call (.Attribute o "get" apos) [e] [] cpos) (ZME td ty) := by
 intro pins s σ H Q I h
 refine wpAny_Call_method m.base m.few m.line PySem.F.plainAttrs_dict PySem.F.slot_dict_get PySem.F.type_dict_get (thn (ho pins s σ H _ I h) fun u s1 ⟨x, H1, I1, rx, a, ex, d, q1⟩ => ?_)
 subst ex
 obtain rfl : u = Value.ref a := rx
 obtain ⟨t1, t2, _⟩ := ZMD I1 d
 refine ⟨t1, t2, ?_⟩
 rw [m.trees]
 refine Calls.callWith_builtin rfl (Calls.evalArgs_plain (Calls.spliced_cons (thn (he pins s1 σ H1 _ I1 q1) fun iv s2 ⟨y, H2, I2, ry, ov, g, q2⟩ => Calls.spliced_nil ?_)))
 exact ZVE hu I2 g ry fun w' s3 I3 rw' => ⟨_, H2, I3, rw', q2⟩
theorem ZQ6 (ho : PE X o td) (he : PE X e ty) (m : M1 X o "pop" apos e cpos) : PE X (.Call (.Attribute o "pop" apos) [e] [] cpos) (ZMF td ty) := by
 intro pins s σ H Q I h
 refine wpAny_Call_method m.base m.few m.line PySem.F.plainAttrs_dict PySem.F.slot_dict_pop PySem.F.type_dict_pop (thn (ho pins s σ H _ I h) fun u s1 ⟨x, H1, I1, rx, a, ex, d, q1⟩ => ?_)
 subst ex
 obtain rfl : u = Value.ref a := rx
 obtain ⟨t1, t2, _⟩ := ZMD I1 d
 refine ⟨t1, t2, ?_⟩
 rw [m.trees]
 refine Calls.callWith_builtin rfl (Calls.evalArgs_plain (Calls.spliced_cons (thn (he pins s1 σ H1 _ I1 q1) fun iv s2 ⟨y, H2, I2, ry, kvs, k, v, ea, ey, l, q2⟩ => Calls.spliced_nil ?_)))
 subst ey
 exact ZVx I2 ea ry l (.inl rfl) fun w' s3 I3 rw' => ⟨v, _, I3, rw', q2⟩
end
section
variable {X : Cx} {pins : List (Addr × Obj)} {σ : St} {H : Hp} {s : Shared} {a : Addr} {kvs : List (Key × V)} {A : Around} {E : Value → Shared → Prop}
end
section
variable {X : Cx} {pins : List (Addr × Obj)} {σ : St} {H : Hp} {s : Shared} {a : Addr} {y : V} {u : Value} {A : Around} {E : Value → Shared → Prop}
end
section
variable {prog : Program} {w : World} {A : Around} {R : Result → Shared → Prop} {I : Addr} {fp wr : List Addr} {n : Nat} {P : Nat → Value → Prop} {St : Nat → Heap → Prop} {κ : Type} [DecidableEq κ] {knd : KeyKind prog w κ}
end
def ZWF (H : Hp) (vs : List V) (prs : List (Key × V)) : Prop := Paired (fun v (p : Key × V) => ∃ a, v = V.ref a ∧ H a = some (.tup [kV p.1, p.2])) vs prs
section
variable {prog : Program} {w : World} {A : Around} {E : Value → Shared → Prop} {s : Shared} {κ : Type} [DecidableEq κ] {knd : KeyKind prog w κ}
theorem ZMG {d : Addr} {kvs : List (κ × Value)} {ep : Nat} {Q : List Value → Shared → Prop} (hh : A.handled = none) (hd : (d == sysModules) = false) (hm : s.heap.DictAt knd d kvs ep) (hn : kvs.length ≤ sizeLine)
  (hQ : ∀ s' acc, (∀ b o, s.heap.get? b = some o → s'.heap.get? b = some o) → s'.gens = s.gens → s'.drawn = s.drawn → s'.os = s.os → s.heap.objs.size < s'.heap.objs.size → ItemsOf (fun i v => ∃ k x, kvs[i]? = some (k, x) ∧ knd.is k v = true) acc kvs.length → Q acc.toList s') :
  wpAny (model prog w) A (collect (.ref d)) Q E s := by
 have hdl : d < s.heap.objs.size := let ⟨_, _, ho, _⟩ := hm; Heap.lt_size ho
 unfold collect
 refine wpAny_bind (wpAny_runValue (codeAny_builtin F.entry_proto_collect ?_))
 rw [Around.under_plainId F.plain_proto_collect _]
 show wpAny _ A.in1 (newList [] >>= fun l => again (.builtin "list.__iadd__" ⟨[l, .ref d], []⟩)) _ _ s
 refine wpAny_bind (wpAny_newObj_type ?_)
 refine wpAny_pure ⟨plainId_quiet F.plain_list_iadd _, codeAny_builtin F.entry_list_iadd ?_⟩
 rw [Around.under_plainId F.plain_list_iadd _]
 generalize hH : s.heap.push { cls := .type "list", data := .seq ([] : List Value).toArray } = H
 have hHs : H.objs.size = s.heap.objs.size + 1 := by rw [← hH, Heap.size_push]
 have hm1 : H.DictAt knd d kvs ep := hm.at' fun o e => hH ▸ Heap.get?_push_of_some _ e
 have hT1 : (⟨H, s.gens, s.drawn, s.toks, s.os⟩ : Shared).TypeIs (.ref d) "dict" := hm1.dictOf.typeIs
 show wpAny _ A.in1 (Builtin.List.listExtendWith (.ref s.heap.objs.size) (.ref d) (.ref s.heap.objs.size)) _ _ (⟨H, s.gens, s.drawn, s.toks, s.os⟩ : Shared)
 unfold Builtin.List.listExtendWith
 refine wpAny_bind (wpAny_typeOf hT1 ?_)
 have h1 : Builtin.List.listSameRef (.ref s.heap.objs.size) (.ref d) = false := by
  simp only [Builtin.List.listSameRef]
  exact beq_eq_false_iff_ne.mpr (Nat.ne_of_gt hdl)
 have h2 : (Value.type "dict" == Value.type "list") = false := by decide
 have h3 : (Value.type "dict" == Value.type "tuple") = false := by decide
 simp only [h1, h2, h3, Bool.or_false, Bool.false_eq_true, if_false]
 refine wpAny_bind (wpAny_pyIter_dict hd hm1 ?_)
 generalize hO : ({ cls := .type "dict_keyiterator", data := .fields #[.ref d, .int 0 0, .int kvs.length 0, .int ep 0] } : Obj) = O
 have hm2 : (H.push O).DictAt knd d kvs ep := hm1.at' fun o e => Heap.get?_push_of_some _ e
 have hT2 : (⟨H.push O, s.gens, s.drawn, s.toks, s.os⟩ : Shared).TypeIs (.ref d) "dict" := hm2.dictOf.typeIs
 refine wpAny_bind (wpAny_holding ?_)
 unfold Builtin.List.listLengthHint
 refine wpAny_bind (wpAny_specialOf hT2 PySem.F.slot_dict_len.lookup ?_)
 wp_delta
 refine wpAny_bind (wpAny_isInstance (b := true) hT2 (by rw [isSubtype_type]; kernel_rfl) ?_)
 show wpAny _ A.in1 (typeOf (Value.ref d) >>= _) _ _ _
 refine wpAny_bind (wpAny_typeOf hT2 ?_)
 refine wpAny_pure ?_
 show wpAny _ A.in1 (rule "list.extend.makes-room" >>= fun _ => Builtin.List.listTouch (.ref s.heap.objs.size) >>= fun _ =>
  again (.builtin "list.extend.loop" ⟨[.ref s.heap.objs.size, .ref H.objs.size, .ref s.heap.objs.size], []⟩)) _ _ _
 refine wpAny_bind (wpAny_rule ?_)
 have hS₁ : (H.push O).get? s.heap.objs.size = some { cls := .type "list", data := .seq ([] : List Value).toArray } := Heap.get?_push_of_some _ (hH ▸ Heap.get?_push_size _ rfl)
 refine wpAny_bind ?_
 show wpAny _ A.in1 (updateSeq s.heap.objs.size (·.push .none) >>= fun _ => updateSeq s.heap.objs.size (·.pop)) _ _ _
 refine wpAny_bind (wpAny_updateSeq hS₁ rfl ?_)
 have hS₂ := Heap.get?_update_self (Obj.mapSeq (·.push Value.none)) hS₁ rfl
 refine wpAny_updateSeq hS₂ rfl ?_
 have hS₃ := Heap.get?_update_self (Obj.mapSeq (·.pop)) hS₂ rfl
 have oth : ∀ b o, b ≠ s.heap.objs.size → (H.push O).get? b = some o → (((H.push O).update s.heap.objs.size (Obj.mapSeq (·.push Value.none))).update s.heap.objs.size (Obj.mapSeq (·.pop))).get? b = some o :=
  fun b o hb e => (Heap.get?_update_other _ _ (Ne.symm hb)).trans ((Heap.get?_update_other _ _ (Ne.symm hb)).trans e)
 have hdH : d < H.objs.size := by rw [hHs]; exact Nat.lt_succ_of_lt hdl
 have hHne : H.objs.size ≠ s.heap.objs.size := by rw [hHs]; exact Nat.succ_ne_self _
 have hSf : s.heap.objs.size ∉ [H.objs.size, d] := fun z => by
  simp only [List.mem_cons, List.not_mem_nil, or_false] at z
  rcases z with z | z
  ·exact hHne z.symm
  ·exact Nat.ne_of_gt hdl z
 have W := (Walks.dictKeys (knd := knd) (A := A.in1) hh H.objs.size d (Nat.ne_of_lt hdH) kvs ep).toS
 refine wpAny_pure ⟨plainId_quiet F.plain_extend_loop _, codeAny_extend_loopS (A := A) W hn _ hSf _ kvs.length 0 _ _ _ rfl (Nat.zero_le _) ⟨?_, ?_⟩ hS₃ (ItemsOf.nil _) fun s' acc' c' hmv hS' hacc => ?_⟩
 ·exact ⟨_, oth _ _ hHne (Heap.get?_push_size _ (by rw [← hO]; rfl)), by rw [← hO], by rw [← hO]; rfl⟩
 ·exact hm2.at' fun o e => oth _ _ (Nat.ne_of_lt hdl) e
 ·show wpAny _ A (load s.heap.objs.size >>= _) _ _ s'
  refine wpAny_bind (wpAny_load hS' ?_)
  refine wpAny_pure (hQ s' acc' (fun b ob e => hmv.heap b ob (fun hb => ?_) (oth _ _ (Nat.ne_of_lt (Heap.lt_size e)) (Heap.get?_push_of_some _ (hH ▸ Heap.get?_push_of_some _ e)))) hmv.gens hmv.drawn hmv.os (Heap.lt_size hS') hacc)
  have hlt := Heap.lt_size e
  simp only [List.mem_cons, List.not_mem_nil, or_false] at hb
  rcases hb with h | h
  ·exact Nat.ne_of_lt hlt h
  ·rw [h, hHs] at hlt; exact absurd hlt (Nat.not_lt.mpr (Nat.le_succ _))
theorem ZM3 {d : Addr} {kvs : List (κ × Value)} {ep : Nat} {Q : Value → Shared → Prop} (hh : A.handled = none) (hd : (d == sysModules) = false) (hm : s.heap.DictAt knd d kvs ep) (h64 : kvs.length < 64)
  (hI : ∀ acc : Array Value, ItemsOf (fun i v => ∃ k x, kvs[i]? = some (k, x) ∧ knd.is k v = true) acc kvs.length → ∃ ns, IntsAre acc.toList ns ∧ ∀ (s' : Shared) (l : Addr) (out : Array Value) (ns' : List Int) (e : Nat), s.heap.objs.size ≤ l → (∀ b o, s.heap.get? b = some o → s'.heap.get? b = some o) → s'.gens = s.gens → s'.drawn = s.drawn → s'.os = s.os →
   s'.heap.get? l = some (seqObj "list" out e) → out.size = kvs.length → IntsAre out.toList ns' → ns'.Perm ns → ns'.Pairwise (· ≤ ·) → Q (.ref l) s') :
  wpAny (model prog w) A (call (.builtin "sorted") [.ref d]) Q E s := by
 refine Calls.call_function_entry kind_sorted plain_sorted entry_sorted (args_sorted1 _) ?_
 unfold Builtin.«sorted»
 refine wpAny_bind (m := checkCount "sorted" 1 1 _) (wpAny_pure ?_)
 refine wpAny_bind (ZMG (knd := knd) hh hd hm (by rw [sizeLine_eq]; omega) fun s1 acc hk e1 e2 e3 hlt hacc => ?_)
 obtain ⟨ns, hns, hQ⟩ := hI acc hacc
 refine wpAny_bind (wpAny_newList (hsz := by rw [Array.length_toList, hacc.1, sizeLine_eq]; omega) ?_)
 have hoL : (s1.heap.push (seqObj "list" acc.toList.toArray 0)).get? s1.heap.objs.size = some (seqObj "list" acc.toList.toArray 0) := Heap.get?_push_size _ rfl
 show wpAny _ _ _ _ _ { s1 with heap := s1.heap.push (seqObj "list" acc.toList.toArray 0) }
 refine wpAny_bind (wpAny_holding (wpAny_call_entry slot_list_sort ⟨_, hoL, rfl⟩ entry_list_sort (list_sort_tree hoL hns (by rw [Array.length_toList, hacc.1]; exact h64) fun out ns' a1 a2 a3 => ⟨_, rfl, ?_⟩) (args_list_sort _)))
 refine wpAny_pure ⟨_, rfl, ?_⟩
 obtain ⟨e, he⟩ := sortedHeap_at (out := out) hoL
 have hle : s.heap.objs.size ≤ s1.heap.objs.size := Nat.le_of_lt hlt
 refine hQ _ _ out ns' e hle (fun b o eb => ?_) e1 e2 e3 he ?_ a1 a2 a3
 ·have hb := Heap.lt_size (hk _ _ eb)
  exact (sortedHeap_old (Nat.ne_of_lt hb) (by rw [Heap.size_push]; exact Nat.lt_succ_of_lt hb)).trans (Heap.get?_push_of_some _ (hk _ _ eb))
 ·have l1 := IntsAre.length a1
  have l2 := IntsAre.length hns
  have l3 := a2.length_eq
  have l4 := hacc.1
  simp only [Array.length_toList] at l1 l2
  omega
end
theorem ZLE : ∀ (vs : List (Key × Value)) (ns : List Int) (l : List Value), vs.map (·.1) = ns.map Sum.inl → l.length = vs.length → (∀ (j : Nat) (v : Value), l[j]? = some v → ∃ k x, vs[j]? = some (k, x) ∧ ZH7 k v = true) → IntsAre l ns
 | [], [], [], _, _, _ => .nil
 | [], [], _ :: _, _, h, _ => by simp at h
 | [], _ :: _, _, h, _, _ => by simp at h
 | _ :: _, [], _, h, _, _ => by simp at h
 | _ :: _, _ :: _, [], _, h, _ => by simp at h
 | (k, x) :: vs, n :: ns, v :: l, h1, h2, h3 => by
  simp only [List.map_cons, List.cons.injEq] at h1
  obtain ⟨rfl, h1⟩ := h1
  obtain ⟨k', x', e, hk⟩ := h3 0 v rfl
  simp only [List.getElem?_cons_zero, Option.some.injEq, Prod.mk.injEq] at e
  obtain ⟨rfl, rfl⟩ := e
  rcases ZEh hk with ⟨i, t, e1, e2⟩ | ⟨y, t, e1, e2⟩
  ·cases e1; cases e2
   refine .cons _ _ (ZLE vs ns l h1 (by simpa using h2) fun j v e => ?_)
   have := h3 (j + 1) v (by simpa using e)
   simpa using this
  ·cases e1
theorem KV.keysEq {κ : Type} : ∀ {kvs : List (κ × V)} {us : List (κ × Value)}, KV kvs us → us.map (·.1) = kvs.map (·.1)
 | _, _, .nil => rfl
 | _, _, .cons h t => by rw [List.map_cons, List.map_cons, h.1, KV.keysEq t]
theorem IntsAre.vals : ∀ {vs : List Value} {ns : List Int}, IntsAre vs ns → ZD0 (ns.map V.int) vs
 | _, _, .nil => .nil
 | _, _, .cons _ t h => .cons ⟨t, rfl⟩ (IntsAre.vals h)
def ZMH : List V → Hp → VK → Prop := fun xs H Q => ∃ (p : Addr) (kvs : List (Key × V)) (ns : List Int), xs = [.ref p] ∧ Rd H p (.dK kvs) ∧ kvs.map (·.1) = ns.map Sum.inl ∧ kvs.length < 64 ∧ ∀ (l : Addr) (ns' : List Int), H l = none → ns'.Perm ns → ns'.Pairwise (· ≤ ·) → Q (.ref l) (upd H l (.lst (ns'.map V.int)))
theorem ZN6 {X : Cx} (hc : X.calm = true) : ZEq X (.builtin "sorted") ZMH := by
 intro pins s σ H xs us Q I r h
 obtain ⟨p, kvs, ns, rfl, hd, hns, h64, q⟩ := h
 obtain ⟨u, rfl, ru⟩ := r.one
 cases ru
 obtain ⟨z, hd, vs, rel, dd⟩ := ZGx I.hok hd
 obtain ⟨ep, dd⟩ := dd.dictAt
 have hlen : vs.length = kvs.length := rel.length.symm
 refine ZM3 (I.ok.hd hc) hd dd (by rw [hlen]; exact h64) fun acc hacc => ⟨ns, ?_, fun s' l out ns' e hl hk e1 e2 e3 he ho a1 a2 a3 => ?_⟩
 ·exact ZLE vs ns acc.toList (by rw [KV.keysEq rel]; exact hns) (by rw [Array.length_toList]; exact hacc.1) fun j v e => hacc.2 j v (by simpa using e)
 ·obtain ⟨h', g', d', tk, os'⟩ := s'
  simp only at e1 e2 e3
  subst e1 e2 e3
  refine ⟨.ref l, upd H l (.lst (ns'.map V.int)), I.laid (t' := tk) hk hl ?_, rfl, q l ns' (I.hok.fresh hl) a2 a3⟩
  refine ⟨?_, out.toList, e, IntsAre.vals a1, he⟩
  have l1 := a2.length_eq
  have l2 := congrArg List.length hns
  simp only [List.length_map] at l2 ⊢
  rw [sizeLine_eq]
  omega
section
variable {prog : Program} {w : World} {A : Around} {E : Value → Shared → Prop} {I : Addr} {fp wr : List Addr} {n : Nat} {P : Nat → Value → Prop} {St : Nat → Heap → Prop}
end
section
variable {X : Cx} {pos : Pos}
end
section
variable {X : Cx} {o i value : Expr} {pos pos' : Pos} {td ty tv : TE}
theorem ZWG {b : Expr} (h : ZLn b = false) : ZQ0 b := by
 intro ov iv
 cases b <;> first | rfl | cases h
theorem ZG6 (hu : X.A.units + 1 < cLine) (ho : QE X o td) (hi : QE X i ty) (hs : ZLn i = false := by rfl) : QE X (.Subscript o i pos) (ZN4 td ty) := ⟨ZTD hu ho.h hi.h (ZWG hs)⟩
theorem ZGC (hu : X.A.units + 1 < cLine) (hv : QE X value tv) (ho : QE X o td) (hi : QE X i ty) (hs : ZFq value = false := by rfl) : QS X (.Assign [.Subscript o i pos'] value pos) (ZN5 td ty tv) := ⟨ZTE hu ho.h hi.h hv.h (ZHA hs)⟩
theorem ZJf : QE X (.Dict [] [] pos) ZMB := ⟨ZQ3⟩
end
section
variable {σ : St} {H : Hp} {Q : VK} {D : ZEp}
def ZR7 (x y : V) (H : Hp) (Q : VK) : Prop := ∃ a v, x = .ref a ∧ ZEu H a y (some v) ∧ Q v H
theorem ZQ7 {td ty : TE} (h : td σ H fun x H1 => ty σ H1 fun y H2 => ZR7 x y H2 Q) : ZN4 td ty σ H Q := h
def ZN7 (v x y : V) (H : Hp) (R : Hp → Prop) : Prop := ∃ a H4, x = .ref a ∧ ZIE H a y v H4 ∧ R H4
theorem ZQ8 {td ty tv : TE} (h : tv σ H fun v H1 => td σ H1 fun x H2 => ty σ H2 fun y H3 => ZN7 v x y H3 (D.nx σ)) : ZN5 td ty tv D σ H := h
def ZN8 (H : Hp) (Q : VK) : Prop := ∀ p, H p = none → Q (.ref p) (upd H p (.dK []))
theorem ZQ9 (h : ZN8 H Q) : ZMB σ H Q := h
theorem ZTF (h : ∀ p H2, H p = none → H2 p = some (.dK []) → ZDn H H2 → Q (.ref p) H2) : ZN8 H Q := fun p hp => h p _ hp ZDu (ZDn.new hp)
end
def ZEV (m : PL) (t : Int) : Option Int := (m.find? fun kv => decide (kv.1 = t)).map (·.2)
def ZEn (m : PL) (t h : Int) : PL := if (m.any fun kv => decide (kv.1 = t)) = true then m.map fun kv => if kv.1 = t then (kv.1, h) else kv else m ++ [(t, h)]
def dkE (p : Int × Int) : Key × V := (.inl p.1, .int p.2)
def ZES (m : PL) : List (Key × V) := m.map dkE
theorem ZMI {a b : Int} : ((Sum.inl a : Key) = Sum.inl b) ↔ a = b := ⟨fun h => Sum.inl.inj h, fun h => h ▸ rfl⟩
theorem ZVF (m : PL) (t : Int) : ((ZES m).any fun kv => decide (kv.1 = Sum.inl t)) = m.any fun kv => decide (kv.1 = t) := by
 unfold ZES
 rw [List.any_map]
 congr 1
 funext p
 simp only [Function.comp, dkE, ZMI]
theorem ZPH (m : PL) (t h : Int) : ZEx (ZES m) (.inl t) (.int h) = ZES (ZEn m t h) := by
 unfold ZEx ZEn
 rw [ZVF]
 by_cases c : (m.any fun kv => decide (kv.1 = t)) = true
 ·rw [if_pos c, if_pos c]
  unfold ZES
  rw [List.map_map, List.map_map]
  refine List.map_congr_left fun p _ => ?_
  simp only [Function.comp, dkE, ZMI]
  split <;> simp
 ·rw [if_neg c, if_neg c]
  simp [ZES, dkE]
theorem ZH2 (t : Int) : ∀ m : PL, ZD7 (ZES m) (.inl t) = (ZEV m t).map V.int
 | [] => rfl
 | p :: m => by
  have ih := ZH2 t m
  by_cases e : p.1 = t
  ·have : ZD7 (ZES (p :: m)) (.inl t) = some (.int p.2) := ZEr (p := dkE p) (by simp [dkE, e])
   rw [this]
   simp [ZEV, List.find?_cons, e]
  ·have : ZD7 (ZES (p :: m)) (.inl t) = ZD7 (ZES m) (.inl t) := ZEl (p := dkE p) (by simp [dkE, e])
   rw [this, ih]
   simp [ZEV, List.find?_cons, e]
theorem ZMJ {H : Hp} {Q : VK} {p : Addr} {m : PL} {t v : Int} (h1 : H p = some (.dK (ZES m))) (h2 : ZEV m t = some v) (h : Q (.int v) H) : ZR7 (.ref p) (.int t) H Q :=
 ⟨p, .int v, rfl, by
  have := ZEu.k (k := Sum.inl t) h1
  rw [ZH2, h2] at this
  exact this, h⟩
theorem ZJg {H : Hp} {R : Hp → Prop} {p : Addr} {m : PL} {t v : Int} (h1 : H p = some (.dK (ZES m))) (hz : m.length < sizeLine) (h : ∀ H2, H2 p = some (.dK (ZES (ZEn m t v))) → Kp p H H2 → R H2) : ZN7 (.int v) (.ref p) (.int t) H R :=
 ⟨p, _, rfl, ZIE.k (k := Sum.inl t) h1 (by simpa [ZES] using hz), by
  rw [ZPH]
  exact h _ ZDu Kp.upd⟩
theorem ZJh {H : Hp} {Q : VK} (h : ∀ p H2, H p = none → H2 p = some (.dK (ZES [])) → ZDn H H2 → Q (.ref p) H2) : ZN8 H Q := ZTF h
theorem ZMK (m : PL) (t h j : Int) : ZEV (ZEn m t h) j = if j = t then some h else ZEV m j := by
 have e1 := ZH2 j (ZEn m t h)
 rw [← ZPH, ZGa] at e1
 have e2 := ZH2 j m
 rw [e2] at e1
 simp only [ZMI] at e1
 by_cases e : j = t
 ·rw [if_pos e] at e1 ⊢
  cases hg : ZEV (ZEn m t h) j with
  | none => rw [hg] at e1; cases e1
  | some x => rw [hg] at e1; simp at e1; rw [e1]
 ·rw [if_neg e] at e1 ⊢
  cases hg : ZEV (ZEn m t h) j <;> cases hm : ZEV m j <;> rw [hg, hm] at e1 <;> simp_all
theorem ZJi (m : PL) (t h : Int) : (ZEn m t h).length ≤ m.length + 1 := by
 unfold ZEn
 split <;> simp
theorem ZHX {t : Int} : ∀ {m : PL}, ZEV m t = none ↔ t ∉ m.map (·.1)
 | [] => by simp [ZEV]
 | p :: m => by
  have ih := ZHX (t := t) (m := m)
  by_cases e : p.1 = t
  ·simp [ZEV, List.find?_cons, e]
  ·have e' : ¬ t = p.1 := fun z => e z.symm
   have : ZEV (p :: m) t = ZEV m t := by simp [ZEV, List.find?_cons, e]
   rw [this, ih]
   simp [e']
theorem ZPI (m : PL) (t h : Int) : (ZEn m t h).map (·.1) = if t ∈ m.map (·.1) then m.map (·.1) else m.map (·.1) ++ [t] := by
 have ha : (m.any fun kv => decide (kv.1 = t)) = true ↔ t ∈ m.map (·.1) := by simp
 unfold ZEn
 by_cases c : (m.any fun kv => decide (kv.1 = t)) = true
 ·rw [if_pos c, if_pos (ha.mp c), List.map_map]
  refine List.map_congr_left fun p _ => ?_
  simp only [Function.comp]
  split <;> rfl
 ·rw [if_neg c, if_neg (fun z => c (ha.mpr z))]
  simp
theorem ZFU {m : PL} {t h : Int} (n : (m.map (·.1)).Nodup) : ((ZEn m t h).map (·.1)).Nodup := by
 rw [ZPI]
 split
 ·exact n
 ·rename_i c
  rw [List.nodup_append]
  exact ⟨n, by simp, fun a ha b hb e => c (by simp at hb; subst hb; subst e; exact ha)⟩
theorem ZFE {t h : Int} : ∀ {m : PL}, (m.map (·.1)).Nodup → (ZEV m t = some h ↔ (t, h) ∈ m)
 | [], _ => by simp [ZEV]
 | p :: m, n => by
  simp only [List.map_cons, List.nodup_cons] at n
  have ih := ZFE (t := t) (h := h) n.2
  by_cases e : p.1 = t
  ·have : ZEV (p :: m) t = some p.2 := by simp [ZEV, List.find?_cons, e]
   rw [this]
   constructor
   ·intro z; cases z; rw [← e]; exact List.mem_cons_self
   ·intro z
    rcases List.mem_cons.mp z with z | z
    ·rw [← z]
    ·exact absurd (List.mem_map.mpr ⟨_, z, rfl⟩) (by rw [← e] at *; exact n.1)
  ·have : ZEV (p :: m) t = ZEV m t := by simp [ZEV, List.find?_cons, e]
   rw [this, ih]
   constructor
   ·exact fun z => List.mem_cons_of_mem _ z
   ·intro z
    rcases List.mem_cons.mp z with z | z
    ·exact absurd (by rw [← z]) e
    ·exact z
def ZFb (prs : PL) : PL := prs.foldl (fun m p => ZEn m p.1 p.2) []
theorem ZJP : ∀ (prs acc : PL), (acc.map (·.1)).Nodup → ((prs.foldl (fun m p => ZEn m p.1 p.2) acc).map (·.1)).Nodup
 | [], _, h => h
 | p :: prs, acc, h => ZJP prs _ (ZFU h)
theorem ZKL (prs : PL) : ((ZFb prs).map (·.1)).Nodup := ZJP prs [] List.nodup_nil
theorem ZLF : ∀ (prs acc : PL), (prs.foldl (fun m p => ZEn m p.1 p.2) acc).length ≤ acc.length + prs.length
 | [], acc => Nat.le_refl _
 | p :: prs, acc => by
  have h1 := ZLF prs (ZEn acc p.1 p.2)
  have h2 := ZJi acc p.1 p.2
  show (prs.foldl (fun m p => ZEn m p.1 p.2) (ZEn acc p.1 p.2)).length ≤ acc.length + (prs.length + 1)
  omega
theorem ZML (prs : PL) : (ZFb prs).length ≤ prs.length := by
 have := ZLF prs []
 simpa [ZFb] using this
theorem ZDt.prs {H : Hp} : ∀ {vs : List V} {l : PL}, ZDt H vs l → ZWF H vs (l.map dkE)
 | _, _, .nil => .nil
 | _, _, .cons ⟨a, e, z⟩ t => .cons ⟨a, e, z⟩ (ZDt.prs t)
theorem ZDt.length {H : Hp} {vs : List V} {l : PL} (h : ZDt H vs l) : vs.length = l.length := Paired.length h
theorem ZDt.snoc {H : Hp} : ∀ {vs : List V} {l : PL}, ZDt H vs l → ∀ {a : Addr} {p : Int × Int}, H a = some (.tup [.int p.1, .int p.2]) → ZDt H (vs ++ [.ref a]) (l ++ [p])
 | _, _, .nil, a, p, z => .cons ⟨a, rfl, z⟩ .nil
 | _, _, .cons h t, a, p, z => .cons h (ZDt.snoc t z)
theorem ZDt.at {H : Hp} : ∀ {vs : List V} {l : PL}, ZDt H vs l → ∀ {i : Nat} {v : V}, vs[i]? = some v → ∃ a p, v = .ref a ∧ l[i]? = some p ∧ H a = some (.tup [.int p.1, .int p.2])
 | _, _, .nil, i, v, e => by simp at e
 | _, _, @Paired.cons _ _ _ _ p _ _ ⟨a, e1, z⟩ t, 0, v, e => by
  simp at e; subst e
  exact ⟨a, p, e1, rfl, z⟩
 | _, _, .cons _ t, i + 1, v, e => by
  obtain ⟨a, p, h1, h2, h3⟩ := ZDt.at t (by simpa using e)
  exact ⟨a, p, h1, by simpa using h2, h3⟩
theorem ZDt.kp {p : Addr} {H H' : Hp} (k : Kp p H H') {n : Nat} {xs : List V} (hp : H p = some (.lst xs)) : ∀ {vs : List V} {l : PL}, ZDt H vs l → ZDt H' vs l
 | _, _, .nil => .nil
 | _, _, .cons ⟨a, e, z⟩ t => .cons ⟨a, e, k _ _ z (fun c => by subst c; rw [hp] at z; cases z)⟩ (ZDt.kp k (n := n) hp t)
theorem ZN9 {H : Hp} {Q : VK} {p : Addr} {m : PL} (h1 : H p = some (.dK (ZES m))) (hz : m.length < 64) (h : ∀ l H2 (ns : List Int), H l = none → H2 l = some (.lst (ns.map V.int)) → ns.Perm (m.map (·.1)) → ns.Pairwise (· ≤ ·) → ZDn H H2 → Q (.ref l) H2) : ZMH [.ref p] H Q :=
 ⟨p, _, m.map (·.1), rfl, .inl h1, by simp [ZES, dkE], by simpa [ZES] using hz, fun l ns hl hp hs => h l _ ns hl ZDu hp hs (ZDn.new hl)⟩
def Asc (cv : PL) : Prop := cv.Pairwise fun a b => a.1 < b.1
def ZKn (m cv : PL) : Prop := Asc cv ∧ ∀ t h, (t, h) ∈ cv ↔ ZEV m t = some h
def ZFI (m : PL) (ns : List Int) : PL := ns.map fun t => (t, (ZEV m t).getD 0)
theorem ZOA {m : PL} {ns : List Int} (nd : (m.map (·.1)).Nodup) (hp : ns.Perm (m.map (·.1))) (hs : ns.Pairwise (· ≤ ·)) : ZKn m (ZFI m ns) := by
 have hn : ns.Nodup := hp.nodup_iff.mpr nd
 refine ⟨?_, fun t h => ?_⟩
 ·unfold Asc ZFI
  rw [List.pairwise_map]
  exact (hs.and hn).imp fun ⟨a, b⟩ => by
   show _ < _
   omega
 ·unfold ZFI
  rw [List.mem_map]
  constructor
  ·rintro ⟨u, hu, e⟩
   have hu' := hp.mem_iff.mp hu
   cases hg : ZEV m u with
   | none => exact absurd hu' (ZHX.mp hg)
   | some x =>
    rw [hg] at e
    cases e
    exact hg
  ·intro hg
   refine ⟨t, hp.mem_iff.mpr ?_, by rw [hg]; rfl⟩
   by_cases c : t ∈ m.map (·.1)
   ·exact c
   ·rw [ZHX.mpr c] at hg; cases hg
theorem ZVG : bootBuiltins "zip" = some (.type "zip") := by decide +kernel
theorem ZJI {prog : Program} {w : World} {A : Around} {E : Value → Shared → Prop} {s : Shared} {t sl : Addr} {items : Array Value} {vl vu : Value} {lo hi : Option Int} {Q : Value → Shared → Prop} (ht : IsTup s.heap t items) (hs : s.heap.IsSliceOf sl vl vu .none) (pl : IsPart vl lo) (pu : IsPart vu hi)
  (hw : HT.sIx items.size 0 lo = 0 ∧ HT.sIx items.size items.size hi = items.size) (h : Q (.ref t) s) : wpAny (model prog w) A (getItem (.ref t) (.ref sl)) Q E s := by
 obtain ⟨os, hos, hcs, hds⟩ := id hs
 have hTs : s.TypeIs (.ref sl) "slice" := ⟨os, hos, hcs⟩
 unfold getItem
 try with_reducible refine wpAny_holding ?_
 first | refine wpAny_bind (wpAny_pure ?_) | skip
 refine wpAny_bind (wpAny_sequenceKey ht.typeIs (by decide) ?_)
 refine wpAny_bind (wpAny_callSpecial?_slot (name := Str.ofString "__getitem__") ht.typeIs PyProof.Rows.slot_tuple_getitem
  (wpAny_call_entry PyProof.Rows.slot_tuple_getitem ht.typeIs entry_tuple_getitem ?_ (args_tuple_getitem _ _)))
 show wpAny _ _ (Builtin.Tuple.tupleItemsOf (.ref t) >>= _) _ _ s
 refine wpAny_bind (tupleItemsOf_ ht ?_)
 refine wpAny_bind (wpAny_typeOf hTs ?_)
 rw [if_pos (by decide)]
 refine wpAny_bind (HT.sliceApplied_gen hs pl pu ?_)
 rw [hw.1, hw.2]
 have hyes : ((((0 : Nat) : Int) == 0 && (1 : Int) == 1 && (items.size - 0) == items.size) = true) := by simp
 show wpAny _ _ (if ((((0 : Nat) : Int) == 0 && (1 : Int) == 1 && (items.size - 0) == items.size) = true) then _ else _) _ _ s
 rw [if_pos hyes]
 unfold Builtin.Tuple.tupleIsExact
 refine wpAny_bind (wpAny_bind (wpAny_typeOf ht.typeIs (wpAny_pure ?_)))
 rw [if_pos (by decide)]
 refine wpAny_bind (wpAny_rule ?_)
 first
  | exact wpAny_pure ⟨_, rfl, wpAny_pure h⟩
  | exact wpAny_bind (wpAny_pure (wpAny_pure ⟨_, rfl, wpAny_pure h⟩))
def ZRA (K : W.Frag) : V → Option Int → Option Int → Hp → VK → Prop := fun x lo hi H Q => ∃ a xs, x = .ref a ∧ SqT K H a xs ∧
 ((HT.sIx xs.length 0 lo = 0 ∧ HT.sIx xs.length xs.length hi = xs.length) → Q (.ref a) H) ∧ (¬ (HT.sIx xs.length 0 lo = 0 ∧ HT.sIx xs.length xs.length hi = xs.length) → ∀ p, H p = none → Q (.ref p) (upd H p (.tup (ZF6 xs lo hi))))
theorem ZNW {X : Cx} (K : W.Frag) (hK : X.K = K) : SlR X (ZRA K) := by
 subst hK
 intro pins s σ H x v vl vu lo hi sl Q I rx hs pl pu h
 obtain ⟨a, xs, rfl, hx, q1, q2⟩ := h
 by_cases hw : HT.sIx xs.length 0 lo = 0 ∧ HT.sIx xs.length xs.length hi = xs.length
 ·cases rx
  obtain ⟨its, r, ht, hz⟩ := I.tuple hx
  have hlen : its.toArray.size = xs.length := by rw [List.size_toArray]; exact r.length.symm
  refine ⟨"tuple", _, PyProof.Rows.slot_tuple_getitem.lookup, ht.typeIs, ?_⟩
  exact ZJI ht hs pl pu (by rw [hlen]; exact hw) ⟨.ref a, H, I, rfl, q1 hw⟩
 ·exact ZUb pins s σ H (.ref a) v vl vu lo hi sl Q I rx hs pl pu ⟨a, xs, rfl, hx, hw, q2 hw⟩
theorem ZPJ {xs : List V} {lo hi : Option Int} (h : HT.sIx xs.length 0 lo = 0 ∧ HT.sIx xs.length xs.length hi = xs.length) : ZF6 xs lo hi = xs := by
 unfold ZF6
 rw [h.1, h.2]
 simp
section
variable {X : Cx} {pos pos' : Pos} {e : Expr} {te : TE}
theorem ZWH {op : Operator} {r : R2} (ho : OpR X (inplaceOp op) r) : PIp X op r := ho
theorem ZMM {i : Nat} {x : Str} {op : Operator} {r : R2} (hN : X.N.Nodup) (hi : X.N[i]? = some x) (hx : Loc X.env.scope x) (ho : OpR X (inplaceOp op) r) (he : QE X e te) (hf : X.fn x = true ∨ X.env.scope.names.lookup x = some .local := by first | exact .inl rfl | exact .inr rfl | assumption) :
 QS X (.AugAssign (.Name x pos') op e pos) (ZQG i te r) := ⟨ZUO hN hi hx he.h (ZWH ho) hf⟩
theorem ZVH {i : Nat} {r : R2} {D : ZEp} {σ : St} {H : Hp} {x : V} (e1 : σ[i]? = some (some x)) (h : te σ H fun y H1 => r x y H1 fun z H2 => D.nx (σ.set i (some z)) H2) : ZQG i te r D σ H := ⟨x, e1, h⟩
end
def ZR8 (Pv : St → Hp → Prop) (μ : St → Hp → Nat) (tb : TS) (D : ZEp) (n : Nat) (σ : St) (H : Hp) : Prop :=
 ∃ N : St → Hp → Prop, (∀ σ' H', N σ' H' → ∃ m', m' < n ∧ m' = μ σ' H' ∧ Pv σ' H') ∧ tb { D with nx := N, ct := N, bk := D.nx } σ H
theorem ZMN {c : TT} {tb : TS} {D : ZEp} {σ : St} {H : Hp} (Pv : St → Hp → Prop) (μ : St → Hp → Nat) (h0 : Pv σ H)
  (hs : ∀ σ H, Pv σ H → c σ H fun b H1 => if b = true then ZR8 Pv μ tb D (μ σ H) σ H1 else D.nx σ H1) : ZLt c tb D σ H := by
 refine ⟨fun m σ H => m = μ σ H ∧ Pv σ H, ⟨_, rfl, h0⟩, ?_⟩
 rintro m σ H ⟨rfl, p⟩
 exact hs σ H p
theorem ZNX {Pv : St → Hp → Prop} {μ : St → Hp → Nat} {tb : TS} {D : ZEp} {n : Nat} {σ : St} {H : Hp} (h : tb { D with nx := fun σ' H' => Pv σ' H' ∧ μ σ' H' < n, ct := fun σ' H' => Pv σ' H' ∧ μ σ' H' < n, bk := D.nx } σ H) : ZR8 Pv μ tb D n σ H :=
 ⟨_, fun σ' H' ⟨p, l⟩ => ⟨_, l, rfl, p⟩, h⟩
section
variable {K : W.Frag} {H : Hp} {Q : VK} {a b : Addr} {vs ws : List V} {l m : PL}
end
theorem ZDn.kpN {H H1 H2 : Hp} {l : Addr} (s : ZDn H H1) (hl : H l = none) (k : Kp l H1 H2) : ZDn H H2 := fun q o e => k q o (s q o e) (ZD4 e hl)
theorem ZDt.kpL {p : Addr} {H H' : Hp} (k : Kp p H H') {xs : List V} (hp : H p = some (.lst xs)) {vs : List V} {l : PL} (h : ZDt H vs l) : ZDt H' vs l := ZDt.kp k (n := 0) hp h
theorem ZDt.app {H : Hp} : ∀ {vs : List V} {l : PL}, ZDt H vs l → ∀ {ws : List V} {m : PL}, ZDt H ws m → ZDt H (vs ++ ws) (l ++ m)
 | _, _, .nil, _, _, h => h
 | _, _, .cons h t, _, _, g => .cons h (ZDt.app t g)
theorem ZDt.drop {H : Hp} : ∀ {vs : List V} {l : PL} (n : Nat), ZDt H vs l → ZDt H (vs.drop n) (l.drop n)
 | _, _, 0, h => h
 | _, _, _ + 1, .nil => .nil
 | _, _, n + 1, .cons _ t => ZDt.drop n t
theorem ZDt.take {H : Hp} : ∀ {vs : List V} {l : PL} (n : Nat), ZDt H vs l → ZDt H (vs.take n) (l.take n)
 | _, _, 0, _ => .nil
 | _, _, _ + 1, .nil => .nil
 | _, _, n + 1, .cons h t => .cons h (ZDt.take n t)
section
variable {K : W.Frag} {H H' : Hp} {Q : VK} {a b : Addr} {xs ys : List V} {cv l m : PL}
theorem ZPK {lo hi : Option Int} (h1 : H a = some (.tup xs)) (h : ∀ p H2, H2 p = some (.tup (ZF6 xs lo hi)) → ZDn H H2 → Q (.ref p) H2) : ZRA K (.ref a) lo hi H Q :=
 ⟨a, xs, rfl, SqT.of h1, fun e => h a H (by rw [ZPJ e]; exact h1) (ZDn.refl H), fun _ p hp => h p _ ZDu (ZDn.new hp)⟩
def PrT (H : Hp) (a : Addr) (cv : PL) : Prop := ∃ vs, H a = some (.tup vs) ∧ ZDt H vs cv
def PrL (H : Hp) (a : Addr) (cv : PL) : Prop := ∃ vs, H a = some (.lst vs) ∧ ZDt H vs cv
theorem PrT.same (h : PrT H a cv) (s : ZDn H H') : PrT H' a cv := by
 obtain ⟨vs, h1, h2⟩ := h
 exact ⟨vs, s _ _ h1, h2.same s⟩
theorem PrL.same (h : PrL H a cv) (s : ZDn H H') : PrL H' a cv := by
 obtain ⟨vs, h1, h2⟩ := h
 exact ⟨vs, s _ _ h1, h2.same s⟩
def ZIk (l : PL) (lo hi : Option Int) : PL := (l.drop (HT.sIx l.length 0 lo)).take (HT.sIx l.length l.length hi - HT.sIx l.length 0 lo)
theorem ZDt.cut {vs : List V} {lo hi : Option Int} (h : ZDt H vs l) : ZDt H (ZF6 vs lo hi) (ZIk l lo hi) := by
 unfold ZF6 ZIk
 rw [h.length]
 exact (h.drop _).take _
theorem PrT.sl {lo hi : Option Int} (h1 : PrT H a l) (h : ∀ p H2, PrT H2 p (ZIk l lo hi) → ZDn H H2 → Q (.ref p) H2) : ZRA K (.ref a) lo hi H Q := by
 obtain ⟨vs, g1, p1⟩ := h1
 exact ZPK g1 fun p H2 f2 S2 => h p H2 ⟨_, f2, (p1.cut).same S2⟩ S2
theorem PrL.sl {lo hi : Option Int} (h1 : PrL H a l) (h : ∀ p H2, H p = none → PrL H2 p (ZIk l lo hi) → ZDn H H2 → Q (.ref p) H2) : ZNz K (.ref a) lo hi H Q := by
 obtain ⟨vs, g1, p1⟩ := h1
 exact ZU4 (SqL.of g1) fun p H2 n2 f2 S2 => h p H2 n2 ⟨_, f2, (p1.cut).same S2⟩ S2
end
section
variable {X : Cx}
theorem ZPL {N : List Str} {sc : Scope} {own caps : List Str} {ks : List Nat} {elt tg iter : Expr} {ifs : List Expr} {scope : Scope} {pos cpos : Pos} {wi : TI} {g : TG} {tt : TT} {te : TE}
  (hN : X.N = N) (hsc : X.env.scope = sc) (hc : X.calm = true) (S : ZIi N sc own caps ks scope) (hi : PI X tg iter wi)
  (hg : ∀ cl C s₂ H₂ fp, PG (ZEC X (own ++ caps) scope cl C s₂ H₂ fp) tg g)
  (ht : ∀ cl C s₂ H₂ fp, ZKi (ZEC X (own ++ caps) scope cl C s₂ H₂ fp) ifs tt)
  (he : ∀ cl C s₂ H₂ fp, PE (ZEC X (own ++ caps) scope cl C s₂ H₂ fp) elt te)
  (hs : ∀ x, foldedSetIterable iter X.env x = pure x) {use : Option (Value → Sem Unit)} {QQ : Value → Shared → Prop} {pins : List (Addr × Obj)} {s : Shared} {σ : St} {H : Hp} {Q : VK} (I : Inv X pins σ H s)
  (fin : ∀ (C l : Addr) (H' : Hp) (s' : Shared), (∃ m, s'.heap.Ns C m) → Inv X pins σ H' s' → ZFD X pins H' C → Q (.ref l) H' → compPost (model X.prog X.w) X.A X.xe use QQ (.ref l) C (.ok .next) s')
  (h : ZJD own.length ks wi g tt te σ H Q) :
  wpAny (model X.prog X.w) X.A (comprehension (.ListComp elt [⟨tg, iter, ifs, 0⟩] scope pos) scope X.env cpos (newList []) false (eval iter X.env) use) QQ X.xe s := by
 subst hN hsc
 obtain ⟨cl, hclos, hcl, hclf⟩ := ZKG (scope := scope) (env := X.env) fun y hy hf => I.ok.has y.1 (.inl (S.free y hy hf))
 refine wpAny_comprehension_free (use := use) rfl hs hclos S.kind S.names (wpAny_mono (hi pins s σ H _ I h) (fun xv s₁ h₁ => wpAny_mono h₁ (fun it s₂ h₂ => ?_) fun _ _ e => e) fun _ _ e => e)
 obtain ⟨it, fp, tn, J, H2, e, I2, T, st2, f2, q⟩ := h₂
 subst e
 refine wpAny_newObj_type (wpAny_newFunctionEnv S.nocell (by intro y hy; simp at hy) (fun h₁ hns₁ hsb₁ => ?_) S.kind)
 dsimp only at hns₁ hsb₁ ⊢
 generalize hH2 : s₂.heap.push { cls := .type "list", dict := none, data := .seq ([] : List Value).toArray } = HP at hns₁ hsb₁ ⊢
 have hC : HP.objs.size = s₂.heap.objs.size + 1 := by rw [← hH2, Heap.size_push]
 have hDC : s₂.heap.objs.size ≠ HP.objs.size := by rw [hC]; exact Nat.ne_of_lt (Nat.lt_succ_self _)
 have hCle : s₂.heap.objs.size ≤ HP.objs.size := by rw [hC]; exact Nat.le_succ _
 have old : ∀ b o, s₂.heap.get? b = some o → h₁.get? b = some o := fun b o e => by
  have hb : b < s₂.heap.objs.size := Heap.lt_size e
  exact hsb₁.extBut b o (by rw [hC]; exact Nat.ne_of_lt (Nat.lt_succ_of_lt hb)) (Heap.get?_push_of_some _ (hH2 ▸ Heap.get?_push_of_some _ e))
 have hacc : h₁.get? s₂.heap.objs.size = some { cls := .type "list", dict := none, data := .seq ([] : List Value).toArray } := hsb₁.extBut _ _ hDC (Heap.get?_push_of_some _ (hH2 ▸ Heap.get?_push_size _ rfl))
 have fpl : ∀ b ∈ fp, b < s₂.heap.objs.size := fun b hb => by
  obtain ⟨o, e, _⟩ := T.obj _ _ st2 b hb
  exact Heap.lt_size e
 have hfD : H2 s₂.heap.objs.size = none := I2.hok.fresh (Nat.le_refl _)
 obtain ⟨W, ⟨m0, w0⟩, turn⟩ := q s₂.heap.objs.size hfD
 have hkr : ∀ x, (compEnvC scope cl HP.objs.size X.env).kindOf x = (scope.names.lookup x).map fun k => if (k == NameKind.free && X.env.scope.kind == .function && X.env.kindOf x == some .cell) then NameKind.cell else k := fun x => ZGX (env := X.env) scope.names x
 have cellOfN : ∀ x, scope.names.lookup x = some .free → X.env.kindOf x = some .cell := fun x e => S.free (x, .free) (PySem.mem_of_lookup e) rfl
 -- the context within
 have ok : (ZEC X (own ++ caps) scope cl HP.objs.size s₂ H2 fp).Ok := by
  refine ⟨I2.ok.mod, S.kind, I2.ok.glob, I2.ok.blt, hCle, fun x y c e1 e2 => I2.ok.inj x y c (hcl x c e1) (hcl y c e2), fun x hx => ?_, fun x c z => (by cases z), I2.ok.hd, I2.ok.frames, .inl rfl, fun b hb => ⟨?_, fun x c e => (f2 b hb).2.2.2.2.1 x c (hcl x c e)⟩,
   I2.bs, Nat.le_trans I2.ok.bsz I2.sz, fun b o e hb => ?_, fun b hb z => ?_, I2.stack, I2.stkFree⟩
  ·have hx' : (scope.names.lookup x).map (fun k => if (k == NameKind.free && X.env.scope.kind == .function && X.env.kindOf x == some .cell) then NameKind.cell else k) = some .cell ∨
     (scope.names.lookup x).map (fun k => if (k == NameKind.free && X.env.scope.kind == .function && X.env.kindOf x == some .cell) then NameKind.cell else k) = some .free := by rw [← hkr x]; exact hx
   cases e : scope.names.lookup x with
   | none => rw [e] at hx'; rcases hx' with z | z <;> cases z
   | some k =>
    have hm := PySem.mem_of_lookup e
    have hk : k = .free := by
     by_cases hkf : k = .free
     ·exact hkf
     ·have hb : (k == NameKind.free) = false := by simpa using hkf
      rw [e] at hx'
      simp only [Option.map_some, hb, Bool.false_and, Bool.false_eq_true, if_false, Option.some.injEq] at hx'
      rcases hx' with z | z
      ·exact absurd z (S.nocell _ hm)
      ·exact z
    exact hclf _ hm hk
  ·exact Nat.ne_of_lt (Nat.lt_of_lt_of_le (fpl b hb) hCle)
  ·rcases (f2 b hb).2.2.2.1 with z | z
   ·exact I2.ok.noex b o e z
   ·exact absurd (Nat.lt_of_lt_of_le (Heap.lt_size e) (Nat.le_trans I2.ok.bsz z)) (Nat.lt_irrefl _)
  ·rcases List.mem_cons.mp (I2.stkSub b z) with r | r
   ·exact (f2 b hb).2.1 r
   ·exact (f2 b hb).2.2.1 r
 have hlen : (ZF1 own.length ks σ).length = (own ++ caps).length := by
  have := congrArg List.length S.cap
  simp only [List.length_map] at this
  simp [ZF1, this]
 have I4 : Inv (ZEC X (own ++ caps) scope cl HP.objs.size s₂ H2 fp) [] (ZF1 own.length ks σ) (upd H2 s₂.heap.objs.size (.lst [])) { s₂ with heap := h₁, toks := s₂.toks + ([] : List (Str × Value)).length } := by
  obtain ⟨mX, hnX, hlX⟩ := I2.loc
  refine ⟨ok, rfl, I2.bare, Un.laid old (Nat.le_refl _) hfD, ⟨_, hns₁, fun i x v e1 e2 e3 => ?_⟩, fun x c e => ?_, ?_, fun x c e => ?_, fun p hp => (by cases hp), I2.hok.laid old (Nat.le_refl _) ⟨Nat.zero_le _, [], 0, .nil, hacc⟩, hlen⟩
  ·have e1 : (own ++ caps)[i]? = some x := e1
   by_cases hio : i < own.length
   ·unfold ZF1 at e2
    rw [List.getElem?_append_left (by simpa using hio), List.getElem?_replicate] at e2
    rw [if_pos hio] at e2
    cases e2
   ·unfold ZF1 at e2
    rw [List.getElem?_append_right (by simpa using hio), List.length_replicate, List.getElem?_map] at e2
    rw [List.getElem?_append_right (by simpa using hio)] at e1
    cases ek : ks[i - own.length]? with
    | none => rw [ek] at e2; cases e2
    | some k =>
     rw [ek] at e2
     have e2' := ZLA (Option.some.inj e2)
     have hcap := congrArg (fun l => l[i - own.length]?) S.cap
     simp only [List.getElem?_map, ek, e1, Option.map_some] at hcap
     have hNk : X.N[k]? = some x := Option.some.inj hcap
     have hfx := S.fr x (List.mem_of_getElem? e1)
     have hkX := cellOfN x hfx
     obtain ⟨u, ru, lk⟩ := hlX k x v hNk e2' (.inr (.inl hkX))
     refine ⟨u, ru, .inr ⟨.inl ?_, ?_⟩⟩
     ·show (compEnvC scope cl HP.objs.size X.env).kindOf x = some .cell
      rw [hkr x, hfx]
      simp [I2.ok.kind, hkX]
     ·rcases lk with ⟨z, _⟩ | ⟨_, c, ec, o, ho, hd⟩
      ·rw [hkX] at z; cases z
      ·obtain ⟨c', ec'⟩ := hclf (x, .free) (PySem.mem_of_lookup hfx) rfl
       have := hcl _ _ ec'
       rw [ec] at this
       cases this
       exact ⟨c, ec', o, old _ _ ho, hd⟩
  ·obtain ⟨v, o, ho, hd⟩ := I2.cell x c (hcl x c e)
   exact ⟨v, o, old _ _ ho, hd⟩
  ·show upd H2 s₂.heap.objs.size (.lst []) HP.objs.size = none
   rw [ZD6 (Ne.symm hDC)]
   exact I2.hok.fresh hCle
  ·obtain ⟨v, o, ho, hd⟩ := I2.cell x c (hcl x c e)
   show upd H2 s₂.heap.objs.size (.lst []) c = none
   rw [ZD6 (Nat.ne_of_lt (Heap.lt_size ho))]
   exact I2.freeC x c (hcl x c e)
 -- the way out
 have out : ∀ {σ' : St} {H' : Hp} {s' : Shared}, Inv (ZEC X (own ++ caps) scope cl HP.objs.size s₂ H2 fp) [] σ' H' s' → Q (.ref s₂.heap.objs.size) H' →
   compPost (model X.prog X.w) X.A X.xe use QQ (.ref s₂.heap.objs.size) HP.objs.size (.ok .next) s' := fun {σ' H' s'} I' q' => by
  obtain ⟨m, hn, _⟩ := I'.loc
  refine fin HP.objs.size s₂.heap.objs.size H' s' ⟨m, hn⟩ ?_ (I2.fpOk hCle I'.free) q'
  have hs' : Heap.SameBut HP.objs.size s'.heap s'.heap := Heap.SameBut.refl ..
  have hfree : H' HP.objs.size = none := I'.free
  have neC : ∀ {b : Addr} {o : Obj}, s₂.heap.get? b = some o → b ≠ HP.objs.size := fun e => Nat.ne_of_lt (Nat.lt_of_lt_of_le (Heap.lt_size e) hCle)
  refine I2.call' (ch := fp) (s' := s') I'.os ⟨fun b o e n hb hx => ?_, fun b o e n hb hx => ?_, I'.base.free, fun b o e hx => ?_, I'.base.tups, I'.base.frzs, I'.base.tbls⟩ (fun b ob e => ?_) I'.bare fun b hb => ⟨(f2 b hb).2.2.2.1, (f2 b hb).2.1, (f2 b hb).2.2.2.2.1, (f2 b hb).2.2.2.2.2⟩
  ·exact (I'.base.keep b o e n hb hx)
  ·obtain ⟨sl, e1⟩ := I'.base.slot b o e n hb hx
   exact ⟨sl, e1⟩
  ·obtain ⟨o', e1⟩ := I'.base.there b o e hx
   exact ⟨o', e1⟩
  ·exact I'.hok b ob e
 have stat : ∀ {H' : Hp}, (∀ b ∈ fp, H' b = none) → ∀ b ∈ fp, ZFD (ZEC X (own ++ caps) scope cl HP.objs.size s₂ H2 fp) [] H' b := fun hn b hb =>
  ⟨hn b hb, Nat.ne_of_lt (Nat.lt_of_lt_of_le (fpl b hb) hCle), ok.exfs b hb, .inl hb, (ok.exf b hb).2, fun p hp => by cases hp⟩
 have fr4 : ∀ b ∈ fp, upd H2 s₂.heap.objs.size (.lst []) b = none := fun b hb => by
  rw [ZD6 (Nat.ne_of_lt (fpl b hb))]
  exact (f2 b hb).1
 have tn4 : tn 0 h₁ := T.keep _ _ _ st2 fun b _ o e => old b o e
 have loop : ∀ s4 : Shared, s4 = { s₂ with heap := h₁, toks := s₂.toks + ([] : List (Str × Value)).length } →
   codeAny (model X.prog X.w) X.A (.compLoop (.ListComp elt [⟨tg, iter, ifs, 0⟩] scope pos) 0 (.ref it) (.ref s₂.heap.objs.size) (compEnvC scope cl HP.objs.size X.env))
    (compPost (model X.prog X.w) X.A X.xe use QQ (.ref s₂.heap.objs.size) HP.objs.size) s4 := by
  rintro s4 rfl
  refine ZGJ (fun n s' => ∃ i σ' H', Inv (ZEC X (own ++ caps) scope cl HP.objs.size s₂ H2 fp) [] σ' H' s' ∧ tn i s'.heap ∧ (∀ b ∈ fp, H' b = none) ∧ W i n σ' H') ?_ m0 ⟨0, _, _, I4, tn4, fr4, w0⟩
  rintro n s3 ⟨i, σ3, H3, I3, st3, fr3, w3⟩
  rcases turn i n σ3 H3 w3 with ⟨stop, qn⟩ | ⟨go, N, hN, step⟩
  ·refine wpAny_mono (T.done (ZEC X (own ++ caps) scope cl HP.objs.size s₂ H2 fp) rfl rfl rfl hc i [] s3 σ3 H3 (fun _ _ => False) I3 (stat fr3) st3 stop) (fun r s4 ⟨hr, I4'⟩ => ?_) fun _ _ z => False.elim z
   subst hr
   exact out I4' qn
  ·refine wpAny_mono (T.item (ZEC X (own ++ caps) scope cl HP.objs.size s₂ H2 fp) rfl rfl rfl hc i [] s3 σ3 H3 (fun _ _ => False) I3 (stat fr3) st3 go) (fun r s4 ⟨u, hr, h4⟩ => ?_) fun _ _ z => False.elim z
   subst hr
   refine wpAny_mono h4 (fun _ s5 ⟨x, H5, I5, r5, y5, st5, fr5⟩ => ?_) fun _ _ z => False.elim z
   have I5' := I5.pinned (stat fr5) (T.obj _ _ st5)
   have back : ∀ {s7 : Shared} {σ7 : St} {H7 : Hp}, Inv (ZEC X (own ++ caps) scope cl HP.objs.size s₂ H2 fp) ([] ++ ZHs fp s5.heap) σ7 H7 s7 → N σ7 H7 →
     ∃ m, m < n ∧ ∃ i σ' H', Inv (ZEC X (own ++ caps) scope cl HP.objs.size s₂ H2 fp) [] σ' H' s7 ∧ tn i s7.heap ∧ (∀ b ∈ fp, H' b = none) ∧ W i m σ' H' := fun {s7 σ7 H7} I7 n7 => by
    obtain ⟨m', hm, w7⟩ := hN σ7 H7 n7
    refine ⟨m', hm, i + 1, σ7, H7, I7.unpinned, T.keep _ _ _ st5 fun b hb o e => (I7.pin (b, o) (List.mem_append_right _ (List.mem_append_right _ (ZFp hb e)))).1, fun b hb => ?_, w7⟩
    obtain ⟨o, e, d⟩ := T.obj _ _ st5 b hb
    exact (I7.pin (b, o) (List.mem_append_right _ (List.mem_append_right _ (ZFp hb e)))).2.1
   refine wpAny_mono (hg _ _ _ _ _ _ s5 σ3 H5 x u _ I5' r5 (step x H5 y5)) (fun _ s6 ⟨σ6, H6, I6, q6⟩ => ?_) fun _ _ z => False.elim z
   refine wpAny_mono (ht _ _ _ _ _ _ s6 σ6 H6 _ I6 q6) (fun b s7 ⟨H7, I7, q7⟩ => ?_) fun _ _ z => False.elim z
   cases b with
   | false =>
    rw [if_neg Bool.false_ne_true]
    rw [if_neg Bool.false_ne_true] at q7
    exact back I7 q7
   | true =>
    rw [if_pos rfl]
    rw [if_pos rfl] at q7
    refine wpAny_mono (he _ _ _ _ _ _ s7 σ6 H7 _ I7 q7) (fun y s8 ⟨v, H8, I8, r8, xs, hx8, hz8, n8⟩ => ?_) fun _ _ z => False.elim z
    refine wpAny_mono (ZE2 (X := ZEC X (own ++ caps) scope cl HP.objs.size s₂ H2 fp) _ s8 σ6 H8 (.ref s₂.heap.objs.size) [v] (.ref s₂.heap.objs.size) [y] (fun _ H' => N σ6 H') I8 rfl (.cons r8 .nil) ⟨_, xs, v, rfl, rfl, hx8, hz8, n8⟩) (fun _ s9 ⟨_, H9, I9, _, n9⟩ => ?_) fun _ _ z => False.elim z
    exact back I9 n9
 exact codeAny_compStart_list (loop _ rfl) (T.self _ 0 _ _ _ tn4 (loop _ rfl))
theorem ZTG {N : List Str} {sc : Scope} {own caps : List Str} {ks : List Nat} {elt tg iter : Expr} {ifs : List Expr} {scope : Scope} {pos spos pos' : Pos} {wi : TI} {g : TG} {tt : TT} {te : TE} {i : Nat} {x : Str}
  (hN : X.N = N) (hsc : X.env.scope = sc) (hc : X.calm = true) (S : ZIi N sc own caps ks scope) (hi : PI X tg iter wi)
  (hg : ∀ cl C s₂ H₂ fp, PG (ZEC X (own ++ caps) scope cl C s₂ H₂ fp) tg g)
  (ht : ∀ cl C s₂ H₂ fp, ZKi (ZEC X (own ++ caps) scope cl C s₂ H₂ fp) ifs tt)
  (he : ∀ cl C s₂ H₂ fp, PE (ZEC X (own ++ caps) scope cl C s₂ H₂ fp) elt te)
  (hNd : X.N.Nodup) (hix : X.N[i]? = some x) (hx : Loc X.env.scope x)
  (hsw : swapsWith (.ListComp elt [⟨tg, iter, ifs, 0⟩] scope pos) (some (.Name x pos')) spos.line X.env = pure true)
  (hs : ∀ x, foldedSetIterable iter X.env x = pure x := by intro _; rfl)
  (hf : X.fn x = true ∨ X.env.scope.names.lookup x = some .local := by first | exact .inl rfl | exact .inr rfl | assumption) :
  PS X (.Assign [.Name x pos'] (.ListComp elt [⟨tg, iter, ifs, 0⟩] scope pos) spos) (ZHd (ZJD own.length ks wi g tt te) (ZGE i)) := by
 intro pins s σ H D I h
 rw [exec_Assign_Name_used _ _ _ _ hsw]
 refine wpAny_bind (wpAny_standAt (wpAny_bind ?_))
 show wpAny _ X.A (do let _ ← comprehension (.ListComp elt [⟨tg, iter, ifs, 0⟩] scope pos) scope X.env _ (newList []) false (eval iter X.env) (some (assign (.Name x pos') X.env))) _ _ s
 refine wpAny_bind (wpAny_mono (ZPL (QQ := fun _ s' => SP X pins D .next s') hN hsc hc S hi hg ht he hs I ?_ h) (fun _ s' hq => wpAny_pure (wpAny_pure hq)) fun _ _ e => e)
 rintro C l H' s' ⟨m, hn⟩ I' hF q
 show wpAny (model X.prog X.w) X.A (assign (.Name x pos') X.env (.ref l)) (fun _ s'' => ∃ m, s''.heap.Ns C m ∧ ∀ h', Heap.SameBut C s''.heap h' → SP X pins D .next { s'' with heap := h' }) X.xe s'
 obtain ⟨f0, f1, f2, f3, f4, f5⟩ := hF
 refine wpAny_assign_Name (ZK3 (v := .ref l) I' hNd hix hx rfl (fun s'' I'' ⟨b, hsb, hb⟩ => ?_) hf)
 have hCb : C ≠ b := by
  rcases hb with rfl | hb
  ·exact f1
  ·exact fun z => f4 x b hb z.symm
 refine ⟨m, hn.sameBut hsb hCb, fun h' hs' => ⟨_, H', I''.turned (t' := s''.toks) (fun c o hc e => hs'.extBut c o hc e) f0 f1 f3 f4 f5, q⟩⟩
theorem ZH3 {N : List Str} {sc : Scope} {own caps : List Str} {ks : List Nat} {elt tg iter : Expr} {ifs : List Expr} {scope : Scope} {pos spos pos' : Pos} {wi : TI} {g : TG} {tt : TT} {te : TE} {i : Nat} {x : Str}
  (hN : X.N = N) (hsc : X.env.scope = sc) (hc : X.calm = true) (S : ZIi N sc own caps ks scope) (hNd : X.N.Nodup) (hix : X.N[i]? = some x) (hx : Loc X.env.scope x)
  (hi : QI X tg iter wi)
  (hg : ∀ cl C s₂ H₂ fp, QG (ZEC X (own ++ caps) scope cl C s₂ H₂ fp) tg g)
  (ht : ∀ cl C s₂ H₂ fp, QF (ZEC X (own ++ caps) scope cl C s₂ H₂ fp) ifs tt)
  (he : ∀ cl C s₂ H₂ fp, QE (ZEC X (own ++ caps) scope cl C s₂ H₂ fp) elt te)
  (hsw : swapsWith (.ListComp elt [⟨tg, iter, ifs, 0⟩] scope pos) (some (.Name x pos')) spos.line X.env = pure true := by rfl)
  (hs : ∀ x, foldedSetIterable iter X.env x = pure x := by intro _; rfl)
  (hf : X.fn x = true ∨ X.env.scope.names.lookup x = some .local := by first | exact .inl rfl | exact .inr rfl | assumption) :
  QS X (.Assign [.Name x pos'] (.ListComp elt [⟨tg, iter, ifs, 0⟩] scope pos) spos) (ZHd (ZJD own.length ks wi g tt te) (ZGE i)) :=
 ⟨ZTG hN hsc hc S hi.h (fun cl C s₂ H₂ fp => (hg cl C s₂ H₂ fp).h) (fun cl C s₂ H₂ fp => (ht cl C s₂ H₂ fp).h) (fun cl C s₂ H₂ fp => (he cl C s₂ H₂ fp).h) hNd hix hx hsw hs hf⟩
theorem ZTH {i : Nat} {x : Str} {e : Expr} {te : TE} {pos pos' : Pos} (hN : X.N.Nodup) (hi : X.N[i]? = some x) (hx : Loc X.env.scope x) (he : QE X e te) (hs : swapsWith e (some (.Name x pos')) pos.line X.env = pure false := by rfl) (hf : X.fn x = true ∨ X.env.scope.names.lookup x = some .local := by first | exact .inl rfl | exact .inr rfl | assumption) :
 QS X (.Assign [.Name x pos'] e pos) (ZHd te (ZGE i)) := ⟨ZOq hN hi hx he.h hs hf⟩
end
section
variable {K : W.Frag} {H H' : Hp} {a p l : Addr} {cv : PL} {xs : List V}
theorem PrT.kpL (h : PrT H a cv) (k : Kp l H H') (hl : H l = some (.lst xs)) : PrT H' a cv := by
 obtain ⟨vs, h1, h2⟩ := h
 exact ⟨vs, k _ _ h1 (fun e => by subst e; rw [h1] at hl; cases hl), h2.kpL k hl⟩
end
section
variable {X : Cx} {e st : Expr} {te : TE} {pos p2 : Pos}
end
section
variable {K : W.Frag} {H : Hp} {Q : VK} {a : Addr} {xs : List V} {l : PL}
end
section
variable {X : Cx} {tg : Expr}
end
section
variable {σ : St} {H : Hp}
end
section
variable {X : Cx}
end
def ZRB (K : W.Frag) (x : V) (H : Hp) (R : It → Hp → Prop) : Prop := (∃ a, x = .ref a ∧ (∃ xs, SqL K H a xs) ∧ R (Itl K a) H) ∨ (∃ a, x = .ref a ∧ (∃ xs, SqT K H a xs) ∧ R (Itt K a) H)
def ZVI (K : W.Frag) (tl : TE) : TI := fun σ H R => tl σ H fun x H1 => ZRB K x H1 R
theorem ZVJ {X : Cx} {tg e : Expr} {te : TE} (K : W.Frag) (hK : X.K = K) (hl : QE X e te) : QI X tg e (ZVI K te) := by
 subst hK
 refine ⟨?_⟩
 intro pins s σ H R I h
 refine thn (hl.h pins s σ H _ I h) fun v s1 ⟨x, H1, I1, r1, q1⟩ => ?_
 rcases q1 with ⟨a, e, ⟨xs, hq⟩, q⟩ | ⟨a, e, ⟨xs, hq⟩, q⟩
 ·subst e
  cases r1
  obtain ⟨its, rv, p, hz⟩ := I1.list hq
  refine wpAny_pyIter_list p.isList ?_
  refine ⟨s1.heap.objs.size, [s1.heap.objs.size], _, _, H1, rfl, I1.kept (t' := s1.toks) fun b o e => Heap.get?_push_of_some _ e, ZK4 a _, ⟨_, Heap.get?_push_size _ rfl, rfl, rfl⟩, fun b hb => ?_, q⟩
  have e : b = s1.heap.objs.size := by simpa using hb
  subst e
  exact I1.fpOk (Nat.le_refl _) (I1.hok.fresh (Nat.le_refl _))
 ·subst e
  cases r1
  obtain ⟨its, rv, p, hz⟩ := I1.tuple hq
  refine wpAny_pyIter_tuple (show s1.heap.IsTuple a its.toArray from p) ?_
  refine ⟨s1.heap.objs.size, [s1.heap.objs.size], _, _, H1, rfl, I1.kept (t' := s1.toks) fun b o e => Heap.get?_push_of_some _ e, ZJ3 a _, ⟨_, Heap.get?_push_size _ rfl, rfl, rfl⟩, fun b hb => ?_, q⟩
  have e : b = s1.heap.objs.size := by simpa using hb
  subst e
  exact I1.fpOk (Nat.le_refl _) (I1.hok.fresh (Nat.le_refl _))
def SQ (b : Bool) (H : Hp) (a : Addr) (vs : List V) : Prop := H a = some (if b then .lst vs else .tup vs)
section
variable {K : W.Frag} {σ : St} {H : Hp} {D : ZEp}
theorem ZTI {tl : TE} {R : It → Hp → Prop} (h : tl σ H fun x H1 => ZRB K x H1 R) : ZVI K tl σ H R := h
theorem ZTJ {b : Bool} {a : Addr} {xs : List V} {g : TG} {tb : TS} (Pv : Nat → St → Hp → Prop) (hq : SQ b H a xs) (h0 : Pv 0 σ H) (hl : ∀ i σ H, i ≤ xs.length → Pv i σ H → SQ b H a xs)
  (hs : ∀ i x σ H, xs[i]? = some x → Pv i σ H → g x σ H fun σ2 H2 => tb { D with nx := Pv (i + 1), ct := Pv (i + 1), bk := D.nx } σ2 H2) (hd : ∀ σ H, Pv xs.length σ H → D.nx σ H) :
  ZRB K (.ref a) H (fun J H1 => rFor J g tb D σ H1) := by
 cases b with
 | true => exact .inl ⟨a, rfl, ⟨xs, SqL.of hq⟩, ZKk Pv h0 (fun i σ H hi p => SqL.of (hl i σ H hi p)) hs hd⟩
 | false => exact .inr ⟨a, rfl, ⟨xs, SqT.of hq⟩, ZHx Pv h0 (fun i σ H hi p => SqT.of (hl i σ H hi p)) hs hd⟩
end
theorem SQ.same {b : Bool} {H H' : Hp} {a : Addr} {vs : List V} (h : SQ b H a vs) (s : ZDn H H') : SQ b H' a vs := s _ _ h
section
variable {X : Cx} {pos : Pos}
end
def ZEj (n : Nat) {α : Type} : KasT α → (α → Prop) → Prop
 | .ret a, R => R a
 | .ask i j k, R => i < n ∧ j < n ∧ ∀ b, ZEj n (k b) R
theorem ZEj.bind {n : Nat} {α β : Type} {f : α → KasT β} {R : α → Prop} {R' : β → Prop} (h : ∀ a, R a → ZEj n (f a) R') : ∀ t : KasT α, ZEj n t R → ZEj n (t.bind f) R'
 | .ret a, g => h a g
 | .ask i j k, g => ⟨g.1, g.2.1, fun b => ZEj.bind h (k b) (g.2.2 b)⟩
theorem ZPM {n : Nat} {cmp : Nat → Nat → (Bool → Shared → Prop) → Shared → Prop} {c : Nat → Nat → Bool} {s : Shared} (hc : ∀ i j C, i < n → j < n → C (c i j) s → cmp i j C s) {α : Type} {Q : α → Shared → Prop} {R : α → Prop} : ∀ t : KasT α, ZEj n t R → Q (evT c t) s → t.kasWp cmp Q s
 | .ret _, _, h => h
 | .ask i j k, g, h => hc i j _ g.1 g.2.1 (ZPM hc (k (c i j)) (g.2.2 _) h)
section
variable {n : Nat}
def Inn (n : Nat) (p : Array Nat) : Prop := 0 < n ∧ ∀ v ∈ p.toList, v < n
theorem Inn.at {p : Array Nat} (h : Inn n p) (i : Nat) : p.getD i 0 < n := by
 by_cases hi : i < p.size
 ·have := ZGA (p := p) hi
  exact h.2 _ (Array.mem_toList_iff.mpr (Array.mem_of_getElem? this))
 ·have : p.getD i 0 = 0 := by simp [Array.getD, hi]
  rw [this]
  exact h.1
theorem Inn.perm {p q : Array Nat} (h : Inn n p) (e : q.toList.Perm p.toList) : Inn n q := ⟨h.1, fun v hv => h.2 v (e.mem_iff.mp hv)⟩
theorem Inn.rev {p : Array Nat} (h : Inn n p) (i j : Nat) : Inn n (kas_rev p i j) := h.perm (ZL2 p i j)
theorem ZJj {p : Array Nat} (h : Inn n p) : ∀ f a, ZEj n (kas_asc p f a) (fun _ => True)
 | 0, _ => trivial
 | f + 1, a => ⟨h.at _, h.at _, fun b => by
  cases b with
  | true => exact trivial
  | false => exact ZJj h f (a + 1)⟩
theorem ZHY : ∀ (f : Nat) {p : Array Nat} (a q : Nat), Inn n p → ZEj n (kas_desc f p a q) (fun r => Inn n r.1)
 | 0, _, _, _, h => h
 | f + 1, p, a, q, h => ⟨h.at _, h.at _, fun b => by
  cases b with
  | true =>
   show ZEj n (if q > 0 then kas_desc f (kas_rev p (a - (q + 1)) a) (a + 1) 0 else kas_desc f p (a + 1) 0) _
   split
   ·exact ZHY f _ _ (h.rev _ _)
   ·exact ZHY f _ _ h
  | false =>
   refine ⟨h.at _, h.at _, fun d => ?_⟩
   cases d with
   | true => exact h
   | false => exact ZHY f _ _ h⟩
theorem ZLG {p : Array Nat} (h : Inn n p) (m k : Nat) : ZEj n (kas_tail3 m k p) (fun r => Inn n r.2) := by
 unfold kas_tail3
 refine ZEj.bind (R := fun _ => True) (fun a _ => ?_) _ (ZJj (h.rev _ _) _ _)
 exact h.rev _ _
theorem ZKM {p : Array Nat} (h : Inn n p) (m k : Nat) : ZEj n (kas_descPart m k p) (fun r => Inn n r.2) := by
 refine ZEj.bind (R := fun r => Inn n r.1) (fun r hr => ?_) _ (ZHY _ _ _ h)
 show ZEj n (if r.2.2 > 0 then _ else _) _
 split
 ·exact ZLG (hr.rev _ _) _ _
 ·exact ZLG hr _ _
theorem ZOB {p : Array Nat} (h : Inn n p) (k : Nat) : ZEj n (kas_count k p) (fun r => Inn n r.2) := by
 refine ZEj.bind (R := fun _ => True) (fun m _ => ?_) _ (ZJj h _ _)
 show ZEj n (if (m == k) = true then _ else _) _
 split
 ·exact h
 ·split
  ·refine ⟨h.at _, h.at _, fun b => ?_⟩
   cases b with
   | true => exact h
   | false => exact ZKM (h.rev _ _) _ _
  ·exact ZKM h _ _
theorem ZIF {p : Array Nat} (h : Inn n p) (k : Nat) : ∀ f l r, ZEj n (kas_place p k f l r) (fun _ => True)
 | 0, _, _ => trivial
 | f + 1, l, r => by
  show ZEj n (if l ≥ r then _ else _) _
  split
  ·exact trivial
  ·refine ⟨h.at _, h.at _, fun b => ?_⟩
   cases b with
   | true => exact ZIF h k f _ _
   | false => exact ZIF h k f _ _
theorem ZMO : ∀ (f : Nat) {p : Array Nat} (k : Nat), Inn n p → ZEj n (kas_bin f p k) (fun _ => True)
 | 0, _, _, _ => trivial
 | f + 1, p, k, h => ZEj.bind (R := fun _ => True) (fun l _ => ZMO f _ (h.perm (Array.perm_iff_toList_perm.mp (bubble_perm p k _)))) _ (ZIF h k _ _ _)
theorem ZPN (hn : 0 < n) : ZEj n (kas_sort n) (fun _ => True) := by
 have h : Inn n (List.toArray (List.range n)) := ⟨hn, fun v hv => by simpa using hv⟩
 refine ZEj.bind (R := fun r => Inn n r.2) (fun r hr => ?_) _ (ZOB h _)
 show ZEj n (if r.1 < n then _ else _) _
 split
 ·exact ZMO _ _ hr
 ·exact trivial
end
def ltP (p q : Int × Int) : Bool := decide (p.1 < q.1) || (decide (p.1 = q.1) && decide (p.2 < q.2))
theorem ZGb {p q : Int × Int} : ltP p q = true ↔ p.1 < q.1 ∨ (p.1 = q.1 ∧ p.2 < q.2) := by simp [ltP]
theorem ZIl {p q : Int × Int} : ltP p q = false ↔ ¬ (p.1 < q.1 ∨ (p.1 = q.1 ∧ p.2 < q.2)) := by
 rw [← ZGb]; simp
def ZIG (h : Heap) (a : Addr) (v : Value) (p : Int × Int) : Prop := ∃ b t u, v = .ref b ∧ b ≠ a ∧ IsTup h b #[.int p.1 t, .int p.2 u]
def ZFx (h : Heap) (a : Addr) (vs : List Value) (l : PL) : Prop := Paired (ZIG h a) vs l
theorem ZFx.get {h : Heap} {a : Addr} : ∀ {vs : List Value} {l : PL}, ZFx h a vs l → ∀ {i : Nat}, i < l.length → ZIG h a (vs.getD i .none) (l.getD i (0, 0))
 | _, _, .nil, i, hi => absurd hi (Nat.not_lt_zero _)
 | _, _, .cons g t, 0, _ => g
 | _, _, .cons g t, i + 1, hi => by
  have := ZFx.get t (i := i) (by simpa using hi)
  simpa using this
theorem ZFx.katT {h : Heap} {a : Addr} : ∀ {vs : List Value} {l : PL}, ZFx h a vs l → ∃ fs, KatTups h vs fs ∧ fs.length = vs.length ∧ ∀ v ∈ fs, ∃ x t, v = .int x t
 | _, _, .nil => ⟨[], .nil, rfl, fun v hv => by cases hv⟩
 | _, _, @Paired.cons _ _ _ v p _ _ ⟨b, t, u, e, _, o, ho, hc, k, hd⟩ r => by
  obtain ⟨fs, h1, h2, h3⟩ := ZFx.katT r
  subst e
  refine ⟨.int p.1 t :: fs, .cons ho hc hd rfl h1, by simp [h2], fun v hv => ?_⟩
  rcases List.mem_cons.mp hv with rfl | hv
  ·exact ⟨_, _, rfl⟩
  ·exact h3 v hv
section
variable {prog : Program} {w : World} {A : Around} {E : Value → Shared → Prop} {s : Shared}
theorem ZM4 {a : Addr} {v v' : Value} {p q : Int × Int} {C : Bool → Shared → Prop} (hp : ZIG s.heap a v p) (hq : ZIG s.heap a v' q) (h : C (ltP p q) s) : wpAny (model prog w) A (keyLt' (tuples' true) v v') C E s := by
 obtain ⟨b, t, u, rfl, _, o, ho, hc, k, hd⟩ := hp
 obtain ⟨b', t', u', rfl, _, o', ho', hc', k', hd'⟩ := hq
 refine kat_lt ho hd ho' hd' ?_
 refine kat_cons (wpAny_eqBool_int ?_)
 by_cases e1 : p.1 = q.1
 ·rw [show (p.1 == q.1) = true by simp [e1]]
  refine kat_yes (kat_cons (wpAny_eqBool_int ?_))
  by_cases e2 : p.2 = q.2
  ·rw [show (p.2 == q.2) = true by simp [e2]]
   refine kat_yes (kat_nil ?_)
   have : ltP p q = false := by rw [ZIl]; omega
   rw [this] at h
   exact h
  ·rw [show (p.2 == q.2) = false by simp [e2]]
   refine kat_no (kat_one _ _ (lt_int ?_))
   have : ltP p q = decide (p.2 < q.2) := by simp [ltP, e1]
   rw [this] at h
   exact h
 ·rw [show (p.1 == q.1) = false by simp [e1]]
  refine kat_no (oneLt_int ?_)
  have : ltP p q = decide (p.1 < q.1) := by simp [ltP, e1]
  rw [this] at h
  exact h
theorem ZKN {a : Addr} {vs : List Value} {l : PL} {n : Nat} {P : Fin → Shared → Prop} (ho : s.heap.get? a = some (seqObj "list" vs.toArray n))
  (hT : ZFx s.heap a vs l) (hd : l.Nodup) (h64 : vs.length < 64)
  (h : ∀ (ix : List Nat), ix.Perm (List.range vs.length) → (ix.map fun i => l.getD i (0, 0)).Pairwise (fun p q => ltP p q = true) → P (.done (.ret .none)) { s with heap := sortedHeap s.heap a vs (ix.map fun i => vs.getD i Value.none).toArray }) :
  wpAny (model prog w) A (Builtin.«list.sort» ⟨[.ref a], []⟩) P E s := by
 have hlen : vs.length = l.length := Paired.length hT
 have ha : a < s.heap.objs.size := Heap.lt_size ho
 rw [list_sort_plain]
 refine wpAny_bind (listItems_at ho rfl ?_)
 refine wpAny_bind (listUpdate_at ho rfl ?_ (by rw [List.size_toArray, sizeLine_eq]; omega) (Nat.zero_le _))
 obtain ⟨e1, ho1⟩ : ∃ e1, (s.heap.update a (Obj.mapSeq fun _ => (#[] : Array Value))).get? a = some (seqObj "list" #[] e1) := ⟨_, get?_update_seq ho fun _ => #[]⟩
 refine wpAny_bind (seqEpoch_at ho1 rfl ?_)
 refine wpAny_bind (wpAny_newTuple ?_ (by show vs.length ≤ _; rw [sizeLine_eq]; omega))
 refine wpAny_bind (wpAny_newList ?_ (Nat.zero_le _))
 refine wpAny_holding ?_
 generalize hh : (((s.heap.update a (Obj.mapSeq fun _ => (#[] : Array Value))).push (seqObj "tuple" vs.toArray 0)).push (seqObj "list" #[] 0)) = h3
 have ho3 : h3.get? a = some (seqObj "list" #[] e1) := by rw [← hh]; exact Heap.get?_push_of_some _ (Heap.get?_push_of_some _ ho1)
 have keep : ∀ b o, b ≠ a → s.heap.get? b = some o → h3.get? b = some o := fun b o hb e => by
  rw [← hh]
  exact Heap.get?_push_of_some _ (Heap.get?_push_of_some _ ((Heap.get?_update_other _ _ (Ne.symm hb)).trans e))
 have hT3 : ZFx h3 a vs l := Paired.mapP hT fun v p ⟨b, t, u, e, hb, o, hx, r⟩ => ⟨b, t, u, e, hb, o, keep b o hb hx, r⟩
 have done : ∀ (ix : List Nat), ix.Perm (List.range vs.length) → (ix.map fun i => l.getD i (0, 0)).Pairwise (fun p q => ltP p q = true) →
   P (.done (.ret .none)) { s with heap := h3.update a (Obj.mapSeq fun _ => (ix.map fun i => vs.getD i Value.none).toArray) } := fun ix hp hs => by
  have := h ix hp hs
  unfold sortedHeap at this
  rw [hh] at this
  exact this
 show wpAny (model prog w) A _ P E { s with heap := h3 }
 dsimp only
 by_cases h2 : vs.toArray.size < 2
 ·rw [if_pos h2, if_pos h2]
  refine wpAny_bind (wpAny_pure ?_)
  have hsmall : (List.range vs.length).map (fun i => vs.getD i Value.none) = vs := by
   rw [List.size_toArray] at h2
   match vs, h2 with
   | [], _ => rfl
   | [v], _ => rfl
  have hpw : ((List.range vs.length).map fun i => l.getD i (0, 0)).Pairwise (fun p q => ltP p q = true) := by
   rw [List.size_toArray] at h2
   match vs, h2 with
   | [], _ => exact List.Pairwise.nil
   | [v], _ => exact List.pairwise_singleton _ _
  have D := done (List.range vs.length) (List.Perm.refl _) hpw
  rw [hsmall] at D
  show wpAny (model prog w) A ((pure () : StateT SortSt Sem Unit).run (SortSt.mk' general' (vs.toArray.zip vs.toArray) #[] 7 none) >>= _) P E { s with heap := h3 }
  rw [StateT.run_pure]
  refine wpAny_bind (wpAny_pure ?_)
  dsimp only
  have hout : ((arrOf (SortSt.mk' general' (vs.toArray.zip vs.toArray) #[] 7 none)).map (·.2)) = vs.toArray := by
   show ((vs.toArray.zip vs.toArray).map (·.2)) = vs.toArray
   apply Array.toList_inj.mp
   rw [Array.toList_map, Array.toList_zip]
   exact List.map_snd_zip (Nat.le_refl _)
  rw [hout]
  refine wpAny_bind (seqEpoch_at (s := { s with heap := h3 }) ho3 rfl ?_)
  refine wpAny_bind (listUpdate_at (s := { s with heap := h3 }) ho3 rfl ?_ (Nat.zero_le _) (by rw [List.size_toArray, sizeLine_eq]; omega))
  simp only [bne_self_eq_false, Bool.false_eq_true, if_false]
  exact wpAny_pure D
 ·rw [if_neg h2, if_neg h2]
  have h2' : 2 ≤ vs.length := by rw [List.size_toArray] at h2; omega
  obtain ⟨fs, k1, k2, k3⟩ := hT3.katT
  refine wpAny_bind (kat_kind (T := .type "int") (s := { s with heap := h3 }) k1 (by omega) (fun v hv => ?_) (by decide) ?_)
  ·obtain ⟨x, t, rfl⟩ := k3 v hv
   exact Looks.of_pure rfl
  have hkk : tuples' (Value.type "int" != Value.type "tuple") = tuples' true := by
   have : (Value.type "int" != Value.type "tuple") = true := by decide
   rw [this]
  rw [hkk]
  let c : Nat → Nat → Bool := fun i j => ltP (l.getD i (0, 0)) (l.getD j (0, 0))
  have O : Ord c vs.length := by
   refine ⟨fun i j k h1 h2 => ?_, fun i j h1 => ?_, fun i j hi hj hne h1 => ?_⟩
   ·have h1 := ZGb.mp h1
    have h2 := ZGb.mp h2
    exact ZGb.mpr (by omega)
   ·have h1 := ZGb.mp h1
    exact ZIl.mpr (by omega)
   ·have h1 := ZIl.mp h1
    refine ZGb.mpr ?_
    have hne2 : l.getD i (0, 0) ≠ l.getD j (0, 0) := by
     intro e
     have hi' : i < l.length := by omega
     have hj' : j < l.length := by omega
     have hpw := List.pairwise_iff_getElem.mp (List.nodup_iff_pairwise_ne.mp hd)
     have e1 : l.getD i (0, 0) = l[i] := by simp [hi']
     have e2 : l.getD j (0, 0) = l[j] := by simp [hj']
     rw [e1, e2] at e
     rcases Nat.lt_trichotomy i j with z | z | z
     ·exact hpw i j hi' hj' z e
     ·exact hne z
     ·exact hpw j i hj' hi' z e.symm
    have hne3 : ¬ ((l.getD i (0, 0)).1 = (l.getD j (0, 0)).1 ∧ (l.getD i (0, 0)).2 = (l.getD j (0, 0)).2) := fun z => hne2 (Prod.ext z.1 z.2)
    omega
  obtain ⟨S1, S2⟩ := ZSj O (by omega)
  refine wpAny_bind (wpAny_mono (kat_run (E := E) (vs := vs) (ks := vs) (Q := fun st' s' => s' = { s with heap := h3 } ∧ arrOf st' = (evT c (kas_sort vs.length)).map (kas_item (vs.toArray.zip vs.toArray)) ∧ failedOf st' = none)
   (G := fun p s' => s' = { s with heap := h3 } ∧ p = evT c (kas_sort vs.length)) rfl h2' h64 (fun p st' s' a1 a2 a3 a4 => ⟨a4.1, by rw [a2, a4.2], a3⟩)
   (ZPM (c := c) (n := vs.length) (fun i j C hi hj hC => ?_) _ (ZPN (by omega)) ⟨rfl, rfl⟩)) ?_ fun _ _ e => e)
  ·exact ZM4 (hT3.get (by omega)) (hT3.get (by omega)) hC
  ·rintro ⟨⟨⟩, st'⟩ s' ⟨rfl, har, hf⟩
   dsimp only
   rw [kat_snds rfl har]
   have hperm : (evT c (kas_sort vs.length)).toList.Perm (List.range vs.length) := S1
   have hsz : (evT c (kas_sort vs.length)).size = vs.length := by have := S1.length_eq; simpa using this
   have hpw : ((evT c (kas_sort vs.length)).toList.map fun i => l.getD i (0, 0)).Pairwise (fun p q => ltP p q = true) := by
    rw [List.pairwise_map, List.pairwise_iff_getElem]
    intro i j hi hj hij
    have := S2 i j hij (by simp at hj; omega)
    have e1 : gt0 (evT c (kas_sort vs.length)) i = (evT c (kas_sort vs.length)).toList[i] := ZKE (by rw [← Array.getElem?_toList, List.getElem?_eq_getElem hi])
    have e2 : gt0 (evT c (kas_sort vs.length)) j = (evT c (kas_sort vs.length)).toList[j] := ZKE (by rw [← Array.getElem?_toList, List.getElem?_eq_getElem hj])
    rw [e1, e2] at this
    exact this
   refine wpAny_bind (seqEpoch_at (s := { s with heap := h3 }) ho3 rfl ?_)
   refine wpAny_bind (listUpdate_at (s := { s with heap := h3 }) ho3 rfl ?_ (Nat.zero_le _) ?_)
   ·rw [hf]
    simp only [bne_self_eq_false, Bool.false_eq_true, if_false]
    exact wpAny_pure (done _ hperm hpw)
   ·show (((evT c (kas_sort vs.length)).toList.map fun i => vs.getD i Value.none).toArray).size ≤ _
    rw [List.size_toArray, List.length_map, Array.length_toList, hsz, sizeLine_eq]
    omega
end
section
variable {X : Cx} {pins : List (Addr × Obj)} {σ : St} {H H' : Hp} {s : Shared} {h' : Heap}
theorem Inv.old (I : Inv X pins σ H s) {b : Addr} {o : HO} (e : H b = some o) : b < s.heap.objs.size := by
 by_cases h : b < s.heap.objs.size
 ·exact h
 ·rw [I.hok.fresh (Nat.le_of_not_lt h)] at e
  cases e
theorem Inv.many {t' : Nat} (I : Inv X pins σ H s) (k : ∀ b u, s.heap.get? b = some u → h'.get? b = some u) (hs : ∀ b, b < s.heap.objs.size → H' b = H b) (new : ∀ b o, s.heap.objs.size ≤ b → H' b = some o → ZER X.prog X.w H' h' b o) :
  Inv X pins σ H' { s with heap := h', toks := t' } := by
 have old : ∀ b o, H b = some o → H' b = some o := fun b o e => (hs b (I.old e)).trans e
 refine I.un ⟨fun b u q _ _ _ => k b u q, fun b u q _ _ _ => ⟨u.slots, k b u q⟩, fun b u q n _ => (hs b (Heap.lt_size q)).trans n, fun b u q _ => ⟨u, k b u q⟩, fun b xs q => old _ _ q, fun b u xs q => old _ _ q, fun b ps q => ⟨#[], by rw [old _ _ q]; simp⟩⟩ fun b u e => ?_
 by_cases hb : b < s.heap.objs.size
 ·rw [hs b hb] at e
  exact (I.hok b u e).stay (fun c v _ q => k c v q) (fun c q => old _ _ q) fun c xs q => old _ _ q
 ·exact new b u (Nat.le_of_not_lt hb) e
end
section
variable {X : Cx} {o : Expr} {to : TE} {apos cpos : Pos}
def ZMP (to : TE) : (σ : St) → Hp → (Addr → PL → Hp → Prop) → Prop := fun σ H R => to σ H fun x H1 => ∃ a m, x = .ref a ∧ H1 a = some (.dK (ZES m)) ∧ R a m H1
theorem ZOC {pins : List (Addr × Obj)} {s : Shared} {σ : St} {H : Hp} {R : Addr → PL → Hp → Prop} (ho : PE X o to) (I : Inv X pins σ H s) (h : ZMP to σ H R)
  (hbase : attributeBase o "items" X.env (eval o X.env) = eval o X.env) (hline : (apos.endLine == cpos.line) = true) :
  wpAny (model X.prog X.w) X.A (eval (.Call (.Attribute o "items" apos) [] [] cpos) X.env) (fun u s1 => ∃ r a m H1, u = .ref r ∧ s1.heap.objs.size = r + 1 ∧ s1.heap.IsItemsView r a ∧ H1 a = some (.dK (ZES m)) ∧ Inv X pins σ H1 s1 ∧ R a m H1) X.xe s := by
 refine wpAny_Call_method0_late hbase hline (thn (ho pins s σ H _ I h) fun v s1 ⟨x, H1, I1, r1, a, m, ex, hd, q1⟩ => ?_)
 subst ex
 cases r1
 obtain ⟨z, hsm, vs, rel, dd⟩ := ZLo I1.hok hd
 refine ⟨"dict", "dict.items", PySem.F.plainAttrs_dict, PySem.F.slot_dict_items, PySem.F.type_dict_items, dd.typeIs, ZM2 I1 (ZEu.k (k := Sum.inl 0) hd), ?_⟩
 refine Calls.callWith_builtin rfl (PySem.evalArgs_none ?_)
 refine call_meetsIn PySem.F.slot_dict_items dd.typeIs PySem.F.entry_dict_items (PySem.F.args_dict_items_1 _) (meets_dict_items (ZEX X.prog X.w) a hsm) ⟨⟨vs, dd⟩, ?_⟩
 exact ⟨_, a, m, H1, rfl, by rw [Heap.size_push], ⟨_, Heap.get?_push_size _ rfl, rfl, rfl⟩, hd, I1.kept (t' := s1.toks) fun b o e => Heap.get?_push_of_some _ e, q1⟩
end
theorem ZPO {m : PL} {vs : List (Key × Value)} (rel : KV (ZES m) vs) : vs.length = m.length ∧ ∀ (j : Nat) (k : Key) (x : Value), vs[j]? = some (k, x) → ∃ (p : Int × Int) (t : Tok), m[j]? = some p ∧ k = Sum.inl p.1 ∧ x = Value.int p.2 t := by
 have hl : vs.length = m.length := by
  have := rel.length
  simp [ZES] at this
  omega
 refine ⟨hl, ?_⟩
 induction m generalizing vs with
 | nil => intro j k x e; cases rel; simp at e
 | cons p m ih =>
  cases rel with
  | cons h t =>
   rename_i q vs'
   intro j k x e
   cases j with
   | zero =>
    simp at e
    obtain ⟨h1, h2⟩ := h
    rw [e] at h1 h2
    obtain ⟨t', rfl⟩ := h2
    exact ⟨p, t', rfl, h1.symm, rfl⟩
   | succ j =>
    obtain ⟨p', t', g1, g2, g3⟩ := ih t (by simpa using hl) j k x (by simpa using e)
    exact ⟨p', t', by simpa using g1, g2, g3⟩
theorem ZIH {α β : Type} {F : α → β → Prop} : ∀ {l₁ : List α} {l₂ : List β}, l₁.length = l₂.length → (∀ (i : Nat) a b, l₁[i]? = some a → l₂[i]? = some b → F a b) → Paired F l₁ l₂
 | [], [], _, _ => .nil
 | [], _ :: _, h, _ => by simp at h
 | _ :: _, [], h, _ => by simp at h
 | a :: l₁, b :: l₂, h, f => .cons (f 0 a b rfl rfl) (ZIH (by simpa using h) fun i x y e1 e2 => f (i + 1) x y (by simpa using e1) (by simpa using e2))
theorem ZTK {P : Program} {w : World} {m : PL} {vs : List (Key × Value)} {lo : Addr} {h : Heap} {as : List Addr} (rel : KV (ZES m) vs) (hl : as.length = vs.length) (g : KdxG (ZEX P w) vs lo h as) (a : Addr) (hna : ∀ b ∈ as, b ≠ a) :
  ZFx h a (as.map Value.ref) m := by
 obtain ⟨hvl, hv⟩ := ZPO rel
 refine ZIH (by rw [List.length_map]; omega) fun i v p e1 e2 => ?_
 rw [List.getElem?_map] at e1
 cases hb : as[i]? with
 | none => rw [hb] at e1; cases e1
 | some b =>
  rw [hb] at e1
  cases e1
  obtain ⟨key, k, x, g1, g2, g3⟩ := g.pairs i b hb
  obtain ⟨p', t', e3, e4, e5⟩ := hv i k x g1
  rw [e2] at e3
  cases e3
  subst e4 e5
  rcases ZEh (k := Sum.inl p.1) (v := key) g2 with ⟨y, t, z1, z2⟩ | ⟨y, t, z1, z2⟩
  ·cases z1
   subst z2
   exact ⟨b, t, t', rfl, hna b (List.mem_of_getElem? hb), _, g3, rfl, _, rfl⟩
  ·cases z1
theorem ZLH {P : Program} {w : World} {h : Heap} {a b : Addr} {p : Int × Int} {Hn : Hp} (e : ZIG h a (.ref b) p) : ZER P w Hn h b (.tup [.int p.1, .int p.2]) := by
 obtain ⟨b', t, u, e1, _, ht⟩ := e
 cases e1
 exact ⟨⟨by show 2 ≤ sizeLine; decide, fun z => absurd rfl (z p.1)⟩, [.int p.1 t, .int p.2 u], .cons ⟨t, rfl⟩ (.cons ⟨u, rfl⟩ .nil), ht⟩
def ZIm (H : Hp) (as : List Addr) (ps : PL) (l : Addr) (vs : List V) (n : Nat) : Hp := fun b => if b < n then H b else if b = l then some (.lst vs) else ((as.zip ps).lookup b).map fun p => .tup [.int p.1, .int p.2]
theorem ZOD {as : List Addr} {ps : PL} (hn : as.Nodup) : ∀ {i : Nat} {b : Addr} {p : Int × Int}, as[i]? = some b → ps[i]? = some p → (as.zip ps).lookup b = some p := by
 induction as generalizing ps with
 | nil => intro i b p e; simp at e
 | cons a as ih =>
  intro i b p e1 e2
  rw [List.nodup_cons] at hn
  cases ps with
  | nil => simp at e2
  | cons q ps =>
   cases i with
   | zero => simp at e1 e2; subst e1 e2; simp [List.lookup]
   | succ i =>
    have e1 : as[i]? = some b := by simpa using e1
    have hb : b ≠ a := fun z => hn.1 (z ▸ List.mem_of_getElem? e1)
    have hb' : (b == a) = false := by simpa using hb
    have := ih hn.2 (ps := ps) e1 (by simpa using e2)
    simpa [List.lookup, hb'] using this
theorem ZKo {as : List Addr} {ps : PL} : ∀ {b : Addr} {p : Int × Int}, (as.zip ps).lookup b = some p → ∃ i : Nat, as[i]? = some b ∧ ps[i]? = some p := by
 induction as generalizing ps with
 | nil => intro b p e; simp [List.lookup] at e
 | cons a as ih =>
  intro b p e
  cases ps with
  | nil => simp [List.lookup] at e
  | cons q ps =>
   by_cases hb : b = a
   ·subst hb
    simp [List.lookup] at e
    subst e
    exact ⟨0, rfl, rfl⟩
   ·have hb' : (b == a) = false := by simpa using hb
    have e : (as.zip ps).lookup b = some p := by simpa [List.lookup, hb'] using e
    obtain ⟨i, h1, h2⟩ := ih e
    exact ⟨i + 1, by simpa using h1, by simpa using h2⟩
theorem ZPP {α : Type} {l : List α} {d : α} {ix : List Nat} (h : ix.Perm (List.range l.length)) : (ix.map fun i => l.getD i d).Perm l := by
 have e : (List.range l.length).map (fun i => l.getD i d) = l := by
  apply List.ext_getElem
  ·simp
  ·intro i h1 h2
   simp at h1 ⊢
   rw [List.getElem?_eq_getElem h1]
   rfl
 have := h.map fun i => l.getD i d
 rw [e] at this
 exact this
def ZIn : Addr → PL → Hp → VK → Prop := fun a m H Q => m.Nodup ∧ m.length < 64 ∧
 ∀ (l : Addr) (vs : List V) (cv : PL) (H' : Hp), H l = none → H' l = some (.lst vs) → ZDt H' vs cv → cv.Perm m → cv.Pairwise (fun p q => ltP p q = true) → ZDn H H' → Q (.ref l) H'
section
variable {X : Cx} {o : Expr} {to : TE} {apos cpos pos p : Pos}
theorem ZMQ {pins : List (Addr × Obj)} {s : Shared} {σ : St} {H : Hp} {Q : VK} {a r : Addr} {m : PL} (hc : X.calm = true) (I : Inv X pins σ H s) (hd : H a = some (.dK (ZES m))) (hr : s.heap.objs.size = r + 1) (hv : s.heap.IsItemsView r a) (h : ZIn a m H Q) :
  wpAny (model X.prog X.w) X.A (call (.builtin "sorted") [.ref r]) (EP X pins σ Q) X.xe s := by
 obtain ⟨hnd, h64, q⟩ := h
 obtain ⟨z, hsm, kvs, rel, dd⟩ := ZLo I.hok hd
 obtain ⟨ep, dd⟩ := dd.dictAt
 obtain ⟨hkl, _⟩ := ZPO rel
 refine Calls.call_function_entry kind_sorted plain_sorted entry_sorted (args_sorted1 _) ?_
 unfold Builtin.«sorted»
 refine wpAny_bind (m := checkCount "sorted" 1 1 _) (wpAny_pure ?_)
 refine wpAny_bind (kdx_collect (A := X.A.in1) (knd := ZEX X.prog X.w) (I.ok.hd hc) hv dd (by rw [sizeLine_eq]; omega) fun h1 tk as hk hl hG => ?_)
 refine wpAny_bind (wpAny_newList ?_ (by rw [List.length_map, sizeLine_eq]; omega))
 have hoL : (h1.push (seqObj "list" (as.map Value.ref).toArray 0)).get? h1.objs.size = some (seqObj "list" (as.map Value.ref).toArray 0) := Heap.get?_push_size _ rfl
 have hT : ZFx (h1.push (seqObj "list" (as.map Value.ref).toArray 0)) h1.objs.size (as.map Value.ref) m := by
  have := ZTK rel hl hG h1.objs.size fun b hb => Nat.ne_of_lt (hG.there hb)
  exact Paired.mapP this fun v p ⟨b, t, u, e, hb, ot, ho, rr⟩ => ⟨b, t, u, e, hb, ot, Heap.get?_push_of_some _ ho, rr⟩
 show wpAny _ _ _ _ _ { s with heap := h1.push (seqObj "list" (as.map Value.ref).toArray 0), toks := tk }
 refine wpAny_bind (wpAny_holding (wpAny_call_entry slot_list_sort ⟨_, hoL, rfl⟩ entry_list_sort (ZKN (s := { s with heap := h1.push (seqObj "list" (as.map Value.ref).toArray 0), toks := tk }) hoL hT hnd (by rw [List.length_map]; omega) fun ix hp hs => ⟨_, rfl, ?_⟩) (args_list_sort _)))
 refine wpAny_pure ⟨_, rfl, ?_⟩
 generalize hout : (ix.map fun i => (as.map Value.ref).getD i Value.none).toArray = out
 obtain ⟨e, he⟩ := sortedHeap_at (out := out) hoL
 generalize hh2 : sortedHeap (h1.push (seqObj "list" (as.map Value.ref).toArray 0)) h1.objs.size (as.map Value.ref) out = h2 at he
 have hsz1 : s.heap.objs.size ≤ h1.objs.size := by
  obtain ⟨ov, hov, _⟩ := id hv
  rw [hr]
  exact Heap.lt_size (hk r ov hov)
 have hkeep : ∀ b u, s.heap.get? b = some u → h2.get? b = some u := fun b u e => by
  rw [← hh2]
  have hb := Heap.lt_size (hk _ _ e)
  exact (sortedHeap_old (Nat.ne_of_lt hb) (by rw [Heap.size_push]; exact Nat.lt_succ_of_lt hb)).trans (Heap.get?_push_of_some _ (hk _ _ e))
 have hasn : as.Nodup := List.nodup_iff_pairwise_ne.mpr (hG.rise.imp fun hab e => Nat.ne_of_lt hab e)
 have hlm : as.length = m.length := by omega
 have hout2 : out.toList = (ix.map fun i => as.getD i 0).map Value.ref := by
  rw [← hout, List.map_map]
  refine List.map_congr_left fun i hi => ?_
  have hi : i < as.length := by
   have := List.mem_range.mp (hp.mem_iff.mp hi)
   simpa using this
  show (as.map Value.ref).getD i Value.none = Value.ref (as.getD i 0)
  simp [hi]
 have hTm : ∀ (i : Nat) b p, as[i]? = some b → m[i]? = some p → ZIG h2 0 (.ref b) p ∨ ZIG h2 h1.objs.size (.ref b) p := fun i b p e1 e2 => by
  have hi : i < m.length := (List.getElem?_eq_some_iff.mp e2).1
  have g := hT.get (i := i) hi
  have e3 : (as.map Value.ref).getD i Value.none = .ref b := by simp [e1]
  have e4 : m.getD i (0, 0) = p := by simp [e2]
  rw [e3, e4] at g
  obtain ⟨b', t, u, ee, hb, ot, ho, rr⟩ := g
  refine .inr ⟨b', t, u, ee, hb, ot, ?_, rr⟩
  rw [← hh2]
  exact (sortedHeap_old hb (Heap.lt_size ho)).trans ho
 have hat : ∀ (i : Nat) b p, as[i]? = some b → m[i]? = some p → ZIm H as m h1.objs.size ((ix.map fun i => as.getD i 0).map V.ref) s.heap.objs.size b = some (.tup [.int p.1, .int p.2]) := fun i b p e1 e2 => by
  have hbl := hG.above b (List.mem_of_getElem? e1)
  have hbt := hG.there (List.mem_of_getElem? e1)
  unfold ZIm
  rw [if_neg (Nat.not_lt.mpr (Nat.le_of_lt hbl)), if_neg (Nat.ne_of_lt hbt), ZOD hasn e1 e2]
  rfl
 have hil : ZIm H as m h1.objs.size ((ix.map fun i => as.getD i 0).map V.ref) s.heap.objs.size h1.objs.size = some (.lst ((ix.map fun i => as.getD i 0).map V.ref)) := by
  unfold ZIm
  rw [if_neg (Nat.not_lt.mpr hsz1), if_pos rfl]
 have hixl : ix.length = as.length := by have := hp.length_eq; simpa using this
 have hSame : ZDn H (ZIm H as m h1.objs.size ((ix.map fun i => as.getD i 0).map V.ref) s.heap.objs.size) := fun b u e => by
  unfold ZIm
  rw [if_pos (I.old e)]
  exact e
 refine ⟨.ref h1.objs.size, _, I.many (t' := tk) (h' := h2) hkeep (fun b hb => by unfold ZIm; rw [if_pos hb]) (fun b ob hb e => ?_), rfl, q h1.objs.size _ (ix.map fun i => m.getD i (0, 0)) _ (I.hok.fresh hsz1) hil ?_ (ZPP (by rw [← hlm]; simpa using hp)) hs hSame⟩
 ·by_cases hbl : b = h1.objs.size
  ·subst hbl
   rw [hil] at e
   cases e
   refine ⟨by rw [List.length_map, List.length_map, hixl, sizeLine_eq]; omega, out.toList, _, ?_, he⟩
   rw [hout2]
   clear hout2 hil hat hSame
   generalize (ix.map fun i => as.getD i 0) = bs
   induction bs with
   | nil => exact .nil
   | cons b bs ih => exact .cons rfl ih
  ·unfold ZIm at e
   rw [if_neg (Nat.not_lt.mpr hb), if_neg hbl] at e
   cases hlk : (as.zip m).lookup b with
   | none => rw [hlk] at e; cases e
   | some p =>
    rw [hlk] at e
    cases e
    obtain ⟨i, e1, e2⟩ := ZKo hlk
    rcases hTm i b p e1 e2 with g | g
    ·exact ZLH g
    ·exact ZLH g
 ·refine ZIH (by simp) fun i v p e1 e2 => ?_
  rw [List.getElem?_map, List.getElem?_map] at e1
  rw [List.getElem?_map] at e2
  cases hi : ix[i]? with
  | none => rw [hi] at e1; cases e1
  | some j =>
   rw [hi] at e1 e2
   cases e1
   cases e2
   have hj : j < as.length := by
    have := List.mem_range.mp (hp.mem_iff.mp (List.mem_of_getElem? hi))
    simpa using this
   have hj2 : j < m.length := by omega
   refine ⟨as.getD j 0, rfl, hat j _ _ ?_ ?_⟩
   ·simp [hj]
   ·simp [hj2]
def ZLI (to : TE) : TE := fun σ H Q => ZMP to σ H fun a m H1 => ZIn a m H1 Q
theorem ZM5 (hc : X.calm = true) (hg : Gl X "sorted") (hm : X.mg "sorted" = none) (ho : QE X o to)
  (hbase : attributeBase o "items" X.env (eval o X.env) = eval o X.env := by rfl) (hline : (apos.endLine == cpos.line) = true := by rfl) :
  QE X (.Call (.Name "sorted" p) [.Call (.Attribute o "items" apos) [] [] cpos] [] pos) (ZLI to) := by
 refine ⟨?_⟩
 intro pins s σ H Q I h
 refine wpAny_Call_Name_kw (ZGm I hg hm ZLB ?_ (by decide) (by decide))
 refine PyProof.Rows.callWith_builtin1 ?_ rfl rfl
 show wpAny _ _ (spliced ((false, eval (.Call (.Attribute o "items" apos) [] [] cpos) X.env) :: backTo pos (starEach [] X.env))) _ _ s
 refine Calls.spliced_cons (thn (ZOC ho.h I h hbase hline) fun u s1 ⟨r, a, m, H1, eu, hsz, hv, hd, I1, q⟩ => ?_)
 subst eu
 refine Calls.spliced_nil ?_
 exact ZMQ hc I1 hd hsz hv q
end
section
variable {σ : St} {H : Hp} {Q : VK} {to : TE}
def ZPQ (x : V) (H : Hp) (Q : VK) : Prop := ∃ a m, x = .ref a ∧ H a = some (.dK (ZES m)) ∧ ZIn a m H Q
theorem ZMR (h : to σ H fun x H1 => ZPQ x H1 Q) : ZLI to σ H Q := h
theorem ZTL {cv : PL} (h : cv.Pairwise fun p q => ltP p q = true) (hn : (cv.map (·.1)).Nodup) : Asc cv := by
 rw [List.nodup_iff_pairwise_ne, List.pairwise_map] at hn
 exact (h.and hn).imp fun ⟨a, b⟩ => by
  have := ZGb.mp a
  omega
theorem ZLa {m : PL} (h : (m.map (·.1)).Nodup) : m.Nodup := by
 rw [List.nodup_iff_pairwise_ne, List.pairwise_map] at h
 exact List.nodup_iff_pairwise_ne.mpr (h.imp fun hab e => hab (by rw [e]))
theorem ZM6 {p : Addr} {m : PL} (h1 : H p = some (.dK (ZES m))) (hn : (m.map (·.1)).Nodup) (hz : m.length < 64)
  (h : ∀ l H2 cv, H l = none → PrL H2 l cv → ZKn m cv → cv.length = m.length → ZDn H H2 → Q (.ref l) H2) : ZPQ (.ref p) H Q := by
 refine ⟨p, m, rfl, h1, ZLa hn, hz, fun l vs cv H2 n2 f2 hP hperm hpw S2 => h l H2 cv n2 ⟨vs, f2, hP⟩ ⟨?_, fun t x => ?_⟩ hperm.length_eq S2⟩
 ·exact ZTL hpw ((hperm.map (·.1)).nodup_iff.mpr hn)
 ·rw [hperm.mem_iff, ZFE hn]
end
def SIt (b : Bool) (h : Heap) (i l : Addr) (k : Nat) : Prop := if b then h.IsListIter i l k else h.IsTupleIter i l k
def SOb (b : Bool) (h : Heap) (l : Addr) (xs : Array Value) : Prop := if b then h.IsList l xs else h.IsTuple l xs
theorem SIt.at {b : Bool} {h h' : Heap} {i l : Addr} {k : Nat} (x : SIt b h i l k) (e : ∀ o, h.get? i = some o → h'.get? i = some o) : SIt b h' i l k := by
 cases b with
 | true => obtain ⟨o, ho, r⟩ := (show h.IsListIter i l k from x); exact ⟨o, e _ ho, r⟩
 | false => obtain ⟨o, ho, r⟩ := (show h.IsTupleIter i l k from x); exact ⟨o, e _ ho, r⟩
theorem SOb.at {b : Bool} {h h' : Heap} {l : Addr} {xs : Array Value} (x : SOb b h l xs) (e : ∀ o, h.get? l = some o → h'.get? l = some o) : SOb b h' l xs := by
 cases b with
 | true => obtain ⟨o, ho, r⟩ := (show h.IsList l xs from x); exact ⟨o, e _ ho, r⟩
 | false => obtain ⟨o, ho, r⟩ := (show h.IsTuple l xs from x); exact ⟨o, e _ ho, r⟩
theorem SIt.lt {b : Bool} {h : Heap} {i l : Addr} {k : Nat} (x : SIt b h i l k) : i < h.objs.size := by
 cases b with
 | true => obtain ⟨o, ho, r⟩ := (show h.IsListIter i l k from x); exact Heap.lt_size ho
 | false => obtain ⟨o, ho, r⟩ := (show h.IsTupleIter i l k from x); exact Heap.lt_size ho
theorem SOb.lt {b : Bool} {h : Heap} {l : Addr} {xs : Array Value} (x : SOb b h l xs) : l < h.objs.size := by
 cases b with
 | true => obtain ⟨o, ho, r⟩ := (show h.IsList l xs from x); exact Heap.lt_size ho
 | false => obtain ⟨o, ho, r⟩ := (show h.IsTuple l xs from x); exact Heap.lt_size ho
section
variable {prog : Program} {w : World} {A : Around} {E : Value → Shared → Prop} {s : Shared}
theorem ZHf {b : Bool} {i l : Addr} {k : Nat} {xs : Array Value} {x : Value} {Q : Value → Shared → Prop} (hit : SIt b s.heap i l k) (hl : SOb b s.heap l xs) (hx : xs[k]? = some x)
  (hQ : ∀ h', SIt b h' i l (k + 1) → Heap.SameBut i s.heap h' → Q x { s with heap := h' }) : wpAny (model prog w) A (Builtin.SmallTypes.nextOf (.ref i)) Q E s := by
 cases b with
 | true => exact wpAny_nextOf_list_item (show s.heap.IsListIter i l k from hit) (show s.heap.IsList l xs from hl) hx hQ
 | false =>
  have hit' : s.heap.IsTupleIter i l k := hit
  obtain ⟨o, ho, hc, hd⟩ := id hit'
  obtain ⟨ol, hol, _, nl, hdl⟩ := (show s.heap.IsTuple l xs from hl)
  have hT : s.TypeIs (.ref i) "tuple_iterator" := ⟨o, ho, hc⟩
  unfold Builtin.SmallTypes.nextOf
  refine wpAny_bind (wpAny_callSpecial?_slot (name := Str.ofString "__next__") hT slot_tupleiter_next (wpAny_call_entry slot_tupleiter_next hT entry_tupleiter_next ?_ (args_tupleiter_next _)))
  show wpAny _ _ (field (.ref i) 0 >>= _) _ _ s
  refine wpAny_bind (wpAny_field ho hd (x := .ref l) rfl ?_)
  show wpAny _ _ (if (Value.ref l == Value.none) = true then _ else _) _ _ s
  rw [if_neg (show ¬ ((Value.ref l == Value.none) = true) from Bool.false_ne_true)]
  show wpAny _ _ (field (.ref i) 1 >>= _) _ _ s
  refine wpAny_bind (wpAny_field ho hd (x := .int k 0) rfl ?_)
  show wpAny _ _ (seqItems? (.ref l) >>= _) _ _ s
  refine wpAny_bind (wpAny_seqItems hol hdl ?_)
  simp only [Int.toNat_natCast, hx]
  refine wpAny_bind (wpAny_setField ho hd (by simp) (wpAny_pure ⟨x, rfl, wpAny_pure (hQ _ ?_ (Heap.SameBut.update ..))⟩))
  exact ⟨_, Heap.get?_update_self _ ho (Obj.isFreed_of_fields (Obj.data_mapFields hd _)), (Obj.cls_mapFields ..).trans hc, by rw [Obj.data_mapFields hd]; simp [rawInt]⟩
theorem ZKO {b : Bool} {i l : Addr} {k : Nat} {xs : Array Value} {Q : Value → Shared → Prop} (hh : A.handled = none) (hit : SIt b s.heap i l k) (hl : SOb b s.heap l xs) (hx : xs[k]? = none)
  (hE : ∀ h' e, Heap.ExtBut i s.heap h' → (∃ o, h'.get? e = some o ∧ o.cls = .type "StopIteration") → E (.ref e) { s with heap := h' }) : wpAny (model prog w) A (Builtin.SmallTypes.nextOf (.ref i)) Q E s := by
 cases b with
 | true => exact wpAny_nextOf_list_end hh (show s.heap.IsListIter i l k from hit) (show s.heap.IsList l xs from hl) hx hE
 | false =>
  have hit' : s.heap.IsTupleIter i l k := hit
  obtain ⟨o, ho, hc, hd⟩ := id hit'
  obtain ⟨ol, hol, _, nl, hdl⟩ := (show s.heap.IsTuple l xs from hl)
  have hT : s.TypeIs (.ref i) "tuple_iterator" := ⟨o, ho, hc⟩
  unfold Builtin.SmallTypes.nextOf
  refine wpAny_bind (wpAny_callSpecial?_slot (name := Str.ofString "__next__") hT slot_tupleiter_next (wpAny_call_entry slot_tupleiter_next hT entry_tupleiter_next ?_ (args_tupleiter_next _)))
  show wpAny _ _ (field (.ref i) 0 >>= _) _ _ s
  refine wpAny_bind (wpAny_field ho hd (x := .ref l) rfl ?_)
  show wpAny _ _ (if (Value.ref l == Value.none) = true then _ else _) _ _ s
  rw [if_neg (show ¬ ((Value.ref l == Value.none) = true) from Bool.false_ne_true)]
  show wpAny _ _ (field (.ref i) 1 >>= _) _ _ s
  refine wpAny_bind (wpAny_field ho hd (x := .int k 0) rfl ?_)
  show wpAny _ _ (seqItems? (.ref l) >>= _) _ _ s
  refine wpAny_bind (wpAny_seqItems hol hdl ?_)
  simp only [Int.toNat_natCast, hx]
  refine wpAny_bind (wpAny_rule (wpAny_bind (wpAny_setField ho hd (by simp) ?_)))
  show wpAny _ _ (newExc (.type "StopIteration") [] >>= _) _ _ _
  refine wpAny_bind ?_
  simp only [newExc, newTuple]
  refine wpAny_bind (wpAny_newObj_type ?_ (by size_fits))
  refine wpAny_bind (m := firstArgMember _ _) (wpAny_of_eq (a := Value.none) (by first | rfl | (simp only [firstArgMember]; rfl)) ?_)
  refine wpAny_newObj_type ?_ (by size_fits)
  simp only [raiseNew]
  refine wpAny_bind (wpAny_handled ?_)
  first | rw [show A.in1.handled = none from hh] | rw [hh]
  refine wpAny_bind (wpAny_pure (wpAny_throw ?_))
  exact hE _ _ (((Heap.SameBut.update ..).extBut.push _).push _) ⟨_, Heap.get?_push_size _ rfl, rfl⟩
structure Zp (b1 b2 : Bool) (h : Heap) (z TI TO i1 i2 l1 l2 : Addr) (k : Nat) (xs ys : Array Value) (f0 : Value) : Prop where
 hz : IsZip h z TI TO f0
 hTI : IsPair h TI (.ref i1) (.ref i2)
 hTO : ∃ a b, IsPair h TO a b
 h1 : SIt b1 h i1 l1 k
 h2 : SIt b2 h i2 l2 k
 hl1 : SOb b1 h l1 xs
 hl2 : SOb b2 h l2 ys
theorem ZRC {b1 b2 : Bool} {z TI TO i1 i2 l1 l2 : Addr} {k : Nat} {xs ys : Array Value} {x y : Value} {Q : Option Value → Shared → Prop} (D : ZipApart z TI TO i1 i2 l1 l2) (Z : Zp b1 b2 s.heap z TI TO i1 i2 l1 l2 k xs ys .none)
  (hx : xs[k]? = some x) (hy : ys[k]? = some y)
  (hQ : ∀ h', Zp b1 b2 h' z TI TO i1 i2 l1 l2 (k + 1) xs ys (rawInt s.heap.objs.size) → IsPair h' s.heap.objs.size x y →
   (∀ c o, c ≠ z → c ≠ TO → c ≠ i1 → c ≠ i2 → s.heap.get? c = some o → h'.get? c = some o) → Q (some (.ref s.heap.objs.size)) { s with heap := h' }) :
  wpAny (model prog w) A (pyNext (.ref z)) Q E s := by
 obtain ⟨hz, hTI, ⟨a, b, hTO⟩, h1, h2, hl1, hl2⟩ := Z
 have hT : s.TypeIs (.ref z) "zip" := ⟨_, hz, rfl⟩
 unfold pyNext
 refine wpAny_bind (wpAny_attempt (wpAny_callSpecial?_slot (name := Str.ofString "__next__") hT F.slot_zip_next (wpAny_call_entry F.slot_zip_next hT F.entry_zip_next ?_ (F.args_zip_next_1 _))))
 show wpAny _ _ (field (.ref z) 2 >>= _) _ _ _
 refine wpAny_bind (wpAny_field hz rfl (x := .bool false) rfl ?_)
 show wpAny _ _ (field (.ref z) 3 >>= _) _ _ _
 refine wpAny_bind (wpAny_field hz rfl (x := .ref TI) rfl ?_)
 refine wpAny_bind (wpAny_seqItems hTI rfl ?_)
 show wpAny _ _ (Builtin.SmallTypes.ownedTupleIsFree (.ref z) >>= _) _ _ _
 refine wpAny_bind ?_
 unfold Builtin.SmallTypes.ownedTupleIsFree
 refine wpAny_bind (wpAny_field hz rfl (x := .none) rfl (wpAny_pure ?_))
 simp only [if_true]
 refine wpAny_bind (wpAny_rule ?_)
 refine wpAny_bind (wpAny_field hz rfl (x := .ref TO) rfl ?_)
 refine wpAny_bind (wpAny_setField_rec hz (by simp) fun g1 z1 s1 => ?_)
 replace z1 : IsZip g1 z TI TO .ellipsis := z1
 refine wpAny_bind ?_
 simp only [List.zipIdx_cons, List.zipIdx_nil, List.forIn_cons, List.forIn_nil]
 refine wpAny_bind (wpAny_bind (wpAny_onRaise ?_))
 show wpAny _ _ (Builtin.SmallTypes.nextOf (.ref i1) >>= _) _ _ _
 refine wpAny_bind (ZHf (h1.at fun o e => s1.extBut _ _ D.i1z e) (hl1.at fun o e => s1.extBut _ _ D.l1z e) hx fun g2 j1 s2 => wpAny_pure ?_)
 have tO2 : IsPair g2 TO a b := s2.extBut _ _ D.TOi1 (s1.extBut _ _ D.TOz hTO)
 refine wpAny_bind (wpAny_seqItems tO2 rfl ?_)
 refine wpAny_bind (wpAny_updateSeq_pair tO2 fun g3 tO3 s3 => ?_)
 replace tO3 : IsPair g3 TO x b := tO3
 refine wpAny_bind (wpAny_letGo (wpAny_pure ?_))
 refine wpAny_bind (wpAny_bind (wpAny_onRaise ?_))
 show wpAny _ _ (Builtin.SmallTypes.nextOf (.ref i2) >>= _) _ _ _
 refine wpAny_bind (ZHf (((h2.at fun o e => s1.extBut _ _ D.i2z e).at fun o e => s2.extBut _ _ D.i12.symm e).at fun o e => s3.extBut _ _ D.TOi2.symm e)
  (((hl2.at fun o e => s1.extBut _ _ D.l2z e).at fun o e => s2.extBut _ _ D.l2i1 e).at fun o e => s3.extBut _ _ D.l2TO e) hy fun g4 j2 s4 => wpAny_pure ?_)
 have tO4 : IsPair g4 TO x b := s4.extBut _ _ D.TOi2 tO3
 refine wpAny_bind (wpAny_seqItems tO4 rfl ?_)
 refine wpAny_bind (wpAny_updateSeq_pair tO4 fun g5 tO5 s5 => ?_)
 replace tO5 : IsPair g5 TO x y := tO5
 refine wpAny_bind (wpAny_letGo (wpAny_pure (wpAny_pure ?_)))
 refine wpAny_bind (wpAny_seqItems tO5 rfl ?_)
 refine wpAny_bind (wpAny_newTuple ?_)
 have hsz : g5.objs.size = s.heap.objs.size := by rw [s5.1, s4.1, s3.1, s2.1, s1.1]
 have z5 : IsZip g5 z TI TO .ellipsis := s5.extBut _ _ D.TOz.symm (s4.extBut _ _ D.i2z.symm (s3.extBut _ _ D.TOz.symm (s2.extBut _ _ D.i1z.symm z1)))
 have k5 : ∀ c o, c ≠ z → c ≠ TO → c ≠ i1 → c ≠ i2 → s.heap.get? c = some o → g5.get? c = some o := fun c o c1 c2 c3 c4 e =>
  s5.extBut _ _ c2 (s4.extBut _ _ c4 (s3.extBut _ _ c2 (s2.extBut _ _ c3 (s1.extBut _ _ c1 e))))
 have j15 : SIt b1 g5 i1 l1 (k + 1) := ((j1.at fun o e => s3.extBut _ _ D.TOi1.symm e).at fun o e => s4.extBut _ _ D.i12 e).at fun o e => s5.extBut _ _ D.TOi1.symm e
 have j25 : SIt b2 g5 i2 l2 (k + 1) := j2.at fun o e => s5.extBut _ _ D.TOi2.symm e
 have tI5 : IsPair g5 TI (.ref i1) (.ref i2) := k5 _ _ D.TIz D.TITO D.TIi1 D.TIi2 hTI
 have q15 : SOb b1 g5 l1 xs := hl1.at fun o e => k5 _ o D.l1z D.l1TO D.l1i1 D.l1i2 e
 have q25 : SOb b2 g5 l2 ys := hl2.at fun o e => k5 _ o D.l2z D.l2TO D.l2i1 D.l2i2 e
 have hzlt : z < g5.objs.size := Heap.lt_size z5
 show wpAny _ _ (Builtin.SmallTypes.ownedTupleHandOut (.ref z) (.ref g5.objs.size) >>= _) _ _ _
 refine wpAny_bind ?_
 unfold Builtin.SmallTypes.ownedTupleHandOut
 have z6 : IsZip (g5.push { cls := .type "tuple", data := .seq #[x, y] }) z TI TO .ellipsis := Heap.get?_push_of_some _ z5
 refine wpAny_bind (wpAny_setField_rec z6 (by simp) fun g7 z7 s7 => ?_)
 replace z7 : IsZip g7 z TI TO (rawInt g5.objs.size) := z7
 refine wpAny_setField_rec z7 (by simp) fun g8 z8 s8 => ?_
 replace z8 : IsZip g8 z TI TO (rawInt g5.objs.size) := z8
 have up : ∀ c o, c ≠ z → g5.get? c = some o → g8.get? c = some o := fun c o c1 e => s8.extBut _ _ c1 (s7.extBut _ _ c1 (Heap.get?_push_of_some _ e))
 have t8 : IsPair g8 g5.objs.size x y := s8.extBut _ _ (Nat.ne_of_gt hzlt) (s7.extBut _ _ (Nat.ne_of_gt hzlt) (Heap.get?_push_size _ rfl))
 rw [hsz] at z8 t8
 refine wpAny_pure ⟨_, rfl, wpAny_pure ?_⟩
 show Q (some (.ref g5.objs.size)) _
 rw [hsz]
 exact hQ g8 ⟨z8, up _ _ D.TIz tI5, ⟨x, y, up _ _ D.TOz tO5⟩, j15.at fun o e => up _ o D.i1z e, j25.at fun o e => up _ o D.i2z e, q15.at fun o e => up _ o D.l1z e, q25.at fun o e => up _ o D.l2z e⟩ t8 fun c o c1 c2 c3 c4 e => up c o c1 (k5 c o c1 c2 c3 c4 e)
theorem ZTM {b1 b2 : Bool} {z TI TO i1 i2 l1 l2 : Addr} {k : Nat} {xs ys : Array Value} {Q : Option Value → Shared → Prop} (hh : A.handled = none) (D : ZipApart z TI TO i1 i2 l1 l2) (Z : Zp b1 b2 s.heap z TI TO i1 i2 l1 l2 k xs ys .none)
  (hend : xs[k]? = none ∨ ys[k]? = none) (hQ : ∀ h', (∀ c o, c ≠ z → c ≠ TO → c ≠ i1 → c ≠ i2 → s.heap.get? c = some o → h'.get? c = some o) → Q none { s with heap := h' }) : wpAny (model prog w) A (pyNext (.ref z)) Q E s := by
 obtain ⟨hz, hTI, ⟨a, b, hTO⟩, h1, h2, hl1, hl2⟩ := Z
 have hT : s.TypeIs (.ref z) "zip" := ⟨_, hz, rfl⟩
 unfold pyNext
 refine wpAny_bind (wpAny_attempt (wpAny_callSpecial?_slot (name := Str.ofString "__next__") hT F.slot_zip_next (wpAny_call_entry F.slot_zip_next hT F.entry_zip_next ?_ (F.args_zip_next_1 _))))
 have out : ∀ h' e, (∀ c o, c ≠ z → c ≠ TO → c ≠ i1 → c ≠ i2 → s.heap.get? c = some o → h'.get? c = some o) → (∃ o, h'.get? e = some o ∧ o.cls = .type "StopIteration") → wpAny (model prog w) A (do
   if (← isInstance (.ref e) (.type "StopIteration")) = true then pure none else throw (.ref e)) Q E { s with heap := h' } := fun h' e hk ⟨o, ho, hc⟩ => by
  refine wpAny_bind (wpAny_isInstance (T := "StopIteration") (b := true) ⟨o, ho, hc⟩ isSubtype_stop ?_)
  exact wpAny_pure (hQ _ hk)
 show wpAny _ _ (field (.ref z) 2 >>= _) _ _ _
 refine wpAny_bind (wpAny_field hz rfl (x := .bool false) rfl ?_)
 show wpAny _ _ (field (.ref z) 3 >>= _) _ _ _
 refine wpAny_bind (wpAny_field hz rfl (x := .ref TI) rfl ?_)
 refine wpAny_bind (wpAny_seqItems hTI rfl ?_)
 show wpAny _ _ (Builtin.SmallTypes.ownedTupleIsFree (.ref z) >>= _) _ _ _
 refine wpAny_bind ?_
 unfold Builtin.SmallTypes.ownedTupleIsFree
 refine wpAny_bind (wpAny_field hz rfl (x := .none) rfl (wpAny_pure ?_))
 simp only [if_true]
 refine wpAny_bind (wpAny_rule ?_)
 refine wpAny_bind (wpAny_field hz rfl (x := .ref TO) rfl ?_)
 refine wpAny_bind (wpAny_setField_rec hz (by simp) fun g1 z1 s1 => ?_)
 replace z1 : IsZip g1 z TI TO .ellipsis := z1
 refine wpAny_bind ?_
 simp only [List.zipIdx_cons, List.zipIdx_nil, List.forIn_cons, List.forIn_nil]
 refine wpAny_bind (wpAny_bind (wpAny_onRaise ?_))
 show wpAny _ _ (Builtin.SmallTypes.nextOf (.ref i1) >>= _) _ _ _
 cases hx : xs[k]? with
 | none =>
  refine wpAny_bind (ZKO hh (h1.at fun o e => s1.extBut _ _ D.i1z e) (hl1.at fun o e => s1.extBut _ _ D.l1z e) hx fun g2 e s2 he => ?_)
  obtain ⟨oe, hoe, hce⟩ := he
  have z2 : IsZip g2 z TI TO .ellipsis := s2 _ _ D.i1z.symm z1
  have hez : e ≠ z := fun q => by subst q; rw [z2] at hoe; cases hoe; simp at hce
  exact wpAny_setField_rec z2 (by simp) fun g3 _ s3 => out g3 e (fun c o c1 _ c3 _ q => s3.extBut _ _ c1 (s2 _ _ c3 (s1.extBut _ _ c1 q))) ⟨oe, s3.extBut _ _ hez hoe, hce⟩
 | some x =>
  have hy : ys[k]? = none := by rcases hend with h | h; rw [hx] at h; cases h; exact h
  refine wpAny_bind (ZHf (h1.at fun o e => s1.extBut _ _ D.i1z e) (hl1.at fun o e => s1.extBut _ _ D.l1z e) hx fun g2 j1 s2 => wpAny_pure ?_)
  have tO2 : IsPair g2 TO a b := s2.extBut _ _ D.TOi1 (s1.extBut _ _ D.TOz hTO)
  refine wpAny_bind (wpAny_seqItems tO2 rfl ?_)
  refine wpAny_bind (wpAny_updateSeq_pair tO2 fun g3 tO3 s3 => ?_)
  refine wpAny_bind (wpAny_letGo (wpAny_pure ?_))
  refine wpAny_bind (wpAny_bind (wpAny_onRaise ?_))
  show wpAny _ _ (Builtin.SmallTypes.nextOf (.ref i2) >>= _) _ _ _
  refine wpAny_bind (ZKO hh (((h2.at fun o e => s1.extBut _ _ D.i2z e).at fun o e => s2.extBut _ _ D.i12.symm e).at fun o e => s3.extBut _ _ D.TOi2.symm e)
   (((hl2.at fun o e => s1.extBut _ _ D.l2z e).at fun o e => s2.extBut _ _ D.l2i1 e).at fun o e => s3.extBut _ _ D.l2TO e) hy fun g4 e s4 he => ?_)
  obtain ⟨oe, hoe, hce⟩ := he
  have z4 : IsZip g4 z TI TO .ellipsis := s4 _ _ D.i2z.symm (s3.extBut _ _ D.TOz.symm (s2.extBut _ _ D.i1z.symm z1))
  have hez : e ≠ z := fun q => by subst q; rw [z4] at hoe; cases hoe; simp at hce
  exact wpAny_setField_rec z4 (by simp) fun g5 _ s5 => out g5 e (fun c o c1 c2 c3 c4 q => s5.extBut _ _ c1 (s4 _ _ c4 (s3.extBut _ _ c2 (s2.extBut _ _ c3 (s1.extBut _ _ c1 q))))) ⟨oe, s5.extBut _ _ hez hoe, hce⟩
end
section
variable {X : Cx} {pins : List (Addr × Obj)} {σ : St} {H H' : Hp} {s : Shared} {h' : Heap}
theorem Inv.turnNew {t' : Nat} {fp : List Addr} (I : Inv X pins σ H s) (hf : ∀ b ∈ fp, ZFD X pins H b) (k : ∀ b o, b ∉ fp → s.heap.get? b = some o → h'.get? b = some o) (hs : ∀ b, b < s.heap.objs.size → H' b = H b)
  (new : ∀ b o, s.heap.objs.size ≤ b → H' b = some o → ZER X.prog X.w H' h' b o) : Inv X pins σ H' { s with heap := h', toks := t' } := by
 have old : ∀ b o, H b = some o → H' b = some o := fun b o e => (hs b (I.old e)).trans e
 have nfp : ∀ b u, H b = some u → b ∉ fp := fun b u e z => by rw [(hf b z).1] at e; cases e
 refine I.step (g' := s.gens) (d' := s.drawn) (ch := fp) (fun b hb => ?_) (fun b o _ _ hc e _ => k b o hc e) (fun b o _ _ hc e _ => ⟨o.slots, k b o hc e⟩) (fun b o _ e n => (hs b (Heap.lt_size e)).trans n)
  (fun b o hc e => ⟨o, k b o hc e⟩) (fun b xs e => old _ _ e) (fun b o xs e => old _ _ e) (fun b ps e => ⟨#[], by rw [old _ _ e]; simp⟩) (fun m hm => ?_) (fun b u e => ?_) I.bare
 ·obtain ⟨f0, f1, f2, f3, f4, f5⟩ := hf b hb
  exact ⟨f3, f1, f4, f5⟩
 ·obtain ⟨o, es, ep, ho, r⟩ := hm
  exact ⟨o, es, ep, k _ o (fun z => (hf _ z).2.1 rfl) ho, r⟩
 ·by_cases hb : b < s.heap.objs.size
  ·rw [hs b hb] at e
   refine (I.hok b u e).stay (fun c v hc q => k c v ?_ q) (fun c q => old _ _ q) fun c xs q => old _ _ q
   rcases hc with z | z
   ·rw [z]; exact nfp b u e
   ·exact nfp c _ z
  ·exact new b u (Nat.le_of_not_lt hb) e
end
def SqB (b : Bool) (K : W.Frag) (H : Hp) (a : Addr) (xs : List V) : Prop := if b then SqL K H a xs else SqT K H a xs
theorem SqB.ofL {K : W.Frag} {H : Hp} {a : Addr} {xs : List V} (h : H a = some (.lst xs)) : SqB true K H a xs := SqL.of h
theorem SqB.ofT {K : W.Frag} {H : Hp} {a : Addr} {xs : List V} (h : H a = some (.tup xs)) : SqB false K H a xs := SqT.of h
theorem Inv.sqB {X : Cx} {pins : List (Addr × Obj)} {σ : St} {H : Hp} {s : Shared} {b : Bool} {a : Addr} {xs : List V} (I : Inv X pins σ H s) (h : SqB b X.K H a xs) : ∃ its : List Value, ZD0 xs its ∧ SOb b s.heap a its.toArray ∧ xs.length ≤ sizeLine := by
 cases b with
 | true =>
  obtain ⟨its, rv, p, hz⟩ := I.list h
  exact ⟨its, rv, p.isList, hz⟩
 | false =>
  obtain ⟨its, rv, p, hz⟩ := I.tuple h
  exact ⟨its, rv, p, hz⟩
theorem Inv.sqB_inj {X : Cx} {pins : List (Addr × Obj)} {σ : St} {H : Hp} {s : Shared} {b : Bool} {a : Addr} {xs ys : List V} (I : Inv X pins σ H s) (h : SqB b X.K H a xs) (g : SqB b X.K H a ys) : xs = ys := by
 cases b with
 | true => exact I.list_inj h g
 | false => exact I.tuple_inj h g
def Itz (K : W.Frag) (b1 : Bool) (p1 : Addr) (b2 : Bool) (p2 : Addr) : It :=
 ⟨fun i H => ∃ xs ys, SqB b1 K H p1 xs ∧ SqB b2 K H p2 ys ∧ i < xs.length ∧ i < ys.length,
  fun i H x H' => ∃ T a b, H T = none ∧ x = .ref T ∧ H' = upd H T (.tup [a, b]) ∧ (∀ xs, SqB b1 K H p1 xs → xs[i]? = some a) ∧ ∀ ys, SqB b2 K H p2 ys → ys[i]? = some b,
  fun i H => ∃ xs ys, SqB b1 K H p1 xs ∧ SqB b2 K H p2 ys ∧ (xs.length ≤ i ∨ ys.length ≤ i)⟩
def Zo (b1 b2 : Bool) (z TI TO i1 i2 l1 l2 : Addr) (i : Nat) (h : Heap) : Prop := IsZip h z TI TO .none ∧ IsPair h TI (.ref i1) (.ref i2) ∧ (∃ a b, IsPair h TO a b) ∧ SIt b1 h i1 l1 i ∧ SIt b2 h i2 l2 i
theorem ZRD {P : Program} {w : World} {K : W.Frag} {es : List Expr} {kk : Nat} {pos : Pos} (b1 b2 : Bool) (z TI TO i1 i2 l1 l2 : Addr) (D : ZipApart z TI TO i1 i2 l1 l2) :
  ZLu P w K (.Tuple es kk pos) (Itz K b1 l1 b2 l2) [z, TI, TO, i1, i2] z (Zo b1 b2 z TI TO i1 i2 l1 l2) where
 mem := by simp
 obj := fun i h st b hb => by
  obtain ⟨hz, hTI, ⟨x, y, hTO⟩, h1, h2⟩ := st
  have si : ∀ {b : Bool} {c l : Addr}, SIt b h c l i → ∃ o, h.get? c = some o ∧ ∀ v, o.data ≠ .cell v := fun {b c l} q => by
   cases b with
   | true => obtain ⟨o, e, c, d⟩ := (show h.IsListIter _ _ _ from q); exact ⟨o, e, fun v z => by rw [d] at z; cases z⟩
   | false => obtain ⟨o, e, c, d⟩ := (show h.IsTupleIter _ _ _ from q); exact ⟨o, e, fun v z => by rw [d] at z; cases z⟩
  simp only [List.mem_cons, List.not_mem_nil, or_false] at hb
  rcases hb with rfl | rfl | rfl | rfl | rfl
  ·exact ⟨_, hz, fun v q => by cases q⟩
  ·exact ⟨_, hTI, fun v q => by cases q⟩
  ·exact ⟨_, hTO, fun v q => by cases q⟩
  ·exact si h1
  ·exact si h2
 keep := fun i h h' st k => by
  obtain ⟨hz, hTI, ⟨x, y, hTO⟩, h1, h2⟩ := st
  exact ⟨k z (by simp) _ hz, k TI (by simp) _ hTI, ⟨x, y, k TO (by simp) _ hTO⟩, h1.at (k i1 (by simp)), h2.at (k i2 (by simp))⟩
 item := by
  intro X hP hw hK hc i pins s σ H E I hf st hg
  subst hP hw hK
  obtain ⟨xs, ys, q1, q2, hi1, hi2⟩ := hg
  obtain ⟨hz, hTI, hTO, h1, h2⟩ := st
  obtain ⟨us, r1, o1, _⟩ := I.sqB q1
  obtain ⟨ws, r2, o2, _⟩ := I.sqB q2
  obtain ⟨u, hu, ru⟩ := r1.get (List.getElem?_eq_getElem hi1)
  obtain ⟨v, hv, rv⟩ := r2.get (List.getElem?_eq_getElem hi2)
  have Z : Zp b1 b2 s.heap z TI TO i1 i2 l1 l2 i us.toArray ws.toArray .none := ⟨hz, hTI, hTO, h1, h2, o1, o2⟩
  refine ZRC D Z (x := u) (y := v) (by simpa using hu) (by simpa using hv) fun h' Z' hT hk => ⟨_, rfl, ?_⟩
  refine wpAny_letOwnedTupleGo_zip Z'.hz fun h'' hz'' hs'' => ?_
  have hTz : s.heap.objs.size ≠ z := Nat.ne_of_gt (Heap.lt_size hz)
  have hT'' : IsPair h'' s.heap.objs.size u v := hs''.extBut _ _ hTz hT
  have kk : ∀ b o, b ∉ [z, TI, TO, i1, i2] → s.heap.get? b = some o → h''.get? b = some o := fun b o hb e => by
   simp only [List.mem_cons, List.not_mem_nil, or_false, not_or] at hb
   exact hs''.extBut _ _ hb.1 (hk b o hb.1 hb.2.2.1 hb.2.2.2.1 hb.2.2.2.2 e)
  have I1 : Inv X pins σ (upd H s.heap.objs.size (.tup [xs[i], ys[i]])) { s with heap := h'', toks := s.toks } := by
   refine I.turnNew (fp := [z, TI, TO, i1, i2]) hf kk (fun b hb => ZD6 (Nat.ne_of_lt hb)) fun b o hb e => ?_
   by_cases hbT : b = s.heap.objs.size
   ·subst hbT
    rw [ZDu] at e
    cases e
    exact ⟨⟨by show 2 ≤ sizeLine; decide, fun _ => ⟨_, hT'', rfl, rfl⟩⟩, [u, v], .cons ru (.cons rv .nil), _, hT'', rfl, _, rfl⟩
   ·rw [ZD6 hbT, I.hok.fresh hb] at e
    cases e
  refine ⟨.ref s.heap.objs.size, _, I1, rfl, ⟨_, _, _, I.hok.fresh (Nat.le_refl _), rfl, rfl, fun zs hq => ?_, fun zs hq => ?_⟩, ?_, fun b hb => ?_⟩
  ·rw [I.sqB_inj hq q1]; exact List.getElem?_eq_getElem hi1
  ·rw [I.sqB_inj hq q2]; exact List.getElem?_eq_getElem hi2
  ·obtain ⟨x, y, hTO'⟩ := Z'.hTO
   exact ⟨hz'', hs''.extBut _ _ D.TIz Z'.hTI, ⟨x, y, hs''.extBut _ _ D.TOz hTO'⟩, Z'.h1.at fun o e => hs''.extBut _ _ D.i1z e, Z'.h2.at fun o e => hs''.extBut _ _ D.i2z e⟩
  ·have hbl : b < s.heap.objs.size := by
    obtain ⟨x, y, hTO0⟩ := hTO
    simp only [List.mem_cons, List.not_mem_nil, or_false] at hb
    rcases hb with rfl | rfl | rfl | rfl | rfl
    ·exact Heap.lt_size hz
    ·exact Heap.lt_size hTI
    ·exact Heap.lt_size hTO0
    ·exact h1.lt
    ·exact h2.lt
   rw [ZD6 (Nat.ne_of_lt hbl)]
   exact (hf b hb).1
 done := by
  intro X hP hw hK hc i pins s σ H E I hf st hg
  subst hP hw hK
  obtain ⟨xs, ys, q1, q2, hend⟩ := hg
  obtain ⟨hz, hTI, hTO, h1, h2⟩ := st
  obtain ⟨us, r1, o1, _⟩ := I.sqB q1
  obtain ⟨ws, r2, o2, _⟩ := I.sqB q2
  have e1 := r1.length
  have e2 := r2.length
  refine ZTM (I.ok.hd hc) D ⟨hz, hTI, hTO, h1, h2, o1, o2⟩ ?_ fun h' hk => ⟨rfl, ?_⟩
  ·rcases hend with h | h
   ·exact .inl (by simp; omega)
   ·exact .inr (by simp; omega)
  ·refine I.turnNew (t' := s.toks) (fp := [z, TI, TO, i1, i2]) hf (fun b o hb e => ?_) (fun b _ => rfl) fun b o hb e => ?_
   ·simp only [List.mem_cons, List.not_mem_nil, or_false, not_or] at hb
    exact hk b o hb.1 hb.2.2.1 hb.2.2.2.1 hb.2.2.2.2 e
   ·rw [I.hok.fresh hb] at e; cases e
 self := fun _ _ _ _ _ st h => wpAny_pyIter_zip st.1 h
def ZKP (b : Bool) (l : Addr) : Obj := { cls := .type (if b then "list_iterator" else "tuple_iterator"), data := .fields #[.ref l, .int 0 0] }
def zp1 (b1 : Bool) (h : Heap) (l1 : Addr) : Heap := h.push (ZKP b1 l1)
def zp2 (b1 b2 : Bool) (h : Heap) (l1 l2 : Addr) : Heap := (zp1 b1 h l1).push (ZKP b2 l2)
def zp3 (b1 b2 : Bool) (h : Heap) (l1 l2 : Addr) : Heap := (zp2 b1 b2 h l1 l2).push { cls := .type "tuple", data := .seq #[.ref h.objs.size, .ref (zp1 b1 h l1).objs.size] }
def zp4 (b1 b2 : Bool) (h : Heap) (l1 l2 : Addr) : Heap := (zp3 b1 b2 h l1 l2).push { cls := .type "tuple", data := .seq #[.none, .none] }
def zp5 (b1 b2 : Bool) (h : Heap) (l1 l2 : Addr) : Heap := (zp4 b1 b2 h l1 l2).push { cls := .type "zip", data := .fields #[.none, .bool false, .bool false, .ref (zp2 b1 b2 h l1 l2).objs.size, .ref (zp3 b1 b2 h l1 l2).objs.size] }
theorem ZOE (b1 b2 : Bool) (l1 l2 : Addr) (xs ys : Array Value) :
  Meets (Builtin.«zip.__new__» ⟨[.type "zip", .ref l1, .ref l2], []⟩) (fun _ R s => SOb b1 s.heap l1 xs ∧ SOb b2 s.heap l2 ys ∧
   R (.ok (.ret (.ref (zp4 b1 b2 s.heap l1 l2).objs.size))) { s with heap := zp5 b1 b2 s.heap l1 l2 }) := by
 cases b1 <;> cases b2
 ·exact .of_wp fun prog w A R s h => by
   obtain ⟨hp, g, d, tk, os⟩ := s; obtain ⟨hl1, hl2, h⟩ := h
   have hsub := sub_zip
   have hL1 : Heap.IsTuple (Shared.heap ⟨hp, g, d, tk, os⟩) l1 xs := hl1
   have hL2 : Heap.IsTuple (Shared.heap ⟨hp.push { cls := .type "tuple_iterator", data := .fields #[.ref l1, .int 0 0] }, g, d, tk, os⟩) l2 ys := by
    obtain ⟨o, ho, r⟩ := (show Heap.IsTuple hp l2 ys from hl2); exact ⟨o, Heap.get?_push_of_some _ ho, r⟩
   wp_walk using wpAny_pyIter_tuple hL1, wpAny_pyIter_tuple hL2
   exact ⟨_, rfl, h⟩
 ·exact .of_wp fun prog w A R s h => by
   obtain ⟨hp, g, d, tk, os⟩ := s; obtain ⟨hl1, hl2, h⟩ := h
   have hsub := sub_zip
   have hL1 : Heap.IsTuple (Shared.heap ⟨hp, g, d, tk, os⟩) l1 xs := hl1
   have hL2 : Heap.IsList (Shared.heap ⟨hp.push { cls := .type "tuple_iterator", data := .fields #[.ref l1, .int 0 0] }, g, d, tk, os⟩) l2 ys := by
    obtain ⟨o, ho, r⟩ := (show Heap.IsList hp l2 ys from hl2); exact ⟨o, Heap.get?_push_of_some _ ho, r⟩
   wp_walk using wpAny_pyIter_tuple hL1, wpAny_pyIter_list hL2
   exact ⟨_, rfl, h⟩
 ·exact .of_wp fun prog w A R s h => by
   obtain ⟨hp, g, d, tk, os⟩ := s; obtain ⟨hl1, hl2, h⟩ := h
   have hsub := sub_zip
   have hL1 : Heap.IsList (Shared.heap ⟨hp, g, d, tk, os⟩) l1 xs := hl1
   have hL2 : Heap.IsTuple (Shared.heap ⟨hp.push { cls := .type "list_iterator", data := .fields #[.ref l1, .int 0 0] }, g, d, tk, os⟩) l2 ys := by
    obtain ⟨o, ho, r⟩ := (show Heap.IsTuple hp l2 ys from hl2); exact ⟨o, Heap.get?_push_of_some _ ho, r⟩
   wp_walk using wpAny_pyIter_list hL1, wpAny_pyIter_tuple hL2
   exact ⟨_, rfl, h⟩
 ·exact .of_wp fun prog w A R s h => by
   obtain ⟨hp, g, d, tk, os⟩ := s; obtain ⟨hl1, hl2, h⟩ := h
   have hsub := sub_zip
   have hL1 : Heap.IsList (Shared.heap ⟨hp, g, d, tk, os⟩) l1 xs := hl1
   have hL2 : Heap.IsList (Shared.heap ⟨hp.push { cls := .type "list_iterator", data := .fields #[.ref l1, .int 0 0] }, g, d, tk, os⟩) l2 ys := by
    obtain ⟨o, ho, r⟩ := (show Heap.IsList hp l2 ys from hl2); exact ⟨o, Heap.get?_push_of_some _ ho, r⟩
   wp_walk using wpAny_pyIter_list hL1, wpAny_pyIter_list hL2
   exact ⟨_, rfl, h⟩
section
variable {X : Cx} {tg : Expr}
theorem ZRE {pins : List (Addr × Obj)} {σ : St} {H : Hp} {s : Shared} {R : It → Hp → Prop} {b1 b2 : Bool} {l1 l2 : Addr} {xs ys : List V} {es : List Expr} {kk : Nat} {pos : Pos} (I : Inv X pins σ H s) (q1 : SqB b1 X.K H l1 xs) (q2 : SqB b2 X.K H l2 ys)
  (q : R (Itz X.K b1 l1 b2 l2) H) : wpAny (model X.prog X.w) X.A (call (.type "zip") [.ref l1, .ref l2]) (fun v s1 => wpAny (model X.prog X.w) X.A (pyIter v) (PIE X pins σ (.Tuple es kk pos) R) X.xe s1) X.xe s := by
 obtain ⟨us, r1, o1, _⟩ := I.sqB q1
 obtain ⟨ws, r2, o2, _⟩ := I.sqB q2
 refine callType_new F.called_zip (by decide) (F.typeCall_zip_2 _ _) (F.newCall_zip_2 _ _) (fun obj => F.args_object_init_3 obj _ _) F.entry_zip_new (ZOE b1 b2 l1 l2 us.toArray ws.toArray) ⟨o1, o2, ?_⟩
 have z1 : (zp1 b1 s.heap l1).objs.size = s.heap.objs.size + 1 := Heap.size_push ..
 have z2 : (zp2 b1 b2 s.heap l1 l2).objs.size = s.heap.objs.size + 2 := (Heap.size_push ..).trans (by rw [z1])
 have z3 : (zp3 b1 b2 s.heap l1 l2).objs.size = s.heap.objs.size + 3 := (Heap.size_push ..).trans (by rw [z2])
 have z4 : (zp4 b1 b2 s.heap l1 l2).objs.size = s.heap.objs.size + 4 := (Heap.size_push ..).trans (by rw [z3])
 have g5 : (zp5 b1 b2 s.heap l1 l2).get? (zp4 b1 b2 s.heap l1 l2).objs.size = some _ := Heap.get?_push_size _ rfl
 have g4 : (zp5 b1 b2 s.heap l1 l2).get? (zp3 b1 b2 s.heap l1 l2).objs.size = some _ := Heap.get?_push_of_some _ (Heap.get?_push_size _ rfl)
 have g3 : (zp5 b1 b2 s.heap l1 l2).get? (zp2 b1 b2 s.heap l1 l2).objs.size = some _ := Heap.get?_push_of_some _ (Heap.get?_push_of_some _ (Heap.get?_push_size _ rfl))
 have g2 : (zp5 b1 b2 s.heap l1 l2).get? (zp1 b1 s.heap l1).objs.size = some (ZKP b2 l2) := Heap.get?_push_of_some _ (Heap.get?_push_of_some _ (Heap.get?_push_of_some _ (Heap.get?_push_size _ rfl)))
 have g1 : (zp5 b1 b2 s.heap l1 l2).get? s.heap.objs.size = some (ZKP b1 l1) := Heap.get?_push_of_some _ (Heap.get?_push_of_some _ (Heap.get?_push_of_some _ (Heap.get?_push_of_some _ (Heap.get?_push_size _ rfl))))
 have keep : ∀ c o, s.heap.get? c = some o → (zp5 b1 b2 s.heap l1 l2).get? c = some o := fun c o x =>
  Heap.get?_push_of_some _ (Heap.get?_push_of_some _ (Heap.get?_push_of_some _ (Heap.get?_push_of_some _ (Heap.get?_push_of_some _ x))))
 rw [z1] at g2
 rw [z2, z1] at g3
 rw [z3] at g4
 rw [z4, z3, z2] at g5
 rw [z4]
 have sit : ∀ {b : Bool} {c l : Addr}, (zp5 b1 b2 s.heap l1 l2).get? c = some (ZKP b l) → SIt b (zp5 b1 b2 s.heap l1 l2) c l 0 := fun {b c l} e => by
  cases b with
  | true => exact ⟨_, e, rfl, rfl⟩
  | false => exact ⟨_, e, rfl, rfl⟩
 have I1 : Inv X pins σ H { s with heap := zp5 b1 b2 s.heap l1 l2, toks := s.toks } := I.kept keep
 have hl1 : l1 < s.heap.objs.size := o1.lt
 have hl2 : l2 < s.heap.objs.size := o2.lt
 have ne : ∀ {a b : Nat}, a < b → (a : Addr) ≠ b := fun h => Nat.ne_of_lt h
 have D : ZipApart (s.heap.objs.size + 4) (s.heap.objs.size + 2) (s.heap.objs.size + 3) s.heap.objs.size (s.heap.objs.size + 1) l1 l2 := by
  have hl1' : (l1 : Nat) < s.heap.objs.size := hl1
  have hl2' : (l2 : Nat) < s.heap.objs.size := hl2
  constructor
  all_goals first
   | exact Nat.ne_of_lt (by omega)
   | exact Nat.ne_of_gt (by omega)
   | exact Nat.ne_of_lt (Nat.lt_of_lt_of_le hl1' (by omega))
   | exact Nat.ne_of_lt (Nat.lt_of_lt_of_le hl2' (by omega))
 refine ⟨⟨_, g5, rfl⟩, wpAny_pyIter_zip g5 ⟨s.heap.objs.size + 4, [s.heap.objs.size + 4, s.heap.objs.size + 2, s.heap.objs.size + 3, s.heap.objs.size, s.heap.objs.size + 1], _, _, H, rfl, I1, ZRD b1 b2 _ _ _ _ _ l1 l2 D, ⟨g5, g3, ⟨_, _, g4⟩, sit g1, sit g2⟩, fun b hb => ?_, q⟩⟩
 have hle : s.heap.objs.size ≤ b := by
  simp only [List.mem_cons, List.not_mem_nil, or_false] at hb
  rcases hb with rfl | rfl | rfl | rfl | rfl
  ·exact Nat.le_add_right _ _
  ·exact Nat.le_add_right _ _
  ·exact Nat.le_add_right _ _
  ·exact Nat.le_refl _
  ·exact Nat.le_add_right _ _
 exact I.fpOk hle (I.hok.fresh hle)
def ZRF (K : W.Frag) (vs : List V) (H : Hp) (R : It → Hp → Prop) : Prop := ∃ b1 b2 l1 l2 xs ys, vs = [.ref l1, .ref l2] ∧ SqB b1 K H l1 xs ∧ SqB b2 K H l2 ys ∧ R (Itz K b1 l1 b2 l2) H
def ZVK (K : W.Frag) (ta : TA) : TI := fun σ H R => ta σ H fun vs H1 => ZRF K vs H1 R
theorem ZPR {a b : Expr} {t : TA} {p pos tpos : Pos} {es : List Expr} {kk : Nat} (K : W.Frag) (hK : X.K = K) (hg : Gl X "zip") (hm : X.mg "zip" = none) (ha : QA X [a, b] t) (hs : ZFg a = false := by rfl) (hs2 : ZFg b = false := by rfl) :
  QI X (.Tuple es kk tpos) (.Call (.Name "zip" p) [a, b] [] pos) (ZVK K t) := by
 subst hK
 refine ⟨?_⟩
 intro pins s σ H R I h
 refine Call_ (ZGm I hg hm ZVG (PyProof.Rows.callWith_type1 (thn (ha.h pos pins s σ H _ I h) fun us s1 ⟨vs, H1, I1, r1, q1⟩ => ?_) (by rw [ZFO hs, ZFO hs2]) (by rw [ZFO hs2]; rfl)))
 obtain ⟨b1, b2, l1, l2, xs, ys, e, g1, g2, q⟩ := q1
 subst e
 obtain ⟨u, v, rfl, ru, rv⟩ := r1.two
 cases ru
 cases rv
 exact ZRE I1 g1 g2 q
end
section
variable {K : W.Frag} {σ : St} {H : Hp} {D : ZEp}
theorem ZTN {ta : TA} {R : It → Hp → Prop} (h : ta σ H fun vs H1 => ZRF K vs H1 R) : ZVK K ta σ H R := h
theorem ZPS {b1 b2 : Bool} {l1 l2 : Addr} {xs ys : List V} {R : It → Hp → Prop} (h1 : SqB b1 K H l1 xs) (h2 : SqB b2 K H l2 ys) (h : R (Itz K b1 l1 b2 l2) H) : ZRF K [.ref l1, .ref l2] H R := ⟨b1, b2, l1, l2, xs, ys, rfl, h1, h2, h⟩
theorem ZNY {b1 b2 : Bool} {l1 l2 : Addr} {xs ys : List V} {g : TG} {tb : TS} (n : Nat) (hn : n = min xs.length ys.length) (Pv : Nat → St → Hp → Prop) (h0 : Pv 0 σ H) (hl : ∀ i σ H, Pv i σ H → SqB b1 K H l1 xs ∧ SqB b2 K H l2 ys)
  (hs : ∀ i σ H T H2 a b, i < n → Pv i σ H → xs[i]? = some a → ys[i]? = some b → H T = none → H2 T = some (.tup [a, b]) → ZDn H H2 → g (.ref T) σ H2 fun σ2 H3 => tb { D with nx := Pv (i + 1), ct := Pv (i + 1), bk := D.nx } σ2 H3)
  (hd : ∀ σ H, Pv n σ H → D.nx σ H) : rFor (Itz K b1 l1 b2 l2) g tb D σ H := by
 refine ⟨fun i m σ H => m = n - i ∧ i ≤ n ∧ Pv i σ H, ⟨n, by simp, Nat.zero_le _, h0⟩, ?_⟩
 rintro i m σ H ⟨rfl, hi, p⟩
 obtain ⟨q1, q2⟩ := hl i σ H p
 by_cases hlt : i < n
 ·refine .inr ⟨⟨xs, ys, q1, q2, by omega, by omega⟩, Pv (i + 1), fun σ' H' p' => ⟨n - (i + 1), by omega, rfl, hlt, p'⟩, ?_⟩
  rintro x H' ⟨T, a, b, hT, rfl, rfl, e1, e2⟩
  exact hs i σ H T _ a b hlt p (e1 _ q1) (e2 _ q2) hT ZDu (ZDn.new hT)
 ·have e : i = n := by omega
  subst e
  exact .inl ⟨⟨xs, ys, q1, q2, by omega⟩, hd σ H p⟩
end
section
variable {X : Cx}
def ZR9 (K : W.Frag) : List V → Hp → VK → Prop := fun xs H Q => ∃ (p : Addr) (ns : List Int), xs = [.ref p] ∧ SqL K H p (ns.map V.int) ∧ ns ≠ [] ∧ ∀ m, m ∈ ns → (∀ n ∈ ns, m ≤ n) → Q (.int m) H
def ZSA (K : W.Frag) : List V → Hp → VK → Prop := fun xs H Q => ∃ (p : Addr) (ns : List Int), xs = [.ref p] ∧ SqL K H p (ns.map V.int) ∧ ns ≠ [] ∧ ∀ m, m ∈ ns → (∀ n ∈ ns, n ≤ m) → Q (.int m) H
theorem ZH4 : ∀ {ns : List Int} {its : List Value}, ZD0 (ns.map V.int) its → ∀ {i : Nat} {v : Value}, its[i]? = some v → ∃ t, v = .int (ns.getD i 0) t
 | [], _, .nil, i, v, e => by simp at e
 | n :: ns, _, .cons ⟨t, r⟩ h, 0, v, e => by simp at e; subst e; exact ⟨t, r⟩
 | n :: ns, _, .cons _ h, i + 1, v, e => by
  obtain ⟨t, r⟩ := ZH4 h (i := i) (v := v) (by simpa using e)
  exact ⟨t, by simpa using r⟩
theorem ZTO (K : W.Frag) (hK : X.K = K) (hc : X.calm = true) : ZEq X (.builtin "min") (ZR9 K) := by
 subst hK
 intro pins s σ H xs us Q I r h
 obtain ⟨p, ns, rfl, hS, hne, q⟩ := h
 obtain ⟨u, rfl, ru⟩ := r.one
 cases ru
 obtain ⟨its, rv, pl, _⟩ := I.list hS
 have hlen : its.length = ns.length := by have := rv.length; simpa using this.symm
 have hpos : 0 < ns.length := List.length_pos_iff.mpr hne
 have hl : s.heap.IsList p its.toArray := pl.isList
 have hlt : p < s.heap.objs.size := by obtain ⟨_, e, _⟩ := hl; exact Heap.lt_size e
 refine call_min_walk (wpAny_pyIter_list hl ⟨_, _, _, _, _, _, _, rfl, Walks.list (A := X.A.in1) (I.ok.hd hc) _ p (Nat.ne_of_lt hlt) its.toArray, ⟨⟨_, Heap.get?_push_size _ rfl, rfl, rfl⟩, hl.push _⟩, fun b hb => ?_, by rw [List.size_toArray]; omega,
  CmpOf.ints_lt (fun i => ns.getD i 0) (fun i v e => ZH4 rv (by simpa using e)), fun v h' tk hP hk => ?_⟩)
 ·rw [Heap.size_push]
  simp only [List.mem_cons, List.not_mem_nil, or_false] at hb
  rcases hb with rfl | rfl
  ·exact Nat.lt_succ_self _
  ·exact Nat.lt_succ_of_lt hlt
 ·have hP' : its[argBest (fun i j => decide (ns.getD i 0 < ns.getD j 0)) (its.length - 1)]? = some v := by simpa using hP
  obtain ⟨t, rfl⟩ := ZH4 rv hP'
  obtain ⟨h1, h2⟩ := argBest_lt (fun i => ns.getD i 0) (its.toArray.size - 1)
  rw [List.size_toArray] at h1 h2
  generalize hb : argBest (fun i j => decide (ns.getD i 0 < ns.getD j 0)) (its.length - 1) = b at *
  have hbl : b < ns.length := by omega
  refine ⟨.int (ns.getD b 0), H, I.kept (t' := tk) fun c o e => hk c o ?_ (Heap.get?_push_of_some _ e), ⟨t, rfl⟩, q _ ?_ fun n hn => ?_⟩
  ·intro z; simp at z; exact Nat.ne_of_lt (Heap.lt_size e) z
  ·have : ns.getD b 0 = ns[b] := by simp [hbl]
   rw [this]; exact List.getElem_mem hbl
  ·obtain ⟨j, hj, e⟩ := List.getElem_of_mem hn
   have := h2 j (by omega)
   have e2 : ns.getD j 0 = n := by simp [hj, e]
   rw [e2] at this
   exact this
theorem ZTP (K : W.Frag) (hK : X.K = K) (hc : X.calm = true) : ZEq X (.builtin "max") (ZSA K) := by
 subst hK
 intro pins s σ H xs us Q I r h
 obtain ⟨p, ns, rfl, hS, hne, q⟩ := h
 obtain ⟨u, rfl, ru⟩ := r.one
 cases ru
 obtain ⟨its, rv, pl, _⟩ := I.list hS
 have hlen : its.length = ns.length := by have := rv.length; simpa using this.symm
 have hpos : 0 < ns.length := List.length_pos_iff.mpr hne
 have hl : s.heap.IsList p its.toArray := pl.isList
 have hlt : p < s.heap.objs.size := by obtain ⟨_, e, _⟩ := hl; exact Heap.lt_size e
 refine call_max_walk (wpAny_pyIter_list hl ⟨_, _, _, _, _, _, _, rfl, Walks.list (A := X.A.in1) (I.ok.hd hc) _ p (Nat.ne_of_lt hlt) its.toArray, ⟨⟨_, Heap.get?_push_size _ rfl, rfl, rfl⟩, hl.push _⟩, fun b hb => ?_, by rw [List.size_toArray]; omega,
  CmpOf.ints_gt (fun i => ns.getD i 0) (fun i v e => ZH4 rv (by simpa using e)), fun v h' tk hP hk => ?_⟩)
 ·rw [Heap.size_push]
  simp only [List.mem_cons, List.not_mem_nil, or_false] at hb
  rcases hb with rfl | rfl
  ·exact Nat.lt_succ_self _
  ·exact Nat.lt_succ_of_lt hlt
 ·have hP' : its[argBest (fun i j => decide (ns.getD i 0 > ns.getD j 0)) (its.length - 1)]? = some v := by simpa using hP
  obtain ⟨t, rfl⟩ := ZH4 rv hP'
  obtain ⟨h1, h2⟩ := argBest_gt (fun i => ns.getD i 0) (its.toArray.size - 1)
  rw [List.size_toArray] at h1 h2
  generalize hb : argBest (fun i j => decide (ns.getD i 0 > ns.getD j 0)) (its.length - 1) = b at *
  have hbl : b < ns.length := by omega
  refine ⟨.int (ns.getD b 0), H, I.kept (t' := tk) fun c o e => hk c o ?_ (Heap.get?_push_of_some _ e), ⟨t, rfl⟩, q _ ?_ fun n hn => ?_⟩
  ·intro z; simp at z; exact Nat.ne_of_lt (Heap.lt_size e) z
  ·have : ns.getD b 0 = ns[b] := by simp [hbl]
   rw [this]; exact List.getElem_mem hbl
  ·obtain ⟨j, hj, e⟩ := List.getElem_of_mem hn
   have := h2 j (by omega)
   have e2 : ns.getD j 0 = n := by simp [hj, e]
   rw [e2] at this
   exact this
theorem ZTQ {K : W.Frag} {H : Hp} {Q : VK} {p : Addr} {ns : List Int} (h1 : SqL K H p (ns.map V.int)) (h2 : ns ≠ []) (h : ∀ m, m ∈ ns → (∀ n ∈ ns, m ≤ n) → Q (.int m) H) : ZR9 K [.ref p] H Q := ⟨p, ns, rfl, h1, h2, h⟩
theorem ZTR {K : W.Frag} {H : Hp} {Q : VK} {p : Addr} {ns : List Int} (h1 : SqL K H p (ns.map V.int)) (h2 : ns ≠ []) (h : ∀ m, m ∈ ns → (∀ n ∈ ns, n ≤ m) → Q (.int m) H) : ZSA K [.ref p] H Q := ⟨p, ns, rfl, h1, h2, h⟩
end
def Bn (n : Nat) (x : Int) : Prop := x.natAbs < 2 ^ n
theorem Bn.mono {m n : Nat} {x : Int} (h : Bn m x) (hm : m ≤ n) : Bn n x := Nat.lt_of_lt_of_le h (Nat.pow_le_pow_right (by decide) hm)
theorem Bn.mul {m n : Nat} {x y : Int} (h : Bn m x) (g : Bn n y) : Bn (m + n) (x * y) := by
 unfold Bn at *
 rw [Int.natAbs_mul, Nat.pow_add]
 exact Nat.mul_lt_mul'' h g
theorem Bn.add {n : Nat} {x y : Int} (h : Bn n x) (g : Bn n y) : Bn (n + 1) (x + y) := by
 unfold Bn at *
 have := Int.natAbs_add_le x y
 rw [Nat.pow_succ]
 omega
theorem Bn.sub {n : Nat} {x y : Int} (h : Bn n x) (g : Bn n y) : Bn (n + 1) (x - y) := by
 unfold Bn at *
 have := Int.natAbs_sub_le x y
 rw [Nat.pow_succ]
 omega
theorem Bn.lt {n : Nat} {x : Int} (h : Bn n x) : -(2 ^ n) < x ∧ x < 2 ^ n := by
 have e : ((2 ^ n : Nat) : Int) = (2 : Int) ^ n := by simp
 have : (x.natAbs : Int) < ((2 ^ n : Nat) : Int) := Int.ofNat_lt.mpr h
 rw [e] at this
 omega
theorem ZGn {m n : Nat} {x y : Int} (h : Bn m x) (g : Bn n y) (hm : m + n ≤ 8000) : IntMulOk x y := by
 have h1 : Builtin.Int.intBits x ≤ m := intBits_le h
 have h2 : Builtin.Int.intBits y ≤ n := intBits_le g
 unfold IntMulOk
 have : Builtin.Int.intTooBig ((Builtin.Int.intBits x : Int) + (Builtin.Int.intBits y : Int)) = false := by
  unfold Builtin.Int.intTooBig
  refine decide_eq_false ?_
  have hb : (8000 : Int) ≤ bitsLine := by decide
  omega
 rw [this]
 simp
theorem Bn.divB {n : Nat} {i j : Int} (h : Bn n j) (h0 : 0 < j) (hn : n ≤ 8000) : ZHV i j := ZHV.of h0 h.lt.2 (by omega)
inductive ZFc (H : Hp) : V → Option (Int × Int) → Prop where
 | non : ZFc H .non Option.none
 | pr {c : Addr} {p : Int × Int} (e : H c = Option.some (.tup [.int p.1, .int p.2])) : ZFc H (.ref c) (Option.some p)
theorem ZFc.same {H H' : Hp} {v : V} {o : Option (Int × Int)} (h : ZFc H v o) (s : ZDn H H') : ZFc H' v o := by
 cases h with
 | non => exact .non
 | pr e => exact .pr (s _ _ e)
theorem ZFc.kpL {H H' : Hp} {l : Addr} {xs : List V} {v : V} {o : Option (Int × Int)} (h : ZFc H v o) (k : Kp l H H') (hl : H l = Option.some (.lst xs)) : ZFc H' v o := by
 cases h with
 | non => exact .non
 | pr e => exact .pr (k _ _ e (fun z => by subst z; rw [hl] at e; cases e))
inductive ZEo (H : Hp) : List V → List (Option (Int × Int)) → Prop where
 | nil : ZEo H [] []
 | cons {v : V} {o : Option (Int × Int)} {vs : List V} {os : List (Option (Int × Int))} (h : ZFc H v o) (t : ZEo H vs os) : ZEo H (v :: vs) (o :: os)
theorem ZEo.mapP {H H' : Hp} (f : ∀ v o, ZFc H v o → ZFc H' v o) : ∀ {vs : List V} {os : List (Option (Int × Int))}, ZEo H vs os → ZEo H' vs os
 | _, _, .nil => .nil
 | _, _, .cons h t => .cons (f _ _ h) (ZEo.mapP f t)
theorem ZEo.same {H H' : Hp} {vs : List V} {os : List (Option (Int × Int))} (h : ZEo H vs os) (s : ZDn H H') : ZEo H' vs os := h.mapP fun _ _ d => d.same s
theorem ZEo.len {H : Hp} : ∀ {vs : List V} {os : List (Option (Int × Int))}, ZEo H vs os → vs.length = os.length
 | _, _, .nil => rfl
 | _, _, .cons _ t => by simp [ZEo.len t]
theorem ZEo.snoc {H : Hp} : ∀ {vs : List V} {os : List (Option (Int × Int))}, ZEo H vs os → ∀ {v : V} {o : Option (Int × Int)}, ZFc H v o → ZEo H (vs ++ [v]) (os ++ [o])
 | _, _, .nil, _, _, d => .cons d .nil
 | _, _, .cons h t, _, _, d => .cons h (ZEo.snoc t d)
def ZHg : Option (Int × Int) → PyData
 | none => .none
 | some p => ZVw p
theorem ZEo.dats {K : W.Frag} {H : Hp} : ∀ {vs : List V} {os : List (Option (Int × Int))}, ZEo H vs os → ZFj K H vs (os.map ZHg)
 | _, _, .nil => .nil
 | _, _, .cons .non t => .cons .non (ZEo.dats t)
 | _, _, .cons (.pr e) t => .cons (.tup (SqT.of e) (.cons (.int _) (.cons (.int _) .nil))) (ZEo.dats t)
theorem ZII : ∀ os : List (Option (Int × Int)), PyData.canLayAll0 (os.map ZHg) = true
 | [] => rfl
 | o :: os => by
  show (PyData.canLay0 (ZHg o) && PyData.canLayAll0 (os.map ZHg)) = true
  rw [ZII os]
  cases o <;> rfl
theorem ZKQ : ∀ os : List (Option (Int × Int)), PyData.depthAll (os.map ZHg) ≤ 50
 | [] => by decide
 | o :: os => by
  have ih := ZKQ os
  have h0 : PyData.depth (ZHg o) ≤ 50 := by
   cases o with
   | none => decide
   | some p =>
    show PyData.depth (.tuple [.int p.1, .int p.2]) ≤ 50
    simp only [PyData.depth, PyData.depthAll]
    decide
  show PyData.depthAll (ZHg o :: os.map ZHg) ≤ 50
  simp only [PyData.depthAll]
  omega
theorem ZLJ {K : W.Frag} {H : Hp} {Q : VK} {a b : Addr} {vs ws : List V} {os : List (Option (Int × Int))} (h1 : H a = some (.tup vs)) (p1 : ZEo H vs os) (h2 : H b = some (.tup ws)) (p2 : ZEo H ws os) (h : Q (.bl false) H) : ZQy K (.ref a) (.ref b) H Q := by
 refine ZVD (.tup (SqT.of h1) p1.dats) (.tup (SqT.of h2) p2.dats) (ZII os) (ZII os) ?_ ?_
 ·have := ZKQ os
  simp only [PyData.depth]
  omega
 ·have e : PyData.eqv (.tuple (os.map ZHg)) (.tuple (os.map ZHg)) = true := PySem.SeqAt.eqv_refl _ (ZII os)
  rw [e]
  exact h
section
variable {X : Cx}
def ZMS : V → List V → Hp → VK → Prop := fun x vs H Q => ∃ l b xs zs, x = .ref l ∧ vs = [.ref b] ∧ H l = some (.lst xs) ∧ H b = some (.tup zs) ∧ (∀ i : Int, zs.head? ≠ some (.int i)) ∧ xs.length + zs.length ≤ sizeLine ∧ Q .non (upd H l (.lst (xs ++ zs)))
theorem ZOF : MtM X "list.extend" ZMS := by
 intro pins s σ H x vs v us Q I rx rv h
 obtain ⟨l, b, xs, zs, rfl, rfl, hH, hB, hh, hz, q⟩ := h
 cases rx
 obtain ⟨u, rfl, ru⟩ := rv.one
 cases ru
 obtain ⟨z, its, n, r, hl, e⟩ := I.lstM hH
 obtain ⟨⟨_, hpd⟩, its2, r2, ht⟩ := (show ZER X.prog X.w H s.heap b (.tup zs) from I.hok b _ hB)
 obtain ⟨od, hod, hd, hsl⟩ := hpd hh
 obtain ⟨ob, hob, hc, n2, hdat⟩ := ht
 rw [hod] at hob
 cases hob
 have hl2 := r2.length
 have e2 : s.heap.get? b = some { cls := .type "tuple", dict := none, data := .seq its2.toArray n2, slots := #[] } := by
  rw [hod]
  obtain ⟨c, d, dt, sl⟩ := od
  simp only at hc hd hdat hsl
  subst hc hd hdat hsl
  rfl
 have hsz : its.toArray.size + its2.toArray.size ≤ sizeLine := by rw [List.size_toArray, List.size_toArray]; omega
 have hlong : ¬ (!its.toArray.isEmpty && Builtin.List.listTooLong (its.toArray.size + its2.toArray.size)) = true := by
  rw [ZQg hsz, Bool.and_false]
  exact Bool.false_ne_true
 refine call_meets F.slot_list_extend ⟨_, e, rfl⟩ F.entry_list_extend (F.args_list_extend_2 _ _)
  (AutoSeq1.list_extend_list_tuple_0 l its.toArray n b its2.toArray n2 hlong (by rw [List.size_toArray]; omega) (by omega)) ⟨e, e2, ?_⟩
 refine ⟨.non, _, I.lset (its' := its ++ its2) hH e (by simp) (r.append r2) ?_, rfl, q⟩
 rw [List.length_append]
 omega
theorem ZOG {H : Hp} {Q : VK} {l b : Addr} {xs zs : List V} (h1 : H l = some (.lst xs)) (h2 : H b = some (.tup zs)) (h3 : ∀ i : Int, zs.head? ≠ some (.int i)) (hz : xs.length + zs.length ≤ sizeLine) (h : ∀ H2, H2 l = some (.lst (xs ++ zs)) → Kp l H H2 → Q .non H2) : ZMS (.ref l) [.ref b] H Q :=
 ⟨l, b, xs, zs, rfl, rfl, h1, h2, h3, hz, h _ ZDu Kp.upd⟩
end
inductive ZEH (H : Hp) : V → Option (PL) → Prop where
 | non : ZEH H .non Option.none
 | pr {c : Addr} {qs : PL} (h : PrT H c qs) (hl : qs.length = 4) : ZEH H (.ref c) (Option.some qs)
theorem ZEH.same {H H' : Hp} {v : V} {o : Option (PL)} (h : ZEH H v o) (s : ZDn H H') : ZEH H' v o := by
 cases h with
 | non => exact .non
 | pr e hl => exact .pr (e.same s) hl
theorem ZEH.kpL {H H' : Hp} {l : Addr} {xs : List V} {v : V} {o : Option (PL)} (h : ZEH H v o) (k : Kp l H H') (hl : H l = Option.some (.lst xs)) : ZEH H' v o := by
 cases h with
 | non => exact .non
 | pr e hn => exact .pr (e.kpL k hl) hn
inductive ZEd (H : Hp) : List V → List (Option (PL)) → Prop where
 | nil : ZEd H [] []
 | cons {v : V} {o : Option (PL)} {vs : List V} {os : List (Option (PL))} (h : ZEH H v o) (t : ZEd H vs os) : ZEd H (v :: vs) (o :: os)
theorem ZEd.mapP {H H' : Hp} (f : ∀ v o, ZEH H v o → ZEH H' v o) : ∀ {vs : List V} {os : List (Option (PL))}, ZEd H vs os → ZEd H' vs os
 | _, _, .nil => .nil
 | _, _, .cons h t => .cons (f _ _ h) (ZEd.mapP f t)
theorem ZEd.same {H H' : Hp} {vs : List V} {os : List (Option (PL))} (h : ZEd H vs os) (s : ZDn H H') : ZEd H' vs os := h.mapP fun _ _ d => d.same s
theorem ZEd.len {H : Hp} : ∀ {vs : List V} {os : List (Option (PL))}, ZEd H vs os → vs.length = os.length
 | _, _, .nil => rfl
 | _, _, .cons _ t => by simp [ZEd.len t]
theorem ZEd.snoc {H : Hp} : ∀ {vs : List V} {os : List (Option (PL))}, ZEd H vs os → ∀ {v : V} {o : Option (PL)}, ZEH H v o → ZEd H (vs ++ [v]) (os ++ [o])
 | _, _, .nil, _, _, d => .cons d .nil
 | _, _, .cons h t, _, _, d => .cons h (ZEd.snoc t d)
theorem ZEd.at {H : Hp} : ∀ {vs : List V} {os : List (Option (PL))}, ZEd H vs os → ∀ {i : Nat} {v : V}, vs[i]? = Option.some v → ∃ o, os[i]? = Option.some o ∧ ZEH H v o
 | _, _, .nil, i, v, e => by simp at e
 | _, _, .cons h t, 0, v, e => by simp at e; subst e; exact ⟨_, rfl, h⟩
 | _, _, .cons _ t, i + 1, v, e => by
  obtain ⟨o, h1, h2⟩ := ZEd.at t (by simpa using e)
  exact ⟨o, by simpa using h1, h2⟩
section
variable {X : Cx}
mutual
theorem Dat.same {K : W.Frag} {H H' : Hp} (s : ZDn H H') : ∀ {x : V} {d : PyData}, Dat K H x d → Dat K H' x d
 | _, _, .non => .non
 | _, _, .bl b => .bl b
 | _, _, .int i => .int i
 | _, _, .str x => .str x
 | _, _, .tup h r => .tup (s.seqT h) (ZFj.same s r)
 | _, _, .lst h r => .lst (s.seq h) (ZFj.same s r)
theorem ZFj.same {K : W.Frag} {H H' : Hp} (s : ZDn H H') : ∀ {x : List V} {d : List PyData}, ZFj K H x d → ZFj K H' x d
 | _, _, .nil => .nil
 | _, _, .cons h r => .cons (Dat.same s h) (ZFj.same s r)
end
end
section
variable {X : Cx} {pins : List (Addr × Obj)} {σ : St} {H : Hp} {s : Shared}
end
section
variable {prog : Program} {w : World} {A : Around} {E : Value → Shared → Prop} {s : Shared}
end
section
variable {X : Cx} {tg : Expr}
end
section
variable {K : W.Frag} {σ : St} {H : Hp} {D : ZEp}
end
section
variable {X : Cx} {k : Nat} {f : Addr} {fd : FuncData} {ps : List Str} {sp : Sp}
theorem ZJG {pins : List (Addr × Obj)} {σ : St} {H : Hp} {s : Shared} {Q : VK} {us : List Value} {vs : List V} {E1 : Value → Shared → Prop} (F : ZDw X.prog X.w X.K X.mg X.base CX0 k f fd ps sp) (hr : Room k X.A.in1) (hb : ZDo X.K fd ps [])
  (I : Inv X pins σ H s) (r : ZD0 vs us) (h : sp vs H Q E0) : wpAny (model X.prog X.w) X.A.in1 (call (.ref f) us) (EP X pins σ Q) E1 s := by
 have hl : (us ++ []).length = ps.length := by rw [List.append_nil, ← r.length]; exact F.len _ _ _ _ h
 refine wpAny_call (codeAny_mono (F.run X.A.in1 X.stack s H ⟨us, []⟩ (us ++ []) vs Q E0 hr I.env0.in1 (hb s us I.kIn hl) (by rw [List.append_nil]; exact r) h) fun r s' hq => ?_)
 cases r with
 | error e => exact False.elim hq
 | ok fl =>
  cases fl with
  | ret u => exact I.after hq
  | next => exact False.elim hq
  | brk => exact False.elim hq
  | cont => exact False.elim hq
theorem Inv.pin2 {pins : List (Addr × Obj)} {σ : St} {H : Hp} {s : Shared} {a b : Addr} {oa ob : Obj} (I : Inv X pins σ H s) (fa : ZFD X pins H a) (fb : ZFD X pins H b) (ha : s.heap.get? a = some oa) (hb : s.heap.get? b = some ob) (ca : ∀ v, oa.data ≠ .cell v) (cb : ∀ v, ob.data ≠ .cell v) :
  Inv X ((a, oa) :: (b, ob) :: pins) σ H s := I.pins_of fun p hp => by
 rcases List.mem_cons.mp hp with rfl | hp
 ·exact ⟨ha, fa.1, fa.2.1, fa.2.2.1, ca⟩
 ·rcases List.mem_cons.mp hp with rfl | hp
  ·exact ⟨hb, fb.1, fb.2.1, fb.2.2.1, cb⟩
  ·exact I.pin p (List.mem_append_right _ hp)
theorem Inv.unpin2 {pins : List (Addr × Obj)} {σ : St} {H : Hp} {s : Shared} {a b : Addr} {oa ob : Obj} (I : Inv X ((a, oa) :: (b, ob) :: pins) σ H s) : s.heap.get? a = some oa ∧ s.heap.get? b = some ob ∧ Inv X pins σ H s :=
 ⟨(I.pin (a, oa) (List.mem_append_right _ (.head _))).1, (I.pin (b, ob) (List.mem_append_right _ (.tail _ (.head _)))).1, I.pins_of fun p hp => I.pin p (List.mem_append_right _ (.tail _ (.tail _ hp)))⟩
theorem Inv.turnedAt {pins : List (Addr × Obj)} {σ : St} {H : Hp} {s : Shared} {h' : Heap} {t' : Nat} {it : Addr} (I : Inv X pins σ H s) (fa : ZFD X pins H it) (k : ∀ b o, b ≠ it → s.heap.get? b = some o → h'.get? b = some o) : Inv X pins σ H { s with heap := h', toks := t' } := by
 obtain ⟨f0, f1, f2, f3, f4, f5⟩ := fa
 exact I.turned k f0 f1 f3 f4 f5
theorem ZLb {pins : List (Addr × Obj)} {σ : St} {H : Hp} (hc : X.calm = true) (F : ZDw X.prog X.w X.K X.mg X.base CX0 k f fd ps sp) (hr : Room k X.A.in1) (hb : ZDo X.K fd ps []) {l I S : Addr} {us : List V} (kf : Nat → Int) (hSI : S ≠ I) (hS : SqT X.K H l us)
  (fI : ZFD X pins H I) (fS : ZFD X pins H S) (turn : ∀ i v, us[i]? = some v → ∀ Q : VK, Q (.int (kf i)) H → sp [v] H Q E0) {R : Result → Shared → Prop}
  (hR : ∀ i v u s', us[i]? = some v → ZDy v u → (∀ j, j < us.length → kf i ≤ kf j ∧ (j < i → kf i < kf j)) → Inv X pins σ H s' → R (.ok (.ret u)) s') :
  ∀ (r j i : Nat) (s : Shared) (v : V) (vb : Value) (tb : Tok) (c : Nat), us.length - (j + 1) = r → j + 1 ≤ us.length → Inv X pins σ H s → s.heap.get? S = some (seqObj "list" #[vb, .int (kf i) tb] c) → s.heap.IsTupleIter I l (j + 1) →
   us[i]? = some v → ZDy v vb → i ≤ j → (∀ j', j' ≤ j → kf i ≤ kf j' ∧ (j' < i → kf i < kf j')) →
   codeAny (model X.prog X.w) X.A (.builtin "min.loop" ⟨[.ref I, .ref f, .ref S], []⟩) R s := by
 have hname : (toString "min" ++ toString ".loop" : String) = "min.loop" := by decide
 intro r
 induction r with
 | zero =>
  intro j i s v vb tb c hr' hj J nS hit hv rv hij hbest
  have hin : j + 1 = us.length := by omega
  obtain ⟨its, rvs, p, hz⟩ := J.tuple hS
  have hl := rvs.length
  refine codeAny_builtin PySem.F.entry_min_loop ?_
  rw [Around.under_plainId PySem.F.plain_min_loop _]
  show wpAny _ X.A.in1 (seqItems? (.ref S) >>= _) _ _ _
  refine wpAny_bind (wpAny_seqItems nS rfl ?_)
  show wpAny _ X.A.in1 (tryCatch (pyNext (.ref I)) _ >>= _) _ _ _
  refine wpAny_bind (wpAny_tryCatch (wpAny_pyNext_tuple_end (J.ok.hd hc) hit (show s.heap.IsTuple l its.toArray from p) (by simp; omega) fun h' eb => ?_))
  have J1 : Inv X pins σ H { s with heap := h' } := J.turnedAt (t' := s.toks) fI fun b o hb e => eb b o hb e
  have hS' : h'.get? S = some (seqObj "list" #[vb, .int (kf i) tb] c) := eb S _ hSI nS
  show wpAny _ X.A.in1 (updateSeq S (fun _ => #[]) >>= _) _ _ _
  refine wpAny_bind ?_
  refine wpAny_updateSeq hS' rfl (wpAny_bind (wpAny_letGo (wpAny_pure ?_)))
  exact hR i v vb _ hv rv (fun j' hj' => hbest j' (by omega)) (J1.turnedAt (t' := s.toks) fS fun b o hb e => (Heap.get?_update_other _ _ (Ne.symm hb)).trans e)
 | succ r ih =>
  intro j i s v vb tb c hr' hj J nS hit hv rv hij hbest
  have hlt : j + 1 < us.length := by omega
  obtain ⟨its, rvs, p, hz⟩ := J.tuple hS
  have hx : us[j + 1]? = some us[j + 1] := List.getElem?_eq_getElem hlt
  obtain ⟨u, hu, ru⟩ := rvs.get hx
  refine codeAny_builtin PySem.F.entry_min_loop ?_
  rw [Around.under_plainId PySem.F.plain_min_loop _]
  show wpAny _ X.A.in1 (seqItems? (.ref S) >>= _) _ _ _
  refine wpAny_bind (wpAny_seqItems nS rfl ?_)
  show wpAny _ X.A.in1 (tryCatch (pyNext (.ref I)) _ >>= _) _ _ _
  refine wpAny_bind (wpAny_tryCatch (wpAny_pyNext_tuple_item hit (show s.heap.IsTuple l its.toArray from p) (x := u) (by simpa using hu) fun h' st' sb => ?_))
  have J1 : Inv X pins σ H { s with heap := h' } := J.turnedAt (t' := s.toks) fI fun b o hb e => (sb.2 b hb).trans e
  have hS' : h'.get? S = some (seqObj "list" #[vb, .int (kf i) tb] c) := (sb.2 S hSI).trans nS
  obtain ⟨oI, hoI, hoc, hod⟩ := id st'
  have J2 := J1.pin2 (s := { s with heap := h' }) fS fI hS' hoI (fun v z => by cases z) (fun v z => by rw [hod] at z; cases z)
  show wpAny _ X.A.in1 (tryCatch (holding [u] (call (.ref f) [u])) _ >>= _) _ _ _
  refine wpAny_bind (wpAny_tryCatch (wpAny_holding (wpAny_mono (ZJG (E1 := fun _ _ => False) F hr hb J2 (.cons ru .nil) (turn (j + 1) _ hx (fun v H' => v = .int (kf (j + 1)) ∧ H' = H) ⟨rfl, rfl⟩)) (fun x s'' he => ?_) fun _ _ hF => hF.elim)))
  obtain ⟨v2, H2, J3, r2, e2, e3⟩ := he
  subst e2 e3
  obtain ⟨t2, rfl⟩ := r2
  obtain ⟨nS2, nI2, J4⟩ := J3.unpin2
  have hit2 : s''.heap.IsTupleIter I l (j + 1 + 1) := ⟨oI, nI2, hoc, hod⟩
  show wpAny _ X.A.in1 (tryCatch (holding [u, .int (kf (j + 1)) t2] (richCompare .Lt (.int (kf (j + 1)) t2) (.int (kf i) tb) >>= _)) _ >>= _) _ _ _
  refine wpAny_bind (wpAny_tryCatch (wpAny_holding (wpAny_bind (CmpOf.ints_lt (prog := X.prog) (w := X.w) (A := X.A.in1) (P := fun i v => ∃ t, v = .int (kf i) t) kf (fun i v h => h) (j + 1) i _ _ _ _ _ ⟨t2, rfl⟩ ⟨tb, rfl⟩ ?_))))
  refine wpAny_bind (wpAny_holding (wpAny_truthy_bool ?_))
  refine wpAny_bind (wpAny_letGo (wpAny_pure ?_))
  by_cases hb' : kf (j + 1) < kf i
  ·obtain ⟨c2, hc2⟩ : ∃ c2, (s''.heap.update S (Obj.mapSeq fun _ => #[u, .int (kf (j + 1)) t2])).get? S = some (seqObj "list" #[u, .int (kf (j + 1)) t2] c2) := ⟨_, get?_update_seq nS2 fun _ => #[u, .int (kf (j + 1)) t2]⟩
   simp only [hb', decide_true, if_true]
   refine wpAny_bind ?_
   refine wpAny_updateSeq nS2 rfl (wpAny_bind (wpAny_letGo ?_))
   rw [hname]
   refine wpAny_pure ⟨plainId_quiet PySem.F.plain_min_loop _, ih (j + 1) (j + 1) _ _ u t2 c2 (by omega) hlt (J4.turnedAt (t' := s''.toks) fS fun b o hb e => (Heap.get?_update_other _ _ (Ne.symm hb)).trans e) hc2 ⟨oI, (Heap.get?_update_other _ _ hSI).trans nI2, hoc, hod⟩ hx ru (Nat.le_refl _) fun j' hj' => ?_⟩
   by_cases e : j' = j + 1
   ·subst e
    exact ⟨by omega, fun _ => by omega⟩
   ·have hb1 := hbest j' (by omega)
    have hb2 := hb1.1
    exact ⟨by omega, fun _ => by omega⟩
  ·simp only [hb', decide_false, Bool.false_eq_true, if_false]
   refine wpAny_bind (wpAny_letGo ?_)
   rw [hname]
   refine wpAny_pure ⟨plainId_quiet PySem.F.plain_min_loop _, ih (j + 1) i _ v vb tb c (by omega) hlt J4 nS2 hit2 hv rv (by omega) fun j' hj' => ?_⟩
   by_cases e : j' = j + 1
   ·subst e
    exact ⟨by omega, fun _ => by omega⟩
   ·exact hbest j' (by omega)
theorem ZLc {pins : List (Addr × Obj)} {σ : St} {H : Hp} {s : Shared} {Q : VK} {E1 : Value → Shared → Prop} (hc : X.calm = true) (F : ZDw X.prog X.w X.K X.mg X.base CX0 k f fd ps sp) (hr : Room k X.A.in1) (hb : ZDo X.K fd ps []) {l : Addr} {us : List V} (kf : Nat → Int) (J : Inv X pins σ H s) (hS : SqT X.K H l us) (hne : us ≠ [])
  (turn : ∀ i v, us[i]? = some v → ∀ Q : VK, Q (.int (kf i)) H → sp [v] H Q E0) (hQ : ∀ i v, us[i]? = some v → (∀ j, j < us.length → kf i ≤ kf j ∧ (j < i → kf i < kf j)) → Q v H) :
  wpAny (model X.prog X.w) X.A (call (.builtin "min") [.ref l] [(Str.ofString "key", .ref f)]) (EP X pins σ Q) E1 s := by
 have hname : (toString "min" ++ toString ".loop" : String) = "min.loop" := by decide
 have hpos : 0 < us.length := List.length_pos_iff.mpr hne
 obtain ⟨its, rvs, p, hz⟩ := J.tuple hS
 have hls : s.heap.IsTuple l its.toArray := p
 refine kmk_tree PySem.F.kind_min PySem.F.plain_min PySem.F.entry_min (kmk_min_key _ _) ?_
 show wpAny _ X.A.in1 (Builtin.Builtins.bindParams "min" ["key", "default"] 0 ⟨[], [(Str.ofString "key", .ref f)]⟩ >>= _) _ _ s
 refine wpAny_bind (wpAny_of_eq (show Builtin.Builtins.bindParams "min" ["key", "default"] 0 ⟨[], [(Str.ofString "key", .ref f)]⟩ = pure [some (.ref f), none] from rfl) ?_)
 refine wpAny_bind (wpAny_pure ?_)
 refine wpAny_bind (wpAny_pyIter_tuple hls ?_)
 refine wpAny_bind (wpAny_newList ?_ (Nat.zero_le _))
 rw [hname]
 refine wpAny_pure ⟨plainId_quiet PySem.F.plain_min_loop _, ?_⟩
 generalize hO : ({ cls := .type "tuple_iterator", data := .fields #[.ref l, .int 0 0] } : Obj) = O
 have hSs : (s.heap.push O).objs.size = s.heap.objs.size + 1 := size_push' ..
 have hSI : (s.heap.push O).objs.size ≠ s.heap.objs.size := by rw [hSs]; exact Nat.ne_of_gt (Nat.lt_succ_self _)
 have gI : ((s.heap.push O).push (seqObj "list" #[] 0)).get? s.heap.objs.size = some O := Heap.get?_push_of_some _ (Heap.get?_push_size _ (by rw [← hO]; rfl))
 have gS : ((s.heap.push O).push (seqObj "list" #[] 0)).get? (s.heap.push O).objs.size = some (seqObj "list" #[] 0) := Heap.get?_push_size _ rfl
 have fI : ZFD X pins H s.heap.objs.size := J.fpOk (Nat.le_refl _) (J.hok.fresh (Nat.le_refl _))
 have fS : ZFD X pins H (s.heap.push O).objs.size := J.fpOk (by rw [hSs]; exact Nat.le_succ _) (J.hok.fresh (by rw [hSs]; exact Nat.le_succ _))
 have J0 : Inv X pins σ H { s with heap := (s.heap.push O).push (seqObj "list" #[] 0) } := J.kept (t' := s.toks) fun b o e => Heap.get?_push_of_some _ (Heap.get?_push_of_some _ e)
 obtain ⟨its0, rvs0, p0, hz0⟩ := J0.tuple hS
 have hx : us[0]? = some us[0] := List.getElem?_eq_getElem hpos
 obtain ⟨u, hu, ru⟩ := rvs0.get hx
 refine codeAny_builtin PySem.F.entry_min_loop ?_
 rw [Around.under_plainId PySem.F.plain_min_loop _]
 show wpAny _ X.A.in1 (seqItems? (.ref _) >>= _) _ _ _
 refine wpAny_bind (wpAny_seqItems gS rfl ?_)
 show wpAny _ X.A.in1 (tryCatch (pyNext (.ref s.heap.objs.size)) _ >>= _) _ _ _
 refine wpAny_bind (wpAny_tryCatch (wpAny_pyNext_tuple_item (s := { s with heap := (s.heap.push O).push (seqObj "list" #[] 0) }) (i := 0) ⟨O, gI, by rw [← hO], by rw [← hO]; rfl⟩ (show ((s.heap.push O).push (seqObj "list" #[] 0)).IsTuple l its0.toArray from p0) (x := u) (by simpa using hu) fun h' st' sb => ?_))
 have J1 : Inv X pins σ H { s with heap := h' } := J0.turnedAt (t' := s.toks) fI fun b o hb e => (sb.2 b hb).trans e
 have hS' : h'.get? (s.heap.push O).objs.size = some (seqObj "list" #[] 0) := (sb.2 _ hSI).trans gS
 obtain ⟨oI, hoI, hoc, hod⟩ := id st'
 have J2 := J1.pin2 (s := { s with heap := h' }) fS fI hS' hoI (fun v z => by cases z) (fun v z => by rw [hod] at z; cases z)
 show wpAny _ X.A.in1 (tryCatch (holding [u] (call (.ref f) [u])) _ >>= _) _ _ _
 refine wpAny_bind (wpAny_tryCatch (wpAny_holding (wpAny_mono (ZJG (E1 := fun _ _ => False) F hr hb J2 (.cons ru .nil) (turn 0 _ hx (fun v H' => v = .int (kf 0) ∧ H' = H) ⟨rfl, rfl⟩)) (fun x s'' he => ?_) fun _ _ hF => hF.elim)))
 obtain ⟨v2, H2, J3, r2, e2, e3⟩ := he
 subst e2 e3
 obtain ⟨t2, rfl⟩ := r2
 obtain ⟨nS2, nI2, J4⟩ := J3.unpin2
 obtain ⟨c2, hc2⟩ : ∃ c2, (s''.heap.update (s.heap.push O).objs.size (Obj.mapSeq fun _ => #[u, .int (kf 0) t2])).get? (s.heap.push O).objs.size = some (seqObj "list" #[u, .int (kf 0) t2] c2) := ⟨_, get?_update_seq nS2 fun _ => #[u, .int (kf 0) t2]⟩
 show wpAny _ X.A.in1 (updateSeq (s.heap.push O).objs.size (fun _ => #[u, .int (kf 0) t2]) >>= _) _ _ _
 refine wpAny_bind ?_
 refine wpAny_updateSeq nS2 rfl ?_
 rw [hname]
 refine wpAny_pure ⟨plainId_quiet PySem.F.plain_min_loop _, ZLb hc F hr hb kf hSI hS fI fS turn (fun i v u s' hv rv hbest J' => ⟨v, _, J', rv, hQ i v hv hbest⟩) _ 0 0 _ _ u t2 c2 rfl hpos (J4.turnedAt (t' := s''.toks) fS fun b o hb e => (Heap.get?_update_other _ _ (Ne.symm hb)).trans e) hc2 ⟨oI, (Heap.get?_update_other _ _ hSI).trans nI2, hoc, hod⟩ hx ru (Nat.le_refl _) fun j' hj' => ?_⟩
 have e : j' = 0 := by omega
 subst e
 exact ⟨by omega, fun h => absurd h (Nat.lt_irrefl _)⟩
def ZJk (K : W.Frag) (sp : Sp) (vs : List V) (H : Hp) (Q : VK) : Prop := ∃ (l : Addr) (us : List V) (kf : Nat → Int), vs = [.ref l] ∧ SqT K H l us ∧ us ≠ [] ∧ (∀ i v, us[i]? = some v → ∀ Q : VK, Q (.int (kf i)) H → sp [v] H Q E0) ∧
 ∀ i v, us[i]? = some v → (∀ j, j < us.length → kf i ≤ kf j ∧ (j < i → kf i < kf j)) → Q v H
def ZMT (K : W.Frag) (sp : Sp) (t : TA) : TE := fun σ H Q => t σ H fun vs H1 => ZJk K sp vs H1 Q
theorem ZOH {x : Str} {e : Expr} {t : TA} {p kp kpos pos : Pos} (K : W.Frag) (hK : X.K = K) (hc : X.calm = true) (F : ZDw X.prog X.w X.K X.mg X.base CX0 k f fd ps sp) (hr : Room (k + 1) X.A) (hgm : Gl X "min") (hmm : X.mg "min" = none) (hg : Gl X x) (hm : X.mg x = some (.ref f)) (hb : ZDo X.K fd ps []) (ha : QA X [e] t)
  (hs : ZFg e = false := by rfl) (hd : (x == ("__debug__" : Str)) = false := by decide) : QE X (.Call (.Name "min" p) [e] [⟨some "key", .Name x kp, kpos⟩] pos) (ZMT K sp t) := by
 subst hK
 refine ⟨?_⟩
 intro pins s σ H Q I h
 refine wpAny_Call_Name_kw (ZGm I hgm hmm ZHv ?_ (by decide) (by decide))
 have hse := ZFO (e := e) (es := []) (env := X.env) hs
 refine PyProof.Rows.callWith_kw (thn (ha.h pos pins s σ H _ I h) fun us s1 ⟨vs, H1, I1, r1, q1⟩ => PyProof.Rows.kws_cons (ZG4 I1 hg hm (PyProof.Rows.kws_nil ?_) hd)) (by rw [hse]; rfl) (by rw [hse]; rfl)
 obtain ⟨l, ws, kf, e1, g1, g2, g3, g4⟩ := q1
 subst e1
 obtain ⟨u, rfl, ru⟩ := r1.one
 cases ru
 exact ZLc hc F hr.in1 hb kf I1 g1 g2 g3 g4
theorem ZOI {K : W.Frag} {H : Hp} {Q : VK} {sp : Sp} {l : Addr} {us : List V} (kf : Nat → Int) (h1 : SqT K H l us) (h2 : us ≠ []) (h3 : ∀ i v, us[i]? = some v → ∀ Q : VK, Q (.int (kf i)) H → sp [v] H Q E0)
 (h : ∀ i v, us[i]? = some v → (∀ j, j < us.length → kf i ≤ kf j ∧ (j < i → kf i < kf j)) → Q v H) : ZJk K sp [.ref l] H Q := ⟨l, us, kf, rfl, h1, h2, h3, h⟩
theorem ZM7 {K : W.Frag} {sp : Sp} {t : TA} {σ : St} {H : Hp} {Q : VK} (h : t σ H fun vs H1 => ZJk K sp vs H1 Q) : ZMT K sp t σ H Q := h
theorem ZLd {pins : List (Addr × Obj)} {σ : St} {H : Hp} (hc : X.calm = true) (F : ZDw X.prog X.w X.K X.mg X.base CX0 k f fd ps sp) (hr : Room k X.A.in1) (hb : ZDo X.K fd ps []) {l I S : Addr} {us : List V} (kf : Nat → Int) (hSI : S ≠ I) (hS : SqT X.K H l us)
  (fI : ZFD X pins H I) (fS : ZFD X pins H S) (turn : ∀ i v, us[i]? = some v → ∀ Q : VK, Q (.int (kf i)) H → sp [v] H Q E0) {R : Result → Shared → Prop}
  (hR : ∀ i v u s', us[i]? = some v → ZDy v u → (∀ j, j < us.length → kf i ≥ kf j ∧ (j < i → kf i > kf j)) → Inv X pins σ H s' → R (.ok (.ret u)) s') :
  ∀ (r j i : Nat) (s : Shared) (v : V) (vb : Value) (tb : Tok) (c : Nat), us.length - (j + 1) = r → j + 1 ≤ us.length → Inv X pins σ H s → s.heap.get? S = some (seqObj "list" #[vb, .int (kf i) tb] c) → s.heap.IsTupleIter I l (j + 1) →
   us[i]? = some v → ZDy v vb → i ≤ j → (∀ j', j' ≤ j → kf i ≥ kf j' ∧ (j' < i → kf i > kf j')) →
   codeAny (model X.prog X.w) X.A (.builtin "max.loop" ⟨[.ref I, .ref f, .ref S], []⟩) R s := by
 have hname : (toString "max" ++ toString ".loop" : String) = "max.loop" := by decide
 intro r
 induction r with
 | zero =>
  intro j i s v vb tb c hr' hj J nS hit hv rv hij hbest
  have hin : j + 1 = us.length := by omega
  obtain ⟨its, rvs, p, hz⟩ := J.tuple hS
  have hl := rvs.length
  refine codeAny_builtin PySem.F.entry_max_loop ?_
  rw [Around.under_plainId PySem.F.plain_max_loop _]
  show wpAny _ X.A.in1 (seqItems? (.ref S) >>= _) _ _ _
  refine wpAny_bind (wpAny_seqItems nS rfl ?_)
  show wpAny _ X.A.in1 (tryCatch (pyNext (.ref I)) _ >>= _) _ _ _
  refine wpAny_bind (wpAny_tryCatch (wpAny_pyNext_tuple_end (J.ok.hd hc) hit (show s.heap.IsTuple l its.toArray from p) (by simp; omega) fun h' eb => ?_))
  have J1 : Inv X pins σ H { s with heap := h' } := J.turnedAt (t' := s.toks) fI fun b o hb e => eb b o hb e
  have hS' : h'.get? S = some (seqObj "list" #[vb, .int (kf i) tb] c) := eb S _ hSI nS
  show wpAny _ X.A.in1 (updateSeq S (fun _ => #[]) >>= _) _ _ _
  refine wpAny_bind ?_
  refine wpAny_updateSeq hS' rfl (wpAny_bind (wpAny_letGo (wpAny_pure ?_)))
  exact hR i v vb _ hv rv (fun j' hj' => hbest j' (by omega)) (J1.turnedAt (t' := s.toks) fS fun b o hb e => (Heap.get?_update_other _ _ (Ne.symm hb)).trans e)
 | succ r ih =>
  intro j i s v vb tb c hr' hj J nS hit hv rv hij hbest
  have hlt : j + 1 < us.length := by omega
  obtain ⟨its, rvs, p, hz⟩ := J.tuple hS
  have hx : us[j + 1]? = some us[j + 1] := List.getElem?_eq_getElem hlt
  obtain ⟨u, hu, ru⟩ := rvs.get hx
  refine codeAny_builtin PySem.F.entry_max_loop ?_
  rw [Around.under_plainId PySem.F.plain_max_loop _]
  show wpAny _ X.A.in1 (seqItems? (.ref S) >>= _) _ _ _
  refine wpAny_bind (wpAny_seqItems nS rfl ?_)
  show wpAny _ X.A.in1 (tryCatch (pyNext (.ref I)) _ >>= _) _ _ _
  refine wpAny_bind (wpAny_tryCatch (wpAny_pyNext_tuple_item hit (show s.heap.IsTuple l its.toArray from p) (x := u) (by simpa using hu) fun h' st' sb => ?_))
  have J1 : Inv X pins σ H { s with heap := h' } := J.turnedAt (t' := s.toks) fI fun b o hb e => (sb.2 b hb).trans e
  have hS' : h'.get? S = some (seqObj "list" #[vb, .int (kf i) tb] c) := (sb.2 S hSI).trans nS
  obtain ⟨oI, hoI, hoc, hod⟩ := id st'
  have J2 := J1.pin2 (s := { s with heap := h' }) fS fI hS' hoI (fun v z => by cases z) (fun v z => by rw [hod] at z; cases z)
  show wpAny _ X.A.in1 (tryCatch (holding [u] (call (.ref f) [u])) _ >>= _) _ _ _
  refine wpAny_bind (wpAny_tryCatch (wpAny_holding (wpAny_mono (ZJG (E1 := fun _ _ => False) F hr hb J2 (.cons ru .nil) (turn (j + 1) _ hx (fun v H' => v = .int (kf (j + 1)) ∧ H' = H) ⟨rfl, rfl⟩)) (fun x s'' he => ?_) fun _ _ hF => hF.elim)))
  obtain ⟨v2, H2, J3, r2, e2, e3⟩ := he
  subst e2 e3
  obtain ⟨t2, rfl⟩ := r2
  obtain ⟨nS2, nI2, J4⟩ := J3.unpin2
  have hit2 : s''.heap.IsTupleIter I l (j + 1 + 1) := ⟨oI, nI2, hoc, hod⟩
  show wpAny _ X.A.in1 (tryCatch (holding [u, .int (kf (j + 1)) t2] (richCompare .Gt (.int (kf (j + 1)) t2) (.int (kf i) tb) >>= _)) _ >>= _) _ _ _
  refine wpAny_bind (wpAny_tryCatch (wpAny_holding (wpAny_bind (CmpOf.ints_gt (prog := X.prog) (w := X.w) (A := X.A.in1) (P := fun i v => ∃ t, v = .int (kf i) t) kf (fun i v h => h) (j + 1) i _ _ _ _ _ ⟨t2, rfl⟩ ⟨tb, rfl⟩ ?_))))
  refine wpAny_bind (wpAny_holding (wpAny_truthy_bool ?_))
  refine wpAny_bind (wpAny_letGo (wpAny_pure ?_))
  by_cases hb' : kf (j + 1) > kf i
  ·obtain ⟨c2, hc2⟩ : ∃ c2, (s''.heap.update S (Obj.mapSeq fun _ => #[u, .int (kf (j + 1)) t2])).get? S = some (seqObj "list" #[u, .int (kf (j + 1)) t2] c2) := ⟨_, get?_update_seq nS2 fun _ => #[u, .int (kf (j + 1)) t2]⟩
   simp only [hb', decide_true, if_true]
   refine wpAny_bind ?_
   refine wpAny_updateSeq nS2 rfl (wpAny_bind (wpAny_letGo ?_))
   rw [hname]
   refine wpAny_pure ⟨plainId_quiet PySem.F.plain_max_loop _, ih (j + 1) (j + 1) _ _ u t2 c2 (by omega) hlt (J4.turnedAt (t' := s''.toks) fS fun b o hb e => (Heap.get?_update_other _ _ (Ne.symm hb)).trans e) hc2 ⟨oI, (Heap.get?_update_other _ _ hSI).trans nI2, hoc, hod⟩ hx ru (Nat.le_refl _) fun j' hj' => ?_⟩
   by_cases e : j' = j + 1
   ·subst e
    exact ⟨by omega, fun _ => by omega⟩
   ·have hb1 := hbest j' (by omega)
    have hb2 := hb1.1
    exact ⟨by omega, fun _ => by omega⟩
  ·simp only [hb', decide_false, Bool.false_eq_true, if_false]
   refine wpAny_bind (wpAny_letGo ?_)
   rw [hname]
   refine wpAny_pure ⟨plainId_quiet PySem.F.plain_max_loop _, ih (j + 1) i _ v vb tb c (by omega) hlt J4 nS2 hit2 hv rv (by omega) fun j' hj' => ?_⟩
   by_cases e : j' = j + 1
   ·subst e
    exact ⟨by omega, fun _ => by omega⟩
   ·exact hbest j' (by omega)
theorem ZLe {pins : List (Addr × Obj)} {σ : St} {H : Hp} {s : Shared} {Q : VK} {E1 : Value → Shared → Prop} (hc : X.calm = true) (F : ZDw X.prog X.w X.K X.mg X.base CX0 k f fd ps sp) (hr : Room k X.A.in1) (hb : ZDo X.K fd ps []) {l : Addr} {us : List V} (kf : Nat → Int) (J : Inv X pins σ H s) (hS : SqT X.K H l us) (hne : us ≠ [])
  (turn : ∀ i v, us[i]? = some v → ∀ Q : VK, Q (.int (kf i)) H → sp [v] H Q E0) (hQ : ∀ i v, us[i]? = some v → (∀ j, j < us.length → kf i ≥ kf j ∧ (j < i → kf i > kf j)) → Q v H) :
  wpAny (model X.prog X.w) X.A (call (.builtin "max") [.ref l] [(Str.ofString "key", .ref f)]) (EP X pins σ Q) E1 s := by
 have hname : (toString "max" ++ toString ".loop" : String) = "max.loop" := by decide
 have hpos : 0 < us.length := List.length_pos_iff.mpr hne
 obtain ⟨its, rvs, p, hz⟩ := J.tuple hS
 have hls : s.heap.IsTuple l its.toArray := p
 refine kmk_tree PySem.F.kind_max PySem.F.plain_max PySem.F.entry_max (kmk_max_key _ _) ?_
 show wpAny _ X.A.in1 (Builtin.Builtins.bindParams "max" ["key", "default"] 0 ⟨[], [(Str.ofString "key", .ref f)]⟩ >>= _) _ _ s
 refine wpAny_bind (wpAny_of_eq (show Builtin.Builtins.bindParams "max" ["key", "default"] 0 ⟨[], [(Str.ofString "key", .ref f)]⟩ = pure [some (.ref f), none] from rfl) ?_)
 refine wpAny_bind (wpAny_pure ?_)
 refine wpAny_bind (wpAny_pyIter_tuple hls ?_)
 refine wpAny_bind (wpAny_newList ?_ (Nat.zero_le _))
 rw [hname]
 refine wpAny_pure ⟨plainId_quiet PySem.F.plain_max_loop _, ?_⟩
 generalize hO : ({ cls := .type "tuple_iterator", data := .fields #[.ref l, .int 0 0] } : Obj) = O
 have hSs : (s.heap.push O).objs.size = s.heap.objs.size + 1 := size_push' ..
 have hSI : (s.heap.push O).objs.size ≠ s.heap.objs.size := by rw [hSs]; exact Nat.ne_of_gt (Nat.lt_succ_self _)
 have gI : ((s.heap.push O).push (seqObj "list" #[] 0)).get? s.heap.objs.size = some O := Heap.get?_push_of_some _ (Heap.get?_push_size _ (by rw [← hO]; rfl))
 have gS : ((s.heap.push O).push (seqObj "list" #[] 0)).get? (s.heap.push O).objs.size = some (seqObj "list" #[] 0) := Heap.get?_push_size _ rfl
 have fI : ZFD X pins H s.heap.objs.size := J.fpOk (Nat.le_refl _) (J.hok.fresh (Nat.le_refl _))
 have fS : ZFD X pins H (s.heap.push O).objs.size := J.fpOk (by rw [hSs]; exact Nat.le_succ _) (J.hok.fresh (by rw [hSs]; exact Nat.le_succ _))
 have J0 : Inv X pins σ H { s with heap := (s.heap.push O).push (seqObj "list" #[] 0) } := J.kept (t' := s.toks) fun b o e => Heap.get?_push_of_some _ (Heap.get?_push_of_some _ e)
 obtain ⟨its0, rvs0, p0, hz0⟩ := J0.tuple hS
 have hx : us[0]? = some us[0] := List.getElem?_eq_getElem hpos
 obtain ⟨u, hu, ru⟩ := rvs0.get hx
 refine codeAny_builtin PySem.F.entry_max_loop ?_
 rw [Around.under_plainId PySem.F.plain_max_loop _]
 show wpAny _ X.A.in1 (seqItems? (.ref _) >>= _) _ _ _
 refine wpAny_bind (wpAny_seqItems gS rfl ?_)
 show wpAny _ X.A.in1 (tryCatch (pyNext (.ref s.heap.objs.size)) _ >>= _) _ _ _
 refine wpAny_bind (wpAny_tryCatch (wpAny_pyNext_tuple_item (s := { s with heap := (s.heap.push O).push (seqObj "list" #[] 0) }) (i := 0) ⟨O, gI, by rw [← hO], by rw [← hO]; rfl⟩ (show ((s.heap.push O).push (seqObj "list" #[] 0)).IsTuple l its0.toArray from p0) (x := u) (by simpa using hu) fun h' st' sb => ?_))
 have J1 : Inv X pins σ H { s with heap := h' } := J0.turnedAt (t' := s.toks) fI fun b o hb e => (sb.2 b hb).trans e
 have hS' : h'.get? (s.heap.push O).objs.size = some (seqObj "list" #[] 0) := (sb.2 _ hSI).trans gS
 obtain ⟨oI, hoI, hoc, hod⟩ := id st'
 have J2 := J1.pin2 (s := { s with heap := h' }) fS fI hS' hoI (fun v z => by cases z) (fun v z => by rw [hod] at z; cases z)
 show wpAny _ X.A.in1 (tryCatch (holding [u] (call (.ref f) [u])) _ >>= _) _ _ _
 refine wpAny_bind (wpAny_tryCatch (wpAny_holding (wpAny_mono (ZJG (E1 := fun _ _ => False) F hr hb J2 (.cons ru .nil) (turn 0 _ hx (fun v H' => v = .int (kf 0) ∧ H' = H) ⟨rfl, rfl⟩)) (fun x s'' he => ?_) fun _ _ hF => hF.elim)))
 obtain ⟨v2, H2, J3, r2, e2, e3⟩ := he
 subst e2 e3
 obtain ⟨t2, rfl⟩ := r2
 obtain ⟨nS2, nI2, J4⟩ := J3.unpin2
 obtain ⟨c2, hc2⟩ : ∃ c2, (s''.heap.update (s.heap.push O).objs.size (Obj.mapSeq fun _ => #[u, .int (kf 0) t2])).get? (s.heap.push O).objs.size = some (seqObj "list" #[u, .int (kf 0) t2] c2) := ⟨_, get?_update_seq nS2 fun _ => #[u, .int (kf 0) t2]⟩
 show wpAny _ X.A.in1 (updateSeq (s.heap.push O).objs.size (fun _ => #[u, .int (kf 0) t2]) >>= _) _ _ _
 refine wpAny_bind ?_
 refine wpAny_updateSeq nS2 rfl ?_
 rw [hname]
 refine wpAny_pure ⟨plainId_quiet PySem.F.plain_max_loop _, ZLd hc F hr hb kf hSI hS fI fS turn (fun i v u s' hv rv hbest J' => ⟨v, _, J', rv, hQ i v hv hbest⟩) _ 0 0 _ _ u t2 c2 rfl hpos (J4.turnedAt (t' := s''.toks) fS fun b o hb e => (Heap.get?_update_other _ _ (Ne.symm hb)).trans e) hc2 ⟨oI, (Heap.get?_update_other _ _ hSI).trans nI2, hoc, hod⟩ hx ru (Nat.le_refl _) fun j' hj' => ?_⟩
 have e : j' = 0 := by omega
 subst e
 exact ⟨by omega, fun h => absurd h (Nat.lt_irrefl _)⟩
def ZJl (K : W.Frag) (sp : Sp) (vs : List V) (H : Hp) (Q : VK) : Prop := ∃ (l : Addr) (us : List V) (kf : Nat → Int), vs = [.ref l] ∧ SqT K H l us ∧ us ≠ [] ∧ (∀ i v, us[i]? = some v → ∀ Q : VK, Q (.int (kf i)) H → sp [v] H Q E0) ∧
 ∀ i v, us[i]? = some v → (∀ j, j < us.length → kf i ≥ kf j ∧ (j < i → kf i > kf j)) → Q v H
def ZMU (K : W.Frag) (sp : Sp) (t : TA) : TE := fun σ H Q => t σ H fun vs H1 => ZJl K sp vs H1 Q
theorem ZOJ {x : Str} {e : Expr} {t : TA} {p kp kpos pos : Pos} (K : W.Frag) (hK : X.K = K) (hc : X.calm = true) (F : ZDw X.prog X.w X.K X.mg X.base CX0 k f fd ps sp) (hr : Room (k + 1) X.A) (hgm : Gl X "max") (hmm : X.mg "max" = none) (hg : Gl X x) (hm : X.mg x = some (.ref f)) (hb : ZDo X.K fd ps []) (ha : QA X [e] t)
  (hs : ZFg e = false := by rfl) (hd : (x == ("__debug__" : Str)) = false := by decide) : QE X (.Call (.Name "max" p) [e] [⟨some "key", .Name x kp, kpos⟩] pos) (ZMU K sp t) := by
 subst hK
 refine ⟨?_⟩
 intro pins s σ H Q I h
 refine wpAny_Call_Name_kw (ZGm I hgm hmm ZHu ?_ (by decide) (by decide))
 have hse := ZFO (e := e) (es := []) (env := X.env) hs
 refine PyProof.Rows.callWith_kw (thn (ha.h pos pins s σ H _ I h) fun us s1 ⟨vs, H1, I1, r1, q1⟩ => PyProof.Rows.kws_cons (ZG4 I1 hg hm (PyProof.Rows.kws_nil ?_) hd)) (by rw [hse]; rfl) (by rw [hse]; rfl)
 obtain ⟨l, ws, kf, e1, g1, g2, g3, g4⟩ := q1
 subst e1
 obtain ⟨u, rfl, ru⟩ := r1.one
 cases ru
 exact ZLe hc F hr.in1 hb kf I1 g1 g2 g3 g4
theorem ZOK {K : W.Frag} {H : Hp} {Q : VK} {sp : Sp} {l : Addr} {us : List V} (kf : Nat → Int) (h1 : SqT K H l us) (h2 : us ≠ []) (h3 : ∀ i v, us[i]? = some v → ∀ Q : VK, Q (.int (kf i)) H → sp [v] H Q E0)
 (h : ∀ i v, us[i]? = some v → (∀ j, j < us.length → kf i ≥ kf j ∧ (j < i → kf i > kf j)) → Q v H) : ZJl K sp [.ref l] H Q := ⟨l, us, kf, rfl, h1, h2, h3, h⟩
theorem ZM8 {K : W.Frag} {sp : Sp} {t : TA} {σ : St} {H : Hp} {Q : VK} (h : t σ H fun vs H1 => ZJl K sp vs H1 Q) : ZMU K sp t σ H Q := h
end
section
variable {X : Cx}
end
section
variable {prog : Program} {w : World} {A : Around} {E : Value → Shared → Prop}
end
section
variable {X : Cx}
end
section
variable {X : Cx} {o e value : Expr} {f m : Str} {pos pos' tpos apos : Pos} {ta tv : TE} {t : TA}
def ZVL (K : W.Frag) (f : Str) (x : V) (H : Hp) (Q : VK) : Prop := ∃ a C dx fs v, x = .ref a ∧ H a = some (.ins C dx fs) ∧ Cls K C ∧ ZEU K C f ∧ fs.lookup f = some v ∧ Q v H
def ZSB (K : W.Frag) (f : Str) (y x : V) (H : Hp) (R : Hp → Prop) : Prop := ∃ a C dx fs, x = .ref a ∧ H a = some (.ins C dx fs) ∧ Cls K C ∧ ZEU K C f ∧ fs.length < 1000 ∧ R (upd H a (.ins C dx (ZD9 f y fs)))
theorem ZEG (K : W.Frag) (hK : X.K = K) (he : QE X e ta) (hb : attributeBase e f X.env (eval e X.env) = eval e X.env := by rfl) : QE X (.Attribute e f pos) (ZQU K ta f) := by
 subst hK
 exact ⟨ZUU he.h hb⟩
theorem ZE3 (K : W.Frag) (hK : X.K = K) (ho : QE X o ta) (hv : QE X value tv) (hs : ZFq value = false := by rfl) : QS X (.Assign [.Attribute o f pos'] value pos) (ZQV K ta tv f) := by
 subst hK
 exact ⟨ZUV ho.h hv.h (ZHA hs)⟩
theorem ZLK (K : W.Frag) (hK : X.K = K) (ho : QE X o ta) (hv : QE X value tv) : QS X (.AugAssign (.Attribute o f tpos) .Add value pos) (ZKf K ta tv ZLw f) := by
 subst hK
 exact ⟨ZOz ho.h hv.h ZUW⟩
section
variable {CX : CXT} {k : Nat} {fa C : Addr} {fd : FuncData} {ps : List Str} {sp : Sp} {dvs : List V} {ds : List Value} {E : XK} {es : List Expr} {x : Str} {p : Pos}
theorem ZEm {pl : Sem Bool} (he : QE X o ta) (c : Cls X.K C) (hm : ZEk X.K C m fa) (F : ZDw X.prog X.w X.K X.mg X.base CX k fa fd ps sp) (hr : Room k X.A) (hb : ZDo X.K fd ps ds) (hd : ZD0 dvs ds) (hx : ZE7 CX X E) (ha : QA X (e :: es) t) (hns : ZEg (e :: es) = true := by rfl)
 (ht : eval (.Call (.Attribute o m apos) (e :: es) [] pos) X.env = (do
  let ov ← eval o X.env
  standAt apos.atName
  let (f, first) ← holding [ov] (getMethod ov m pl)
  callWith pos f first (backTo pos (starEach (e :: es) X.env)) (backToKw pos (keywordEach [] X.env))) := by rfl) :
 QE X (.Call (.Attribute o m apos) (e :: es) [] pos) (ZKA C m sp dvs E ta t) := ⟨ZSd he.h c hm F hr hb hd hx ha.h (ZGY hns) (ZF7 (ZGB hns)) ht⟩
theorem ZF8 {pl : Sem Bool} (he : QE X o ta) (c : Cls X.K C) (hm : ZEk X.K C m fa) (F : ZDw X.prog X.w X.K X.mg X.base CX k fa fd ps sp) (hr : Room k X.A) (hb : ZDo X.K fd ps ds) (hd : ZD0 dvs ds) (hx : ZE7 CX X E)
 (ht : eval (.Call (.Attribute o m apos) [] [] pos) X.env = (do
  let ov ← eval o X.env
  standAt apos.atName
  let (f, first) ← holding [ov] (getMethod ov m pl)
  callWith pos f first (backTo pos (starEach [] X.env)) (backToKw pos (keywordEach [] X.env))) := by rfl) :
 QE X (.Call (.Attribute o m apos) [] [] pos) (ZKA C m sp dvs E ta ZJa) := ⟨ZQY he.h c hm F hr hb hd hx ht⟩
theorem ZNZ (M : Mk X.K C fa) (F : ZDw X.prog X.w X.K X.mg X.base CX k fa fd ps sp) (hr : Room (k + 1) X.A) (hg : Gl X x) (hm : X.mg x = some (.ref C)) (hb : ZDo X.K fd ps ds) (hd : ZD0 dvs ds) (hx : ZE7 CX X E) (ha : QA X (e :: es) t)
 (hns : ZEg (e :: es) = true := by rfl) (hdb : (x == ("__debug__" : Str)) = false := by decide) : QE X (.Call (.Name x p) (e :: es) [] pos) (ZKB C sp dvs E t) := ⟨ZSe M F hr hg hm hb hd hx ha.h hdb (ZGY hns) (ZF7 (ZGB hns))⟩
theorem ZRG (M : Mk X.K C fa) (F : ZDw X.prog X.w X.K X.mg X.base CX k fa fd ps sp) (hr : Room (k + 1) X.A) (hg : Gl X x) (hm : X.mg x = some (.ref C)) (hb : ZDo X.K fd ps ds) (hd : ZD0 dvs ds) (hx : ZE7 CX X E)
 (hdb : (x == ("__debug__" : Str)) = false := by decide) : QE X (.Call (.Name x p) [] [] pos) (ZKB C sp dvs E ZJa) := ⟨ZQZ M F hr hg hm hb hd hx hdb⟩
end
end
section
variable {K : W.Frag} {σ : St} {H : Hp} {Q : VK} {D : ZEp} {f m : Str} {ta tv : TE} {t : TA} {C : Addr} {sp : Sp} {dvs : List V} {E : XK}
theorem ZTS (h : ta σ H fun x H1 => ZVL K f x H1 Q) : ZQU K ta f σ H Q := h
theorem ZEO {a dx : Addr} {fs : List (Str × V)} {v : V} (h1 : H a = some (.ins C dx fs)) (c : Cls K C) (n : ZEU K C f) (l : fs.lookup f = some v) (q : Q v H) : ZVL K f (.ref a) H Q := ⟨a, C, dx, fs, v, rfl, h1, c, n, l, q⟩
theorem ZRH (h : tv σ H fun y H1 => ta σ H1 fun x H2 => ZSB K f y x H2 (D.nx σ)) : ZQV K ta tv f D σ H := h
theorem ZEs {a dx : Addr} {fs : List (Str × V)} {y : V} {R : Hp → Prop} (h1 : H a = some (.ins C dx fs)) (c : Cls K C) (n : ZEU K C f) (l : fs.length < 1000) (q : ∀ H2, H2 a = some (.ins C dx (ZD9 f y fs)) → Kp a H H2 → R H2) : ZSB K f y (.ref a) H R := ⟨a, C, dx, fs, rfl, h1, c, n, l, q _ ZDu Kp.upd⟩
def ZNa (K : W.Frag) (f : Str) (tv : TE) (σ : St) (R : Hp → Prop) (x : V) (H : Hp) : Prop := ∃ a C dx fs v, x = .ref a ∧ H a = some (.ins C dx fs) ∧ Cls K C ∧ ZEU K C f ∧ fs.lookup f = some v ∧
 tv σ H fun y H2 => ZLw v y H2 fun z H3 => ∃ dx' fs', H3 a = some (.ins C dx' fs') ∧ fs'.length < 1000 ∧ R (upd H3 a (.ins C dx' (ZD9 f z fs')))
theorem ZOL (h : ta σ H fun x H1 => ZNa K f tv σ (D.nx σ) x H1) : ZKf K ta tv ZLw f D σ H := h
def ZPT (C : Addr) (m : Str) (x : V) (H : Hp) (R : Prop) : Prop := ∃ a dx fs, x = .ref a ∧ H a = some (.ins C dx fs) ∧ fs.lookup m = none ∧ R
theorem ZRI (h : ta σ H fun x H1 => ZPT C m x H1 (t σ H1 fun vs H2 => sp (x :: (vs ++ dvs)) H2 Q E)) : ZKA C m sp dvs E ta t σ H Q := h
theorem ZEF {a dx : Addr} {fs : List (Str × V)} {R : Prop} (h1 : H a = some (.ins C dx fs)) (l : fs.lookup m = none) (q : R) : ZPT C m (.ref a) H R := ⟨a, dx, fs, rfl, h1, l, q⟩
def ZSC (C : Addr) (sp : Sp) (dvs : List V) (E : XK) (vs : List V) (H : Hp) (Q : VK) : Prop := ∀ x dx, H x = none → H dx = none → dx ≠ x → sp (.ref x :: (vs ++ dvs)) (upd (upd H dx (.own x)) x (.ins C dx [])) (fun v H2 => v = .non ∧ Q (.ref x) H2) E
theorem ZRJ (h : t σ H fun vs H1 => ZSC C sp dvs E vs H1 Q) : ZKB C sp dvs E t σ H Q := h
theorem ZKp {vs : List V} (h : ∀ x dx H2, H x = none → H2 x = some (.ins C dx []) → ZDn H H2 → sp (.ref x :: (vs ++ dvs)) H2 (fun v H3 => v = .non ∧ Q (.ref x) H3) E) : ZSC C sp dvs E vs H Q := fun x dx hx hdx hne =>
 h x dx _ hx ZDu fun b o e => by rw [ZD6 (ZD4 e hx), ZD6 (ZD4 e hdx)]; exact e
end
structure ZMV (K : W.Frag) (x qual : Str) (st : Stmt) (f : Addr) (fd : FuncData) : Prop where
 ex : ∃ (oc : Value) (od : Option Addr) (dV kV doc pm : Value) (an : Option Addr) (cdv ct : Value) (osl : Array (Option Value)),
  fd = W.fnOf x qual (ZEf st) (ZEY st) (ZDl st) dV kV doc pm an cdv ct ∧ K.lookup f = some ⟨oc, od, .func fd, osl⟩ ∧ W.codeIn K cdv qual = true
 kp : W.keepIn K (.ref f) = true
theorem ZMV.ok {P : Program} {w : World} {K : W.Frag} {mg : Str → Option Value} {base : Heap} {x qual : Str} {st : Stmt} {f : Addr} {fd : FuncData} {N ps : List Str} {k : Nat} {sp : Sp} (F : ZMV K x qual st f fd) (S : ZDs N ps (ZDl st)) (len : ∀ vs H Q E, sp vs H Q E → vs.length = ps.length)
  (hbody : ∀ (cdv : Value) (A : Around) (outer : List Env) (s : Shared) (H : Hp) (vs : List V) (Q : VK) (E : XK), Room k (A.deeper (envOfC qual (ZDl st) s.heap.objs.size f cdv)) → sp vs H Q E →
   ∃ t, PSs (ZJb CX0 P w K mg base N qual (ZDl st) f cdv A outer s H E).nox (ZEY st) t ∧ t { nx := fun _ H' => Q .non H', rt := Q } (start N vs) H) : ZDw P w K mg base CX0 (k + 1) f fd ps sp := by
 obtain ⟨oc, od, dV, kV, doc, pm, an, cdv, ct, osl, rfl, lk, hcd⟩ := F.ex
 refine ZR0 lk hcd S len fun A outer s H vs Q E hr hsp => ?_
 obtain ⟨t, h, q⟩ := hbody cdv A outer s H vs Q E hr hsp
 exact ⟨t, h.nox, q⟩
section
variable {K : W.Frag} {σ : St} {H : Hp} {Q : VK} {f : Str} {tv td ty : TE} {C : Addr}
theorem ZKR {a dx : Addr} {fs : List (Str × V)} {v : V} {R : Hp → Prop} (h1 : H a = some (.ins C dx fs)) (c : Cls K C) (n : ZEU K C f) (l : fs.lookup f = some v)
 (q : tv σ H fun y H2 => ZLw v y H2 fun z H3 => ∃ dx' fs', H3 a = some (.ins C dx' fs') ∧ fs'.length < 1000 ∧ R (upd H3 a (.ins C dx' (ZD9 f z fs')))) : ZNa K f tv σ R (.ref a) H := ⟨a, C, dx, fs, v, rfl, h1, c, n, l, q⟩
def ZIo (a : Addr) (y : V) (H : Hp) (Q : VK) : Prop := ∃ o, ZEu H a y o ∧ Q (o.getD .non) H
def ZMW (ty : TE) (σ : St) (Q : VK) (x : V) (H : Hp) : Prop := ∃ a, x = .ref a ∧ IsD H a ∧ ty σ H fun y H2 => ZIo a y H2 Q
theorem ZPU (h : td σ H fun x H1 => ZMW ty σ Q x H1) : ZME td ty σ H Q := h
theorem ZIp {a : Addr} {kvs : List (List Key × V)} (h1 : H a = some (.dT kvs)) (q : ty σ H fun y H2 => ZIo a y H2 Q) : ZMW ty σ Q (.ref a) H := ⟨a, rfl, .inr ⟨kvs, .inl h1⟩, q⟩
theorem ZJm {a b : Addr} {kvs : List (List Key × V)} {k : List Key} (h1 : H a = some (.dT kvs)) (hb : H b = some (.tup (k.map kV))) (q : Q ((ZD7 kvs k).getD .non) H) : ZIo a (.ref b) H Q := ⟨_, ZEu.t h1 hb, q⟩
theorem ZPV {a : Addr} {kvs : List (Key × V)} (h1 : H a = some (.dK kvs)) (q : ty σ H fun y H2 => ZIo a y H2 Q) : ZMW ty σ Q (.ref a) H := ⟨a, rfl, .inl ⟨kvs, .inl h1⟩, q⟩
theorem ZRK {a : Addr} {m : PL} {i : Int} (h1 : H a = some (.dK (ZES m))) (q : Q (((ZEV m i).map V.int).getD .non) H) : ZIo a (.int i) H Q := ⟨_, ZEu.k (k := Sum.inl i) h1, by rw [ZH2]; exact q⟩
theorem ZHG {a b : Addr} {kvs : List (List Key × V)} {k : List Key} {v : V} {R : Hp → Prop} (h1 : H a = some (.dT kvs)) (hb : H b = some (.tup (k.map kV))) (hz : kvs.length < sizeLine) (h : ∀ H2, H2 a = some (.dT (ZEx kvs k v)) → Kp a H H2 → R H2) : ZN7 v (.ref a) (.ref b) H R :=
 ⟨a, _, rfl, ZIE.t h1 hb hz, h _ ZDu Kp.upd⟩
end
section
variable {X : Cx} {o e : Expr} {apos cpos pos p : Pos} {td ty to : TE}
theorem ZIJ (hu : X.A.units + 1 < cLine) (ho : QE X o td) (he : QE X e ty) (m : M1 X o "get" apos e cpos := by exact ⟨rfl, rfl, rfl, rfl⟩) : QE X (.Call (.Attribute o "get" apos) [e] [] cpos) (ZME td ty) := ⟨ZQ5 hu ho.h he.h m⟩
theorem ZJn : QE X (.Dict [] [] pos) ZMC := ⟨ZQ4⟩
def ZPW (H : Hp) (Q : VK) : Prop := ∀ p, H p = none → Q (.ref p) (upd H p (.dT []))
theorem ZPX {σ : St} {H : Hp} {Q : VK} (h : ZPW H Q) : ZMC σ H Q := h
theorem ZJo {H : Hp} {Q : VK} (h : ∀ p H2, H p = none → H2 p = some (.dT []) → ZDn H H2 → Q (.ref p) H2) : ZPW H Q := fun p hp => h p _ hp ZDu (ZDn.new hp)
end
theorem ZNb {K : W.Frag} {x qual : Str} {st : Stmt} {f : Addr} {oc : Value} {od an : Option Addr} {osl : Array (Option Value)} {dV kV doc pm cdv ct : Value} (l : K.lookup f = some ⟨oc, od, .func (W.fnOf x qual (ZEf st) (ZEY st) (ZDl st) dV kV doc pm an cdv ct), osl⟩)
 (c : W.codeIn K cdv qual = true) (k : W.keepIn K (.ref f) = true) : ZMV K x qual st f (W.fnOf x qual (ZEf st) (ZEY st) (ZDl st) dV kV doc pm an cdv ct) := ⟨⟨oc, od, dV, kV, doc, pm, an, cdv, ct, osl, rfl, l, c⟩, k⟩
def ZNc (K : W.Frag) (fd : FuncData) (ps : List Str) (x : Str) : Prop := ∀ (s : Shared) (u v : Value), K.In s.heap → BindsTo s fd ⟨[u], [(x, v)]⟩ (ps.zip [u, v])
section
variable {X : Cx} {k : Nat} {f C : Addr} {fd : FuncData} {ps : List Str} {sp : Sp} {x kw : Str} {p pos kpos : Pos} {e : Expr} {te : TE} {E : XK} {CX : CXT}
end
def Cov (B : Heap) (H' : Hp) (h0 h' : Heap) (fs : List Addr) : Prop := ∀ b o, h'.get? b = some o → b ∉ fs → ((∃ u, H' b = some u) ∨ ∃ o0, h0.get? b = some o0) → B.get? b = some o
section
variable {P : Program} {w : World} {H H' : Hp} {h0 h' h'' B : Heap} {fs : List Addr}
end
section
variable {P : Program} {w : World} {K : W.Frag} {mg : Str → Option Value} {base : Heap} {N : List Str} {qual : Str} {scope : Scope} {f : Addr} {cd : Value} {A : Around} {outer : List Env} {s : Shared} {H : Hp} {E : XK}
end
def ZOM (K : W.Frag) (C : Addr) : Prop := excIn K C [.type "ValueError", .type "Exception", .type "BaseException", .type "object"] "ValueError.__new__" = true
section
variable {P : Program} {w : World} {K : W.Frag} {mg : Str → Option Value} {base : Heap} {N : List Str} {qual : Str} {scope : Scope} {f : Addr} {cd : Value} {A : Around} {outer : List Env} {s : Shared} {H : Hp} {E : XK}
 {x : Str} {np cpos pos : Pos} {e₀ : Expr} {es : List Expr} {t : TA} {C : Addr}
end
section
variable {P : Program} {w : World} {K : W.Frag} {mg : Str → Option Value} {base : Heap}
end
section
variable {M : Model} {A : Around} {E : Value → Shared → Prop} {s : Shared}
end
section
variable {X : Cx} {pins : List (Addr × Obj)} {σ : St} {H : Hp} {s : Shared}
end
section
variable {X : Cx} {pins : List (Addr × Obj)} {σ : St} {H : Hp} {s : Shared} {e : Addr}
end
def Fl (X : Cx) (H1 : Hp) (s0 : Shared) (e : Addr) (C : Value) (H' : Hp) (s3 : Shared) : Prop := ∃ (a0 : Value) (B : Heap), s3.os = s0.os ∧ AllBare s3.gens ∧ Un (frs X.stack) [] H1 H' s0.heap s3.heap ∧ HOk X.prog X.w H' s3.heap ∧
 s0.heap.get? e = none ∧ H' e = none ∧ Heap.FlyingW B X.stack e C a0 s3.heap ∧ Cov B H' s0.heap s3.heap (frs X.stack)
section
variable {X : Cx} {pins : List (Addr × Obj)} {σ : St} {H1 H' : Hp} {s0 s3 : Shared} {e : Addr} {C : Value}
end
abbrev TX := St → Hp → VK → XK → Prop
def XP (X : Cx) (pins : List (Addr × Obj)) (σ : St) (E : XK) (ev : Value) (s' : Shared) : Prop := ∃ H1 s1 e C H', Inv X pins σ H1 s1 ∧ ev = .ref e ∧ Fl X H1 s1 e C H' s' ∧ E C none H'
section
variable {X : Cx} {k : Nat} {f C : Addr} {fd : FuncData} {ps : List Str} {sp : Sp} {dvs : List V} {ds : List Value} {E : XK} {x m : Str} {p pos apos : Pos} {e o : Expr} {es : List Expr} {ta : TE} {t : TA}
end
abbrev TBX := ZEp → XK → St → Hp → Prop
section
variable {X : Cx} {e : Expr} {t : TX} {pos pos' : Pos} {x : Str} {i : Nat}
end
abbrev TH := Value → ZEp → St → Hp → Prop
section
variable {X : Cx}
variable {x n : Str} {np pos : Pos} {T : Addr} {b₀ : Stmt} {suite : List Stmt} {ZFC : List ExceptHandler} {ts : Addr → TS} {tr : TH} {i : Nat}
end
section
variable {X : Cx} {body : List Stmt} {h₀ : ExceptHandler} {hs : List ExceptHandler} {pos : Pos} {tb : TBX} {th : TH}
end
end L2
namespace L2
open PySem PySem.Spec PyProof.Rows PySem.W PySem.Builtin PySem.Builtin.ObjectAttr PySem.Builtin.Getset_descriptor
structure ZON (K : W.Frag) (C : Addr) : Prop where
 ga : findIn K (.ref C) "__getattribute__" = some (some (.builtin "BaseException.__getattribute__"))
 gt : findIn K (.ref C) "__getattr__" = some none
 cl : findIn K (.ref C) "__class__" = some (some (.builtin "object.__class__"))
 ob : mroIn K C (.type "object") = some true
 be : mroIn K C (.type "BaseException") = some true
section
variable {prog : Program} {w : World} {A : Around} {E : Value → Shared → Prop} {h : Heap} {g : Array GenState} {d : Drawn} {t : Nat} {os : OsState} {a C : Addr} {o : Obj} {K : W.Frag}
end
section
variable {K : W.Frag}
end
section
variable {X : Cx}
end
section
variable {X : Cx} {k : Nat} {f : Addr} {fd : FuncData} {ps : List Str} {sp : Sp} {dvs : List V} {ds : List Value} {x : Str} {p pos : Pos} {e : Expr} {es : List Expr} {t : TA}
end
section
variable {K : W.Frag} {σ : St} {H : Hp} {Q : VK} {D : ZEp} {E : XK} {C T e : Addr} {t : TA} {tb : TBX} {th : TH} {ts : Addr → TS} {tr : TH} {i : Nat}
end
section
variable {P : Program} {w : World} {K : W.Frag} {mg : Str → Option Value} {base : Heap} {N : List Str} {qual : Str} {scope : Scope} {f : Addr} {cd : Value} {A : Around} {outer : List Env} {s : Shared} {H : Hp} {E : XK}
 {x : Str} {np cpos pos : Pos} {e₀ : Expr} {es : List Expr} {t : TA} {C : Addr}
end
section
variable {X : Cx}
end
section
variable {X : Cx}
end
section
variable {K : W.Frag} {H : Hp} {Q : VK} {σ : St}
variable {D : ZEp}
end
section
variable {M : Model} {A : Around} {Er : Value → Shared → Prop} {s : Shared} {Bs : Heap} {l outer : List Env} {env : Env} {x L : Addr} {c0 a0 fl : Value}
end
section
variable {P : Program} {w : World} {H H' : Hp} {h0 h' h'' Bs : Heap} {fs ex : List Addr}
def ZWJ (B : Heap) (c : Addr) : Heap := B.update c fun o => { o with data := .freed }
end
section
variable {P : Program} {w : World} {K : W.Frag} {mg : Str → Option Value} {base : Heap} {N : List Str} {qual : Str} {scope : Scope} {f : Addr} {cd : Value} {A : Around} {outer : List Env} {s : Shared} {H : Hp} {E : XK}
end
section
variable {X : Cx}
end
section
variable {P : Program} {w : World} {K : W.Frag} {mg : Str → Option Value} {base : Heap} {N : List Str} {qual : Str} {scope : Scope} {f : Addr} {cd : Value} {A : Around} {outer : List Env} {s : Shared} {H : Hp} {E : XK}
end
def fl (low tall : Int) (q : Int × Int) : Int := (q.1 - low * q.2) / (tall * q.2)
theorem ZLp {low tall r : Int} {q : Int × Int} (ht : 0 < tall) (hq : 0 < q.2) : r ≤ fl low tall q ↔ (low + r * tall) * q.2 ≤ q.1 := by
 unfold fl
 rw [Int.le_ediv_iff_mul_le (Int.mul_pos ht hq), Int.add_mul, Int.mul_assoc]
 omega
theorem ZVy {low tall r : Int} {q : Int × Int} (ht : 0 < tall) (hq : 0 < q.2) : fl low tall q ≤ r ↔ q.1 < (low + (r + 1) * tall) * q.2 := by
 have := ZLp (low := low) (r := r + 1) ht hq
 omega
theorem ZTT {low tall : Int} {p q : Int × Int} (ht : 0 < tall) (hp : 0 < p.2) (hq : 0 < q.2) (h : q.1 * p.2 ≤ p.1 * q.2) : fl low tall q ≤ fl low tall p := by
 rw [ZLp ht hp]
 have h1 := (ZLp (low := low) (r := fl low tall q) ht hq).mp (Int.le_refl _)
 generalize low + fl low tall q * tall = c at *
 have h2 : c * q.2 * p.2 ≤ q.1 * p.2 := Int.mul_le_mul_of_nonneg_right h1 (by omega)
 have e : c * q.2 * p.2 = c * p.2 * q.2 := by rw [Int.mul_assoc, Int.mul_comm q.2 p.2, ← Int.mul_assoc]
 have h3 : c * p.2 * q.2 ≤ p.1 * q.2 := by omega
 exact Int.le_of_mul_le_mul_right h3 hq
def mx (i j : Int) : Int := if j > i then j else i
def mn (i j : Int) : Int := if j < i then j else i
def ZFV (fs : List Int) (rows : Int) (o : Option (Int × Int)) : Prop :=
 (fs = [] ∧ o = none) ∨ ∃ m M, m ∈ fs ∧ (∀ f ∈ fs, m ≤ f) ∧ M ∈ fs ∧ (∀ f ∈ fs, f ≤ M) ∧ o = if max m 0 ≤ min M (rows - 1) then some (max m 0, min M (rows - 1)) else none
theorem ZFV.unique {fs : List Int} {rows : Int} {o o' : Option (Int × Int)} (h : ZFV fs rows o) (g : ZFV fs rows o') : o = o' := by
 rcases h with ⟨e, h⟩ | ⟨m, M, h1, h2, h3, h4, h5⟩
 ·rcases g with ⟨_, g⟩ | ⟨m, M, g1, _⟩
  ·rw [h, g]
  ·rw [e] at g1; cases g1
 ·rcases g with ⟨e, g⟩ | ⟨m', M', g1, g2, g3, g4, g5⟩
  ·rw [e] at h1; cases h1
  ·have e1 : m = m' := Int.le_antisymm (h2 _ g1) (g2 _ h1)
   have e2 : M = M' := Int.le_antisymm (g4 _ h3) (h4 _ g3)
   subst e1 e2
   rw [h5, g5]
def frP (a b : Int × Int) (t : Int) : Int × Int := (a.2 * (b.1 - a.1) + (b.2 - a.2) * (t - a.1), b.1 - a.1)
def ZEI (x z : Int) (ab : (Int × Int) × (Int × Int)) : PL := if ab.1.1 < z ∧ x < ab.2.1 then [frP ab.1 ab.2 (mx x ab.1.1), frP ab.1 ab.2 (mn z ab.2.1)] else []
def ZKS (cv : PL) (x z : Int) : PL := (cv.zip (cv.drop 1)).flatMap (ZEI x z)
def inCol (cv : PL) (b e : Int) : PL := cv.filter fun p => decide (b ≤ p.1) && decide (p.1 < e)
def ZE4 (cv : PL) (x z : Int) : PL := (inCol cv x z).map (fun p => (p.2, 1)) ++ ZKS cv x z
theorem ZIq {cv : PL} (h : Asc cv) {i : Nat} {a b : Int × Int} (h1 : cv[i]? = some a) (h2 : (cv.drop 1)[i]? = some b) : a.1 < b.1 := by
 rw [List.getElem?_drop] at h2
 have hi := (List.getElem?_eq_some_iff.mp h1)
 have hj := (List.getElem?_eq_some_iff.mp h2)
 have := List.pairwise_iff_getElem.mp h i (1 + i) hi.1 hj.1 (by omega)
 rw [hi.2, hj.2] at this
 exact this
theorem ZKq {cv : PL} {i : Nat} {a b : Int × Int} (h1 : cv[i]? = some a) (h2 : (cv.drop 1)[i]? = some b) : (cv.zip (cv.drop 1))[i]? = some (a, b) := by
 rw [List.getElem?_zip_eq_some]
 exact ⟨h1, h2⟩
theorem ZTU {cv : PL} {x z : Int} (h : Asc cv) : ∀ q ∈ ZE4 cv x z, 0 < q.2 := by
 intro q hq
 rcases List.mem_append.mp hq with hq | hq
 ·obtain ⟨p, _, rfl⟩ := List.mem_map.mp hq
  show (0 : Int) < 1
  decide
 ·unfold ZKS at hq
  obtain ⟨ab, hab, hq⟩ := List.mem_flatMap.mp hq
  obtain ⟨i, hi, e⟩ := List.getElem_of_mem hab
  have e' : (cv.zip (cv.drop 1))[i]? = some ab := by rw [List.getElem?_eq_getElem hi, e]
  obtain ⟨h1, h2⟩ := List.getElem?_zip_eq_some.mp e'
  have hlt := ZIq h h1 h2
  unfold ZEI at hq
  split at hq
  ·simp only [List.mem_cons, List.not_mem_nil, or_false] at hq
   rcases hq with rfl | rfl <;> (show 0 < ab.2.1 - ab.1.1; omega)
  ·cases hq
def ZFJ (lo hi : Int) (n : Nat) : List Int := ((List.range n).map fun (i : Nat) => (0 + (i : Int))).filter fun r => decide (lo ≤ r) && decide (r ≤ hi)
theorem ZGK {lo hi r : Int} {n : Nat} : r ∈ ZFJ lo hi n ↔ (0 ≤ r ∧ r < n) ∧ lo ≤ r ∧ r ≤ hi := by
 unfold ZFJ
 rw [List.mem_filter, List.mem_map]
 constructor
 ·rintro ⟨⟨i, hi, rfl⟩, h⟩
  have := List.mem_range.mp hi
  simp at h
  omega
 ·rintro ⟨⟨h1, h2⟩, h3, h4⟩
  exact ⟨⟨r.toNat, List.mem_range.mpr (by omega), by omega⟩, by simp [h3, h4]⟩
theorem ZLL (lo hi : Int) (n : Nat) : (ZFJ lo hi n).Pairwise (· < ·) := by
 unfold ZFJ
 refine List.Pairwise.filter _ ?_
 rw [List.pairwise_map]
 exact List.pairwise_lt_range.imp fun h => by omega
theorem ZTV {l : List Int} {a : Int} (h : l.Pairwise (· < ·)) (h0 : l[0]? = some a) : ∀ b ∈ l, a ≤ b := by
 cases l with
 | nil => simp at h0
 | cons c l =>
  simp at h0
  subst h0
  rw [List.pairwise_cons] at h
  intro b hb
  rcases List.mem_cons.mp hb with rfl | hb
  ·exact Int.le_refl _
  ·exact Int.le_of_lt (h.1 b hb)
theorem ZTW {l : List Int} {a : Int} (h : l.Pairwise (· < ·)) (h0 : l[l.length - 1]? = some a) : ∀ b ∈ l, b ≤ a := by
 intro b hb
 obtain ⟨i, hi, e⟩ := List.getElem_of_mem hb
 obtain ⟨hl, e2⟩ := List.getElem?_eq_some_iff.mp h0
 by_cases z : i = l.length - 1
 ·subst z
  rw [← e, e2]
  exact Int.le_refl _
 ·have := List.pairwise_iff_getElem.mp h i (l.length - 1) hi hl (by omega)
  rw [e, e2] at this
  exact Int.le_of_lt this
theorem ZRL {fs : List Int} {rows m M : Int} (h0 : 0 ≤ rows) (h1 : m ∈ fs) (h2 : ∀ f ∈ fs, m ≤ f) (h3 : M ∈ fs) (h4 : ∀ f ∈ fs, f ≤ M) :
  (ZFJ m M rows.toNat = [] → ZFV fs rows none) ∧ ∀ a b, (ZFJ m M rows.toNat)[0]? = some a → (ZFJ m M rows.toNat)[(ZFJ m M rows.toNat).length - 1]? = some b → ZFV fs rows (some (a, b)) := by
 have en : ((rows.toNat : Nat) : Int) = rows := Int.toNat_of_nonneg h0
 constructor
 ·intro e
  refine .inr ⟨m, M, h1, h2, h3, h4, ?_⟩
  rw [if_neg]
  intro hle
  have : max m 0 ∈ ZFJ m M rows.toNat := ZGK.mpr ⟨⟨by omega, by omega⟩, by omega, by omega⟩
  rw [e] at this
  cases this
 ·intro a b ha hb
  have ma := ZGK.mp (List.mem_of_getElem? ha)
  have mb := ZGK.mp (List.mem_of_getElem? hb)
  have hm : max m 0 ∈ ZFJ m M rows.toNat := ZGK.mpr ⟨⟨by omega, by omega⟩, by omega, by omega⟩
  have hM : min M (rows - 1) ∈ ZFJ m M rows.toNat := ZGK.mpr ⟨⟨by omega, by omega⟩, by omega, by omega⟩
  have l1 := ZTV (ZLL _ _ _) ha _ hm
  have l2 := ZTW (ZLL _ _ _) hb _ hM
  refine .inr ⟨m, M, h1, h2, h3, h4, ?_⟩
  rw [if_pos (by omega)]
  congr 2
  ·omega
  ·omega
def InT (cv : PL) : Prop := ∀ p ∈ cv, (-(10 ^ 64) < p.1 ∧ p.1 < 10 ^ 64) ∧ -(10 ^ 64) < p.2 ∧ p.2 < 10 ^ 64
section
variable {X : Cx}
end
def Adj (cv : PL) (a b : Int × Int) : Prop := a ∈ cv ∧ b ∈ cv ∧ a.1 < b.1 ∧ ∀ c ∈ cv, ¬ (a.1 < c.1 ∧ c.1 < b.1)
theorem ZFk {cv : PL} (h : Asc cv) {i j : Nat} (hi : i < cv.length) (hj : j < cv.length) (hij : i < j) : cv[i].1 < cv[j].1 := List.pairwise_iff_getElem.mp h i j hi hj hij
theorem ZKr {cv : PL} (h : Asc cv) {a b : Int × Int} (ha : a ∈ cv) (hb : b ∈ cv) (e : a.1 = b.1) : a = b := by
 obtain ⟨i, hi, rfl⟩ := List.getElem_of_mem ha
 obtain ⟨j, hj, rfl⟩ := List.getElem_of_mem hb
 rcases Nat.lt_trichotomy i j with hij | hij | hij
 ·have := ZFk h hi hj hij; omega
 ·subst hij; rfl
 ·have := ZFk h hj hi hij; omega
theorem ZNd {cv : PL} (h : Asc cv) {a b : Int × Int} : (a, b) ∈ cv.zip (cv.drop 1) ↔ Adj cv a b := by
 constructor
 ·intro hab
  obtain ⟨i, hi, e⟩ := List.getElem_of_mem hab
  have e' : (cv.zip (cv.drop 1))[i]? = some (a, b) := by rw [List.getElem?_eq_getElem hi, e]
  obtain ⟨h1, h2⟩ := List.getElem?_zip_eq_some.mp e'
  have hlt := ZIq h h1 h2
  rw [List.getElem?_drop] at h2
  obtain ⟨hi1, e1⟩ := List.getElem?_eq_some_iff.mp h1
  obtain ⟨hi2, e2⟩ := List.getElem?_eq_some_iff.mp h2
  have e1 : cv[i] = a := e1
  have e2 : cv[1 + i] = b := e2
  refine ⟨List.mem_of_getElem? h1, List.mem_of_getElem? h2, hlt, ?_⟩
  rintro c hc ⟨g1, g2⟩
  obtain ⟨j, hj, rfl⟩ := List.getElem_of_mem hc
  by_cases hij : j ≤ i
  ·rcases Nat.lt_or_eq_of_le hij with hij | hij
   ·have := ZFk h hj hi1 hij
    rw [e1] at this
    omega
   ·subst hij
    rw [e1] at g1
    omega
  ·by_cases hij2 : j = 1 + i
   ·subst hij2
    rw [e2] at g2
    omega
   ·have := ZFk h hi2 hj (by omega)
    rw [e2] at this
    omega
 ·rintro ⟨ha, hb, hlt, hno⟩
  obtain ⟨i, hi, e1⟩ := List.getElem_of_mem ha
  obtain ⟨j, hj, e2⟩ := List.getElem_of_mem hb
  have hij : i < j := by
   rcases Nat.lt_trichotomy i j with hij | hij | hij
   ·exact hij
   ·subst hij
    rw [e1] at e2
    subst e2
    omega
   ·have := ZFk h hj hi hij
    rw [e1, e2] at this
    omega
  have hji : j = 1 + i := by
   by_cases z : j = 1 + i
   ·exact z
   ·exfalso
    have hk : 1 + i < cv.length := by omega
    refine hno cv[1 + i] (List.getElem_mem hk) ⟨?_, ?_⟩
    ·have := ZFk h hi hk (by omega)
     rw [e1] at this
     exact this
    ·have := ZFk h hk hj (by omega)
     rw [e2] at this
     exact this
  subst hji
  refine List.mem_of_getElem? (i := i) (ZKq ?_ ?_)
  ·rw [List.getElem?_eq_getElem hi, e1]
  ·rw [List.getElem?_drop, List.getElem?_eq_getElem hj, e2]
theorem ZFW {cv : PL} (h : Asc cv) {x z : Int} {q : Int × Int} : q ∈ ZE4 cv x z ↔ (∃ p ∈ cv, x ≤ p.1 ∧ p.1 < z ∧ q = (p.2, 1)) ∨ ∃ a b, Adj cv a b ∧ a.1 < z ∧ x < b.1 ∧ (q = frP a b (mx x a.1) ∨ q = frP a b (mn z b.1)) := by
 unfold ZE4
 rw [List.mem_append]
 constructor
 ·rintro (hq | hq)
  ·obtain ⟨p, hp, rfl⟩ := List.mem_map.mp hq
   obtain ⟨h1, h2⟩ := List.mem_filter.mp hp
   simp at h2
   exact .inl ⟨p, h1, h2.1, h2.2, rfl⟩
  ·unfold ZKS at hq
   obtain ⟨⟨a, b⟩, hab, hq⟩ := List.mem_flatMap.mp hq
   unfold ZEI at hq
   split at hq
   ·rename_i hc
    simp only [List.mem_cons, List.not_mem_nil, or_false] at hq
    exact .inr ⟨a, b, (ZNd h).mp hab, hc.1, hc.2, hq⟩
   ·cases hq
 ·rintro (⟨p, hp, h1, h2, rfl⟩ | ⟨a, b, hab, h1, h2, hq⟩)
  ·refine .inl (List.mem_map.mpr ⟨p, List.mem_filter.mpr ⟨hp, by simp [h1, h2]⟩, rfl⟩)
  ·refine .inr (List.mem_flatMap.mpr ⟨(a, b), (ZNd h).mpr hab, ?_⟩)
   unfold ZEI
   rw [if_pos ⟨h1, h2⟩]
   simp only [List.mem_cons, List.not_mem_nil, or_false]
   exact hq
theorem ZFV.dom {fs gs : List Int} {rows : Int} {o : Option (Int × Int)} (h : ZFV fs rows o) (d1 : ∀ f ∈ fs, (∃ g ∈ gs, g ≤ f) ∧ ∃ g ∈ gs, f ≤ g) (d2 : ∀ g ∈ gs, (∃ f ∈ fs, f ≤ g) ∧ ∃ f ∈ fs, g ≤ f) : ZFV gs rows o := by
 rcases h with ⟨rfl, rfl⟩ | ⟨m, M, h1, h2, h3, h4, h5⟩
 ·refine .inl ⟨?_, rfl⟩
  cases gs with
  | nil => rfl
  | cons g gs =>
   obtain ⟨f, hf, _⟩ := (d2 g List.mem_cons_self).1
   cases hf
 ·have lo : ∀ g ∈ gs, m ≤ g := fun g hg => by
   obtain ⟨f, hf, hfg⟩ := (d2 g hg).1
   exact Int.le_trans (h2 f hf) hfg
  have hi : ∀ g ∈ gs, g ≤ M := fun g hg => by
   obtain ⟨f, hf, hfg⟩ := (d2 g hg).2
   exact Int.le_trans hfg (h4 f hf)
  obtain ⟨g, hg, hgm⟩ := (d1 m h1).1
  obtain ⟨g', hg', hgM⟩ := (d1 M h3).2
  have e1 : g = m := Int.le_antisymm hgm (lo g hg)
  have e2 : g' = M := Int.le_antisymm (hi g' hg') hgM
  subst e1 e2
  exact .inr ⟨g, g', hg, lo, hg', hi, h5⟩
theorem ZMX {low tall h d : Int} (hd : 0 < d) : fl low tall (h * d, d) = fl low tall (h, 1) := by
 unfold fl
 show (h * d - low * d) / (tall * d) = (h - low * 1) / (tall * 1)
 rw [← Int.sub_mul, Int.mul_ediv_mul_of_pos_left _ _ hd, Int.mul_one, Int.mul_one]
theorem ZIK {low tall : Int} {a b : Int × Int} (h : a.1 < b.1) : fl low tall (frP a b a.1) = fl low tall (a.2, 1) := by
 have e : frP a b a.1 = (a.2 * (b.1 - a.1), b.1 - a.1) := by
  unfold frP
  rw [Int.sub_self, Int.mul_zero, Int.add_zero]
 rw [e, ZMX (by omega)]
theorem ZLM {low tall : Int} {a b : Int × Int} (h : a.1 < b.1) : fl low tall (frP a b b.1) = fl low tall (b.2, 1) := by
 have e : frP a b b.1 = (b.2 * (b.1 - a.1), b.1 - a.1) := by
  unfold frP
  rw [← Int.add_mul]
  congr 2
  omega
 rw [e, ZMX (by omega)]
theorem ZSD {low tall h k : Int} (ht : 0 < tall) (hh : h ≤ k) : fl low tall (h, 1) ≤ fl low tall (k, 1) := ZTT ht (show (0 : Int) < 1 by decide) (show (0 : Int) < 1 by decide) (by show h * 1 ≤ k * 1; omega)
def Kept (cv kp : PL) (b y m : Int) : Prop := (∀ p ∈ kp, p ∈ cv ∧ b ≤ p.1 ∧ p.1 < b + m * y) ∧ ∀ k : Int, 0 ≤ k → k < m → ∀ p ∈ cv, b + k * y ≤ p.1 → p.1 < b + k * y + y →
 (∃ f ∈ kp, b + k * y ≤ f.1 ∧ f.1 ≤ p.1) ∧ (∃ f ∈ kp, p.1 ≤ f.1 ∧ f.1 < b + k * y + y) ∧ (∃ f ∈ kp, b + k * y ≤ f.1 ∧ f.1 < b + k * y + y ∧ f.2 ≤ p.2) ∧ ∃ f ∈ kp, b + k * y ≤ f.1 ∧ f.1 < b + k * y + y ∧ p.2 ≤ f.2
theorem col_of {b y m t : Int} (hy : 0 < y) (h1 : b ≤ t) (h2 : t < b + m * y) : ∃ j, 0 ≤ j ∧ j < m ∧ b + j * y ≤ t ∧ t < b + j * y + y := by
 refine ⟨(t - b) / y, Int.ediv_nonneg (by omega) (by omega), ?_, ?_, ?_⟩
 ·exact Int.ediv_lt_of_lt_mul hy (by omega)
 ·have := Int.ediv_mul_le (t - b) (Int.ne_of_gt hy)
  omega
 ·have := Int.lt_ediv_add_one_mul_self (t - b) hy
  rw [Int.add_mul, Int.one_mul] at this
  omega
theorem ZKT {b y j k t : Int} (hy : 0 < y) (h1 : b + j * y ≤ t) (h2 : t < b + k * y) : b + j * y + y ≤ b + k * y := by
 have hjk : j < k := Int.lt_of_mul_lt_mul_right (a := y) (by omega) (by omega)
 have : (j + 1) * y ≤ k * y := Int.mul_le_mul_of_nonneg_right (by omega) (by omega)
 rw [Int.add_mul, Int.one_mul] at this
 omega
theorem ZOO {b y j k t : Int} (hy : 0 < y) (h1 : t < b + j * y + y) (h2 : b + k * y ≤ t) : b + k * y ≤ b + j * y := by
 have hjk : k < j + 1 := Int.lt_of_mul_lt_mul_right (a := y) (by rw [Int.add_mul, Int.one_mul]; omega) (by omega)
 have : k * y ≤ j * y := Int.mul_le_mul_of_nonneg_right (by omega) (by omega)
 omega
theorem ZDv {cv : PL} {b e : Int} {p : Int × Int} : p ∈ inCol cv b e ↔ p ∈ cv ∧ b ≤ p.1 ∧ p.1 < e := by
 unfold inCol
 rw [List.mem_filter]
 simp
theorem ZMY {cv kp : PL} {b y m : Int} (hy : 0 < y) (hasc : Asc cv) (hk : Kept cv kp b y m) {p q : Int × Int} (hadj : Adj (inCol cv b (b + m * y)) p q) {k : Int} (h1 : p.1 < b + k * y) (h2 : b + k * y ≤ q.1) : Adj (inCol kp b (b + m * y)) p q := by
 obtain ⟨hp, hq, hlt, hno⟩ := hadj
 obtain ⟨hp1, hp2, hp3⟩ := ZDv.mp hp
 obtain ⟨hq1, hq2, hq3⟩ := ZDv.mp hq
 have pk : p ∈ kp := by
  obtain ⟨j, j1, j2, j3, j4⟩ := col_of hy hp2 hp3
  obtain ⟨f, hf, f1, f2⟩ := (hk.2 j j1 j2 p hp1 j3 j4).2.1
  have hfc := hk.1 f hf
  have := ZKT hy j3 h1
  have hn := hno f (ZDv.mpr hfc)
  have : f.1 = p.1 := by omega
  rw [← ZKr hasc hfc.1 hp1 this]
  exact hf
 have qk : q ∈ kp := by
  obtain ⟨j, j1, j2, j3, j4⟩ := col_of hy hq2 hq3
  obtain ⟨f, hf, f1, f2⟩ := (hk.2 j j1 j2 q hq1 j3 j4).1
  have hfc := hk.1 f hf
  have := ZOO hy j4 h2
  have hn := hno f (ZDv.mpr hfc)
  have : f.1 = q.1 := by omega
  rw [← ZKr hasc hfc.1 hq1 this]
  exact hf
 refine ⟨ZDv.mpr ⟨pk, hp2, hp3⟩, ZDv.mpr ⟨qk, hq2, hq3⟩, hlt, fun c hc => hno c ?_⟩
 exact ZDv.mpr (hk.1 c (ZDv.mp hc).1)
theorem ZMZ {cv kp : PL} {b y m : Int} (hy : 0 < y) (hasc : Asc cv) (hk : Kept cv kp b y m) {p q : Int × Int} (hadj : Adj (inCol kp b (b + m * y)) p q) {k : Int} (h1 : p.1 < b + k * y) (h2 : b + k * y ≤ q.1) : Adj (inCol cv b (b + m * y)) p q := by
 obtain ⟨hp, hq, hlt, hno⟩ := hadj
 obtain ⟨hp1, hp2, hp3⟩ := ZDv.mp hp
 obtain ⟨hq1, hq2, hq3⟩ := ZDv.mp hq
 refine ⟨ZDv.mpr (hk.1 p hp1), ZDv.mpr (hk.1 q hq1), hlt, fun c hc ⟨c1, c2⟩ => ?_⟩
 obtain ⟨hc1, hc2, hc3⟩ := ZDv.mp hc
 obtain ⟨j, j1, j2, j3, j4⟩ := col_of hy hc2 hc3
 obtain ⟨⟨f, hf, f1, f2⟩, ⟨g, hg, g1, g2⟩, _⟩ := hk.2 j j1 j2 c hc1 j3 j4
 have hfc := hno f (ZDv.mpr ⟨hf, (hk.1 f hf).2⟩)
 have hgc := hno g (ZDv.mpr ⟨hg, (hk.1 g hg).2⟩)
 have : b + j * y ≤ p.1 := by omega
 have := ZKT hy this h1
 omega
theorem ZPY {cv kp : PL} {b y m low tall rows k : Int} {o : Option (Int × Int)} (hy : 0 < y) (ht : 0 < tall) (hasc : Asc cv) (hak : Asc kp) (hk : Kept cv kp b y m) (k0 : 0 ≤ k) (k1 : k < m)
  (h : ZFV ((ZE4 (inCol cv b (b + m * y)) (b + k * y) (b + k * y + y)).map (fl low tall)) rows o) : ZFV ((ZE4 (inCol kp b (b + m * y)) (b + k * y) (b + k * y + y)).map (fl low tall)) rows o := by
 have ac : Asc (inCol cv b (b + m * y)) := List.Pairwise.filter _ hasc
 have ak : Asc (inCol kp b (b + m * y)) := List.Pairwise.filter _ hak
 have hz : b + k * y + y = b + (k + 1) * y := by rw [Int.add_mul, Int.one_mul]; omega
 have smp : ∀ p, p ∈ cv → b + k * y ≤ p.1 → p.1 < b + k * y + y → (∃ g ∈ (ZE4 (inCol kp b (b + m * y)) (b + k * y) (b + k * y + y)).map (fl low tall), g ≤ fl low tall (p.2, 1)) ∧ ∃ g ∈ (ZE4 (inCol kp b (b + m * y)) (b + k * y) (b + k * y + y)).map (fl low tall), fl low tall (p.2, 1) ≤ g := by
  intro p hp h1 h2
  obtain ⟨_, _, ⟨f, hf, f1, f2, f3⟩, ⟨g, hg, g1, g2, g3⟩⟩ := hk.2 k k0 k1 p hp h1 h2
  refine ⟨⟨_, List.mem_map_of_mem ((ZFW ak).mpr (.inl ⟨f, ZDv.mpr ⟨hf, (hk.1 f hf).2⟩, f1, f2, rfl⟩)), ZSD ht f3⟩, ⟨_, List.mem_map_of_mem ((ZFW ak).mpr (.inl ⟨g, ZDv.mpr ⟨hg, (hk.1 g hg).2⟩, g1, g2, rfl⟩)), ZSD ht g3⟩⟩
 have smp2 : ∀ p, p ∈ kp → b + k * y ≤ p.1 → p.1 < b + k * y + y → fl low tall (p.2, 1) ∈ (ZE4 (inCol cv b (b + m * y)) (b + k * y) (b + k * y + y)).map (fl low tall) := fun p hp h1 h2 =>
  List.mem_map_of_mem ((ZFW ac).mpr (.inl ⟨p, ZDv.mpr (hk.1 p hp), h1, h2, rfl⟩))
 refine h.dom (fun f hf => ?_) (fun g hg => ?_)
 ·obtain ⟨q, hq, rfl⟩ := List.mem_map.mp hf
  have same : ∀ {q'}, q' ∈ ZE4 (inCol kp b (b + m * y)) (b + k * y) (b + k * y + y) → (∃ g ∈ (ZE4 (inCol kp b (b + m * y)) (b + k * y) (b + k * y + y)).map (fl low tall), g ≤ fl low tall q') ∧ ∃ g ∈ (ZE4 (inCol kp b (b + m * y)) (b + k * y) (b + k * y + y)).map (fl low tall), fl low tall q' ≤ g :=
   fun hq' => ⟨⟨_, List.mem_map_of_mem hq', Int.le_refl _⟩, ⟨_, List.mem_map_of_mem hq', Int.le_refl _⟩⟩
  rcases (ZFW ac).mp hq with ⟨p, hp, h1, h2, rfl⟩ | ⟨p, r, hadj, h1, h2, hqe⟩
  ·exact smp p (ZDv.mp hp).1 h1 h2
  ·have hlt := hadj.2.2.1
   rcases hqe with rfl | rfl
   ·unfold mx at *
    by_cases hc : p.1 > b + k * y
    ·rw [if_pos hc, ZIK hlt]
     exact smp p (ZDv.mp hadj.1).1 (by omega) h1
    ·rw [if_neg hc]
     by_cases hc2 : p.1 = b + k * y
     ·rw [show fl low tall (frP p r (b + k * y)) = fl low tall (p.2, 1) by rw [← hc2]; exact ZIK hlt]
      exact smp p (ZDv.mp hadj.1).1 (by omega) h1
     ·refine same ((ZFW ak).mpr (.inr ⟨p, r, ZMY hy hasc hk hadj (k := k) (by omega) (by omega), h1, h2, .inl ?_⟩))
      unfold mx
      rw [if_neg hc]
   ·unfold mn at *
    by_cases hc : r.1 < b + k * y + y
    ·rw [if_pos hc, ZLM hlt]
     exact smp r (ZDv.mp hadj.2.1).1 (by omega) hc
    ·rw [if_neg hc]
     refine same ((ZFW ak).mpr (.inr ⟨p, r, ZMY hy hasc hk hadj (k := k + 1) (by omega) (by omega), h1, h2, .inr ?_⟩))
     unfold mn
     rw [if_neg hc]
 ·obtain ⟨q, hq, rfl⟩ := List.mem_map.mp hg
  have fin : fl low tall q ∈ (ZE4 (inCol cv b (b + m * y)) (b + k * y) (b + k * y + y)).map (fl low tall) := by
   rcases (ZFW ak).mp hq with ⟨p, hp, h1, h2, rfl⟩ | ⟨p, r, hadj, h1, h2, hqe⟩
   ·exact smp2 p (ZDv.mp hp).1 h1 h2
   ·have hlt := hadj.2.2.1
    rcases hqe with rfl | rfl
    ·unfold mx at *
     by_cases hc : p.1 > b + k * y
     ·rw [if_pos hc, ZIK hlt]
      exact smp2 p (ZDv.mp hadj.1).1 (by omega) h1
     ·rw [if_neg hc]
      by_cases hc2 : p.1 = b + k * y
      ·rw [show fl low tall (frP p r (b + k * y)) = fl low tall (p.2, 1) by rw [← hc2]; exact ZIK hlt]
       exact smp2 p (ZDv.mp hadj.1).1 (by omega) h1
      ·refine List.mem_map_of_mem ((ZFW ac).mpr (.inr ⟨p, r, ZMZ hy hasc hk hadj (k := k) (by omega) (by omega), h1, h2, .inl ?_⟩))
       unfold mx
       rw [if_neg hc]
    ·unfold mn at *
     by_cases hc : r.1 < b + k * y + y
     ·rw [if_pos hc, ZLM hlt]
      exact smp2 r (ZDv.mp hadj.2.1).1 (by omega) hc
     ·rw [if_neg hc]
      refine List.mem_map_of_mem ((ZFW ac).mpr (.inr ⟨p, r, ZMZ hy hasc hk hadj (k := k + 1) (by omega) (by omega), h1, h2, .inr ?_⟩))
      unfold mn
      rw [if_neg hc]
  exact ⟨⟨_, fin, Int.le_refl _⟩, ⟨_, fin, Int.le_refl _⟩⟩
def Is4 (cv : PL) (o : Option (PL)) : Prop :=
 (o = none ∧ cv = []) ∨ ∃ q0 q1 q2 q3 : Int × Int, o = some [q0, q1, q2, q3] ∧ q0 ∈ cv ∧ q1 ∈ cv ∧ q2 ∈ cv ∧ q3 ∈ cv ∧
  ∀ p ∈ cv, q0.1 ≤ p.1 ∧ p.1 ≤ q1.1 ∧ (q2.2 < p.2 ∨ (q2.2 = p.2 ∧ q2.1 ≤ p.1)) ∧ (p.2 < q3.2 ∨ (p.2 = q3.2 ∧ q3.1 ≤ p.1))
theorem Is4.join {c1 c2 : PL} {a0 a1 a2 a3 b0 b1 b2 b3 : Int × Int} (h : Is4 c1 (some [a0, a1, a2, a3])) (g : Is4 c2 (some [b0, b1, b2, b3])) (hlt : ∀ p ∈ c1, ∀ q ∈ c2, p.1 < q.1) :
  Is4 (c1 ++ c2) (some [a0, b1, if a2.2 ≤ b2.2 then a2 else b2, if b3.2 ≤ a3.2 then a3 else b3]) := by
 rcases h with ⟨e, _⟩ | ⟨q0, q1, q2, q3, e, m0, m1, m2, m3, hb⟩
 ·cases e
 rcases g with ⟨e', _⟩ | ⟨r0, r1, r2, r3, e', n0, n1, n2, n3, gb⟩
 ·cases e'
 cases e
 cases e'
 refine .inr ⟨_, _, _, _, rfl, List.mem_append_left _ m0, List.mem_append_right _ n1, ?_, ?_, fun p hp => ?_⟩
 ·split
  ·exact List.mem_append_left _ m2
  ·exact List.mem_append_right _ n2
 ·split
  ·exact List.mem_append_left _ m3
  ·exact List.mem_append_right _ n3
 ·rcases List.mem_append.mp hp with hp | hp
  ·have k1 := hb p hp
   have k2 := hlt p hp _ n1
   have k3 := hlt p hp _ n2
   have k4 := hlt p hp _ n3
   refine ⟨k1.1, by omega, ?_, ?_⟩
   ·split <;> omega
   ·split <;> omega
  ·have k1 := gb p hp
   have k2 := hlt _ m0 p hp
   have k3 := hlt _ m2 p hp
   have k4 := hlt _ m3 p hp
   refine ⟨by omega, k1.2.1, ?_, ?_⟩
   ·split <;> omega
   ·split <;> omega
theorem Is4.of_none {cv : PL} (h : Is4 cv none) : cv = [] := by
 rcases h with ⟨_, e⟩ | ⟨q0, q1, q2, q3, e, _⟩
 ·exact e
 ·cases e
theorem Is4.minmax {cv : PL} {p0 p1 p2 p3 : Int × Int} {i2 i3 : Nat} (ha : Asc cv) (e0 : cv[0]? = some p0) (e1 : cv[cv.length - 1]? = some p1) (e2 : cv[i2]? = some p2) (e3 : cv[i3]? = some p3)
  (h2 : ∀ j, j < cv.length → (cv.getD i2 (0, 0)).2 ≤ (cv.getD j (0, 0)).2 ∧ (j < i2 → (cv.getD i2 (0, 0)).2 < (cv.getD j (0, 0)).2))
  (h3 : ∀ j, j < cv.length → (cv.getD i3 (0, 0)).2 ≥ (cv.getD j (0, 0)).2 ∧ (j < i3 → (cv.getD i3 (0, 0)).2 > (cv.getD j (0, 0)).2)) : Is4 cv (some [p0, p1, p2, p3]) := by
 obtain ⟨z0, y0⟩ := List.getElem?_eq_some_iff.mp e0
 obtain ⟨z1, y1⟩ := List.getElem?_eq_some_iff.mp e1
 obtain ⟨z2, y2⟩ := List.getElem?_eq_some_iff.mp e2
 obtain ⟨z3, y3⟩ := List.getElem?_eq_some_iff.mp e3
 have d : ∀ {j : Nat} (hj : j < cv.length), cv.getD j (0, 0) = cv[j] := fun {j} hj => by simp [hj]
 refine .inr ⟨p0, p1, p2, p3, rfl, List.mem_of_getElem? e0, List.mem_of_getElem? e1, List.mem_of_getElem? e2, List.mem_of_getElem? e3, fun p hp => ?_⟩
 obtain ⟨j, hj, rfl⟩ := List.getElem_of_mem hp
 have k2 := h2 j hj
 have k3 := h3 j hj
 rw [d z2, d hj, y2] at k2
 rw [d z3, d hj, y3] at k3
 refine ⟨?_, ?_, ?_, ?_⟩
 ·by_cases h : j = 0
  ·subst h; rw [y0]; exact Int.le_refl _
  ·have := ZFk ha z0 hj (by omega)
   rw [y0] at this
   omega
 ·by_cases h : j = cv.length - 1
  ·subst h; rw [y1]; exact Int.le_refl _
  ·have := ZFk ha hj z1 (by omega)
   rw [y1] at this
   omega
 ·by_cases h : i2 < j
  ·have := ZFk ha z2 hj h
   rw [y2] at this
   omega
  ·by_cases h' : j = i2
   ·subst h'; rw [y2]; omega
   ·have := k2.2 (by omega)
    omega
 ·by_cases h : i3 < j
  ·have := ZFk ha z3 hj h
   rw [y3] at this
   omega
  ·by_cases h' : j = i3
   ·subst h'; rw [y3]; omega
   ·have := k3.2 (by omega)
    omega
theorem ZTX {b y t i : Int} (hy : 0 < y) : (b + i * y ≤ t ∧ t < b + i * y + y) ↔ (t - b) / y = i := by
 have h1 := Int.emod_add_mul_ediv (t - b) y
 have h2 := Int.emod_nonneg (t - b) (show y ≠ 0 by omega)
 have h3 := Int.emod_lt_of_pos (t - b) hy
 constructor
 ·rintro ⟨g1, g2⟩
  refine (Int.ediv_emod_unique hy (r := t - b - i * y) (q := i)).mpr ⟨?_, by omega, by omega⟩ |>.1
  rw [Int.mul_comm y i]
  omega
 ·intro e
  rw [e, Int.mul_comm y i] at h1
  constructor <;> omega
def ZPZ (cv : PL) (b y : Int) (m : Nat) (fs : List (Option (PL))) : Prop := fs.length = m ∧ ∀ (k : Nat) o, fs[k]? = some o → Is4 (inCol cv (b + (k : Int) * y) (b + (k : Int) * y + y)) o
def Ch (e : Int) : Int → PL → Int → Prop
 | x, [], y => x = y
 | x, p :: r, y => (0 ≤ p.1 ∧ p.1 ≤ 40) ∧ p.2 * 2 ^ p.1.toNat = x ∧ x + 2 ^ p.1.toNat ≤ e ∧ (p.1 < 40 → x % (2 * 2 ^ p.1.toNat) = 0 → x + 2 * 2 ^ p.1.toNat ≤ e → False) ∧ Ch e (x + 2 ^ p.1.toNat) r y
theorem ZFK (k : Nat) : (0 : Int) < 2 ^ k := Int.pow_pos (by decide)
theorem Ch.le {e : Int} : ∀ {r : PL} {x y : Int}, Ch e x r y → x ≤ y
 | [], _, _, h => by cases h; exact Int.le_refl _
 | p :: r, x, y, h => by
  have := Ch.le h.2.2.2.2
  have := ZFK p.1.toNat
  omega
theorem Ch.snoc {e : Int} {p : Int × Int} : ∀ {r : PL} {x y : Int}, Ch e x r y → (0 ≤ p.1 ∧ p.1 ≤ 40) → p.2 * 2 ^ p.1.toNat = y → y + 2 ^ p.1.toNat ≤ e → (p.1 < 40 → y % (2 * 2 ^ p.1.toNat) = 0 → y + 2 * 2 ^ p.1.toNat ≤ e → False) → Ch e x (r ++ [p]) (y + 2 ^ p.1.toNat)
 | [], _, _, h, h1, h2, h3, h4 => by cases h; exact ⟨h1, h2, h3, h4, rfl⟩
 | _ :: _, _, _, h, h1, h2, h3, h4 => ⟨h.1, h.2.1, h.2.2.1, h.2.2.2.1, Ch.snoc h.2.2.2.2 h1 h2 h3 h4⟩
theorem ZIL {a b : Nat} (h : a ≤ b) : (2 : Int) ^ a ≤ 2 ^ b := by
 obtain ⟨c, rfl⟩ := Nat.exists_eq_add_of_le h
 rw [Int.pow_add]
 have h1 := ZFK a
 have h2 := ZFK c
 have h3 : (2 : Int) ^ a * 1 ≤ 2 ^ a * 2 ^ c := Int.mul_le_mul_of_nonneg_left (by omega) (by omega)
 omega
theorem ZHh {a b : Nat} (h : a ≤ b) : (2 : Int) ^ a ∣ 2 ^ b := by
 obtain ⟨c, rfl⟩ := Nat.exists_eq_add_of_le h
 rw [Int.pow_add]
 exact Int.dvd_mul_right _ _
theorem ZIM (k : Nat) : (2 : Int) * 2 ^ k = 2 ^ (k + 1) := by rw [Int.pow_succ]; omega
def Few (e : Int) (n : Nat) (x : Int) : Prop := ((2 : Int) ^ n ∣ x ∧ n ≤ 40 ∧ -(2 ^ 40) + (n : Int) ≤ x) ∨ ∃ m : Nat, (2 : Int) ^ m ∣ x ∧ e - x < 2 ^ m ∧ n + m ≤ 80
theorem Few.len {e x : Int} {n : Nat} (h : Few e n x) : n ≤ 80 := by
 rcases h with h | ⟨m, h⟩ <;> omega
theorem ZPa {a : Nat} {x : Int} (h : (2 : Int) ^ a ∣ x) (h1 : -(2 ^ a) < x) (h2 : x < 2 ^ a) : x = 0 := by
 obtain ⟨c, rfl⟩ := h
 have hp := ZFK a
 have hc : c = 0 := by
  by_cases h0 : c ≤ -1
  ·have : (2 : Int) ^ a * c ≤ 2 ^ a * (-1) := Int.mul_le_mul_of_nonneg_left h0 (by omega)
   omega
  ·by_cases h0' : 1 ≤ c
   ·have : (2 : Int) ^ a * 1 ≤ 2 ^ a * c := Int.mul_le_mul_of_nonneg_left h0' (by omega)
    omega
   ·omega
 rw [hc, Int.mul_zero]
theorem ZMa {e x : Int} {L : Nat} (he : e ≤ 2 ^ 40) (hx : -(2 ^ 40) ≤ x) (h1 : (2 : Int) ^ L ∣ x) (h2 : x + 2 ^ L ≤ e) : L ≤ 40 := by
 have hc : L ≤ 40 ∨ L = 41 ∨ 42 ≤ L := by omega
 rcases hc with h | rfl | h
 ·exact h
 ·exfalso
  obtain ⟨c, hc⟩ := h1
  have e1 : (2 : Int) ^ 41 = 2199023255552 := by decide
  have e2 : (2 : Int) ^ 40 = 1099511627776 := by decide
  rw [e1] at h2 hc
  rw [e2] at he hx
  omega
 ·exfalso
  have h3 := ZIL h
  have e1 : (2 : Int) ^ 42 = 4398046511104 := by decide
  have e2 : (2 : Int) ^ 40 = 1099511627776 := by decide
  rw [e1] at h3
  rw [e2] at he hx
  omega
theorem Few.step {e x : Int} {n L : Nat} (he : e ≤ 2 ^ 40) (hx : -(2 ^ 40) ≤ x) (h : Few e n x) (h1 : (2 : Int) ^ L ∣ x) (h2 : x + 2 ^ L ≤ e) (h3 : (2 : Int) ^ (L + 1) ∣ x → x + 2 ^ (L + 1) ≤ e → False) : Few e (n + 1) (x + 2 ^ L) := by
 have hL := ZMa he hx h1 h2
 have hp := ZFK L
 have es : (2 : Int) ^ (L + 1) = 2 * 2 ^ L := (ZIM L).symm
 rcases h with ⟨hd, hn, hb⟩ | ⟨m, hd, hm, hnm⟩
 ·by_cases ha : (2 : Int) ^ (L + 1) ∣ x
  ·-- limited by the end
   have h4 : ¬ x + 2 ^ (L + 1) ≤ e := fun z => h3 ha z
   by_cases h40 : L = 40
   ·subst h40
    have e2 : (2 : Int) ^ 40 = 1099511627776 := by decide
    have e3 : (2 : Int) ^ (40 + 1) = 2199023255552 := by decide
    have hx0 : x = 0 := ZPa ha (by rw [e3]; rw [e2] at hx; omega) (by rw [e3]; rw [e2] at h2 he; omega)
    subst hx0
    right
    refine ⟨0, Int.one_dvd _, ?_, by omega⟩
    rw [e2] at he h2 ⊢
    show e - (0 + 1099511627776) < 1
    omega
   ·right
    exact ⟨L, Int.dvd_add h1 (Int.dvd_refl _), by omega, by omega⟩
  ·-- limited by where it begins
   have hLn : n ≤ L := by
    by_cases hlt : n ≤ L
    ·exact hlt
    ·exact absurd (Int.dvd_trans (ZHh (by omega)) hd) ha
   have hd' : (2 : Int) ^ (L + 1) ∣ x + 2 ^ L := by
    obtain ⟨c, hc⟩ := h1
    have hodd : c % 2 = 1 := by
     by_cases h0 : c % 2 = 0
     ·exfalso
      apply ha
      refine ⟨c / 2, ?_⟩
      have : c = 2 * (c / 2) := by omega
      rw [hc, es]
      rw [Int.mul_comm 2 ((2 : Int) ^ L), Int.mul_assoc, ← this]
     ·omega
    refine ⟨(c + 1) / 2, ?_⟩
    have : c + 1 = 2 * ((c + 1) / 2) := by omega
    have h5 : x + 2 ^ L = 2 ^ L * (c + 1) := by rw [hc, Int.mul_add, Int.mul_one]
    rw [h5, es, Int.mul_comm 2 ((2 : Int) ^ L), Int.mul_assoc, ← this]
   left
   refine ⟨Int.dvd_trans (ZHh (by omega)) hd', ?_, by omega⟩
   by_cases h40 : L = 40
   ·subst h40
    have e2 : (2 : Int) ^ 40 = 1099511627776 := by decide
    obtain ⟨c, hc⟩ := h1
    rw [e2] at hc he h2 hx hb
    have : c ≠ 0 := by
     rintro rfl
     apply ha
     rw [hc]
     exact ⟨0, by omega⟩
    omega
   ·omega
 ·have hlt : L < m := by
   by_cases hlt : L < m
   ·exact hlt
   ·have := ZIL (show m ≤ L by omega)
    omega
  have ha : (2 : Int) ^ (L + 1) ∣ x := Int.dvd_trans (ZHh (by omega)) hd
  have h4 : ¬ x + 2 ^ (L + 1) ≤ e := fun z => h3 ha z
  right
  exact ⟨L, Int.dvd_add h1 (Int.dvd_refl _), by omega, by omega⟩
theorem Few.start {e b : Int} (hb : -(2 ^ 40) ≤ b) : Few e 0 b := .inl ⟨Int.one_dvd _, by omega, by simpa using hb⟩
theorem Is4.congr {a b : PL} {o : Option (PL)} (h : Is4 a o) (e : ∀ p, p ∈ a ↔ p ∈ b) : Is4 b o := by
 rcases h with ⟨h1, h2⟩ | ⟨q0, q1, q2, q3, h1, m0, m1, m2, m3, hb⟩
 ·refine .inl ⟨h1, ?_⟩
  cases b with
  | nil => rfl
  | cons p ps =>
   have := (e p).mpr List.mem_cons_self
   rw [h2] at this
   cases this
 ·exact .inr ⟨q0, q1, q2, q3, h1, (e _).mp m0, (e _).mp m1, (e _).mp m2, (e _).mp m3, fun p hp => hb p ((e p).mpr hp)⟩
def inS (sm : PL) (l : Nat) (s : Int) : PL := inCol sm (s * 2 ^ l) (s * 2 ^ l + 2 ^ l)
theorem ZFt {sm : PL} {l : Nat} {s : Int} {p : Int × Int} : p ∈ inS sm l s ↔ p ∈ sm ∧ p.1 / 2 ^ l = s := by
 unfold inS
 rw [ZDv]
 have := ZTX (b := 0) (t := p.1) (i := s) (ZFK l)
 rw [Int.sub_zero, Int.zero_add] at this
 rw [this]
theorem ZMb (x : Int) (l : Nat) : x / 2 ^ (l + 1) = x / 2 ^ l / 2 := by
 rw [Int.pow_succ, ← Int.ediv_ediv_of_nonneg (Int.le_of_lt (ZFK l))]
theorem ZRM {sm : PL} {l : Nat} {s : Int} {p : Int × Int} : p ∈ inS sm l (2 * s) ++ inS sm l (2 * s + 1) ↔ p ∈ inS sm (l + 1) s := by
 rw [List.mem_append, ZFt, ZFt, ZFt, ZMb]
 constructor
 ·rintro (⟨h1, h2⟩ | ⟨h1, h2⟩)
  ·exact ⟨h1, by omega⟩
  ·exact ⟨h1, by omega⟩
 ·rintro ⟨h1, h2⟩
  have : p.1 / 2 ^ l = 2 * s ∨ p.1 / 2 ^ l = 2 * s + 1 := by omega
  rcases this with h | h
  ·exact .inl ⟨h1, h⟩
  ·exact .inr ⟨h1, h⟩
theorem ZVM {sm : PL} {l : Nat} {a b : Int} (hab : a < b) : ∀ p ∈ inS sm l a, ∀ q ∈ inS sm l b, p.1 < q.1 := by
 intro p hp q hq
 have h1 := (ZFt.mp hp).2
 have h2 := (ZFt.mp hq).2
 by_cases h : p.1 < q.1
 ·exact h
 ·have := Int.ediv_le_ediv (ZFK l) (show q.1 ≤ p.1 by omega)
  omega
theorem ZKU {sm : PL} {b x e : Int} (h1 : b ≤ x) (h2 : x ≤ e) (p : Int × Int) : p ∈ inCol sm b x ++ inCol sm x e ↔ p ∈ inCol sm b e := by
 rw [List.mem_append, ZDv, ZDv, ZDv]
 constructor
 ·rintro (⟨g1, g2, g3⟩ | ⟨g1, g2, g3⟩)
  ·exact ⟨g1, g2, by omega⟩
  ·exact ⟨g1, by omega, g3⟩
 ·rintro ⟨g1, g2, g3⟩
  by_cases h : p.1 < x
  ·exact .inl ⟨g1, g2, h⟩
  ·exact .inr ⟨g1, by omega, g3⟩
theorem ZMc {sm : PL} {b x e : Int} : ∀ p ∈ inCol sm b x, ∀ q ∈ inCol sm x e, p.1 < q.1 := by
 intro p hp q hq
 have h1 := (ZDv.mp hp).2
 have h2 := (ZDv.mp hq).2
 omega
theorem ZHH {m : PL} (hn : (m.map (·.1)).Nodup) {t h : Int} {q : Int × Int} : q ∈ ZEn m t h ↔ (q.1 ≠ t ∧ q ∈ m) ∨ q = (t, h) := by
 obtain ⟨a, b⟩ := q
 rw [← ZFE (ZFU hn), ZMK, ← ZFE hn]
 by_cases e : a = t
 ·subst e
  simp only [if_true, Option.some.injEq, ne_eq, not_true_eq_false, false_and, false_or, Prod.mk.injEq, true_and]
  exact eq_comm
 ·simp [e]
def kOf (l : Nat) (s : Int) : List Key := [Sum.inl (l : Int), Sum.inl s]
theorem ZTY {l l' : Nat} {s s' : Int} (h : kOf l s = kOf l' s') : l = l' ∧ s = s' := by
 unfold kOf at h
 simp only [List.cons.injEq, Sum.inl.injEq, and_true] at h
 exact ⟨by omega, h.2⟩
def ZEv (H : Hp) (kvs : List (List Key × V)) (sm : PL) (G : Nat → Int → Prop) : Prop := ∀ (l : Nat) (s : Int), l ≤ 40 → G l s → ∃ o, ZEH H ((ZD7 kvs (kOf l s)).getD .non) o ∧ Is4 (inS sm l s) o
theorem ZEv.same {H H' : Hp} {kvs : List (List Key × V)} {sm : PL} {G : Nat → Int → Prop} (h : ZEv H kvs sm G) (s : ZDn H H') : ZEv H' kvs sm G := fun l s' hl g => by
 obtain ⟨o, h1, h2⟩ := h l s' hl g
 exact ⟨o, h1.same s, h2⟩
theorem PrT.kpX {H H' : Hp} {a d : Addr} {cv : PL} {ob : HO} (h : PrT H a cv) (k : Kp d H H') (hd : H d = some ob) (hn : ∀ xs, ob ≠ .tup xs) : PrT H' a cv := by
 obtain ⟨us, g, p⟩ := h
 have ne : ∀ {b : Addr} {xs : List V}, H b = some (.tup xs) → H' b = some (.tup xs) := fun {b xs} e => k _ _ e fun z => by
  subst z
  rw [hd] at e
  exact hn _ (Option.some.inj e)
 exact ⟨us, ne g, Paired.mapP p fun _ _ ⟨a, e, z⟩ => ⟨a, e, ne z⟩⟩
theorem ZEH.kpX {H H' : Hp} {d : Addr} {v : V} {o : Option (PL)} {ob : HO} (h : ZEH H v o) (k : Kp d H H') (hd : H d = some ob) (hn : ∀ xs, ob ≠ .tup xs) : ZEH H' v o := by
 cases h with
 | non => exact .non
 | pr e hl => exact .pr (e.kpX k hd hn) hl
theorem ZEv.kpX {H H' : Hp} {kvs : List (List Key × V)} {sm : PL} {G : Nat → Int → Prop} {d : Addr} {ob : HO} (h : ZEv H kvs sm G) (k : Kp d H H') (hd : H d = some ob) (hn : ∀ xs, ob ≠ .tup xs) : ZEv H' kvs sm G := fun l s' hl g => by
 obtain ⟨o, h1, h2⟩ := h l s' hl g
 exact ⟨o, h1.kpX k hd hn, h2⟩
theorem ZEv.other {H : Hp} {kvs : List (List Key × V)} {sm sm' : PL} {t : Int} (h : ZEv H kvs sm fun _ _ => True) (e : ∀ q : Int × Int, q.1 ≠ t → (q ∈ sm ↔ q ∈ sm')) : ZEv H kvs sm' fun l s => s ≠ t / 2 ^ l := fun l s hl g => by
 obtain ⟨o, h1, h2⟩ := h l s hl trivial
 refine ⟨o, h1, h2.congr fun p => ?_⟩
 rw [ZFt, ZFt]
 constructor
 ·rintro ⟨g1, g2⟩
  exact ⟨(e p fun z => g (by rw [← g2, z])).mp g1, g2⟩
 ·rintro ⟨g1, g2⟩
  exact ⟨(e p fun z => g (by rw [← g2, z])).mpr g1, g2⟩
theorem ZEv.put {H' : Hp} {kvs : List (List Key × V)} {sm : PL} {G : Nat → Int → Prop} {t : Int} {i : Nat} {v : V} {o : Option (PL)} (h : ZEv H' kvs sm G) (hv : ZEH H' v o) (ho : Is4 (inS sm i (t / 2 ^ i)) o) :
  ZEv H' (ZEx kvs (kOf i (t / 2 ^ i)) v) sm fun l s => G l s ∨ (l = i ∧ s = t / 2 ^ l) := fun l s hl g => by
 by_cases e : kOf l s = kOf i (t / 2 ^ i)
 ·obtain ⟨rfl, rfl⟩ := ZTY e
  refine ⟨o, ?_, ho⟩
  rw [ZGa, if_pos rfl]
  exact hv
 ·rcases g with g | ⟨rfl, rfl⟩
  ·obtain ⟨o', h1, h2⟩ := h l s hl g
   refine ⟨o', ?_, h2⟩
   rw [ZGa, if_neg e]
   exact h1
  ·exact absurd rfl e
theorem ZEv.mono {H : Hp} {kvs : List (List Key × V)} {sm : PL} {G G' : Nat → Int → Prop} (h : ZEv H kvs sm G) (g : ∀ l s, l ≤ 40 → G' l s → G l s) : ZEv H kvs sm G' := fun l s hl hg => h l s hl (g l s hl hg)
theorem ZEv.tups {H H' : Hp} {kvs : List (List Key × V)} {sm : PL} {G : Nat → Int → Prop} (h : ZEv H kvs sm G) (t : ∀ b xs, H b = some (.tup xs) → H' b = some (.tup xs)) : ZEv H' kvs sm G := fun l s hl g => by
 obtain ⟨o, h1, h2⟩ := h l s hl g
 refine ⟨o, ?_, h2⟩
 generalize (ZD7 kvs (kOf l s)).getD .non = v at h1
 cases h1 with
 | non => exact .non
 | pr e hl =>
  obtain ⟨us, g, p⟩ := e
  exact .pr ⟨us, t _ _ g, Paired.mapP p fun _ _ ⟨a, e, z⟩ => ⟨a, e, t _ _ z⟩⟩ hl
def ZF2 (m : PL) (t : Int) : PL := m.filter fun p => decide (p.1 ≠ t)
theorem ZTZ (m : PL) (t : Int) : ZE5 (ZES m) (.inl t) = ZES (ZF2 m t) := by
 unfold ZE5 ZES ZF2
 rw [List.filter_map]
 congr 1
 apply List.filter_congr
 intro p _
 simp [dkE, Function.comp]
theorem ZLN {m : PL} {t : Int} {q : Int × Int} : q ∈ ZF2 m t ↔ q.1 ≠ t ∧ q ∈ m := by
 unfold ZF2
 rw [List.mem_filter, decide_eq_true_iff, and_comm]
theorem ZM9 {m : PL} {t : Int} (n : (m.map (·.1)).Nodup) : ((ZF2 m t).map (·.1)).Nodup := n.sublist ((List.filter_sublist).map _)
section
variable {X : Cx} {o e : Expr} {apos cpos pos p : Pos} {td ty to : TE}
theorem ZRN (ho : QE X o td) (he : QE X e ty) (m : M1 X o "pop" apos e cpos := by exact ⟨rfl, rfl, rfl, rfl⟩) : QE X (.Call (.Attribute o "pop" apos) [e] [] cpos) (ZMF td ty) := ⟨ZQ6 ho.h he.h m⟩
def ZVN : R2 := fun y x H Q => ∃ a o, x = .ref a ∧ ZEu H a y o ∧ Q (.bl o.isSome) H
def ZMd : R2 := fun y x H Q => ∃ a o, x = .ref a ∧ ZEu H a y o ∧ Q (.bl (!o.isSome)) H
theorem ZKs (hu : X.A.units + 1 < cLine) : OpR X (compareOp .In) ZVN := by
 intro pins s σ H x y v u Q I rx ry h
 obtain ⟨a, ov, rfl, g, q⟩ := h
 obtain rfl : u = Value.ref a := ry
 exact ZWE hu I g rx fun s3 I3 => ⟨.bl ov.isSome, H, I3, rfl, q⟩
theorem ZOP (hu : X.A.units + 1 < cLine) : OpR X (compareOp .NotIn) ZMd := by
 intro pins s σ H x y v u Q I rx ry h
 obtain ⟨a, ov, rfl, g, q⟩ := h
 obtain rfl : u = Value.ref a := ry
 exact ZTB hu I g rx fun s3 I3 => ⟨.bl (!ov.isSome), H, I3, rfl, q⟩
end
section
variable {K : W.Frag} {σ : St} {H : Hp} {Q : VK} {td ty : TE} {a b : Addr} {m m' : PL} {i v : Int}
def ZMe (a : Addr) (y : V) (H : Hp) (Q : VK) : Prop := ∃ kvs k v, H a = some (.dK kvs) ∧ y = kV k ∧ ZD7 kvs k = some v ∧ Q v (upd H a (.dK (ZE5 kvs k)))
def ZPb (ty : TE) (σ : St) (Q : VK) (x : V) (H : Hp) : Prop := ∃ a, x = .ref a ∧ IsD H a ∧ ty σ H fun y H2 => ZMe a y H2 Q
theorem ZRO (h : td σ H fun x H1 => ZPb ty σ Q x H1) : ZMF td ty σ H Q := h
theorem ZRP {kvs : List (Key × V)} (h1 : H a = some (.dK kvs)) (q : ty σ H fun y H2 => ZMe a y H2 Q) : ZPb ty σ Q (.ref a) H := ⟨a, rfl, .inl ⟨kvs, .inl h1⟩, q⟩
theorem ZRQ (h1 : H a = some (.dK (ZES m))) (l : ZEV m i = some v) (q : ∀ H2, H2 a = some (.dK (ZES (ZF2 m i))) → Kp a H H2 → Q (.int v) H2) : ZMe a (.int i) H Q :=
 ⟨ZES m, .inl i, .int v, h1, rfl, by rw [ZH2, l]; rfl, by rw [ZTZ]; exact q _ ZDu Kp.upd⟩
end
section
variable {X : Cx} {tg : Expr}
end
section
variable {σ : St} {H : Hp}
end
def ZPc (K : W.Frag) : R2 := fun x y H Q => ∃ p q xs, x = .ref p ∧ y = .ref q ∧ SqL K H p xs ∧ SqL K H q [] ∧ Q (.bl (!xs.isEmpty)) H
section
variable {X : Cx}
theorem ZJp (K : W.Frag) (hK : X.K = K) (hu : X.A.units + 1 < cLine) : OpR X (compareOp .NotEq) (ZPc K) := by
 subst hK
 intro pins s σ H x y v u Q I rx ry h
 obtain ⟨p, q, xs, rfl, rfl, h1, h2, k⟩ := h
 obtain rfl : v = Value.ref p := rx
 obtain rfl : u = Value.ref q := ry
 obtain ⟨its, rv, pl, hz⟩ := I.list h1
 obtain ⟨its2, rv2, pl2, hz2⟩ := I.list h2
 cases rv2
 have hlen := rv.length
 cases xs with
 | nil =>
  cases rv
  exact SeqAt.RcNeAt.lists (e := fun _ => true) pl.isList pl2.isList rfl (by omega) (fun j h1 _ => absurd h1 (by simp)) X.prog X.w _ _ ⟨.bl false, H, I, rfl, k⟩
 | cons x xs =>
  refine SeqAt.RcNeAt.lists_lengths pl.isList pl2.isList ?_ (by omega) X.prog X.w _ _ ⟨.bl true, H, I, rfl, k⟩
  simp only [List.length_cons] at hlen
  simp only [List.size_toArray, List.length_nil, bne_iff_ne, ne_eq]
  omega
end
section
variable {K : W.Frag} {H : Hp} {Q : VK} {p q : Addr} {xs : List V}
theorem ZJq (h1 : SqL K H p xs) (h2 : SqL K H q []) (k : Q (.bl (!xs.isEmpty)) H) : ZPc K (.ref p) (.ref q) H Q := ⟨p, q, xs, rfl, rfl, h1, h2, k⟩
end
section
variable {K : W.Frag} {H : Hp} {Q : VK} {a b : Addr} {l m : List Int}
end
end L2
namespace L2
end L2
namespace L2
open PySem PySem.Spec PyProof.Rows PySem.W
def FrL (l : List Addr) (H H' : Hp) : Prop := ∀ b o, H b = some o → b ∉ l → H' b = some o
theorem FrL.trans {l : List Addr} {H H1 H2 : Hp} (h : FrL l H H1) (g : FrL l H1 H2) : FrL l H H2 := fun b o e n => g b o (h b o e n) n
theorem FrL.mono {l l' : List Addr} {H H' : Hp} (h : FrL l H H') (s : ∀ b ∈ l, b ∈ l') : FrL l' H H' := fun b o e n => h b o e fun z => n (s b z)
theorem FrL.same {l : List Addr} {H H' : Hp} (h : ZDn H H') : FrL l H H' := fun b o e _ => h b o e
theorem FrL.kp {l : List Addr} {H H' : Hp} {q : Addr} (h : Kp q H H') (m : q ∈ l) : FrL l H H' := fun b o e n => h b o e fun z => n (z ▸ m)
theorem ZG7 {H0 H : Hp} {b : Addr} (s : ZDn H0 H) (e : H b = none) : H0 b = none := by
 cases e2 : H0 b with
 | none => rfl
 | some o => rw [s _ _ e2] at e; cases e
theorem PrT.frL {H H' : Hp} {u : Addr} {cv : PL} {l : List Addr} (h : PrT H u cv) (f : FrL l H H') (nt : ∀ b ∈ l, ∀ xs, H b ≠ some (.tup xs)) : PrT H' u cv := by
 obtain ⟨us, h1, h2⟩ := h
 have kt : ∀ b xs, H b = some (.tup xs) → H' b = some (.tup xs) := fun b xs e => f _ _ e fun z => nt b z xs e
 exact ⟨us, kt _ _ h1, Paired.mapP h2 fun _ _ ⟨a, e, z⟩ => ⟨a, e, kt _ _ z⟩⟩
theorem PrT.tups {H H' : Hp} {u : Addr} {cv : PL} (h : PrT H u cv) (t : ∀ b xs, H b = some (.tup xs) → H' b = some (.tup xs)) : PrT H' u cv := by
 obtain ⟨us, h1, h2⟩ := h
 exact ⟨us, t _ _ h1, Paired.mapP h2 fun _ _ ⟨a, e, z⟩ => ⟨a, e, t _ _ z⟩⟩
end L2
namespace L2
theorem ZPd {c : TT} {t u : TS} {D : ZEp} {σ : St} {H : Hp} (h : ZH9 c t u D σ H) : ZH9 c t u D σ H := h
theorem ZTa {t : TS} {D : ZEp} {σ : St} {H : Hp} (P : St → Hp → Prop) (h1 : ∀ σ' H', P σ' H' → D.nx σ' H') (h2 : ∀ D' : ZEp, D'.rt = D.rt → (∀ σ' H', P σ' H' → D'.nx σ' H') → t D' σ H) : t D σ H := h2 D rfl h1
end L2
namespace L2
open PySem PySem.Spec PyProof.Rows PySem.W
section
variable {K : W.Frag} {H : Hp} {Q : VK} {x y : V} {o o' : Option (PL)} {a b : Addr} {us ws : List V} {fs gs : List (Option (PL))}
end
theorem ZEH.tups {H H' : Hp} {v : V} {o : Option (PL)} (h : ZEH H v o) (t : ∀ b xs, H b = some (.tup xs) → H' b = some (.tup xs)) : ZEH H' v o := by
 cases h with
 | non => exact .non
 | pr e hn => exact .pr (e.tups t) hn
theorem ZTb {c : TT} {t u : TS} {D : ZEp} {σ : St} {H : Hp} (P : St → Hp → Prop) (h1 : ∀ σ' H', P σ' H' → u D σ' H') (h2 : ∀ u' : TS, (∀ σ' H', P σ' H' → u' D σ' H') → ZH9 c t u' D σ H) : ZH9 c t u D σ H := h2 u h1
section
variable {X : Cx} {tg e : Expr} {te t : TE}
end
section
variable {X : Cx} {σ : St} {H : Hp} {Q : VK} {R : It → Hp → Prop} {te t : TE} {d : Addr} {m : PL}
end
section
variable {K : Type} [DecidableEq K]
def ZGy (xs : List (K × Addr × Value)) (k : K) : List (K × Addr × Value) := xs.filter fun x => decide (x.1 ≠ k)
theorem ZLO {α β : Type} (f : α → β) : ∀ (l : List α) (j : Nat), (l.map f).eraseIdx j = (l.eraseIdx j).map f
 | [], _ => rfl
 | _ :: _, 0 => rfl
 | x :: l, j + 1 => congrArg (f x :: ·) (ZLO f l j)
theorem ZOQ {k : K} : ∀ {xs : List (K × Addr × Value)}, k ∉ xs.map (·.1) → ZGy xs k = xs := fun {xs} h => by
 unfold ZGy
 rw [List.filter_eq_self]
 intro x hx
 simp only [decide_eq_true_eq]
 exact fun e => h (List.mem_map.mpr ⟨x, hx, e⟩)
theorem ZJQ {k : K} {p : Addr × Value} : ∀ {xs : List (K × Addr × Value)} {j : Nat}, (xs.map (·.1)).Nodup → xs[j]? = some (k, p) → xs.eraseIdx j = ZGy xs k
 | [], j, _, h => by simp at h
 | x :: xs, 0, n, h => by
  simp at h
  subst h
  rw [List.map_cons, List.nodup_cons] at n
  rw [List.eraseIdx_cons_zero]
  unfold ZGy
  rw [List.filter_cons_of_neg (by simp)]
  exact (ZOQ n.1).symm
 | x :: xs, j + 1, n, h => by
  rw [List.map_cons, List.nodup_cons] at n
  have h' : xs[j]? = some (k, p) := by simpa using h
  have hne : x.1 ≠ k := fun e => n.1 (by rw [e]; exact List.mem_map.mpr ⟨(k, p), List.mem_of_getElem? h', rfl⟩)
  rw [List.eraseIdx_cons_succ]
  unfold ZGy
  rw [List.filter_cons_of_pos (by simpa using hne)]
  congr 1
  exact ZJQ n.2 h'
variable {prog : Program} {w : World} {knd : HeapKind prog w K} {A : Around} {E : Value → Shared → Prop} {s : Shared} {d a : Addr} {k : K} {xs : List (K × Addr × Value)}
theorem ZRR {Q : Option DictEntry → Shared → Prop} (hu : knd.room A) (hkey : knd.is s.heap k a) (hm : s.heap.DictOfH knd d xs) (hsz : xs.length ≤ sizeLine)
  (hnone : atKey xs k = none → Q none { s with toks := s.toks + knd.draws k })
  (hsome : ∀ e p, atKey xs k = some p → e.val = p.2 → ∀ h', h'.DictOfH knd d (ZGy xs k) → Heap.SameBut d s.heap h' → Q (some e) { s with heap := h', toks := s.toks + knd.draws k }) :
  wpAny (model prog w) A (Builtin.Dict.takeOut d (.ref a)) Q E s := by
 obtain ⟨o, es, ep, ho, hc, hd, he, his, hn⟩ := hm
 unfold Builtin.Dict.takeOut
 try with_reducible refine wpAny_holding ?_
 refine wpAny_bind (knd.pyHash hu hkey (wpAny_bind (wpAny_dictFind_heap (s := { s with toks := s.toks + knd.draws k }) hu hkey ho hd he his hn ?_ ?_)))
 ·intro hno
  exact wpAny_pure (hnone (atKey_none_of_get hno))
 ·intro j p hj
  refine wpAny_bind (wpAny_dictEntries (s := { s with toks := s.toks + knd.draws k }) ho hd ?_)
  rw [entry_at he j, hj]
  refine wpAny_bind (wpAny_updateDictKeys (hz := by have e := size_of_entries he; omega) (s := { s with toks := s.toks + knd.draws k }) ho hd (wpAny_pure (hsome _ p (atKey_of_get hn hj) rfl _ ⟨_, _, ep + 1, Heap.get?_update_self _ ho (Obj.isFreed_of_dict (Obj.data_mapDictKeys hd _)),
   hc.mapDictKeys _, Obj.data_mapDictKeys hd _, ?_, ?_, ?_⟩ (Heap.SameBut.update ..))))
  ·rw [← ZJQ hn hj, ← ZLO, ← he]
   obtain ⟨l⟩ := es
   simp
  ·intro x hx
   exact knd.keeps (his x (List.mem_filter.mp hx).1) ho hd (Heap.SameBut.update ..)
  ·exact hn.sublist ((List.filter_sublist).map _)
theorem ZNA (knd : HeapKind prog w K) (d a : Addr) (hd : (d == sysModules) = false) (dflt : Value) :
  MeetsIn prog w (Builtin.«dict.pop» ⟨[.ref d, .ref a, dflt], []⟩) (fun A R s => knd.room A.in1 ∧ ∃ k xs, knd.is s.heap k a ∧ s.heap.DictOfH knd d xs ∧ xs.length ≤ sizeLine ∧
   (∀ p, atKey xs k = some p → ∀ h', h'.DictOfH knd d (ZGy xs k) → Heap.SameBut d s.heap h' → ∀ t, R (.ok (.ret p.2)) { s with heap := h', toks := t }) ∧
   (atKey xs k = none → ∀ t, R (.ok (.ret dflt)) { s with toks := t })) :=
 .of_wp fun A R s ⟨hu, k, xs, hkey, hm, hsz, h1, h2⟩ => by
  have hd' := hd
  unfold Builtin.«dict.pop»
  refine wpAny_bind ?_
  unfold Builtin.Dict.keyAndDefault
  refine wpAny_bind (wpAny_notOrdered_dict hm.typeIs ?_)
  show wpAny _ _ (pure (d, Value.ref a, some dflt)) _ _ s
  refine wpAny_pure ?_
  obtain ⟨o, es, ep, ho, hc, hdd, he, his, hn⟩ := id hm
  have hkp : (keyPart (Value.ref a)).isSome = false := rfl
  simp only [hkp, Bool.false_eq_true, if_false]
  refine wpAny_bind (wpAny_dictEntries ho hdd (wpAny_bind (wpAny_pure ?_)))
  by_cases hem : es.isEmpty = true
  ·rw [if_pos hem]
   have hx : xs = [] := by
    have := size_of_entries he
    have h0 : es.size = 0 := by simpa [Array.isEmpty] using hem
    exact List.length_eq_zero_iff.mp (by omega)
   subst hx
   refine wpAny_bind (wpAny_rule (wpAny_bind (wpAny_pure ?_)))
   simp only [Option.isNone_none, if_true]
   refine wpAny_bind (wpAny_missedRemoval_other hd ?_)
   exact wpAny_bind (wpAny_rule (wpAny_pure ⟨dflt, rfl, h2 rfl _⟩))
  ·rw [if_neg hem]
   refine wpAny_bind (ZRR hu hkey hm hsz (fun hno => ?_) fun e p hp hev h' hm' hs' => ?_)
   ·simp only [Option.isNone_none, if_true]
    refine wpAny_bind (wpAny_missedRemoval_other hd ?_)
    exact wpAny_bind (wpAny_rule (wpAny_pure ⟨dflt, rfl, h2 hno _⟩))
   ·simp only [Option.isNone_some, Bool.false_eq_true, if_false]
    exact wpAny_bind (wpAny_letGo (wpAny_pure ⟨e.val, rfl, by rw [hev]; exact h1 p hp h' hm' hs' _⟩))
end
theorem KT.dropT {H : Hp} {kvs : List (List Key × V)} {xs : List (List Key × Addr × Value)} (r : KT H kvs xs) (k : List Key) : KT H (ZE5 kvs k) (ZGy xs k) := by
 unfold ZE5 ZGy
 induction r with
 | nil => exact .nil
 | @cons p q ps qs h t ih =>
  by_cases e : p.1 = k
  ·rw [List.filter_cons_of_neg (by simpa using e), List.filter_cons_of_neg (by simpa using h.1.symm.trans e)]
   exact ih
  ·rw [List.filter_cons_of_pos (by simpa using e), List.filter_cons_of_pos (by simpa using fun z => e (h.1.trans z))]
   exact .cons h ih
section
variable {X : Cx} {pins : List (Addr × Obj)} {σ : St} {H : Hp} {s : Shared} {a b : Addr} {kvs : List (List Key × V)} {k : List Key} {A : Around} {E : Value → Shared → Prop}
theorem ZVO {z : V} {r : Value} {Q : Value → Shared → Prop} (hu : A.units + 1 < cLine) (I : Inv X pins σ H s) (e : H a = some (.dT kvs)) (eb : H b = some (.tup (k.map kV))) (rz : ZDy z r)
  (h1 : ∀ v, ZD7 kvs k = some v → ∀ w' s', Inv X pins σ (upd H a (.dT (ZE5 kvs k))) s' → ZDy v w' → Q w' s') (h2 : ZD7 kvs k = none → ∀ s', Inv X pins σ H s' → Q r s') :
  wpAny (model X.prog X.w) A (call (.builtin "dict.pop") [.ref a, .ref b, r]) Q E s := by
 obtain ⟨z, hd, xs, rel, dd⟩ := ZR6 I.hok e
 have hz : xs.length ≤ sizeLine := by rw [← Paired.length rel]; exact z
 refine call_meetsIn PySem.F.slot_dict_pop dd.typeIs PySem.F.entry_dict_pop (PySem.F.args_dict_pop_3 _ _ _) (ZNA (tupleKind (ZEX X.prog X.w)) a b hd r) ⟨tupleKind_room_in1 hu, k, xs, ZHF I.hok eb, dd, hz, fun p hp h' dd' hs t => ?_, fun hn t => ?_⟩
 ·have hv := rel.val k
  rw [hp] at hv
  cases hk : ZD7 kvs k with
  | none => rw [hk] at hv; exact hv.elim
  | some v =>
   rw [hk] at hv
   refine h1 v hk _ _ ?_ hv
   obtain ⟨q, es, ep, hq, g2, g3, g4, _, g5⟩ := dd'
   refine ZJF I (by rw [e]; exact True.intro) hs ⟨q, hq⟩ ⟨Nat.le_trans (List.length_filter_le _ _) z, hd, _, (rel.dropT k).keeps fun c ys ec => ?_, q, es, ep, hq, g2, g3, g4, g5⟩
   rw [ZD6 (ZRx ec e (fun z => nomatch z))]
   exact ec
 ·have hv := rel.val k
  rw [hn] at hv
  cases hk : ZD7 kvs k with
  | some v => rw [hk] at hv; exact hv.elim
  | none => exact h2 hk _ (I.tok _)
end
def ZMf (a : Addr) (y z : V) (H : Hp) (Q : VK) : Prop := ∃ kvs k b, H a = some (.dT kvs) ∧ y = .ref b ∧ H b = some (.tup (k.map kV)) ∧
 (∀ v, ZD7 kvs k = some v → Q v (upd H a (.dT (ZE5 kvs k)))) ∧ (ZD7 kvs k = none → Q z H)
def ZKt (ty tx : TE) (σ : St) (Q : VK) (x : V) (H : Hp) : Prop := ∃ a, x = .ref a ∧ IsD H a ∧ ty σ H fun y H2 => tx σ H2 fun z H3 => ZMf a y z H3 Q
def ZMg (td ty tx : TE) : TE := fun σ H Q => td σ H fun x H1 => ZKt ty tx σ Q x H1
theorem ZRS {X : Cx} {o e f : Expr} {apos cpos : Pos} {td ty tx : TE} (hu : X.A.units + 1 < cLine) (ho : PE X o td) (he : PE X e ty) (hf : PE X f tx) (m : M2 X o "pop" apos e f cpos) : PE X (.Call (.Attribute o "pop" apos) [e, f] [] cpos) (ZMg td ty tx) := by
 intro pins s σ H Q I h
 refine wpAny_Call_method m.base m.few m.line PySem.F.plainAttrs_dict PySem.F.slot_dict_pop PySem.F.type_dict_pop (thn (ho pins s σ H _ I h) fun u s1 ⟨x, H1, I1, rx, a, ex, d, q1⟩ => ?_)
 subst ex
 obtain rfl : u = Value.ref a := rx
 obtain ⟨t1, t2, _⟩ := ZMD I1 d
 refine ⟨t1, t2, ?_⟩
 rw [m.trees]
 refine Calls.callWith_builtin rfl (Calls.evalArgs_plain (Calls.spliced_cons (thn (he pins s1 σ H1 _ I1 q1) fun iv s2 ⟨y, H2, I2, ry, q2⟩ =>
  Calls.spliced_cons (thn (hf pins s2 σ H2 _ I2 q2) fun fv s3 ⟨z, H3, I3, rz, kvs, k, b, ea, ey, eb, q3, q4⟩ => Calls.spliced_nil ?_))))
 subst ey
 obtain rfl : iv = Value.ref b := ry
 exact ZVO hu I3 ea eb rz (fun v l w' s4 I4 rw' => ⟨v, _, I4, rw', q3 v l⟩) fun l s4 I4 => ⟨z, H3, I4, rz, q4 l⟩
section
variable {X : Cx} {o e f : Expr} {apos cpos pos p : Pos} {td ty tx : TE}
theorem ZRT (hu : X.A.units + 1 < cLine) (ho : QE X o td) (he : QE X e ty) (hf : QE X f tx) (m : M2 X o "pop" apos e f cpos := by exact ⟨rfl, rfl, rfl, rfl⟩) : QE X (.Call (.Attribute o "pop" apos) [e, f] [] cpos) (ZMg td ty tx) := ⟨ZRS hu ho.h he.h hf.h m⟩
variable {σ : St} {H : Hp} {Q : VK} {a b : Addr} {kvs : List (List Key × V)} {k : List Key} {z : V}
theorem ZPe (h : td σ H fun x H1 => ZKt ty tx σ Q x H1) : ZMg td ty tx σ H Q := h
theorem ZPf (h1 : H a = some (.dT kvs)) (q : ty σ H fun y H2 => tx σ H2 fun z H3 => ZMf a y z H3 Q) : ZKt ty tx σ Q (.ref a) H := ⟨a, rfl, .inr ⟨kvs, .inl h1⟩, q⟩
theorem ZOR (h : ZD7 kvs k = none) : ZE5 kvs k = kvs := by
 unfold ZE5
 rw [List.filter_eq_self]
 intro x hx
 simp only [decide_eq_true_eq]
 intro e
 unfold ZD7 at h
 rw [Option.map_eq_none_iff, List.find?_eq_none] at h
 exact h x hx (by simpa using e)
theorem ZRU (h1 : H a = some (.dT kvs)) (hb : H b = some (.tup (k.map kV))) (q : ∀ v H2, H2 a = some (.dT (ZE5 kvs k)) → Kp a H H2 → Q v H2) : ZMf a (.ref b) z H Q :=
 ⟨kvs, k, b, h1, rfl, hb, fun v _ => q v _ ZDu Kp.upd, fun l => q z H (by rw [ZOR l]; exact h1) fun _ _ e _ => e⟩
theorem ZKu (h1 : H a = some (.dT kvs)) (hb : H b = some (.tup (k.map kV))) (q : Q (.bl (ZD7 kvs k).isSome) H) : ZVN (.ref b) (.ref a) H Q := ⟨a, _, rfl, ZEu.t h1 hb, q⟩
theorem ZOS (h1 : H a = some (.dT kvs)) (hb : H b = some (.tup (k.map kV))) (q : Q (.bl (!(ZD7 kvs k).isSome)) H) : ZMd (.ref b) (.ref a) H Q := ⟨a, _, rfl, ZEu.t h1 hb, q⟩
end
section
variable {X : Cx} {a : Expr} {ta : TA} {p p2 pos pos2 : Pos}
end
section
variable {prog : Program} {w : World} {A : Around} {E : Value → Shared → Prop} {s : Shared}
end
structure ZOT (K : Frag) (x : Str) (C : Addr) : Prop where
 a : nsIn K mainGlobals x = some (some (.ref C))
 ex : excIn K C [.type "ValueError", .type "Exception", .type "BaseException", .type "object"] "ValueError.__new__" = true
 ga : findIn K (.ref C) "__getattribute__" = some (some (.builtin "BaseException.__getattribute__"))
 gt : findIn K (.ref C) "__getattr__" = some none
 cl : findIn K (.ref C) "__class__" = some (some (.builtin "object.__class__"))
 ob : mroIn K C (.type "object") = some true
 be : mroIn K C (.type "BaseException") = some true
structure ZRV (K : Frag) (x : Str) (C : Addr) : Prop where
 a : nsIn K mainGlobals x = some (some (.ref C))
 pg : plainGet K C Str.empty = true
 hd : hasDictIn K C = true
 po : plainOver K C = true
 sa : findIn K (.ref C) "__setattr__" = some (some (.builtin "object.__setattr__"))
 mi : makesIn K C = true
 kc : keepIn K (.ref C) = true
section
variable {K : Frag} {x qual : Str} {st : Stmt} {f : Addr} {fd : FuncData}
theorem Fun.b1 {p : Str} (F : Fun K x qual st f fd) (h : ∀ (kV doc pm : Value) (an : Option Addr) (cdv ct u : Value), bindArgs (fnOf x qual (ZEf st) (ZEY st) (ZDl st) .none kV doc pm an cdv ct) ⟨[u], []⟩ = pure ([p].zip [u])) : ZDo K fd [p] [] := F.binds fun _ _ _ _ _ _ us hl => match us, hl with | [_], _ => h _ _ _ _ _ _ _
theorem Fun.b2 {p q : Str} (F : Fun K x qual st f fd) (h : ∀ (kV doc pm : Value) (an : Option Addr) (cdv ct u v : Value), bindArgs (fnOf x qual (ZEf st) (ZEY st) (ZDl st) .none kV doc pm an cdv ct) ⟨[u, v], []⟩ = pure ([p, q].zip [u, v])) : ZDo K fd [p, q] [] := F.binds fun _ _ _ _ _ _ us hl => match us, hl with | [_, _], _ => h _ _ _ _ _ _ _ _
theorem Fun.b3 {p q r : Str} (F : Fun K x qual st f fd) (h : ∀ (kV doc pm : Value) (an : Option Addr) (cdv ct u v y : Value), bindArgs (fnOf x qual (ZEf st) (ZEY st) (ZDl st) .none kV doc pm an cdv ct) ⟨[u, v, y], []⟩ = pure ([p, q, r].zip [u, v, y])) : ZDo K fd [p, q, r] [] := F.binds fun _ _ _ _ _ _ us hl => match us, hl with | [_, _, _], _ => h _ _ _ _ _ _ _ _ _
theorem Fun.b4 {p q r t : Str} (F : Fun K x qual st f fd) (h : ∀ (kV doc pm : Value) (an : Option Addr) (cdv ct u v y z : Value), bindArgs (fnOf x qual (ZEf st) (ZEY st) (ZDl st) .none kV doc pm an cdv ct) ⟨[u, v, y, z], []⟩ = pure ([p, q, r, t].zip [u, v, y, z])) : ZDo K fd [p, q, r, t] [] := F.binds fun _ _ _ _ _ _ us hl => match us, hl with | [_, _, _, _], _ => h _ _ _ _ _ _ _ _ _ _
end
section
variable {X : Cx} {o i e f value : Expr} {tpos pos apos cpos : Pos} {to ti te td ty tx : TE}
end
section
variable {K : W.Frag} {σ : St} {H : Hp} {Q : VK} {D : ZEp} {to ti te td ty tx : TE} {a p : Addr} {m : PL} {i : Int}
end
end L2
namespace My
open PySem L2
theorem ZD8 {N P : List Str} {sc : Scope} (a : sc.kind = .function := by rfl) (b : sc.isCoroutine = false := by rfl) (c : sc.isGenerator = false := by rfl) (d : N.Nodup := by decide +kernel) (e : N.take P.length = P := by rfl) (f : ∀ x ∈ P, sc.names.lookup x = some .local ∨ sc.names.lookup x = some .cell := by decide +kernel) (g : ∀ y ∈ sc.names, y.2 ≠ .free := by decide +kernel) : ZDs N P sc := ⟨a, b, c, d, e, f, g⟩
theorem qsS {X : Cx} {x : Str} {e : Expr} {te : TE} {pos pos' : Pos} {i : Nat} (hN : X.N.Nodup) (he : QE X e te) (hi : X.N[i]? = some x := by rfl) (hx : Loc X.env.scope x := by first | exact Or.inl rfl | exact Or.inr rfl) (hs : ZFq e = false := by rfl) (hf : X.fn x = true ∨ X.env.scope.names.lookup x = some .local := by first | exact .inl rfl | exact .inr rfl | assumption) : QS X (.Assign [.Name x pos'] e pos) (ZHd te (ZGE i)) := ZS9 hN hi hx he hs hf
theorem qgN {X : Cx} {x : Str} {pos : Pos} {i : Nat} (hN : X.N.Nodup) (hi : X.N[i]? = some x := by rfl) (hx : Loc X.env.scope x := by first | exact Or.inl rfl | exact Or.inr rfl) (hf : X.fn x = true ∨ X.env.scope.names.lookup x = some .local := by first | exact .inl rfl | exact .inr rfl | assumption) : QG X (.Name x pos) (ZGE i) := ZEc hN hi hx hf
theorem qcS {X : Cx} {e : Expr} {es : List Expr} {t : TA} {pos p : Pos} {x : Str} {k : Nat} {f : Addr} {fd : FuncData} {ps : List Str} {sp : Sp} (F : ZDw X.prog X.w X.K X.mg X.base CX0 k f fd ps sp) (hr : Room k X.A) (hm : X.mg x = some (.ref f)) (hk : W.keepIn X.K (.ref f) = true) (hb : ZDo X.K fd ps []) (ha : QA X (e :: es) t) (hg : Gl X x := by rfl) (hns : ZEg (e :: es) = true := by rfl) (hdb : (x == ("__debug__" : Str)) = false := by decide) : QE X (.Call (.Name x p) (e :: es) [] pos) (ZJ9 sp [] E0 t) := ZQx F hr hg hm hk hb .nil ZEa ha hns hdb
theorem _root_.L2.Room.m {j k : Nat} {A : Around} (r : Room k A) (h : j ≤ k := by decide) : Room j A := r.mono h
local macro_rules | `(tactic| walk_at "l") => `(tactic| (intro vs H Q E h; (repeat (obtain ⟨_, h⟩ := h)); all_goals (subst_vars; rfl)))
local macro_rules | `(tactic| walk_at "w") => `(tactic| repeat walk_at "rd")
local macro_rules | `(tactic| walk_at "s") => `(tactic| simp only [L2.start, List.length_cons, List.length_nil, List.map_cons, List.map_nil, Nat.reduceAdd, Nat.reduceSub, List.replicate_succ, List.replicate_zero, List.cons_append, List.nil_append])
local macro_rules | `(tactic| walk_at "o") => `(tactic| first | exact Or.inl rfl | exact Or.inr rfl)
def top (i : Nat) : Stmt := PySem.Challenge.pw_fourpoints_k93_whole_drawn_by_what_is_to.main.body.getD i (.Pass ⟨0, 0, 0, 0⟩)
abbrev ZNe : Stmt := top 0
abbrev ZIN : Stmt := top 8
abbrev ZGz : Stmt := top 10
abbrev ZHZ : Stmt := top 11
abbrev ZHi : Stmt := top 13
abbrev ZIO : Stmt := top 14
abbrev ZGL : Stmt := top 15
abbrev ZKv : Stmt := top 16
abbrev ZIr : Stmt := top 17
abbrev ZIP : Stmt := top 18
abbrev ZGc : Stmt := top 19
abbrev ZHj : Stmt := top 21
abbrev ZIs : Stmt := top 22
abbrev ZJr : Stmt := top 23
abbrev ZIt : Stmt := top 24
abbrev ZHk : Stmt := top 28
abbrev ZGM : Stmt := top 29
abbrev ZHI : Stmt := top 30
abbrev ZGd : Stmt := top 31
abbrev ZHl : Stmt := top 32
abbrev ZIu : Stmt := top 33
abbrev ZEW : Stmt := ZED (top 34) 0
abbrev ZIQ : Stmt := ZED (top 34) 1
abbrev ZHm : Stmt := ZED (top 34) 2
abbrev ZHJ : Stmt := ZED (top 34) 3
abbrev ZHn : Stmt := ZED (top 34) 4
abbrev ZGN : Stmt := ZED (top 34) 5
abbrev ZJR : Stmt := ZED (top 34) 6
abbrev ZIR : Stmt := top 36
abbrev ZGO : Stmt := ZED (top 37) 0
abbrev ZGP : Stmt := ZED (top 37) 1
abbrev ZGp : Stmt := ZED (top 37) 2
abbrev ZIv : Stmt := ZED (top 37) 3
abbrev ZHo : Stmt := ZED (top 37) 4
abbrev ZGq : Stmt := ZED (top 37) 5
abbrev ZGe : Stmt := ZED (top 37) 6
abbrev ZGf : Stmt := ZED (top 37) 7
abbrev ZHa : Stmt := top 39
abbrev ZIw : Stmt := top 40
abbrev ZGr : Stmt := top 41
abbrev ZG0 : Stmt := top 42
abbrev ZJs : Stmt := top 43
abbrev ZJt : Stmt := top 44
abbrev ZET : Stmt := ZED (top 46) 0
abbrev ZHp : Stmt := ZED (top 46) 1
abbrev ZIx : Stmt := ZED (top 46) 2
abbrev ZH5 : Stmt := ZED (top 46) 3
abbrev ZGQ : Stmt := ZED (top 46) 4
abbrev ZIS : Stmt := ZED (top 46) 5
abbrev ZGs : Stmt := ZED (top 46) 6
abbrev ZIy : Stmt := ZED (top 46) 7
abbrev ZGt : Stmt := ZED (top 46) 8
abbrev ZHK : Stmt := ZED (top 46) 9
abbrev ZIb : Stmt := ZED (top 46) 10
abbrev ZIz : Stmt := ZED (top 46) 11
abbrev ZIc : Stmt := ZED (top 46) 12
abbrev ZI0 : Stmt := ZED (top 46) 13
abbrev ZJu : Stmt := top 48
abbrev ZI1 : Stmt := top 49
abbrev ZJv : Stmt := top 50
abbrev ZJw : Stmt := top 51
abbrev ZIT : Stmt := top 52
abbrev ZJH : Stmt := top 53
abbrev ZHL : Stmt := top 54
abbrev ZGg : Stmt := top 55
abbrev ZHq : Stmt := top 56
abbrev ZIU : Stmt := top 57
abbrev ZF3 : Stmt := top 58
set_option genInjectivity false in
set_option genSizeOf false in
set_option genSizeOfSpec false in
structure Ad where
 ZB1 : Addr
 ZB4 : FuncData
 JC : Addr
 Y1 : FuncData
 Y6 : Addr
 JB : FuncData
 JS : Addr
 J6 : FuncData
 YZ : Addr
 Ya : FuncData
 JG : Addr
 JJ : FuncData
 YK : Addr
 YH : FuncData
 ZAy : Addr
 ZAz : FuncData
 Jn : Addr
 Jc : FuncData
 Y9 : Addr
 Y7 : FuncData
 Zy : Addr
 Z1 : FuncData
 Yq : Addr
 Yi : FuncData
 Jr : Addr
 Jl : FuncData
 ZAG : Addr
 ZAQ : FuncData
 JV : Addr
 JY : FuncData
 Ys : Addr
 Yl : FuncData
 Zl : Addr
 Zm : FuncData
 YM : Addr
 YN : FuncData
 Zx : Addr
 Zv : FuncData
 Yp : Addr
 Yh : FuncData
 Jo : Addr
 Jp : FuncData
 Zk : Addr
 ZL : FuncData
 JA : Addr
 Y4 : FuncData
 Yf : Addr
 Yj : FuncData
 YQ : Addr
 YR : FuncData
 Yk : Addr
 Yt : FuncData
 YI : Addr
 YL : FuncData
 ZAB : Addr
 J9 : FuncData
 JH : Addr
 Yz : FuncData
 Zh : Addr
 Zg : FuncData
 YG : Addr
 YO : FuncData
 YA : Addr
 YE : FuncData
 Jd : Addr
 Js : FuncData
 Yc : Addr
 Yr : FuncData
 YB : Addr
 YD : FuncData
 Zt : Addr
 Zu : FuncData
 Zw : Addr
 Z0 : FuncData
 JZ : Addr
 Jw : FuncData
 Ju : Addr
 Jk : FuncData
 YC : Addr
 Z8 : FuncData
 JD : Addr
 Y3 : FuncData
 ZAd : Addr
 ZAc : FuncData
 ZAK : Addr
 ZAV : FuncData
 Zd : Addr
 ZJ : FuncData
 Yo : Addr
 Yg : FuncData
 Jz : Addr
 JW : FuncData
 Yv : Addr
 Yw : FuncData
 Zq : Addr
 Zr : FuncData
 JE : Addr
 Y8 : FuncData
 Z9 : Addr
 Z7 : FuncData
 Jx : Addr
 Ja : FuncData
 Z6 : Addr
 Z5 : FuncData
 YS : Addr
 YF : FuncData
 JP : Addr
 JO : FuncData
 Jq : Addr
 Jm : FuncData
 JN : Addr
 JM : FuncData
 JX : Addr
 JU : FuncData
 ZAW : Addr
 ZAY : FuncData
 Jh : Addr
 Jf : FuncData
 ZAT : Addr
 ZAO : FuncData
 ZAR : Addr
 ZAM : FuncData
 JI : Addr
 Y5 : FuncData
 ZAx : Addr
 ZA3 : FuncData
 ZAI : Addr
 ZAJ : FuncData
 ZAH : Addr
 ZAS : FuncData
 Yn : Addr
 Yb : FuncData
 ZAb : Addr
 ZAZ : FuncData
 ZCD : Addr
 ZCC : FuncData
 ZB : Addr
 ZC : Addr
 ZA : Addr
 ZY : Addr
 Ze : Addr
 ZP : Addr
 Za : Addr
 ZBj : Tok
 ZBi : Tok
structure Txt (K : W.Frag) (mg : Str → Option Value) (a : Ad) : Prop where
 ZDc : Fun K "_wall" "_wall" ZNe a.ZB1 a.ZB4
 ZDe : ZDo K a.ZB4 ["k"] []
 ZDd : mg "_wall" = some (.ref a.ZB1)
 Yy : Fun K "is_whole" "is_whole" ZIN a.JC a.Y1
 ZAj : ZDo K a.Y1 ["thing"] []
 ZAg : mg "is_whole" = some (.ref a.JC)
 ZAe : Fun K "curve_of" "curve_of" ZGz a.Y6 a.JB
 ZCN : ZDo K a.JB ["samples"] []
 ZCF : mg "curve_of" = some (.ref a.Y6)
 Jt : Fun K "part_of" "part_of" ZHZ a.JS a.J6
 ZBD : ZDo K a.J6 ["curve", "begin", "end"] []
 ZA6 : mg "part_of" = some (.ref a.JS)
 ZAA : Fun K "column_of" "column_of" ZHi a.YZ a.Ya
 ZBp : ZDo K a.Ya ["window", "t"] []
 ZBs : mg "column_of" = some (.ref a.YZ)
 JF : Fun K "times_of" "times_of" ZIO a.JG a.JJ
 ZAp : ZDo K a.JJ ["window", "k"] []
 ZAh : mg "times_of" = some (.ref a.JG)
 ZT : Fun K "columns_of" "columns_of" ZGL a.YK a.YH
 Zj : ZDo K a.YH ["window"] []
 Zs : mg "columns_of" = some (.ref a.YK)
 ZB2 : Fun K "moved" "moved" ZKv a.ZAy a.ZAz
 ZCq : ZDo K a.ZAz ["window", "c"] []
 ZCt : mg "moved" = some (.ref a.ZAy)
 ZA8 : Fun K "widened" "widened" ZIr a.Jn a.Jc
 ZCX : ZDo K a.Jc ["window"] []
 ZCZ : mg "widened" = some (.ref a.Jn)
 ZAo : Fun K "narrowed" "narrowed" ZIP a.Y9 a.Y7
 ZCM : ZDo K a.Y7 ["window"] []
 ZB7 : mg "narrowed" = some (.ref a.Y9)
 Yu : Fun K "with_columns" "with_columns" ZGc a.Zy a.Z1
 ZA0 : ZDo K a.Z1 ["window", "n"] []
 ZA1 : mg "with_columns" = some (.ref a.Zy)
 Zb : Fun K "height_of" "height_of" ZHj a.Yq a.Yi
 ZR : ZDo K a.Yi ["sample"] []
 ZQ : mg "height_of" = some (.ref a.Yq)
 ZA9 : Fun K "four_of" "four_of" ZIs a.Jr a.Jl
 ZCV : ZDo K a.Jl ["curve"] []
 ZCT : mg "four_of" = some (.ref a.Jr)
 Y0 : Fun K "joined" "joined" ZJr a.ZAG a.ZAQ
 ZAP : ZDo K a.ZAQ ["one", "other"] []
 ZAL : mg "joined" = some (.ref a.ZAG)
 ZA5 : Fun K "kept_of" "kept_of" ZIt a.JV a.JY
 ZCO : ZDo K a.JY ["fours"] []
 ZCc : mg "kept_of" = some (.ref a.JV)
 Z3 : Fun K "is_border" "is_border" ZHk a.Ys a.Yl
 Ym : ZDo K a.Yl ["thing"] []
 Yd : mg "is_border" = some (.ref a.Ys)
 Zi : Fun K "check_borders" "check_borders" ZGM a.Zl a.Zm
 YU : ZDo K a.Zm ["begin", "end"] []
 YY : mg "check_borders" = some (.ref a.Zl)
 YJ : Fun K "check_time" "check_time" ZHI a.YM a.YN
 Jv : ZDo K a.YN ["t"] []
 Jj : mg "check_time" = some (.ref a.YM)
 ZW : Fun K "check_window" "check_window" ZGd a.Zx a.Zv
 Z2 : ZDo K a.Zv ["window"] []
 Zz : mg "check_window" = some (.ref a.Zx)
 ZAD : Fun K "stretches" "stretches" ZHl a.Yp a.Yh
 ZBm : ZDo K a.Yh ["begin", "end"] []
 ZBy : mg "stretches" = some (.ref a.Yp)
 ZBC : Fun K "longest" "longest" ZIu a.Jo a.Jp
 ZCW : ZDo K a.Jp ["first", "end"] []
 ZCa : mg "longest" = some (.ref a.Jo)
 ZAm : ZMV K "__init__" "Tree.__init__" ZEW a.Zk a.ZL
 ZAf : ZDo K a.ZL ["self", "curve"] []
 ZCl : ZDo K a.ZL ["self", "curve"] [Value.none]
 ZCp : ZNc K a.ZL ["self", "curve"] "curve"
 ZCL : Fun K "put" "Tree.put" ZIQ a.JA a.Y4
 ZAn : ZDo K a.Y4 ["self", "t", "h"] []
 ZAr : ZEk K a.ZB "put" a.JA
 ZBw : Fun K "take" "Tree.take" ZHm a.Yf a.Yj
 ZBv : ZDo K a.Yj ["self", "t"] []
 ZBo : ZEk K a.ZB "take" a.Yf
 ZBb : Fun K "renew" "Tree.renew" ZHJ a.YQ a.YR
 J5 : ZDo K a.YR ["self", "t", "four"] []
 Je : ZEk K a.ZB "renew" a.YQ
 ZBl : Fun K "four" "Tree.four" ZHn a.Yk a.Yt
 ZAE : ZDo K a.Yt ["self", "begin", "end"] []
 ZAF : ZEk K a.ZB "four" a.Yk
 ZBV : Fun K "fours" "Tree.fours" ZGN a.YI a.YL
 ZDB : ZDo K a.YL ["self", "window"] []
 ZDJ : ZEk K a.ZB "fours" a.YI
 ZDQ : Fun K "told" "Tree.told" ZJR a.ZAB a.J9
 ZDR : ZDo K a.J9 ["self"] []
 ZDP : ZEk K a.ZB "told" a.ZAB
 ZAi : Fun K "known_in" "known_in" ZIR a.JH a.Yz
 ZCG : ZDo K a.Yz ["known", "window"] []
 ZCI : mg "known_in" = some (.ref a.JH)
 ZAs : Fun K "__init__" "View.__init__" ZGO a.Zh a.Zg
 ZAk : ZDo K a.Zg ["self", "store", "window"] []
 ZBW : Fun K "fours" "View.fours" ZGP a.YG a.YO
 JT : ZDo K a.YO ["self"] []
 Jb : ZEk K a.ZC "fours" a.YG
 ZBN : Fun K "forget" "View.forget" ZGp a.YA a.YE
 JL : ZDo K a.YE ["self"] []
 JK : ZEk K a.ZC "forget" a.YA
 ZCP : Fun K "on" "View.on" ZIv a.Jd a.Js
 ZCR : ZDo K a.Js ["self", "c"] []
 ZCS : ZEk K a.ZC "on" a.Jd
 ZBx : Fun K "wide" "View.wide" ZHo a.Yc a.Yr
 ZBq : ZDo K a.Yr ["self"] []
 ZB0 : ZEk K a.ZC "wide" a.Yc
 ZBK : Fun K "narrow" "View.narrow" ZGq a.YB a.YD
 ZBG : ZDo K a.YD ["self"] []
 ZBO : ZEk K a.ZC "narrow" a.YB
 ZAv : Fun K "columns" "View.columns" ZGe a.Zt a.Zu
 ZA2 : ZDo K a.Zu ["self", "n"] []
 ZAu : ZEk K a.ZC "columns" a.Zt
 ZAw : Fun K "step_to" "View.step_to" ZGf a.Zw a.Z0
 ZZ : ZDo K a.Z0 ["self", "window"] []
 ZX : ZEk K a.ZC "step_to" a.Zw
 Jy : Fun K "dots_of" "dots_of" ZHa a.JZ a.Jw
 ZA7 : ZDo K a.Jw ["curve", "window", "heights"] []
 ZBA : mg "dots_of" = some (.ref a.JZ)
 ZA4 : Fun K "dots_by" "dots_by" ZIw a.Ju a.Jk
 ZCY : ZDo K a.Jk ["fours", "window", "heights"] []
 ZCU : mg "dots_by" = some (.ref a.Ju)
 JQ : Fun K "column_dots" "column_dots" ZGr a.YC a.Z8
 ZBL : ZDo K a.Z8 ["samples", "times", "heights"] []
 ZBE : mg "column_dots" = some (.ref a.YC)
 ZAq : Fun K "rows_met" "rows_met" ZG0 a.JD a.Y3
 ZCH : ZDo K a.Y3 ["samples", "times", "heights"] []
 ZCA : mg "rows_met" = some (.ref a.JD)
 ZAa : Fun K "row_at" "row_at" ZJs a.ZAd a.ZAc
 ZBU : ZDo K a.ZAc ["one", "other", "t", "heights"] []
 ZBe : mg "row_at" = some (.ref a.ZAd)
 ZAN : Fun K "row_of" "row_of" ZJt a.ZAK a.ZAV
 ZBR : ZDo K a.ZAV ["height", "parts", "heights"] []
 ZBd : mg "row_of" = some (.ref a.ZAK)
 ZAU : ZMV K "__init__" "Store.__init__" ZET a.Zd a.ZJ
 ZCo : ZDo K a.ZJ ["self", "curve"] []
 J8 : ZDo K a.ZJ ["self", "curve"] [Value.none]
 ZCd : ZNc K a.ZJ ["self", "curve"] "curve"
 ZBt : Fun K "put" "Store.put" ZHp a.Yo a.Yg
 ZBz : ZDo K a.Yg ["self", "t", "h"] []
 ZBu : ZEk K a.ZA "put" a.Yo
 ZDK : Fun K "take" "Store.take" ZIx a.Jz a.JW
 ZDH : ZDo K a.JW ["self", "t"] []
 ZDG : ZEk K a.ZA "take" a.Jz
 ZCr : Fun K "height" "Store.height" ZH5 a.Yv a.Yw
 ZCw : ZDo K a.Yw ["self", "t"] []
 ZCv : ZEk K a.ZA "height" a.Yv
 ZB8 : Fun K "check_sample" "Store.check_sample" ZGQ a.Zq a.Zr
 ZB9 : ZDo K a.Zr ["self", "t"] []
 ZCJ : ZEk K a.ZA "check_sample" a.Zq
 ZCK : Fun K "do" "Store.do" ZIS a.JE a.Y8
 ZCE : ZDo K a.Y8 ["self", "t", "h"] []
 ZCB : ZEk K a.ZA "do" a.JE
 ZBP : Fun K "bring" "Store.bring" ZGs a.Z9 a.Z7
 ZBH : ZDo K a.Z7 ["self", "t", "h"] []
 ZBJ : ZEk K a.ZA "bring" a.Z9
 ZDD : Fun K "undo" "Store.undo" ZIy a.Jx a.Ja
 ZDF : ZDo K a.Ja ["self"] []
 ZDL : ZEk K a.ZA "undo" a.Jx
 ZBF : Fun K "times" "Store.times" ZGt a.Z6 a.Z5
 ZBM : ZDo K a.Z5 ["self"] []
 ZBI : ZEk K a.ZA "times" a.Z6
 ZBc : Fun K "four" "Store.four" ZHK a.YS a.YF
 ZBX : ZDo K a.YF ["self", "begin", "end"] []
 ZBS : ZEk K a.ZA "four" a.YS
 ZC4 : Fun K "fours" "Store.fours" ZIb a.JP a.JO
 ZC1 : ZDo K a.JO ["self", "window"] []
 ZC0 : ZEk K a.ZA "fours" a.JP
 ZC7 : Fun K "told" "Store.told" ZIz a.Jq a.Jm
 ZDO : ZDo K a.Jm ["self"] []
 ZC9 : ZEk K a.ZA "told" a.Jq
 ZC3 : Fun K "watch" "Store.watch" ZIc a.JN a.JM
 ZC5 : ZDo K a.JM ["self", "window"] []
 ZC2 : ZEk K a.ZA "watch" a.JN
 ZDC : Fun K "news" "Store.news" ZI0 a.JX a.JU
 ZDA : ZDo K a.JU ["self", "number"] []
 ZDM : ZEk K a.ZA "news" a.JX
 ZBY : Fun K "_law_cell" "_law_cell" ZJu a.ZAW a.ZAY
 ZCk : ZDo K a.ZAY ["_law_script", "_law_k"] []
 ZCh : mg "_law_cell" = some (.ref a.ZAW)
 ZBB : Fun K "_law_purse" "_law_purse" ZI1 a.Jh a.Jf
 ZCQ : ZDo K a.Jf ["_law_cell_here", "_law_k"] []
 ZCb : mg "_law_purse" = some (.ref a.Jh)
 ZF : Fun K "_law_draw" "_law_draw" ZJv a.ZAT a.ZAO
 ZH : ZDo K a.ZAO ["_law_purse_here", "_law_many"] []
 ZG : mg "_law_draw" = some (.ref a.ZAT)
 ZAX : Fun K "_law_less" "_law_less" ZJw a.ZAR a.ZAM
 ZBT : ZDo K a.ZAM ["_law_one", "_law_other"] []
 ZBh : mg "_law_less" = some (.ref a.ZAR)
 Y2 : Fun K "_law_height" "_law_height" ZIT a.JI a.Y5
 ZAt : ZDo K a.Y5 ["_law_one", "_law_other", "_law_time"] []
 ZAl : mg "_law_height" = some (.ref a.JI)
 ZB3 : Fun K "_law_met" "_law_met" ZJH a.ZAx a.ZA3
 ZCs : ZDo K a.ZA3 ["_law_samples", "_law_x", "_law_z"] []
 ZCz : mg "_law_met" = some (.ref a.ZAx)
 ZBZ : Fun K "_law_rows" "_law_rows" ZHL a.ZAI a.ZAJ
 ZCg : ZDo K a.ZAJ ["_law_met_here", "_law_heights"] []
 ZCj : mg "_law_rows" = some (.ref a.ZAI)
 ZBf : Fun K "_law_dots" "_law_dots" ZGg a.ZAH a.ZAS
 ZCf : ZDo K a.ZAS ["_law_curve", "_law_window", "_law_heights"] []
 ZCn : mg "_law_dots" = some (.ref a.ZAH)
 ZAC : Fun K "_law_stepped" "_law_stepped" ZHq a.Yn a.Yb
 ZBk : ZDo K a.Yb ["_law_view", "_law_purse_here"] []
 ZBn : mg "_law_stepped" = some (.ref a.Yn)
 ZBg : Fun K "_law_runs" "_law_runs" ZIU a.ZAb a.ZAZ
 ZCm : ZDo K a.ZAZ ["_law_rows_here"] []
 ZCe : mg "_law_runs" = some (.ref a.ZAb)
 ZDY : Fun K "law" "law" ZF3 a.ZCD a.ZCC
 ZDf : ZDo K a.ZCC ["_law_script"] []
 ZDg : mg "law" = some (.ref a.ZCD)
 ZE : Cls K a.ZB
 ZC6 : mg "Tree" = some (.ref a.ZB)
 ZCy : Mk K a.ZB a.Zk
 ZU : ZEU K a.ZB "looks"
 ZN : ZEU K a.ZB "samples"
 ZM : ZEU K a.ZB "kept_fours"
 ZD : Cls K a.ZC
 ZC8 : mg "View" = some (.ref a.ZC)
 ZCu : Mk K a.ZC a.Zh
 Zc : ZEU K a.ZC "source"
 ZK : ZEU K a.ZC "window"
 Zn : ZEU K a.ZC "asked"
 ZS : ZEU K a.ZC "known"
 Z4 : ZEU K a.ZC "seen"
 ZI : Cls K a.ZA
 ZCx : mg "Store" = some (.ref a.ZA)
 ZCi : Mk K a.ZA a.Zd
 J7 : ZEU K a.ZA "tree"
 JR : ZEU K a.ZA "deeds"
 Ji : ZEU K a.ZA "done"
 YV : ZEU K a.ZA "watches"
 ZDW : ZOM K a.ZY
 ZDS : ZON K a.ZY
 ZDU : mg "NoColumn" = some (.ref a.ZY)
 ZDa : ZOM K a.Ze
 ZDb : ZON K a.Ze
 ZDZ : mg "NotHalf" = some (.ref a.Ze)
 ZDI : ZOM K a.ZP
 ZDE : ZON K a.ZP
 ZDN : mg "OutOfTimes" = some (.ref a.ZP)
 ZDX : ZOM K a.Za
 ZDT : ZON K a.Za
 ZDV : mg "NoSample" = some (.ref a.Za)
 ZBr : mg "TOP_LEVEL" = some (.int 40 a.ZBj)
 Ye : mg "TIMES_END" = some (.int 1099511627776 a.ZBi)
 Jg : mg "ValueError" = none
 ZB5 : mg "abs" = none
 ZBa : mg "bool" = none
 ZB6 : mg "int" = none
 Zf : mg "isinstance" = none
 YX : mg "len" = none
 YT : mg "max" = none
 YW : mg "min" = none
 ZV : mg "range" = none
 Yx : mg "sorted" = none
 ZO : mg "tuple" = none
 ZBQ : mg "zip" = none
local macro_rules | `(tactic| walk_at "sd") => `(tactic| first
 | (show (0 : Int) < _; omega)
 | decide
 | exact ZUe (by omega) (by omega)
 | exact ZV8 (by omega) (by omega)
 | exact ZHV.of (k := 250) (by omega) (by omega) (by decide)
 | exact Or.inr ⟨by omega, by omega⟩
 | exact Or.inl ⟨by omega, by omega⟩
 | exact ZL5 (by omega) (by omega) (by decide))
local macro_rules | `(tactic| walk_at "hp") => `(tactic| first
 | assumption
 | exact ZDu
 | (rw [ZD6 (by assumption)]; assumption)
 | (rw [ZD6 (Ne.symm (by assumption))]; assumption)
 | (rw [ZD6 (by assumption)]; rw [ZD6 (by assumption)]; assumption))
local macro_rules | `(tactic| walk_at "rd") => `(tactic| first
 | with_reducible first | refine ZUn ?_ | refine ZRO ?_ | refine ZQ7 ?_ | refine ZTN ?_ | refine ZTS ?_ | refine ZRH ?_ | refine ZOL ?_ | refine ZRI ?_ | refine ZRJ ?_ | refine ZPU ?_ | refine ZPX ?_ | refine ZM7 ?_ | refine ZM8 ?_ | refine ZMR ?_ | refine ZTI ?_ | refine ZQ8 ?_ | refine ZQ9 ?_
 | ((with_reducible refine' ZVH ?e ?_); (case e => rfl))
 | with_reducible first | refine ZUo ?_ | refine ZSn ?_ | refine ZSo ?_ | refine ZUp ?_ | refine ZQr ?_ | refine ZSp ?_ | refine ZQs ?_ | refine ZSq ?_ | refine ZUq ?_ | refine ZSr ?_ | refine ZWA ?_ | refine ZUs ?_ | refine ZVo ?_ | refine ZUt ?_ | refine ZSs ?_ | refine ZSt ?_ | refine ZVp ?_
 | ((with_reducible refine' ZUu ?e ?_); (case e => rfl))
 | with_reducible first | refine ZWB ?_ | refine ZVq ?_ | refine ZVr ?_ | refine ZVs ?_
 | ((with_reducible refine ZGo (C := ZQN) ?c ?_); (case c => exact ZL5 (by decide) (by decide) (by decide)); (simp only [Int.reduceToNat, Int.reducePow]))
 | ((with_reducible refine ZGo ?c ?_); (case c => walk_at "sd"))
 | with_reducible first | refine ZWC ?_ | refine ZUv ?_ | refine ZVt ?_ | refine ZSu ?_ | refine ZSv ?_ | refine ZUw ?_ | refine ZUx ?_ | refine ZUy ?_ | refine ZQu ?_ | refine ZS5 ?_ | refine ZUr ?_ | refine ZU0 ?_ | refine ZU1 ?_ | refine ZU2 ?_ | refine ZWD ?_ | refine ZVu ?_ | refine ZO8 ?_ | refine ZS2 ?_ | refine ZU3 ?_ | refine ZS0 ?_
 | ((with_reducible refine' ZSy ?s ?_); (case s => first | assumption | exact SqL.of (by assumption)))
 | ((with_reducible refine' ZSz ?s ?_); (case s => first | assumption | exact SqT.of (by assumption)))
 | with_reducible first | refine ZUz ?_ | refine ZSx ?_ | refine ZS3 ?_ | refine ZVv ?_ | refine ZS4 ?_ | refine ZQv ?_
 | ((with_reducible refine' ZU7 ?s ?_); (case s => first | assumption | exact SqT.of (by assumption)))
 | ((with_reducible refine' ZU8 ?s ?_); (case s => first | assumption | exact SqL.of (by assumption)))
 | ((with_reducible refine' ZKJ ?s ?e ?_); (case s => exact SqL.of (by assumption)); (case e => rfl))
 | ((with_reducible refine' ZL6 ?s ?e ?_); (case s => first | assumption | exact SqT.of (by assumption)); (case e => rfl))
 | ((with_reducible refine' ZS1 ?s ?e ?_); (case s => first | assumption | exact SqT.of (by assumption)); (case e => rfl)))
local macro_rules | `(tactic| walk_at "ri") => `(tactic| ((fail_if_success with_reducible refine ZPd ?_); walk_at "rd"))
theorem ZPg (K : W.Frag) : W.kitOne K (.type "int") (.type "int") = some true := by kernel_rfl
theorem ZOU (K : W.Frag) : W.kitOne K (.type "int") (.type "bool") = some false := by kernel_rfl
def Pur (H : Hp) (p : Addr) : Prop := ∃ x n c : Int, H p = some (.lst [.int x, .int n, .int c]) ∧ 0 ≤ x ∧ 0 ≤ c ∧ c < 4294967296
theorem Pur.same {H H' : Hp} {p : Addr} (h : Pur H p) (s : ZDn H H') : Pur H' p := by
 obtain ⟨x, n, c, h, r⟩ := h
 exact ⟨x, n, c, s _ _ h, r⟩
theorem Pur.neN {H : Hp} {p l : Addr} (h : Pur H p) (hl : H l = none) : l ≠ p := by
 obtain ⟨x, n, c, h, r⟩ := h
 exact (ZD4 h hl).symm
theorem Pur.kp {H H' : Hp} {p l : Addr} (h : Pur H p) (k : Kp l H H') (n : p ≠ l) : Pur H' p := by
 obtain ⟨x, m, c, h, r⟩ := h
 exact ⟨x, m, c, k _ _ h n, r⟩
def ZVP (K : W.Frag) : Sp := fun vs H Q _ => ∃ (s : Addr) (ns : List Int) (k : Int), vs = [.ref s, .int k] ∧ SqL K H s (ns.map V.int) ∧ 0 ≤ k ∧ Q (.int (ns.getD k.toNat 0)) H
def ZTc : Sp := fun vs H Q _ => ∃ c k : Int, vs = [.int c, .int k] ∧ 0 ≤ k ∧ k ≤ 100 ∧ ∀ (p : Addr) (H' : Hp), H p = none → Pur H' p → ZDn H H' → Q (.ref p) H'
def ZVQ : Sp := fun vs H Q _ => ∃ (p : Addr) (n : Int), vs = [.ref p, .int n] ∧ Pur H p ∧ 0 < n ∧ n < 2 ^ 250 ∧ ∀ (d : Int) (H' : Hp), 0 ≤ d → d < n → Pur H' p → Kp p H H' → Q (.int d) H'
section
variable {P : Program} {w : World} {K : W.Frag} {mg : Str → Option Value} {base : Heap} {a : Ad}
theorem ZPh : ZDs ["_law_script", "_law_k"] ["_law_script", "_law_k"] (ZDl ZJu) := ZD8
theorem ZPi (T : Txt K mg a) : ZDw P w K mg base CX0 1 a.ZAW a.ZAY ["_law_script", "_law_k"] (ZVP K) := by
 refine T.ZBY.ok ZPh (by walk_at "l") (fun cdv A outer s H vs Q E hr h => ?_)
 ·obtain ⟨p, ns, k, rfl, hS, hk, q⟩ := h
  refine ⟨_, QB.h (ZDm (ZD1 (ZGZ (ZD3 (ZF0) (qv 1) (ZEJ (ZH1 K rfl) rfl T.YX ZHt (ZDh (qv 0) ZDi)) (ZEB _)) (ZD2 (ZFG K rfl) (qv 0) (qv 1)) ZDk))), ?_⟩
  walk_at "s"
  walk_at "w"
  rw [List.length_map]
  refine ZEP (fun h => ?_) (fun h => ?_)
  ·walk_at "w"
   obtain ⟨n, rfl⟩ : ∃ n : Nat, k = (n : Int) := ⟨k.toNat, by omega⟩
   have hk2 : n < ns.length := by omega
   refine ZKJ (v := .int (ns.getD n 0)) hS (ZKh ?_) q
   rw [List.getElem?_map, List.getElem?_eq_getElem hk2]
   simp [List.getD, hk2]
  ·walk_at "w"
   have e : ns.getD k.toNat 0 = 0 := by
    rw [List.getD, List.getElem?_eq_none (by omega)]
    rfl
   rw [e] at q
   exact q
theorem ZOV : ZDs ["_law_cell_here", "_law_k"] ["_law_cell_here", "_law_k"] (ZDl ZI1) := ZD8
theorem ZOW (T : Txt K mg a) : ZDw P w K mg base CX0 1 a.Jh a.Jf ["_law_cell_here", "_law_k"] ZTc := by
 refine T.ZBB.ok ZOV (by walk_at "l") (fun cdv A outer s H vs Q E hr h => ?_)
 ·obtain ⟨c, n, rfl, hn, hn2, k⟩ := h
  refine ⟨_, QB.h (ZDj (ZEi (ZD3 (ZRy) (qv 0) (ZDr ZOu ZDk ZDk) (ZEB _)) (ZDm (ZD1 (ZFh (ZDh (qv 0) (ZDh ZDk (ZDh (ZDr ZEN (ZDr ZEE ZDk (qv 1)) ZDk) ZDi)))))) ZEZ) (ZDm (ZD1 (ZFh (ZDh ZDk (ZDh ZDk (ZDh (ZDr ZGF (ZDr ZEN (ZDr ZEN (ZDr ZEN (ZDr ZEE (ZDr ZGF (ZEJ ZUm rfl T.ZB5 ZUg (ZDh (qv 0) ZDi)) (ZDr ZOu ZDk ZDk)) ZDk) (ZDr ZEE (ZDr ZEE ZDk (qv 1)) (qv 1))) (ZDr ZEE ZDk (qv 1))) ZDk) ZDk) ZDi))))))), ?_⟩
  walk_at "s"
  walk_at "w"
  refine ZEP (fun h => ?_) (fun h => ?_)
  ·walk_at "w"
   refine ZDx (by show 3 ≤ sizeLine; decide) fun p H2 hp f2 S2 => ?_
   exact k p H2 hp ⟨_, _, _, f2, by omega, by omega, by omega⟩ S2
  ·walk_at "w"
   refine ZDx (by show 3 ≤ sizeLine; decide) fun p H2 hp f2 S2 => ?_
   refine k p H2 hp ⟨_, _, _, f2, by omega, Int.emod_nonneg _ (by decide), ?_⟩ S2
   exact Int.lt_of_lt_of_le (Int.emod_lt_of_pos _ (by decide)) (by decide)
theorem ZLP : ZDs ["_law_purse_here", "_law_many", "_law_digit"] ["_law_purse_here", "_law_many"] (ZDl ZJv) := ZD8
theorem ZEe (T : Txt K mg a) : ZDw P w K mg base CX0 1 a.ZAT a.ZAO ["_law_purse_here", "_law_many"] ZVQ := by
 refine T.ZF.ok ZLP (by walk_at "l") (fun cdv A outer s H vs Q E hr h => ?_)
 ·obtain ⟨p, n, rfl, ⟨x, m, y, hp, hx, hy, hy2⟩, hn, hn2, k⟩ := h
  have hdiv : ∀ i : Int, ZHV i n := fun i => ZHV.of (k := 250) hn hn2 (by decide)
  refine ⟨_, QB.h (ZDj (ZEi (ZD3 (ZVl) (ZD2 (ZFG K rfl) (qv 0) ZDk) ZDk (ZEB _)) (ZDj (qsS (i := 2) ZLP.nd (ZDr ZGF (ZD2 (ZFG K rfl) (qv 0) ZDk) (qv 1))) (ZDj (ZEy (ZDr ZFf (ZD2 (ZFG K rfl) (qv 0) ZDk) (qv 1)) (ZL8 (qv 0) ZDk ZJc)) (ZDm (ZD1 (qv 2))))) ZEZ) (ZDj (ZEy (ZDr ZEN (ZD2 (ZFG K rfl) (qv 0) ZDk) ZDk) (ZL8 (qv 0) ZDk ZJc)) (ZDj (ZEy (ZDr ZGF (ZDr ZEN (ZDr ZEE (ZD2 (ZFG K rfl) (qv 0) ZDk) ZDk) (ZDr ZEE ZDk (ZD2 (ZFG K rfl) (qv 0) ZDk))) ZDk) (ZL8 (qv 0) ZDk ZJc)) (ZDm (ZD1 (ZDr ZGF (ZDr ZFf (ZDr ZGF (ZDr ZEE (ZD2 (ZFG K rfl) (qv 0) ZDk) (ZD2 (ZFG K rfl) (qv 0) ZDk)) ZDk) ZDk) (qv 1))))))), ?_⟩
  walk_at "s"
  walk_at "w"
  refine ZEP (fun h => ?_) (fun h => ?_)
  ·walk_at "w"
   refine ZSw hp (by rfl) ?_
   walk_at "w"
   exact k _ _ (Int.emod_nonneg _ (by omega)) (Int.emod_lt_of_pos _ hn) ⟨_, _, _, ZDu, Int.ediv_nonneg hx (by omega), hy, hy2⟩ Kp.upd
  ·walk_at "w"
   refine ZNU hp (by rfl) fun H2 f2 K2 => ?_
   have f2 : H2 p = some (.lst [V.int x, V.int (m + 1), V.int y]) := f2
   walk_at "w"
   refine ZNU f2 (by rfl) fun H3 f3 K3 => ?_
   generalize hz : (y * 39373 + 8191 * (m + 1)) % 2147483587 = z at f3
   have h0 : 0 ≤ z := by rw [← hz]; exact Int.emod_nonneg _ (by decide)
   have h1 : z < 2147483587 := by rw [← hz]; exact Int.emod_lt_of_pos _ (by decide)
   have f3 : H3 p = some (.lst [V.int x, V.int (m + 1), V.int z]) := f3
   walk_at "w"
   refine k _ _ (Int.emod_nonneg _ (by omega)) (Int.emod_lt_of_pos _ hn) ⟨_, _, _, f3, hx, h0, by omega⟩ ?_
   exact fun q o e nq => K3 q o (K2 q o e nq) nq
end
section
variable {P : Program} {w : World} {K : W.Frag} {mg : Str → Option Value} {base : Heap} {a : Ad}
def ZPj (K : W.Frag) : Sp := fun vs H Q _ => ∃ (b : Bool) (l : Addr) (us : List V) (prs : PL), vs = [.ref l] ∧ SQ b H l us ∧ ZDt H us prs ∧ prs.length < 64 ∧
 ∀ (t : Addr) (cv : PL) (H' : Hp), PrT H' t cv → ZKn (ZFb prs) cv → cv.length ≤ prs.length → ZDn H H' → Q (.ref t) H'
theorem ZPk (l : PL) (p : Int × Int) : ZFb (l ++ [p]) = ZEn (ZFb l) p.1 p.2 := by
 unfold ZFb
 rw [List.foldl_append]
 rfl
theorem ZGi : ZDs ["samples", "heights", "t", "h"] ["samples"] (ZDl ZGz) := ZD8
theorem ZNB (T : Txt K mg a) : ZDw P w K mg base CX0 1 a.Y6 a.JB ["samples"] (ZPj K) := by
 refine T.ZAe.ok ZGi (by walk_at "l") (fun cdv A outer s H vs Q E hr h => ?_)
 ·obtain ⟨b, l, us, prs, rfl, hL, hP, hlen, k⟩ := h
  have hu := ZGI hr
  have hm := ZML prs
  refine ⟨_, QB.h (ZDj (qsS (i := 1) ZGi.nd ZJf) (ZDj (ZE9 PassesOwn.never rfl (ZVJ K rfl (qv 0)) (ZEb (n := 2) K rfl rfl (ZDq (qgN (i := 2) ZGi.nd) (ZDq (qgN (i := 3) ZGi.nd) ZEQ))) (ZDm (ZGC hu (qv 3) (qv 1) (qv 2)))) (ZDm (ZD1 (ZE1 (ZFT K rfl) rfl T.ZO ZFR (ZDh (ZFs (N := ["samples", "heights", "t", "h"]) (sc := ZDl ZGz) (own := ["t"]) (caps := ["heights"]) (ks := [1]) rfl rfl rfl ⟨rfl, by decide +kernel, by decide +kernel, by decide +kernel, by decide +kernel, rfl, by decide +kernel⟩ (ZFH K rfl (ZEJ (ZN6 rfl) rfl T.Yx ZLB (ZDh (qv 1) ZDi))) (fun _ _ _ _ _ => ZEc (i := 0) (show List.Nodup (α := Str) ["t", "heights"] from by decide +kernel) rfl (by walk_at "o") (.inr rfl)) (fun _ _ _ _ _ => ZFS) (fun _ _ _ _ _ => ZEA (ZDh (qv 0) (ZDh (ZG6 hu (qv 1) (qv 0)) ZDi)))) ZDi)))))), ?_⟩
  walk_at "s"
  walk_at "w"
  refine ZJh fun d H0 n0 f0 S0 => ?_
  walk_at "w"
  refine ZTJ (b := b) (xs := us) (fun i σ H' => (∃ v2 v3, σ = [some (.ref l), some (.ref d), v2, v3]) ∧ ZDn H H' ∧ H' d = some (.dK (ZES (ZFb (prs.take i))))) (hL.same S0) ?_ (fun i σ H' _ h => hL.same h.2.1) ?_ ?_
  ·exact ⟨⟨_, _, rfl⟩, S0, f0⟩
  ·rintro i x σ H1 hx ⟨⟨v2, v3, rfl⟩, S1, f1⟩
   obtain ⟨c, p, rfl, hp, hc⟩ := (hP.same S1).at hx
   have e3 : prs.take (i + 1) = prs.take i ++ [p] := by
    rw [List.take_succ, hp]
    rfl
   walk_at "w"
   refine ZJg f1 ?_ fun H2 f2 K2 => ?_
   ·exact Nat.lt_of_le_of_lt (ZML _) (Nat.lt_of_le_of_lt (by rw [List.length_take]; exact Nat.min_le_right _ _) (Nat.lt_of_lt_of_le hlen (by decide)))
   walk_at "w"
   refine ⟨⟨_, _, rfl⟩, S1.kpN n0 K2, ?_⟩
   rw [e3, ZPk]
   exact f2
  ·rintro σ H1 ⟨⟨v2, v3, rfl⟩, S1, f1⟩
   rw [hP.length, List.take_length] at f1
   walk_at "w"
   refine ZN9 f1 (by omega) fun l2 H2 ns n2 f2 hp hs S2 => ?_
   have hnl : ns.length = (ZFb prs).length := by have := hp.length_eq; simpa using this
   walk_at "w"
   intro l3 n3
   have S23 : ZDn H2 (upd H2 l3 (.lst [])) := ZDn.new n3
   refine ZEw ns.length (fun i σ' H' => (∃ o, σ' = [o, some (.ref d)]) ∧ ZDn H2 H' ∧ ∃ vs, H' l3 = some (.lst vs) ∧ ZDt H' vs ((ZFI (ZFb prs) ns).take i)) ?_ ?_ ?_
   ·exact ⟨⟨none, rfl⟩, S23, [], ZDu, .nil⟩
   ·rintro σ H' ⟨_, s, vs, f3, hPc⟩
    refine ⟨⟨_, SqL.of (s _ _ f2), by simp⟩, ?_⟩
    walk_at "w"
    refine ZFr (SqL.of f3) fun t H4 n4 f4 S4 => ?_
    have ecv : (ZFI (ZFb prs) ns).take ns.length = ZFI (ZFb prs) ns := List.take_of_length_le (by simp [ZFI])
    rw [ecv] at hPc
    exact k t _ H4 ⟨vs, f4, hPc.same S4⟩ (ZOA (ZKL prs) hp hs) (by unfold ZFI; rw [List.length_map, hnl]; exact hm) (((S1.trans S2).trans s).trans S4)
   ·rintro i σ H' hi ⟨⟨o, rfl⟩, s, vs, f3, hPc⟩
    have hi2 : i < (ns.map V.int).length := by simpa using hi
    refine ⟨⟨_, _, SqL.of (s _ _ f2), List.getElem?_eq_getElem hi2⟩, ?_⟩
    rintro u H'' ⟨rfl, hu'⟩
    have hu' := hu' _ (SqL.of (s _ _ f2))
    have eu : u = .int ns[i] := by
     rw [List.getElem?_map, List.getElem?_eq_getElem hi] at hu'
     simpa using hu'.symm
    subst eu
    walk_at "w"
    refine ZFF ?_
    walk_at "w"
    have hmem : ns[i] ∈ (ZFb prs).map (·.1) := hp.mem_iff.mp (List.getElem_mem hi)
    obtain ⟨x, hx⟩ : ∃ x, ZEV (ZFb prs) ns[i] = some x := by
     cases hg : ZEV (ZFb prs) ns[i] with
     | none => exact absurd hmem (ZHX.mp hg)
     | some x => exact ⟨x, rfl⟩
    refine ZMJ (s _ _ (S2 _ _ f1)) hx ?_
    walk_at "w"
    refine ZDx (by show 2 ≤ sizeLine; decide) fun t H4 n4 f4 S4 => ?_
    have f34 := S4 _ _ f3
    refine ⟨vs, f34, ?_, ⟨_, rfl⟩, ?_, ?_⟩
    ·have e := hPc.length
     rw [e, List.length_take]
     exact Nat.lt_of_le_of_lt (Nat.min_le_left _ _) (Nat.lt_of_lt_of_le hi (by rw [hnl]; exact Nat.le_of_lt (Nat.lt_of_le_of_lt hm (Nat.lt_of_lt_of_le hlen (by decide)))))
    ·exact (s.trans S4).kpN (l := l3) n3 Kp.upd
    ·refine ⟨_, ZDu, ?_⟩
     have e3 : (ZFI (ZFb prs) ns).take (i + 1) = (ZFI (ZFb prs) ns).take i ++ [(ns[i], x)] := by
      rw [List.take_succ]
      congr 1
      simp [ZFI, List.getElem?_eq_getElem hi, hx]
     rw [e3]
     exact ZDt.kpL Kp.upd f34 ((hPc.same S4).snoc f4)
end
section
variable {P : Program} {w : World} {K : W.Frag} {mg : Str → Option Value} {base : Heap} {a : Ad}
def ZMh : Sp := fun vs H Q _ => ∃ (c : Addr) (x y : Int), vs = [.ref c] ∧ H c = some (.tup [.int x, .int y]) ∧ Q (.int y) H
theorem ZMi : ZDs ["sample"] ["sample"] (ZDl ZHj) := ZD8
theorem ZFL (T : Txt K mg a) : ZDw P w K mg base CX0 1 a.Yq a.Yi ["sample"] ZMh := by
 refine T.Zb.ok ZMi (by walk_at "l") (fun cdv A outer s H vs Q E hr h => ?_)
 ·obtain ⟨c, x, y, rfl, hc, q⟩ := h
  refine ⟨_, QB.h (ZDm (ZD1 (ZD2 (ZD5 K rfl) (qv 0) ZDk))), ?_⟩
  walk_at "s"
  walk_at "w"
  exact q
end
section
variable {P : Program} {w : World} {K : W.Frag} {mg : Str → Option Value} {base : Heap} {a : Ad}
def ZRW (K : W.Frag) : Sp := fun vs H Q _ => ∃ (v1 v2 : V) (o1 o2 : Option (PL)) (c1 c2 : PL), vs = [v1, v2] ∧ ZEH H v1 o1 ∧ Is4 c1 o1 ∧ ZEH H v2 o2 ∧ Is4 c2 o2 ∧ (∀ p ∈ c1, ∀ q ∈ c2, p.1 < q.1) ∧
 ∀ (v : V) (o : Option (PL)) (H' : Hp), ZEH H' v o → Is4 (c1 ++ c2) o → ZDn H H' → Q v H'
theorem ZLQ {H : Hp} {v : V} {c : PL} {qs : PL} (h : ZEH H v (some qs)) (g : Is4 c (some qs)) : ∃ (l : Addr) (q0 q1 q2 q3 : Int × Int) (a0 a1 a2 a3 : Addr), v = .ref l ∧ qs = [q0, q1, q2, q3] ∧ H l = some (.tup [.ref a0, .ref a1, .ref a2, .ref a3]) ∧
  H a0 = some (.tup [.int q0.1, .int q0.2]) ∧ H a1 = some (.tup [.int q1.1, .int q1.2]) ∧ H a2 = some (.tup [.int q2.1, .int q2.2]) ∧ H a3 = some (.tup [.int q3.1, .int q3.2]) := by
 cases h with
 | @pr l qs h hl =>
  obtain ⟨us, f, hP⟩ := h
  rcases g with ⟨e, _⟩ | ⟨q0, q1, q2, q3, e, _⟩
  ·cases e
  ·cases e
   cases hP with
   | cons h0 t => cases t with
    | cons h1 t => cases t with
     | cons h2 t => cases t with
      | cons h3 t =>
       cases t
       obtain ⟨a0, rfl, e0⟩ := h0
       obtain ⟨a1, rfl, e1⟩ := h1
       obtain ⟨a2, rfl, e2⟩ := h2
       obtain ⟨a3, rfl, e3⟩ := h3
       exact ⟨l, q0, q1, q2, q3, a0, a1, a2, a3, rfl, rfl, f, e0, e1, e2, e3⟩
theorem ZI2 : ZDs ["one", "other", "lowest", "highest"] ["one", "other"] (ZDl ZJr) := ZD8
theorem ZI3 (T : Txt K mg a) : ZDw P w K mg base CX0 2 a.ZAG a.ZAQ ["one", "other"] (ZRW K) := by
 refine T.Y0.ok ZI2 (by walk_at "l") (fun cdv A outer s H vs Q E hr h => ?_)
 ·obtain ⟨v1, v2, o1, o2, c1, c2, rfl, h1, g1, h2, g2, hlt, k⟩ := h
  refine ⟨_, QB.h (ZDj (ZEi (ZD3 (ZL4) (qv 0) ZE8 (ZEB _)) (ZDm (ZD1 (qv 1))) ZEZ) (ZDj (ZEi (ZD3 (ZL4) (qv 1) ZE8 (ZEB _)) (ZDm (ZD1 (qv 0))) ZEZ) (ZDj (qsS (i := 2) ZI2.nd (ZGZ (ZD3 (ZGh) (qcS (ZFL T) hr T.ZQ T.Zb.kp T.ZR (ZDh (ZD2 (ZD5 K rfl) (qv 0) ZDk) ZDi)) (qcS (ZFL T) hr T.ZQ T.Zb.kp T.ZR (ZDh (ZD2 (ZD5 K rfl) (qv 1) ZDk) ZDi)) (ZEB _)) (ZD2 (ZD5 K rfl) (qv 0) ZDk) (ZD2 (ZD5 K rfl) (qv 1) ZDk))) (ZDj (qsS (i := 3) ZI2.nd (ZGZ (ZD3 (ZRy) (qcS (ZFL T) hr T.ZQ T.Zb.kp T.ZR (ZDh (ZD2 (ZD5 K rfl) (qv 0) ZDk) ZDi)) (qcS (ZFL T) hr T.ZQ T.Zb.kp T.ZR (ZDh (ZD2 (ZD5 K rfl) (qv 1) ZDk) ZDi)) (ZEB _)) (ZD2 (ZD5 K rfl) (qv 0) ZDk) (ZD2 (ZD5 K rfl) (qv 1) ZDk))) (ZDm (ZD1 (ZEA (ZDh (ZD2 (ZD5 K rfl) (qv 0) ZDk) (ZDh (ZD2 (ZD5 K rfl) (qv 1) ZDk) (ZDh (qv 2) (ZDh (qv 3) ZDi))))))))))), ?_⟩
  walk_at "s"
  walk_at "w"
  cases o1 with
  | none =>
   cases h1
   refine ZEP (fun _ => ?_) (fun h => absurd rfl h)
   walk_at "w"
   refine k v2 o2 H h2 ?_ (ZDn.refl H)
   rw [g1.of_none, List.nil_append]
   exact g2
  | some qs1 =>
   obtain ⟨l1, q0, q1, q2, q3, a0, a1, a2, a3, rfl, rfl, f1, e0, e1, e2, e3⟩ := ZLQ h1 g1
   refine ZEP (fun h => by cases h) (fun _ => ?_)
   walk_at "w"
   cases o2 with
   | none =>
    cases h2
    refine ZEP (fun _ => ?_) (fun h => absurd rfl h)
    walk_at "w"
    refine k (.ref l1) _ H h1 ?_ (ZDn.refl H)
    rw [g2.of_none, List.append_nil]
    exact g1
   | some qs2 =>
    obtain ⟨l2, r0, r1, r2, r3, b0, b1, b2, b3, rfl, rfl, f2, d0, d1, d2, d3⟩ := ZLQ h2 g2
    refine ZEP (fun h => by cases h) (fun _ => ?_)
    walk_at "w"
    refine ⟨a2, _, _, rfl, e2, ?_⟩
    walk_at "w"
    refine ⟨b2, _, _, rfl, d2, ?_⟩
    walk_at "w"
    have J := g1.join g2 hlt
    have fin : ∀ (x y : Addr) (p2 p3 : Int × Int), H x = some (.tup [.int p2.1, .int p2.2]) → H y = some (.tup [.int p3.1, .int p3.2]) → Is4 (c1 ++ c2) (some [q0, r1, p2, p3]) → ∀ l H', H l = none → H' l = some (.tup [.ref a0, .ref b1, .ref x, .ref y]) → ZDn H H' → Q (.ref l) H' := fun x y p2 p3 hx hy J l H' n' f' S' =>
     k (.ref l) _ H' (.pr ⟨_, f', .cons ⟨a0, rfl, S' _ _ e0⟩ (.cons ⟨b1, rfl, S' _ _ d1⟩ (.cons ⟨x, rfl, S' _ _ hx⟩ (.cons ⟨y, rfl, S' _ _ hy⟩ .nil)))⟩ rfl) J S'
    have part2 : ∀ (x : Addr) (p2 : Int × Int), True := fun _ _ => trivial
    refine ZEP (fun hl => ?_) (fun hl => ?_)
    ·walk_at "w"
     refine ⟨a3, _, _, rfl, e3, ?_⟩
     walk_at "w"
     refine ⟨b3, _, _, rfl, d3, ?_⟩
     walk_at "w"
     refine ZEP (fun hh => ?_) (fun hh => ?_)
     ·walk_at "w"
      rw [if_pos hl, if_pos hh] at J
      exact ZDx (by show 4 ≤ sizeLine; decide) fun l H' n' f' S' => fin _ _ _ _ e2 e3 J l H' n' f' S'
     ·walk_at "w"
      rw [if_pos hl, if_neg hh] at J
      exact ZDx (by show 4 ≤ sizeLine; decide) fun l H' n' f' S' => fin _ _ _ _ e2 d3 J l H' n' f' S'
    ·walk_at "w"
     refine ⟨a3, _, _, rfl, e3, ?_⟩
     walk_at "w"
     refine ⟨b3, _, _, rfl, d3, ?_⟩
     walk_at "w"
     refine ZEP (fun hh => ?_) (fun hh => ?_)
     ·walk_at "w"
      rw [if_neg hl, if_pos hh] at J
      exact ZDx (by show 4 ≤ sizeLine; decide) fun l H' n' f' S' => fin _ _ _ _ d2 e3 J l H' n' f' S'
     ·walk_at "w"
      rw [if_neg hl, if_neg hh] at J
      exact ZDx (by show 4 ≤ sizeLine; decide) fun l H' n' f' S' => fin _ _ _ _ d2 d3 J l H' n' f' S'
end
section
variable {P : Program} {w : World} {K : W.Frag} {mg : Str → Option Value} {base : Heap} {a : Ad}
theorem ZTd {xs : List V} {v : V} (h : xs[xs.length - 1]? = some v) : atI xs (-1) = some v := by
 have hlt := (List.getElem?_eq_some_iff.mp h).1
 unfold atI ixN
 rw [if_neg (by decide), if_pos (by omega)]
 have : ((-1 : Int) + (xs.length : Int)).toNat = xs.length - 1 := by omega
 rw [this]
 exact h
def ZRX (K : W.Frag) : Sp := fun vs H Q _ => ∃ (l : Addr) (cv : PL), vs = [.ref l] ∧ PrT H l cv ∧ Asc cv ∧
 ∀ (v : V) (o : Option (PL)) (H' : Hp), ZEH H' v o → Is4 cv o → ZDn H H' → Q v H'
theorem ZOX : ZDs ["curve"] ["curve"] (ZDl ZIs) := ZD8
theorem ZOY (T : Txt K mg a) : ZDw P w K mg base CX0 3 a.Jr a.Jl ["curve"] (ZRX K) := by
 refine T.ZA9.ok ZOX (by walk_at "l") (fun cdv A outer s H vs Q E hr h => ?_)
 ·obtain ⟨l, cv, rfl, ⟨us, gL, pL⟩, hasc, k⟩ := h
  have hul : us.length = cv.length := pL.length
  refine ⟨_, QB.h (ZDj (ZEi (ZD3 (ZGG) (ZEJ (ZH1 K rfl) rfl T.YX ZHt (ZDh (qv 0) ZDi)) ZDk (ZEB _)) (ZDm (ZD1 ZE8)) ZEZ) (ZDm (ZD1 (ZEA (ZDh (ZD2 (ZD5 K rfl) (qv 0) ZDk) (ZDh (ZD2 (ZD5 K rfl) (qv 0) (ZN3 ZLv ZDk)) (ZDh (ZOH K rfl rfl (ZFL T) hr rfl T.YW rfl T.ZQ T.ZR (ZDh (qv 0) ZDi)) (ZDh (ZOJ K rfl rfl (ZFL T) hr rfl T.YT rfl T.ZQ T.ZR (ZDh (qv 0) ZDi)) ZDi)))))))), ?_⟩
  walk_at "s"
  walk_at "w"
  refine ZEP (fun h => ?_) (fun h => ?_)
  ·walk_at "w"
   have : cv = [] := List.length_eq_zero_iff.mp (by have h := V.int.inj h; omega)
   exact k _ none H .non (.inl ⟨rfl, this⟩) (ZDn.refl H)
  ·have hpos : 0 < us.length := by
    rcases Nat.eq_zero_or_pos us.length with z | z
    ·exact absurd (by rw [z]; rfl) h
    ·exact z
   have hne : us ≠ [] := List.length_pos_iff.mp hpos
   obtain ⟨c0, q0, ec0, hq0, hc0⟩ := pL.at (List.getElem?_eq_getElem hpos)
   obtain ⟨c1, q1, ec1, hq1, hc1⟩ := pL.at (List.getElem?_eq_getElem (show us.length - 1 < us.length by omega))
   have hx0 : us[0]? = some (.ref c0) := by rw [List.getElem?_eq_getElem hpos, ec0]
   have hx1 : us[us.length - 1]? = some (.ref c1) := by rw [List.getElem?_eq_getElem (show us.length - 1 < us.length by omega), ec1]
   have turn : ∀ i v, us[i]? = some v → ∀ Q : VK, Q (.int (cv.getD i (0, 0)).2) H → ZMh [v] H Q E0 := fun i v hv Q q => by
    obtain ⟨c, p, rfl, hp, hc⟩ := pL.at hv
    have e : cv.getD i (0, 0) = p := by simp [hp]
    rw [e] at q
    exact ⟨c, p.1, p.2, rfl, hc, q⟩
   walk_at "w"
   refine ZL6 (SqT.of gL) (ZKh (j := 0) hx0) ?_
   walk_at "w"
   refine ZL6 (SqT.of gL) (ZTd hx1) ?_
   walk_at "w"
   refine ZOI (fun i => (cv.getD i (0, 0)).2) (SqT.of gL) hne turn fun i2 v2 hv2 hb2 => ?_
   walk_at "w"
   refine ZOK (fun i => (cv.getD i (0, 0)).2) (SqT.of gL) hne turn fun i3 v3 hv3 hb3 => ?_
   obtain ⟨c2, q2, rfl, hq2, hc2⟩ := pL.at hv2
   obtain ⟨c3, q3, rfl, hq3, hc3⟩ := pL.at hv3
   walk_at "w"
   refine ZDx (by show 4 ≤ sizeLine; decide) fun c4 H4 n4 f4 S4 => ?_
   have hP4 : ZDt H4 [.ref c0, .ref c1, .ref c2, .ref c3] [q0, q1, q2, q3] := .cons ⟨c0, rfl, S4 _ _ hc0⟩ (.cons ⟨c1, rfl, S4 _ _ hc1⟩ (.cons ⟨c2, rfl, S4 _ _ hc2⟩ (.cons ⟨c3, rfl, S4 _ _ hc3⟩ .nil)))
   rw [hul] at hq1 hb2 hb3
   exact k _ (some [q0, q1, q2, q3]) H4 (.pr ⟨_, f4, hP4⟩ rfl) (Is4.minmax hasc hq0 hq1 hq2 hq3 hb2 hb3) S4
end
section
variable {P : Program} {w : World} {K : W.Frag} {mg : Str → Option Value} {base : Heap} {a : Ad}
def InT (x : Int) : Prop := -1099511627776 ≤ x ∧ x ≤ 1099511627776
def ZTe : Sp := fun vs H Q _ => ∃ i : Int, vs = [.int i] ∧ Q (.bl true) H
theorem ZNC : ZDs ["thing"] ["thing"] (ZDl ZIN) := ZD8
theorem ZJS (T : Txt K mg a) : ZDw P w K mg base CX0 1 a.JC a.Y1 ["thing"] ZTe := by
 refine T.Yy.ok ZNC (by walk_at "l") (fun cdv A outer s H vs Q E hr h => ?_)
 ·obtain ⟨i, rfl, q⟩ := h
  refine ⟨_, QB.h (ZDm (ZD1 (ZPA (ZEJ (ZPC K rfl) rfl T.Zf ZIa (ZDh (qv 0) (ZDh (ZNV (v := .ty "int") rfl T.ZB6 ZUf rfl) ZDi))) (ZO9 (ZVA (ZEJ (ZPC K rfl) rfl T.Zf ZIa (ZDh (qv 0) (ZDh (ZNV (v := .ty "bool") rfl T.ZBa ZSl rfl) ZDi)))))))), ?_⟩
  walk_at "s"
  walk_at "w"
  refine ZO7 (.int i) (ZPg _) (ZUr (ZFF ?_))
  walk_at "w"
  refine ZO7 (.int i) (ZOU _) ?_
  walk_at "w"
  exact q
def ZRY : Sp := fun vs H Q _ => ∃ i : Int, vs = [.int i] ∧ ((InT i ∧ Q (.bl true) H) ∨ (¬ InT i ∧ Q (.bl false) H))
theorem ZMj : ZDs ["thing"] ["thing"] (ZDl ZHk) := ZD8
theorem ZHM (T : Txt K mg a) : ZDw P w K mg base CX0 2 a.Ys a.Yl ["thing"] ZRY := by
 refine T.Z3.ok ZMj (by walk_at "l") (fun cdv A outer s H vs Q E hr h => ?_)
 ·obtain ⟨i, rfl, h⟩ := h
  refine ⟨_, QB.h (ZDm (ZD1 (ZPA (qcS (ZJS T) hr T.ZAg T.Yy.kp T.ZAj (ZDh (qv 0) ZDi)) (ZO9 (ZQw ZGh ZGh (ZN3 ZLv (ZJE (v := .int 1099511627776) rfl T.Ye ⟨_, rfl⟩)) (qv 0) (ZJE (v := .int 1099511627776) rfl T.Ye ⟨_, rfl⟩)))))), ?_⟩
  walk_at "s"
  walk_at "w"
  refine ⟨i, rfl, ?_⟩
  walk_at "w"
  refine ZFF ?_
  walk_at "w"
  unfold InT at h
  refine ZEP (fun h1 => ?_) (fun h1 => ?_)
  ·walk_at "w"
   rcases h with ⟨hi, q⟩ | ⟨hi, q⟩
   ·rw [decide_eq_true hi.2]
    exact q
   ·rw [decide_eq_false fun z => hi ⟨by omega, z⟩]
    exact q
  ·rcases h with ⟨hi, q⟩ | ⟨hi, q⟩
   ·exact absurd hi.1 (by omega)
   ·walk_at "w"
    exact q
def ZTf : Sp := fun vs H Q _ => ∃ b e : Int, vs = [.int b, .int e] ∧ InT b ∧ InT e ∧ Q .non H
theorem ZJx : ZDs ["begin", "end"] ["begin", "end"] (ZDl ZGM) := ZD8
theorem ZHN (T : Txt K mg a) : ZDw P w K mg base CX0 3 a.Zl a.Zm ["begin", "end"] ZTf := by
 refine T.Zi.ok ZJx (by walk_at "l") (fun cdv A outer s H vs Q E hr h => ?_)
 ·obtain ⟨b, e, rfl, hb, he, q⟩ := h
  refine ⟨_, QB.h (ZDm (ZEi (QW.pt (ZKK (ZH0 (ZHy (qcS (ZHM T) hr T.Yd T.Z3.kp T.Ym (ZDh (qv 0) ZDi)))) (ZIj (ZH0 (ZHy (qcS (ZHM T) hr T.Yd T.Z3.kp T.Ym (ZDh (qv 1) ZDi))))))) (ZDm ZIB) ZEZ)), ?_⟩
  walk_at "s"
  walk_at "w"
  refine ⟨b, rfl, .inl ⟨hb, ?_⟩⟩
  walk_at "w"
  refine ZE0 ?_
  walk_at "w"
  refine ⟨e, rfl, .inl ⟨he, ?_⟩⟩
  walk_at "w"
  refine ZE0 ?_
  walk_at "w"
  exact q
def ZPl : Sp := fun vs H Q _ => ∃ x e : Int, vs = [.int x, .int e] ∧ InT x ∧ InT e ∧ x < e ∧
 ∀ (t : Addr) (L : Nat) (H' : Hp), H' t = some (.tup [.int L, .int (2 ^ L)]) → (2 : Int) ^ L ∣ x → x + 2 ^ L ≤ e → ((2 : Int) ^ (L + 1) ∣ x → x + 2 ^ (L + 1) ≤ e → False) → ZDn H H' → Q (.ref t) H'
theorem ZGR : ZDs ["first", "end", "level", "size"] ["first", "end"] (ZDl ZIu) := ZD8
theorem ZOZ (T : Txt K mg a) : ZDw P w K mg base CX0 1 a.Jo a.Jp ["first", "end"] ZPl := by
 refine T.ZBC.ok ZGR (by walk_at "l") (fun cdv A outer s H vs Q E hr h => ?_)
 ·obtain ⟨x, e, rfl, hx, he, hxe, k⟩ := h
  unfold InT at hx he
  refine ⟨_, QB.h (ZDj (qsS (i := 2) ZGR.nd ZDk) (ZDj (qsS (i := 3) ZGR.nd ZDk) (ZDj (ZL9 PassesOwn.never (QW.pt (ZHz (ZD3 (ZGG) (ZDr ZGF (qv 0) (ZDr ZEE ZDk (qv 3))) ZDk (ZEB _)) (ZG5 (ZD3 (ZGh) (ZDr ZEN (qv 0) (ZDr ZEE ZDk (qv 3))) (qv 1) (ZEB _))))) (ZDj (ZMM (i := 2) ZGR.nd rfl (by walk_at "o") ZNK ZDk) (ZDm (ZMM (i := 3) ZGR.nd rfl (by walk_at "o") ZSR ZDk)))) (ZDm (ZD1 (ZEA (ZDh (qv 2) (ZDh (qv 3) ZDi)))))))), ?_⟩
  walk_at "s"
  walk_at "w"
  refine ZMN (fun σ H' => H' = H ∧ ∃ L : Nat, ∃ z : Int, z = 2 ^ L ∧ σ = [some (.int x), some (.int e), some (.int L), some (.int z)] ∧ z ∣ x ∧ x + z ≤ e) (fun σ H' => match σ with | [_, _, some (.int l), some (.int z)] => (2199023255552 - z).toNat | _ => 0) ?_ ?_
  ·exact ⟨rfl, 0, 1, rfl, rfl, Int.one_dvd _, by omega⟩
  ·rintro σ H' ⟨rfl, L, z, hz, rfl, hd, hle⟩
   have hp : 0 < z := by rw [hz]; exact ZFK L
   have hz2 : z ≤ 2199023255552 := by omega
   walk_at "w"
   rw [ZGv]
   refine ZEP (fun h1 => ?_) (fun h1 => ?_)
   ·walk_at "w"
    refine ZEP (fun h2 => ?_) (fun h2 => ?_)
    ·refine ZNX ?_
     walk_at "w"
     refine ⟨⟨rfl, L + 1, z * 2, ?_, ?_, ?_, by omega⟩, ?_⟩
     ·rw [hz, Int.pow_succ]
     ·show [some (V.int x), some (V.int e), some (V.int ((L : Int) + 1)), some (V.int (z * 2))] = _
      rfl
     ·rw [Int.mul_comm]; exact Int.dvd_of_emod_eq_zero h1
     ·show (2199023255552 - z * 2).toNat < (2199023255552 - z).toNat
      omega
    ·walk_at "w"
     refine ZDx (by show 2 ≤ sizeLine; decide) fun t H2 n2 f2 S2 => ?_
     subst hz
     refine k t L H2 f2 hd hle (fun _ h4 => h2 ?_) S2
     rw [ZIM]; exact h4
   ·refine ZE0 ?_
    walk_at "w"
    refine ZDx (by show 2 ≤ sizeLine; decide) fun t H2 n2 f2 S2 => ?_
    subst hz
    refine k t L H2 f2 hd hle (fun h3 _ => h1 ?_) S2
    rw [ZIM]; exact Int.emod_eq_zero_of_dvd h3
def ZI4 (b e : Int) : Int := if e > b then e else b
def ZND : Sp := fun vs H Q _ => ∃ b e : Int, vs = [.int b, .int e] ∧ InT b ∧ InT e ∧
 ∀ (t : Addr) (prs : PL) (H' : Hp), PrT H' t prs → Ch e b prs (ZI4 b e) → prs.length ≤ 80 → ZDn H H' → Q (.ref t) H'
theorem ZFM : ZDs ["begin", "end", "found", "first", "level", "size"] ["begin", "end"] (ZDl ZHl) := ZD8
theorem ZMk (T : Txt K mg a) : ZDw P w K mg base CX0 4 a.Yp a.Yh ["begin", "end"] ZND := by
 refine T.ZAD.ok ZFM (by walk_at "l") (fun cdv A outer s H vs Q E hr h => ?_)
 ·obtain ⟨b, e, rfl, hb, he, k⟩ := h
  refine ⟨_, QB.h (ZDj (ZDz (qcS (ZHN T) hr T.YY T.Zi.kp T.YU (ZDh (qv 0) (ZDh (qv 1) ZDi)))) (ZDj (qsS (i := 2) ZFM.nd (ZFh ZDi)) (ZDj (qsS (i := 3) ZFM.nd (qv 0)) (ZDj (ZL9 PassesOwn.never (ZD3 (ZF0) (qv 3) (qv 1) (ZEB _)) (ZDj (ZEy (qcS (ZOZ T) hr.m T.ZCa T.ZBC.kp T.ZCW (ZDh (qv 3) (ZDh (qv 1) ZDi))) (ZEb (n := 2) K rfl rfl (ZDq (qgN (i := 4) ZFM.nd) (ZDq (qgN (i := 5) ZFM.nd) ZEQ)))) (ZDj (ZDz (ZGw PySem.F.plainAttrs_list PySem.F.slot_list_append PySem.F.type_list_append ZE2 (qv 2) (ZDh (ZEA (ZDh (qv 4) (ZDh (ZDr ZFf (qv 3) (qv 5)) ZDi))) ZDi))) (ZDm (ZMM (i := 3) ZFM.nd rfl (by walk_at "o") ZNK (qv 5)))))) (ZDm (ZD1 (ZE1 (ZFT K rfl) rfl T.ZO ZFR (ZDh (qv 2) ZDi)))))))), ?_⟩
  walk_at "s"
  walk_at "w"
  refine ⟨b, e, rfl, hb, he, ?_⟩
  unfold InT at hb he
  walk_at "w"
  refine ZDx (by show 0 ≤ sizeLine; decide) fun l H1 n1 f1 S1 => ?_
  walk_at "w"
  have e40 : (2 : Int) ^ 40 = 1099511627776 := by decide
  refine ZMN (fun σ H' => ZDn H H' ∧ ∃ (x : Int) (prs : PL), (∃ v4 v5, σ = [some (.int b), some (.int e), some (.ref l), some (.int x), v4, v5]) ∧ PrL H' l prs ∧ Ch e b prs x ∧ Few e prs.length x ∧ x ≤ ZI4 b e ∧ b ≤ x) (fun σ H' => match σ with | [_, _, _, some (.int x), _, _] => (e - x).toNat | _ => 0) ?_ ?_
  ·exact ⟨S1, b, [], ⟨_, _, rfl⟩, ⟨[], f1, .nil⟩, rfl, Few.start (by rw [e40]; omega), by unfold ZI4; split <;> omega, Int.le_refl _⟩
  ·rintro σ H' ⟨S', x, prs, ⟨v4, v5, rfl⟩, ⟨vs, f', hP⟩, hch, hfew, hmx, hbx⟩
   walk_at "w"
   refine ZEP (fun hxe => ?_) (fun hxe => ?_)
   ·refine ZNX ?_
    walk_at "w"
    refine ⟨x, e, rfl, ⟨by omega, by omega⟩, he, hxe, fun t L H2 f2 hd hle hmax S2 => ?_⟩
    have hL : L ≤ 40 := ZMa (by rw [e40]; omega) (by rw [e40]; omega) hd hle
    have hp := ZFK L
    have hL2 := ZIL hL
    rw [e40] at hL2
    have hfs := Few.step (by rw [e40]; omega) (by rw [e40]; omega) hfew hd hle hmax
    generalize hz : (2 : Int) ^ L = z at *
    walk_at "w"
    refine ⟨tyL (S2 _ _ f'), ?_⟩
    walk_at "w"
    refine ZDx (by show 2 ≤ sizeLine; decide) fun t3 H3 n3 f3 S3 => ?_
    have fl := S3 _ _ (S2 _ _ f')
    walk_at "w"
    refine ZFA fl ?_ fun H4 f4 K4 => ?_
    ·rw [hP.length]
     exact Nat.lt_of_le_of_lt hfew.len (by decide)
    walk_at "w"
    have hxz : x / z * z = x := Int.ediv_mul_cancel hd
    refine ⟨⟨((S'.trans S2).trans S3).kpN n1 K4, x + z, prs ++ [((L : Int), x / z)], ⟨_, _, rfl⟩, ⟨_, f4, ?_⟩, ?_, ?_, ?_, by omega⟩, ?_⟩
    ·exact ZDt.kpL K4 fl ((hP.same (S2.trans S3)).snoc f3)
    ·have := Ch.snoc (p := ((L : Int), x / z)) hch ⟨by simp, by simp; omega⟩ (by rw [show ((L : Int), x / z).1.toNat = L from Int.toNat_natCast L, hz]; exact hxz) (by rw [show ((L : Int), x / z).1.toNat = L from Int.toNat_natCast L, hz]; exact hle) (by
      rw [show ((L : Int), x / z).1.toNat = L from Int.toNat_natCast L, hz]
      intro _ h5 h6
      have ez : (2 : Int) ^ (L + 1) = 2 * z := by rw [← ZIM, hz]
      refine hmax ?_ ?_
      ·rw [ez]; exact Int.dvd_of_emod_eq_zero h5
      ·rw [ez]; exact h6)
     rw [show ((L : Int), x / z).1.toNat = L from Int.toNat_natCast L, hz] at this
     exact this
    ·rw [List.length_append]; exact hfs
    ·unfold ZI4; split <;> omega
    ·show (e - (x + z)).toNat < (e - x).toNat
     omega
   ·walk_at "w"
    refine ZFr (SqL.of f') fun t H2 n2 f2 S2 => ?_
    have ex : x = ZI4 b e := by
     unfold ZI4 at hmx ⊢
     split <;> rename_i hh
     ·rw [if_pos hh] at hmx; omega
     ·rw [if_neg hh] at hmx; omega
    rw [ex] at hch
    exact k t prs H2 ⟨vs, f2, hP.same S2⟩ hch hfew.len (S'.trans S2)
end
section
variable {P : Program} {w : World} {K : W.Frag} {mg : Str → Option Value} {base : Heap} {a : Ad}
def ZTg (K : W.Frag) : Sp := fun vs H Q _ => ∃ (p : Addr) (b y m k : Int), vs = [.ref p, .int k] ∧ H p = some (.tup [.int b, .int y, .int m]) ∧ 0 ≤ k ∧ k < m ∧ m ≤ 1000 ∧
 ∀ (u : Addr) (H' : Hp), H u = none → H' u = some (.tup [.int (b + k * y), .int (b + k * y + y)]) → ZDn H H' → Q (.ref u) H'
theorem ZFy : ZDs ["window", "k", "begin", "wide", "many", "first"] ["window", "k"] (ZDl ZIO) := ZD8
theorem ZJT (T : Txt K mg a) : ZDw P w K mg base CX0 2 a.JG a.JJ ["window", "k"] (ZTg K) := by
 refine T.JF.ok ZFy (by walk_at "l") (fun cdv A outer s H vs Q E hr h => ?_)
 ·obtain ⟨p, b, y, m, n, rfl, hT, h0, h1, h2, k⟩ := h
  refine ⟨_, QB.h (ZDj (ZEy (qv 0) (ZEb (n := 3) K rfl rfl (ZDq (qgN (i := 2) ZFy.nd) (ZDq (qgN (i := 3) ZFy.nd) (ZDq (qgN (i := 4) ZFy.nd) ZEQ))))) (ZDj (ZEi (QW.pt (ZKK (ZH0 (ZHy (qcS (ZJS T) hr T.ZAg T.Yy.kp T.ZAj (ZDh (qv 1) ZDi)))) (ZIj (ZH0 (ZHC ZGh ZF0 ZDk (qv 1) (qv 4)))))) (ZDm ZIB) ZEZ) (ZDj (qsS (i := 5) ZFy.nd (ZDr ZEN (qv 2) (ZDr ZEE (qv 1) (qv 3)))) (ZDm (ZD1 (ZEA (ZDh (qv 5) (ZDh (ZDr ZEN (qv 5) (qv 3)) ZDi)))))))), ?_⟩
  walk_at "s"
  walk_at "w"
  refine ⟨n, rfl, ?_⟩
  walk_at "w"
  refine ZE0 ?_
  walk_at "w"
  refine ZEP (fun _ => ?_) (fun h => absurd h0 h)
  walk_at "w"
  rw [decide_eq_true h1]
  refine ZE0 ?_
  walk_at "w"
  exact ZDx (by show 2 ≤ sizeLine; decide) fun u H2 n2 f2 S2 => k u H2 n2 f2 S2
def ZGj (b y : Int) (n : Nat) : PL := (List.range n).map fun (i : Nat) => (b + (i : Int) * y, b + (i : Int) * y + y)
theorem ZFl (b y : Int) (n : Nat) : (ZGj b y n).length = n := by rw [ZGj, List.length_map, List.length_range]
theorem ZKV (b y : Int) (n : Nat) : ZGj b y (n + 1) = ZGj b y n ++ [(b + (n : Int) * y, b + (n : Int) * y + y)] := by rw [ZGj, List.range_succ, List.map_append]; rfl
theorem ZHO {b y : Int} {n i : Nat} {p : Int × Int} (h : (ZGj b y n)[i]? = some p) : p = (b + (i : Int) * y, b + (i : Int) * y + y) := by
 rw [ZGj, List.getElem?_map] at h
 obtain ⟨j, hj, rfl⟩ := Option.map_eq_some_iff.mp h
 rw [List.getElem?_range (by have := (List.getElem?_eq_some_iff.mp hj).1; rwa [List.length_range] at this)] at hj
 rw [← Option.some.inj hj]
def ZPm (K : W.Frag) : Sp := fun vs H Q _ => ∃ (p : Addr) (b y m : Int), vs = [.ref p] ∧ H p = some (.tup [.int b, .int y, .int m]) ∧ 1 ≤ m ∧ m ≤ 1000 ∧
 ∀ (l : Addr) (us : List V) (H' : Hp), H l = none → H' l = some (.lst us) → ZDt H' us (ZGj b y m.toNat) → ZDn H H' → Q (.ref l) H'
theorem ZLf : ZDs ["window"] ["window"] (ZDl ZGL) := ZD8
theorem ZF4 (T : Txt K mg a) : ZDw P w K mg base CX0 3 a.YK a.YH ["window"] (ZPm K) := by
 refine T.ZT.ok ZLf (by walk_at "l") (fun cdv A outer s H vs Q E hr h => ?_)
 ·obtain ⟨p, b, y, m, rfl, hT, h1, h2, k⟩ := h
  refine ⟨_, QB.h (ZDm (ZD1 (ZFs (N := ["window"]) (sc := ZDl ZGL) (own := ["k"]) (caps := ["window"]) (ks := [0]) rfl rfl rfl ⟨rfl, by decide +kernel, by decide +kernel, by decide +kernel, by decide +kernel, rfl, by decide +kernel⟩ (ZFi rfl T.ZV (ZDh (ZD2 (ZD5 K rfl) (qv 0) ZDk) ZDi)) (fun _ _ _ _ _ => ZEc (i := 0) (show List.Nodup (α := Str) ["k", "window"] from by decide +kernel) rfl (by walk_at "o") (.inr rfl)) (fun _ _ _ _ _ => ZFS) (fun _ _ _ _ _ => qcS (ZJT T) hr T.ZAh T.JF.kp T.ZAp (ZDh (qv 1) (ZDh (qv 0) ZDi)))))), ?_⟩
  walk_at "s"
  walk_at "w"
  refine ZHB (by omega) (by omega) ?_
  intro l n1
  refine ZEw m.toNat (fun i σ' H' => (∃ o, σ' = [o, some (.ref p)]) ∧ ZDn H H' ∧ ∃ vs, H' l = some (.lst vs) ∧ ZDt H' vs (ZGj b y i)) ?_ ?_ ?_
  ·exact ⟨⟨none, rfl⟩, ZDn.new n1, [], ZDu, .nil⟩
  ·rintro σ H2 ⟨_, S2, vs, f2, hP⟩
   refine ⟨Nat.le_refl _, ?_⟩
   walk_at "w"
   exact k l vs H2 n1 f2 hP S2
  ·rintro i σ H2 hi ⟨⟨o, rfl⟩, S2, vs, f2, hP⟩
   refine ⟨hi, ?_⟩
   rintro x H'' ⟨rfl, rfl⟩
   walk_at "w"
   refine ZFF ?_
   walk_at "w"
   refine ⟨p, b, y, m, _, rfl, S2 _ _ hT, by omega, by omega, by omega, fun u H3 n3 f3 S3 => ?_⟩
   have e0 : (0 + (i : Int)) = (i : Int) := by omega
   rw [e0] at f3
   refine ⟨vs, S3 _ _ f2, ?_, ⟨_, rfl⟩, (S2.trans S3).kpN n1 Kp.upd, vs ++ [.ref u], ZDu, ?_⟩
   ·rw [hP.length, ZFl]
    exact Nat.lt_of_lt_of_le hi (Nat.le_trans (show m.toNat ≤ 1000 by omega) (by decide))
   ·rw [ZKV]
    exact ZDt.kpL Kp.upd (S3 _ _ f2) ((hP.same S3).snoc (p := (b + (i : Int) * y, b + (i : Int) * y + y)) f3)
end
def tfl (n : Int) (d1 d2 : Addr) : List (Str × V) := [("looks", V.int n), ("samples", V.ref d1), ("kept_fours", V.ref d2)]
theorem sn1 : (("samples" : Str) == "looks") = false := by decide +kernel
theorem sn2 : (("kept_fours" : Str) == "looks") = false := by decide +kernel
theorem sn3 : (("kept_fours" : Str) == "samples") = false := by decide +kernel
theorem ZHb {n : Int} {d1 d2 : Addr} : (tfl n d1 d2).lookup ("looks" : Str) = some (.int n) := by
 unfold tfl
 rw [List.lookup_cons, beq_self_eq_true]
theorem ZGk {n : Int} {d1 d2 : Addr} : (tfl n d1 d2).lookup ("samples" : Str) = some (.ref d1) := by
 unfold tfl
 rw [List.lookup_cons, sn1, List.lookup_cons, beq_self_eq_true]
theorem ZJy {n : Int} {d1 d2 : Addr} : (tfl n d1 d2).lookup ("kept_fours" : Str) = some (.ref d2) := by
 unfold tfl
 rw [List.lookup_cons, sn2, List.lookup_cons, sn3, List.lookup_cons, beq_self_eq_true]
theorem ZHP {n : Int} {d1 d2 : Addr} {m : Str} (h1 : (m == ("looks" : Str)) = false := by decide +kernel) (h2 : (m == ("samples" : Str)) = false := by decide +kernel) (h3 : (m == ("kept_fours" : Str)) = false := by decide +kernel) : (tfl n d1 d2).lookup m = none := by
 unfold tfl
 rw [List.lookup_cons, h1, List.lookup_cons, h2, List.lookup_cons, h3]
 rfl
theorem ZTh {n n' : Int} {d1 d2 : Addr} : ZD9 "looks" (.int n') (tfl n d1 d2) = tfl n' d1 d2 := by
 show (if ("looks" : Str) = "looks" then [(("looks" : Str), V.int n')] ++ _ else _) = _
 rw [if_pos rfl]
 rfl
theorem ZTi {d1 d2 : Addr} : ZD9 "kept_fours" (.ref d2) (ZD9 "samples" (.ref d1) (ZD9 "looks" (.int 0) [])) = tfl 0 d1 d2 := by
 have e1 : ¬ ("looks" : Str) = "samples" := by decide +kernel
 have e2 : ¬ ("looks" : Str) = "kept_fours" := by decide +kernel
 have e3 : ¬ ("samples" : Str) = "kept_fours" := by decide +kernel
 show ZD9 "kept_fours" (.ref d2) (ZD9 "samples" (.ref d1) [(("looks" : Str), V.int 0)]) = _
 rw [show ZD9 "samples" (.ref d1) [(("looks" : Str), V.int 0)] = (if ("looks" : Str) = "samples" then [(("looks" : Str), V.ref d1)] else (("looks" : Str), V.int 0) :: ZD9 "samples" (.ref d1) []) from rfl, if_neg e1]
 show (if ("looks" : Str) = "kept_fours" then _ else (("looks" : Str), V.int 0) :: (if ("samples" : Str) = "kept_fours" then _ else (("samples" : Str), V.ref d1) :: ZD9 "kept_fours" (.ref d2) [])) = _
 rw [if_neg e2, if_neg e3]
 rfl
def ZEM (C : Addr) (H : Hp) (p : Addr) (n : Int) (d1 d2 : Addr) (sm : PL) (c : Nat) : Prop :=
 ∃ dx kvs, H p = some (.ins C dx (tfl n d1 d2)) ∧ H d1 = some (.dK (ZES sm)) ∧ H d2 = some (.dT kvs) ∧ (sm.map (·.1)).Nodup ∧ ZEv H kvs sm (fun _ _ => True) ∧ kvs.length ≤ 41 * c
theorem ZEM.same {C : Addr} {H H' : Hp} {p d1 d2 : Addr} {n : Int} {sm : PL} {c : Nat} (h : ZEM C H p n d1 d2 sm c) (s : ZDn H H') : ZEM C H' p n d1 d2 sm c := by
 obtain ⟨dx, kvs, h1, h2, h3, h4, h5, h6⟩ := h
 exact ⟨dx, kvs, s _ _ h1, s _ _ h2, s _ _ h3, h4, h5.same s, h6⟩
def Fr3 (p d1 d2 : Addr) (H H' : Hp) : Prop := ∀ b o, H b = some o → b ≠ p → b ≠ d1 → b ≠ d2 → H' b = some o
section
variable {P : Program} {w : World} {K : W.Frag} {mg : Str → Option Value} {base : Heap} {a : Ad}
local macro_rules | `(tactic| walk_at "rd") => `(tactic| first
 | with_reducible first | refine ZEO (by assumption) (‹Txt _ _ _›).ZE (‹Txt _ _ _›).ZU ZHb ?_ | refine ZEO (by assumption) (‹Txt _ _ _›).ZE (‹Txt _ _ _›).ZN ZGk ?_ | refine ZEO (by assumption) (‹Txt _ _ _›).ZE (‹Txt _ _ _›).ZM ZJy ?_)
def Tm (t : Int) : Prop := -1099511627776 ≤ t ∧ t < 1099511627776
def ZRZ : Sp := fun vs H Q _ => ∃ t : Int, vs = [.int t] ∧ Tm t ∧ Q .non H
theorem ZLg : ZDs ["t"] ["t"] (ZDl ZHI) := ZD8
theorem ZId (T : Txt K mg a) : ZDw P w K mg base CX0 3 a.YM a.YN ["t"] ZRZ := by
 refine T.YJ.ok ZLg (by walk_at "l") (fun cdv A outer s H vs Q E hr h => ?_)
 ·obtain ⟨t, rfl, ht, q⟩ := h
  unfold Tm at ht
  refine ⟨_, QB.h (ZDm (ZEi (QW.pt (ZKK (ZH0 (ZHy (qcS (ZHM T) hr T.Yd T.Z3.kp T.Ym (ZDh (qv 0) ZDi)))) (ZIj (ZD3 (ZGG) (qv 0) (ZJE (v := .int 1099511627776) rfl T.Ye ⟨_, rfl⟩) (ZEB _))))) (ZDm ZIB) ZEZ)), ?_⟩
  walk_at "s"
  walk_at "w"
  refine ⟨t, rfl, .inl ⟨⟨by omega, by omega⟩, ?_⟩⟩
  walk_at "w"
  refine ZE0 ?_
  walk_at "w"
  rw [ZGv]
  refine ZEP (fun h => ?_) (fun h => ?_)
  ·exfalso
   omega
  ·walk_at "w"
   exact q
def ZTj (C : Addr) : Sp := fun vs H Q _ => ∃ (p d1 d2 dx : Addr) (n t : Int) (v : V) (o : Option (PL)) (sm : PL) (kvs : List (List Key × V)) (c : Nat), vs = [.ref p, .int t, v] ∧ H p = some (.ins C dx (tfl n d1 d2)) ∧ H d1 = some (.dK (ZES sm)) ∧ H d2 = some (.dT kvs) ∧ (sm.map (·.1)).Nodup ∧
 ZEv H kvs sm (fun l s => s ≠ t / 2 ^ l) ∧ kvs.length ≤ 41 * c ∧ c ≤ 1000 ∧ ZEH H v o ∧ Is4 (inS sm 0 t) o ∧ ∀ H', ZEM C H' p n d1 d2 sm (c + 1) → Kp d2 H H' → Q .non H'
theorem ZFX : ZDs ["self", "t", "four", "s", "level", "halves"] ["self", "t", "four"] (ZDl ZHJ) := ZD8
theorem ZIe (T : Txt K mg a) : ZDw P w K mg base CX0 3 a.YQ a.YR ["self", "t", "four"] (ZTj a.ZB) := by
 refine T.ZBb.ok ZFX (by walk_at "l") (fun cdv A outer s H vs Q E hr h => ?_)
 ·obtain ⟨p, d1, d2, dx, n, t, v, o, sm, kvs, c, rfl, hp, h1, h2, hnd, hkf, hlen, hc, hv, ho, k⟩ := h
  have hu := ZGI hr
  have np2 : p ≠ d2 := fun z => by subst z; rw [hp] at h2; cases h2
  have n12 : d1 ≠ d2 := fun z => by subst z; rw [h1] at h2; cases h2
  refine ⟨_, QB.h (ZDj (ZGC hu (qv 2) (ZEG K rfl (qv 0)) (ZEA (ZDh ZDk (ZDh (qv 1) ZDi)))) (ZDj (qsS (i := 3) ZFX.nd (qv 1)) (ZDm (ZE9 PassesOwn.never rfl (ZFi rfl T.ZV (ZDh (ZJE (v := .int 40) rfl T.ZBr ⟨_, rfl⟩) ZDi)) (qgN (i := 4) ZFX.nd) (ZDj (qsS (i := 3) ZFX.nd (ZDr ZFf (qv 3) ZDk)) (ZDj (qsS (i := 5) ZFX.nd (ZEA (ZDh (ZIJ hu (ZEG K rfl (qv 0)) (ZEA (ZDh (qv 4) (ZDh (ZDr ZEE ZDk (qv 3)) ZDi)))) (ZDh (ZIJ hu (ZEG K rfl (qv 0)) (ZEA (ZDh (qv 4) (ZDh (ZDr ZEN (ZDr ZEE ZDk (qv 3)) ZDk) ZDi)))) ZDi)))) (ZDm (ZGC hu (qcS (ZI3 T) hr T.ZAL T.Y0.kp T.ZAP (ZDh (ZD2 (ZD5 K rfl) (qv 5) ZDk) (ZDh (ZD2 (ZD5 K rfl) (qv 5) ZDk) ZDi))) (ZEG K rfl (qv 0)) (ZEA (ZDh (ZDr ZEN (qv 4) ZDk) (ZDh (qv 3) ZDi))))))))))), ?_⟩
  walk_at "s"
  walk_at "w"
  refine ZDx (by show 2 ≤ sizeLine; decide) fun b3 H3 n3 f3 S3 => ?_
  walk_at "w"
  refine ZHG (k := kOf 0 t) (S3 _ _ h2) f3 (Nat.lt_of_le_of_lt (show kvs.length ≤ 41000 by omega) (by decide)) fun H4 f4 K4 => ?_
  have K04 : Kp d2 H H4 := (Kp.same S3).trans K4
  have nt : ∀ (l : List (List Key × V)) (xs : List V), HO.dT l ≠ .tup xs := fun l xs z => by cases z
  have e0 : t / 2 ^ 0 = t := by simp
  have hk4 : ZEv H4 (ZEx kvs (kOf 0 t) v) sm (fun l s => s ≠ t / 2 ^ l ∨ l ≤ 0) := by
   have h := ((hkf.same S3).put (i := 0) (t := t) (hv.same S3) (by rw [e0]; exact ho)).kpX K4 (S3 _ _ h2) (nt _)
   rw [e0] at h
   refine h.mono fun l s hl g => ?_
   rcases g with g | g
   ·exact .inl g
   ·have : l = 0 := by omega
    subst this
    by_cases e : s = t / 2 ^ 0
    ·exact .inr ⟨rfl, e⟩
    ·exact .inl e
  have hl4 : (ZEx kvs (kOf 0 t) v).length ≤ 41 * c + 1 := Nat.le_trans (ZFZ _ _ _) (by omega)
  walk_at "w"
  refine ZHB (by decide) (by decide) (ZHw (fun i σ H' => (∃ v4 v5, σ = [some (.ref p), some (.int t), some v, some (.int (t / 2 ^ i)), v4, v5]) ∧ Kp d2 H H' ∧ ∃ kvs', H' d2 = some (.dT kvs') ∧ ZEv H' kvs' sm (fun l s => s ≠ t / 2 ^ l ∨ l ≤ i) ∧ kvs'.length ≤ 41 * c + 1 + i) ?_ ?_ ?_)
  ·exact ⟨⟨none, none, by rw [e0]; rfl⟩, K04, _, f4, hk4, hl4⟩
  ·rintro i σ H5 hi ⟨⟨v4, v5, rfl⟩, K5, kv5, f5, hk5, hl5⟩
   have hi40 : i < 40 := hi
   have hp5 := K5 _ _ hp np2
   have ez : (0 + (i : Int)) = (i : Int) := by omega
   rw [ez]
   walk_at "w"
   generalize hs : t / 2 ^ i / 2 = s
   have hs1 : t / 2 ^ (i + 1) = s := by rw [ZMb, hs]
   refine ZIp f5 ?_
   walk_at "w"
   refine ZDx (by show 2 ≤ sizeLine; decide) fun b6 H6 n6 f6 S6 => ?_
   refine ZJm (k := kOf i (2 * s)) (S6 _ _ f5) f6 ?_
   have hp6 := S6 _ _ hp5
   have f56 := S6 _ _ f5
   walk_at "w"
   refine ZIp f56 ?_
   walk_at "w"
   refine ZDx (by show 2 ≤ sizeLine; decide) fun b7 H7 n7 f7 S7 => ?_
   refine ZJm (k := kOf i (2 * s + 1)) (S7 _ _ f56) f7 ?_
   have S57 := S6.trans S7
   walk_at "w"
   refine ZDx (by show 2 ≤ sizeLine; decide) fun b8 H8 n8 f8 S8 => ?_
   have S58 := S57.trans S8
   have hk8 := hk5.same S58
   obtain ⟨oa, ha1, ha2⟩ := hk8 i (2 * s) (by omega) (.inr (Nat.le_refl _))
   obtain ⟨ob, hb1, hb2⟩ := hk8 i (2 * s + 1) (by omega) (.inr (Nat.le_refl _))
   walk_at "w"
   refine ⟨_, _, oa, ob, _, _, rfl, ha1, ha2, hb1, hb2, ZVM (by omega), fun v9 o9 H9 h9 g9 S9 => ?_⟩
   have g9 : Is4 (inS sm (i + 1) s) o9 := g9.congr fun q => ZRM
   have S59 := S58.trans S9
   have hp9 := S59 _ _ hp5
   walk_at "w"
   refine ZDx (by show 2 ≤ sizeLine; decide) fun b10 H10 n10 f10 S10 => ?_
   have S510 := S59.trans S10
   have f510 := S510 _ _ f5
   refine ZHG (k := kOf (i + 1) s) f510 ?_ (Nat.lt_of_le_of_lt (show kv5.length ≤ 42000 by omega) (by decide)) fun H11 f11 K11 => ?_
   ·rw [f10]
    show some (HO.tup [V.int ((i : Int) + 1), V.int s]) = some (HO.tup [V.int ((i + 1 : Nat) : Int), V.int s])
    rw [show ((i + 1 : Nat) : Int) = (i : Int) + 1 by omega]
   walk_at "w"
   refine ⟨⟨some (.int i), some (.ref b8), by rw [hs1]; rfl⟩, (K5.then S510).trans K11, _, f11, ?_, Nat.le_trans (ZFZ _ _ _) (by omega)⟩
   have h := ((hk5.same S510).put (i := i + 1) (t := t) (h9.same S10) (by rw [hs1]; exact g9)).kpX K11 f510 (nt _)
   rw [hs1] at h
   refine h.mono fun l s' hl g => ?_
   rcases g with g | g
   ·exact .inl (.inl g)
   ·by_cases e : l = i + 1
    ·by_cases e2 : s' = t / 2 ^ l
     ·exact .inr ⟨e, e2⟩
     ·exact .inl (.inl e2)
    ·exact .inl (.inr (by omega))
  ·rintro σ H5 ⟨⟨v4, v5, rfl⟩, K5, kv5, f5, hk5, hl5⟩
   walk_at "w"
   refine k H5 ⟨dx, kv5, K5 _ _ hp np2, K5 _ _ h1 n12, f5, hnd, hk5.mono fun l s hl _ => .inr hl, ?_⟩ K5
   have : kv5.length ≤ 41 * c + 1 + 40 := hl5
   omega
def ZVR (C : Addr) : Sp := fun vs H Q _ => ∃ (p d1 d2 : Addr) (n t h : Int) (sm : PL) (c : Nat), vs = [.ref p, .int t, .int h] ∧ ZEM C H p n d1 d2 sm c ∧ Tm t ∧ c ≤ 1000 ∧ sm.length ≤ 1000 ∧
 ∀ H', ZEM C H' p n d1 d2 (ZEn sm t h) (c + 1) → Fr3 p d1 d2 H H' → Q .non H'
theorem ZNE : ZDs ["self", "t", "h"] ["self", "t", "h"] (ZDl ZIQ) := ZD8
theorem ZJU (T : Txt K mg a) : ZDw P w K mg base CX0 4 a.JA a.Y4 ["self", "t", "h"] (ZVR a.ZB) := by
 refine T.ZCL.ok ZNE (by walk_at "l") (fun cdv A outer s H vs Q E hr h => ?_)
 ·obtain ⟨p, d1, d2, n, t, x, sm, c, rfl, ⟨dx, kvs, hp, h1, h2, hnd, hkf, hlen⟩, ht, hc, hsl, k⟩ := h
  have hu := ZGI hr
  have np1 : p ≠ d1 := fun z => by subst z; rw [hp] at h1; cases h1
  have n21 : d2 ≠ d1 := fun z => by subst z; rw [h1] at h2; cases h2
  refine ⟨_, QB.h (ZDj (ZDz (qcS (ZId T) hr T.Jj T.YJ.kp T.Jv (ZDh (qv 1) ZDi))) (ZDj (ZGC hu (qv 2) (ZEG K rfl (qv 0)) (qv 1)) (ZDm (ZDz (ZEm (qv 0) T.ZE T.Je (ZIe T) hr T.J5 .nil ZEa (ZDh (qv 1) (ZDh (qcS (ZOY T) hr T.ZCT T.ZA9.kp T.ZCV (ZDh (ZEA (ZDh (ZEA (ZDh (qv 1) (ZDh (qv 2) ZDi))) ZDi)) ZDi)) ZDi))))))), ?_⟩
  walk_at "s"
  walk_at "w"
  refine ⟨t, rfl, ht, ?_⟩
  walk_at "w"
  refine ZJg h1 (Nat.lt_of_le_of_lt hsl (by decide)) fun H3 f3 K3 => ?_
  have hp3 := K3 _ _ hp np1
  have h23 := K3 _ _ h2 n21
  have hk3 : ZEv H3 kvs (ZEn sm t x) (fun l s => s ≠ t / 2 ^ l) := (ZEv.other hkf fun q hq => by
   rw [ZHH hnd]
   constructor
   ·exact fun z => .inl ⟨hq, z⟩
   ·rintro (z | z)
    ·exact z.2
    ·exact absurd (by rw [z]) hq).kpX K3 h1 (fun xs z => by cases z)
  walk_at "w"
  refine ZEF hp3 ZHP ?_
  walk_at "w"
  refine ZDx (by show 2 ≤ sizeLine; decide) fun b4 H4 n4 f4 S4 => ?_
  walk_at "w"
  refine ZDx (by show 1 ≤ sizeLine; decide) fun b5 H5 n5 f5 S5 => ?_
  walk_at "w"
  refine ⟨b5, [(t, x)], rfl, ⟨_, f5, .cons ⟨b4, rfl, S5 _ _ f4⟩ .nil⟩, List.pairwise_singleton _ _, fun v6 o6 H6 h6 g6 S6 => ?_⟩
  have S36 := S4.trans (S5.trans S6)
  walk_at "w"
  refine ⟨p, d1, d2, dx, n, t, v6, o6, ZEn sm t x, kvs, c, rfl, S36 _ _ hp3, S36 _ _ f3, S36 _ _ h23, ZFU hnd, hk3.same S36, hlen, hc, h6, g6.congr fun q => ?_, fun H7 hT7 K7 => ?_⟩
  ·rw [List.mem_singleton, ZFt, ZHH hnd]
   simp only [Int.pow_zero, Int.ediv_one]
   constructor
   ·rintro rfl
    exact ⟨.inr rfl, rfl⟩
   ·rintro ⟨h1 | h1, h2⟩
    ·exact absurd h2 h1.1
    ·exact h1
  ·walk_at "w"
   exact k H7 hT7 fun b o e e1 e2 e3 => K7 _ _ (S36 _ _ (K3 _ _ e e2)) e3
def ZTk (C : Addr) : Sp := fun vs H Q _ => ∃ (p dx : Addr) (x : V) (cv : PL), vs = [.ref p, x] ∧ H p = some (.ins C dx []) ∧ ((x = .non ∧ cv = []) ∨ ∃ t, x = .ref t ∧ PrT H t cv) ∧ (cv.map (·.1)).Nodup ∧ (∀ q ∈ cv, Tm q.1) ∧ cv.length ≤ 100 ∧
 ∀ (d1 d2 : Addr) (sm : PL) (H' : Hp), H d1 = none → H d2 = none → ZEM C H' p 0 d1 d2 sm cv.length → (∀ q, q ∈ sm ↔ q ∈ cv) → sm.length ≤ cv.length → Kp p H H' → Q .non H'
theorem ZF9 : ZDs ["self", "curve", "t", "h"] ["self", "curve"] (ZDl ZEW) := ZD8
theorem ZJz (T : Txt K mg a) : ZDw P w K mg base CX0 5 a.Zk a.ZL ["self", "curve"] (ZTk a.ZB) := by
 refine T.ZAm.ok ZF9 (by walk_at "l") (fun cdv A outer s H vs Q E hr h => ?_)
 ·obtain ⟨p, dx, x, cv, rfl, hp, hx, hnd, htm, hlen, k⟩ := h
  refine ⟨_, QB.h (ZDj (ZE3 K rfl (qv 0) ZDk) (ZDj (ZE3 K rfl (qv 0) ZJf) (ZDj (ZE3 K rfl (qv 0) ZJn) (ZDm (ZEi (ZD3 (ZKj) (qv 1) ZE8 (ZEB _)) (ZDm (ZE9 PassesOwn.never rfl (ZHE K rfl (qv 1)) (ZEb (n := 2) K rfl rfl (ZDq (qgN (i := 2) ZF9.nd) (ZDq (qgN (i := 3) ZF9.nd) ZEQ))) (ZDm (ZDz (ZEm (qv 0) T.ZE T.ZAr (ZJU T) hr T.ZAn .nil ZEa (ZDh (qv 2) (ZDh (qv 3) ZDi))))))) ZEZ))))), ?_⟩
  walk_at "s"
  walk_at "w"
  refine ZEs hp T.ZE T.ZU (by show 0 < 1000; decide) fun H1 f1 K1 => ?_
  walk_at "w"
  refine ZJh fun d1 H2 n2 f2 S2 => ?_
  have hp2 := S2 _ _ f1
  have nd1 : d1 ≠ p := fun z => by rw [z, f1] at n2; cases n2
  walk_at "w"
  refine ZEs hp2 T.ZE T.ZN (by show 1 < 1000; decide) fun H3 f3 K3 => ?_
  have f23 := K3 _ _ f2 nd1
  walk_at "w"
  refine ZJo fun d2 H4 n4 f4 S4 => ?_
  have hp4 := S4 _ _ f3
  have nd2 : d2 ≠ p := fun z => by rw [z, f3] at n4; cases n4
  walk_at "w"
  refine ZEs hp4 T.ZE T.ZM (by show 2 < 1000; decide) fun H5 f5 K5 => ?_
  have f5 : H5 p = some (.ins a.ZB dx (tfl 0 d1 d2)) := by rw [f5, ZTi]
  have K05 : Kp p H H5 := (((K1.then S2).trans K3).then S4).trans K5
  have f25 := K5 _ _ (S4 _ _ f23) nd1
  have f45 := K5 _ _ f4 nd2
  have hn1 : H d1 = none := by
   cases e : H d1 with
   | none => rfl
   | some o =>
    have := K1 _ _ e nd1
    rw [n2] at this
    cases this
  have hn2 : H d2 = none := by
   cases e : H d2 with
   | none => rfl
   | some o =>
    have := ((K1.then S2).trans K3) _ _ e nd2
    rw [n4] at this
    cases this
  have hT5 : ZEM a.ZB H5 p 0 d1 d2 [] 0 := ⟨dx, [], f5, f25, f45, List.nodup_nil, fun l s hl _ => ⟨none, .non, .inl ⟨rfl, rfl⟩⟩, Nat.le_refl _⟩
  walk_at "w"
  rcases hx with ⟨rfl, rfl⟩ | ⟨t, rfl, hT⟩
  ·refine ZIA (fun h => absurd rfl h) (fun _ => ?_)
   walk_at "w"
   exact k d1 d2 [] H5 hn1 hn2 hT5 (fun q => Iff.rfl) (Nat.le_refl _) K05
  ·refine ZIA (fun _ => ?_) (fun h => by cases h)
   obtain ⟨us, g, hP⟩ := hT
   have ntp : ∀ {b : Addr} {xs : List V}, H b = some (.tup xs) → b ≠ p := fun e z => by rw [z, hp] at e; cases e
   have g5 := K05 _ _ g (ntp g)
   walk_at "w"
   refine ZHx (xs := us) (fun i σ H' => (∃ v2 v3, σ = [some (.ref p), some (.ref t), v2, v3]) ∧ Kp p H H' ∧ ∃ sm, ZEM a.ZB H' p 0 d1 d2 sm i ∧ (∀ q, q ∈ sm ↔ q ∈ cv.take i) ∧ sm.length ≤ i) ?_ ?_ ?_ ?_
   ·exact ⟨⟨_, _, rfl⟩, K05, [], hT5, fun q => by rw [List.take_zero], Nat.le_refl _⟩
   ·rintro i σ H6 _ ⟨_, K6, _⟩
    exact SqT.of (K6 _ _ g (ntp g))
   ·rintro i x σ H6 hx ⟨⟨v2, v3, rfl⟩, K6, sm, hT6, hm6, hl6⟩
    obtain ⟨cc, q, rfl, hq, hc⟩ := hP.at hx
    have hc6 := K6 _ _ hc (ntp hc)
    obtain ⟨dx6, kv6, hp6, h16, h26, hnd6, hkf6, hlen6⟩ := id hT6
    have hi : i < cv.length := (List.getElem?_eq_some_iff.mp hq).1
    walk_at "w"
    refine ZEF hp6 ZHP ?_
    walk_at "w"
    refine ⟨p, d1, d2, 0, q.1, q.2, sm, i, rfl, hT6, htm q (List.mem_of_getElem? hq), by omega, by omega, fun H7 hT7 Fr7 => ?_⟩
    walk_at "w"
    refine ⟨⟨_, _, rfl⟩, fun b o e nb => Fr7 _ _ (K6 _ _ e nb) nb (fun z => by rw [z, hn1] at e; cases e) (fun z => by rw [z, hn2] at e; cases e), ZEn sm q.1 q.2, hT7, fun r => ?_, Nat.le_trans (ZJi _ _ _) (by omega)⟩
    rw [ZHH hnd6, List.take_succ, hq, List.mem_append, hm6]
    have hne : ∀ r ∈ cv.take i, r.1 ≠ q.1 := fun r hr e => by
     obtain ⟨j, hj, rfl⟩ := List.getElem_of_mem hr
     rw [List.length_take] at hj
     rw [List.getElem_take] at e
     obtain ⟨z2, y2⟩ := List.getElem?_eq_some_iff.mp hq
     have : (cv.map (·.1))[j]'(by rw [List.length_map]; omega) = (cv.map (·.1))[i]'(by rw [List.length_map]; omega) := by
      rw [List.getElem_map, List.getElem_map, y2]
      exact e
     have := (List.getElem_inj hnd).mp this
     omega
    constructor
    ·rintro (h | h)
     ·exact .inl h.2
     ·exact .inr (by rw [h]; exact List.mem_cons_self)
    ·rintro (h | h)
     ·exact .inl ⟨hne r h, h⟩
     ·exact .inr (by simpa using h)
   ·rintro σ H6 ⟨⟨v2, v3, rfl⟩, K6, sm, hT6, hm6, hl6⟩
    rw [hP.length] at hT6 hm6 hl6
    rw [List.take_length] at hm6
    walk_at "w"
    exact k d1 d2 sm H6 hn1 hn2 hT6 hm6 hl6 K6
end
theorem ZEM.kpX {C : Addr} {H H' : Hp} {p d1 d2 l : Addr} {n : Int} {sm : PL} {c : Nat} {xs : List V} (h : ZEM C H p n d1 d2 sm c) (k : Kp l H H') (hl : H l = some (.lst xs)) : ZEM C H' p n d1 d2 sm c := by
 obtain ⟨dx, kvs, h1, h2, h3, h4, h5, h6⟩ := h
 exact ⟨dx, kvs, k _ _ h1 (fun z => by rw [z, hl] at h1; cases h1), k _ _ h2 (fun z => by rw [z, hl] at h2; cases h2), k _ _ h3 (fun z => by rw [z, hl] at h3; cases h3), h4, h5.kpX k hl (fun _ z => by cases z), h6⟩
theorem ZVS {p d1 d2 : Addr} {H H' : Hp} (h : Kp p H H') : Fr3 p d1 d2 H H' := fun b o e e1 _ _ => h b o e e1
theorem ZEM.keepT {C : Addr} {H H' : Hp} {p d1 d2 : Addr} {n : Int} {sm : PL} {c : Nat} (g : ZEM C H p n d1 d2 sm c) (f : Fr3 p d1 d2 H H') {b : Addr} {xs : List V} (e : H b = some (.tup xs)) : H' b = some (.tup xs) := by
 obtain ⟨dy, kws, g1, g2, g3, _⟩ := g
 exact f _ _ e (fun z => by rw [z, g1] at e; cases e) (fun z => by rw [z, g2] at e; cases e) (fun z => by rw [z, g3] at e; cases e)
theorem ZEM.keepL {C : Addr} {H H' : Hp} {p d1 d2 : Addr} {n : Int} {sm : PL} {c : Nat} (g : ZEM C H p n d1 d2 sm c) (f : Fr3 p d1 d2 H H') {b : Addr} {xs : List V} (e : H b = some (.lst xs)) : H' b = some (.lst xs) := by
 obtain ⟨dy, kws, g1, g2, g3, _⟩ := g
 exact f _ _ e (fun z => by rw [z, g1] at e; cases e) (fun z => by rw [z, g2] at e; cases e) (fun z => by rw [z, g3] at e; cases e)
theorem ZEM.keepP {C : Addr} {H H' : Hp} {p d1 d2 : Addr} {n : Int} {sm : PL} {c : Nat} (g : ZEM C H p n d1 d2 sm c) (f : Fr3 p d1 d2 H H') {b : Addr} {cv : PL} (e : PrT H b cv) : PrT H' b cv := by
 obtain ⟨us, h1, h2⟩ := e
 exact ⟨us, g.keepT f h1, Paired.mapP h2 fun _ _ ⟨a, e, z⟩ => ⟨a, e, g.keepT f z⟩⟩
section
variable {P : Program} {w : World} {K : W.Frag} {mg : Str → Option Value} {base : Heap} {a : Ad}
local macro_rules | `(tactic| walk_at "rd") => `(tactic| first
 | with_reducible first | refine ZEO (by assumption) (‹Txt _ _ _›).ZE (‹Txt _ _ _›).ZU ZHb ?_ | refine ZEO (by assumption) (‹Txt _ _ _›).ZE (‹Txt _ _ _›).ZN ZGk ?_ | refine ZEO (by assumption) (‹Txt _ _ _›).ZE (‹Txt _ _ _›).ZM ZJy ?_)
def ZTl (C : Addr) : Sp := fun vs H Q _ => ∃ (p d1 d2 : Addr) (n b e : Int) (sm : PL) (c : Nat), vs = [.ref p, .int b, .int e] ∧ ZEM C H p n d1 d2 sm c ∧ InT b ∧ InT e ∧
 ∀ (v : V) (o : Option (PL)) (prs : PL) (H' : Hp), ZEH H' v o → Is4 (inCol sm b e) o → Ch e b prs (ZI4 b e) → ZEM C H' p (n + prs.length) d1 d2 sm c → Kp p H H' → Q v H'
theorem Ch.cut {e : Int} : ∀ {prs : PL} {x y : Int}, Ch e x prs y → ∀ {i : Nat} {q : Int × Int}, prs[i]? = some q → ∃ z, Ch e x (prs.take i) z ∧ (0 ≤ q.1 ∧ q.1 ≤ 40) ∧ q.2 * 2 ^ q.1.toNat = z ∧ Ch e x (prs.take (i + 1)) (z + 2 ^ q.1.toNat)
 | [], _, _, _, i, q, h => by simp at h
 | p :: r, x, y, hc, 0, q, h => by
  have : p = q := by simpa using h
  subst this
  obtain ⟨h1, h2, h3, h4, h5⟩ := hc
  exact ⟨x, rfl, h1, h2, h1, h2, h3, h4, rfl⟩
 | p :: r, x, y, hc, i + 1, q, h => by
  obtain ⟨h1, h2, h3, h4, h5⟩ := hc
  obtain ⟨z, g1, g2, g3, g4⟩ := Ch.cut h5 (i := i) (q := q) (by simpa using h)
  exact ⟨z, ⟨h1, h2, h3, h4, g1⟩, g2, g3, h1, h2, h3, h4, g4⟩
theorem Ch.fun {e : Int} : ∀ {prs : PL} {x y z : Int}, Ch e x prs y → Ch e x prs z → y = z
 | [], _, _, _, h, g => h.symm.trans g
 | p :: r, x, y, z, h, g => Ch.fun h.2.2.2.2 g.2.2.2.2
theorem ZFm : ZDs ["self", "begin", "end", "four", "parts", "stretch"] ["self", "begin", "end"] (ZDl ZHn) := ZD8
theorem ZI5 (T : Txt K mg a) : ZDw P w K mg base CX0 5 a.Yk a.Yt ["self", "begin", "end"] (ZTl a.ZB) := by
 refine T.ZBl.ok ZFm (by walk_at "l") (fun cdv A outer s H vs Q E hr h => ?_)
 ·obtain ⟨p, d1, d2, n, b, e, sm, c, rfl, hTr, hb, he, k⟩ := h
  have hu := ZGI hr
  obtain ⟨dx, kvs, hp, h1, h2, hnd, hkf, hlen⟩ := id hTr
  refine ⟨_, QB.h (ZDj (qsS (i := 3) ZFm.nd ZE8) (ZDj (qsS (i := 4) ZFm.nd (qcS (ZMk T) hr T.ZBy T.ZAD.kp T.ZBm (ZDh (qv 1) (ZDh (qv 2) ZDi)))) (ZDj (ZE9 PassesOwn.never rfl (ZHE K rfl (qv 4)) (qgN (i := 5) ZFm.nd) (ZDm (qsS (i := 3) ZFm.nd (qcS (ZI3 T) hr.m T.ZAL T.Y0.kp T.ZAP (ZDh (qv 3) (ZDh (ZIJ hu (ZEG K rfl (qv 0)) (qv 5)) ZDi)))))) (ZDj (ZLK K rfl (qv 0) (ZEJ (ZH1 K rfl) rfl T.YX ZHt (ZDh (qv 4) ZDi))) (ZDm (ZD1 (qv 3))))))), ?_⟩
  walk_at "s"
  walk_at "w"
  refine ⟨b, e, rfl, hb, he, fun t prs H1 hT1 hch hpl S1 => ?_⟩
  obtain ⟨us, g1, hP1⟩ := hT1
  have hp1 := S1 _ _ hp
  walk_at "w"
  refine ZHx (xs := us) (fun i σ H' => (∃ v v5, σ = [some (.ref p), some (.int b), some (.int e), some v, some (.ref t), v5] ∧ ∃ o z, ZEH H' v o ∧ Ch e b (prs.take i) z ∧ Is4 (inCol sm b z) o) ∧ ZDn H1 H') ?_ ?_ ?_ ?_
  ·refine ⟨⟨_, _, rfl, none, b, .non, rfl, .inl ⟨rfl, ?_⟩⟩, ZDn.refl _⟩
   cases e0 : inCol sm b b with
   | nil => rfl
   | cons q qs =>
    have := (ZDv.mp (show q ∈ inCol sm b b by rw [e0]; exact List.mem_cons_self)).2
    omega
  ·rintro i σ H' _ ⟨_, S'⟩
   exact SqT.of (S' _ _ g1)
  ·rintro i x σ H2 hx ⟨⟨v, v5, rfl, o, z, hv, hz, ho⟩, S2⟩
   obtain ⟨cc, q, rfl, hq, hc⟩ := (hP1.same S2).at hx
   obtain ⟨z', hz', hq1, hq2, hz2⟩ := Ch.cut hch hq
   obtain rfl := Ch.fun hz hz'
   have S02 := S1.trans S2
   obtain ⟨l, hl⟩ : ∃ l : Nat, q.1 = (l : Int) := ⟨q.1.toNat, by omega⟩
   have hln : q.1.toNat = l := by omega
   rw [hln] at hq2 hz2
   have hp2 := S02 _ _ hp
   have h22 := S02 _ _ h2
   obtain ⟨o2, hf2, hi2⟩ := (hkf.same S02) l q.2 (by omega) trivial
   have e4 : inS sm l q.2 = inCol sm z (z + 2 ^ l) := by unfold inS; rw [hq2]
   rw [e4] at hi2
   walk_at "w"
   refine ZIp h22 ?_
   walk_at "w"
   refine ZJm (k := kOf l q.2) h22 (by rw [hc, hl]; rfl) ?_
   refine ⟨v, _, o, o2, _, _, rfl, hv, ho, hf2, hi2, ZMc, fun v3 o3 H3 h3 g3 S3 => ?_⟩
   walk_at "w"
   refine ⟨⟨_, _, rfl, o3, z + 2 ^ l, h3, hz2, g3.congr fun r => ZKU hz.le (by have := ZFK l; omega) r⟩, S2.trans S3⟩
  ·rintro σ H2 ⟨⟨v, v5, rfl, o, z, hv, hz, ho⟩, S2⟩
   rw [hP1.length, List.take_length] at hz
   obtain rfl := Ch.fun hz hch
   have S02 := S1.trans S2
   have hp2 := S02 _ _ hp
   have g2 := S2 _ _ g1
   have hul : us.length = prs.length := hP1.length
   walk_at "w"
   refine ZKR hp2 T.ZE T.ZU ZHb ?_
   walk_at "w"
   refine ⟨n, _, rfl, rfl, dx, _, hp2, by show 3 < 1000; decide, ?_⟩
   rw [ZTh]
   have f3 : (upd H2 p (.ins a.ZB dx (tfl (n + (us.length : Int)) d1 d2))) p = some (.ins a.ZB dx (tfl (n + (us.length : Int)) d1 d2)) := ZDu
   have K3 : Kp p H2 (upd H2 p (.ins a.ZB dx (tfl (n + (us.length : Int)) d1 d2))) := Kp.upd
   generalize upd H2 p (.ins a.ZB dx (tfl (n + (us.length : Int)) d1 d2)) = H3 at f3 K3
   have ntp : ∀ (xs : List V), HO.ins a.ZB dx (tfl n d1 d2) ≠ .tup xs := fun xs z => by cases z
   walk_at "w"
   refine k v o prs H3 (hv.kpX K3 hp2 ntp) (ho.congr fun r => ?_) hch ⟨dx, kvs, by rw [← hul]; exact f3, K3 _ _ (S02 _ _ h1) (fun z => by rw [z, hp] at h1; cases h1), K3 _ _ (S02 _ _ h2) (fun z => by rw [z, hp] at h2; cases h2), hnd, (hkf.same S02).kpX K3 hp2 ntp, hlen⟩ ((Kp.same S02).trans K3)
   rw [ZDv, ZDv]
   unfold ZI4
   split
   ·exact Iff.rfl
   ·constructor
    ·rintro ⟨_, g1, g2⟩
     omega
    ·rintro ⟨_, g1, g2⟩
     omega
end
section
variable {P : Program} {w : World} {K : W.Frag} {mg : Str → Option Value} {base : Heap} {a : Ad}
local macro_rules | `(tactic| walk_at "rd") => `(tactic| first
 | with_reducible first | refine ZEO (by assumption) (‹Txt _ _ _›).ZE (‹Txt _ _ _›).ZU ZHb ?_ | refine ZEO (by assumption) (‹Txt _ _ _›).ZE (‹Txt _ _ _›).ZN ZGk ?_ | refine ZEO (by assumption) (‹Txt _ _ _›).ZE (‹Txt _ _ _›).ZM ZJy ?_)
def ZRa : Sp := fun vs H Q _ => ∃ (p : Addr) (b y m : Int), vs = [.ref p] ∧ H p = some (.tup [.int b, .int y, .int m]) ∧ 0 ≤ m ∧ m ≤ 1000 ∧ InT b ∧ InT (b + m * y) ∧ Q .non H
theorem ZFd : ZDs ["window", "begin", "wide", "many"] ["window"] (ZDl ZGd) := ZD8
theorem ZGS (T : Txt K mg a) : ZDw P w K mg base CX0 4 a.Zx a.Zv ["window"] ZRa := by
 refine T.ZW.ok ZFd (by walk_at "l") (fun cdv A outer s H vs Q E hr h => ?_)
 ·obtain ⟨p, b, y, m, rfl, hp, h0, h1, hb, he, q⟩ := h
  refine ⟨_, QB.h (ZDj (ZEy (qv 0) (ZEb (n := 3) K rfl rfl (ZDq (qgN (i := 1) ZFd.nd) (ZDq (qgN (i := 2) ZFd.nd) (ZDq (qgN (i := 3) ZFd.nd) ZEQ))))) (ZDm (ZDz (qcS (ZHN T) hr T.YY T.Zi.kp T.YU (ZDh (qv 1) (ZDh (ZDr ZEN (qv 1) (ZDr ZEE (qv 3) (qv 2))) ZDi)))))), ?_⟩
  walk_at "s"
  walk_at "w"
  refine ⟨b, b + m * y, rfl, hb, he, ?_⟩
  walk_at "w"
  exact q
def ZHr (H : Hp) (q : Addr) (b y m : Int) : Prop := H q = some (.tup [.int b, .int y, .int m]) ∧ 0 < y ∧ 1 ≤ m ∧ m ≤ 100 ∧ InT b ∧ InT (b + m * y)
theorem ZHr.col {H : Hp} {q : Addr} {b y m : Int} (h : ZHr H q b y m) {k : Int} (h0 : 0 ≤ k) (h1 : k < m) : InT (b + k * y) ∧ InT (b + k * y + y) := by
 obtain ⟨_, hy, _, _, hb, he⟩ := h
 have g1 : 0 ≤ k * y := Int.mul_nonneg h0 (by omega)
 have g2 : (k + 1) * y ≤ m * y := Int.mul_le_mul_of_nonneg_right (by omega) (by omega)
 rw [Int.add_mul, Int.one_mul] at g2
 unfold InT at *
 constructor <;> constructor <;> omega
def ZRb (C : Addr) : Sp := fun vs H Q _ => ∃ (p q d1 d2 : Addr) (n b y m : Int) (sm : PL) (c : Nat), vs = [.ref p, .ref q] ∧ ZEM C H p n d1 d2 sm c ∧ ZHr H q b y m ∧
 ∀ (u : Addr) (us : List V) (fs : List (Option (PL))) (n' : Int) (H' : Hp), H' u = some (.tup us) → ZEd H' us fs → ZPZ sm b y m.toNat fs → ZEM C H' p n' d1 d2 sm c → Kp p H H' → Q (.ref u) H'
theorem ZLh : ZDs ["self", "window"] ["self", "window"] (ZDl ZGN) := ZD8
theorem ZT5 (T : Txt K mg a) : ZDw P w K mg base CX0 6 a.YI a.YL ["self", "window"] (ZRb a.ZB) := by
 refine T.ZBV.ok ZLh (by walk_at "l") (fun cdv A outer s H vs Q E hr h => ?_)
 ·obtain ⟨p, q, d1, d2, n, b, y, m, sm, c, rfl, hTr, hW, k⟩ := h
  obtain ⟨hq, hy, hm1, hm2, hb, he⟩ := id hW
  refine ⟨_, QB.h (ZDj (ZDz (qcS (ZGS T) hr.m T.Zz T.ZW.kp T.Z2 (ZDh (qv 1) ZDi))) (ZDm (ZD1 (ZE1 (ZFT K rfl) rfl T.ZO ZFR (ZDh (ZFs (N := ["self", "window"]) (sc := ZDl ZGN) (own := ["first", "behind"]) (caps := ["self"]) (ks := [0]) rfl rfl rfl ⟨rfl, by decide +kernel, by decide +kernel, by decide +kernel, by decide +kernel, rfl, by decide +kernel⟩ (ZFH K rfl (qcS (ZF4 T) hr.m T.Zs T.ZT.kp T.Zj (ZDh (qv 1) ZDi))) (fun _ _ _ _ _ => ZEb (n := 2) K rfl rfl (ZDq (ZEc (i := 0) (show List.Nodup (α := Str) ["first", "behind", "self"] from by decide +kernel) rfl (by walk_at "o") (.inr rfl)) (ZDq (ZEc (i := 1) (show List.Nodup (α := Str) ["first", "behind", "self"] from by decide +kernel) rfl (by walk_at "o") (.inr rfl)) ZEQ))) (fun _ _ _ _ _ => ZFS) (fun _ _ _ _ _ => ZEm (qv 2) T.ZE T.ZAF (ZI5 T) hr T.ZAE .nil ZEa (ZDh (qv 0) (ZDh (qv 1) ZDi)))) ZDi))))), ?_⟩
  walk_at "s"
  walk_at "w"
  refine ⟨q, b, y, m, rfl, hq, by omega, by omega, hb, he, ?_⟩
  walk_at "w"
  refine ⟨q, b, y, m, rfl, hq, hm1, by omega, fun l0 us0 H1 n1 f1 hP1 S1 => ?_⟩
  have hT1 := hTr.same S1
  have np1 : ∀ {b : Addr} {xs : List V}, H1 b = some (.tup xs) → b ≠ p := fun e z => by
   obtain ⟨dy, kws, g1, _⟩ := hT1
   rw [z, g1] at e; cases e
  have nl1 : l0 ≠ p := fun z => by
   obtain ⟨dy, kws, g1, _⟩ := hT1
   rw [z, g1] at f1; cases f1
  walk_at "w"
  intro l n2
  have nlp : l ≠ p := fun z => by
   obtain ⟨dy, kws, g1, _⟩ := hT1
   rw [z, g1] at n2; cases n2
  refine ZEw m.toNat (fun i σ' H' => (∃ o1 o2, σ' = [o1, o2, some (.ref p)]) ∧ Kp p H1 H' ∧ (∃ n', ZEM a.ZB H' p n' d1 d2 sm c) ∧ ∃ vs fs, H' l = some (.lst vs) ∧ ZEd H' vs fs ∧ fs.length = i ∧ ∀ (k : Nat) o, fs[k]? = some o → Is4 (inCol sm (b + (k : Int) * y) (b + (k : Int) * y + y)) o) ?_ ?_ ?_
  ·exact ⟨⟨none, none, rfl⟩, Kp.same (ZDn.new n2), ⟨n, hT1.same (ZDn.new n2)⟩, [], [], ZDu, .nil, rfl, fun k o h => by simp at h⟩
  ·rintro σ' H2 ⟨_, K2, ⟨n', hT2⟩, vs, fs, f2, hF2, hfl, hO2⟩
   refine ⟨⟨_, SqL.of (K2 _ _ f1 nl1), by rw [hP1.length, ZFl]; exact Nat.le_refl _⟩, ?_⟩
   walk_at "w"
   refine ZFr (SqL.of f2) fun u H3 n3 f3 S3 => ?_
   exact k u vs fs n' H3 f3 (hF2.same S3) ⟨hfl, hO2⟩ (hT2.same S3) (((Kp.same S1).trans K2).then S3)
  ·rintro i σ' H2 hi ⟨⟨o1, o2, rfl⟩, K2, ⟨n', hT2⟩, vs, fs, f2, hF2, hfl, hO2⟩
   have hi2 : i < us0.length := by rw [hP1.length, ZFl]; exact hi
   have f12 := K2 _ _ f1 nl1
   refine ⟨⟨_, _, SqL.of f12, List.getElem?_eq_getElem hi2⟩, ?_⟩
   rintro x H'' ⟨rfl, hx⟩
   have hx := hx _ (SqL.of f12)
   obtain ⟨u, pr, rfl, hpr, f3⟩ := hP1.at hx
   have hpr := ZHO hpr
   subst hpr
   have f32 := K2 _ _ f3 (np1 f3)
   obtain ⟨w1, w2⟩ := hW.col (k := (i : Int)) (by omega) (by omega)
   obtain ⟨dx, kvs, hp2, _⟩ := id hT2
   walk_at "w"
   refine ZFF ?_
   walk_at "w"
   refine ZEF hp2 ZHP ?_
   walk_at "w"
   refine ⟨p, d1, d2, n', _, _, sm, c, rfl, hT2, w1, w2, fun v o3 prs H3 h3 g3 _ hT3 K3 => ?_⟩
   have fl3 := K3 _ _ f2 nlp
   have hF3 : ZEd H3 vs fs := hF2.mapP fun _ _ d => d.kpX K3 hp2 (fun _ z => by cases z)
   refine ⟨vs, fl3, ?_, ⟨_, _, rfl⟩, ?_, ⟨_, hT3.kpX Kp.upd fl3⟩, vs ++ [v], fs ++ [o3], ZDu, (hF3.snoc h3).mapP fun _ _ d => d.kpL Kp.upd fl3, by simp [hfl], ?_⟩
   ·rw [hF2.len, hfl]
    exact Nat.lt_of_lt_of_le (show i < 100 by omega) (by decide)
   ·intro b' o' e nb
    rw [ZD6 (fun z => by rw [z, n2] at e; cases e)]
    exact (K2.trans K3) b' o' e nb
   ·intro k' o' h'
    rw [List.getElem?_append] at h'
    split at h'
    ·exact hO2 k' o' h'
    ·have : k' = i := by
      have := (List.getElem?_eq_some_iff.mp h').1
      simp at this
      omega
     subst this
     rw [hfl, Nat.sub_self] at h'
     have : o3 = o' := by simpa using h'
     subst this
     exact g3
end
def sfl (tr dd dn wt : Addr) : List (Str × V) := [("tree", V.ref tr), ("deeds", V.ref dd), ("done", V.ref dn), ("watches", V.ref wt)]
section
variable {tr dd dn wt : Addr}
theorem sg1 : (("deeds" : Str) == "tree") = false := by decide +kernel
theorem sg2 : (("done" : Str) == "tree") = false := by decide +kernel
theorem sg3 : (("done" : Str) == "deeds") = false := by decide +kernel
theorem sg4 : (("watches" : Str) == "tree") = false := by decide +kernel
theorem sg5 : (("watches" : Str) == "deeds") = false := by decide +kernel
theorem sg6 : (("watches" : Str) == "done") = false := by decide +kernel
theorem ZRc : (sfl tr dd dn wt).lookup ("tree" : Str) = some (.ref tr) := by
 unfold sfl
 rw [List.lookup_cons, beq_self_eq_true]
theorem ZPn : (sfl tr dd dn wt).lookup ("deeds" : Str) = some (.ref dd) := by
 unfold sfl
 rw [List.lookup_cons, sg1, List.lookup_cons, beq_self_eq_true]
theorem ZRd : (sfl tr dd dn wt).lookup ("done" : Str) = some (.ref dn) := by
 unfold sfl
 rw [List.lookup_cons, sg2, List.lookup_cons, sg3, List.lookup_cons, beq_self_eq_true]
theorem ZNF : (sfl tr dd dn wt).lookup ("watches" : Str) = some (.ref wt) := by
 unfold sfl
 rw [List.lookup_cons, sg4, List.lookup_cons, sg5, List.lookup_cons, sg6, List.lookup_cons, beq_self_eq_true]
theorem ZI6 {m : Str} (h1 : (m == ("tree" : Str)) = false := by decide +kernel) (h2 : (m == ("deeds" : Str)) = false := by decide +kernel) (h3 : (m == ("done" : Str)) = false := by decide +kernel) (h4 : (m == ("watches" : Str)) = false := by decide +kernel) : (sfl tr dd dn wt).lookup m = none := by
 unfold sfl
 rw [List.lookup_cons, h1, List.lookup_cons, h2, List.lookup_cons, h3, List.lookup_cons, h4]
 rfl
theorem ZTm : ZD9 "watches" (.ref wt) (ZD9 "done" (.ref dn) (ZD9 "deeds" (.ref dd) (ZD9 "tree" (.ref tr) []))) = sfl tr dd dn wt := by
 have e1 : ¬ ("tree" : Str) = "deeds" := by decide +kernel
 have e2 : ¬ ("tree" : Str) = "done" := by decide +kernel
 have e3 : ¬ ("deeds" : Str) = "done" := by decide +kernel
 have e4 : ¬ ("tree" : Str) = "watches" := by decide +kernel
 have e5 : ¬ ("deeds" : Str) = "watches" := by decide +kernel
 have e6 : ¬ ("done" : Str) = "watches" := by decide +kernel
 show ZD9 "watches" (.ref wt) (ZD9 "done" (.ref dn) (ZD9 "deeds" (.ref dd) [(("tree" : Str), V.ref tr)])) = _
 rw [show ZD9 "deeds" (.ref dd) [(("tree" : Str), V.ref tr)] = (if ("tree" : Str) = "deeds" then _ else (("tree" : Str), V.ref tr) :: ZD9 "deeds" (.ref dd) []) from rfl, if_neg e1]
 rw [show ZD9 "done" (.ref dn) ((("tree" : Str), V.ref tr) :: ZD9 "deeds" (.ref dd) []) = (if ("tree" : Str) = "done" then _ else (("tree" : Str), V.ref tr) :: (if ("deeds" : Str) = "done" then _ else (("deeds" : Str), V.ref dd) :: ZD9 "done" (.ref dn) [])) from rfl, if_neg e2, if_neg e3]
 show (if ("tree" : Str) = "watches" then _ else (("tree" : Str), V.ref tr) :: (if ("deeds" : Str) = "watches" then _ else (("deeds" : Str), V.ref dd) :: (if ("done" : Str) = "watches" then _ else (("done" : Str), V.ref dn) :: ZD9 "watches" (.ref wt) []))) = _
 rw [if_neg e4, if_neg e5, if_neg e6]
 rfl
theorem ZVT {n : Int} {d1 d2 : Addr} : sfl tr dd dn wt ≠ tfl n d1 d2 := fun h => by
 have := congrArg List.length h
 simp [sfl, tfl] at this
end
structure SA where
 p : Addr
 tr : Addr
 d1 : Addr
 d2 : Addr
 dd : Addr
 dn : Addr
 wt : Addr
def SA.ls (S : SA) : List Addr := [S.dd, S.dn, S.wt]
def SA.own (S : SA) : List Addr := [S.tr, S.d1, S.d2, S.dd, S.dn, S.wt]
def ZI7 : Option Int → V
 | none => .non
 | some i => .int i
theorem ZRe (o : Option Int) : (o.map V.int).getD .non = ZI7 o := by cases o <;> rfl
def ZFN (H : Hp) (vs : List V) (ds : List (Int × Option Int)) : Prop := Paired (fun v (q : Int × Option Int) => ∃ b, v = .ref b ∧ H b = some (.tup [.int q.1, ZI7 q.2])) vs ds
theorem ZFN.tups {H H' : Hp} {vs : List V} {ds : List (Int × Option Int)} (h : ZFN H vs ds) (t : ∀ b xs, H b = some (.tup xs) → H' b = some (.tup xs)) : ZFN H' vs ds := Paired.mapP h fun _ _ ⟨b, e, z⟩ => ⟨b, e, t _ _ z⟩
theorem ZFN.snoc {H : Hp} : ∀ {vs : List V} {ds : List (Int × Option Int)}, ZFN H vs ds → ∀ {b : Addr} {q : Int × Option Int}, H b = some (.tup [.int q.1, ZI7 q.2]) → ZFN H (vs ++ [.ref b]) (ds ++ [q])
 | _, _, .nil, _, _, e => .cons ⟨_, rfl, e⟩ .nil
 | _, _, .cons h t, _, _, e => .cons h (ZFN.snoc t e)
theorem ZFN.len {H : Hp} {vs : List V} {ds : List (Int × Option Int)} (h : ZFN H vs ds) : vs.length = ds.length := Paired.length h
def ZDp (a : Ad) (H : Hp) (S : SA) (n : Int) (sm : PL) (c : Nat) (ds : List (Int × Option Int)) (ts : List Int) (ws : List V) : Prop :=
 ∃ dx vs, H S.p = some (.ins a.ZA dx (sfl S.tr S.dd S.dn S.wt)) ∧ ZEM a.ZB H S.tr n S.d1 S.d2 sm c ∧ H S.dd = some (.lst vs) ∧ ZFN H vs ds ∧ H S.dn = some (.lst (ts.map V.int)) ∧ H S.wt = some (.lst ws) ∧ S.dd ≠ S.dn ∧ S.dd ≠ S.wt ∧ S.dn ≠ S.wt
def FrS (S : SA) (H H' : Hp) : Prop := ∀ b o, H b = some o → b ∉ S.own → H' b = some o
theorem FrS.trans {S : SA} {H H1 H2 : Hp} (h : FrS S H H1) (g : FrS S H1 H2) : FrS S H H2 := fun b o e n => g b o (h b o e n) n
theorem FrS.same {S : SA} {H H' : Hp} (h : ZDn H H') : FrS S H H' := fun b o e _ => h b o e
theorem FrS.kp {S : SA} {H H' : Hp} {q : Addr} (h : Kp q H H') (m : q ∈ S.own) : FrS S H H' := fun b o e n => h b o e fun z => n (z ▸ m)
theorem FrS.fr3 {S : SA} {H H' : Hp} (h : Fr3 S.tr S.d1 S.d2 H H') : FrS S H H' := fun b o e n => h b o e (fun z => n (by simp [SA.own, z])) (fun z => n (by simp [SA.own, z])) (fun z => n (by simp [SA.own, z]))
section
variable {a : Ad} {H H' : Hp} {S : SA} {n : Int} {sm : PL} {c : Nat} {ds : List (Int × Option Int)} {ts : List Int} {ws : List V}
theorem ZDp.same (h : ZDp a H S n sm c ds ts ws) (s : ZDn H H') : ZDp a H' S n sm c ds ts ws := by
 obtain ⟨dx, vs, h1, h2, h3, h4, h5, h6, h7⟩ := h
 exact ⟨dx, vs, s _ _ h1, h2.same s, s _ _ h3, h4.tups fun b xs e => s _ _ e, s _ _ h5, s _ _ h6, h7⟩
theorem ZDp.nown (h : ZDp a H S n sm c ds ts ws) {b : Addr} {o : HO} (e : H b = some o) (h1 : ∀ C dx fs, o ≠ .ins C dx fs) (h2 : (∃ m, o = .dK m) → b ≠ S.d1) (h3 : ∀ m, o ≠ .dT m) (h4 : (∃ m, o = .lst m) → b ∉ S.ls) : b ∉ S.own := by
 obtain ⟨dx, vs, g1, ⟨dy, kvs, t1, t2, t3, _⟩, g3, g4, g5, g6, _⟩ := h
 intro z
 simp only [SA.own, List.mem_cons, List.not_mem_nil, or_false] at z
 rcases z with z | z | z | z | z | z
 ·rw [z, t1] at e; exact h1 _ _ _ (Option.some.inj e).symm
 ·exact h2 ⟨_, (by rw [z, t2] at e; exact (Option.some.inj e).symm)⟩ z
 ·rw [z, t3] at e; exact h3 _ (Option.some.inj e).symm
 ·exact h4 ⟨_, (by rw [z, g3] at e; exact (Option.some.inj e).symm)⟩ (by simp [SA.ls, z])
 ·exact h4 ⟨_, (by rw [z, g5] at e; exact (Option.some.inj e).symm)⟩ (by simp [SA.ls, z])
 ·exact h4 ⟨_, (by rw [z, g6] at e; exact (Option.some.inj e).symm)⟩ (by simp [SA.ls, z])
theorem ZDp.keepL (h : ZDp a H S n sm c ds ts ws) (f : FrS S H H') {b : Addr} {xs : List V} (e : H b = some (.lst xs)) (nb : b ∉ S.ls) : H' b = some (.lst xs) :=
 f _ _ e (h.nown e (fun _ _ _ z => by cases z) (fun ⟨_, z⟩ => by cases z) (fun _ z => by cases z) fun _ => nb)
theorem ZDp.keepD (h : ZDp a H S n sm c ds ts ws) (f : FrS S H H') {b : Addr} {m : List (Key × V)} (e : H b = some (.dK m)) (nb : b ≠ S.d1) : H' b = some (.dK m) :=
 f _ _ e (h.nown e (fun _ _ _ z => by cases z) (fun _ => nb) (fun _ z => by cases z) (fun ⟨_, z⟩ => by cases z))
theorem ZDp.kpL (h : ZDp a H S n sm c ds ts ws) {q : Addr} {xs : List V} (k : Kp q H H') (hq : H q = some (.lst xs)) (nq : q ∉ S.ls) : ZDp a H' S n sm c ds ts ws := by
 obtain ⟨dx, vs, h1, h2, h3, h4, h5, h6, h7⟩ := h
 simp only [SA.ls, List.mem_cons, List.not_mem_nil, or_false, not_or] at nq
 exact ⟨dx, vs, k _ _ h1 (fun z => by rw [z, hq] at h1; cases h1), h2.kpX k hq, k _ _ h3 (Ne.symm nq.1), h4.tups (fun b xs e => k _ _ e (fun z => by rw [z, hq] at e; cases e)), k _ _ h5 (Ne.symm nq.2.1), k _ _ h6 (Ne.symm nq.2.2), h7⟩
theorem ZDp.kpD (h : ZDp a H S n sm c ds ts ws) {q : Addr} {m : List (Key × V)} (k : Kp q H H') (hq : H q = some (.dK m)) (nq : q ≠ S.d1) : ZDp a H' S n sm c ds ts ws := by
 obtain ⟨dx, vs, h1, ⟨dy, kvs, t1, t2, t3, t4, t5, t6⟩, h3, h4, h5, h6, h7⟩ := h
 refine ⟨dx, vs, k _ _ h1 (fun z => by rw [z, hq] at h1; cases h1), ⟨dy, kvs, k _ _ t1 (fun z => by rw [z, hq] at t1; cases t1), k _ _ t2 (Ne.symm nq), k _ _ t3 (fun z => by rw [z, hq] at t3; cases t3), t4, t5.kpX k hq (fun _ z => by cases z), t6⟩, k _ _ h3 (fun z => by rw [z, hq] at h3; cases h3), h4.tups (fun b xs e => k _ _ e (fun z => by rw [z, hq] at e; cases e)), k _ _ h5 (fun z => by rw [z, hq] at h5; cases h5), k _ _ h6 (fun z => by rw [z, hq] at h6; cases h6), h7⟩
theorem ZDp.fresh (h : ZDp a H S n sm c ds ts ws) {q : Addr} (hq : H q = none) : q ∉ S.ls ∧ q ≠ S.d1 := by
 obtain ⟨dx, vs, h1, ⟨dy, kvs, t1, t2, t3, t4, t5, t6⟩, h3, h4, h5, h6, h7⟩ := h
 refine ⟨fun z => ?_, fun z => by rw [z, t2] at hq; cases hq⟩
 simp only [SA.ls, List.mem_cons, List.not_mem_nil, or_false] at z
 rcases z with z | z | z
 ·rw [z, h3] at hq; cases hq
 ·rw [z, h5] at hq; cases hq
 ·rw [z, h6] at hq; cases hq
theorem ZDp.fr3 (h : ZDp a H S n sm c ds ts ws) {n' : Int} {sm' : PL} {c' : Nat} (f : Fr3 S.tr S.d1 S.d2 H H') (t : ZEM a.ZB H' S.tr n' S.d1 S.d2 sm' c') : ZDp a H' S n' sm' c' ds ts ws := by
 obtain ⟨dx, vs, h1, h2, h3, h4, h5, h6, h7⟩ := h
 refine ⟨dx, vs, ?_, t, h2.keepL f h3, h4.tups (fun b xs e => h2.keepT f e), h2.keepL f h5, h2.keepL f h6, h7⟩
 obtain ⟨dy, kvs, t1, t2, t3, _⟩ := h2
 exact f _ _ h1 (fun z => by rw [z, t1] at h1; injection h1 with h1; injection h1 with _ _ h3; exact ZVT h3.symm) (fun z => by rw [z, t2] at h1; cases h1) (fun z => by rw [z, t3] at h1; cases h1)
theorem ZDp.kpDone (h : ZDp a H S n sm c ds ts ws) {ts' : List Int} (k : Kp S.dn H H') (f : H' S.dn = some (.lst (ts'.map V.int))) : ZDp a H' S n sm c ds ts' ws := by
 obtain ⟨dx, vs, h1, h2, h3, h4, h5, h6, h7, h8, h9⟩ := h
 exact ⟨dx, vs, k _ _ h1 (fun z => by rw [z, h5] at h1; cases h1), h2.kpX k h5, k _ _ h3 h7, h4.tups (fun b xs e => k _ _ e (fun z => by rw [z, h5] at e; cases e)), f, k _ _ h6 (Ne.symm h9), h7, h8, h9⟩
theorem ZDp.kpDeeds (h : ZDp a H S n sm c ds ts ws) {ds' : List (Int × Option Int)} {vs' : List V} (k : Kp S.dd H H') (f : H' S.dd = some (.lst vs')) (g : ZFN H' vs' ds') : ZDp a H' S n sm c ds' ts ws := by
 obtain ⟨dx, vs, h1, h2, h3, h4, h5, h6, h7, h8, h9⟩ := h
 exact ⟨dx, vs', k _ _ h1 (fun z => by rw [z, h3] at h1; cases h1), h2.kpX k h3, f, g, k _ _ h5 (Ne.symm h7), k _ _ h6 (Ne.symm h8), h7, h8, h9⟩
end
def ZKW (m : PL) (t : Int) : Option Int → PL
 | none => ZF2 m t
 | some h => ZEn m t h
section
variable {P : Program} {w : World} {K : W.Frag} {mg : Str → Option Value} {base : Heap} {a : Ad}
local macro_rules | `(tactic| walk_at "rd") => `(tactic| first
 | with_reducible first | refine ZEO (by assumption) (‹Txt _ _ _›).ZE (‹Txt _ _ _›).ZN ZGk ?_ | refine ZEO (by assumption) (‹Txt _ _ _›).ZI (‹Txt _ _ _›).J7 ZRc ?_ | refine ZEO (by assumption) (‹Txt _ _ _›).ZI (‹Txt _ _ _›).JR ZPn ?_ | refine ZEO (by assumption) (‹Txt _ _ _›).ZI (‹Txt _ _ _›).Ji ZRd ?_ | refine ZEO (by assumption) (‹Txt _ _ _›).ZI (‹Txt _ _ _›).YV ZNF ?_)
def ZTn (C : Addr) : Sp := fun vs H Q _ => ∃ (p d1 d2 : Addr) (n t v : Int) (sm : PL) (c : Nat), vs = [.ref p, .int t] ∧ ZEM C H p n d1 d2 sm c ∧ ZEV sm t = some v ∧ c ≤ 1000 ∧
 ∀ H', ZEM C H' p n d1 d2 (ZF2 sm t) (c + 1) → Fr3 p d1 d2 H H' → Q .non H'
theorem ZMl : ZDs ["self", "t"] ["self", "t"] (ZDl ZHm) := ZD8
theorem ZMm (T : Txt K mg a) : ZDw P w K mg base CX0 4 a.Yf a.Yj ["self", "t"] (ZTn a.ZB) := by
 refine T.ZBw.ok ZMl (by walk_at "l") (fun cdv A outer s H vs Q E hr h => ?_)
 ·obtain ⟨p, d1, d2, n, t, v, sm, c, rfl, ⟨dx, kvs, hp, h1, h2, hnd, hkf, hlen⟩, hg, hc, k⟩ := h
  have np1 : p ≠ d1 := fun z => by subst z; rw [hp] at h1; cases h1
  have n21 : d2 ≠ d1 := fun z => by subst z; rw [h1] at h2; cases h2
  refine ⟨_, QB.h (ZDj (ZDz (ZRN (ZEG K rfl (qv 0)) (qv 1))) (ZDm (ZDz (ZEm (qv 0) T.ZE T.Je (ZIe T) hr T.J5 .nil ZEa (ZDh (qv 1) (ZDh ZE8 ZDi)))))), ?_⟩
  walk_at "s"
  walk_at "w"
  refine ZRP h1 ?_
  walk_at "w"
  refine ZRQ h1 hg fun H3 f3 K3 => ?_
  have hp3 := K3 _ _ hp np1
  have h23 := K3 _ _ h2 n21
  have hk3 : ZEv H3 kvs (ZF2 sm t) (fun l s => s ≠ t / 2 ^ l) := (ZEv.other hkf fun q hq => by
   rw [ZLN]
   exact ⟨fun z => ⟨hq, z⟩, fun z => z.2⟩).kpX K3 h1 (fun xs z => by cases z)
  walk_at "w"
  refine ZEF hp3 ZHP ?_
  walk_at "w"
  refine ⟨p, d1, d2, dx, n, t, .non, none, ZF2 sm t, kvs, c, rfl, hp3, f3, h23, ZM9 hnd, hk3, hlen, hc, .non, .inl ⟨rfl, ?_⟩, fun H7 hT7 K7 => ?_⟩
  ·cases e : inS (ZF2 sm t) 0 t with
   | nil => rfl
   | cons q qs =>
    have hq : q ∈ inS (ZF2 sm t) 0 t := by rw [e]; exact List.mem_cons_self
    rw [ZFt, ZLN] at hq
    simp only [Int.pow_zero, Int.ediv_one] at hq
    exact absurd hq.2 hq.1.1
  ·walk_at "w"
   exact k H7 hT7 fun b o e e1 e2 e3 => K7 _ _ (K3 _ _ e e2) e3
def ZTo (a : Ad) : Sp := fun vs H Q _ => ∃ (p dx : Addr) (x : V) (cv : PL), vs = [.ref p, x] ∧ H p = some (.ins a.ZA dx []) ∧ ((x = .non ∧ cv = []) ∨ ∃ t, x = .ref t ∧ PrT H t cv) ∧ (cv.map (·.1)).Nodup ∧ (∀ q ∈ cv, Tm q.1) ∧ cv.length ≤ 100 ∧
 ∀ (S : SA) (sm : PL) (H' : Hp), S.p = p → (∀ b ∈ S.own, H b = none) → ZDp a H' S 0 sm cv.length [] [] [] → (∀ q, q ∈ sm ↔ q ∈ cv) → sm.length ≤ cv.length → Kp p H H' → Q .non H'
theorem ZJJ : ZDs ["self", "curve"] ["self", "curve"] (ZDl ZET) := ZD8
theorem ZJK (T : Txt K mg a) : ZDw P w K mg base CX0 7 a.Zd a.ZJ ["self", "curve"] (ZTo a) := by
 refine T.ZAU.ok ZJJ (by walk_at "l") (fun cdv A outer s H vs Q E hr h => ?_)
 ·obtain ⟨p, dx, x, cv, rfl, hp, hx, hnd, htm, hlen, k⟩ := h
  refine ⟨_, QB.h (ZDj (ZE3 K rfl (qv 0) (ZNZ T.ZCy (ZJz T) hr rfl T.ZC6 T.ZAf .nil ZEa (ZDh (qv 1) ZDi))) (ZDj (ZE3 K rfl (qv 0) (ZFh ZDi)) (ZDj (ZE3 K rfl (qv 0) (ZFh ZDi)) (ZDm (ZE3 K rfl (qv 0) (ZFh ZDi)))))), ?_⟩
  walk_at "s"
  walk_at "w"
  refine ZKp fun tr dt H1 n1 f1 S1 => ?_
  refine ⟨tr, dt, x, cv, rfl, f1, ?_, hnd, htm, hlen, fun d1 d2 sm H2 m1 m2 hT2 hm hl K2 => ⟨rfl, ?_⟩⟩
  ·rcases hx with h | ⟨t, h1, h2⟩
   ·exact .inl h
   ·exact .inr ⟨t, h1, h2.same S1⟩
  have S02 : ZDn H H2 := fun b o e => K2 _ _ (S1 _ _ e) (ZD4 e n1)
  have hp2 := S02 _ _ hp
  have nt : tr ≠ p := fun z => by rw [z, hp] at n1; cases n1
  have free : ∀ {b : Addr}, H1 b = none → H b = none := fun {b} e => by
   cases e2 : H b with
   | none => rfl
   | some o => rw [S1 _ _ e2] at e; cases e
  have free2 : ∀ {b : Addr}, H2 b = none → H b = none := fun {b} e => by
   cases e2 : H b with
   | none => rfl
   | some o => rw [S02 _ _ e2] at e; cases e
  walk_at "w"
  refine ZEs hp2 T.ZI T.J7 (by show 0 < 1000; decide) fun H3 f3 K3 => ?_
  walk_at "w"
  refine ZDx (by show 0 ≤ sizeLine; decide) fun dd H4 n4 f4 S4 => ?_
  have np4 : dd ≠ p := fun z => by rw [z, f3] at n4; cases n4
  walk_at "w"
  refine ZEs (S4 _ _ f3) T.ZI T.JR (by show 1 < 1000; decide) fun H5 f5 K5 => ?_
  walk_at "w"
  refine ZDx (by show 0 ≤ sizeLine; decide) fun dn H6 n6 f6 S6 => ?_
  have np6 : dn ≠ p := fun z => by rw [z, f5] at n6; cases n6
  walk_at "w"
  refine ZEs (S6 _ _ f5) T.ZI T.Ji (by show 2 < 1000; decide) fun H7 f7 K7 => ?_
  walk_at "w"
  refine ZDx (by show 0 ≤ sizeLine; decide) fun wt H8 n8 f8 S8 => ?_
  have np8 : wt ≠ p := fun z => by rw [z, f7] at n8; cases n8
  walk_at "w"
  refine ZEs (S8 _ _ f7) T.ZI T.YV (by show 3 < 1000; decide) fun H9 f9 K9 => ?_
  rw [ZTm] at f9
  have K29 : Kp p H2 H9 := (((((K3.then S4).trans K5).then S6).trans K7).then S8).trans K9
  have K24 : Kp p H2 H5 := (K3.then S4).trans K5
  have K26 : Kp p H2 H7 := (K24.then S6).trans K7
  have g4 : H9 dd = some (.lst []) := K9 _ _ (S8 _ _ (K7 _ _ (S6 _ _ (K5 _ _ f4 np4)) np4)) np4
  have g6 : H9 dn = some (.lst []) := K9 _ _ (S8 _ _ (K7 _ _ f6 np6)) np6
  have g8 : H9 wt = some (.lst []) := K9 _ _ f8 np8
  have e46 : dd ≠ dn := fun z => by rw [← z, K5 _ _ f4 np4] at n6; cases n6
  have e48 : dd ≠ wt := fun z => by rw [← z, K7 _ _ (S6 _ _ (K5 _ _ f4 np4)) np4] at n8; cases n8
  have e68 : dn ≠ wt := fun z => by rw [← z, K7 _ _ f6 np6] at n8; cases n8
  have hT9 : ZEM a.ZB H9 tr 0 d1 d2 sm cv.length := by
   obtain ⟨dy, kvs, t1, t2, t3, t4, t5, t6⟩ := hT2
   have nt2 : ∀ {b : Addr} {xs : List V}, H2 b = some (.tup xs) → H9 b = some (.tup xs) := fun e => K29 _ _ e (fun z => by rw [z, hp2] at e; cases e)
   exact ⟨dy, kvs, K29 _ _ t1 nt, K29 _ _ t2 (fun z => by rw [z, hp2] at t2; cases t2), K29 _ _ t3 (fun z => by rw [z, hp2] at t3; cases t3), t4, t5.tups (fun b xs e => nt2 e), t6⟩
  have fr4 : H dd = none := by
   cases e : H dd with
   | none => rfl
   | some o => rw [K3 _ _ (S02 _ _ e) np4] at n4; cases n4
  have fr6 : H dn = none := by
   cases e : H dn with
   | none => rfl
   | some o => rw [K24 _ _ (S02 _ _ e) np6] at n6; cases n6
  have fr8 : H wt = none := by
   cases e : H wt with
   | none => rfl
   | some o => rw [K26 _ _ (S02 _ _ e) np8] at n8; cases n8
  walk_at "w"
  refine k ⟨p, tr, d1, d2, dd, dn, wt⟩ sm H9 rfl (fun b hb => ?_) ⟨dx, [], f9, hT9, g4, .nil, g6, g8, e46, e48, e68⟩ hm hl ((Kp.same S02).trans K29)
  simp only [SA.own, List.mem_cons, List.not_mem_nil, or_false] at hb
  rcases hb with rfl | rfl | rfl | rfl | rfl | rfl
  ·exact n1
  ·exact free m1
  ·exact free m2
  ·exact fr4
  ·exact fr6
  ·exact fr8
def ZRf (a : Ad) : Sp := fun vs H Q _ => ∃ (S : SA) (n t : Int) (o : Option Int) (sm : PL) (c : Nat) (ds : List (Int × Option Int)) (ts : List Int) (ws : List V), vs = [.ref S.p, .int t, ZI7 o] ∧ ZDp a H S n sm c ds ts ws ∧
 Tm t ∧ (o = none → (ZEV sm t).isSome = true) ∧ c ≤ 900 ∧ sm.length ≤ 900 ∧ ts.length ≤ 900 ∧
 ∀ H', ZDp a H' S n (ZKW sm t o) (c + 1) ds (ts ++ [t]) ws → FrS S H H' → Q .non H'
theorem ZKw : ZDs ["self", "t", "h"] ["self", "t", "h"] (ZDl ZGs) := ZD8
theorem ZKx (T : Txt K mg a) : ZDw P w K mg base CX0 5 a.Z9 a.Z7 ["self", "t", "h"] (ZRf a) := by
 refine T.ZBP.ok ZKw (by walk_at "l") (fun cdv A outer s H vs Q E hr h => ?_)
 ·obtain ⟨S, n, t, o, sm, c, ds, ts, ws, rfl, hS, ht, ho, hc, hsl, htl, k⟩ := h
  refine ⟨_, QB.h (ZDj (ZEi (ZD3 (ZL4) (qv 2) ZE8 (ZEB _)) (ZDm (ZDz (ZEm (ZEG K rfl (qv 0)) T.ZE T.ZBo (ZMm T) hr T.ZBv .nil ZEa (ZDh (qv 1) ZDi)))) (ZDm (ZDz (ZEm (ZEG K rfl (qv 0)) T.ZE T.ZAr (ZJU T) hr T.ZAn .nil ZEa (ZDh (qv 1) (ZDh (qv 2) ZDi)))))) (ZDm (ZDz (ZGw PySem.F.plainAttrs_list PySem.F.slot_list_append PySem.F.type_list_append ZE2 (ZEG K rfl (qv 0)) (ZDh (qv 1) ZDi))))), ?_⟩
  walk_at "s"
  have fin : ∀ H1, ZEM a.ZB H1 S.tr n S.d1 S.d2 (ZKW sm t o) (c + 1) → Fr3 S.tr S.d1 S.d2 H H1 → ZDp a H1 S n (ZKW sm t o) (c + 1) ds ts ws := fun H1 hT F => hS.fr3 F hT
  obtain ⟨dx, vs, hp, hT, _⟩ := id hS
  obtain ⟨dy, kvs, hq, _⟩ := id hT
  walk_at "w"
  cases o with
  | none =>
   obtain ⟨v, hv⟩ := Option.isSome_iff_exists.mp (ho rfl)
   refine ZEP (fun _ => ?_) (fun h => absurd rfl h)
   walk_at "w"
   refine ZEF hq ZHP ?_
   walk_at "w"
   refine ⟨S.tr, S.d1, S.d2, n, t, v, sm, c, rfl, hT, hv, by omega, fun H1 hT1 F1 => ?_⟩
   have hS1 := fin H1 hT1 F1
   obtain ⟨dx1, vs1, hp1, hT1', hd1, hD1, hn1, hw1, hne⟩ := id hS1
   walk_at "w"
   refine ⟨tyL hn1, ?_⟩
   walk_at "w"
   refine ZFA hn1 (by rw [List.length_map]; exact Nat.lt_of_le_of_lt htl (by decide)) fun H2 f2 K2 => ?_
   walk_at "w"
   exact k H2 (hS1.kpDone K2 (by rw [List.map_append]; exact f2)) ((FrS.fr3 F1).trans (.kp K2 (by simp [SA.own])))
  | some h =>
   refine ZEP (fun h => by simp [ZI7] at h) (fun _ => ?_)
   walk_at "w"
   refine ZEF hq ZHP ?_
   walk_at "w"
   refine ⟨S.tr, S.d1, S.d2, n, t, h, sm, c, rfl, hT, ht, by omega, by omega, fun H1 hT1 F1 => ?_⟩
   have hS1 := fin H1 hT1 F1
   obtain ⟨dx1, vs1, hp1, hT1', hd1, hD1, hn1, hw1, hne⟩ := id hS1
   walk_at "w"
   refine ⟨tyL hn1, ?_⟩
   walk_at "w"
   refine ZFA hn1 (by rw [List.length_map]; exact Nat.lt_of_le_of_lt htl (by decide)) fun H2 f2 K2 => ?_
   walk_at "w"
   exact k H2 (hS1.kpDone K2 (by rw [List.map_append]; exact f2)) ((FrS.fr3 F1).trans (.kp K2 (by simp [SA.own])))
def ZVz (a : Ad) : Sp := fun vs H Q _ => ∃ (S : SA) (n t : Int) (o : Option Int) (sm : PL) (c : Nat) (ds : List (Int × Option Int)) (ts : List Int) (ws : List V), vs = [.ref S.p, .int t, ZI7 o] ∧ ZDp a H S n sm c ds ts ws ∧
 Tm t ∧ (o = none → (ZEV sm t).isSome = true) ∧ c ≤ 900 ∧ sm.length ≤ 900 ∧ ts.length ≤ 900 ∧ ds.length ≤ 900 ∧
 ∀ H', ZDp a H' S n (ZKW sm t o) (c + 1) (ds ++ [(t, ZEV sm t)]) (ts ++ [t]) ws → FrS S H H' → Q (ZI7 (ZEV sm t)) H'
theorem ZJV : ZDs ["self", "t", "h", "before"] ["self", "t", "h"] (ZDl ZIS) := ZD8
theorem ZNG (T : Txt K mg a) : ZDw P w K mg base CX0 6 a.JE a.Y8 ["self", "t", "h"] (ZVz a) := by
 refine T.ZCK.ok ZJV (by walk_at "l") (fun cdv A outer s H vs Q E hr h => ?_)
 ·obtain ⟨S, n, t, o, sm, c, ds, ts, ws, rfl, hS, ht, ho, hc, hsl, htl, hdl, k⟩ := h
  have hu := ZGI hr
  refine ⟨_, QB.h (ZDj (qsS (i := 3) ZJV.nd (ZIJ hu (ZEG K rfl (ZEG K rfl (qv 0))) (qv 1))) (ZDj (ZDz (ZEm (qv 0) T.ZI T.ZBJ (ZKx T) hr T.ZBH .nil ZEa (ZDh (qv 1) (ZDh (qv 2) ZDi)))) (ZDj (ZDz (ZGw PySem.F.plainAttrs_list PySem.F.slot_list_append PySem.F.type_list_append ZE2 (ZEG K rfl (qv 0)) (ZDh (ZEA (ZDh (qv 1) (ZDh (qv 3) ZDi))) ZDi))) (ZDm (ZD1 (qv 3)))))), ?_⟩
  walk_at "s"
  obtain ⟨dx, vs, hp, hT, _⟩ := id hS
  obtain ⟨dy, kvs, hq, hd1, _⟩ := id hT
  walk_at "w"
  refine ZPV hd1 ?_
  walk_at "w"
  refine ZRK hd1 ?_
  rw [ZRe]
  walk_at "w"
  refine ZEF hp ZI6 ?_
  walk_at "w"
  refine ⟨S, n, t, o, sm, c, ds, ts, ws, rfl, hS, ht, ho, hc, hsl, htl, fun H1 hS1 F1 => ?_⟩
  obtain ⟨dx1, vs1, hp1, hT1, hd1, hD1, _⟩ := id hS1
  walk_at "w"
  refine ⟨tyL hd1, ?_⟩
  walk_at "w"
  refine ZDx (by show 2 ≤ sizeLine; decide) fun b H2 n2 f2 S2 => ?_
  walk_at "w"
  refine ZFA (S2 _ _ hd1) (by rw [hD1.len]; exact Nat.lt_of_le_of_lt hdl (by decide)) fun H3 f3 K3 => ?_
  have nt : ∀ {b : Addr} {xs : List V}, H2 b = some (.tup xs) → H3 b = some (.tup xs) := fun e => K3 _ _ e (fun z => by rw [z, S2 _ _ hd1] at e; cases e)
  walk_at "w"
  exact k H3 ((hS1.same S2).kpDeeds K3 f3 (((hD1.tups fun b xs e => S2 _ _ e).tups fun b xs e => nt e).snoc (q := (t, ZEV sm t)) (nt f2))) ((F1.trans (.same S2)).trans (.kp K3 (by simp [SA.own])))
def ZVU (a : Ad) : Sp := fun vs H Q _ => ∃ (S : SA) (n t h : Int) (sm : PL) (c : Nat) (ds : List (Int × Option Int)) (ts : List Int) (ws : List V), vs = [.ref S.p, .int t, .int h] ∧ ZDp a H S n sm c ds ts ws ∧
 Tm t ∧ c ≤ 900 ∧ sm.length ≤ 900 ∧ ts.length ≤ 900 ∧ ds.length ≤ 900 ∧
 ∀ H', ZDp a H' S n (ZEn sm t h) (c + 1) (ds ++ [(t, ZEV sm t)]) (ts ++ [t]) ws → FrS S H H' → Q (ZI7 (ZEV sm t)) H'
theorem ZMn : ZDs ["self", "t", "h"] ["self", "t", "h"] (ZDl ZHp) := ZD8
theorem ZMo (T : Txt K mg a) : ZDw P w K mg base CX0 7 a.Yo a.Yg ["self", "t", "h"] (ZVU a) := by
 refine T.ZBt.ok ZMn (by walk_at "l") (fun cdv A outer s H vs Q E hr h => ?_)
 ·obtain ⟨S, n, t, h, sm, c, ds, ts, ws, rfl, hS, ht, hc, hsl, htl, hdl, k⟩ := h
  refine ⟨_, QB.h (ZDj (ZDz (qcS (ZId T) hr.m T.Jj T.YJ.kp T.Jv (ZDh (qv 1) ZDi))) (ZDm (ZD1 (ZEm (qv 0) T.ZI T.ZCB (ZNG T) hr T.ZCE .nil ZEa (ZDh (qv 1) (ZDh (qv 2) ZDi)))))), ?_⟩
  walk_at "s"
  obtain ⟨dx, vs, hp, hT, _⟩ := id hS
  walk_at "w"
  refine ⟨t, rfl, ht, ?_⟩
  walk_at "w"
  refine ZEF hp ZI6 ?_
  walk_at "w"
  exact ⟨S, n, t, some h, sm, c, ds, ts, ws, rfl, hS, ht, (fun z => by cases z), hc, hsl, htl, hdl, fun H1 hS1 F1 => k H1 hS1 F1⟩
def ZTp (a : Ad) : Sp := fun vs H Q _ => ∃ (S : SA) (n b e : Int) (sm : PL) (c : Nat) (ds : List (Int × Option Int)) (ts : List Int) (ws : List V), vs = [.ref S.p, .int b, .int e] ∧ ZDp a H S n sm c ds ts ws ∧ InT b ∧ InT e ∧
 ∀ (v : V) (o : Option (PL)) (n' : Int) (H' : Hp), ZEH H' v o → Is4 (inCol sm b e) o → ZDp a H' S n' sm c ds ts ws → Kp S.tr H H' → Q v H'
theorem ZLi : ZDs ["self", "begin", "end"] ["self", "begin", "end"] (ZDl ZHK) := ZD8
theorem ZLj (T : Txt K mg a) : ZDw P w K mg base CX0 6 a.YS a.YF ["self", "begin", "end"] (ZTp a) := by
 refine T.ZBc.ok ZLi (by walk_at "l") (fun cdv A outer s H vs Q E hr h => ?_)
 ·obtain ⟨S, n, b, e, sm, c, ds, ts, ws, rfl, hS, hb, he, k⟩ := h
  refine ⟨_, QB.h (ZDm (ZD1 (ZEm (ZEG K rfl (qv 0)) T.ZE T.ZAF (ZI5 T) hr T.ZAE .nil ZEa (ZDh (qv 1) (ZDh (qv 2) ZDi))))), ?_⟩
  walk_at "s"
  obtain ⟨dx, vs, hp, hT, _⟩ := id hS
  obtain ⟨dy, kvs, hq, hd1, _⟩ := id hT
  walk_at "w"
  refine ZEF hq ZHP ?_
  walk_at "w"
  exact ⟨S.tr, S.d1, S.d2, n, b, e, sm, c, rfl, hT, hb, he, fun v o prs H1 h1 g1 _ hT1 K1 => k v o _ H1 h1 g1 (hS.fr3 (ZVS K1) hT1) K1⟩
def ZRg (a : Ad) : Sp := fun vs H Q _ => ∃ (S : SA) (n : Int) (sm : PL) (c : Nat) (ds : List (Int × Option Int)) (ts : List Int) (ws : List V), vs = [.ref S.p] ∧ ZDp a H S n sm c ds ts ws ∧
 ∀ u H', H' u = some (.tup (ts.map V.int)) → ZDn H H' → Q (.ref u) H'
theorem ZKy : ZDs ["self"] ["self"] (ZDl ZGt) := ZD8
theorem ZKz (T : Txt K mg a) : ZDw P w K mg base CX0 1 a.Z6 a.Z5 ["self"] (ZRg a) := by
 refine T.ZBF.ok ZKy (by walk_at "l") (fun cdv A outer s H vs Q E hr h => ?_)
 ·obtain ⟨S, n, sm, c, ds, ts, ws, rfl, hS, k⟩ := h
  refine ⟨_, QB.h (ZDm (ZD1 (ZE1 (ZFT K rfl) rfl T.ZO ZFR (ZDh (ZEG K rfl (qv 0)) ZDi)))), ?_⟩
  walk_at "s"
  obtain ⟨dx, vs, hp, hT, hd, hD, hn, _⟩ := id hS
  walk_at "w"
  exact ZFr (SqL.of hn) fun u H3 n3 f3 S3 => k u H3 f3 S3
end
section
variable {a : Ad} {H H' : Hp} {S : SA} {n : Int} {sm : PL} {c : Nat} {ds : List (Int × Option Int)} {ts : List Int} {ws : List V}
theorem ZDp.live (h : ZDp a H S n sm c ds ts ws) : ∀ b ∈ S.p :: S.own, ∃ o, H b = some o := by
 obtain ⟨dx, vs, h1, ⟨dy, kvs, t1, t2, t3, _⟩, h3, h4, h5, h6, h7⟩ := h
 intro b hb
 simp only [SA.own, List.mem_cons, List.not_mem_nil, or_false] at hb
 rcases hb with rfl | rfl | rfl | rfl | rfl | rfl | rfl
 ·exact ⟨_, h1⟩
 ·exact ⟨_, t1⟩
 ·exact ⟨_, t2⟩
 ·exact ⟨_, t3⟩
 ·exact ⟨_, h3⟩
 ·exact ⟨_, h5⟩
 ·exact ⟨_, h6⟩
theorem ZDp.noTup (h : ZDp a H S n sm c ds ts ws) : ∀ b ∈ S.own, ∀ xs, H b ≠ some (.tup xs) := by
 obtain ⟨dx, vs, h1, ⟨dy, kvs, t1, t2, t3, _⟩, h3, h4, h5, h6, h7⟩ := h
 intro b hb xs e
 simp only [SA.own, List.mem_cons, List.not_mem_nil, or_false] at hb
 rcases hb with rfl | rfl | rfl | rfl | rfl | rfl
 ·rw [t1] at e; cases e
 ·rw [t2] at e; cases e
 ·rw [t3] at e; cases e
 ·rw [h3] at e; cases e
 ·rw [h5] at e; cases e
 ·rw [h6] at e; cases e
theorem ZDp.frL (h : ZDp a H S n sm c ds ts ws) {l : List Addr} (f : FrL l H H') (d : ∀ b ∈ l, b ∉ S.p :: S.own) (nt : ∀ b ∈ l, ∀ xs, H b ≠ some (.tup xs)) : ZDp a H' S n sm c ds ts ws := by
 obtain ⟨dx, vs, h1, ⟨dy, kvs, t1, t2, t3, t4, t5, t6⟩, h3, h4, h5, h6, h7⟩ := h
 have k : ∀ b o, H b = some o → b ∈ S.p :: S.own → H' b = some o := fun b o e m => f _ _ e fun z => d b z m
 have kt : ∀ b xs, H b = some (.tup xs) → H' b = some (.tup xs) := fun b xs e => f _ _ e fun z => nt b z xs e
 exact ⟨dx, vs, k _ _ h1 (by simp), ⟨dy, kvs, k _ _ t1 (by simp [SA.own]), k _ _ t2 (by simp [SA.own]), k _ _ t3 (by simp [SA.own]), t4, t5.tups kt, t6⟩, k _ _ h3 (by simp [SA.own]), h4.tups kt, k _ _ h5 (by simp [SA.own]), k _ _ h6 (by simp [SA.own]), h7⟩
theorem ZDp.apart (h : ZDp a H S n sm c ds ts ws) {l : List Addr} (m : ∀ b ∈ l, H b = none) : ∀ b ∈ l, b ∉ S.p :: S.own := fun b hb z => by
 obtain ⟨o, e⟩ := h.live b z
 rw [m b hb] at e; cases e
theorem SA.ls_own {S : SA} {b : Addr} (h : b ∈ S.ls) : b ∈ S.own := by
 simp only [SA.ls, SA.own, List.mem_cons, List.not_mem_nil, or_false] at *
 rcases h with h | h | h <;> simp [h]
end
section
variable {P : Program} {w : World} {K : W.Frag} {mg : Str → Option Value} {base : Heap} {a : Ad}
def ZMp (b y m t : Int) : V := if 0 ≤ (t - b) / y ∧ (t - b) / y < m then .int ((t - b) / y) else .non
def ZTq : Sp := fun vs H Q _ => ∃ (p : Addr) (b y m t : Int), vs = [.ref p, .int t] ∧ H p = some (.tup [.int b, .int y, .int m]) ∧ 0 < y ∧ y < 2 ^ 250 ∧ Q (ZMp b y m t) H
theorem ZFn : ZDs ["window", "t", "begin", "wide", "many", "k"] ["window", "t"] (ZDl ZHi) := ZD8
theorem ZMq (T : Txt K mg a) : ZDw P w K mg base CX0 1 a.YZ a.Ya ["window", "t"] ZTq := by
 refine T.ZAA.ok ZFn (by walk_at "l") (fun cdv A outer s H vs Q E hr h => ?_)
 ·obtain ⟨p, b, y, m, t, rfl, hT, hy, hy2, q⟩ := h
  refine ⟨_, QB.h (ZDj (ZEy (qv 0) (ZEb (n := 3) K rfl rfl (ZDq (qgN (i := 2) ZFn.nd) (ZDq (qgN (i := 3) ZFn.nd) (ZDq (qgN (i := 4) ZFn.nd) ZEQ))))) (ZDj (qsS (i := 5) ZFn.nd (ZDr ZFf (ZDr ZE6 (qv 1) (qv 2)) (qv 3))) (ZDm (ZD1 (ZGZ (ZHC ZGh ZF0 ZDk (qv 5) (qv 4)) (qv 5) ZE8))))), ?_⟩
  walk_at "s"
  walk_at "w"
  refine ZEP (fun h1 => ?_) (fun h1 => ?_)
  ·walk_at "w"
   refine ZEP (fun h2 => ?_) (fun h2 => ?_)
   ·walk_at "w"
    unfold ZMp at q
    rw [if_pos ⟨h1, h2⟩] at q
    exact q
   ·walk_at "w"
    unfold ZMp at q
    rw [if_neg (fun z => h2 z.2)] at q
    exact q
  ·walk_at "w"
   refine ZE0 ?_
   walk_at "w"
   unfold ZMp at q
   rw [if_neg (fun z => h1 z.1)] at q
   exact q
end
abbrev win (b y m : Int) : List V := [.int b, .int y, .int m]
def ZTr (K : W.Frag) : Sp := fun vs H Q _ => ∃ (t : Addr) (b y m c : Int), vs = [.ref t, .int c] ∧ SqT K H t (win b y m) ∧ IntMulOk c y ∧ ∀ (u : Addr) (H' : Hp), H u = none → H' u = some (.tup (win (b + c * y) y m)) → ZDn H H' → Q (.ref u) H'
def ZPo (K : W.Frag) : Sp := fun vs H Q _ => ∃ (t : Addr) (b y m : Int), vs = [.ref t] ∧ SqT K H t (win b y m) ∧ ∀ (u : Addr) (H' : Hp), H u = none → H' u = some (.tup (win b (y * 2) m)) → ZDn H H' → Q (.ref u) H'
def ZOa (K : W.Frag) : Sp := fun vs H Q _ => ∃ (t : Addr) (b y m : Int), vs = [.ref t] ∧ SqT K H t (win b y m) ∧ y % 2 = 0 ∧ ∀ (u : Addr) (H' : Hp), H u = none → H' u = some (.tup (win b (y / 2) m)) → ZDn H H' → Q (.ref u) H'
def ZTs (K : W.Frag) : Sp := fun vs H Q _ => ∃ (t : Addr) (b y m n : Int), vs = [.ref t, .int n] ∧ SqT K H t (win b y m) ∧ ∀ (u : Addr) (H' : Hp), H u = none → H' u = some (.tup (win b y n)) → ZDn H H' → Q (.ref u) H'
section
variable {P : Program} {w : World} {K : W.Frag} {mg : Str → Option Value} {base : Heap} {a : Ad}
theorem ZIV : ZDs ["window", "c", "begin", "wide", "many"] ["window", "c"] (ZDl ZKv) := ZD8
theorem ZRh (T : Txt K mg a) : ZDw P w K mg base CX0 1 a.ZAy a.ZAz ["window", "c"] (ZTr K) := by
 refine T.ZB2.ok ZIV (by walk_at "l") (fun cdv A outer s H vs Q E hr h => ?_)
 ·obtain ⟨t, b, y, m, c, rfl, hT, hm, k⟩ := h
  refine ⟨_, QB.h (ZDj (ZEy (qv 0) (ZEb (n := 3) K rfl rfl (ZDq (qgN (i := 2) ZIV.nd) (ZDq (qgN (i := 3) ZIV.nd) (ZDq (qgN (i := 4) ZIV.nd) ZEQ))))) (ZDm (ZD1 (ZEA (ZDh (ZDr ZEN (qv 2) (ZDr ZEE (qv 1) (qv 3))) (ZDh (qv 3) (ZDh (qv 4) ZDi))))))), ?_⟩
  walk_at "s"
  walk_at "w"
  refine ZGo hm ?_
  walk_at "w"
  exact ZDx (by show 3 ≤ sizeLine; decide) fun u H2 hu f2 S2 => k u H2 hu f2 S2
theorem ZG1 : ZDs ["window", "begin", "wide", "many"] ["window"] (ZDl ZIr) := ZD8
theorem ZOb (T : Txt K mg a) : ZDw P w K mg base CX0 1 a.Jn a.Jc ["window"] (ZPo K) := by
 refine T.ZA8.ok ZG1 (by walk_at "l") (fun cdv A outer s H vs Q E hr h => ?_)
 ·obtain ⟨t, b, y, m, rfl, hT, k⟩ := h
  refine ⟨_, QB.h (ZDj (ZEy (qv 0) (ZEb (n := 3) K rfl rfl (ZDq (qgN (i := 1) ZG1.nd) (ZDq (qgN (i := 2) ZG1.nd) (ZDq (qgN (i := 3) ZG1.nd) ZEQ))))) (ZDm (ZD1 (ZEA (ZDh (qv 1) (ZDh (ZDr ZEE (qv 2) ZDk) (ZDh (qv 3) ZDi))))))), ?_⟩
  walk_at "s"
  walk_at "w"
  exact ZDx (by show 3 ≤ sizeLine; decide) fun u H2 hu f2 S2 => k u H2 hu f2 S2
theorem ZGl : ZDs ["window", "begin", "wide", "many"] ["window"] (ZDl ZIP) := ZD8
theorem ZNH (T : Txt K mg a) : ZDw P w K mg base CX0 1 a.Y9 a.Y7 ["window"] (ZOa K) := by
 refine T.ZAo.ok ZGl (by walk_at "l") (fun cdv A outer s H vs Q E hr h => ?_)
 ·obtain ⟨t, b, y, m, rfl, hT, hy, k⟩ := h
  refine ⟨_, QB.h (ZDj (ZEy (qv 0) (ZEb (n := 3) K rfl rfl (ZDq (qgN (i := 1) ZGl.nd) (ZDq (qgN (i := 2) ZGl.nd) (ZDq (qgN (i := 3) ZGl.nd) ZEQ))))) (ZDj (ZEi (ZD3 (ZGG) (ZDr ZGF (qv 2) ZDk) ZDk (ZEB _)) (ZDm ZIB) ZEZ) (ZDm (ZD1 (ZEA (ZDh (qv 1) (ZDh (ZDr ZFf (qv 2) ZDk) (ZDh (qv 3) ZDi)))))))), ?_⟩
  walk_at "s"
  walk_at "w"
  rw [ZGv]
  refine ZEP (fun h => absurd h (by omega)) (fun _ => ?_)
  walk_at "w"
  exact ZDx (by show 3 ≤ sizeLine; decide) fun u H2 hu f2 S2 => k u H2 hu f2 S2
theorem ZKX : ZDs ["window", "n"] ["window", "n"] (ZDl ZGc) := ZD8
theorem ZKY (T : Txt K mg a) : ZDw P w K mg base CX0 1 a.Zy a.Z1 ["window", "n"] (ZTs K) := by
 refine T.Yu.ok ZKX (by walk_at "l") (fun cdv A outer s H vs Q E hr h => ?_)
 ·obtain ⟨t, b, y, m, n, rfl, hT, k⟩ := h
  refine ⟨_, QB.h (ZDm (ZD1 (ZEA (ZDh (ZD2 (ZD5 K rfl) (qv 0) ZDk) (ZDh (ZD2 (ZD5 K rfl) (qv 0) ZDk) (ZDh (qv 1) ZDi)))))), ?_⟩
  walk_at "s"
  walk_at "w"
  exact ZDx (by show 3 ≤ sizeLine; decide) fun u H2 hu f2 S2 => k u H2 hu f2 S2
end
def kx (x z : Int) : List Key := [Sum.inl x, Sum.inl z]
theorem ZKZ {x z x' z' : Int} (h : kx x z = kx x' z') : x = x' ∧ z = z' := by
 unfold kx at h
 injection h with h1 h2
 injection h2 with h2 _
 exact ⟨Sum.inl.inj h1, Sum.inl.inj h2⟩
theorem ZI8 {κ : Type} [DecidableEq κ] (k j : κ) : ∀ kvs : List (κ × V), ZD7 (ZE5 kvs k) j = if j = k then none else ZD7 kvs j
 | [] => by split <;> rfl
 | p :: r => by
  have ih := ZI8 k j r
  unfold ZE5 at ih ⊢
  by_cases e : p.1 = k
  ·rw [List.filter_cons_of_neg (by simpa using e), ih]
   split
   ·rfl
   ·rw [ZEl (fun z => ‹¬ j = k› (z.symm.trans e))]
  ·rw [List.filter_cons_of_pos (by simpa using e)]
   by_cases e2 : p.1 = j
   ·rw [ZEr e2, ZEr e2, if_neg (fun z => e (e2.trans z))]
   ·rw [ZEl e2, ZEl e2, ih]
def ZHQ (H : Hp) (sm : PL) (x z : Int) (v : V) : Prop := ∃ o, ZEH H v o ∧ Is4 (inCol sm x z) o
theorem ZHQ.tups {H H' : Hp} {sm : PL} {x z : Int} {v : V} (h : ZHQ H sm x z v) (t : ∀ b xs, H b = some (.tup xs) → H' b = some (.tup xs)) : ZHQ H' sm x z v :=
 let ⟨o, h1, h2⟩ := h; ⟨o, h1.tups t, h2⟩
def Col (b y m x z : Int) : Prop := ∃ k : Int, 0 ≤ k ∧ k < m ∧ x = b + k * y ∧ z = b + k * y + y
def has (kvs : List (List Key × V)) (x z : Int) : Bool := (ZD7 kvs (kx x z)).isSome
theorem ZHR {kvs : List (List Key × V)} {x z : Int} {v : V} (h : ZD7 kvs (kx x z) = some v) : has kvs x z = true := by unfold has; rw [h]; rfl
theorem ZHS {kvs : List (List Key × V)} {x z : Int} (h : ZD7 kvs (kx x z) = none) : has kvs x z = false := by unfold has; rw [h]; rfl
theorem ZNf {kvs : List (List Key × V)} {x z x' z' : Int} {v : V} : has (ZEx kvs (kx x z) v) x' z' = (decide (x' = x ∧ z' = z) || has kvs x' z') := by
 unfold has
 rw [ZGa]
 by_cases e : kx x' z' = kx x z
 ·rw [if_pos e, decide_eq_true (ZKZ e)]; rfl
 ·rw [if_neg e, decide_eq_false (fun h => e (by rw [h.1, h.2]))]; rfl
def Kin (kvs : List (List Key × V)) (x z : Int) : Prop := has kvs x z = true ∨ (has kvs x ((x + z) / 2) = true ∧ has kvs ((x + z) / 2) z = true)
def ZPp : Sp := fun vs H Q _ => ∃ (d q : Addr) (b y m : Int) (kvs : List (List Key × V)) (sm : PL), vs = [.ref d, .ref q] ∧ H d = some (.dT kvs) ∧ ZHr H q b y m ∧
 (∀ x z v, ZD7 kvs (kx x z) = some v → ZHQ H sm x z v) ∧
 ∀ (d' : Addr) (kvs' : List (List Key × V)) (H' : Hp), H d' = none → H' d' = some (.dT kvs') → kvs'.length ≤ m.toNat → (∀ x z v, ZD7 kvs' (kx x z) = some v → Col b y m x z ∧ ZHQ H' sm x z v) →
  (∀ x z, Col b y m x z → (has kvs' x z = true ↔ Kin kvs x z)) → ZDn H H' → Q (.ref d') H'
section
variable {P : Program} {w : World} {K : W.Frag} {mg : Str → Option Value} {base : Heap} {a : Ad}
theorem ZFz : ZDs ["known", "window", "staying", "first", "behind", "middle"] ["known", "window"] (ZDl ZIR) := ZD8
theorem ZNI (T : Txt K mg a) : ZDw P w K mg base CX0 4 a.JH a.Yz ["known", "window"] ZPp := by
 refine T.ZAi.ok ZFz (by walk_at "l") (fun cdv A outer s H vs Q E hr h => ?_)
 ·obtain ⟨d, q, b, y, m, kvs, sm, rfl, hd, hW, hg, k⟩ := h
  have hu := ZGI hr
  obtain ⟨hq, hy, hm1, hm2, hb, he⟩ := id hW
  refine ⟨_, QB.h (ZDj (qsS (i := 2) ZFz.nd ZJn) (ZDj (ZE9 PassesOwn.never rfl (ZFH K rfl (qcS (ZF4 T) hr T.Zs T.ZT.kp T.Zj (ZDh (qv 1) ZDi))) (ZEb (n := 2) K rfl rfl (ZDq (qgN (i := 3) ZFz.nd) (ZDq (qgN (i := 4) ZFz.nd) ZEQ))) (ZDj (qsS (i := 5) ZFz.nd (ZDr ZFf (ZDr ZEN (qv 3) (qv 4)) ZDk)) (ZDm (ZEi (ZD3 (ZKs hu) (ZEA (ZDh (qv 3) (ZDh (qv 4) ZDi))) (qv 0) (by with_unfolding_all rfl)) (ZDm (ZGC hu (ZG6 hu (qv 0) (ZEA (ZDh (qv 3) (ZDh (qv 4) ZDi)))) (qv 2) (ZEA (ZDh (qv 3) (ZDh (qv 4) ZDi))))) (ZDm (ZEi (QW.pt (ZHz (ZD3 (ZKs hu) (ZEA (ZDh (qv 3) (ZDh (qv 5) ZDi))) (qv 0) (by with_unfolding_all rfl)) (ZG5 (ZD3 (ZKs hu) (ZEA (ZDh (qv 5) (ZDh (qv 4) ZDi))) (qv 0) (by with_unfolding_all rfl))))) (ZDm (ZGC hu (qcS (ZI3 T) hr.m T.ZAL T.Y0.kp T.ZAP (ZDh (ZG6 hu (qv 0) (ZEA (ZDh (qv 3) (ZDh (qv 5) ZDi)))) (ZDh (ZG6 hu (qv 0) (ZEA (ZDh (qv 5) (ZDh (qv 4) ZDi)))) ZDi))) (qv 2) (ZEA (ZDh (qv 3) (ZDh (qv 4) ZDi))))) ZEZ)))))) (ZDm (ZD1 (qv 2))))), ?_⟩
  walk_at "s"
  walk_at "w"
  refine ZJo fun d' H1 n1 f1 S1 => ?_
  have nd : d ≠ d' := ZD4 hd n1
  walk_at "w"
  refine ⟨q, b, y, m, rfl, S1 _ _ hq, hm1, by omega, fun l us H2 n2 f2 hP2 S2 => ?_⟩
  have nl : l ≠ d' := fun z => by rw [z, f1] at n2; cases n2
  have hul : us.length = m.toNat := by rw [hP2.length, ZFl]
  have S02 := S1.trans S2
  walk_at "w"
  refine ZKk (xs := us) (fun i σ H' => (∃ v3 v4 v5, σ = [some (.ref d), some (.ref q), some (.ref d'), v3, v4, v5]) ∧ Kp d' H2 H' ∧ ∃ kvs', H' d' = some (.dT kvs') ∧ kvs'.length ≤ i ∧
   (∀ x z v, ZD7 kvs' (kx x z) = some v → (∃ j : Nat, j < i ∧ x = b + (j : Int) * y ∧ z = b + (j : Int) * y + y) ∧ ZHQ H' sm x z v) ∧ ∀ j : Nat, j < i → (has kvs' (b + (j : Int) * y) (b + (j : Int) * y + y) = true ↔ Kin kvs (b + (j : Int) * y) (b + (j : Int) * y + y))) ?_ ?_ ?_ ?_
  ·exact ⟨⟨_, _, _, rfl⟩, fun _ _ e _ => e, [], S2 _ _ f1, Nat.le_refl _, fun x z v h => (by cases h), fun j h => (by omega)⟩
  ·rintro i σ H3 _ ⟨_, K3, _⟩
   exact SqL.of (K3 _ _ f2 nl)
  ·rintro i x σ H3 hx ⟨⟨v3, v4, v5, rfl⟩, K3, kvs', f3, hl3, hG3, hI3⟩
   obtain ⟨cc, pq, rfl, hpq, hc⟩ := hP2.at hx
   have hil : i < m.toNat := by rw [← hul]; exact (List.getElem?_eq_some_iff.mp hx).1
   obtain rfl := ZHO hpq
   have ntd : ∀ {H' : Hp} {kv : List (List Key × V)}, H' d' = some (.dT kv) → ∀ {e : Addr} {xs : List V}, H' e = some (.tup xs) → e ≠ d' := fun h e xs g z => by rw [z, h] at g; cases g
   have hc3 := K3 _ _ hc (ntd (S2 _ _ f1) hc)
   have hd3 := K3 _ _ (S02 _ _ hd) nd
   have nt03 : ∀ b xs, H b = some (.tup xs) → H3 b = some (.tup xs) := fun b xs e => K3 _ _ (S02 _ _ e) (ZD4 e n1)
   have hz : kvs'.length < sizeLine := by show _ < 2 ^ 24; omega
   generalize hX : b + (i : Int) * y = X at hc3 hpq
   have hold : ∀ {H' : Hp} {v' : V}, H' d' = some (.dT (ZEx kvs' (kx X (X + y)) v')) → ZHQ H' sm X (X + y) v' → (∀ b xs, H3 b = some (.tup xs) → H' b = some (.tup xs)) → Kin kvs X (X + y) →
     (ZEx kvs' (kx X (X + y)) v').length ≤ i + 1 ∧ (∀ x z v, ZD7 (ZEx kvs' (kx X (X + y)) v') (kx x z) = some v → (∃ j : Nat, j < i + 1 ∧ x = b + (j : Int) * y ∧ z = b + (j : Int) * y + y) ∧ ZHQ H' sm x z v) ∧
     ∀ j : Nat, j < i + 1 → (has (ZEx kvs' (kx X (X + y)) v') (b + (j : Int) * y) (b + (j : Int) * y + y) = true ↔ Kin kvs (b + (j : Int) * y) (b + (j : Int) * y + y)) := fun {H' v'} _ hv ht hk => by
    refine ⟨by have := ZFZ kvs' (kx X (X + y)) v'; omega, fun x z v h => ?_, fun j hj => ?_⟩
    ·rw [ZGa] at h
     split at h
     ·rename_i e
      obtain ⟨rfl, rfl⟩ := ZKZ e
      cases h
      exact ⟨⟨i, by omega, hX.symm, by rw [hX]⟩, hv⟩
     ·obtain ⟨⟨j, hj, e1, e2⟩, g⟩ := hG3 _ _ _ h
      exact ⟨⟨j, by omega, e1, e2⟩, g.tups ht⟩
    ·rw [ZNf]
     by_cases e : j = i
     ·subst e
      rw [hX]
      simp [hk]
     ·have hne : ¬ (b + (j : Int) * y = X ∧ b + (j : Int) * y + y = X + y) := fun z => by
       have h1 : (j : Int) * y = (i : Int) * y := by omega
       have := Int.eq_of_mul_eq_mul_right (by omega) h1
       omega
      rw [decide_eq_false hne, Bool.false_or]
      exact hI3 j (by omega)
   have hskip : ∀ {H' : Hp}, (∀ b xs, H3 b = some (.tup xs) → H' b = some (.tup xs)) → ¬ Kin kvs X (X + y) →
     kvs'.length ≤ i + 1 ∧ (∀ x z v, ZD7 kvs' (kx x z) = some v → (∃ j : Nat, j < i + 1 ∧ x = b + (j : Int) * y ∧ z = b + (j : Int) * y + y) ∧ ZHQ H' sm x z v) ∧
     ∀ j : Nat, j < i + 1 → (has kvs' (b + (j : Int) * y) (b + (j : Int) * y + y) = true ↔ Kin kvs (b + (j : Int) * y) (b + (j : Int) * y + y)) := fun {H'} ht hk => by
    refine ⟨by omega, fun x z v h => ?_, fun j hj => ?_⟩
    ·obtain ⟨⟨j, hj, e1, e2⟩, g⟩ := hG3 _ _ _ h
     exact ⟨⟨j, by omega, e1, e2⟩, g.tups ht⟩
    ·by_cases e : j = i
     ·subst e
      rw [hX]
      refine ⟨fun h => ?_, fun h => absurd h hk⟩
      unfold has at h
      obtain ⟨v, hv⟩ := Option.isSome_iff_exists.mp h
      obtain ⟨⟨j', hj', e1, _⟩, _⟩ := hG3 _ _ _ hv
      have h1 : (j : Int) * y = (j' : Int) * y := by omega
      have := Int.eq_of_mul_eq_mul_right (by omega) h1
      omega
     ·exact hI3 j (by omega)
   have g2 : (2 : Nat) ≤ sizeLine := by decide
   have hM : X ≤ (X + (X + y)) / 2 ∧ (X + (X + y)) / 2 ≤ X + y := by omega
   walk_at "w"
   refine ZDx g2 fun u4 H4 n4 f4 S4 => ?_
   walk_at "w"
   refine ZKu (k := kx X (X + y)) (S4 _ _ hd3) f4 ?_
   cases hk : ZD7 kvs (kx X (X + y)) with
   | some v =>
    walk_at "w"
    refine ZFF ?_
    walk_at "w"
    refine ZDx g2 fun u5 H5 n5 f5 S5 => ?_
    have hd5 := S5 _ _ (S4 _ _ hd3)
    walk_at "w"
    refine ⟨d, v, rfl, by rw [← hk]; exact ZEu.t (k := kx X (X + y)) hd5 f5, ?_⟩
    walk_at "w"
    refine ZDx g2 fun u6 H6 n6 f6 S6 => ?_
    have S36 := (S4.trans S5).trans S6
    have f36 := S36 _ _ f3
    walk_at "w"
    refine ZHG (k := kx X (X + y)) f36 f6 hz fun H7 f7 K7 => ?_
    have nt7 : ∀ b xs, H3 b = some (.tup xs) → H7 b = some (.tup xs) := fun b xs e => K7 _ _ (S36 _ _ e) (ntd f3 e)
    walk_at "w"
    exact ⟨⟨_, _, _, rfl⟩, (K3.then S36).trans K7, _, f7, hold f7 ((hg _ _ _ hk).tups fun b xs e => nt7 _ _ (nt03 _ _ e)) nt7 (.inl (ZHR hk))⟩
   | none =>
    walk_at "w"
    refine ZE0 ?_
    walk_at "w"
    refine ZDx g2 fun u5 H5 n5 f5 S5 => ?_
    have hd5 := S5 _ _ (S4 _ _ hd3)
    walk_at "w"
    refine ZKu (k := kx X ((X + (X + y)) / 2)) hd5 f5 ?_
    cases hk1 : ZD7 kvs (kx X ((X + (X + y)) / 2)) with
    | none =>
     have S35 := S4.trans S5
     walk_at "w"
     refine ZE0 ?_
     walk_at "w"
     exact ⟨⟨_, _, _, rfl⟩, K3.then S35, _, S35 _ _ f3, hskip (fun b xs e => S35 _ _ e) fun z => by
      rcases z with z | z
      ·rw [ZHS hk] at z; cases z
      ·rw [ZHS hk1] at z; cases z.1⟩
    | some v1 =>
     walk_at "w"
     refine ZFF ?_
     walk_at "w"
     refine ZDx g2 fun u6 H6 n6 f6 S6 => ?_
     have hd6 := S6 _ _ hd5
     have S36 := (S4.trans S5).trans S6
     walk_at "w"
     refine ZKu (k := kx ((X + (X + y)) / 2) (X + y)) hd6 f6 ?_
     cases hk2 : ZD7 kvs (kx ((X + (X + y)) / 2) (X + y)) with
     | none =>
      walk_at "w"
      refine ZE0 ?_
      walk_at "w"
      exact ⟨⟨_, _, _, rfl⟩, K3.then S36, _, S36 _ _ f3, hskip (fun b xs e => S36 _ _ e) fun z => by
       rcases z with z | z
       ·rw [ZHS hk] at z; cases z
       ·rw [ZHS hk2] at z; cases z.2⟩
     | some v2 =>
      walk_at "w"
      refine ZFF ?_
      walk_at "w"
      refine ZDx g2 fun u7 H7 n7 f7 S7 => ?_
      have hd7 := S7 _ _ hd6
      walk_at "w"
      refine ⟨d, v1, rfl, by rw [← hk1]; exact ZEu.t (k := kx X ((X + (X + y)) / 2)) hd7 f7, ?_⟩
      walk_at "w"
      refine ZDx g2 fun u8 H8 n8 f8 S8 => ?_
      have hd8 := S8 _ _ hd7
      have S38 := (S36.trans S7).trans S8
      walk_at "w"
      refine ⟨d, v2, rfl, by rw [← hk2]; exact ZEu.t (k := kx ((X + (X + y)) / 2) (X + y)) hd8 f8, ?_⟩
      obtain ⟨o1, i1, i2⟩ := (hg _ _ _ hk1).tups (H' := H8) fun b xs e => S38 _ _ (nt03 _ _ e)
      obtain ⟨o2, j1, j2⟩ := (hg _ _ _ hk2).tups (H' := H8) fun b xs e => S38 _ _ (nt03 _ _ e)
      walk_at "w"
      refine ⟨v1, v2, o1, o2, _, _, rfl, i1, i2, j1, j2, ZMc, fun v9 o9 H9 h9 g9 S9 => ?_⟩
      walk_at "w"
      refine ZDx g2 fun u10 H10 n10 f10 S10 => ?_
      have S310 := (S38.trans S9).trans S10
      have f310 := S310 _ _ f3
      walk_at "w"
      refine ZHG (k := kx X (X + y)) f310 f10 hz fun H11 f11 K11 => ?_
      have nt11 : ∀ b xs, H10 b = some (.tup xs) → H11 b = some (.tup xs) := fun b xs e => K11 _ _ e (ntd f310 e)
      walk_at "w"
      exact ⟨⟨_, _, _, rfl⟩, (K3.then S310).trans K11, _, f11, hold f11 ⟨o9, (h9.tups fun b xs e => S10 _ _ e).tups nt11, g9.congr fun r => ZKU hM.1 hM.2 r⟩ (fun b xs e => nt11 _ _ (S310 _ _ e)) (.inr ⟨ZHR hk1, ZHR hk2⟩)⟩
  ·rintro σ H3 ⟨⟨v3, v4, v5, rfl⟩, K3, kvs', f3, hl3, hG3, hI3⟩
   rw [hul] at hl3 hG3 hI3
   walk_at "w"
   refine k d' kvs' H3 n1 f3 hl3 (fun x z v h => ?_) (fun x z h => ?_) fun b o e => K3 _ _ (S02 _ _ e) (ZD4 e n1)
   ·obtain ⟨⟨j, hj, e1, e2⟩, g⟩ := hG3 _ _ _ h
    exact ⟨⟨j, by omega, by omega, e1, e2⟩, g⟩
   ·obtain ⟨j, h0, h1, rfl, rfl⟩ := h
    have := hI3 j.toNat (by omega)
    rwa [Int.toNat_of_nonneg h0] at this
end
def vfl (s q d : Addr) (n e : Int) : List (Str × V) := [("source", V.ref s), ("window", V.ref q), ("asked", V.int n), ("known", V.ref d), ("seen", V.int e)]
section
variable {s q d q' d' : Addr} {n e n' e' : Int}
theorem vn1 : (("window" : Str) == "source") = false := by decide +kernel
theorem vn2 : (("asked" : Str) == "source") = false := by decide +kernel
theorem vn3 : (("asked" : Str) == "window") = false := by decide +kernel
theorem vn4 : (("known" : Str) == "source") = false := by decide +kernel
theorem vn5 : (("known" : Str) == "window") = false := by decide +kernel
theorem vn6 : (("known" : Str) == "asked") = false := by decide +kernel
theorem vn7 : (("seen" : Str) == "source") = false := by decide +kernel
theorem vn8 : (("seen" : Str) == "window") = false := by decide +kernel
theorem vn9 : (("seen" : Str) == "asked") = false := by decide +kernel
theorem ZRi : (("seen" : Str) == "known") = false := by decide +kernel
theorem ZIW : (vfl s q d n e).lookup ("source" : Str) = some (.ref s) := by
 unfold vfl
 rw [List.lookup_cons, beq_self_eq_true]
theorem ZG2 : (vfl s q d n e).lookup ("window" : Str) = some (.ref q) := by
 unfold vfl
 rw [List.lookup_cons, vn1, List.lookup_cons, beq_self_eq_true]
theorem ZI9 : (vfl s q d n e).lookup ("asked" : Str) = some (.int n) := by
 unfold vfl
 rw [List.lookup_cons, vn2, List.lookup_cons, vn3, List.lookup_cons, beq_self_eq_true]
theorem ZJA : (vfl s q d n e).lookup ("known" : Str) = some (.ref d) := by
 unfold vfl
 rw [List.lookup_cons, vn4, List.lookup_cons, vn5, List.lookup_cons, vn6, List.lookup_cons, beq_self_eq_true]
theorem ZMr : (vfl s q d n e).lookup ("seen" : Str) = some (.int e) := by
 unfold vfl
 rw [List.lookup_cons, vn7, List.lookup_cons, vn8, List.lookup_cons, vn9, List.lookup_cons, ZRi, List.lookup_cons, beq_self_eq_true]
theorem ZFY {m : Str} (h1 : (m == ("source" : Str)) = false := by decide +kernel) (h2 : (m == ("window" : Str)) = false := by decide +kernel) (h3 : (m == ("asked" : Str)) = false := by decide +kernel) (h4 : (m == ("known" : Str)) = false := by decide +kernel) (h5 : (m == ("seen" : Str)) = false := by decide +kernel) : (vfl s q d n e).lookup m = none := by
 unfold vfl
 rw [List.lookup_cons, h1, List.lookup_cons, h2, List.lookup_cons, h3, List.lookup_cons, h4, List.lookup_cons, h5]
 rfl
theorem ZIX (f : Str) (v u : V) (r : List (Str × V)) : ZD9 f v ((f, u) :: r) = (f, v) :: r := by
 show (if f = f then _ else _) = _
 rw [if_pos rfl]
theorem ZEK {f g : Str} (h : (f == g) = false) (v u : V) (r : List (Str × V)) : ZD9 f v ((g, u) :: r) = (g, u) :: ZD9 f v r := by
 show (if g = f then _ else _) = _
 rw [if_neg (fun z => by rw [z, beq_self_eq_true] at h; cases h)]
theorem ZHT (f : Str) (v : V) : ZD9 f v [] = [(f, v)] := rfl
theorem ZRj : ZD9 "window" (.ref q') (vfl s q d n e) = vfl s q' d n e := by
 unfold vfl
 rw [ZEK vn1, ZIX]
theorem ZRk : ZD9 "asked" (.int n') (vfl s q d n e) = vfl s q d n' e := by
 unfold vfl
 rw [ZEK vn2, ZEK vn3, ZIX]
theorem ZRl : ZD9 "known" (.ref d') (vfl s q d n e) = vfl s q d' n e := by
 unfold vfl
 rw [ZEK vn4, ZEK vn5, ZEK vn6, ZIX]
theorem ZRm : ZD9 "seen" (.int e') (vfl s q d n e) = vfl s q d n e' := by
 unfold vfl
 rw [ZEK vn7, ZEK vn8, ZEK vn9, ZEK ZRi, ZIX]
theorem ZTt : ZD9 "seen" (.int e) (ZD9 "known" (.ref d) (ZD9 "asked" (.int n) (ZD9 "window" (.ref q) (ZD9 "source" (.ref s) [])))) = vfl s q d n e := by
 unfold vfl
 rw [ZHT, ZEK vn1, ZHT, ZEK vn2, ZEK vn3, ZHT, ZEK vn4, ZEK vn5, ZEK vn6, ZHT, ZEK vn7, ZEK vn8, ZEK vn9, ZEK ZRi, ZHT]
end
def ZOc (H : Hp) (kvs : List (List Key × V)) (sm : PL) (b y m : Int) (bad : List Int) : Prop :=
 ∀ x z u, ZD7 kvs (kx x z) = some u → Col b y m x z ∧ ((∃ t ∈ bad, x ≤ t ∧ t < z) ∨ ZHQ H sm x z u)
theorem ZOc.tups {H H' : Hp} {kvs : List (List Key × V)} {sm : PL} {b y m : Int} {bad : List Int} (h : ZOc H kvs sm b y m bad) (t : ∀ b xs, H b = some (.tup xs) → H' b = some (.tup xs)) : ZOc H' kvs sm b y m bad := fun x z u e =>
 ⟨(h x z u e).1, (h x z u e).2.imp id fun g => g.tups t⟩
def ZEL (a : Ad) (H : Hp) (S : SA) (v d : Addr) (b y m n : Int) (kvs : List (List Key × V)) (e : Nat) (sm : PL) (ts : List Int) : Prop :=
 ∃ dx q, H v = some (.ins a.ZC dx (vfl S.p q d n (e : Int))) ∧ ZHr H q b y m ∧ H d = some (.dT kvs) ∧ ZOc H kvs sm b y m (ts.drop e) ∧ v ∉ S.p :: S.own ∧ d ∉ S.p :: S.own
section
variable {a : Ad} {H H' : Hp} {S : SA} {v d : Addr} {b y m n : Int} {kvs : List (List Key × V)} {e : Nat} {sm : PL} {ts : List Int}
theorem ZEL.frL (h : ZEL a H S v d b y m n kvs e sm ts) {l : List Addr} (f : FrL l H H') (nv : v ∉ l) (nd : d ∉ l) (nt : ∀ b ∈ l, ∀ xs, H b ≠ some (.tup xs)) : ZEL a H' S v d b y m n kvs e sm ts := by
 obtain ⟨dx, q, h1, h2, h3, h4, h5⟩ := h
 have kt : ∀ b xs, H b = some (.tup xs) → H' b = some (.tup xs) := fun b xs e => f _ _ e fun z => nt b z xs e
 exact ⟨dx, q, f _ _ h1 nv, ⟨kt _ _ h2.1, h2.2⟩, f _ _ h3 nd, h4.tups kt, h5⟩
theorem ZEL.same (h : ZEL a H S v d b y m n kvs e sm ts) (s : ZDn H H') : ZEL a H' S v d b y m n kvs e sm ts := h.frL (l := []) (FrL.same s) (by simp) (by simp) (by simp)
theorem ZEL.ne (h : ZEL a H S v d b y m n kvs e sm ts) : v ≠ d := fun z => by
 obtain ⟨dx, q, h1, h2, h3, _⟩ := h
 rw [z, h3] at h1; cases h1
theorem ZEL.noTup (h : ZEL a H S v d b y m n kvs e sm ts) : ∀ b ∈ [v, d], ∀ xs, H b ≠ some (.tup xs) := by
 obtain ⟨dx, q, h1, h2, h3, _⟩ := h
 intro b hb xs e
 simp only [List.mem_cons, List.not_mem_nil, or_false] at hb
 rcases hb with rfl | rfl
 ·rw [h1] at e; cases e
 ·rw [h3] at e; cases e
end
theorem ZRn {H : Hp} {q : Addr} {b y m : Int} (h : ZHr H q b y m) : y ≤ 2199023255552 := by
 obtain ⟨_, hy, h1, h2, hb, he⟩ := h
 have : 0 ≤ (m - 1) * y := Int.mul_nonneg (by omega) (by omega)
 rw [Int.sub_mul, Int.one_mul] at this
 unfold InT at hb he
 omega
theorem ZRo (xs : List V) (e : Nat) : ZF6 xs (some (e : Int)) none = xs.drop e := by
 unfold ZF6
 rw [HT.sIx_nat, HT.sIx_none]
 by_cases h : e ≤ xs.length
 ·rw [Nat.min_eq_left h, List.take_of_length_le (by rw [List.length_drop]; exact Nat.le_refl _)]
 ·rw [Nat.min_eq_right (by omega), List.drop_length, List.take_nil, List.drop_of_length_le (by omega)]
theorem col_of {b y m x z t : Int} (hy : 0 < y) (h : Col b y m x z) (h1 : x ≤ t) (h2 : t < z) : 0 ≤ (t - b) / y ∧ (t - b) / y < m ∧ x = b + (t - b) / y * y ∧ z = b + (t - b) / y * y + y := by
 obtain ⟨k, k0, k1, rfl, rfl⟩ := h
 have hk : (t - b) / y = k := by
  have hq := Int.mul_ediv_add_emod (t - b) y
  have r0 := Int.emod_nonneg (t - b) (by omega : y ≠ 0)
  have r1 := Int.emod_lt_of_pos (t - b) hy
  generalize (t - b) / y = c at hq
  rw [Int.mul_comm] at hq
  rcases Int.lt_trichotomy c k with h | h | h
  ·have := Int.mul_le_mul_of_nonneg_right (show c + 1 ≤ k by omega) (show 0 ≤ y by omega)
   rw [Int.add_mul, Int.one_mul] at this
   omega
  ·exact h
  ·have := Int.mul_le_mul_of_nonneg_right (show k + 1 ≤ c by omega) (show 0 ≤ y by omega)
   rw [Int.add_mul, Int.one_mul] at this
   omega
 rw [hk]
 exact ⟨k0, k1, rfl, rfl⟩
theorem ZVV {b y t : Int} (hy : 0 < y) : b + (t - b) / y * y ≤ t ∧ t < b + (t - b) / y * y + y := by
 have hq := Int.mul_ediv_add_emod (t - b) y
 have r0 := Int.emod_nonneg (t - b) (by omega : y ≠ 0)
 have r1 := Int.emod_lt_of_pos (t - b) hy
 rw [Int.mul_comm] at hq
 omega
theorem ZRp {kvs : List (List Key × V)} {x z x' z' : Int} : has (ZE5 kvs (kx x z)) x' z' = (!decide (x' = x ∧ z' = z) && has kvs x' z') := by
 unfold has
 rw [ZI8]
 by_cases e : kx x' z' = kx x z
 ·rw [if_pos e, decide_eq_true (ZKZ e)]; rfl
 ·rw [if_neg e, decide_eq_false (fun h => e (by rw [h.1, h.2]))]; rfl
def hit (bad : List Int) (x z : Int) : Prop := ∃ t ∈ bad, x ≤ t ∧ t < z
def ZRq (a : Ad) : Sp := fun vs H Q _ => ∃ (S : SA) (v d : Addr) (b y m k n : Int) (kvs : List (List Key × V)) (e : Nat) (sm : PL) (c : Nat) (ds : List (Int × Option Int)) (ts : List Int) (ws : List V), vs = [.ref v] ∧ ZDp a H S n sm c ds ts ws ∧ ZEL a H S v d b y m k kvs e sm ts ∧ ts.length ≤ 10000 ∧
 ∀ kvs' H', ZEL a H' S v d b y m k kvs' ts.length sm ts → ZDp a H' S n sm c ds ts ws → (∀ x z, has kvs' x z = true ↔ has kvs x z = true ∧ ¬ hit (ts.drop e) x z) → kvs'.length ≤ kvs.length → FrL [v, d] H H' → Q .non H'
section
variable {P : Program} {w : World} {K : W.Frag} {mg : Str → Option Value} {base : Heap} {a : Ad}
local macro_rules | `(tactic| walk_at "rd") => `(tactic| first
 | with_reducible first | refine ZEO (by assumption) (‹Txt _ _ _›).ZD (‹Txt _ _ _›).Zc ZIW ?_ | refine ZEO (by assumption) (‹Txt _ _ _›).ZD (‹Txt _ _ _›).ZK ZG2 ?_ | refine ZEO (by assumption) (‹Txt _ _ _›).ZD (‹Txt _ _ _›).Zn ZI9 ?_ | refine ZEO (by assumption) (‹Txt _ _ _›).ZD (‹Txt _ _ _›).ZS ZJA ?_ | refine ZEO (by assumption) (‹Txt _ _ _›).ZD (‹Txt _ _ _›).Z4 ZMr ?_ | refine ZPe ?_)
theorem ZFu : ZDs ["self", "times", "t", "k"] ["self"] (ZDl ZGp) := ZD8
theorem ZH6 (T : Txt K mg a) : ZDw P w K mg base CX0 3 a.YA a.YE ["self"] (ZRq a) := by
 refine T.ZBN.ok ZFu (by walk_at "l") (fun cdv A outer s H vs Q E hr h => ?_)
 ·obtain ⟨S, v, d, b, y, m, k, n, kvs, e, sm, c, ds, ts, ws, rfl, hS, hV, hlen, kk⟩ := h
  have hu := ZGI hr
  obtain ⟨dx, q, hv, hW, hd, hk, av, ad⟩ := id hV
  obtain ⟨sx, svs, sp, _⟩ := id hS
  have hy := hW.2.1
  have hy2 := ZRn hW
  have hvd := hV.ne
  refine ⟨_, QB.h (ZDj (qsS (i := 1) ZFu.nd (ZF8 (ZEG K rfl (qv 0)) T.ZI T.ZBI (ZKz T) hr.m T.ZBM .nil ZEa)) (ZDj (ZE9 PassesOwn.never rfl (ZHE K rfl (ZJe (ZNW K rfl) (qv 1) (ZKm (ZEG K rfl (qv 0))) ZKl)) (qgN (i := 2) ZFu.nd) (ZDj (qsS (i := 3) ZFu.nd (qcS (ZMq T) hr.m T.ZBs T.ZAA.kp T.ZBp (ZDh (ZEG K rfl (qv 0)) (ZDh (qv 2) ZDi)))) (ZDm (ZEi (ZD3 (ZKj) (qv 3) ZE8 (ZEB _)) (ZDm (ZDz (ZRT hu (ZEG K rfl (qv 0)) (qcS (ZJT T) hr T.ZAh T.JF.kp T.ZAp (ZDh (ZEG K rfl (qv 0)) (ZDh (qv 3) ZDi))) ZE8))) ZEZ)))) (ZDm (ZE3 K rfl (qv 0) (ZEJ (ZH1 K rfl) rfl T.YX ZHt (ZDh (qv 1) ZDi)))))), ?_⟩
  walk_at "s"
  walk_at "w"
  refine ZEF sp ZI6 ?_
  refine ⟨S, n, sm, c, ds, ts, ws, rfl, hS, fun u H1 f1 S1 => ?_⟩
  have hv1 := S1 _ _ hv
  walk_at "w"
  refine ZPK f1 fun u2 H2 f2 S2 => ?_
  rw [ZRo, ← List.map_drop] at f2
  have S02 := S1.trans S2
  have hv2 := S02 _ _ hv
  have f12 := S2 _ _ f1
  have hW2 : ZHr H2 q b y m := ⟨S02 _ _ hW.1, hW.2⟩
  have ntd : ∀ {e : Addr} {xs : List V}, H2 e = some (.tup xs) → e ≠ d := fun g z => by rw [z, S02 _ _ hd] at g; cases g
  walk_at "w"
  refine ZHx (xs := (ts.drop e).map V.int) (fun i σ H' => (∃ v2 v3, σ = [some (.ref v), some (.ref u), v2, v3]) ∧ Kp d H2 H' ∧ ∃ kvs', H' d = some (.dT kvs') ∧ kvs'.length ≤ kvs.length ∧ (∀ x z w, ZD7 kvs' (kx x z) = some w → ZD7 kvs (kx x z) = some w) ∧ ∀ x z, has kvs' x z = true ↔ has kvs x z = true ∧ ¬ hit ((ts.drop e).take i) x z) ?_ ?_ ?_ ?_
  ·exact ⟨⟨_, _, rfl⟩, fun _ _ e _ => e, kvs, S02 _ _ hd, Nat.le_refl _, fun _ _ _ h => h, fun x z => ⟨fun h => ⟨h, fun ⟨t, ht, _⟩ => by rw [List.take_zero] at ht; cases ht⟩, fun h => h.1⟩⟩
  ·rintro i σ H3 _ ⟨_, K3, _⟩
   exact SqT.of (K3 _ _ f2 (ntd f2))
  ·rintro i x σ H3 hx ⟨⟨v2, v3, rfl⟩, K3, kvs', f3, hl3, hs3, hh3⟩
   rw [List.getElem?_map] at hx
   obtain ⟨t, ht, rfl⟩ := Option.map_eq_some_iff.mp hx
   have hv3 := K3 _ _ hv2 hvd
   have hW3 := K3 _ _ hW2.1 (ntd hW2.1)
   have htk : ∀ x z, hit ((ts.drop e).take (i + 1)) x z ↔ hit ((ts.drop e).take i) x z ∨ (x ≤ t ∧ t < z) := fun x z => by
    unfold hit
    rw [List.take_succ, ht]
    constructor
    ·rintro ⟨t', h1, h2⟩
     rcases List.mem_append.mp h1 with h1 | h1
     ·exact .inl ⟨t', h1, h2⟩
     ·obtain rfl : t' = t := by simpa using h1
      exact .inr h2
    ·rintro (⟨t', h1, h2⟩ | h)
     ·exact ⟨t', List.mem_append_left _ h1, h2⟩
     ·exact ⟨t, List.mem_append_right _ (by simp), h⟩
   walk_at "w"
   refine ⟨q, b, y, m, t, rfl, hW3, hy, by omega, ?_⟩
   walk_at "w"
   unfold ZMp
   by_cases hc : 0 ≤ (t - b) / y ∧ (t - b) / y < m
   ·rw [if_pos hc]
    walk_at "w"
    refine ZIA (fun _ => ?_) (fun h => by cases h)
    walk_at "w"
    refine ZPf f3 ?_
    walk_at "w"
    refine ⟨q, b, y, m, _, rfl, hW3, hc.1, hc.2, by have := hW.2.2.2.1; omega, fun u4 H4 n4 f4 S4 => ?_⟩
    walk_at "w"
    refine ZRU (k := kx (b + (t - b) / y * y) (b + (t - b) / y * y + y)) (S4 _ _ f3) f4 fun w5 H5 f5 K5 => ?_
    walk_at "w"
    refine ⟨⟨_, _, rfl⟩, (K3.then S4).trans K5, _, f5, Nat.le_trans (List.length_filter_le _ _) hl3, fun x z w h => ?_, fun x z => ?_⟩
    ·rw [ZI8] at h
     split at h
     ·cases h
     ·exact hs3 _ _ _ h
    ·rw [ZRp, htk, Bool.and_eq_true, hh3]
     have hin := ZVV (b := b) (t := t) hy
     constructor
     ·rintro ⟨h1, h2, h3⟩
      refine ⟨h2, fun h => ?_⟩
      rcases h with h | h
      ·exact h3 h
      ·obtain ⟨w, hw⟩ := Option.isSome_iff_exists.mp h2
       obtain ⟨_, _, e1, e2⟩ := col_of hy (hk _ _ _ hw).1 h.1 h.2
       rw [decide_eq_true ⟨e1, e2⟩] at h1
       cases h1
     ·rintro ⟨h1, h2⟩
      refine ⟨?_, h1, fun h => h2 (.inl h)⟩
      rw [decide_eq_false (fun h => h2 (.inr (by rw [h.1, h.2]; exact hin)))]
      rfl
   ·rw [if_neg hc]
    walk_at "w"
    refine ZIA (fun h => absurd rfl h) (fun _ => ?_)
    walk_at "w"
    refine ⟨⟨_, _, rfl⟩, K3, _, f3, hl3, hs3, fun x z => ?_⟩
    rw [htk, hh3]
    refine and_congr_right fun h1 => not_congr ⟨.inl, fun h => ?_⟩
    rcases h with h | h
    ·exact h
    ·obtain ⟨w, hw⟩ := Option.isSome_iff_exists.mp h1
     obtain ⟨e1, e2, _⟩ := col_of hy (hk _ _ _ hw).1 h.1 h.2
     exact absurd ⟨e1, e2⟩ hc
  ·rintro σ H3 ⟨⟨v2, v3, rfl⟩, K3, kvs', f3, hl3, hs3, hh3⟩
   rw [List.length_map, List.take_length] at hh3
   have hv3 := K3 _ _ hv2 hvd
   have f13 := K3 _ _ f12 (ntd f12)
   walk_at "w"
   refine ZEs hv3 T.ZD T.Z4 (by show 5 < 1000; decide) fun H4 f4 K4 => ?_
   rw [ZRm, List.length_map] at f4
   have F02 : FrL [v, d] H H4 := ((FrL.same S02).trans (FrL.kp K3 (by simp))).trans (FrL.kp K4 (by simp))
   have kt : ∀ b xs, H b = some (.tup xs) → H4 b = some (.tup xs) := fun b xs e => F02 _ _ e fun z => hV.noTup b z xs e
   have hF : ∀ x z u, ZD7 kvs' (kx x z) = some u → Col b y m x z ∧ ZHQ H sm x z u := fun x z u h => by
    obtain ⟨h1, h2⟩ := hk _ _ _ (hs3 _ _ _ h)
    refine ⟨h1, h2.resolve_left fun hh => ?_⟩
    exact ((hh3 x z).mp (ZHR h)).2 hh
   walk_at "w"
   refine kk kvs' H4 ⟨dx, q, f4, ⟨kt _ _ hW.1, hW.2⟩, K4 _ _ f3 (Ne.symm hvd), fun x z u h => ⟨(hF x z u h).1, .inr ((hF x z u h).2.tups kt)⟩, av, ad⟩ (hS.frL F02 (fun b hb => ?_) hV.noTup) hh3 hl3 F02
   simp only [List.mem_cons, List.not_mem_nil, or_false] at hb
   rcases hb with rfl | rfl
   ·exact av
   ·exact ad
end
def ZGu (kvs : List (List Key × V)) (b y : Int) (N : Nat) : Nat := ((ZGj b y N).filter fun p => !has kvs p.1 p.2).length
theorem ZPq (kvs : List (List Key × V)) (b y : Int) (i : Nat) : ZGu kvs b y (i + 1) = ZGu kvs b y i + if has kvs (b + (i : Int) * y) (b + (i : Int) * y + y) = true then 0 else 1 := by
 unfold ZGu
 rw [ZKV, List.filter_append, List.length_append]
 congr 1
 cases hh : has kvs (b + (i : Int) * y) (b + (i : Int) * y + y) with
 | true => rw [List.filter_cons_of_neg (by simp [hh])]; rfl
 | false => rw [List.filter_cons_of_pos (by simp [hh])]; rfl
def ZRr (a : Ad) : Sp := fun vs H Q _ => ∃ (S : SA) (v d : Addr) (b y m k n : Int) (kvs : List (List Key × V)) (e : Nat) (sm : PL) (c : Nat) (ds : List (Int × Option Int)) (ts : List Int) (ws : List V), vs = [.ref v] ∧ ZDp a H S n sm c ds ts ws ∧ ZEL a H S v d b y m k kvs e sm ts ∧ ts.length ≤ 10000 ∧ kvs.length ≤ 100000 ∧
 ∀ (u : Addr) (us : List V) (fs : List (Option (PL))) (kvs1 kvs' : List (List Key × V)) (n' : Int) (H' : Hp), H' u = some (.tup us) → ZEd H' us fs → ZPZ sm b y m.toNat fs → (∀ x z, has kvs1 x z = true ↔ has kvs x z = true ∧ ¬ hit (ts.drop e) x z) →
  ZEL a H' S v d b y m (k + (ZGu kvs1 b y m.toNat : Int)) kvs' ts.length sm ts → ZDp a H' S n' sm c ds ts ws → (∀ x z, Col b y m x z → has kvs' x z = true) → kvs'.length ≤ kvs.length + m.toNat → FrL [v, d, S.tr] H H' → Q (.ref u) H'
section
variable {P : Program} {w : World} {K : W.Frag} {mg : Str → Option Value} {base : Heap} {a : Ad}
local macro_rules | `(tactic| walk_at "rd") => `(tactic| first
 | with_reducible first | refine ZEO (by assumption) (‹Txt _ _ _›).ZD (‹Txt _ _ _›).Zc ZIW ?_ | refine ZEO (by assumption) (‹Txt _ _ _›).ZD (‹Txt _ _ _›).ZK ZG2 ?_ | refine ZEO (by assumption) (‹Txt _ _ _›).ZD (‹Txt _ _ _›).Zn ZI9 ?_ | refine ZEO (by assumption) (‹Txt _ _ _›).ZD (‹Txt _ _ _›).ZS ZJA ?_ | refine ZEO (by assumption) (‹Txt _ _ _›).ZD (‹Txt _ _ _›).Z4 ZMr ?_)
theorem ZF5 : ZDs ["self", "columns", "first", "behind"] ["self"] (ZDl ZGP) := ZD8
theorem ZIf (T : Txt K mg a) : ZDw P w K mg base CX0 7 a.YG a.YO ["self"] (ZRr a) := by
 refine T.ZBW.ok ZF5 (by walk_at "l") (fun cdv A outer s H vs Q E hr h => ?_)
 ·obtain ⟨S, v, d, b, y, m, k, n, kvs, e, sm, c, ds, ts, ws, rfl, hS, hV, hlen, hkl, kk⟩ := h
  have hu := ZGI hr
  obtain ⟨dx, q, hv, hW, hd, hk, av, ad⟩ := id hV
  have hvd := hV.ne
  have tro : S.tr ∈ S.p :: S.own := by simp [SA.own]
  have hvt : v ≠ S.tr := fun z => av (z ▸ tro)
  have hdt : d ≠ S.tr := fun z => ad (z ▸ tro)
  have apart : ∀ b ∈ [v, d], b ∉ S.p :: S.own := fun b hb => by
   simp only [List.mem_cons, List.not_mem_nil, or_false] at hb
   rcases hb with rfl | rfl
   ·exact av
   ·exact ad
  refine ⟨_, QB.h (ZDj (ZDz (ZF8 (qv 0) T.ZD T.JK (ZH6 T) hr.m T.JL .nil ZEa)) (ZDj (qsS (i := 1) ZF5.nd (qcS (ZF4 T) hr.m T.Zs T.ZT.kp T.Zj (ZDh (ZEG K rfl (qv 0)) ZDi))) (ZDj (ZE9 PassesOwn.never rfl (ZFH K rfl (qv 1)) (ZEb (n := 2) K rfl rfl (ZDq (qgN (i := 2) ZF5.nd) (ZDq (qgN (i := 3) ZF5.nd) ZEQ))) (ZDm (ZEi (ZD3 (ZOP hu) (ZEA (ZDh (qv 2) (ZDh (qv 3) ZDi))) (ZEG K rfl (qv 0)) (by with_unfolding_all rfl)) (ZDj (ZGC hu (ZEm (ZEG K rfl (qv 0)) T.ZI T.ZBS (ZLj T) hr T.ZBX .nil ZEa (ZDh (qv 2) (ZDh (qv 3) ZDi))) (ZEG K rfl (qv 0)) (ZEA (ZDh (qv 2) (ZDh (qv 3) ZDi)))) (ZDm (ZLK K rfl (qv 0) ZDk))) ZEZ))) (ZDm (ZD1 (ZE1 (ZFT K rfl) rfl T.ZO ZFR (ZDh (ZFs (N := ["self", "columns", "first", "behind"]) (sc := ZDl ZGP) (own := ["times"]) (caps := ["self"]) (ks := [0]) rfl rfl rfl ⟨rfl, by decide +kernel, by decide +kernel, by decide +kernel, by decide +kernel, rfl, by decide +kernel⟩ (ZFH K rfl (qv 1)) (fun _ _ _ _ _ => ZEc (i := 0) (show List.Nodup (α := Str) ["times", "self"] from by decide +kernel) rfl (by walk_at "o") (.inr rfl)) (fun _ _ _ _ _ => ZFS) (fun _ _ _ _ _ => ZG6 hu (ZEG K rfl (qv 1)) (qv 0))) ZDi))))))), ?_⟩
  walk_at "s"
  walk_at "w"
  refine ZEF hv ZFY ?_
  refine ⟨S, v, d, b, y, m, k, n, kvs, e, sm, c, ds, ts, ws, rfl, hS, hV, hlen, fun kvs1 H1 hV1 hS1 hh1 hl1 F1 => ?_⟩
  obtain ⟨dx1, q1, hv1, hW1, hd1, hk1, _⟩ := id hV1
  obtain ⟨hq1, hy, hm1, hm2, hb, he⟩ := id hW1
  walk_at "w"
  refine ⟨q1, b, y, m, rfl, hq1, hm1, by omega, fun l us0 H2 n2 f2 hP2 S2 => ?_⟩
  have hul : us0.length = m.toNat := by rw [hP2.length, ZFl]
  have lne : l ∉ [v, d, S.tr] := fun z => by
   simp only [List.mem_cons, List.not_mem_nil, or_false] at z
   obtain ⟨o, ho⟩ := hS1.live _ tro
   rcases z with rfl | rfl | rfl
   ·rw [hv1] at n2; cases n2
   ·rw [hd1] at n2; cases n2
   ·rw [ho] at n2; cases n2
  have hV2 := hV1.same S2
  have hS2 := hS1.same S2
  have nt2 : ∀ b ∈ [v, d, S.tr], ∀ xs, H2 b ≠ some (.tup xs) := fun b hb xs => by
   simp only [List.mem_cons, List.not_mem_nil, or_false] at hb
   rcases hb with rfl | rfl | rfl
   ·exact hV2.noTup _ (by simp) xs
   ·exact hV2.noTup _ (by simp) xs
   ·exact hS2.noTup _ (by simp [SA.own]) xs
  walk_at "w"
  refine ZKk (xs := us0) (fun i σ H' => (∃ v2 v3, σ = [some (.ref v), some (.ref l), v2, v3]) ∧ FrL [v, d, S.tr] H2 H' ∧ ∃ kvs' n', ZEL a H' S v d b y m (k + (ZGu kvs1 b y i : Int)) kvs' ts.length sm ts ∧ ZDp a H' S n' sm c ds ts ws ∧ kvs'.length ≤ kvs1.length + i ∧
   ∀ x z, has kvs' x z = true ↔ has kvs1 x z = true ∨ ∃ j : Nat, j < i ∧ x = b + (j : Int) * y ∧ z = b + (j : Int) * y + y) ?_ ?_ ?_ ?_
  ·refine ⟨⟨_, _, rfl⟩, fun _ _ e _ => e, kvs1, n, ?_, hS2, Nat.le_refl _, fun x z => ⟨.inl, fun h => h.resolve_right fun ⟨j, hj, _⟩ => by omega⟩⟩
   rw [show ZGu kvs1 b y 0 = 0 from rfl]
   simpa using hV2
  ·rintro i σ H3 _ ⟨_, F3, _⟩
   exact SqL.of (F3 _ _ f2 lne)
  ·rintro i x σ H3 hx ⟨⟨v2, v3, rfl⟩, F3, kvs', n3, hV3, hS3, hl3, hh3⟩
   obtain ⟨cc, pq, rfl, hpq, hc⟩ := hP2.at hx
   have hil : i < m.toNat := by rw [← hul]; exact (List.getElem?_eq_some_iff.mp hx).1
   obtain rfl := ZHO hpq
   have hc3 := F3 _ _ hc fun z => nt2 _ z _ hc
   obtain ⟨w1, w2⟩ := hW1.col (k := (i : Int)) (by omega) (by omega)
   obtain ⟨dx3, q3, hv3, hW3, hd3, hk3, _⟩ := id hV3
   have hms := ZPq kvs1 b y i
   have hnj : ∀ j : Nat, j < i → ¬ (b + (i : Int) * y = b + (j : Int) * y ∧ b + (i : Int) * y + y = b + (j : Int) * y + y) := fun j hj z => by
    have h1 : (i : Int) * y = (j : Int) * y := by omega
    have := Int.eq_of_mul_eq_mul_right (by omega) h1
    omega
   have hcol : Col b y m (b + (i : Int) * y) (b + (i : Int) * y + y) := ⟨i, by omega, by omega, rfl, rfl⟩
   have hsucc : ∀ x z, (∃ j : Nat, j < i + 1 ∧ x = b + (j : Int) * y ∧ z = b + (j : Int) * y + y) ↔ (∃ j : Nat, j < i ∧ x = b + (j : Int) * y ∧ z = b + (j : Int) * y + y) ∨ (x = b + (i : Int) * y ∧ z = b + (i : Int) * y + y) := fun x z => by
    constructor
    ·rintro ⟨j, hj, e1, e2⟩
     by_cases ej : j = i
     ·subst ej; exact .inr ⟨e1, e2⟩
     ·exact .inl ⟨j, by omega, e1, e2⟩
    ·rintro (⟨j, hj, e⟩ | e)
     ·exact ⟨j, by omega, e⟩
     ·exact ⟨i, by omega, e⟩
   generalize b + (i : Int) * y = X at *
   have g2 : (2 : Nat) ≤ sizeLine := by decide
   walk_at "w"
   refine ZDx g2 fun u4 H4 n4 f4 S4 => ?_
   have hv4 := S4 _ _ hv3
   have hd4 := S4 _ _ hd3
   walk_at "w"
   refine ZOS (k := kx X (X + y)) hd4 f4 ?_
   cases hkx : ZD7 kvs' (kx X (X + y)) with
   | some w =>
    walk_at "w"
    refine ZE0 ?_
    walk_at "w"
    have hh : has kvs1 X (X + y) = true := ((hh3 _ _).mp (ZHR hkx)).resolve_right fun ⟨j, hj, e⟩ => hnj j hj e
    rw [if_pos hh] at hms
    refine ⟨⟨_, _, rfl⟩, F3.trans (FrL.same S4), kvs', n3, ?_, hS3.same S4, by omega, fun x z => ?_⟩
    ·rw [hms]; exact hV3.same S4
    ·rw [hh3, hsucc]
     constructor
     ·rintro (h | h)
      ·exact .inl h
      ·exact .inr (.inl h)
     ·rintro (h | h | ⟨rfl, rfl⟩)
      ·exact .inl h
      ·exact .inr h
      ·exact .inl hh
   | none =>
    obtain ⟨sx, svs, sp, _⟩ := id (hS3.same S4)
    walk_at "w"
    refine ZFF ?_
    walk_at "w"
    refine ZEF sp ZI6 ?_
    walk_at "w"
    refine ⟨S, n3, _, _, sm, c, ds, ts, ws, rfl, hS3.same S4, w1, w2, fun v5 o5 n5 H5 h5 g5 hS5 K5 => ?_⟩
    have hv5 := K5 _ _ hv4 hvt
    have hd5 := K5 _ _ hd4 hdt
    walk_at "w"
    refine ZDx g2 fun u6 H6 n6 f6 S6 => ?_
    have hd6 := S6 _ _ hd5
    have hv6 := S6 _ _ hv5
    walk_at "w"
    refine ZHG (k := kx X (X + y)) hd6 f6 (by show _ < 2 ^ 24; omega) fun H7 f7 K7 => ?_
    have hv7 := K7 _ _ hv6 hvd
    walk_at "w"
    refine ZKR hv7 T.ZD T.Zn ZI9 ?_
    walk_at "w"
    refine ⟨_, _, rfl, rfl, dx3, _, hv7, by show 5 < 1000; decide, ?_⟩
    rw [ZRk]
    have hh : ¬ has kvs1 X (X + y) = true := fun h => by
     have := (hh3 X (X + y)).mpr (.inl h)
     rw [ZHS hkx] at this; cases this
    rw [if_neg hh] at hms
    have f8 : (upd H7 v (.ins a.ZC dx3 (vfl S.p q3 d (k + (ZGu kvs1 b y i : Int) + 1) (ts.length : Int)))) v = some (.ins a.ZC dx3 (vfl S.p q3 d (k + (ZGu kvs1 b y i : Int) + 1) (ts.length : Int))) := ZDu
    have K8 : Kp v H7 (upd H7 v (.ins a.ZC dx3 (vfl S.p q3 d (k + (ZGu kvs1 b y i : Int) + 1) (ts.length : Int)))) := Kp.upd
    generalize upd H7 v (.ins a.ZC dx3 (vfl S.p q3 d (k + (ZGu kvs1 b y i : Int) + 1) (ts.length : Int))) = H8 at f8 K8 ⊢
    have F68 : FrL [v, d] H6 H8 := (FrL.kp K7 (by simp)).trans (FrL.kp K8 (by simp))
    have F38 : FrL [v, d, S.tr] H3 H8 := (((FrL.same S4).trans (FrL.kp K5 (by simp))).trans (FrL.same S6)).trans (F68.mono fun b hb => by simp only [List.mem_cons, List.not_mem_nil, or_false] at hb ⊢; rcases hb with h | h <;> simp [h])
    have nt6 : ∀ b ∈ [v, d], ∀ xs, H6 b ≠ some (.tup xs) := fun b hb xs z => by
     simp only [List.mem_cons, List.not_mem_nil, or_false] at hb
     rcases hb with rfl | rfl
     ·rw [hv6] at z; cases z
     ·rw [hd6] at z; cases z
    have kt6 : ∀ b xs, H6 b = some (.tup xs) → H8 b = some (.tup xs) := fun b xs e => F68 _ _ e fun z => nt6 b z xs e
    have kt3 : ∀ b xs, H3 b = some (.tup xs) → H8 b = some (.tup xs) := fun b xs e => kt6 _ _ (S6 _ _ (K5 _ _ (S4 _ _ e) fun z => hS3.noTup b (by rw [z]; simp [SA.own]) xs e))
    have ek : (k + (ZGu kvs1 b y (i + 1) : Int)) = k + (ZGu kvs1 b y i : Int) + 1 := by omega
    walk_at "w"
    refine ⟨⟨_, _, rfl⟩, F3.trans F38, _, n5, ⟨dx3, q3, by rw [ek]; exact f8, ⟨kt3 _ _ hW3.1, hW3.2⟩, K8 _ _ f7 (Ne.symm hvd), fun x z u h => ?_, av, ad⟩, (hS5.same S6).frL F68 apart nt6, ?_, fun x z => ?_⟩
    ·rw [ZGa] at h
     split at h
     ·rename_i e
      obtain ⟨rfl, rfl⟩ := ZKZ e
      cases h
      exact ⟨hcol, .inr ⟨o5, (h5.tups fun b xs e => S6 _ _ e).tups kt6, g5⟩⟩
     ·exact ⟨(hk3 _ _ _ h).1, (hk3 _ _ _ h).2.imp id fun g => g.tups kt3⟩
    ·have := ZFZ kvs' (kx X (X + y)) v5
     omega
    ·rw [ZNf, Bool.or_eq_true, decide_eq_true_iff, hh3, hsucc]
     constructor
     ·rintro (h | h | h)
      ·exact .inr (.inr h)
      ·exact .inl h
      ·exact .inr (.inl h)
     ·rintro (h | h | h)
      ·exact .inr (.inl h)
      ·exact .inr (.inr h)
      ·exact .inl h
  ·rintro σ H3 ⟨⟨v2, v3, rfl⟩, F3, kvs', n3, hV3, hS3, hl3, hh3⟩
   rw [hul] at hV3 hl3 hh3
   have hall : ∀ x z, Col b y m x z → has kvs' x z = true := fun x z h => by
    obtain ⟨j, h0, h1, e1, e2⟩ := h
    exact (hh3 x z).mpr (.inr ⟨j.toNat, by omega, by rw [Int.toNat_of_nonneg h0]; exact e1, by rw [Int.toNat_of_nonneg h0]; exact e2⟩)
   have f23 := F3 _ _ f2 lne
   obtain ⟨dx3, q3, hv3, hW3, hd3, hk3, _⟩ := id hV3
   rw [List.drop_length] at hk3
   walk_at "w"
   intro l2 n4
   refine ZEw m.toNat (fun i σ' H' => (∃ o1, σ' = [o1, some (.ref v)]) ∧ ZDn H3 H' ∧ ∃ vs fs, H' l2 = some (.lst vs) ∧ ZEd H' vs fs ∧ fs.length = i ∧ ∀ (k : Nat) o, fs[k]? = some o → Is4 (inCol sm (b + (k : Int) * y) (b + (k : Int) * y + y)) o) ?_ ?_ ?_
   ·exact ⟨⟨none, rfl⟩, ZDn.new n4, [], [], ZDu, .nil, rfl, fun k o h => by simp at h⟩
   ·rintro σ' H5 ⟨_, S5, vs, fs, f5, hF5, hfl, hO5⟩
    refine ⟨⟨_, SqL.of (S5 _ _ f23), by rw [hul]; exact Nat.le_refl _⟩, ?_⟩
    walk_at "w"
    refine ZFr (SqL.of f5) fun u H6 n6 f6 S6 => ?_
    have S36 := S5.trans S6
    refine kk u vs fs kvs1 kvs' n3 H6 f6 (hF5.same S6) ⟨hfl, hO5⟩ hh1 (hV3.same S36) (hS3.same S36) hall (by omega) ?_
    exact (((F1.mono fun b hb => by simp only [List.mem_cons, List.not_mem_nil, or_false] at hb ⊢; rcases hb with h | h <;> simp [h]).trans (FrL.same S2)).trans F3).trans (FrL.same S36)
   ·rintro i σ' H5 hi ⟨⟨o1, rfl⟩, S5, vs, fs, f5, hF5, hfl, hO5⟩
    have hi2 : i < us0.length := by rw [hul]; exact hi
    have f25 := S5 _ _ f23
    refine ⟨⟨_, _, SqL.of f25, List.getElem?_eq_getElem hi2⟩, ?_⟩
    rintro x H'' ⟨rfl, hx⟩
    have hx := hx _ (SqL.of f25)
    obtain ⟨u, pr, rfl, hpr, f6⟩ := hP2.at hx
    have hpr := ZHO hpr
    subst hpr
    have f65 := S5 _ _ (F3 _ _ f6 fun z => nt2 _ z _ f6)
    have hv5 := S5 _ _ hv3
    have hd5 := S5 _ _ hd3
    have hcol : Col b y m (b + (i : Int) * y) (b + (i : Int) * y + y) := ⟨i, by omega, by omega, rfl, rfl⟩
    obtain ⟨w, hw⟩ := Option.isSome_iff_exists.mp (hall _ _ hcol)
    obtain ⟨o6, g6, i6⟩ := ((hk3 _ _ _ hw).2.resolve_left fun ⟨t, ht, _⟩ => by cases ht).tups (H' := H'') fun b xs e => S5 _ _ e
    walk_at "w"
    refine ZFF ?_
    walk_at "w"
    refine ⟨d, w, rfl, by rw [← hw]; exact ZEu.t (k := kx (b + (i : Int) * y) (b + (i : Int) * y + y)) hd5 f65, ?_⟩
    refine ⟨vs, f5, ?_, ⟨_, rfl⟩, S5.kpN n4 Kp.upd, vs ++ [w], fs ++ [o6], ZDu, (hF5.snoc g6).mapP fun _ _ d => d.kpL Kp.upd f5, by simp [hfl], ?_⟩
    ·rw [hF5.len, hfl]
     exact Nat.lt_of_lt_of_le (show i < 100 by omega) (by decide)
    ·intro k' o' h'
     rw [List.getElem?_append] at h'
     split at h'
     ·exact hO5 k' o' h'
     ·have : k' = i := by
       have := (List.getElem?_eq_some_iff.mp h').1
       simp at this
       omega
      subst this
      rw [hfl, Nat.sub_self] at h'
      have : o6 = o' := by simpa using h'
      subst this
      exact i6
end
def ZMs (b y m : Int) : Prop := 0 < y ∧ 1 ≤ m ∧ m ≤ 100 ∧ InT b ∧ InT (b + m * y)
def ZTu (a : Ad) : Sp := fun vs H Q _ => ∃ (S : SA) (p dx q : Addr) (b y m n : Int) (sm : PL) (c : Nat) (ds : List (Int × Option Int)) (ts : List Int) (ws : List V), vs = [.ref p, .ref S.p, .ref q] ∧ H p = some (.ins a.ZC dx []) ∧ ZDp a H S n sm c ds ts ws ∧ ZHr H q b y m ∧ p ∉ S.p :: S.own ∧
 ∀ d H', H d = none → ZEL a H' S p d b y m 0 [] 0 sm ts → ZDp a H' S n sm c ds ts ws → Kp p H H' → Q .non H'
def ZG3 (a : Ad) (H : Hp) (S : SA) (v d : Addr) (k n : Int) (kvs : List (List Key × V)) (e : Nat) (sm : PL) (c : Nat) (ds : List (Int × Option Int)) (ts : List Int) (ws : List V) (b' y' m' : Int) (Q : VK) : Prop :=
 ∀ (d' : Addr) (kvs1 kvs' : List (List Key × V)) (H' : Hp), H d' = none → (∀ x z, has kvs1 x z = true ↔ has kvs x z = true ∧ ¬ hit (ts.drop e) x z) → (∀ x z, Col b' y' m' x z → (has kvs' x z = true ↔ Kin kvs1 x z)) → kvs'.length ≤ m'.toNat →
  ZEL a H' S v d' b' y' m' k kvs' ts.length sm ts → ZDp a H' S n sm c ds ts ws → FrL [v, d] H H' → Q .non H'
theorem ZG3.at {a : Ad} {H H1 : Hp} {S : SA} {v d : Addr} {k n : Int} {kvs : List (List Key × V)} {e : Nat} {sm : PL} {c : Nat} {ds : List (Int × Option Int)} {ts : List Int} {ws : List V} {b' y' m' : Int} {Q : VK} (h : ZG3 a H S v d k n kvs e sm c ds ts ws b' y' m' Q) (s : ZDn H H1) : ZG3 a H1 S v d k n kvs e sm c ds ts ws b' y' m' Q :=
 fun d' kvs1 kvs' H' n' h1 h2 h3 h4 h5 f => h d' kvs1 kvs' H' (ZG7 s n') h1 h2 h3 h4 h5 ((FrL.same s).trans f)
def ZRs (a : Ad) : Sp := fun vs H Q _ => ∃ (S : SA) (v d q : Addr) (b y m k n b' y' m' : Int) (kvs : List (List Key × V)) (e : Nat) (sm : PL) (c : Nat) (ds : List (Int × Option Int)) (ts : List Int) (ws : List V), vs = [.ref v, .ref q] ∧ ZDp a H S n sm c ds ts ws ∧ ZEL a H S v d b y m k kvs e sm ts ∧ ts.length ≤ 10000 ∧ ZHr H q b' y' m' ∧
 ZG3 a H S v d k n kvs e sm c ds ts ws b' y' m' Q
def ZV0 (a : Ad) : Sp := fun vs H Q _ => ∃ (S : SA) (v d : Addr) (b y m k n j : Int) (kvs : List (List Key × V)) (e : Nat) (sm : PL) (c : Nat) (ds : List (Int × Option Int)) (ts : List Int) (ws : List V), vs = [.ref v, .int j] ∧ ZDp a H S n sm c ds ts ws ∧ ZEL a H S v d b y m k kvs e sm ts ∧ ts.length ≤ 10000 ∧ IntMulOk j y ∧ ZMs (b + j * y) y m ∧
 ZG3 a H S v d k n kvs e sm c ds ts ws (b + j * y) y m Q
def ZTv (a : Ad) : Sp := fun vs H Q _ => ∃ (S : SA) (v d : Addr) (b y m k n : Int) (kvs : List (List Key × V)) (e : Nat) (sm : PL) (c : Nat) (ds : List (Int × Option Int)) (ts : List Int) (ws : List V), vs = [.ref v] ∧ ZDp a H S n sm c ds ts ws ∧ ZEL a H S v d b y m k kvs e sm ts ∧ ts.length ≤ 10000 ∧ ZMs b (y * 2) m ∧
 ZG3 a H S v d k n kvs e sm c ds ts ws b (y * 2) m Q
def ZPr (a : Ad) : Sp := fun vs H Q _ => ∃ (S : SA) (v d : Addr) (b y m k n : Int) (kvs : List (List Key × V)) (e : Nat) (sm : PL) (c : Nat) (ds : List (Int × Option Int)) (ts : List Int) (ws : List V), vs = [.ref v] ∧ ZDp a H S n sm c ds ts ws ∧ ZEL a H S v d b y m k kvs e sm ts ∧ ts.length ≤ 10000 ∧ y % 2 = 0 ∧ ZMs b (y / 2) m ∧
 ZG3 a H S v d k n kvs e sm c ds ts ws b (y / 2) m Q
def ZTw (a : Ad) : Sp := fun vs H Q _ => ∃ (S : SA) (v d : Addr) (b y m k n j : Int) (kvs : List (List Key × V)) (e : Nat) (sm : PL) (c : Nat) (ds : List (Int × Option Int)) (ts : List Int) (ws : List V), vs = [.ref v, .int j] ∧ ZDp a H S n sm c ds ts ws ∧ ZEL a H S v d b y m k kvs e sm ts ∧ ts.length ≤ 10000 ∧ ZMs b y j ∧
 ZG3 a H S v d k n kvs e sm c ds ts ws b y j Q
section
variable {P : Program} {w : World} {K : W.Frag} {mg : Str → Option Value} {base : Heap} {a : Ad}
local macro_rules | `(tactic| walk_at "rd") => `(tactic| first
 | with_reducible first | refine ZEO (by assumption) (‹Txt _ _ _›).ZD (‹Txt _ _ _›).Zc ZIW ?_ | refine ZEO (by assumption) (‹Txt _ _ _›).ZD (‹Txt _ _ _›).ZK ZG2 ?_ | refine ZEO (by assumption) (‹Txt _ _ _›).ZD (‹Txt _ _ _›).ZS ZJA ?_)
theorem ZJ0 : ZDs ["self", "store", "window"] ["self", "store", "window"] (ZDl ZGO) := ZD8
theorem ZJ1 (T : Txt K mg a) : ZDw P w K mg base CX0 5 a.Zh a.Zg ["self", "store", "window"] (ZTu a) := by
 refine T.ZAs.ok ZJ0 (by walk_at "l") (fun cdv A outer s H vs Q E hr h => ?_)
 ·obtain ⟨S, p, dx, q, b, y, m, n, sm, c, ds, ts, ws, rfl, hp, hS, hW, ap, kk⟩ := h
  obtain ⟨hq, hy, hm1, hm2, hb, he⟩ := id hW
  refine ⟨_, QB.h (ZDj (ZDz (qcS (ZGS T) hr T.Zz T.ZW.kp T.Z2 (ZDh (qv 2) ZDi))) (ZDj (ZE3 K rfl (qv 0) (qv 1)) (ZDj (ZE3 K rfl (qv 0) (qv 2)) (ZDj (ZE3 K rfl (qv 0) ZDk) (ZDj (ZE3 K rfl (qv 0) ZJn) (ZDm (ZE3 K rfl (qv 0) ZDk))))))), ?_⟩
  walk_at "s"
  walk_at "w"
  refine ⟨q, b, y, m, rfl, hq, by omega, by omega, hb, he, ?_⟩
  walk_at "w"
  refine ZEs hp T.ZD T.Zc (by show 0 < 1000; decide) fun H1 f1 K1 => ?_
  walk_at "w"
  refine ZEs f1 T.ZD T.ZK (by show 1 < 1000; decide) fun H2 f2 K2 => ?_
  walk_at "w"
  refine ZEs f2 T.ZD T.Zn (by show 2 < 1000; decide) fun H3 f3 K3 => ?_
  walk_at "w"
  refine ZJo fun d H4 n4 f4 S4 => ?_
  have nd : d ≠ p := fun z => by rw [z, f3] at n4; cases n4
  walk_at "w"
  refine ZEs (S4 _ _ f3) T.ZD T.ZS (by show 3 < 1000; decide) fun H5 f5 K5 => ?_
  walk_at "w"
  refine ZEs f5 T.ZD T.Z4 (by show 4 < 1000; decide) fun H6 f6 K6 => ?_
  rw [ZTt] at f6
  have K03 : Kp p H H3 := (K1.trans K2).trans K3
  have K06 : Kp p H H6 := ((K03.then S4).trans K5).trans K6
  have n0 : H d = none := by
   cases e : H d with
   | none => rfl
   | some o => rw [K03 _ _ e nd] at n4; cases n4
  have hnt : ∀ b ∈ [p], ∀ xs, H b ≠ some (.tup xs) := fun b hb xs e => by
   obtain rfl : b = p := by simpa using hb
   rw [hp] at e; cases e
  have hS6 := hS.frL (FrL.kp K06 (l := [p]) (by simp)) (fun b hb => by obtain rfl : b = p := (by simpa using hb); exact ap) hnt
  walk_at "w"
  refine kk d H6 n0 ⟨dx, q, f6, ⟨K06 _ _ hq (fun z => hnt q (by simp [z]) _ hq), hW.2⟩, K6 _ _ (K5 _ _ f4 nd) nd, fun x z u h => (by cases h), ap, hS.apart (l := [d]) (fun b hb => by obtain rfl : b = d := (by simpa using hb); exact n0) d (by simp)⟩ hS6 K06
theorem ZKa : ZDs ["self", "window"] ["self", "window"] (ZDl ZGf) := ZD8
theorem ZFe (T : Txt K mg a) : ZDw P w K mg base CX0 5 a.Zw a.Z0 ["self", "window"] (ZRs a) := by
 refine T.ZAw.ok ZKa (by walk_at "l") (fun cdv A outer s H vs Q E hr h => ?_)
 ·obtain ⟨S, v, d, q, b, y, m, k, n, b', y', m', kvs, e, sm, c, ds, ts, ws, rfl, hS, hV, hlen, hW, kk⟩ := h
  obtain ⟨hq, hy, hm1, hm2, hb, he⟩ := id hW
  obtain ⟨dx, q0, hv, hW0, hd, hk, av, ad⟩ := id hV
  refine ⟨_, QB.h (ZDj (ZDz (qcS (ZGS T) hr T.Zz T.ZW.kp T.Z2 (ZDh (qv 1) ZDi))) (ZDj (ZDz (ZF8 (qv 0) T.ZD T.JK (ZH6 T) hr.m T.JL .nil ZEa)) (ZDj (ZE3 K rfl (qv 0) (qcS (ZNI T) hr T.ZCI T.ZAi.kp T.ZCG (ZDh (ZEG K rfl (qv 0)) (ZDh (qv 1) ZDi)))) (ZDm (ZE3 K rfl (qv 0) (qv 1)))))), ?_⟩
  walk_at "s"
  walk_at "w"
  refine ⟨q, b', y', m', rfl, hq, by omega, by omega, hb, he, ?_⟩
  walk_at "w"
  refine ZEF hv ZFY ?_
  refine ⟨S, v, d, b, y, m, k, n, kvs, e, sm, c, ds, ts, ws, rfl, hS, hV, hlen, fun kvs1 H1 hV1 hS1 hh1 hl1 F1 => ?_⟩
  obtain ⟨dx1, q1, hv1, hW1, hd1, hk1, _⟩ := id hV1
  rw [List.drop_length] at hk1
  have hWn : ZHr H1 q b' y' m' := ⟨F1 _ _ hq fun z => hV.noTup _ z _ hq, hW.2⟩
  walk_at "w"
  refine ⟨d, q, b', y', m', kvs1, sm, rfl, hd1, hWn, fun x z u h => (hk1 x z u h).2.resolve_left fun ⟨t, ht, _⟩ => (by cases ht), fun d2 kvs2 H2 n2 f2 hl2 hg2 hi2 S2 => ?_⟩
  have hv2 := S2 _ _ hv1
  have nd2 : d2 ≠ v := fun z => by rw [z, hv1] at n2; cases n2
  walk_at "w"
  refine ZEs hv2 T.ZD T.ZS (by show 5 < 1000; decide) fun H3 f3 K3 => ?_
  rw [ZRl] at f3
  walk_at "w"
  refine ZEs f3 T.ZD T.ZK (by show 5 < 1000; decide) fun H4 f4 K4 => ?_
  rw [ZRj] at f4
  have K24 := K3.trans K4
  have nt2 : ∀ b ∈ [v], ∀ xs, H2 b ≠ some (.tup xs) := fun b hb xs e => by
   obtain rfl : b = v := by simpa using hb
   rw [hv2] at e; cases e
  have kt2 : ∀ b xs, H2 b = some (.tup xs) → H4 b = some (.tup xs) := fun b xs e => K24 _ _ e fun z => nt2 b (by simp [z]) xs e
  have n0 : H d2 = none := by
   cases e : H d2 with
   | none => rfl
   | some o =>
    by_cases z : d2 ∈ [v, d]
    ·simp only [List.mem_cons, List.not_mem_nil, or_false] at z
     rcases z with z | z
     ·exact absurd z nd2
     ·rw [z, hd1] at n2; cases n2
    ·rw [F1 _ _ e z] at n2; cases n2
  walk_at "w"
  refine kk d2 kvs1 kvs2 H4 n0 hh1 hi2 hl2 ⟨dx1, q, f4, ⟨kt2 _ _ (S2 _ _ hWn.1), hW.2⟩, K24 _ _ f2 nd2, fun x z u h => ⟨(hg2 x z u h).1, .inr ((hg2 x z u h).2.tups kt2)⟩, av, ?_⟩ ((hS1.same S2).frL (FrL.kp K24 (l := [v]) (by simp)) (fun b hb => by obtain rfl : b = v := (by simpa using hb); exact av) nt2) ((F1.trans (FrL.same S2)).trans (FrL.kp K24 (by simp)))
  exact hS.apart (l := [d2]) (fun b hb => by obtain rfl : b = d2 := (by simpa using hb); exact n0) d2 (by simp)
theorem ZOd : ZDs ["self", "c"] ["self", "c"] (ZDl ZIv) := ZD8
theorem ZOe (T : Txt K mg a) : ZDw P w K mg base CX0 6 a.Jd a.Js ["self", "c"] (ZV0 a) := by
 refine T.ZCP.ok ZOd (by walk_at "l") (fun cdv A outer s H vs Q E hr h => ?_)
 ·obtain ⟨S, v, d, b, y, m, k, n, j, kvs, e, sm, c, ds, ts, ws, rfl, hS, hV, hlen, hj, hw, kk⟩ := h
  obtain ⟨dx, q, hv, hW, hd, hk, av, ad⟩ := id hV
  refine ⟨_, QB.h (ZDm (ZDz (ZEm (qv 0) T.ZD T.ZX (ZFe T) hr T.ZZ .nil ZEa (ZDh (qcS (ZRh T) hr.m T.ZCt T.ZB2.kp T.ZCq (ZDh (ZEG K rfl (qv 0)) (ZDh (qv 1) ZDi))) ZDi)))), ?_⟩
  walk_at "s"
  walk_at "w"
  refine ZEF hv ZFY ?_
  walk_at "w"
  refine ⟨q, b, y, m, j, rfl, SqT.of hW.1, hj, fun u H1 n1 f1 S1 => ?_⟩
  walk_at "w"
  exact ⟨S, v, d, u, b, y, m, k, n, _, _, _, kvs, e, sm, c, ds, ts, ws, rfl, hS.same S1, hV.same S1, hlen, ⟨f1, hw⟩, kk.at S1⟩
theorem ZMt : ZDs ["self"] ["self"] (ZDl ZHo) := ZD8
theorem ZMu (T : Txt K mg a) : ZDw P w K mg base CX0 6 a.Yc a.Yr ["self"] (ZTv a) := by
 refine T.ZBx.ok ZMt (by walk_at "l") (fun cdv A outer s H vs Q E hr h => ?_)
 ·obtain ⟨S, v, d, b, y, m, k, n, kvs, e, sm, c, ds, ts, ws, rfl, hS, hV, hlen, hw, kk⟩ := h
  obtain ⟨dx, q, hv, hW, hd, hk, av, ad⟩ := id hV
  refine ⟨_, QB.h (ZDm (ZDz (ZEm (qv 0) T.ZD T.ZX (ZFe T) hr T.ZZ .nil ZEa (ZDh (qcS (ZOb T) hr.m T.ZCZ T.ZA8.kp T.ZCX (ZDh (ZEG K rfl (qv 0)) ZDi)) ZDi)))), ?_⟩
  walk_at "s"
  walk_at "w"
  refine ZEF hv ZFY ?_
  walk_at "w"
  refine ⟨q, b, y, m, rfl, SqT.of hW.1, fun u H1 n1 f1 S1 => ?_⟩
  walk_at "w"
  exact ⟨S, v, d, u, b, y, m, k, n, _, _, _, kvs, e, sm, c, ds, ts, ws, rfl, hS.same S1, hV.same S1, hlen, ⟨f1, hw⟩, kk.at S1⟩
theorem ZK0 : ZDs ["self"] ["self"] (ZDl ZGq) := ZD8
theorem ZK1 (T : Txt K mg a) : ZDw P w K mg base CX0 6 a.YB a.YD ["self"] (ZPr a) := by
 refine T.ZBK.ok ZK0 (by walk_at "l") (fun cdv A outer s H vs Q E hr h => ?_)
 ·obtain ⟨S, v, d, b, y, m, k, n, kvs, e, sm, c, ds, ts, ws, rfl, hS, hV, hlen, h2, hw, kk⟩ := h
  obtain ⟨dx, q, hv, hW, hd, hk, av, ad⟩ := id hV
  refine ⟨_, QB.h (ZDm (ZDz (ZEm (qv 0) T.ZD T.ZX (ZFe T) hr T.ZZ .nil ZEa (ZDh (qcS (ZNH T) hr.m T.ZB7 T.ZAo.kp T.ZCM (ZDh (ZEG K rfl (qv 0)) ZDi)) ZDi)))), ?_⟩
  walk_at "s"
  walk_at "w"
  refine ZEF hv ZFY ?_
  walk_at "w"
  refine ⟨q, b, y, m, rfl, SqT.of hW.1, h2, fun u H1 n1 f1 S1 => ?_⟩
  walk_at "w"
  exact ⟨S, v, d, u, b, y, m, k, n, _, _, _, kvs, e, sm, c, ds, ts, ws, rfl, hS.same S1, hV.same S1, hlen, ⟨f1, hw⟩, kk.at S1⟩
theorem ZKb : ZDs ["self", "n"] ["self", "n"] (ZDl ZGe) := ZD8
theorem ZKc (T : Txt K mg a) : ZDw P w K mg base CX0 6 a.Zt a.Zu ["self", "n"] (ZTw a) := by
 refine T.ZAv.ok ZKb (by walk_at "l") (fun cdv A outer s H vs Q E hr h => ?_)
 ·obtain ⟨S, v, d, b, y, m, k, n, j, kvs, e, sm, c, ds, ts, ws, rfl, hS, hV, hlen, hw, kk⟩ := h
  obtain ⟨dx, q, hv, hW, hd, hk, av, ad⟩ := id hV
  refine ⟨_, QB.h (ZDm (ZDz (ZEm (qv 0) T.ZD T.ZX (ZFe T) hr T.ZZ .nil ZEa (ZDh (qcS (ZKY T) hr.m T.ZA1 T.Yu.kp T.ZA0 (ZDh (ZEG K rfl (qv 0)) (ZDh (qv 1) ZDi))) ZDi)))), ?_⟩
  walk_at "s"
  walk_at "w"
  refine ZEF hv ZFY ?_
  walk_at "w"
  refine ⟨q, b, y, m, j, rfl, SqT.of hW.1, fun u H1 n1 f1 S1 => ?_⟩
  walk_at "w"
  exact ⟨S, v, d, u, b, y, m, k, n, _, _, _, kvs, e, sm, c, ds, ts, ws, rfl, hS.same S1, hV.same S1, hlen, ⟨f1, hw⟩, kk.at S1⟩
end
def BP (cv : PL) : Prop := ∀ p ∈ cv, Bn 200 p.1 ∧ Bn 200 p.2
theorem bn1 : Bn 200 1 := by unfold Bn; decide
section
variable {P : Program} {w : World} {K : W.Frag} {mg : Str → Option Value} {base : Heap} {a : Ad}
def ZVW (K : W.Frag) : Sp := fun vs H Q _ => ∃ (t : Addr) (cv : PL) (b e : Int), vs = [.ref t, .int b, .int e] ∧ PrT H t cv ∧ cv.length ≤ 1000 ∧
 ∀ (u : Addr) (H' : Hp), PrT H' u (inCol cv b e) → ZDn H H' → Q (.ref u) H'
theorem ZOf : ZDs ["curve", "begin", "end"] ["curve", "begin", "end"] (ZDl ZHZ) := ZD8
theorem ZKd (T : Txt K mg a) : ZDw P w K mg base CX0 1 a.JS a.J6 ["curve", "begin", "end"] (ZVW K) := by
 refine T.Jt.ok ZOf (by walk_at "l") (fun cdv A outer s H vs Q E hr h => ?_)
 ·obtain ⟨t, cv, b, e, rfl, ⟨us, hT0, hP⟩, hlen, k⟩ := h
  have hT : SqT K H t us := SqT.of hT0
  refine ⟨_, QB.h (ZDm (ZD1 (ZE1 (ZFT K rfl) rfl T.ZO ZFR (ZDh (ZFs (N := ["curve", "begin", "end"]) (sc := ZDl ZHZ) (own := ["t", "h"]) (caps := ["begin", "end"]) (ks := [1, 2]) rfl rfl rfl ⟨rfl, by decide +kernel, by decide +kernel, by decide +kernel, by decide +kernel, rfl, by decide +kernel⟩ (ZHE K rfl (qv 0)) (fun _ _ _ _ _ => ZEb (n := 2) K rfl rfl (ZDq (ZEc (i := 0) (show List.Nodup (α := Str) ["t", "h", "begin", "end"] from by decide +kernel) rfl (by walk_at "o") (.inr rfl)) (ZDq (ZEc (i := 1) (show List.Nodup (α := Str) ["t", "h", "begin", "end"] from by decide +kernel) rfl (by walk_at "o") (.inr rfl)) ZEQ))) (fun _ _ _ _ _ => ZHD (ZHC ZGh ZF0 (qv 2) (qv 0) (qv 3))) (fun _ _ _ _ _ => ZEA (ZDh (qv 0) (ZDh (qv 1) ZDi)))) ZDi)))), ?_⟩
  walk_at "s"
  walk_at "w"
  intro l hl
  refine ZEw cv.length (fun i σ' H' => (∃ o1 o2, σ' = [o1, o2, some (.int b), some (.int e)]) ∧ ZDn H H' ∧ ∃ vs, H' l = some (.lst vs) ∧ ZDt H' vs (inCol (cv.take i) b e)) ?_ ?_ ?_
  ·exact ⟨⟨none, none, rfl⟩, ZDn.new hl, [], ZDu, .nil⟩
  ·rintro σ H' ⟨_, s, vs, f, hPc⟩
   refine ⟨⟨_, s.seqT hT, by rw [hP.length]; exact Nat.le_refl _⟩, ?_⟩
   walk_at "w"
   refine ZFr (SqL.of f) fun u H4 n4 f4 S4 => ?_
   rw [List.take_length] at hPc
   exact k u H4 ⟨vs, f4, hPc.same S4⟩ (s.trans S4)
  ·rintro i σ H' hi ⟨⟨o1, o2, rfl⟩, s, vs, f, hPc⟩
   have hi2 : i < us.length := by rw [hP.length]; exact hi
   refine ⟨⟨_, _, s.seqT hT, List.getElem?_eq_getElem hi2⟩, ?_⟩
   rintro u H'' ⟨rfl, hu'⟩
   have hu' := hu' _ (s.seqT hT)
   obtain ⟨c, p, rfl, hp, hc⟩ := (hP.same s).at hu'
   have e3 : cv.take (i + 1) = cv.take i ++ [p] := by
    rw [List.take_succ, hp]
    rfl
   have e4 : inCol (cv.take (i + 1)) b e = inCol (cv.take i) b e ++ (if (decide (b ≤ p.1) && decide (p.1 < e)) = true then [p] else []) := by
    rw [e3, inCol, List.filter_append]
    congr 1
    simp only [List.filter_cons, List.filter_nil]
   walk_at "w"
   refine ZEP (fun h1 => ?_) (fun h1 => ?_)
   ·walk_at "w"
    refine ZEP (fun h2 => ?_) (fun h2 => ?_)
    ·walk_at "w"
     refine ZDx (by show 2 ≤ sizeLine; decide) fun t4 H4 n4 f4 S4 => ?_
     have f34 := S4 _ _ f
     refine ⟨vs, f34, ?_, ⟨_, _, rfl⟩, ?_, ?_⟩
     ·have e := hPc.length
      rw [e]
      refine Nat.lt_of_le_of_lt (List.length_filter_le _ _) ?_
      rw [List.length_take]
      exact Nat.lt_of_le_of_lt (Nat.min_le_left _ _) (Nat.lt_of_lt_of_le (Nat.lt_of_lt_of_le hi hlen) (by decide))
     ·exact (s.trans S4).kpN hl Kp.upd
     ·refine ⟨_, ZDu, ?_⟩
      rw [e4, decide_eq_true h1, decide_eq_true h2, Bool.and_self, if_pos rfl]
      exact ZDt.kpL Kp.upd f34 ((hPc.same S4).snoc f4)
    ·refine ⟨⟨_, _, rfl⟩, s, vs, f, ?_⟩
     rw [e4, decide_eq_false h2, Bool.and_false, if_neg (by decide), List.append_nil]
     exact hPc
   ·walk_at "w"
    refine ZE0 ?_
    refine ⟨⟨_, _, rfl⟩, s, vs, f, ?_⟩
    rw [e4, decide_eq_false h1, Bool.false_and, if_neg (by decide), List.append_nil]
    exact hPc
def Hts (H : Hp) (p : Addr) (low tall rows : Int) : Prop := H p = some (.tup [.int low, .int tall, .int rows]) ∧ Bn 200 low ∧ 0 < tall ∧ Bn 200 tall ∧ 0 ≤ rows ∧ rows ≤ 1000
theorem Hts.same {H H' : Hp} {p : Addr} {low tall rows : Int} (h : Hts H p low tall rows) (s : ZDn H H') : Hts H' p low tall rows := ⟨s _ _ h.1, h.2⟩
def ZTx (K : W.Frag) : Sp := fun vs H Q _ => ∃ (x d : Int) (p : Addr) (low tall rows : Int), vs = [.int x, .int d, .ref p] ∧ Hts H p low tall rows ∧ 0 < d ∧ Bn 201 d ∧ Q (.int (fl low tall (x, d))) H
theorem ZHc : ZDs ["height", "parts", "heights", "low", "tall", "rows"] ["height", "parts", "heights"] (ZDl ZJt) := ZD8
theorem ZLR (T : Txt K mg a) : ZDw P w K mg base CX0 1 a.ZAK a.ZAV ["height", "parts", "heights"] (ZTx K) := by
 refine T.ZAN.ok ZHc (by walk_at "l") (fun cdv A outer s H vs Q E hr h => ?_)
 ·obtain ⟨x, d, p, low, tall, rows, rfl, ⟨hp, hb1, ht, hb2, _⟩, hd, hbd, q⟩ := h
  refine ⟨_, QB.h (ZDj (ZEy (qv 2) (ZEb (n := 3) K rfl rfl (ZDq (qgN (i := 3) ZHc.nd) (ZDq (qgN (i := 4) ZHc.nd) (ZDq (qgN (i := 5) ZHc.nd) ZEQ))))) (ZDm (ZD1 (ZDr ZFf (ZDr ZE6 (qv 0) (ZDr ZEE (qv 3) (qv 1))) (ZDr ZEE (qv 4) (qv 1)))))), ?_⟩
  walk_at "s"
  walk_at "w"
  refine ZGo (ZGn hb1 hbd (by decide)) ?_
  walk_at "w"
  refine ZGo (ZGn hb2 hbd (by decide)) ?_
  refine ZGo ((hb2.mul hbd).divB (Int.mul_pos ht hd) (by decide)) ?_
  exact q
def ZTy (K : W.Frag) : Sp := fun vs H Q _ => ∃ (c1 c2 : Addr) (u v : Int × Int) (t : Int) (p : Addr) (low tall rows : Int), vs = [.ref c1, .ref c2, .int t, .ref p] ∧ H c1 = some (.tup [.int u.1, .int u.2]) ∧ H c2 = some (.tup [.int v.1, .int v.2]) ∧
 Hts H p low tall rows ∧ u.1 < v.1 ∧ Bn 200 u.1 ∧ Bn 200 u.2 ∧ Bn 200 v.1 ∧ Bn 200 v.2 ∧ Bn 200 t ∧ Q (.int (fl low tall (frP u v t))) H
theorem ZLS : ZDs ["one", "other", "t", "heights", "parts"] ["one", "other", "t", "heights"] (ZDl ZJs) := ZD8
theorem ZLT (T : Txt K mg a) : ZDw P w K mg base CX0 2 a.ZAd a.ZAc ["one", "other", "t", "heights"] (ZTy K) := by
 refine T.ZAa.ok ZLS (by walk_at "l") (fun cdv A outer s H vs Q E hr h => ?_)
 ·obtain ⟨c1, c2, u, v, t, p, low, tall, rows, rfl, h1, h2, hh, hlt, b1, b2, b3, b4, b5, q⟩ := h
  refine ⟨_, QB.h (ZDj (qsS (i := 4) ZLS.nd (ZDr ZE6 (ZD2 (ZD5 K rfl) (qv 1) ZDk) (ZD2 (ZD5 K rfl) (qv 0) ZDk))) (ZDm (ZD1 (qcS (ZLR T) hr T.ZBd T.ZAN.kp T.ZBR (ZDh (ZDr ZEN (ZDr ZEE (ZD2 (ZD5 K rfl) (qv 0) ZDk) (qv 4)) (ZDr ZEE (ZDr ZE6 (ZD2 (ZD5 K rfl) (qv 1) ZDk) (ZD2 (ZD5 K rfl) (qv 0) ZDk)) (ZDr ZE6 (qv 2) (ZD2 (ZD5 K rfl) (qv 0) ZDk)))) (ZDh (qv 4) (ZDh (qv 3) ZDi))))))), ?_⟩
  walk_at "s"
  walk_at "w"
  refine ZGo (ZGn b2 (b3.sub b1) (by decide)) ?_
  walk_at "w"
  refine ZGo (ZGn (b4.sub b2) (b5.sub b1) (by decide)) ?_
  walk_at "w"
  exact ⟨_, _, p, low, tall, rows, rfl, hh, by omega, b3.sub b1, q⟩
theorem ZFv {H H' : Hp} {l q : Addr} {xs ys : List V} (k : Kp l H H') (hl : H l = some (.lst xs)) (h : H q = some (.tup ys)) : H' q = some (.tup ys) := k _ _ h (fun z => by subst z; rw [hl] at h; cases h)
def ZVX (K : W.Frag) : Sp := fun vs H Q _ => ∃ (t u p : Addr) (cv : PL) (x z low tall rows : Int), vs = [.ref t, .ref u, .ref p] ∧ PrT H t cv ∧ H u = some (.tup [.int x, .int z]) ∧ Hts H p low tall rows ∧ Asc cv ∧ BP cv ∧ cv.length ≤ 100 ∧ Bn 200 x ∧ Bn 200 z ∧
 ∀ (l : Addr) (H' : Hp), H l = none → H' l = some (.lst (((ZE4 cv x z).map (fl low tall)).map V.int)) → ZDn H H' → Q (.ref l) H'
theorem ZOg {x y : Int} {n : Nat} (h : Bn n x) (g : Bn n y) : Bn n (if y > x then y else x) := by split; exact g; exact h
theorem ZOh {x y : Int} {n : Nat} (h : Bn n x) (g : Bn n y) : Bn n (if y < x then y else x) := by split; exact g; exact h
theorem ZLU {cv : PL} {b e : Int} {p : Int × Int} (h : p ∈ inCol cv b e) : p ∈ cv := (List.mem_filter.mp h).1
theorem ZFa : ZDs ["samples", "times", "heights", "first", "behind", "met", "one", "other"] ["samples", "times", "heights"] (ZDl ZG0) := ZD8
theorem ZNJ (T : Txt K mg a) : ZDw P w K mg base CX0 3 a.JD a.Y3 ["samples", "times", "heights"] (ZVX K) := by
 refine T.ZAq.ok ZFa (by walk_at "l") (fun cdv A outer s H vs Q E hr h => ?_)
 ·obtain ⟨t, u, p, cv, x, z, low, tall, rows, rfl, hT, hu, hh, hasc, hbp, hlen, bx, bz, k⟩ := h
  refine ⟨_, QB.h (ZDj (ZEy (qv 1) (ZEb (n := 2) K rfl rfl (ZDq (qgN (i := 3) ZFa.nd) (ZDq (qgN (i := 4) ZFa.nd) ZEQ)))) (ZDj (ZH3 (N := ["samples", "times", "heights", "first", "behind", "met", "one", "other"]) (sc := ZDl ZG0) (own := ["t", "h"]) (caps := ["heights"]) (ks := [2]) (i := 5) rfl rfl rfl ⟨rfl, by decide +kernel, by decide +kernel, by decide +kernel, by decide +kernel, rfl, by decide +kernel⟩ ZFa.nd rfl (by walk_at "o") (ZHE K rfl (qcS (ZKd T) hr.m T.ZA6 T.Jt.kp T.ZBD (ZDh (qv 0) (ZDh (qv 3) (ZDh (qv 4) ZDi))))) (fun _ _ _ _ _ => ZEb (n := 2) K rfl rfl (ZDq (ZEc (i := 0) (show List.Nodup (α := Str) ["t", "h", "heights"] from by decide +kernel) rfl (by walk_at "o") (.inr rfl)) (ZDq (ZEc (i := 1) (show List.Nodup (α := Str) ["t", "h", "heights"] from by decide +kernel) rfl (by walk_at "o") (.inr rfl)) ZEQ))) (fun _ _ _ _ _ => ZFS) (fun _ _ _ _ _ => qcS (ZLR T) hr.m T.ZBd T.ZAN.kp T.ZBR (ZDh (qv 1) (ZDh ZDk (ZDh (qv 2) ZDi))))) (ZDj (ZE9 PassesOwn.never rfl (ZPR K rfl rfl T.ZBQ (ZDh (qv 0) (ZDh (ZJe (ZNW K rfl) (qv 0) (ZKm ZDk) ZKl) ZDi))) (ZEb (n := 2) K rfl rfl (ZDq (qgN (i := 6) ZFa.nd) (ZDq (qgN (i := 7) ZFa.nd) ZEQ))) (ZDm (ZEi (QW.pt (ZHz (ZD3 (ZF0) (ZD2 (ZD5 K rfl) (qv 6) ZDk) (qv 4) (ZEB _)) (ZG5 (ZD3 (ZF0) (qv 3) (ZD2 (ZD5 K rfl) (qv 7) ZDk) (ZEB _))))) (ZDj (ZDz (ZGw PySem.F.plainAttrs_list PySem.F.slot_list_append PySem.F.type_list_append ZE2 (qv 5) (ZDh (qcS (ZLT T) hr T.ZBe T.ZAa.kp T.ZBU (ZDh (qv 6) (ZDh (qv 7) (ZDh (ZEJ (ZKH rfl) rfl T.YT ZHu (ZDh (qv 3) (ZDh (ZD2 (ZD5 K rfl) (qv 6) ZDk) ZDi))) (ZDh (qv 2) ZDi))))) ZDi))) (ZDm (ZDz (ZGw PySem.F.plainAttrs_list PySem.F.slot_list_append PySem.F.type_list_append ZE2 (qv 5) (ZDh (qcS (ZLT T) hr T.ZBe T.ZAa.kp T.ZBU (ZDh (qv 6) (ZDh (qv 7) (ZDh (ZEJ (ZKI rfl) rfl T.YW ZHv (ZDh (qv 4) (ZDh (ZD2 (ZD5 K rfl) (qv 7) ZDk) ZDi))) (ZDh (qv 2) ZDi))))) ZDi))))) ZEZ))) (ZDm (ZD1 (qv 5)))))), ?_⟩
  walk_at "s"
  walk_at "w"
  refine ⟨t, cv, x, z, rfl, hT, by omega, fun w1 H1 hw S1 => ?_⟩
  obtain ⟨us1, g1, pw⟩ := id hw
  have hcl : (inCol cv x z).length ≤ 100 := Nat.le_trans (List.length_filter_le _ _) hlen
  walk_at "w"
  intro l n1
  have nl : H l = none := S1.free n1
  refine ZEw (inCol cv x z).length (fun i σ' H' => (∃ o1 o2, σ' = [o1, o2, some (.ref p)]) ∧ ZDn H1 H' ∧ H' l = some (.lst (((((inCol cv x z).take i).map (fun q => (q.2, (1 : Int)))).map (fl low tall)).map V.int))) ?_ ?_ ?_
  ·exact ⟨⟨none, none, rfl⟩, ZDn.new n1, ZDu⟩
  ·rintro σ H2 ⟨_, S2, f2⟩
   refine ⟨⟨_, SqT.of (S2 _ _ g1), by rw [pw.length]; exact Nat.le_refl _⟩, ?_⟩
   rw [List.take_length] at f2
   have S02 := S1.trans S2
   walk_at "w"
   refine PrT.sl (hT.same S02) fun w3 H3 h3 S3 => ?_
   obtain ⟨us, gT, pT⟩ := hT.same (S02.trans S3)
   obtain ⟨us3, g3, p3⟩ := id h3
   have ec : ZIk cv (some 1) none = cv.drop 1 := by
    unfold ZIk
    rw [show HT.sIx cv.length 0 (some 1) = min 1 cv.length from HT.sIx_nat cv.length 0 1, show HT.sIx cv.length cv.length none = cv.length from rfl]
    by_cases hz : cv.length = 0
    ·have : cv = [] := List.length_eq_zero_iff.mp hz
     subst this
     rfl
    ·rw [show min 1 cv.length = 1 by omega]
     exact List.take_of_length_le (by simp)
   rw [ec] at p3
   walk_at "w"
   refine ZPS (SqB.ofT gT) (SqB.ofT g3) ?_
   have f3 := S3 _ _ f2
   refine ZNY (xs := us) (ys := us3) (b1 := false) (b2 := false) (l1 := t) (l2 := w3) (cv.length - 1) (by rw [pT.length, p3.length, List.length_drop]; omega) (fun i σ H' => Kp l H3 H' ∧ (∃ v6 v7, σ = [some (.ref t), some (.ref u), some (.ref p), some (.int x), some (.int z), some (.ref l), v6, v7]) ∧ ∃ ns : List Int, H' l = some (.lst (ns.map V.int)) ∧
    ns = (((inCol cv x z).map (fun q => (q.2, (1 : Int)))) ++ ((cv.zip (cv.drop 1)).take i).flatMap (ZEI x z)).map (fl low tall) ∧ ns.length ≤ 100 + 2 * i) ?_ ?_ ?_ ?_
   ·refine ⟨Kp.same (ZDn.refl _), ⟨_, _, rfl⟩, _, f3, ?_, ?_⟩
    ·rw [List.take_zero, List.flatMap_nil, List.append_nil]
    ·rw [List.length_map, List.length_map]; omega
   ·rintro i σ H4 ⟨K4, _, _⟩
    exact ⟨SqB.ofT (ZFv K4 f3 gT), SqB.ofT (ZFv K4 f3 g3)⟩
   ·rintro i σ H4 T H5 a b hi ⟨K4, ⟨v6, v7, rfl⟩, ns, f4, ens, hns⟩ ha hb nT fT S5
    obtain ⟨c1, q1, rfl, hq1, hc1⟩ := pT.at ha
    obtain ⟨c2, q2, rfl, hq2, hc2⟩ := p3.at hb
    have hlt := ZIq hasc hq1 hq2
    have hz := ZKq hq1 hq2
    have K5 : Kp l H3 H5 := K4.then S5
    have f5 := S5 _ _ f4
    have g1' := ZFv K5 f3 hc1
    have g2' := ZFv K5 f3 hc2
    have hh5 : Hts H5 p low tall rows := ⟨ZFv K5 f3 ((hh.same (S02.trans S3)).1), hh.2⟩
    have hb1 := hbp q1 (List.mem_of_getElem? hq1)
    have hb2 := hbp q2 (List.mem_of_mem_drop (List.mem_of_getElem? hq2))
    have e3 : (cv.zip (cv.drop 1)).take (i + 1) = (cv.zip (cv.drop 1)).take i ++ [(q1, q2)] := by rw [List.take_succ, hz]; rfl
    have hnl : ∀ k : Nat, k ≤ 400 → k < sizeLine := fun k hk => Nat.lt_of_le_of_lt hk (by decide)
    have e4 : (((inCol cv x z).map (fun q => (q.2, (1 : Int)))) ++ ((cv.zip (cv.drop 1)).take (i + 1)).flatMap (ZEI x z)).map (fl low tall) = ns ++ (ZEI x z (q1, q2)).map (fl low tall) := by
     rw [ens, e3, List.flatMap_append, ← List.append_assoc, List.map_append]
     simp only [List.flatMap_cons, List.flatMap_nil, List.append_nil]
    walk_at "w"
    refine ZEP (fun h1 => ?_) (fun h1 => ?_)
    ·walk_at "w"
     refine ZEP (fun h2 => ?_) (fun h2 => ?_)
     ·have e5 : (ZEI x z (q1, q2)).map (fl low tall) = [fl low tall (frP q1 q2 (mx x q1.1)), fl low tall (frP q1 q2 (mn z q2.1))] := by
       unfold ZEI
       rw [if_pos ⟨h1, h2⟩]
       rfl
      walk_at "w"
      refine ⟨tyL f5, ?_⟩
      walk_at "w"
      refine ⟨c1, c2, q1, q2, _, p, low, tall, rows, rfl, g1', g2', hh5, hlt, hb1.1, hb1.2, hb2.1, hb2.2, ZOg bx hb1.1, ?_⟩
      walk_at "w"
      refine ZFA f5 (by rw [List.length_map]; exact hnl _ (by omega)) fun H6 f6 K6 => ?_
      have g1'' := ZFv K6 f5 g1'
      have g2'' := ZFv K6 f5 g2'
      walk_at "w"
      refine ⟨tyL f6, ?_⟩
      walk_at "w"
      refine ⟨c1, c2, q1, q2, _, p, low, tall, rows, rfl, g1'', g2'', ⟨ZFv K6 f5 hh5.1, hh5.2⟩, hlt, hb1.1, hb1.2, hb2.1, hb2.2, ZOh bz hb2.1, ?_⟩
      walk_at "w"
      refine ZFA f6 (by rw [List.length_append, List.length_map]; exact hnl _ (by simp only [List.length_cons, List.length_nil]; omega)) fun H7 f7 K7 => ?_
      walk_at "w"
      refine ⟨(K5.trans K6).trans K7, ⟨_, _, rfl⟩, ns ++ [fl low tall (frP q1 q2 (mx x q1.1)), fl low tall (frP q1 q2 (mn z q2.1))], ?_, ?_, ?_⟩
      ·rw [f7, List.map_append, List.append_assoc]
       rfl
      ·rw [e4, e5]
      ·rw [List.length_append]
       show ns.length + 2 ≤ _
       omega
     ·have e5 : (ZEI x z (q1, q2)).map (fl low tall) = [] := by
       unfold ZEI
       rw [if_neg (fun g => h2 g.2)]
       rfl
      walk_at "w"
      exact ⟨K5, ⟨_, _, rfl⟩, ns, f5, by rw [e4, e5, List.append_nil], by omega⟩
    ·have e5 : (ZEI x z (q1, q2)).map (fl low tall) = [] := by
      unfold ZEI
      rw [if_neg (fun g => h1 g.1)]
      rfl
     walk_at "w"
     refine ZE0 ?_
     walk_at "w"
     exact ⟨K5, ⟨_, _, rfl⟩, ns, f5, by rw [e4, e5, List.append_nil], by omega⟩
   ·rintro σ H4 ⟨K4, ⟨v6, v7, rfl⟩, ns, f4, ens, hns⟩
    walk_at "w"
    refine k l H4 nl ?_ ((S02.trans S3).kpN nl K4)
    rw [f4, ens, List.take_of_length_le (by rw [List.length_zip, List.length_drop]; omega)]
    rfl
  ·rintro i σ H2 hi ⟨⟨o1, o2, rfl⟩, S2, f2⟩
   have hi2 : i < us1.length := by rw [pw.length]; exact hi
   refine ⟨⟨_, _, SqT.of (S2 _ _ g1), List.getElem?_eq_getElem hi2⟩, ?_⟩
   rintro v H'' ⟨rfl, hv⟩
   have hv := hv _ (SqT.of (S2 _ _ g1))
   obtain ⟨c, q, rfl, hq, hc⟩ := (pw.same S2).at hv
   have e3 : (inCol cv x z).take (i + 1) = (inCol cv x z).take i ++ [q] := by rw [List.take_succ, hq]; rfl
   walk_at "w"
   refine ZFF ?_
   walk_at "w"
   refine ⟨_, _, p, low, tall, rows, rfl, hh.same (S1.trans S2), by decide, by unfold Bn; decide, ?_⟩
   refine ⟨_, f2, ?_, ⟨_, _, rfl⟩, S2.kpN n1 Kp.upd, ?_⟩
   ·rw [List.length_map, List.length_map, List.length_map, List.length_take]
    exact Nat.lt_of_le_of_lt (Nat.le_trans (Nat.min_le_right _ _) hcl) (by decide)
   ·rw [ZDu, e3, List.map_append, List.map_append, List.map_append]
    rfl
def ZV1 (K : W.Frag) : Sp := fun vs H Q _ => ∃ (t u p : Addr) (cv : PL) (x z low tall rows : Int), vs = [.ref t, .ref u, .ref p] ∧ PrT H t cv ∧ H u = some (.tup [.int x, .int z]) ∧ Hts H p low tall rows ∧ Asc cv ∧ BP cv ∧ cv.length ≤ 100 ∧ Bn 200 x ∧ Bn 200 z ∧
 ∀ (v : V) (o : Option (Int × Int)) (H' : Hp), ZFc H' v o → ZFV ((ZE4 cv x z).map (fl low tall)) rows o → ZDn H H' → Q v H'
theorem ZFw : ZDs ["samples", "times", "heights", "met", "least", "greatest"] ["samples", "times", "heights"] (ZDl ZGr) := ZD8
theorem ZK2 (T : Txt K mg a) : ZDw P w K mg base CX0 4 a.YC a.Z8 ["samples", "times", "heights"] (ZV1 K) := by
 refine T.JQ.ok ZFw (by walk_at "l") (fun cdv A outer s H vs Q E hr h => ?_)
 ·obtain ⟨t, u, p, cv, x, z, low, tall, rows, rfl, hT, hu, hh, hasc, hbp, hlen, bx, bz, k⟩ := h
  refine ⟨_, QB.h (ZDj (qsS (i := 3) ZFw.nd (qcS (ZNJ T) hr T.ZCA T.ZAq.kp T.ZCH (ZDh (qv 0) (ZDh (qv 1) (ZDh (qv 2) ZDi))))) (ZDj (ZEi (ZD3 (ZGG) (ZEJ (ZH1 K rfl) rfl T.YX ZHt (ZDh (qv 3) ZDi)) ZDk (ZEB _)) (ZDm (ZD1 ZE8)) ZEZ) (ZDj (qsS (i := 4) ZFw.nd (ZEJ (ZKH rfl) rfl T.YT ZHu (ZDh (ZEJ (ZTO K rfl rfl) rfl T.YW ZHv (ZDh (qv 3) ZDi)) (ZDh ZDk ZDi)))) (ZDj (qsS (i := 5) ZFw.nd (ZEJ (ZKI rfl) rfl T.YW ZHv (ZDh (ZEJ (ZTP K rfl rfl) rfl T.YT ZHu (ZDh (qv 3) ZDi)) (ZDh (ZDr ZE6 (ZD2 (ZD5 K rfl) (qv 2) ZDk) ZDk) ZDi)))) (ZDm (ZD1 (ZGZ (ZD3 (ZGh) (qv 4) (qv 5) (ZEB _)) (ZEA (ZDh (qv 4) (ZDh (qv 5) ZDi))) ZE8))))))), ?_⟩
  walk_at "s"
  walk_at "w"
  refine ⟨t, u, p, cv, x, z, low, tall, rows, rfl, hT, hu, hh, hasc, hbp, hlen, bx, bz, fun l H1 n1 f1 S1 => ?_⟩
  have g1 := (hh.same S1).1
  generalize hfs : (ZE4 cv x z).map (fl low tall) = fs at f1 k
  walk_at "w"
  refine ZEP (fun h => ?_) (fun h => ?_)
  ·walk_at "w"
   have : fs = [] := List.length_eq_zero_iff.mp (by have h := V.int.inj h; rw [List.length_map] at h; omega)
   exact k _ _ H1 .non (.inl ⟨this, rfl⟩) S1
  ·have hne : fs ≠ [] := fun z => h (by rw [z]; rfl)
   walk_at "w"
   refine ZTQ (SqL.of f1) hne fun m hm1 hm2 => ?_
   walk_at "w"
   refine ZTR (SqL.of f1) hne fun M hM1 hM2 => ?_
   walk_at "w"
   have e1 : (if (0 : Int) > m then 0 else m) = max m 0 := by split <;> omega
   have e2 : (if rows - 1 < M then rows - 1 else M) = min M (rows - 1) := by split <;> omega
   rw [e1, e2]
   refine ZEP (fun h2 => ?_) (fun h2 => ?_)
   ·walk_at "w"
    refine ZDx (by show 2 ≤ sizeLine; decide) fun c H2 n2 f2 S2 => ?_
    refine k _ (some (max m 0, min M (rows - 1))) H2 (.pr f2) (.inr ⟨m, M, hm1, hm2, hM1, hM2, ?_⟩) (S1.trans S2)
    rw [if_pos h2]
   ·walk_at "w"
    refine k _ none H1 .non (.inr ⟨m, M, hm1, hm2, hM1, hM2, ?_⟩) S1
    rw [if_neg h2]
def Win (H : Hp) (q : Addr) (b y m : Int) : Prop := H q = some (.tup [.int b, .int y, .int m]) ∧ Bn 190 b ∧ 0 < y ∧ Bn 150 y ∧ 1 ≤ m ∧ m ≤ 100
theorem Win.same {H H' : Hp} {q : Addr} {b y m : Int} (h : Win H q b y m) (s : ZDn H H') : Win H' q b y m := ⟨s _ _ h.1, h.2⟩
theorem ZVY {k : Int} (h0 : 0 ≤ k) (h1 : k ≤ 100) : Bn 7 k := by unfold Bn; omega
theorem ZPs {b y k : Int} (h1 : Bn 190 b) (h2 : Bn 150 y) (h0 : 0 ≤ k) (h3 : k ≤ 100) : Bn 191 (b + k * y) := h1.add (((ZVY h0 h3).mul h2).mono (by decide))
def ZHU (cv : PL) (b y m low tall rows : Int) (os : List (Option (Int × Int))) : Prop := os.length = m.toNat ∧ ∀ (k : Nat) o, os[k]? = some o → ZFV ((ZE4 (inCol cv b (b + m * y)) (b + (k : Int) * y) (b + (k : Int) * y + y)).map (fl low tall)) rows o
theorem ZHU.unique {cv : PL} {b y m low tall rows : Int} {os os' : List (Option (Int × Int))} (h : ZHU cv b y m low tall rows os) (g : ZHU cv b y m low tall rows os') : os = os' := by
 refine List.ext_getElem? fun i => ?_
 by_cases hi : i < os.length
 ·have hj : i < os'.length := by rw [g.1, ← h.1]; exact hi
  rw [List.getElem?_eq_getElem hi, List.getElem?_eq_getElem hj]
  rw [(h.2 i _ (List.getElem?_eq_getElem hi)).unique (g.2 i _ (List.getElem?_eq_getElem hj))]
 ·rw [List.getElem?_eq_none (by omega), List.getElem?_eq_none (by rw [g.1, ← h.1]; omega)]
theorem Asc.inCol {cv : PL} {b e : Int} (h : Asc cv) : Asc (inCol cv b e) := List.Pairwise.filter _ h
theorem BP.inCol {cv : PL} {b e : Int} (h : BP cv) : BP (inCol cv b e) := fun p hp => h p (ZLU hp)
def ZVZ (K : W.Frag) : Sp := fun vs H Q _ => ∃ (t q p : Addr) (cv : PL) (b y m low tall rows : Int), vs = [.ref t, .ref q, .ref p] ∧ PrT H t cv ∧ Win H q b y m ∧ Hts H p low tall rows ∧ Asc cv ∧ BP cv ∧ cv.length ≤ 100 ∧
 ∀ (u : Addr) (vs : List V) (os : List (Option (Int × Int))) (H' : Hp), H' u = some (.tup vs) → ZEo H' vs os → ZHU cv b y m low tall rows os → ZDn H H' → Q (.ref u) H'
theorem ZGT : ZDs ["curve", "window", "heights", "begin", "wide", "many", "counting"] ["curve", "window", "heights"] (ZDl ZHa) := ZD8
theorem ZKe (T : Txt K mg a) : ZDw P w K mg base CX0 5 a.JZ a.Jw ["curve", "window", "heights"] (ZVZ K) := by
 refine T.Jy.ok ZGT (by walk_at "l") (fun cdv A outer s H vs Q E hr h => ?_)
 ·obtain ⟨t, q, p, cv, b, y, m, low, tall, rows, rfl, hT, ⟨hq, hb, hy, hby, hm1, hm2⟩, hh, hasc, hbp, hlen, k⟩ := h
  refine ⟨_, QB.h (ZDj (ZEy (qv 1) (ZEb (n := 3) K rfl rfl (ZDq (qgN (i := 3) ZGT.nd) (ZDq (qgN (i := 4) ZGT.nd) (ZDq (qgN (i := 5) ZGT.nd) ZEQ))))) (ZDj (qsS (i := 6) ZGT.nd (qcS (ZKd T) hr.m T.ZA6 T.Jt.kp T.ZBD (ZDh (qv 0) (ZDh (qv 3) (ZDh (ZDr ZEN (qv 3) (ZDr ZEE (qv 5) (qv 4))) ZDi))))) (ZDm (ZD1 (ZE1 (ZFT K rfl) rfl T.ZO ZFR (ZDh (ZFs (N := ["curve", "window", "heights", "begin", "wide", "many", "counting"]) (sc := ZDl ZHa) (own := ["times"]) (caps := ["counting", "heights"]) (ks := [6, 2]) rfl rfl rfl ⟨rfl, by decide +kernel, by decide +kernel, by decide +kernel, by decide +kernel, rfl, by decide +kernel⟩ (ZFH K rfl (qcS (ZF4 T) hr.m T.Zs T.ZT.kp T.Zj (ZDh (qv 1) ZDi))) (fun _ _ _ _ _ => ZEc (i := 0) (show List.Nodup (α := Str) ["times", "counting", "heights"] from by decide +kernel) rfl (by walk_at "o") (.inr rfl)) (fun _ _ _ _ _ => ZFS) (fun _ _ _ _ _ => qcS (ZK2 T) hr T.ZBE T.JQ.kp T.ZBL (ZDh (qv 1) (ZDh (qv 0) (ZDh (qv 2) ZDi))))) ZDi)))))), ?_⟩
  walk_at "s"
  walk_at "w"
  refine ⟨t, cv, _, _, rfl, hT, by omega, fun w1 H1 hw S1 => ?_⟩
  walk_at "w"
  refine ⟨q, b, y, m, rfl, S1 _ _ hq, by omega, by omega, fun l0 us0 H1' n1' f1' hP' S1' => ?_⟩
  have S01 := S1.trans S1'
  walk_at "w"
  intro l n1
  have nl : H l = none := S01.free n1
  refine ZEw m.toNat (fun i σ' H' => (∃ o, σ' = [o, some (.ref w1), some (.ref p)]) ∧ ZDn H1' H' ∧ ∃ vs os, H' l = some (.lst vs) ∧ ZEo H' vs os ∧ os.length = i ∧ ∀ (k : Nat) o, os[k]? = some o → ZFV ((ZE4 (inCol cv b (b + m * y)) (b + (k : Int) * y) (b + (k : Int) * y + y)).map (fl low tall)) rows o) ?_ ?_ ?_
  ·exact ⟨⟨none, rfl⟩, ZDn.new n1, [], [], ZDu, .nil, rfl, fun k o h => by simp at h⟩
  ·rintro σ H2 ⟨_, S2, vs, os, f2, hD, ho, hI⟩
   refine ⟨⟨_, SqL.of (S2 _ _ f1'), by rw [hP'.length, ZFl]; exact Nat.le_refl _⟩, ?_⟩
   walk_at "w"
   refine ZFr (SqL.of f2) fun u H4 n4 f4 S4 => ?_
   exact k u vs os H4 f4 (hD.same S4) ⟨ho, hI⟩ (S01.trans (S2.trans S4))
  ·rintro i σ H2 hi ⟨⟨o, rfl⟩, S2, vs, os, f2, hD, ho, hI⟩
   have hi2 : i < us0.length := by rw [hP'.length, ZFl]; exact hi
   refine ⟨⟨_, _, SqL.of (S2 _ _ f1'), List.getElem?_eq_getElem hi2⟩, ?_⟩
   rintro x H'' ⟨rfl, hx⟩
   have hx := hx _ (SqL.of (S2 _ _ f1'))
   obtain ⟨u, pr, rfl, hpr, f3⟩ := (hP'.same S2).at hx
   have hpr := ZHO hpr
   subst hpr
   have S02 := S01.trans S2
   walk_at "w"
   refine ZFF ?_
   walk_at "w"
   have hbx := ZPs hb hby (k := (i : Int)) (by omega) (by omega)
   refine ⟨w1, u, p, _, _, _, low, tall, rows, rfl, hw.same (S1'.trans S2), f3, hh.same S02, Asc.inCol hasc, BP.inCol hbp, Nat.le_trans (List.length_filter_le _ _) hlen, hbx.mono (by decide), (hbx.add (hby.mono (by decide))).mono (by decide), fun v o2 H5 hd5 hI5 S25 => ?_⟩
   have f5 := S25 _ _ f2
   refine ⟨vs, f5, ?_, ⟨_, rfl⟩, (S2.trans S25).kpN n1 Kp.upd, vs ++ [v], os ++ [o2], ZDu, ?_, by simp [ho], ?_⟩
   ·rw [hD.len, ho]
    exact Nat.lt_of_lt_of_le hi (Nat.le_trans (show m.toNat ≤ 1000 by omega) (by decide))
   ·exact ((hD.same S25).snoc hd5).mapP fun _ _ d => d.kpL Kp.upd f5
   ·intro k' o' h'
    rw [List.getElem?_append] at h'
    split at h'
    ·exact hI k' o' h'
    ·have : k' = i := by
      have := (List.getElem?_eq_some_iff.mp h').1
      simp at this
      omega
     subst this
     rw [ho, Nat.sub_self] at h'
     have : o2 = o' := by simpa using h'
     subst this
     exact hI5
end
theorem ZTz {cv ps : PL} {p : Int × Int} (hasc : Asc cv) (hnd : (ps.map (·.1)).Nodup) (hs : ∀ q ∈ ps, q ∈ cv) (hp : p ∈ cv) (q : Int × Int) : q ∈ ZEn ps p.1 p.2 ↔ q ∈ ps ∨ q = p := by
 obtain ⟨t, h⟩ := q
 rw [← ZFE (ZFU hnd), ZMK, ← ZFE hnd]
 by_cases e : t = p.1
 ·rw [if_pos e]
  constructor
  ·intro z
   refine .inr ?_
   rw [e, ← Option.some.inj z]
  ·rintro (z | z)
   ·have := ZKr hasc (hs _ ((ZFE hnd).mp z)) hp e
    rw [← this]
   ·rw [← z]
 ·rw [if_neg e]
  constructor
  ·exact .inl
  ·rintro (z | z)
   ·exact z
   ·rw [← z] at e
    exact absurd rfl e
theorem ZNg {cv : PL} (hasc : Asc cv) : ∀ (prs acc : PL), (acc.map (·.1)).Nodup → (∀ q ∈ acc, q ∈ cv) → (∀ q ∈ prs, q ∈ cv) → ∀ q, q ∈ prs.foldl (fun m p => ZEn m p.1 p.2) acc ↔ q ∈ acc ∨ q ∈ prs
 | [], acc, _, _, _, q => by simp
 | p :: prs, acc, hn, ha, hp, q => by
  have hpm := ZTz hasc hn ha (hp p List.mem_cons_self)
  rw [List.foldl_cons, ZNg hasc prs _ (ZFU hn) (fun z hz => by
   rcases (hpm z).mp hz with hz | rfl
   ·exact ha z hz
   ·exact hp z List.mem_cons_self) (fun z hz => hp z (List.mem_cons_of_mem _ hz)), hpm, List.mem_cons, or_assoc]
def ZGU (fs : List (Option (PL))) : PL := fs.flatMap fun o => o.getD []
theorem ZLV {fs : List (Option (PL))} {r : Int × Int} : r ∈ ZGU fs ↔ ∃ qs, some qs ∈ fs ∧ r ∈ qs := by
 unfold ZGU
 rw [List.mem_flatMap]
 constructor
 ·rintro ⟨o, ho, hr⟩
  cases o with
  | none => cases hr
  | some qs => exact ⟨qs, ho, hr⟩
 ·rintro ⟨qs, ho, hr⟩
  exact ⟨some qs, ho, hr⟩
section
variable {P : Program} {w : World} {K : W.Frag} {mg : Str → Option Value} {base : Heap} {a : Ad}
def ZRt (K : W.Frag) : Sp := fun vs H Q _ => ∃ (t : Addr) (us : List V) (fs : List (Option (PL))) (cv : PL), vs = [.ref t] ∧ H t = some (.tup us) ∧ ZEd H us fs ∧ fs.length ≤ 15 ∧ Asc cv ∧ (∀ qs, some qs ∈ fs → ∀ r ∈ qs, r ∈ cv) ∧
 ∀ (t' : Addr) (kp : PL) (H' : Hp), PrT H' t' kp → Asc kp → kp.length ≤ 100 → (∀ r, r ∈ kp ↔ ∃ qs, some qs ∈ fs ∧ r ∈ qs) → ZDn H H' → Q (.ref t') H'
theorem ZIY : ZDs ["fours", "samples", "four"] ["fours"] (ZDl ZIt) := ZD8
theorem ZOi (T : Txt K mg a) : ZDw P w K mg base CX0 2 a.JV a.JY ["fours"] (ZRt K) := by
 refine T.ZA5.ok ZIY (by walk_at "l") (fun cdv A outer s H vs Q E hr h => ?_)
 ·obtain ⟨t, us, fs, cv, rfl, hT, hF, hlen, hasc, hin, k⟩ := h
  have hul : us.length = fs.length := hF.len
  refine ⟨_, QB.h (ZDj (qsS (i := 1) ZIY.nd (ZFh ZDi)) (ZDj (ZE9 PassesOwn.never rfl (ZHE K rfl (qv 0)) (qgN (i := 2) ZIY.nd) (ZDm (ZEi (ZD3 (ZKj) (qv 2) ZE8 (ZEB _)) (ZDm (ZDz (ZGw PySem.F.plainAttrs_list PySem.F.slot_list_extend PySem.F.type_list_extend ZOF (qv 1) (ZDh (qv 2) ZDi)))) ZEZ))) (ZDm (ZD1 (qcS (ZNB T) hr T.ZCF T.ZAe.kp T.ZCN (ZDh (qv 1) ZDi)))))), ?_⟩
  walk_at "s"
  walk_at "w"
  refine ZDx (by show 0 ≤ sizeLine; decide) fun l H1 n1 f1 S1 => ?_
  have hT1 := S1 _ _ hT
  walk_at "w"
  refine ZHx (xs := us) (fun i σ H' => (∃ v2, σ = [some (.ref t), some (.ref l), v2]) ∧ ZDn H H' ∧ ∃ vs, H' l = some (.lst vs) ∧ ZDt H' vs (ZGU (fs.take i)) ∧ (ZGU (fs.take i)).length ≤ 4 * i) ?_ ?_ ?_ ?_
  ·exact ⟨⟨_, rfl⟩, S1, [], f1, .nil, Nat.zero_le _⟩
  ·rintro i σ H2 _ ⟨_, S2, _⟩
   exact SqT.of (S2 _ _ hT)
  ·rintro i xv σ H2 hx ⟨⟨v2, rfl⟩, S2, vs, f2, hP2, hl2⟩
   obtain ⟨o, ho, hd⟩ := (hF.same S2).at hx
   have hi : i < fs.length := by have := (List.getElem?_eq_some_iff.mp ho).1; exact this
   have e3 : ZGU (fs.take (i + 1)) = ZGU (fs.take i) ++ o.getD [] := by
    unfold ZGU
    rw [List.take_succ, ho, List.flatMap_append]
    simp
   walk_at "w"
   cases hd with
   | non =>
    refine ZIA (fun h => absurd rfl h) (fun _ => ?_)
    walk_at "w"
    refine ⟨⟨_, rfl⟩, S2, vs, f2, ?_, ?_⟩
    ·rw [e3]; simpa using hP2
    ·rw [e3]; simp; omega
   | @pr c qs hq hl4 =>
    obtain ⟨ws, gq, pq⟩ := hq
    refine ZIA (fun _ => ?_) (fun h => by cases h)
    walk_at "w"
    refine ⟨tyL f2, ?_⟩
    walk_at "w"
    refine ZOG f2 gq ?_ ?_ fun H3 f3 K3 => ?_
    ·intro j z
     cases pq with
     | nil => cases z
     | cons a t =>
      obtain ⟨c', e, _⟩ := a
      rw [List.head?_cons, e] at z
      cases z
    ·rw [hP2.length, pq.length, hl4]
     exact Nat.le_trans (show _ ≤ 1000 by omega) (by decide)
    walk_at "w"
    refine ⟨⟨_, rfl⟩, S2.kpN n1 K3, _, f3, ?_, ?_⟩
    ·rw [e3]
     exact (ZDt.kpL K3 f2 hP2).app (ZDt.kpL K3 f2 pq)
    ·rw [e3, List.length_append]
     show _ + qs.length ≤ _
     omega
  ·rintro σ H2 ⟨⟨v2, rfl⟩, S2, vs, f2, hP2, hl2⟩
   rw [hul, List.take_length] at hP2 hl2
   walk_at "w"
   refine ⟨true, l, vs, _, rfl, f2, hP2, by omega, fun t' kp H3 hT3 hC hlk S3 => ?_⟩
   refine k t' kp H3 hT3 hC.1 (by omega) (fun r => ?_) (S2.trans S3)
   have hm : ∀ q ∈ ZGU fs, q ∈ cv := fun q hq => by
    obtain ⟨qs, h1, h2⟩ := ZLV.mp hq
    exact hin qs h1 q h2
   rw [← ZLV]
   obtain ⟨t0, h0⟩ := r
   rw [hC.2, ZFE (ZKL _)]
   have := ZNg hasc (ZGU fs) [] List.nodup_nil (fun q hq => by cases hq) hm (t0, h0)
   rw [show ZFb (ZGU fs) = (ZGU fs).foldl (fun m p => ZEn m p.1 p.2) [] from rfl, this]
   simp
def ZPt (cv : PL) (x z : Int) (o : Option (PL)) : Prop := (o = none ∧ inCol cv x z = []) ∨ ∃ q0 q1 q2 q3, o = some [q0, q1, q2, q3] ∧ (∀ r ∈ [q0, q1, q2, q3], r ∈ inCol cv x z) ∧ ∀ p ∈ inCol cv x z, q0.1 ≤ p.1 ∧ p.1 ≤ q1.1 ∧ q2.2 ≤ p.2 ∧ p.2 ≤ q3.2
def ZG8 (cv : PL) (b y m : Int) (fs : List (Option (PL))) : Prop := fs.length = m.toNat ∧ ∀ (k : Nat) o, fs[k]? = some o → ZPt cv (b + (k : Int) * y) (b + (k : Int) * y + y) o
theorem ZG8.mem {cv : PL} {b y m : Int} {fs : List (Option (PL))} (h : ZG8 cv b y m fs) {qs : PL} (hq : some qs ∈ fs) : ∃ k : Nat, (k : Int) < m ∧ ∀ r ∈ qs, r ∈ cv ∧ b + (k : Int) * y ≤ r.1 ∧ r.1 < b + (k : Int) * y + y := by
 obtain ⟨k, hk, e⟩ := List.getElem_of_mem hq
 refine ⟨k, by rw [h.1] at hk; omega, fun r hr => ?_⟩
 rcases h.2 k _ (by rw [List.getElem?_eq_getElem hk, e]) with ⟨z, _⟩ | ⟨q0, q1, q2, q3, e4, h4, _⟩
 ·cases z
 ·obtain rfl := Option.some.inj e4
  exact ZDv.mp (h4 r hr)
theorem ZG8.kept {cv kp : PL} {b y m : Int} {fs : List (Option (PL))} (hy : 0 < y) (h : ZG8 cv b y m fs) (hm : ∀ r, r ∈ kp ↔ ∃ qs, some qs ∈ fs ∧ r ∈ qs) : L2.Kept cv kp b y m := by
 constructor
 ·intro p hp
  obtain ⟨qs, hq, hr⟩ := (hm p).mp hp
  obtain ⟨k, hk, hall⟩ := h.mem hq
  obtain ⟨g1, g2, g3⟩ := hall p hr
  have h1 : (0 : Int) ≤ (k : Int) * y := Int.mul_nonneg (by omega) (by omega)
  have h2 : ((k : Int) + 1) * y ≤ m * y := Int.mul_le_mul_of_nonneg_right (by omega) (by omega)
  rw [Int.add_mul, Int.one_mul] at h2
  exact ⟨g1, by omega, by omega⟩
 ·intro k hk0 hk1 p hp g1 g2
  obtain ⟨n, rfl⟩ : ∃ n : Nat, k = (n : Int) := ⟨k.toNat, by omega⟩
  have hn : n < fs.length := by rw [h.1]; omega
  have hpc : p ∈ inCol cv (b + (n : Int) * y) (b + (n : Int) * y + y) := ZDv.mpr ⟨hp, g1, g2⟩
  rcases h.2 n _ (List.getElem?_eq_getElem hn) with ⟨_, z⟩ | ⟨q0, q1, q2, q3, e4, h4, hle⟩
  ·rw [z] at hpc
   cases hpc
  ·obtain ⟨l0, l1, l2, l3⟩ := hle p hpc
   have mem : ∀ r ∈ [q0, q1, q2, q3], r ∈ kp := fun r hr => (hm r).mpr ⟨_, by rw [← e4]; exact List.getElem_mem hn, hr⟩
   have c0 := (ZDv.mp (h4 q0 (by simp))).2
   have c1 := (ZDv.mp (h4 q1 (by simp))).2
   have c2 := (ZDv.mp (h4 q2 (by simp))).2
   have c3 := (ZDv.mp (h4 q3 (by simp))).2
   exact ⟨⟨q0, mem _ (by simp), c0.1, l0⟩, ⟨q1, mem _ (by simp), l1, c1.2⟩, ⟨q2, mem _ (by simp), c2.1, c2.2, l2⟩, ⟨q3, mem _ (by simp), c3.1, c3.2, l3⟩⟩
def ZRu (K : W.Frag) : Sp := fun vs H Q _ => ∃ (t q p : Addr) (us : List V) (fs : List (Option (PL))) (cv : PL) (b y m low tall rows : Int), vs = [.ref t, .ref q, .ref p] ∧ H t = some (.tup us) ∧ ZEd H us fs ∧ ZG8 cv b y m fs ∧ m ≤ 15 ∧ Win H q b y m ∧ Hts H p low tall rows ∧ Asc cv ∧ BP cv ∧
 ∀ (u : Addr) (vs : List V) (os : List (Option (Int × Int))) (kp : PL) (H' : Hp), H' u = some (.tup vs) → ZEo H' vs os → Asc kp → L2.Kept cv kp b y m → ZHU kp b y m low tall rows os → ZDn H H' → Q (.ref u) H'
theorem ZOj : ZDs ["fours", "window", "heights"] ["fours", "window", "heights"] (ZDl ZIw) := ZD8
theorem ZOk (T : Txt K mg a) : ZDw P w K mg base CX0 6 a.Ju a.Jk ["fours", "window", "heights"] (ZRu K) := by
 refine T.ZA4.ok ZOj (by walk_at "l") (fun cdv A outer s H vs Q E hr h => ?_)
 ·obtain ⟨t, q, p, us, fs, cv, b, y, m, low, tall, rows, rfl, hT, hF, hO, hm, hW, hh, hasc, hbp, k⟩ := h
  refine ⟨_, QB.h (ZDm (ZD1 (qcS (ZKe T) hr T.ZBA T.Jy.kp T.ZA7 (ZDh (qcS (ZOi T) hr.m T.ZCc T.ZA5.kp T.ZCO (ZDh (qv 0) ZDi)) (ZDh (qv 1) (ZDh (qv 2) ZDi)))))), ?_⟩
  walk_at "s"
  walk_at "w"
  refine ⟨t, us, fs, cv, rfl, hT, hF, by rw [hO.1]; omega, hasc, fun qs hq r hr => ?_, fun t' kp H1 hT1 hak hlk hmk S1 => ?_⟩
  ·obtain ⟨_, _, hall⟩ := hO.mem hq
   exact (hall r hr).1
  have hkept := hO.kept hW.2.2.1 hmk
  walk_at "w"
  refine ⟨t', q, p, kp, b, y, m, low, tall, rows, rfl, hT1, hW.same S1, hh.same S1, hak, fun r hr => hbp r (hkept.1 r hr).1, hlk, fun u vs os H2 f2 hD2 hO2 S2 => ?_⟩
  exact k u vs os kp H2 f2 hD2 hak hkept hO2 (S1.trans S2)
end
section
variable {P : Program} {w : World} {K : W.Frag} {mg : Str → Option Value} {base : Heap} {a : Ad}
def ZVa (K : W.Frag) : Sp := fun vs H Q _ => ∃ (c1 c2 : Addr) (u v : Int × Int), vs = [.ref c1, .ref c2] ∧ H c1 = some (.tup [.int u.1, .int u.2]) ∧ H c2 = some (.tup [.int v.1, .int v.2]) ∧ Bn 600 u.1 ∧ Bn 600 u.2 ∧ Bn 600 v.1 ∧ Bn 600 v.2 ∧ Q (.bl (decide (u.1 * v.2 < v.1 * u.2))) H
theorem ZPu : ZDs ["_law_one", "_law_other"] ["_law_one", "_law_other"] (ZDl ZJw) := ZD8
theorem ZLW (T : Txt K mg a) : ZDw P w K mg base CX0 1 a.ZAR a.ZAM ["_law_one", "_law_other"] (ZVa K) := by
 refine T.ZAX.ok ZPu (by walk_at "l") (fun cdv A outer s H vs Q E hr h => ?_)
 ·obtain ⟨c1, c2, u, v, rfl, h1, h2, b1, b2, b3, b4, q⟩ := h
  refine ⟨_, QB.h (ZDm (ZD1 (ZS7 (ZF0) (ZDr ZEE (ZD2 (ZD5 K rfl) (qv 0) ZDk) (ZD2 (ZD5 K rfl) (qv 1) ZDk)) (ZDr ZEE (ZD2 (ZD5 K rfl) (qv 1) ZDk) (ZD2 (ZD5 K rfl) (qv 0) ZDk)) (ZEB _)))), ?_⟩
  walk_at "s"
  walk_at "w"
  refine ZGo (ZGn b1 b4 (by decide)) ?_
  walk_at "w"
  refine ZGo (ZGn b3 b2 (by decide)) ?_
  walk_at "w"
  exact q
def ZPv (K : W.Frag) : Sp := fun vs H Q _ => ∃ (c1 c2 : Addr) (u v : Int × Int) (t : Int), vs = [.ref c1, .ref c2, .int t] ∧ H c1 = some (.tup [.int u.1, .int u.2]) ∧ H c2 = some (.tup [.int v.1, .int v.2]) ∧
 Bn 200 u.1 ∧ Bn 200 u.2 ∧ Bn 200 v.1 ∧ Bn 200 v.2 ∧ Bn 200 t ∧ ∀ (r : Addr) (H' : Hp), H r = none → H' r = some (.tup [.int (frP u v t).1, .int (frP u v t).2]) → ZDn H H' → Q (.ref r) H'
theorem ZJW : ZDs ["_law_one", "_law_other", "_law_time", "_law_apart"] ["_law_one", "_law_other", "_law_time"] (ZDl ZIT) := ZD8
theorem ZJX (T : Txt K mg a) : ZDw P w K mg base CX0 1 a.JI a.Y5 ["_law_one", "_law_other", "_law_time"] (ZPv K) := by
 refine T.Y2.ok ZJW (by walk_at "l") (fun cdv A outer s H vs Q E hr h => ?_)
 ·obtain ⟨c1, c2, u, v, t, rfl, h1, h2, b1, b2, b3, b4, b5, k⟩ := h
  refine ⟨_, QB.h (ZDj (qsS (i := 3) ZJW.nd (ZDr ZE6 (ZD2 (ZD5 K rfl) (qv 1) ZDk) (ZD2 (ZD5 K rfl) (qv 0) ZDk))) (ZDm (ZD1 (ZEA (ZDh (ZDr ZEN (ZDr ZEE (ZD2 (ZD5 K rfl) (qv 0) ZDk) (qv 3)) (ZDr ZEE (ZDr ZE6 (ZD2 (ZD5 K rfl) (qv 1) ZDk) (ZD2 (ZD5 K rfl) (qv 0) ZDk)) (ZDr ZE6 (qv 2) (ZD2 (ZD5 K rfl) (qv 0) ZDk)))) (ZDh (qv 3) ZDi)))))), ?_⟩
  walk_at "s"
  walk_at "w"
  refine ZGo (ZGn b2 (b3.sub b1) (by decide)) ?_
  walk_at "w"
  refine ZGo (ZGn (b4.sub b2) (b5.sub b1) (by decide)) ?_
  walk_at "w"
  exact ZDx (by show 2 ≤ sizeLine; decide) fun r H2 n2 f2 S2 => k r H2 n2 f2 S2
end
section
variable {P : Program} {w : World} {K : W.Frag} {mg : Str → Option Value} {base : Heap} {a : Ad}
def ZVb (K : W.Frag) : Sp := fun vs H Q _ => ∃ (t : Addr) (cv : PL) (x z : Int), vs = [.ref t, .int x, .int z] ∧ PrL H t cv ∧ Asc cv ∧ BP cv ∧ cv.length ≤ 100 ∧ Bn 200 x ∧ Bn 200 z ∧
 ∀ (l : Addr) (H' : Hp), H l = none → PrL H' l (ZE4 cv x z) → (ZE4 cv x z).length ≤ 400 → ZDn H H' → Q (.ref l) H'
theorem ZIZ : ZDs ["_law_samples", "_law_x", "_law_z", "_law_found", "_law_one", "_law_other"] ["_law_samples", "_law_x", "_law_z"] (ZDl ZJH) := ZD8
theorem ZRv (T : Txt K mg a) : ZDw P w K mg base CX0 2 a.ZAx a.ZA3 ["_law_samples", "_law_x", "_law_z"] (ZVb K) := by
 refine T.ZB3.ok ZIZ (by walk_at "l") (fun cdv A outer s H vs Q E hr h => ?_)
 ·obtain ⟨t, cv, x, z, rfl, hT, hasc, hbp, hlen, bx, bz, k⟩ := h
  obtain ⟨us1, g1, pw⟩ := id hT
  have hcl : (inCol cv x z).length ≤ 100 := Nat.le_trans (List.length_filter_le _ _) hlen
  refine ⟨_, QB.h (ZDj (ZH3 (N := ["_law_samples", "_law_x", "_law_z", "_law_found", "_law_one", "_law_other"]) (sc := ZDl ZJH) (own := ["_law_time", "_law_height_here"]) (caps := ["_law_x", "_law_z"]) (ks := [1, 2]) (i := 3) rfl rfl rfl ⟨rfl, by decide +kernel, by decide +kernel, by decide +kernel, by decide +kernel, rfl, by decide +kernel⟩ ZIZ.nd rfl (by walk_at "o") (ZFH K rfl (qv 0)) (fun _ _ _ _ _ => ZEb (n := 2) K rfl rfl (ZDq (ZEc (i := 0) (show List.Nodup (α := Str) ["_law_time", "_law_height_here", "_law_x", "_law_z"] from by decide +kernel) rfl (by walk_at "o") (.inr rfl)) (ZDq (ZEc (i := 1) (show List.Nodup (α := Str) ["_law_time", "_law_height_here", "_law_x", "_law_z"] from by decide +kernel) rfl (by walk_at "o") (.inr rfl)) ZEQ))) (fun _ _ _ _ _ => ZHD (ZHC ZGh ZF0 (qv 2) (qv 0) (qv 3))) (fun _ _ _ _ _ => ZEA (ZDh (qv 1) (ZDh ZDk ZDi)))) (ZDj (ZE9 PassesOwn.never rfl (ZPR K rfl rfl T.ZBQ (ZDh (qv 0) (ZDh (ZJe (ZTA K rfl) (qv 0) (ZKm ZDk) ZKl) ZDi))) (ZEb (n := 2) K rfl rfl (ZDq (qgN (i := 4) ZIZ.nd) (ZDq (qgN (i := 5) ZIZ.nd) ZEQ))) (ZDm (ZEi (QW.pt (ZHz (ZD3 (ZF0) (ZD2 (ZD5 K rfl) (qv 4) ZDk) (qv 2) (ZEB _)) (ZG5 (ZD3 (ZF0) (qv 1) (ZD2 (ZD5 K rfl) (qv 5) ZDk) (ZEB _))))) (ZDj (ZDz (ZGw PySem.F.plainAttrs_list PySem.F.slot_list_append PySem.F.type_list_append ZE2 (qv 3) (ZDh (qcS (ZJX T) hr T.ZAl T.Y2.kp T.ZAt (ZDh (qv 4) (ZDh (qv 5) (ZDh (ZEJ (ZKH rfl) rfl T.YT ZHu (ZDh (qv 1) (ZDh (ZD2 (ZD5 K rfl) (qv 4) ZDk) ZDi))) ZDi)))) ZDi))) (ZDm (ZDz (ZGw PySem.F.plainAttrs_list PySem.F.slot_list_append PySem.F.type_list_append ZE2 (qv 3) (ZDh (qcS (ZJX T) hr T.ZAl T.Y2.kp T.ZAt (ZDh (qv 4) (ZDh (qv 5) (ZDh (ZEJ (ZKI rfl) rfl T.YW ZHv (ZDh (qv 2) (ZDh (ZD2 (ZD5 K rfl) (qv 5) ZDk) ZDi))) ZDi)))) ZDi))))) ZEZ))) (ZDm (ZD1 (qv 3))))), ?_⟩
  walk_at "s"
  walk_at "w"
  intro l n1
  refine ZEw cv.length (fun i σ' H' => (∃ o1 o2, σ' = [o1, o2, some (.int x), some (.int z)]) ∧ ZDn H H' ∧ ∃ vs, H' l = some (.lst vs) ∧ ZDt H' vs ((inCol (cv.take i) x z).map (fun q => (q.2, (1 : Int))))) ?_ ?_ ?_
  ·exact ⟨⟨none, none, rfl⟩, ZDn.new n1, [], ZDu, .nil⟩
  ·rintro σ H2 ⟨_, S2, vs2, f2, hP2⟩
   refine ⟨⟨_, SqL.of (S2 _ _ g1), by rw [pw.length]; exact Nat.le_refl _⟩, ?_⟩
   rw [List.take_length] at hP2
   walk_at "w"
   refine PrL.sl (hT.same S2) fun w3 H3 n3 h3 S3 => ?_
   have S23 := S2.trans S3
   obtain ⟨us, gT, pT⟩ := hT.same S23
   obtain ⟨us3, g3, p3⟩ := id h3
   have ec : ZIk cv (some 1) none = cv.drop 1 := by
    unfold ZIk
    rw [show HT.sIx cv.length 0 (some 1) = min 1 cv.length from HT.sIx_nat cv.length 0 1, show HT.sIx cv.length cv.length none = cv.length from rfl]
    by_cases hz : cv.length = 0
    ·have : cv = [] := List.length_eq_zero_iff.mp hz
     subst this
     rfl
    ·rw [show min 1 cv.length = 1 by omega]
     exact List.take_of_length_le (by simp)
   rw [ec] at p3
   have f3 := S3 _ _ f2
   have hP3 := hP2.same S3
   have ntl : t ≠ l := ZD4 g1 n1
   have nwl : w3 ≠ l := (ZD4 f2 n3).symm
   walk_at "w"
   refine ZPS (SqB.ofL gT) (SqB.ofL g3) ?_
   refine ZNY (xs := us) (ys := us3) (b1 := true) (b2 := true) (l1 := t) (l2 := w3) (cv.length - 1) (by rw [pT.length, p3.length, List.length_drop]; omega) (fun i σ H' => Kp l H3 H' ∧ (∃ v6 v7, σ = [some (.ref t), some (.int x), some (.int z), some (.ref l), v6, v7]) ∧ ∃ (vs : List V) (ns : PL), H' l = some (.lst vs) ∧ ZDt H' vs ns ∧
    ns = (((inCol cv x z).map (fun q => (q.2, (1 : Int)))) ++ ((cv.zip (cv.drop 1)).take i).flatMap (ZEI x z)) ∧ ns.length ≤ 100 + 2 * i) ?_ ?_ ?_ ?_
   ·refine ⟨Kp.same (ZDn.refl _), ⟨_, _, rfl⟩, _, _, f3, hP3, ?_, ?_⟩
    ·rw [List.take_zero, List.flatMap_nil, List.append_nil]
    ·rw [List.length_map]; omega
   ·rintro i σ H4 ⟨K4, _, _⟩
    exact ⟨SqB.ofL (K4 _ _ gT ntl), SqB.ofL (K4 _ _ g3 nwl)⟩
   ·rintro i σ H4 T H5 a b hi ⟨K4, ⟨v6, v7, rfl⟩, vs4, ns, f4, hP4, ens, hns⟩ ha hb nT fT S5
    obtain ⟨c1, q1, rfl, hq1, hc1⟩ := pT.at ha
    obtain ⟨c2, q2, rfl, hq2, hc2⟩ := p3.at hb
    have hz := ZKq hq1 hq2
    have K5 : Kp l H3 H5 := K4.then S5
    have f5 := S5 _ _ f4
    have hP5 := hP4.same S5
    have g1' := ZFv K5 f3 hc1
    have g2' := ZFv K5 f3 hc2
    have hb1 := hbp q1 (List.mem_of_getElem? hq1)
    have hb2 := hbp q2 (List.mem_of_mem_drop (List.mem_of_getElem? hq2))
    have e3 : (cv.zip (cv.drop 1)).take (i + 1) = (cv.zip (cv.drop 1)).take i ++ [(q1, q2)] := by rw [List.take_succ, hz]; rfl
    have hnl : ∀ k : Nat, k ≤ 400 → k < sizeLine := fun k hk => Nat.lt_of_le_of_lt hk (by decide)
    have e4 : (((inCol cv x z).map (fun q => (q.2, (1 : Int)))) ++ ((cv.zip (cv.drop 1)).take (i + 1)).flatMap (ZEI x z)) = ns ++ (ZEI x z (q1, q2)) := by
     rw [ens, e3, List.flatMap_append, ← List.append_assoc]
     simp only [List.flatMap_cons, List.flatMap_nil, List.append_nil]
    walk_at "w"
    refine ZEP (fun h1 => ?_) (fun h1 => ?_)
    ·walk_at "w"
     refine ZEP (fun h2 => ?_) (fun h2 => ?_)
     ·have e5 : (ZEI x z (q1, q2)) = [(frP q1 q2 (mx x q1.1)), (frP q1 q2 (mn z q2.1))] := by
       unfold ZEI
       rw [if_pos ⟨h1, h2⟩]
      walk_at "w"
      refine ⟨tyL f5, ?_⟩
      walk_at "w"
      refine ⟨c1, c2, q1, q2, _, rfl, g1', g2', hb1.1, hb1.2, hb2.1, hb2.2, ZOg bx hb1.1, fun r6 H6 n6 f6 S6 => ?_⟩
      have fl6 := S6 _ _ f5
      walk_at "w"
      refine ZFA fl6 (by rw [hP4.length]; exact hnl _ (by omega)) fun H7 f7 K7 => ?_
      have hP7 := ZDt.kpL K7 fl6 ((hP5.same S6).snoc f6)
      have g1'' := ZFv K7 fl6 (S6 _ _ g1')
      have g2'' := ZFv K7 fl6 (S6 _ _ g2')
      walk_at "w"
      refine ⟨tyL f7, ?_⟩
      walk_at "w"
      refine ⟨c1, c2, q1, q2, _, rfl, g1'', g2'', hb1.1, hb1.2, hb2.1, hb2.2, ZOh bz hb2.1, fun r8 H8 n8 f8 S8 => ?_⟩
      have fl8 := S8 _ _ f7
      walk_at "w"
      refine ZFA fl8 (by rw [List.length_append, hP4.length]; exact hnl _ (by simp only [List.length_cons, List.length_nil]; omega)) fun H9 f9 K9 => ?_
      have hP9 := ZDt.kpL K9 fl8 ((hP7.same S8).snoc f8)
      walk_at "w"
      refine ⟨(((K5.then S6).trans K7).then S8).trans K9, ⟨_, _, rfl⟩, _, _, f9, hP9, ?_, ?_⟩
      ·rw [e4, e5, List.append_assoc]
       rfl
      ·rw [List.length_append, List.length_append]
       show ns.length + 1 + 1 ≤ _
       omega
     ·have e5 : (ZEI x z (q1, q2)) = [] := by
       unfold ZEI
       rw [if_neg (fun g => h2 g.2)]
      walk_at "w"
      exact ⟨K5, ⟨_, _, rfl⟩, vs4, ns, f5, hP5, by rw [e4, e5, List.append_nil], by omega⟩
    ·have e5 : (ZEI x z (q1, q2)) = [] := by
      unfold ZEI
      rw [if_neg (fun g => h1 g.1)]
     walk_at "w"
     refine ZE0 ?_
     walk_at "w"
     exact ⟨K5, ⟨_, _, rfl⟩, vs4, ns, f5, hP5, by rw [e4, e5, List.append_nil], by omega⟩
   ·rintro σ H4 ⟨K4, ⟨v6, v7, rfl⟩, vs4, ns, f4, hP4, ens, hns⟩
    walk_at "w"
    have em : ns = ZE4 cv x z := by
     rw [ens, List.take_of_length_le (by rw [List.length_zip, List.length_drop]; omega)]
     rfl
    subst em
    exact k l H4 n1 ⟨vs4, f4, hP4⟩ (by omega) (S23.kpN n1 K4)
  ·rintro i σ H2 hi ⟨⟨o1, o2, rfl⟩, S2, vs, f, hPc⟩
   have hi2 : i < us1.length := by rw [pw.length]; exact hi
   refine ⟨⟨_, _, SqL.of (S2 _ _ g1), List.getElem?_eq_getElem hi2⟩, ?_⟩
   rintro v H'' ⟨rfl, hv⟩
   have hv := hv _ (SqL.of (S2 _ _ g1))
   obtain ⟨c, p, rfl, hp, hc⟩ := (pw.same S2).at hv
   have e3 : cv.take (i + 1) = cv.take i ++ [p] := by
    rw [List.take_succ, hp]
    rfl
   have e4 : inCol (cv.take (i + 1)) x z = inCol (cv.take i) x z ++ (if (decide (x ≤ p.1) && decide (p.1 < z)) = true then [p] else []) := by
    rw [e3, inCol, List.filter_append]
    congr 1
    simp only [List.filter_cons, List.filter_nil]
   walk_at "w"
   refine ZEP (fun h1 => ?_) (fun h1 => ?_)
   ·walk_at "w"
    refine ZEP (fun h2 => ?_) (fun h2 => ?_)
    ·walk_at "w"
     refine ZDx (by show 2 ≤ sizeLine; decide) fun t4 H4 n4 f4 S4 => ?_
     have f34 := S4 _ _ f
     refine ⟨vs, f34, ?_, ⟨_, _, rfl⟩, ?_, ?_⟩
     ·have e := hPc.length
      rw [e, List.length_map]
      refine Nat.lt_of_le_of_lt (List.length_filter_le _ _) ?_
      rw [List.length_take]
      exact Nat.lt_of_le_of_lt (Nat.min_le_left _ _) (Nat.lt_of_lt_of_le (Nat.lt_of_lt_of_le hi hlen) (by decide))
     ·exact (S2.trans S4).kpN n1 Kp.upd
     ·refine ⟨_, ZDu, ?_⟩
      rw [e4, decide_eq_true h1, decide_eq_true h2, Bool.and_self, if_pos rfl, List.map_append]
      exact ZDt.kpL Kp.upd f34 ((hPc.same S4).snoc (p := (p.2, 1)) f4)
    ·refine ⟨⟨_, _, rfl⟩, S2, vs, f, ?_⟩
     rw [e4, decide_eq_false h2, Bool.and_false, if_neg (by decide), List.append_nil]
     exact hPc
   ·walk_at "w"
    refine ZE0 ?_
    refine ⟨⟨_, _, rfl⟩, S2, vs, f, ?_⟩
    rw [e4, decide_eq_false h1, Bool.false_and, if_neg (by decide), List.append_nil]
    exact hPc
end
section
variable {P : Program} {w : World} {K : W.Frag} {mg : Str → Option Value} {base : Heap} {a : Ad}
theorem ZPw {low tall k : Int} (h1 : Bn 200 low) (h2 : Bn 200 tall) (h0 : 0 ≤ k) (h3 : k ≤ 1001) : Bn 600 (low + k * tall) := by
 have hk : Bn 11 k := by unfold Bn; omega
 exact ((h1.mono (show 200 ≤ 250 by decide)).add ((hk.mul h2).mono (by decide))).mono (by decide)
def ZSE (mt : PL) : Prop := ∀ q ∈ mt, 0 < q.2 ∧ Bn 600 q.1 ∧ Bn 600 q.2
theorem ZOl {ns : List Int} (h : ns ≠ []) : atI (ns.map V.int) (-1) = some (.int (ns.getLast h)) := by
 have e : ns.map V.int = ns.dropLast.map V.int ++ [V.int (ns.getLast h)] := by
  conv => lhs; rw [← List.dropLast_concat_getLast h]
  rw [List.map_append]
  rfl
 rw [e]
 exact ZQd _ _
theorem ZVc {cv : PL} {x z : Int} (hasc : Asc cv) (hbp : BP cv) (bx : Bn 200 x) (bz : Bn 200 z) : ZSE (ZE4 cv x z) := by
 intro q hq
 refine ⟨ZTU hasc q hq, ?_⟩
 rcases List.mem_append.mp hq with hq | hq
 ·obtain ⟨p, hp, rfl⟩ := List.mem_map.mp hq
  exact ⟨(hbp p (ZLU hp)).2.mono (by decide), bn1.mono (by decide)⟩
 ·unfold ZKS at hq
  obtain ⟨ab, hab, hq⟩ := List.mem_flatMap.mp hq
  have ha := hbp ab.1 (List.of_mem_zip (a := ab.1) (b := ab.2) hab).1
  have hb := hbp ab.2 (List.mem_of_mem_drop (List.of_mem_zip (a := ab.1) (b := ab.2) hab).2)
  have key : ∀ t, Bn 200 t → Bn 600 (frP ab.1 ab.2 t).1 ∧ Bn 600 (frP ab.1 ab.2 t).2 := fun t ht =>
   ⟨(Bn.add ((ha.2.mul (hb.1.sub ha.1)).mono (show 200 + (200 + 1) ≤ 500 by decide)) (((hb.2.sub ha.2).mul (ht.sub ha.1)).mono (by decide))).mono (by decide), (hb.1.sub ha.1).mono (by decide)⟩
  unfold ZEI at hq
  split at hq
  ·simp only [List.mem_cons, List.not_mem_nil, or_false] at hq
   rcases hq with rfl | rfl
   ·exact key _ (ZOg bx ha.1)
   ·exact key _ (ZOh bz hb.1)
  ·cases hq
end
def ZJB (fs : List Int) (rows : Int) (rs : List Int) : Prop := (fs = [] ∧ rs = []) ∨ ∃ m M, m ∈ fs ∧ (∀ f ∈ fs, m ≤ f) ∧ M ∈ fs ∧ (∀ f ∈ fs, f ≤ M) ∧ rs = ZFJ m M rows.toNat
theorem ZMv : ∀ {fs : List Int}, fs ≠ [] → ∃ m ∈ fs, ∀ f ∈ fs, m ≤ f
 | [], h => absurd rfl h
 | [x], _ => ⟨x, by simp, fun f hf => by rw [List.mem_singleton.mp hf]; exact Int.le_refl _⟩
 | x :: y :: r, _ => by
  obtain ⟨m, h1, h2⟩ := ZMv (fs := y :: r) (by simp)
  by_cases h : x ≤ m
  ·exact ⟨x, by simp, fun f hf => by
    rcases List.mem_cons.mp hf with rfl | hf
    ·exact Int.le_refl _
    ·exact Int.le_trans h (h2 f hf)⟩
  ·exact ⟨m, List.mem_cons_of_mem _ h1, fun f hf => by
    rcases List.mem_cons.mp hf with rfl | hf
    ·omega
    ·exact h2 f hf⟩
theorem ZVd {fs : List Int} (h : fs ≠ []) : ∃ m ∈ fs, ∀ f ∈ fs, f ≤ m := by
 obtain ⟨m, h1, h2⟩ := ZMv (fs := fs.map fun x => -x) (by simpa using h)
 obtain ⟨x, hx, rfl⟩ := List.mem_map.mp h1
 exact ⟨x, hx, fun f hf => by have := h2 (-f) (List.mem_map.mpr ⟨f, hf, rfl⟩); omega⟩
def ZJ2 (fs : List Int) (n : Nat) : List Int := ((List.range n).map fun (i : Nat) => (0 + (i : Int))).filter fun r => fs.any (fun f => decide (f ≤ r)) && fs.any (fun f => decide (r ≤ f))
theorem ZPx (fs : List Int) (n : Nat) : ZJ2 fs (n + 1) = ZJ2 fs n ++ (if (fs.any (fun f => decide (f ≤ 0 + (n : Int))) && fs.any (fun f => decide (0 + (n : Int) ≤ f))) = true then [0 + (n : Int)] else []) := by
 unfold ZJ2
 rw [List.range_succ, List.map_append, List.filter_append]
 congr 1
 simp only [List.map_cons, List.map_nil, List.filter_cons, List.filter_nil]
theorem ZT0 (fs : List Int) (rows : Int) : ZJB fs rows (ZJ2 fs rows.toNat) := by
 by_cases h : fs = []
 ·refine .inl ⟨h, ?_⟩
  rw [h]
  unfold ZJ2
  rw [List.filter_eq_nil_iff]
  intro r _
  simp
 ·obtain ⟨m, h1, h2⟩ := ZMv h
  obtain ⟨M, h3, h4⟩ := ZVd h
  refine .inr ⟨m, M, h1, h2, h3, h4, ?_⟩
  unfold ZJ2 ZFJ
  apply List.filter_congr
  intro r _
  rw [Bool.eq_iff_iff, Bool.and_eq_true, Bool.and_eq_true, List.any_eq_true, List.any_eq_true, decide_eq_true_iff, decide_eq_true_iff]
  constructor
  ·rintro ⟨⟨f, g1, g2⟩, f', g3, g4⟩
   rw [decide_eq_true_iff] at g2 g4
   exact ⟨Int.le_trans (h2 f g1) g2, Int.le_trans g4 (h4 f' g3)⟩
  ·rintro ⟨g1, g2⟩
   exact ⟨⟨m, h1, by simpa using g1⟩, M, h3, by simpa using g2⟩
section
variable {P : Program} {w : World} {K : W.Frag} {mg : Str → Option Value} {base : Heap} {a : Ad}
def ZT1 (K : W.Frag) : Sp := fun vs H Q _ => ∃ (t p : Addr) (mt : PL) (low tall rows : Int), vs = [.ref t, .ref p] ∧ PrL H t mt ∧ ZSE mt ∧ mt.length ≤ 400 ∧ Hts H p low tall rows ∧
 ∀ (l : Addr) (rs : List Int) (H' : Hp), H l = none → H' l = some (.lst (rs.map V.int)) → ZJB (mt.map (fl low tall)) rows rs → ZDn H H' → Q (.ref l) H'
theorem ZFP : ZDs ["_law_met_here", "_law_heights", "_law_low", "_law_tall", "_law_rows_here", "_law_found", "_law_r", "_law_under", "_law_over"] ["_law_met_here", "_law_heights"] (ZDl ZHL) := ZD8
theorem ZPy (T : Txt K mg a) : ZDw P w K mg base CX0 2 a.ZAI a.ZAJ ["_law_met_here", "_law_heights"] (ZT1 K) := by
 refine T.ZBZ.ok ZFP (by walk_at "l") (fun cdv A outer s H vs Q E hr h => ?_)
 ·obtain ⟨t, p, mt, low, tall, rows, rfl, ⟨us, gT, pT⟩, hok, hlen, hh, k⟩ := h
  have hu := ZGI hr
  have hul : us.length = mt.length := pT.length
  obtain ⟨ht, hlow, hta, htb, hr0, hr1⟩ := hh.2 |> fun x => (⟨hh.1, x.1, x.2.1, x.2.2.1, x.2.2.2.1, x.2.2.2.2⟩ : _ ∧ _ ∧ _ ∧ _ ∧ _ ∧ _)
  refine ⟨_, QB.h (ZDj (ZEy (qv 1) (ZEb (n := 3) K rfl rfl (ZDq (qgN (i := 2) ZFP.nd) (ZDq (qgN (i := 3) ZFP.nd) (ZDq (qgN (i := 4) ZFP.nd) ZEQ))))) (ZDj (qsS (i := 5) ZFP.nd (ZFh ZDi)) (ZDj (ZE9 PassesOwn.never rfl (ZFi rfl T.ZV (ZDh (qv 4) ZDi)) (qgN (i := 6) ZFP.nd) (ZDj (ZH3 (N := ["_law_met_here", "_law_heights", "_law_low", "_law_tall", "_law_rows_here", "_law_found", "_law_r", "_law_under", "_law_over"]) (sc := ZDl ZHL) (own := ["_law_height_here"]) (caps := ["_law_low", "_law_tall", "_law_r"]) (ks := [2, 3, 6]) (i := 7) rfl rfl rfl ⟨rfl, by decide +kernel, by decide +kernel, by decide +kernel, by decide +kernel, rfl, by decide +kernel⟩ ZFP.nd rfl (by walk_at "o") (ZFH K rfl (qv 0)) (fun _ _ _ _ _ => ZEc (i := 0) (show List.Nodup (α := Str) ["_law_height_here", "_law_low", "_law_tall", "_law_r"] from by decide +kernel) rfl (by walk_at "o") (.inr rfl)) (fun _ _ _ _ _ => ZHD (ZHy (qcS (ZLW T) hr T.ZBh T.ZAX.kp T.ZBT (ZDh (qv 0) (ZDh (ZEA (ZDh (ZDr ZEN (qv 1) (ZDr ZEE (ZDr ZEN (qv 3) ZDk) (qv 2))) (ZDh ZDk ZDi))) ZDi))))) (fun _ _ _ _ _ => qv 0)) (ZDj (ZH3 (N := ["_law_met_here", "_law_heights", "_law_low", "_law_tall", "_law_rows_here", "_law_found", "_law_r", "_law_under", "_law_over"]) (sc := ZDl ZHL) (own := ["_law_height_here"]) (caps := ["_law_low", "_law_r", "_law_tall"]) (ks := [2, 6, 3]) (i := 8) rfl rfl rfl ⟨rfl, by decide +kernel, by decide +kernel, by decide +kernel, by decide +kernel, rfl, by decide +kernel⟩ ZFP.nd rfl (by walk_at "o") (ZFH K rfl (qv 0)) (fun _ _ _ _ _ => ZEc (i := 0) (show List.Nodup (α := Str) ["_law_height_here", "_law_low", "_law_r", "_law_tall"] from by decide +kernel) rfl (by walk_at "o") (.inr rfl)) (fun _ _ _ _ _ => ZHD (ZH0 (ZHy (qcS (ZLW T) hr T.ZBh T.ZAX.kp T.ZBT (ZDh (qv 0) (ZDh (ZEA (ZDh (ZDr ZEN (qv 1) (ZDr ZEE (qv 2) (qv 3))) (ZDh ZDk ZDi))) ZDi)))))) (fun _ _ _ _ _ => qv 0)) (ZDm (ZEi (QW.pt (ZHz (ZD3 (ZJp K rfl hu) (qv 7) (ZFh ZDi) (ZEB _)) (ZG5 (ZD3 (ZJp K rfl hu) (qv 8) (ZFh ZDi) (ZEB _))))) (ZDm (ZDz (ZGw PySem.F.plainAttrs_list PySem.F.slot_list_append PySem.F.type_list_append ZE2 (qv 5) (ZDh (qv 6) ZDi)))) ZEZ))))) (ZDm (ZD1 (qv 5)))))), ?_⟩
  walk_at "s"
  walk_at "w"
  refine ZDx (by show 0 ≤ sizeLine; decide) fun l1 H1 n1 f1 S1 => ?_
  have nlt : t ≠ l1 := ZD4 gT n1
  have gT1 := S1 _ _ gT
  have pT1 := pT.same S1
  walk_at "w"
  refine ZHB (by omega) (by omega) (ZHw (fun i σ H' => (∃ v6 v7 v8, σ = [some (.ref t), some (.ref p), some (.int low), some (.int tall), some (.int rows), some (.ref l1), v6, v7, v8]) ∧ Kp l1 H1 H' ∧ H' l1 = some (.lst ((ZJ2 (mt.map (fl low tall)) i).map V.int))) ?_ ?_ ?_)
  ·exact ⟨⟨_, _, _, rfl⟩, Kp.refl _ _, f1⟩
  ·rintro i σ H2 hi ⟨⟨v6, v7, v8, rfl⟩, K2, f2⟩
   have hir : (i : Int) < rows := by omega
   have e5 := ZPx (mt.map (fl low tall)) i
   have gT2 : H2 t = some (.lst us) := K2 _ _ gT1 nlt
   have pT2 : ZDt H2 us mt := Paired.mapP pT1 fun _ _ ⟨b, e, z⟩ => ⟨b, e, ZFv K2 f1 z⟩
   walk_at "w"
   intro l3 n3
   have n30 : H l3 = none ∧ l3 ≠ l1 := by
    have h1 : l3 ≠ l1 := fun z => by rw [z, f2] at n3; cases n3
    refine ⟨?_, h1⟩
    cases hh : H l3 with
    | none => rfl
    | some o => rw [K2 _ _ (S1 _ _ hh) h1] at n3; cases n3
   refine ZEw mt.length (fun i' σ' H' => (∃ o, σ' = [o, some (.int low), some (.int tall), some (.int (0 + (i : Int)))]) ∧ ZDn H2 H' ∧ ∃ vs, H' l3 = some (.lst vs) ∧ vs.length ≤ i' ∧ (!vs.isEmpty) = (mt.take i').any fun q => decide (fl low tall q ≤ 0 + (i : Int))) ?_ ?_ ?_
   ·exact ⟨⟨none, rfl⟩, ZDn.new n3, [], ZDu, Nat.le_refl _, rfl⟩
   ·rintro σ' H3 ⟨_, S3, vs3, f3, hl3, hE3⟩
    refine ⟨⟨_, SqL.of (S3 _ _ gT2), by rw [hul]; exact Nat.le_refl _⟩, ?_⟩
    rw [List.take_length] at hE3
    have gT3 := S3 _ _ gT2
    have pT3 := pT2.same S3
    walk_at "w"
    intro l4 n4
    refine ZEw mt.length (fun i' σ' H' => (∃ o, σ' = [o, some (.int low), some (.int (0 + (i : Int))), some (.int tall)]) ∧ ZDn H3 H' ∧ ∃ vs, H' l4 = some (.lst vs) ∧ vs.length ≤ i' ∧ (!vs.isEmpty) = (mt.take i').any fun q => decide (0 + (i : Int) ≤ fl low tall q)) ?_ ?_ ?_
    ·exact ⟨⟨none, rfl⟩, ZDn.new n4, [], ZDu, Nat.le_refl _, rfl⟩
    ·rintro σ'' H4 ⟨_, S4, vs4, f4, hl4, hE4⟩
     refine ⟨⟨_, SqL.of (S4 _ _ gT3), by rw [hul]; exact Nat.le_refl _⟩, ?_⟩
     rw [List.take_length] at hE4
     have a1 : (mt.map (fl low tall)).any (fun f => decide (f ≤ 0 + (i : Int))) = !vs3.isEmpty := by rw [hE3, List.any_map]; rfl
     have a2 : (mt.map (fl low tall)).any (fun f => decide (0 + (i : Int) ≤ f)) = !vs4.isEmpty := by rw [hE4, List.any_map]; rfl
     rw [a1, a2] at e5
     have S24 := S3.trans S4
     walk_at "w"
     refine ZDx (by show 0 ≤ sizeLine; decide) fun l5 H5 n5 f5 S5 => ?_
     refine ZJq (SqL.of (S5 _ _ (S4 _ _ f3))) (SqL.of f5) ?_
     walk_at "w"
     cases hb1 : vs3.isEmpty with
     | true =>
      rw [hb1, Bool.not_true, Bool.false_and, if_neg (by decide), List.append_nil] at e5
      refine ZE0 ?_
      walk_at "w"
      refine ZE0 ?_
      walk_at "w"
      refine ⟨⟨_, _, _, rfl⟩, K2.then (S24.trans S5), ?_⟩
      rw [e5]
      exact S5 _ _ (S24 _ _ f2)
     | false =>
      refine ZFF ?_
      walk_at "w"
      refine ZDx (by show 0 ≤ sizeLine; decide) fun l6 H6 n6 f6 S6 => ?_
      refine ZJq (SqL.of (S6 _ _ (S5 _ _ f4))) (SqL.of f6) ?_
      walk_at "w"
      have S26 := (S24.trans S5).trans S6
      have fl6 := S26 _ _ f2
      cases hb2 : vs4.isEmpty with
      | true =>
       rw [hb1, hb2, Bool.not_true, Bool.and_false, if_neg (by decide), List.append_nil] at e5
       refine ZE0 ?_
       walk_at "w"
       refine ⟨⟨_, _, _, rfl⟩, K2.then S26, ?_⟩
       rw [e5]
       exact fl6
      | false =>
       rw [hb1, hb2, Bool.not_false, Bool.and_self, if_pos rfl] at e5
       refine ZFF ?_
       walk_at "w"
       refine ⟨tyL fl6, ?_⟩
       walk_at "w"
       refine ZFA fl6 ?_ fun H7 f7 K7 => ?_
       ·rw [List.length_map]
        refine Nat.lt_of_le_of_lt (List.length_filter_le _ _) ?_
        rw [List.length_map, List.length_range]
        exact Nat.lt_of_lt_of_le hi (Nat.le_trans (show rows.toNat ≤ 1000 by omega) (by decide))
       walk_at "w"
       refine ⟨⟨_, _, _, rfl⟩, (K2.then S26).trans K7, ?_⟩
       rw [f7, e5, List.map_append]
       rfl
    ·rintro i' σ'' H4 hi' ⟨⟨o, rfl⟩, S4, vs4, f4, hl4, hE4⟩
     have hi2 : i' < us.length := by rw [hul]; exact hi'
     refine ⟨⟨_, _, SqL.of (S4 _ _ gT3), List.getElem?_eq_getElem hi2⟩, ?_⟩
     rintro v H'' ⟨rfl, hv⟩
     have hv := hv _ (SqL.of (S4 _ _ gT3))
     obtain ⟨c, q, rfl, hq, hc⟩ := (pT3.same S4).at hv
     have oq := hok q (List.mem_of_getElem? hq)
     have e3 : mt.take (i' + 1) = mt.take i' ++ [q] := by rw [List.take_succ, hq]; rfl
     have q2 : ¬ (q.1 * 1 < (low + (0 + (i : Int)) * tall) * q.2) ↔ 0 + (i : Int) ≤ fl low tall q := by rw [Int.mul_one, ZLp hta oq.1]; omega
     walk_at "w"
     refine ZDx (by show 2 ≤ sizeLine; decide) fun t5 H5 n5 f5 S5 => ?_
     walk_at "w"
     refine ⟨c, t5, q, (_, _), rfl, S5 _ _ hc, f5, oq.2.1, oq.2.2, ZPw hlow htb (by omega) (by omega), bn1.mono (by decide), ?_⟩
     walk_at "w"
     have f45 := S5 _ _ f4
     refine ZIA (fun h2 => ?_) (fun h2 => ?_)
     ·have h2 := q2.mp h2
      walk_at "w"
      refine ⟨vs4, f45, Nat.lt_of_le_of_lt hl4 (Nat.lt_of_lt_of_le (show i' < 1000 by omega) (by decide)), ⟨_, rfl⟩, (S4.trans S5).kpN n4 Kp.upd, _, ZDu, by rw [List.length_append]; simp only [List.length_cons, List.length_nil]; omega, ?_⟩
      rw [e3, List.any_append, List.any_cons, decide_eq_true h2]
      cases vs4 <;> simp
     ·have h2 : ¬ (0 + (i : Int) ≤ fl low tall q) := fun z => q2.mpr z h2
      refine ⟨⟨_, rfl⟩, S4.trans S5, vs4, f45, by omega, ?_⟩
      rw [e3, List.any_append, List.any_cons, decide_eq_false h2, List.any_nil, Bool.or_false, Bool.or_false]
      exact hE4
   ·rintro i' σ' H3 hi' ⟨⟨o, rfl⟩, S3, vs3, f3, hl3, hE3⟩
    have hi2 : i' < us.length := by rw [hul]; exact hi'
    refine ⟨⟨_, _, SqL.of (S3 _ _ gT2), List.getElem?_eq_getElem hi2⟩, ?_⟩
    rintro v H'' ⟨rfl, hv⟩
    have hv := hv _ (SqL.of (S3 _ _ gT2))
    obtain ⟨c, q, rfl, hq, hc⟩ := (pT2.same S3).at hv
    have oq := hok q (List.mem_of_getElem? hq)
    have e3 : mt.take (i' + 1) = mt.take i' ++ [q] := by rw [List.take_succ, hq]; rfl
    have q1 : (q.1 * 1 < (low + (0 + (i : Int) + 1) * tall) * q.2) ↔ fl low tall q ≤ 0 + (i : Int) := by rw [Int.mul_one]; exact (ZVy hta oq.1).symm
    walk_at "w"
    refine ZDx (by show 2 ≤ sizeLine; decide) fun t5 H5 n5 f5 S5 => ?_
    walk_at "w"
    refine ⟨c, t5, q, (_, _), rfl, S5 _ _ hc, f5, oq.2.1, oq.2.2, ZPw hlow htb (by omega) (by omega), bn1.mono (by decide), ?_⟩
    walk_at "w"
    have f35 := S5 _ _ f3
    refine ZEP (fun h2 => ?_) (fun h2 => ?_)
    ·have h2 := q1.mp h2
     walk_at "w"
     refine ⟨vs3, f35, Nat.lt_of_le_of_lt hl3 (Nat.lt_of_lt_of_le (show i' < 1000 by omega) (by decide)), ⟨_, rfl⟩, (S3.trans S5).kpN n3 Kp.upd, _, ZDu, by rw [List.length_append]; simp only [List.length_cons, List.length_nil]; omega, ?_⟩
     rw [e3, List.any_append, List.any_cons, decide_eq_true h2]
     cases vs3 <;> simp
    ·have h2 : ¬ (fl low tall q ≤ 0 + (i : Int)) := fun z => h2 (q1.mpr z)
     refine ⟨⟨_, rfl⟩, S3.trans S5, vs3, f35, by omega, ?_⟩
     rw [e3, List.any_append, List.any_cons, decide_eq_false h2, List.any_nil, Bool.or_false, Bool.or_false]
     exact hE3
  ·rintro σ H2 ⟨⟨v6, v7, v8, rfl⟩, K2, f2⟩
   walk_at "w"
   exact k l1 _ H2 n1 f2 (ZT0 _ _) (S1.kpN n1 K2)
def ZEz (H : Hp) (vs : List V) (rss : List (List Int)) : Prop := Paired (fun v (rs : List Int) => ∃ b, v = .ref b ∧ H b = some (.lst (rs.map V.int))) vs rss
theorem ZEz.same {H H' : Hp} {vs : List V} {rss : List (List Int)} (h : ZEz H vs rss) (s : ZDn H H') : ZEz H' vs rss := Paired.mapP h fun _ _ ⟨b, e, z⟩ => ⟨b, e, s _ _ z⟩
theorem ZEz.snoc {H : Hp} : ∀ {vs : List V} {rss : List (List Int)}, ZEz H vs rss → ∀ {b : Addr} {rs : List Int}, H b = some (.lst (rs.map V.int)) → ZEz H (vs ++ [.ref b]) (rss ++ [rs])
 | _, _, .nil, _, _, e => .cons ⟨_, rfl, e⟩ .nil
 | _, _, .cons h t, _, _, e => .cons h (ZEz.snoc t e)
theorem ZEz.at {H : Hp} : ∀ {vs : List V} {rss : List (List Int)}, ZEz H vs rss → ∀ {i : Nat} {v : V}, vs[i]? = some v → ∃ b rs, v = .ref b ∧ rss[i]? = some rs ∧ H b = some (.lst (rs.map V.int))
 | _, _, .nil, _, _, e => by simp at e
 | _, _, .cons ⟨b, e1, e2⟩ t, i, v, e => by
  cases i with
  | zero => exact ⟨b, _, by simpa [e1] using e.symm, rfl, e2⟩
  | succ i => exact ZEz.at t (by simpa using e)
def ZV2 (cv : PL) (b y m low tall rows : Int) (rss : List (List Int)) : Prop := rss.length = m.toNat ∧ ∀ (k : Nat) rs, rss[k]? = some rs → ZJB ((ZE4 (inCol cv b (b + m * y)) (b + (k : Int) * y) (b + (k : Int) * y + y)).map (fl low tall)) rows rs
theorem ZMw {H : Hp} {l : Addr} {o : HO} : ∀ {vs : List V} {rss : List (List Int)}, ZEz H vs rss → (∀ v ∈ vs, v ≠ .ref l) → ZEz (upd H l o) vs rss
 | _, _, .nil, _ => .nil
 | _, _, .cons ⟨b, e1, e2⟩ t, hn => .cons ⟨b, e1, by rw [ZD6 (fun z => hn _ (List.mem_cons_self ..) (by rw [e1, z]))]; exact e2⟩ (ZMw t fun v hv => hn v (List.mem_cons_of_mem _ hv))
def ZT2 (K : W.Frag) : Sp := fun vs H Q _ => ∃ (t q p : Addr) (cv : PL) (b y m low tall rows : Int), vs = [.ref t, .ref q, .ref p] ∧ PrT H t cv ∧ Win H q b y m ∧ Hts H p low tall rows ∧ Asc cv ∧ BP cv ∧ cv.length ≤ 100 ∧
 ∀ (u : Addr) (vs : List V) (rss : List (List Int)) (H' : Hp), H' u = some (.lst vs) → ZEz H' vs rss → ZV2 cv b y m low tall rows rss → ZDn H H' → Q (.ref u) H'
theorem ZGD : ZDs ["_law_curve", "_law_window", "_law_heights", "_law_begin", "_law_wide", "_law_many", "_law_samples", "_law_ends"] ["_law_curve", "_law_window", "_law_heights"] (ZDl ZGg) := ZD8
theorem ZPz (T : Txt K mg a) : ZDw P w K mg base CX0 3 a.ZAH a.ZAS ["_law_curve", "_law_window", "_law_heights"] (ZT2 K) := by
 refine T.ZBf.ok ZGD (by walk_at "l") (fun cdv A outer s H vs Q E hr h => ?_)
 ·obtain ⟨t, q, p, cv, b, y, m, low, tall, rows, rfl, hT, ⟨hq, hb, hy, hby, hm1, hm2⟩, hh, hasc, hbp, hlen, k⟩ := h
  obtain ⟨us, gT, pT⟩ := id hT
  have hul : us.length = cv.length := pT.length
  refine ⟨_, QB.h (ZDj (ZEy (qv 1) (ZEb (n := 3) K rfl rfl (ZDq (qgN (i := 3) ZGD.nd) (ZDq (qgN (i := 4) ZGD.nd) (ZDq (qgN (i := 5) ZGD.nd) ZEQ))))) (ZDj (ZTH (i := 6) ZGD.nd rfl (by walk_at "o") (ZFs (N := ["_law_curve", "_law_window", "_law_heights", "_law_begin", "_law_wide", "_law_many", "_law_samples", "_law_ends"]) (sc := ZDl ZGg) (own := ["_law_sample"]) (caps := ["_law_begin", "_law_wide", "_law_many"]) (ks := [3, 4, 5]) rfl rfl rfl ⟨rfl, by decide +kernel, by decide +kernel, by decide +kernel, by decide +kernel, rfl, by decide +kernel⟩ (ZHE K rfl (qv 0)) (fun _ _ _ _ _ => ZEc (i := 0) (show List.Nodup (α := Str) ["_law_sample", "_law_begin", "_law_wide", "_law_many"] from by decide +kernel) rfl (by walk_at "o") (.inr rfl)) (fun _ _ _ _ _ => ZHD (ZHC ZGh ZF0 (qv 1) (ZD2 (ZD5 K rfl) (qv 0) ZDk) (ZDr ZEN (qv 1) (ZDr ZEE (qv 2) (qv 3))))) (fun _ _ _ _ _ => qv 0))) (ZDj (ZH3 (N := ["_law_curve", "_law_window", "_law_heights", "_law_begin", "_law_wide", "_law_many", "_law_samples", "_law_ends"]) (sc := ZDl ZGg) (own := ["_law_k"]) (caps := ["_law_begin", "_law_wide"]) (ks := [3, 4]) (i := 7) rfl rfl rfl ⟨rfl, by decide +kernel, by decide +kernel, by decide +kernel, by decide +kernel, rfl, by decide +kernel⟩ ZGD.nd rfl (by walk_at "o") (ZFi rfl T.ZV (ZDh (qv 5) ZDi)) (fun _ _ _ _ _ => ZEc (i := 0) (show List.Nodup (α := Str) ["_law_k", "_law_begin", "_law_wide"] from by decide +kernel) rfl (by walk_at "o") (.inr rfl)) (fun _ _ _ _ _ => ZFS) (fun _ _ _ _ _ => ZDr ZEN (qv 1) (ZDr ZEE (qv 0) (qv 2)))) (ZDm (ZD1 (ZFs (N := ["_law_curve", "_law_window", "_law_heights", "_law_begin", "_law_wide", "_law_many", "_law_samples", "_law_ends"]) (sc := ZDl ZGg) (own := ["_law_x"]) (caps := ["_law_heights", "_law_samples", "_law_wide"]) (ks := [2, 6, 4]) rfl rfl rfl ⟨rfl, by decide +kernel, by decide +kernel, by decide +kernel, by decide +kernel, rfl, by decide +kernel⟩ (ZFH K rfl (qv 7)) (fun _ _ _ _ _ => ZEc (i := 0) (show List.Nodup (α := Str) ["_law_x", "_law_heights", "_law_samples", "_law_wide"] from by decide +kernel) rfl (by walk_at "o") (.inr rfl)) (fun _ _ _ _ _ => ZFS) (fun _ _ _ _ _ => qcS (ZPy T) hr T.ZCj T.ZBZ.kp T.ZCg (ZDh (qcS (ZRv T) hr T.ZCz T.ZB3.kp T.ZCs (ZDh (qv 2) (ZDh (qv 0) (ZDh (ZDr ZEN (qv 0) (qv 3)) ZDi)))) (ZDh (qv 1) ZDi))))))))), ?_⟩
  walk_at "s"
  walk_at "w"
  intro l n1
  refine ZEw cv.length (fun i σ' H' => (∃ o, σ' = [o, some (.int b), some (.int y), some (.int m)]) ∧ ZDn H H' ∧ ∃ vs, H' l = some (.lst vs) ∧ ZDt H' vs (inCol (cv.take i) b (b + y * m))) ?_ ?_ ?_
  ·exact ⟨⟨none, rfl⟩, ZDn.new n1, [], ZDu, .nil⟩
  ·rintro σ H1 ⟨_, S1, vs1, f1, hP1⟩
   refine ⟨⟨_, SqT.of (S1 _ _ gT), by rw [hul]; exact Nat.le_refl _⟩, ?_⟩
   rw [List.take_length, Int.mul_comm y m] at hP1
   walk_at "w"
   refine ZHB (by omega) (by omega) ?_
   intro l2 n2
   refine ZEw m.toNat (fun i σ' H' => (∃ o, σ' = [o, some (.int b), some (.int y)]) ∧ ZDn H1 H' ∧ H' l2 = some (.lst (((List.range i).map fun (j : Nat) => b + (j : Int) * y).map V.int))) ?_ ?_ ?_
   ·exact ⟨⟨none, rfl⟩, ZDn.new n2, ZDu⟩
   ·rintro σ H2 ⟨_, S2, f2⟩
    refine ⟨Nat.le_refl _, ?_⟩
    have f12 := S2 _ _ f1
    have S02 := S1.trans S2
    walk_at "w"
    intro l3 n3
    refine ZEw m.toNat (fun i σ' H' => (∃ o, σ' = [o, some (.ref p), some (.ref l), some (.int y)]) ∧ ZDn H2 H' ∧ ∃ vs rss, H' l3 = some (.lst vs) ∧ ZEz H' vs rss ∧ rss.length = i ∧ (∀ v ∈ vs, v ≠ .ref l3) ∧ ∀ (k : Nat) rs, rss[k]? = some rs → ZJB ((ZE4 (inCol cv b (b + m * y)) (b + (k : Int) * y) (b + (k : Int) * y + y)).map (fl low tall)) rows rs) ?_ ?_ ?_
    ·exact ⟨⟨none, rfl⟩, ZDn.new n3, [], [], ZDu, .nil, rfl, fun v hv => (by cases hv), fun k o h => by simp at h⟩
    ·rintro σ H3 ⟨_, S3, vs, os, f3, hD, ho, _, hI⟩
     refine ⟨⟨_, SqL.of (S3 _ _ f2), by simp⟩, ?_⟩
     walk_at "w"
     exact k l3 vs os H3 f3 hD ⟨ho, hI⟩ (S02.trans S3)
    ·rintro i σ H3 hi ⟨⟨o, rfl⟩, S3, vs, os, f3, hD, ho, hne, hI⟩
     have hx0 : (((List.range m.toNat).map fun (j : Nat) => b + (j : Int) * y).map V.int)[i]? = some (.int (b + (i : Int) * y)) := by
      rw [List.getElem?_map, List.getElem?_map, List.getElem?_range hi]
      rfl
     refine ⟨⟨_, _, SqL.of (S3 _ _ f2), hx0⟩, ?_⟩
     rintro x H'' ⟨rfl, hx⟩
     have hx := hx _ (SqL.of (S3 _ _ f2))
     rw [hx0] at hx
     obtain rfl := Option.some.inj hx
     have hbx := ZPs hb hby (k := (i : Int)) (by omega) (by omega)
     have b1 : Bn 200 (b + (i : Int) * y) := hbx.mono (by decide)
     have b2 : Bn 200 (b + (i : Int) * y + y) := (hbx.add (hby.mono (by decide))).mono (by decide)
     walk_at "w"
     refine ZFF ?_
     walk_at "w"
     refine ⟨l, _, _, _, rfl, ⟨vs1, S3 _ _ f12, (hP1.same S2).same S3⟩, Asc.inCol hasc, BP.inCol hbp, Nat.le_trans (List.length_filter_le _ _) hlen, b1, b2, fun l4 H4 n4 hL4 hl4 S4 => ?_⟩
     walk_at "w"
     refine ⟨l4, p, _, low, tall, rows, rfl, hL4, ZVc (Asc.inCol hasc) (BP.inCol hbp) b1 b2, hl4, hh.same (S02.trans (S3.trans S4)), fun v o2 H5 nv5 hd5 hI5 S5 => ?_⟩
     have S35 := S4.trans S5
     have f5 := S35 _ _ f3
     have nv3 : v ≠ l3 := fun z => by rw [z, S4 _ _ f3] at nv5; cases nv5
     have hvl : vs.length = os.length := Paired.length hD
     refine ⟨vs, f5, ?_, ⟨_, rfl⟩, (S3.trans S35).kpN n3 Kp.upd, vs ++ [.ref v], os ++ [o2], ZDu, ?_, by simp [ho], ?_, ?_⟩
     ·rw [hvl, ho]
      exact Nat.lt_of_lt_of_le hi (Nat.le_trans (show m.toNat ≤ 1000 by omega) (by decide))
     ·refine ZEz.snoc ?_ (by rw [ZD6 nv3]; exact hd5)
      exact ZMw (hD.same S35) hne
     ·intro x hx
      rcases List.mem_append.mp hx with hx | hx
      ·exact hne x hx
      ·rw [List.mem_singleton.mp hx]
       exact fun z => nv3 (by cases z; rfl)
     ·intro k' o' h'
      rw [List.getElem?_append] at h'
      split at h'
      ·exact hI k' o' h'
      ·have : k' = i := by
        have := (List.getElem?_eq_some_iff.mp h').1
        simp at this
        omega
       subst this
       rw [ho, Nat.sub_self] at h'
       have : o2 = o' := by simpa using h'
       subst this
       exact hI5
   ·rintro i σ H2 hi ⟨⟨o, rfl⟩, S2, f2⟩
    refine ⟨hi, ?_⟩
    rintro x H'' ⟨rfl, rfl⟩
    walk_at "w"
    refine ZFF ?_
    walk_at "w"
    refine ⟨_, f2, ?_, ⟨_, rfl⟩, S2.kpN n2 Kp.upd, ?_⟩
    ·rw [List.length_map, List.length_map, List.length_range]
     exact Nat.lt_of_lt_of_le hi (Nat.le_trans (show m.toNat ≤ 1000 by omega) (by decide))
    ·rw [ZDu, List.range_succ, List.map_append, List.map_append]
     simp only [List.map_cons, List.map_nil, Int.zero_add]
  ·rintro i σ H1 hi ⟨⟨o, rfl⟩, S1, vs, f, hPc⟩
   have hi2 : i < us.length := by rw [hul]; exact hi
   refine ⟨⟨_, _, SqT.of (S1 _ _ gT), List.getElem?_eq_getElem hi2⟩, ?_⟩
   rintro v H'' ⟨rfl, hv⟩
   have hv := hv _ (SqT.of (S1 _ _ gT))
   obtain ⟨c, q1, rfl, hq1, hc⟩ := (pT.same S1).at hv
   have e3 : cv.take (i + 1) = cv.take i ++ [q1] := by
    rw [List.take_succ, hq1]
    rfl
   have e4 : inCol (cv.take (i + 1)) b (b + y * m) = inCol (cv.take i) b (b + y * m) ++ (if (decide (b ≤ q1.1) && decide (q1.1 < b + y * m)) = true then [q1] else []) := by
    rw [e3, inCol, List.filter_append]
    congr 1
    simp only [List.filter_cons, List.filter_nil]
   walk_at "w"
   refine ZEP (fun h1 => ?_) (fun h1 => ?_)
   ·walk_at "w"
    refine ZEP (fun h2 => ?_) (fun h2 => ?_)
    ·walk_at "w"
     refine ⟨vs, f, ?_, ⟨_, rfl⟩, ?_, ?_⟩
     ·have e := hPc.length
      rw [e]
      refine Nat.lt_of_le_of_lt (List.length_filter_le _ _) ?_
      rw [List.length_take]
      exact Nat.lt_of_le_of_lt (Nat.min_le_left _ _) (Nat.lt_of_lt_of_le (Nat.lt_of_lt_of_le hi hlen) (by decide))
     ·exact S1.kpN n1 Kp.upd
     ·refine ⟨_, ZDu, ?_⟩
      rw [e4, decide_eq_true h1, decide_eq_true h2, Bool.and_self, if_pos rfl]
      exact ZDt.kpL Kp.upd f (hPc.snoc hc)
    ·refine ⟨⟨_, rfl⟩, S1, vs, f, ?_⟩
     rw [e4, decide_eq_false h2, Bool.and_false, if_neg (by decide), List.append_nil]
     exact hPc
   ·walk_at "w"
    refine ZE0 ?_
    refine ⟨⟨_, rfl⟩, S1, vs, f, ?_⟩
    rw [e4, decide_eq_false h1, Bool.false_and, if_neg (by decide), List.append_nil]
    exact hPc
end
theorem ZT3 {fs : List Int} {rows : Int} {rs : List Int} (h0 : 0 ≤ rows) (h : ZJB fs rows rs) : (rs = [] → ZFV fs rows none) ∧ ∀ a b, rs[0]? = some a → rs[rs.length - 1]? = some b → ZFV fs rows (some (a, b)) := by
 rcases h with ⟨e1, e2⟩ | ⟨m, M, h1, h2, h3, h4, e⟩
 ·refine ⟨fun _ => .inl ⟨e1, rfl⟩, fun a b ha _ => ?_⟩
  rw [e2] at ha
  cases ha
 ·rw [e]
  exact ZRL h0 h1 h2 h3 h4
section
variable {P : Program} {w : World} {K : W.Frag} {mg : Str → Option Value} {base : Heap} {a : Ad}
def ZVe (K : W.Frag) : Sp := fun vs H Q _ => ∃ (l : Addr) (us : List V) (rss : List (List Int)), vs = [.ref l] ∧ H l = some (.lst us) ∧ ZEz H us rss ∧ rss.length ≤ 1000 ∧
 ∀ (u : Addr) (vs : List V) (os : List (Option (Int × Int))) (H' : Hp), H' u = some (.tup vs) → ZEo H' vs os → os.length = rss.length → (∀ (k : Nat) o rs, os[k]? = some o → rss[k]? = some rs → (rs = [] ∧ o = none) ∨ ∃ x y, o = some (x, y) ∧ rs[0]? = some x ∧ rs[rs.length - 1]? = some y) → ZDn H H' → Q (.ref u) H'
theorem ZP0 : ZDs ["_law_rows_here"] ["_law_rows_here"] (ZDl ZIU) := ZD8
theorem ZP1 (T : Txt K mg a) : ZDw P w K mg base CX0 1 a.ZAb a.ZAZ ["_law_rows_here"] (ZVe K) := by
 refine T.ZBg.ok ZP0 (by walk_at "l") (fun cdv A outer s H vs Q E hr h => ?_)
 ·obtain ⟨l, us, rss, rfl, gT, hR, hlen, k⟩ := h
  have hu := ZGI hr
  have hul : us.length = rss.length := Paired.length hR
  refine ⟨_, QB.h (ZDm (ZD1 (ZE1 (ZFT K rfl) rfl T.ZO ZFR (ZDh (ZFs (N := ["_law_rows_here"]) (sc := ZDl ZIU) (own := ["_law_row"]) (caps := []) (ks := []) rfl rfl rfl ⟨rfl, by decide +kernel, by decide +kernel, by decide +kernel, by decide +kernel, rfl, by decide +kernel⟩ (ZFH K rfl (qv 0)) (fun _ _ _ _ _ => ZEc (i := 0) (show List.Nodup (α := Str) ["_law_row"] from by decide +kernel) rfl (by walk_at "o") (.inr rfl)) (fun _ _ _ _ _ => ZFS) (fun _ _ _ _ _ => ZGZ (ZD3 (ZJp K rfl hu) (qv 0) (ZFh ZDi) (ZEB _)) (ZEA (ZDh (ZD2 (ZFG K rfl) (qv 0) ZDk) (ZDh (ZD2 (ZFG K rfl) (qv 0) (ZN3 ZLv ZDk)) ZDi))) ZE8)) ZDi)))), ?_⟩
  walk_at "s"
  walk_at "w"
  intro l1 n1
  refine ZEw us.length (fun i σ' H' => (∃ o, σ' = [o]) ∧ ZDn H H' ∧ ∃ vs os, H' l1 = some (.lst vs) ∧ ZEo H' vs os ∧ os.length = i ∧ ∀ (k : Nat) o rs, os[k]? = some o → rss[k]? = some rs → (rs = [] ∧ o = none) ∨ ∃ x y, o = some (x, y) ∧ rs[0]? = some x ∧ rs[rs.length - 1]? = some y) ?_ ?_ ?_
  ·exact ⟨⟨none, rfl⟩, ZDn.new n1, [], [], ZDu, .nil, rfl, fun k o rs h => by simp at h⟩
  ·rintro σ' H1 ⟨_, S1, vs, os, f1, hD, ho, hI⟩
   refine ⟨⟨_, SqL.of (S1 _ _ gT), Nat.le_refl _⟩, ?_⟩
   walk_at "w"
   refine ZFr (SqL.of f1) fun u H2 n2 f2 S2 => ?_
   exact k u vs os H2 f2 (hD.same S2) (ho.trans hul) hI (S1.trans S2)
  ·rintro i σ' H1 hi ⟨⟨o, rfl⟩, S1, vs, os, f1, hD, ho, hI⟩
   refine ⟨⟨_, _, SqL.of (S1 _ _ gT), List.getElem?_eq_getElem hi⟩, ?_⟩
   rintro v H'' ⟨rfl, hv⟩
   have hv := hv _ (SqL.of (S1 _ _ gT))
   obtain ⟨b, rs, rfl, hrs, hb⟩ := (hR.same S1).at hv
   have step : ∀ (v : V) (o2 : Option (Int × Int)) (H2 : Hp), ZFc H2 v o2 → ((rs = [] ∧ o2 = none) ∨ ∃ x y, o2 = some (x, y) ∧ rs[0]? = some x ∧ rs[rs.length - 1]? = some y) → ZDn H'' H2 → ∃ xs, H2 l1 = some (.lst xs) ∧ xs.length < sizeLine ∧ (∃ o, [some (V.ref b)] = [o]) ∧ ZDn H (upd H2 l1 (.lst (xs ++ [v]))) ∧ ∃ vs os, upd H2 l1 (.lst (xs ++ [v])) l1 = some (.lst vs) ∧ ZEo (upd H2 l1 (.lst (xs ++ [v]))) vs os ∧ os.length = i + 1 ∧ ∀ (k : Nat) o rs, os[k]? = some o → rss[k]? = some rs → (rs = [] ∧ o = none) ∨ ∃ x y, o = some (x, y) ∧ rs[0]? = some x ∧ rs[rs.length - 1]? = some y := by
    intro v o2 H2 hd2 ho2 S2
    have f2 := S2 _ _ f1
    refine ⟨vs, f2, ?_, ⟨_, rfl⟩, (S1.trans S2).kpN n1 Kp.upd, vs ++ [v], os ++ [o2], ZDu, ((hD.same S2).snoc hd2).mapP fun _ _ d => d.kpL Kp.upd f2, by simp [ho], ?_⟩
    ·rw [hD.len, ho]
     exact Nat.lt_of_lt_of_le (show i < 1001 by omega) (by decide)
    ·intro k' o' rs' h' hr'
     rw [List.getElem?_append] at h'
     split at h'
     ·exact hI k' o' rs' h' hr'
     ·have : k' = i := by
       have := (List.getElem?_eq_some_iff.mp h').1
       simp at this
       omega
      subst this
      rw [ho, Nat.sub_self] at h'
      have : o2 = o' := by simpa using h'
      subst this
      rw [hrs] at hr'
      cases hr'
      exact ho2
   walk_at "w"
   refine ZFF ?_
   walk_at "w"
   refine ZDx (by show 0 ≤ sizeLine; decide) fun l2 H2 n2 f2 S2 => ?_
   have hb2 := S2 _ _ hb
   refine ZJq (SqL.of hb2) (SqL.of f2) ?_
   cases rs with
   | nil =>
    walk_at "w"
    refine ZE0 ?_
    walk_at "w"
    exact step _ none H2 .non (.inl ⟨rfl, rfl⟩) S2
   | cons x r =>
    walk_at "w"
    refine ZFF ?_
    walk_at "w"
    refine ZKJ (SqL.of hb2) (ZKh (j := 0) rfl) ?_
    walk_at "w"
    refine ZKJ (SqL.of hb2) (ZOl (ns := x :: r) (by simp)) ?_
    walk_at "w"
    refine ZDx (by show 2 ≤ sizeLine; decide) fun t3 H3 n3 f3 S3 => ?_
    refine step _ (some (x, (x :: r).getLast (by simp))) H3 (.pr f3) (.inr ⟨x, _, rfl, rfl, ?_⟩) (S2.trans S3)
    rw [List.getLast_eq_getElem]
    exact List.getElem?_eq_getElem _
end
theorem ZGV {b y m : Int} (h1 : 0 < y) (h2 : y ≤ 2000) (h3 : 1 ≤ m) (h4 : m ≤ 6) (h5 : -20000 ≤ b) (h6 : b ≤ 20000) : ZMs b y m := by
 have g1 : 0 ≤ m * y := Int.mul_nonneg (by omega) (by omega)
 have g2 : m * y ≤ 6 * 2000 := Int.mul_le_mul h4 h2 (by omega) (by decide)
 exact ⟨h1, h3, by omega, ⟨by omega, by omega⟩, ⟨by omega, by omega⟩⟩
theorem Pur.fr {H H' : Hp} {p : Addr} {l : List Addr} (h : Pur H p) (f : FrL l H H') (n : p ∉ l) : Pur H' p := by
 obtain ⟨x, m, c, e, r⟩ := h
 exact ⟨x, m, c, f _ _ e n, r⟩
theorem Pur.no {H : Hp} {p : Addr} (h : Pur H p) : ∀ b ∈ [p], ∀ xs, H b ≠ some (.tup xs) := fun b hb xs z => by
 obtain rfl : b = p := (by simpa using hb)
 obtain ⟨x, m, c, e, r⟩ := h
 rw [e] at z; cases z
theorem ZDp.pur {a : Ad} {H H' : Hp} {S : SA} {n : Int} {sm : PL} {c : Nat} {ds : List (Int × Option Int)} {ts : List Int} {ws : List V} {p : Addr} (h : ZDp a H S n sm c ds ts ws) (hp : Pur H p) (k : Kp p H H') (np : p ∉ S.ls) : ZDp a H' S n sm c ds ts ws := by
 obtain ⟨x, m, y, e, _⟩ := hp
 exact h.kpL k e np
theorem ZEL.pur {a : Ad} {H H' : Hp} {S : SA} {v d p : Addr} {b y m n : Int} {kvs : List (List Key × V)} {e : Nat} {sm : PL} {ts : List Int} (h : ZEL a H S v d b y m n kvs e sm ts) (hp : Pur H p) (k : Kp p H H') : ZEL a H' S v d b y m n kvs e sm ts := by
 obtain ⟨dx, q, g1, _, g3, _⟩ := id h
 refine h.frL (FrL.kp k (l := [p]) (by simp)) (fun z => ?_) (fun z => ?_) hp.no
 ·obtain ⟨x, m, y, e, _⟩ := hp
  rw [List.mem_singleton] at z
  rw [z, e] at g1; cases g1
 ·obtain ⟨x, m, y, e, _⟩ := hp
  rw [List.mem_singleton] at z
  rw [z, e] at g3; cases g3
theorem ZT4 {c : TT} {t u : TS} {D : ZEp} {σ : St} {H : Hp} (P : St → Hp → Prop) (h1 : ∀ σ' H', P σ' H' → t D σ' H') (h2 : ∀ t' : TS, (∀ σ' H', P σ' H' → t' D σ' H') → ZH9 c t' u D σ H) : ZH9 c t u D σ H := h2 t h1
theorem ZDp.keepPur {a : Ad} {H H' : Hp} {S : SA} {n : Int} {sm : PL} {c : Nat} {ds : List (Int × Option Int)} {ts : List Int} {ws : List V} {q : Addr} (h : ZDp a H S n sm c ds ts ws) (f : FrS S H H') (e : Pur H q) (nb : q ∉ S.ls) : Pur H' q := by
 obtain ⟨x, m, y, g, r⟩ := e
 exact ⟨x, m, y, h.keepL f g nb, r⟩
def ZP2 (a : Ad) : Sp := fun vs H Q _ => ∃ (S : SA) (p v d : Addr) (b y m k n B Y : Int) (kvs : List (List Key × V)) (e : Nat) (sm : PL) (c : Nat) (ds : List (Int × Option Int)) (ts : List Int), vs = [.ref v, .ref p] ∧ Pur H p ∧ p ∉ S.ls ∧ ZDp a H S n sm c ds ts [] ∧ ZEL a H S v d b y m k kvs e sm ts ∧ ts.length ≤ 1000 ∧ -B ≤ b ∧ b ≤ B ∧ y ≤ Y ∧ m ≤ 6 ∧ B ≤ 10000 ∧ Y ≤ 1000 ∧
 ∀ (d' : Addr) (b' y' m' : Int) (kvs' : List (List Key × V)) (H' : Hp), H d' = none → ZEL a H' S v d' b' y' m' k kvs' ts.length sm ts → ZDp a H' S n sm c ds ts [] → -(B + 3 * Y) ≤ b' → b' ≤ B + 3 * Y → y' ≤ 2 * Y → m' ≤ 6 → kvs'.length ≤ 6 → Pur H' p → FrL [p, v, d] H H' → Q .non H'
section
variable {P : Program} {w : World} {K : W.Frag} {mg : Str → Option Value} {base : Heap} {a : Ad}
local macro_rules | `(tactic| walk_at "rd") => `(tactic| first
 | with_reducible refine ZEO (by assumption) (‹Txt _ _ _›).ZD (‹Txt _ _ _›).ZK ZG2 ?_)
theorem ZFo : ZDs ["_law_view", "_law_purse_here", "_law_way", "_law_begin", "_law_wide", "_law_many"] ["_law_view", "_law_purse_here"] (ZDl ZHq) := ZD8
theorem ZMx (T : Txt K mg a) : ZDw P w K mg base CX0 7 a.Yn a.Yb ["_law_view", "_law_purse_here"] (ZP2 a) := by
 refine T.ZAC.ok ZFo (by walk_at "l") (fun cdv A outer s H vs Q E hr h => ?_)
 ·obtain ⟨S, p, v, d, b, y, m, k, n, B, Y, kvs, e, sm, c, ds, ts, rfl, hp, npS, hS, hV, hts, hb1, hb2, hy2, hm2, hB, hY, kk⟩ := h
  refine ⟨_, QB.h (ZDj (qsS (i := 2) ZFo.nd (qcS (ZEe T) hr.m T.ZG T.ZF.kp T.ZH (ZDh (qv 1) (ZDh ZDk ZDi)))) (ZDj (ZEy (ZEG K rfl (qv 0)) (ZEb (n := 3) K rfl rfl (ZDq (qgN (i := 3) ZFo.nd) (ZDq (qgN (i := 4) ZFo.nd) (ZDq (qgN (i := 5) ZFo.nd) ZEQ))))) (ZDm (ZEi (QW.pt (ZKK (ZD3 (ZGG) (qv 2) ZDk (ZEB _)) (ZIj (QW.pt (ZHz (ZD3 (ZGG) (qv 2) ZDk (ZEB _)) (ZG5 (ZD3 (ZGG) (ZDr ZGF (qv 4) ZDk) ZDk (ZEB _)))))))) (ZDm (ZDz (ZEm (qv 0) T.ZD T.ZCS (ZOe T) hr T.ZCR .nil ZEa (ZDh (ZDr ZE6 (qcS (ZEe T) hr.m T.ZG T.ZF.kp T.ZH (ZDh (qv 1) (ZDh ZDk ZDi))) ZDk) ZDi)))) (ZDm (ZEi (ZD3 (ZGG) (qv 2) ZDk (ZEB _)) (ZDm (ZDz (ZF8 (qv 0) T.ZD T.ZB0 (ZMu T) hr T.ZBq .nil ZEa))) (ZDm (ZEi (ZD3 (ZGG) (qv 2) ZDk (ZEB _)) (ZDm (ZDz (ZF8 (qv 0) T.ZD T.ZBO (ZK1 T) hr T.ZBG .nil ZEa))) (ZDm (ZDz (ZEm (qv 0) T.ZD T.ZAu (ZKc T) hr T.ZA2 .nil ZEa (ZDh (ZDr ZEN ZDk (qcS (ZEe T) hr.m T.ZG T.ZF.kp T.ZH (ZDh (qv 1) (ZDh ZDk ZDi)))) ZDi)))))))))))), ?_⟩
  walk_at "s"
  walk_at "w"
  refine ⟨p, _, rfl, hp, by decide, by decide, fun way H1 h1 h1' P1 K1 => ?_⟩
  have hS1 := hS.pur hp K1 npS
  have hV1 := hV.pur hp K1
  obtain ⟨dx, q, hv1, hW1, hd1, _⟩ := id hV1
  have hq1 := hW1.1
  obtain ⟨_, hy0, hm0, _⟩ := id hW1
  -- what a step leaves
  have fin : ∀ (H2 : Hp) (b' y' m' : Int), Pur H2 p → Kp p H H2 → ZEL a H2 S v d b y m k kvs e sm ts → -(B + 3 * Y) ≤ b' → b' ≤ B + 3 * Y → y' ≤ 2 * Y → 1 ≤ m' → m' ≤ 6 → ZG3 a H2 S v d k n kvs e sm c ds ts [] b' y' m' (fun _ H' => Q .non H') := by
   intro H2 b' y' m' P2 K2 hV2 g1 g2 g3 g40 g4 d' kvs1 kvs' H' n' e1 e2 e3 e4 e5 F
   obtain ⟨dx2, q2, hv2, _, hd2, _⟩ := id hV2
   have n0 : H d' = none := by
    cases hh : H d' with
    | none => rfl
    | some o =>
     by_cases z : d' = p
     ·obtain ⟨x, m, y, e, _⟩ := P2
      rw [z, e] at n'; cases n'
     ·rw [K2 _ _ hh z] at n'; cases n'
   refine kk d' b' y' m' kvs' H' n0 e4 e5 g1 g2 g3 g4 (by omega) (P2.fr F fun z => ?_) ((FrL.kp K2 (by simp)).trans (F.mono (by simp +contextual)))
   obtain ⟨x, m, y, e, _⟩ := P2
   simp only [List.mem_cons, List.not_mem_nil, or_false] at z
   rcases z with z | z
   ·rw [← z, e] at hv2; cases hv2
   ·rw [← z, e] at hd2; cases hd2
  repeat walk_at "ri"
  dsimp only
  refine ZT4 (fun σ' H' => σ' = [some (.ref v), some (.ref p), some (.int way), some (.int b), some (.int y), some (.int m)] ∧ H1 = H') ?_ ?_
  ·rintro σ' H' ⟨rfl, rfl⟩
   walk_at "w"
   refine ZEF hv1 ZFY ?_
   walk_at "w"
   refine ⟨p, _, rfl, P1, by decide, by decide, fun d2 H2 h2 h2' P2 K2 => ?_⟩
   have hV2 := hV1.pur P1 K2
   have hjy : -(3 * y) ≤ (d2 - 3) * y ∧ (d2 - 3) * y ≤ 3 * y := by
    have : d2 = 0 ∨ d2 = 1 ∨ d2 = 2 ∨ d2 = 3 ∨ d2 = 4 ∨ d2 = 5 ∨ d2 = 6 := by omega
    rcases this with rfl | rfl | rfl | rfl | rfl | rfl | rfl <;> omega
   walk_at "w"
   refine ⟨S, v, d, b, y, m, k, n, d2 - 3, kvs, e, sm, c, ds, ts, [], rfl, hS1.pur P1 K2 npS, hV2, by omega, ZUe (by omega) (by omega), ZGV (by omega) (by omega) hm0 hm2 (by omega) (by omega), fun d' kvs1 kvs' H' n' e1 e2 e3 e4 e5 F => ?_⟩
   walk_at "w"
   exact fin H2 _ y m P2 (K1.trans K2) hV2 (by omega) (by omega) (by omega) hm0 hm2 d' kvs1 kvs' H' n' e1 e2 e3 e4 e5 F
  intro t' ht'
  refine ZTb (fun σ' H' => σ' = [some (.ref v), some (.ref p), some (.int way), some (.int b), some (.int y), some (.int m)] ∧ H1 = H' ∧ way ≠ 0 ∧ (way = 2 → y % 2 = 0)) ?_ ?_
  ·rintro σ' H' ⟨rfl, rfl, hw0, hw2⟩
   walk_at "w"
   rw [ZGv]
   refine ZEP (fun e0 => ?_) (fun e0 => ?_)
   ·walk_at "w"
    refine ZEF hv1 ZFY ?_
    refine ⟨S, v, d, b, y, m, k, n, kvs, e, sm, c, ds, ts, [], rfl, hS1, hV1, by omega, ZGV (by omega) (by omega) hm0 hm2 (by omega) (by omega), fun d' kvs1 kvs' H' n' e1 e2 e3 e4 e5 F => ?_⟩
    walk_at "w"
    exact fin H1 b (y * 2) m P1 K1 hV1 (by omega) (by omega) (by omega) hm0 hm2 d' kvs1 kvs' H' n' e1 e2 e3 e4 e5 F
   ·walk_at "w"
    rw [ZGv]
    refine ZEP (fun e2 => ?_) (fun e2 => ?_)
    ·walk_at "w"
     refine ZEF hv1 ZFY ?_
     refine ⟨S, v, d, b, y, m, k, n, kvs, e, sm, c, ds, ts, [], rfl, hS1, hV1, by omega, hw2 e2, ZGV (by have := hw2 e2; omega) (by omega) hm0 hm2 (by omega) (by omega), fun d' kvs1 kvs' H' n' e1 e2 e3 e4 e5 F => ?_⟩
     walk_at "w"
     exact fin H1 b (y / 2) m P1 K1 hV1 (by omega) (by omega) (by omega) hm0 hm2 d' kvs1 kvs' H' n' e1 e2 e3 e4 e5 F
    ·walk_at "w"
     refine ZEF hv1 ZFY ?_
     walk_at "w"
     refine ⟨p, _, rfl, P1, by decide, by decide, fun d2 H2 h2 h2' P2 K2 => ?_⟩
     have hV2 := hV1.pur P1 K2
     walk_at "w"
     refine ⟨S, v, d, b, y, m, k, n, 1 + d2, kvs, e, sm, c, ds, ts, [], rfl, hS1.pur P1 K2 npS, hV2, by omega, ZGV (by omega) (by omega) (by omega) (by omega) (by omega) (by omega), fun d' kvs1 kvs' H' n' e1 e2 e3 e4 e5 F => ?_⟩
     walk_at "w"
     exact fin H2 b y (1 + d2) P2 (K1.trans K2) hV2 (by omega) (by omega) (by omega) (by omega) (by omega) d' kvs1 kvs' H' n' e1 e2 e3 e4 e5 F
  ·intro u' hu'
   walk_at "w"
   rw [ZGv]
   refine ZEP (fun e0 => ?_) (fun e0 => ?_)
   ·walk_at "w"
    exact ht' _ _ ⟨rfl, rfl⟩
   ·walk_at "w"
    rw [ZGv]
    refine ZEP (fun e2 => ?_) (fun e2 => ?_)
    ·walk_at "w"
     rw [ZGv]
     refine ZEP (fun e3 => ?_) (fun e3 => ?_)
     ·walk_at "w"
      exact ht' _ _ ⟨rfl, rfl⟩
     ·walk_at "w"
      exact hu' _ _ ⟨rfl, rfl, e0, fun _ => by omega⟩
    ·walk_at "w"
     exact hu' _ _ ⟨rfl, rfl, e0, fun z => absurd z e2⟩
def ZLq (K : W.Frag) : Sp := fun vs H Q _ => ∃ (s : Addr) (ns : List Int), vs = [.ref s] ∧ SqL K H s (ns.map V.int) ∧ ns.length ≤ 63 ∧ ∀ H', Q (.bl true) H'
theorem ZRw {sm cv : PL} {x z : Int} {o : Option (PL)} (hm : ∀ r, r ∈ cv ↔ r ∈ sm) (h : Is4 (inCol sm x z) o) : ZPt cv x z o := by
 have e : ∀ r, r ∈ inCol cv x z ↔ r ∈ inCol sm x z := fun r => by rw [ZDv, ZDv, hm]
 rcases h with ⟨h1, h2⟩ | ⟨q0, q1, q2, q3, h0, m0, m1, m2, m3, hb⟩
 ·refine .inl ⟨h1, List.eq_nil_iff_forall_not_mem.mpr fun r hr => ?_⟩
  have := (e r).mp hr
  rw [h2] at this
  cases this
 ·refine .inr ⟨q0, q1, q2, q3, h0, fun r hr => (e r).mpr ?_, fun r hr => ?_⟩
  ·simp only [List.mem_cons, List.not_mem_nil, or_false] at hr
   rcases hr with rfl | rfl | rfl | rfl <;> assumption
  ·have := hb r ((e r).mp hr)
   exact ⟨this.1, this.2.1, by omega, by omega⟩
theorem ZFB : ZDs ["_law_script", "_law_k", "_law_purse_here", "_law_store", "_law_held", "_law_j", "_law_time", "_law_view", "_law_heights", "_law_window", "_law_curve", "_law_runs_here", "_law_fours"] ["_law_script"] (ZDl ZF3) := ZD8
theorem ZVf (T : Txt K mg a) : ZDw P w K mg base CX0 9 a.ZCD a.ZCC ["_law_script"] (ZLq K) := by
 refine T.ZDY.ok ZFB (by walk_at "l") (fun cdv A outer s H vs Q E hr h => ?_)
 ·obtain ⟨s, ns, rfl, hS, hn, k⟩ := h
  have hu := ZGI hr
  have hu64 := hr.units
  refine ⟨_, QB.h (ZDj (ZE9 PassesOwn.never rfl (ZFi rfl T.ZV (ZDh (ZEJ (ZKH rfl) rfl T.YT ZHu (ZDh ZDk (ZDh (ZEJ (ZKI rfl) rfl T.YW ZHv (ZDh (ZEJ (ZH1 K rfl) rfl T.YX ZHt (ZDh (qv 0) ZDi)) (ZDh ZDk ZDi))) ZDi))) ZDi)) (qgN (i := 1) ZFB.nd) (ZDj (qsS (i := 2) ZFB.nd (qcS (ZOW T) hr.m T.ZCb T.ZBB.kp T.ZCQ (ZDh (qcS (ZPi T) hr.m T.ZCh T.ZBY.kp T.ZCk (ZDh (qv 0) (ZDh (qv 1) ZDi))) (ZDh (qv 1) ZDi)))) (ZDj (qsS (i := 3) ZFB.nd (ZRG (dvs := [V.non]) T.ZCi (ZJK T) hr rfl T.ZCx T.J8 (.cons rfl .nil) ZEa)) (ZDj (qsS (i := 4) ZFB.nd ZJf) (ZDj (ZE9 PassesOwn.never rfl (ZFi rfl T.ZV (ZDh (qcS (ZEe T) hr.m T.ZG T.ZF.kp T.ZH (ZDh (qv 2) (ZDh ZDk ZDi))) ZDi)) (qgN (i := 5) ZFB.nd) (ZDj (qsS (i := 6) ZFB.nd (ZDr ZE6 (qcS (ZEe T) hr.m T.ZG T.ZF.kp T.ZH (ZDh (qv 2) (ZDh ZDk ZDi))) ZDk)) (ZDj (ZGC hu (ZDr ZE6 (qcS (ZEe T) hr.m T.ZG T.ZF.kp T.ZH (ZDh (qv 2) (ZDh ZDk ZDi))) ZDk) (qv 4) (qv 6)) (ZDm (ZDz (ZEm (qv 3) T.ZI T.ZBu (ZMo T) hr.m T.ZBz .nil ZEa (ZDh (qv 6) (ZDh (ZG6 hu (qv 4) (qv 6)) ZDi)))))))) (ZDj (qsS (i := 7) ZFB.nd (ZNZ T.ZCu (ZJ1 T) hr.m rfl T.ZC8 T.ZAk .nil ZEa (ZDh (qv 3) (ZDh (ZEA (ZDh (ZDr ZE6 (qcS (ZEe T) hr.m T.ZG T.ZF.kp T.ZH (ZDh (qv 2) (ZDh ZDk ZDi))) ZDk) (ZDh (ZDr ZEN ZDk (qcS (ZEe T) hr.m T.ZG T.ZF.kp T.ZH (ZDh (qv 2) (ZDh ZDk ZDi)))) (ZDh (ZDr ZEN ZDk (qcS (ZEe T) hr.m T.ZG T.ZF.kp T.ZH (ZDh (qv 2) (ZDh ZDk ZDi)))) ZDi)))) ZDi)))) (ZDj (ZE9 PassesOwn.never rfl (ZFi rfl T.ZV (ZDh (qcS (ZEe T) hr.m T.ZG T.ZF.kp T.ZH (ZDh (qv 2) (ZDh ZDk ZDi))) ZDi)) (qgN (i := 5) ZFB.nd) (ZDj (ZEi (ZD3 (ZGG) (qcS (ZEe T) hr.m T.ZG T.ZF.kp T.ZH (ZDh (qv 2) (ZDh ZDk ZDi))) ZDk (ZEB _)) (ZDm (ZDz (ZF8 (qv 7) T.ZD T.Jb (ZIf T) hr.m T.JT .nil ZEa))) ZEZ) (ZDm (ZDz (qcS (ZMx T) hr.m T.ZBn T.ZAC.kp T.ZBk (ZDh (qv 7) (ZDh (qv 2) ZDi))))))) (ZDj (qsS (i := 8) ZFB.nd (ZEA (ZDh (ZDr ZE6 (qcS (ZEe T) hr.m T.ZG T.ZF.kp T.ZH (ZDh (qv 2) (ZDh ZDk ZDi))) ZDk) (ZDh (ZDr ZEN ZDk (qcS (ZEe T) hr.m T.ZG T.ZF.kp T.ZH (ZDh (qv 2) (ZDh ZDk ZDi)))) (ZDh (ZDr ZEN ZDk (qcS (ZEe T) hr.m T.ZG T.ZF.kp T.ZH (ZDh (qv 2) (ZDh ZDk ZDi)))) ZDi))))) (ZDj (qsS (i := 9) ZFB.nd (ZEG K rfl (qv 7))) (ZDj (qsS (i := 10) ZFB.nd (ZE1 (ZFT K rfl) rfl T.ZO ZFR (ZDh (ZM5 rfl rfl T.Yx (qv 4)) ZDi))) (ZDj (qsS (i := 11) ZFB.nd (qcS (ZP1 T) hr.m T.ZCe T.ZBg.kp T.ZCm (ZDh (qcS (ZPz T) hr.m T.ZCn T.ZBf.kp T.ZCf (ZDh (qv 10) (ZDh (qv 9) (ZDh (qv 8) ZDi)))) ZDi))) (ZDj (qsS (i := 12) ZFB.nd (ZF8 (qv 7) T.ZD T.Jb (ZIf T) hr.m T.JT .nil ZEa)) (ZDm (ZEi (QW.pt (ZKK (ZD3 (ZPD K rfl hu64) (qcS (ZOk T) hr.m T.ZCU T.ZA4.kp T.ZCY (ZDh (qv 12) (ZDh (qv 9) (ZDh (qv 8) ZDi)))) (qv 11) (ZEB _)) (ZIj (ZD3 (ZPD K rfl hu64) (qcS (ZKe T) hr.m T.ZBA T.Jy.kp T.ZA7 (ZDh (qv 10) (ZDh (qv 9) (ZDh (qv 8) ZDi)))) (qv 11) (ZEB _))))) (ZDm (ZD1 ZR4)) ZEZ)))))))))))))) (ZDm (ZD1 ZR4))), ?_⟩
  walk_at "s"
  walk_at "w"
  generalize hj : (if (if (8 : Int) < ((ns.map V.int).length : Int) then (8 : Int) else ((ns.map V.int).length : Int)) > 1 then (if (8 : Int) < ((ns.map V.int).length : Int) then (8 : Int) else ((ns.map V.int).length : Int)) else 1) = j
  have hj1 : 1 ≤ j := by rw [← hj]; split <;> omega
  have hj2 : j ≤ 8 := by rw [← hj]; split <;> (try split) <;> omega
  refine ZHB (by omega) (by omega) (ZHw (fun i σ H' => (∃ v1 v2 v3 v4 v5 v6 v7 v8 v9 v10 v11 v12, σ = [some (.ref s), v1, v2, v3, v4, v5, v6, v7, v8, v9, v10, v11, v12]) ∧ ZDn H H') ⟨⟨_, _, _, _, _, _, _, _, _, _, _, _, rfl⟩, ZDn.refl H⟩ ?_ ?_)
  ·rintro i σ H1 hi ⟨⟨v1, v2, v3, v4, v5, v6, v7, v8, v9, v10, v11, v12, rfl⟩, S1⟩
   have hi2 : (i : Int) < 8 := by omega
   walk_at "w"
   refine ⟨s, ns, _, rfl, S1.seq hS, by omega, ?_⟩
   walk_at "w"
   refine ⟨_, _, rfl, by omega, by omega, fun p H2 n2 P2 S2 => ?_⟩
   walk_at "w"
   refine ZKp fun x3 dx3 H3 n3 f3 S3 => ?_
   refine ⟨x3, dx3, .non, [], rfl, f3, .inl ⟨rfl, rfl⟩, List.nodup_nil, fun q hq => (by cases hq), by decide, fun S sm H4 hSp hfr4 hS4 hm4 hl4 K4 => ⟨rfl, ?_⟩⟩
   subst hSp
   obtain rfl : sm = [] := List.length_eq_zero_iff.mp (Nat.le_zero.mp hl4)
   have S24 : ZDn H2 H4 := fun e o g => K4 _ _ (S3 _ _ g) (ZD4 g n3)
   have P4 := P2.same S24
   have fr2 : ∀ b ∈ S.p :: S.own, H2 b = none := fun b hb => by
    rcases List.mem_cons.mp hb with rfl | hb
    ·exact n3
    ·exact ZG7 S3 (hfr4 b hb)
   have npS : p ∉ S.ls := fun z => by
    have := fr2 p (List.mem_cons_of_mem _ (SA.ls_own z))
    obtain ⟨x, m, y, e, _⟩ := P2
    rw [e] at this; cases this
   walk_at "w"
   refine ZJh fun hd H5 n5 f5 S5 => ?_
   have nhS : hd ≠ S.d1 := (hS4.fresh n5).2
   have S25 := S24.trans S5
   have n25 : H2 hd = none := ZG7 S24 n5
   have P5 := P4.same S5
   have nhp : hd ≠ p := P4.neN n5
   walk_at "w"
   refine ⟨p, _, rfl, P5, by decide, by decide, fun cnt H6 h6 h6' P6 K6 => ?_⟩
   have S12 : ZDn H1 H2 := S2
   have new1 : ∀ {H' : Hp}, Kp p H2 H' → ZDn H1 H' := fun kk e o g => kk _ _ (S2 _ _ g) (ZD4 g n2)
   walk_at "w"
   refine ZHB (by omega) (by omega) (ZHw (fun i' σ H' => (∃ v5 v6, σ = [some (.ref s), some (.int (0 + (i : Int))), some (.ref p), some (.ref S.p), some (.ref hd), v5, v6, v7, v8, v9, v10, v11, v12]) ∧ Pur H' p ∧ Kp p H2 H' ∧ ∃ n m c ds ts, ZDp a H' S n m c ds ts [] ∧ H' hd = some (.dK (ZES m)) ∧ (m.map (·.1)).Nodup ∧ m.length ≤ i' ∧ c ≤ i' ∧ ts.length ≤ i' ∧ ds.length ≤ i' ∧ ∀ q ∈ m, (-20 ≤ q.1 ∧ q.1 ≤ 20) ∧ -20 ≤ q.2 ∧ q.2 ≤ 20) ?_ ?_ ?_)
   ·refine ⟨⟨_, _, rfl⟩, P6, (Kp.same S25).trans K6, 0, [], 0, [], [], (hS4.same S5).pur P5 K6 npS, K6 _ _ f5 nhp, List.nodup_nil, Nat.le_refl _, Nat.le_refl _, Nat.le_refl _, Nat.le_refl _, fun q hq => by cases hq⟩
   ·rintro i' σ H7 hi' ⟨⟨v5, v6, rfl⟩, P7, K7, n, m, c, ds, ts, hS7, f7, hnd, hml, hc, htl, hdl, hsm⟩
    have hi3 : i' < 16 := by omega
    walk_at "w"
    refine ⟨p, _, rfl, P7, by decide, by decide, fun t H8 h8 h8' P8 K8 => ?_⟩
    walk_at "w"
    refine ⟨p, _, rfl, P8, by decide, by decide, fun h H9 h9 h9' P9 K9 => ?_⟩
    have f9 := K9 _ _ (K8 _ _ f7 nhp) nhp
    have hS9 := (hS7.pur P7 K8 npS).pur P8 K9 npS
    walk_at "w"
    refine ZJg f9 (Nat.lt_of_le_of_lt (show m.length ≤ 16 by omega) (by decide)) fun H10 f10 K10 => ?_
    have hS10 := hS9.kpD K10 f9 nhS
    have P10 := P9.kp K10 nhp.symm
    obtain ⟨dx10, _, hst10, _⟩ := id hS10
    walk_at "w"
    refine ZEF hst10 ZI6 ?_
    walk_at "w"
    refine ZMJ f10 ((ZFE (ZFU hnd)).mpr ((ZHH hnd).mpr (.inr rfl))) ?_
    walk_at "w"
    refine ⟨S, n, t - 20, h - 20, m, c, ds, ts, [], rfl, hS10, ⟨by omega, by omega⟩, by omega, by omega, by omega, by omega, fun H11 hS11 F11 => ?_⟩
    walk_at "w"
    refine ⟨⟨_, _, rfl⟩, hS10.keepPur F11 P10 npS, ?_, n, ZEn m (t - 20) (h - 20), c + 1, _, _, hS11, hS10.keepD F11 f10 nhS, ZFU hnd, Nat.le_trans (ZJi _ _ _) (by omega), by omega, by rw [List.length_append]; simp only [List.length_cons, List.length_nil]; omega, by rw [List.length_append]; simp only [List.length_cons, List.length_nil]; omega, fun q hq => ?_⟩
    ·intro e o g ne
     refine F11 _ _ (K10 _ _ (((K7.trans K8).trans K9) _ _ g ne) (ZD4 g n25)) fun z => ?_
     rw [fr2 e (List.mem_cons_of_mem _ z)] at g; cases g
    ·rcases (ZHH hnd).mp hq with h' | h'
     ·exact hsm q h'.2
     ·rw [h']; exact ⟨⟨by show -20 ≤ t - 20; omega, by show t - 20 ≤ 20; omega⟩, by show -20 ≤ h - 20; omega, by show h - 20 ≤ 20; omega⟩
   rintro σ H7 ⟨⟨v5, v6, rfl⟩, P7, K7, n, m, c, ds, ts, hS7, f7, hnd, hml, hc, htl, hdl, hsm⟩
   have hml2 : m.length ≤ 15 := by omega
   walk_at "w"
   refine ⟨p, _, rfl, P7, by decide, by decide, fun d8 H8 h8 h8' P8 K8 => ?_⟩
   walk_at "w"
   refine ⟨p, _, rfl, P8, by decide, by decide, fun d9 H9 h9 h9' P9 K9 => ?_⟩
   walk_at "w"
   refine ⟨p, _, rfl, P9, by decide, by decide, fun d10 H10 h10 h10' P10 K10 => ?_⟩
   have K710 := (K8.trans K9).trans K10
   have hS10 := hS7.pur P7 K710 npS
   have f10 := K710 _ _ f7 nhp
   walk_at "w"
   refine ZDx (by show 3 ≤ sizeLine; decide) fun q H11 n11 f11 S11 => ?_
   walk_at "w"
   refine ZKp fun v dv H12 n12 f12 S12' => ?_
   have hS12 := (hS10.same S11).same S12'
   have av : v ∉ S.p :: S.own := (hS10.same S11).apart (l := [v]) (fun b hb => by obtain rfl : b = v := (by simpa using hb); exact n12) v (by simp)
   refine ⟨S, v, dv, q, _, _, _, n, m, c, ds, ts, [], rfl, f12, hS12, ⟨S12' _ _ f11, ZGV (by omega) (by omega) (by omega) (by omega) (by omega) (by omega)⟩, av, fun d13 H13 n13 hV13 hS13 K13 => ⟨rfl, ?_⟩⟩
   have K2_10 := K7.trans K710
   have n2v : H2 v = none := by
    have g := ZG7 S11 n12
    cases hh : H2 v with
    | none => rfl
    | some o =>
     have : v ≠ p := fun z => by
      obtain ⟨x, m, y, e, _⟩ := P10
      rw [z, e] at g; cases g
     rw [K2_10 _ _ hh this] at g; cases g
   have n2d : H2 d13 = none := by
    have g := ZG7 S11 (ZG7 S12' n13)
    cases hh : H2 d13 with
    | none => rfl
    | some o =>
     have : d13 ≠ p := fun z => by
      obtain ⟨x, m, y, e, _⟩ := P10
      rw [z, e] at g; cases g
     rw [K2_10 _ _ hh this] at g; cases g
   have nvp : v ≠ p := fun z => by
    obtain ⟨x, m, y, e, _⟩ := (P10.same S11)
    rw [z, e] at n12; cases n12
   have nvh : v ≠ hd := fun z => by rw [z, S11 _ _ f10] at n12; cases n12
   have P13 : Pur H13 p := by
    obtain ⟨x, m, y, e, r⟩ := P10
    exact ⟨x, m, y, K13 _ _ (S12' _ _ (S11 _ _ e)) nvp.symm, r⟩
   have f13 := K13 _ _ (S12' _ _ (S11 _ _ f10)) nvh.symm
   have K2_13 : ∀ e o, H2 e = some o → e ≠ p → H13 e = some o := fun e o g ne => K13 _ _ (S12' _ _ (S11 _ _ (K2_10 _ _ g ne))) (ZD4 g n2v)
   walk_at "w"
   refine ⟨p, _, rfl, P13, by decide, by decide, fun cnt2 H14 h14 h14' P14 K14 => ?_⟩
   walk_at "w"
   refine ZHB (by omega) (by omega) (ZHw (fun i' σ H' => (∃ v5 v6, σ = [some (.ref s), some (.int (0 + (i : Int))), some (.ref p), some (.ref S.p), some (.ref hd), v5, v6, some (.ref v), v8, v9, v10, v11, v12]) ∧ Pur H' p ∧ Kp p H2 H' ∧ H' hd = some (.dK (ZES m)) ∧ ∃ n k d b y mm kvs e, ZDp a H' S n m c ds ts [] ∧ ZEL a H' S v d b y mm k kvs e m ts ∧ H2 d = none ∧ -(20 + 400 * (i' : Int)) ≤ b ∧ b ≤ 20 + 400 * (i' : Int) ∧ y ≤ 8 * 2 ^ i' ∧ mm ≤ 6 ∧ kvs.length ≤ 100 + 10 * i') ?_ ?_ ?_)
   ·exact ⟨⟨_, _, rfl⟩, P14, fun e o g ne => K14 _ _ (K2_13 e o g ne) ne, K14 _ _ f13 nhp, n, 0, d13, _, _, _, [], 0, hS13.pur P13 K14 npS, hV13.pur P13 K14, n2d, by omega, by omega, by omega, by omega, Nat.zero_le _⟩
   ·rintro i' σ H15 hi' ⟨⟨v5, v6, rfl⟩, P15, K15, f15, n, k0, d15, b, y, mm, kvs, e, hS15, hV15, nd15, hb1, hb2, hy, hmm, hkl⟩
    have hi3 : i' < 3 := by omega
    have hy64 : y ≤ 32 := by
     have : i' = 0 ∨ i' = 1 ∨ i' = 2 := by omega
     rcases this with rfl | rfl | rfl <;> omega
    repeat walk_at "ri"
    refine ZTa (fun σ' H' => (∃ v5 v6, σ' = [some (.ref s), some (.int (0 + (i : Int))), some (.ref p), some (.ref S.p), some (.ref hd), v5, v6, some (.ref v), v8, v9, v10, v11, v12]) ∧ Pur H' p ∧ Kp p H2 H' ∧ H' hd = some (.dK (ZES m)) ∧ ∃ n k kvs e, ZDp a H' S n m c ds ts [] ∧ ZEL a H' S v d15 b y mm k kvs e m ts ∧ kvs.length ≤ 200) ?_ ?_
    ·rintro σ' H16 ⟨⟨v5, v6, rfl⟩, P16, K16, f16, n, k1, kvs, e, hS16, hV16, hkl⟩
     walk_at "w"
     refine ⟨S, p, v, d15, b, y, mm, k1, n, 20 + 400 * (i' : Int), 8 * 2 ^ i', kvs, e, m, c, ds, ts, rfl, P16, npS, hS16, hV16, by omega, hb1, hb2, hy, hmm, by omega, by have : i' = 0 ∨ i' = 1 ∨ i' = 2 := (by omega); rcases this with rfl | rfl | rfl <;> decide, fun d' b' y' m' kvs' H17 nd' hV17 hS17 g1 g2 g3 g4 g5 P17 F17 => ?_⟩
     walk_at "w"
     have hyy : 8 * 2 ^ i' ≤ (32 : Int) ∧ (8 : Int) * 2 ^ (i' + 1) = 2 * (8 * 2 ^ i') := by
      have : i' = 0 ∨ i' = 1 ∨ i' = 2 := by omega
      rcases this with rfl | rfl | rfl <;> decide
     have kp17 : ∀ e o, H2 e = some o → e ≠ p → H17 e = some o := fun e o g ne => F17 _ _ (K16 _ _ g ne) fun z => by
      simp only [List.mem_cons, List.not_mem_nil, or_false] at z
      rcases z with z | z | z
      ·exact ne z
      ·rw [z, n2v] at g; cases g
      ·rw [z, nd15] at g; cases g
     refine ⟨⟨_, _, rfl⟩, P17, kp17, ?_, n, k1, d', b', y', m', kvs', ts.length, hS17, hV17, ?_, by push_cast; omega, by push_cast; omega, by omega, g4, by omega⟩
     ·refine F17 _ _ f16 fun z => ?_
      obtain ⟨_, _, hv, _, hd', _⟩ := id hV16
      simp only [List.mem_cons, List.not_mem_nil, or_false] at z
      rcases z with z | z | z
      ·exact nhp z
      ·exact nvh z.symm
      ·rw [← z, f16] at hd'; cases hd'
     ·cases hh : H2 d' with
      | none => rfl
      | some o =>
       have : d' ≠ p := fun z => by
        obtain ⟨x, m, y, e, _⟩ := P16
        rw [z, e] at nd'; cases nd'
       rw [K16 _ _ hh this] at nd'; cases nd'
    ·intro D' _ hD'
     walk_at "w"
     refine ⟨p, _, rfl, P15, by decide, by decide, fun d16 H16 h16 h16' P16 K16 => ?_⟩
     have hS16 := hS15.pur P15 K16 npS
     have hV16 := hV15.pur P15 K16
     have f16 := K16 _ _ f15 nhp
     walk_at "w"
     rw [ZGv]
     refine ZEP (fun c1 => ?_) (fun c1 => ?_)
     ·obtain ⟨dxv, qv, hvv, hwv, hdv, _⟩ := id hV16
      walk_at "w"
      refine ZEF hvv ZFY ?_
      refine ⟨S, v, d15, b, y, mm, k0, n, kvs, e, m, c, ds, ts, [], rfl, hS16, hV16, by omega, by omega, fun uu us fs kv1 kv4 n4 H17 f17 hF17 h417 hh17 hV17 hS17 hall17 hl17 F17 => ?_⟩
      walk_at "w"
      obtain ⟨_, _, _, ⟨_, _, t1, _⟩, _⟩ := id hS16
      refine hD' _ _ ⟨⟨_, _, rfl⟩, P16.fr F17 fun z => ?_, fun e o g ne => F17 _ _ (K16 _ _ (K15 _ _ g ne) ne) fun z => ?_, F17 _ _ f16 fun z => ?_, n4, _, kv4, _, hS17, hV17, by omega⟩
      ·obtain ⟨x, m, y, e, _⟩ := P16
       simp only [List.mem_cons, List.not_mem_nil, or_false] at z
       rcases z with z | z | z
       ·rw [← z, e] at hvv; cases hvv
       ·rw [← z, e] at hdv; cases hdv
       ·rw [← z, e] at t1; cases t1
      ·simp only [List.mem_cons, List.not_mem_nil, or_false] at z
       rcases z with z | z | z
       ·rw [z, n2v] at g; cases g
       ·rw [z, nd15] at g; cases g
       ·rw [z, fr2 S.tr (by simp [SA.own])] at g; cases g
      ·simp only [List.mem_cons, List.not_mem_nil, or_false] at z
       rcases z with z | z | z
       ·exact nvh z.symm
       ·rw [← z, f16] at hdv; cases hdv
       ·rw [← z, f16] at t1; cases t1
     ·walk_at "w"
      exact hD' _ _ ⟨⟨_, _, rfl⟩, P16, K15.trans K16, f16, n, k0, kvs, e, hS16, hV16, by omega⟩
   rintro σ H15 ⟨⟨v5, v6, rfl⟩, P15, K15, f15, n, k0, d15, b, y, mm, kvs, e, hS15, hV15, nd15, hb1, hb2, hy, hmm, hkl⟩
   have hcn : cnt2.toNat ≤ 3 := by omega
   generalize cnt2.toNat = cn at *
   have hy64 : y ≤ 64 := by
    have : cn = 0 ∨ cn = 1 ∨ cn = 2 ∨ cn = 3 := by omega
    rcases this with rfl | rfl | rfl | rfl <;> omega
   walk_at "w"
   refine ⟨p, _, rfl, P15, by decide, by decide, fun e1 H16 h16 h16' P16 K16 => ?_⟩
   walk_at "w"
   refine ⟨p, _, rfl, P16, by decide, by decide, fun e2 H17 h17 h17' P17 K17 => ?_⟩
   walk_at "w"
   refine ⟨p, _, rfl, P17, by decide, by decide, fun e3 H18 h18 h18' P18 K18 => ?_⟩
   have K1518 := (K16.trans K17).trans K18
   have hS18 := hS15.pur P15 K1518 npS
   have hV18 := hV15.pur P15 K1518
   have f18 := K1518 _ _ f15 nhp
   walk_at "w"
   refine ZDx (by show 3 ≤ sizeLine; decide) fun hp H19 n19 f19 S19 => ?_
   have hS19 := hS18.same S19
   have hV19 := hV18.same S19
   obtain ⟨dx19, q19, hv19, hw19, hd19, _⟩ := id hV19
   have hh : Hts H19 hp (e1 - 20) (1 + e2) (1 + e3) := ⟨f19, by unfold Bn; omega, by omega, by unfold Bn; omega, by omega, by omega⟩
   have hmp := hw19.2.2.1
   have hy0 := hw19.2.1
   walk_at "w"
   refine ZM6 (S19 _ _ f18) hnd (by omega) fun l20 H20 cv n20 hL20 hC hlc S20 => ?_
   obtain ⟨vs20, g20, p20⟩ := hL20
   have hcm : ∀ r, r ∈ cv ↔ r ∈ m := fun r => (hC.2 r.1 r.2).trans (ZFE hnd)
   have hbp : BP cv := fun r hr => by
    have := hsm r ((hcm r).mp hr)
    exact ⟨by unfold Bn; omega, by unfold Bn; omega⟩
   walk_at "w"
   refine ZFr (SqL.of g20) fun t H21 n21 f21 S21 => ?_
   have S1921 := S20.trans S21
   have hT : PrT H21 t cv := ⟨vs20, f21, p20.same S21⟩
   have hWn : Win H21 q19 b y mm := ⟨S1921 _ _ hw19.1, by unfold Bn; omega, hy0, by unfold Bn; omega, hmp, by omega⟩
   have hcl : cv.length ≤ 100 := by omega
   walk_at "w"
   refine ⟨t, q19, hp, cv, b, y, mm, _, _, _, rfl, hT, hWn, hh.same S1921, hC.1, hbp, hcl, fun l22 vs22 rss H22 f22 hR22 hO22 S22 => ?_⟩
   walk_at "w"
   refine ⟨l22, vs22, rss, rfl, f22, hR22, by rw [hO22.1]; omega, fun u23 vs23 os H23 f23 hD23 hl23 hI23 S23 => ?_⟩
   have hOs : ZHU cv b y mm (e1 - 20) (1 + e2) (1 + e3) os := by
    refine ⟨by rw [hl23, hO22.1], fun k' o hk => ?_⟩
    have hlt : k' < rss.length := by rw [← hl23]; exact (List.getElem?_eq_some_iff.mp hk).1
    have hrk := hO22.2 k' _ (List.getElem?_eq_getElem hlt)
    have := ZT3 (show (0 : Int) ≤ 1 + e3 by omega) hrk
    rcases hI23 k' o _ hk (List.getElem?_eq_getElem hlt) with ⟨z1, z2⟩ | ⟨x, y, z1, z2, z3⟩
    ·rw [z2]; exact this.1 z1
    ·rw [z1]; exact this.2 x y z2 z3
   have S1923 := S1921.trans (S22.trans S23)
   have hV23 := hV19.same S1923
   have hS23 := hS19.same S1923
   obtain ⟨dx23, q23, hv23, _, hd23, _⟩ := id hV23
   obtain ⟨_, _, _, ⟨_, _, t23, _⟩, _⟩ := id hS23
   walk_at "w"
   refine ZEF hv23 ZFY ?_
   refine ⟨S, v, d15, b, y, mm, k0, n, kvs, e, m, c, ds, ts, [], rfl, hS23, hV23, by omega, by omega, fun uu us fs kv1 kv4 n4 H24 f24 hF24 h424 hh24 hV24 hS24 hall24 hl24 F24 => ?_⟩
   have kt : ∀ b xs, H23 b = some (.tup xs) → H24 b = some (.tup xs) := fun b xs g => F24 _ _ g fun z => by
    simp only [List.mem_cons, List.not_mem_nil, or_false] at z
    rcases z with z | z | z
    ·rw [z, hv23] at g; cases g
    ·rw [z, hd23] at g; cases g
    ·rw [z, t23] at g; cases g
   have S2123 := S22.trans S23
   have hT24 : PrT H24 t cv := (hT.same S2123).tups kt
   have hW24 : Win H24 q19 b y mm := ⟨kt _ _ (S2123 _ _ hWn.1), hWn.2⟩
   have hh24' : Hts H24 hp (e1 - 20) (1 + e2) (1 + e3) := ⟨kt _ _ (S1923 _ _ hh.1), hh.2⟩
   have f23' := kt _ _ f23
   have hD24 : ZEo H24 vs23 os := hD23.mapP fun v o d => by
    cases d with
    | non => exact .non
    | pr e => exact .pr (kt _ _ e)
   have hFO : ZG8 cv b y mm fs := ⟨h424.1, fun k' o hk => ZRw hcm (h424.2 k' o hk)⟩
   walk_at "w"
   refine ⟨uu, q19, hp, us, fs, cv, b, y, mm, _, _, _, rfl, f24, hF24, hFO, by omega, hW24, hh24', hC.1, hbp, fun u25 vs25 os25 kp H25 f25 hD25 hak hkept hO25 S25 => ?_⟩
   have hO2 : ZHU kp b y mm (e1 - 20) (1 + e2) (1 + e3) os := ⟨hOs.1, fun k' o hk => by
    have hlt := (List.getElem?_eq_some_iff.mp hk).1
    rw [hOs.1] at hlt
    exact ZPY hy0 (by omega) hC.1 hak hkept (by omega) (by omega) (hOs.2 k' o hk)⟩
   obtain rfl := hO2.unique hO25
   walk_at "w"
   refine ZLJ f25 hD25 (S25 _ _ f23') (hD24.same S25) ?_
   walk_at "w"
   refine ZE0 ?_
   walk_at "w"
   refine ⟨t, q19, hp, cv, b, y, mm, _, _, _, rfl, hT24.same S25, hW24.same S25, hh24'.same S25, hC.1, hbp, hcl, fun u26 vs26 os26 H26 f26 hD26 hO26 S26 => ?_⟩
   obtain rfl := hO26.unique hOs
   walk_at "w"
   refine ZLJ f26 hD26 (S26 _ _ (S25 _ _ f23')) ((hD24.same S25).same S26) ?_
   walk_at "w"
   refine ZE0 ?_
   walk_at "w"
   refine ⟨⟨_, _, _, _, _, _, _, _, _, _, _, _, rfl⟩, S1.trans fun e o g => ?_⟩
   have g2 := S2 _ _ g
   have g18 := K1518 _ _ (K15 _ _ g2 (ZD4 g n2)) (ZD4 g n2)
   refine S26 _ _ (S25 _ _ (F24 _ _ (S1923 _ _ (S19 _ _ g18)) fun z => ?_))
   simp only [List.mem_cons, List.not_mem_nil, or_false] at z
   rcases z with z | z | z
   ·rw [z, n2v] at g2; cases g2
   ·rw [z, nd15] at g2; cases g2
   ·rw [z, fr2 S.tr (by simp [SA.own])] at g2; cases g2
  ·rintro σ H1 ⟨⟨v1, v2, v3, v4, v5, v6, v7, v8, v9, v10, v11, v12, rfl⟩, S1⟩
   walk_at "w"
   exact k H1
end
structure FnH (K : W.Frag) (x : Str) (st : Stmt) (f : Addr) (d : FuncData) : Prop where
 a : W.nsIn K mainGlobals x = some (some (.ref f))
 F : Fun K x x st f d
structure MtH (K : W.Frag) (C : Addr) (x q : Str) (st : Stmt) (f : Addr) (d : FuncData) : Prop where
 a : W.findIn K (.ref C) x = some (some (.ref f))
 i : W.isFn K (.ref f) = true
 F : Fun K x q st f d
open PySem.W in
theorem all_mk {l : OpenLaw} {w : World} {K : Frag} {h : Heap} {mg : Str → Option Value} {fa : Addr} (X : K.In h) (G : h.Ns mainGlobals mg) (hfa : mg "law" = some (.ref fa))
 {ZB ZC ZA ZY Ze ZP Za : Addr}
 {f0 f1 f2 f3 f4 f5 f6 f7 f8 f9 f10 f11 f12 f13 f14 f15 f16 f17 f18 f19 f20 f21 f22 f23 f24 f25 f26 f27 f28 f29 f30 f31 f32 f33 f34 f35 f36 f37 f38 f39 f40 f41 f42 f43 f44 f45 f46 f47 f48 f49 f50 f51 f52 f53 f54 f55 f56 f57 f58 f59 f60 f61 f62 f63 f64 f65 f66 f67 : Addr} {d0 d1 d2 d3 d4 d5 d6 d7 d8 d9 d10 d11 d12 d13 d14 d15 d16 d17 d18 d19 d20 d22 d23 d24 d25 d26 d27 d28 d29 d30 d31 d32 d33 d34 d35 d36 d37 d38 d39 d40 d41 d42 d44 d45 d46 d47 d48 d49 d50 d51 d52 d53 d54 d55 d56 d57 d58 d59 d60 d61 d62 d63 d64 d65 d66 : FuncData}
 {od21 an21 : Option Addr} {sl21 : Array (Option Value)} {oc21 kV21 dc21 pm21 cd21 ct21 : Value}
 {dt21 : Addr} {dod21 : Option Addr} {dsl21 : Array (Option Value)} {doc21 : Value} {dn21 : Nat}
 {od43 an43 : Option Addr} {sl43 : Array (Option Value)} {oc43 kV43 dc43 pm43 cd43 ct43 : Value}
 {dt43 : Addr} {dod43 : Option Addr} {dsl43 : Array (Option Value)} {doc43 : Value} {dn43 : Nat}
 {od67 an67 : Option Addr} {sl67 : Array (Option Value)} {oc67 kV67 dc67 pm67 cd67 ct67 : Value}
 {tk_TOP_LEVEL : Tok}
 {tk_TIMES_END : Tok}
 (e_NoColumn : ZOT K "NoColumn" ZY)
 (e_NotHalf : ZOT K "NotHalf" Ze)
 (e_OutOfTimes : ZOT K "OutOfTimes" ZP)
 (e_NoSample : ZOT K "NoSample" Za)
 (e_Tree : ZRV K "Tree" ZB)
 (na_Tree_looks : findIn K (.ref ZB) "looks" = some none)
 (na_Tree_samples : findIn K (.ref ZB) "samples" = some none)
 (na_Tree_kept_fours : findIn K (.ref ZB) "kept_fours" = some none)
 (e_View : ZRV K "View" ZC)
 (na_View_source : findIn K (.ref ZC) "source" = some none)
 (na_View_window : findIn K (.ref ZC) "window" = some none)
 (na_View_asked : findIn K (.ref ZC) "asked" = some none)
 (na_View_known : findIn K (.ref ZC) "known" = some none)
 (na_View_seen : findIn K (.ref ZC) "seen" = some none)
 (e_Store : ZRV K "Store" ZA)
 (na_Store_tree : findIn K (.ref ZA) "tree" = some none)
 (na_Store_deeds : findIn K (.ref ZA) "deeds" = some none)
 (na_Store_done : findIn K (.ref ZA) "done" = some none)
 (na_Store_watches : findIn K (.ref ZA) "watches" = some none)
 (F0 : FnH K "_wall" ZNe f0 d0)
 (F1 : FnH K "is_whole" ZIN f1 d1)
 (F2 : FnH K "curve_of" ZGz f2 d2)
 (F3 : FnH K "part_of" ZHZ f3 d3)
 (F4 : FnH K "column_of" ZHi f4 d4)
 (F5 : FnH K "times_of" ZIO f5 d5)
 (F6 : FnH K "columns_of" ZGL f6 d6)
 (F7 : FnH K "moved" ZKv f7 d7)
 (F8 : FnH K "widened" ZIr f8 d8)
 (F9 : FnH K "narrowed" ZIP f9 d9)
 (F10 : FnH K "with_columns" ZGc f10 d10)
 (F11 : FnH K "height_of" ZHj f11 d11)
 (F12 : FnH K "four_of" ZIs f12 d12)
 (F13 : FnH K "joined" ZJr f13 d13)
 (F14 : FnH K "kept_of" ZIt f14 d14)
 (F15 : FnH K "is_border" ZHk f15 d15)
 (F16 : FnH K "check_borders" ZGM f16 d16)
 (F17 : FnH K "check_time" ZHI f17 d17)
 (F18 : FnH K "check_window" ZGd f18 d18)
 (F19 : FnH K "stretches" ZHl f19 d19)
 (F20 : FnH K "longest" ZIu f20 d20)
 (a21 : findIn K (.ref ZB) "__init__" = some (some (.ref f21))) (i21 : isFn K (.ref f21) = true)
 (l21 : K.lookup f21 = some ⟨oc21, od21, .func (fnOf "__init__" "Tree.__init__" (ZEf ZEW) (ZEY ZEW) (ZDl ZEW) (.ref dt21) kV21 dc21 pm21 an21 cd21 ct21), sl21⟩) (c21 : codeIn K cd21 "Tree.__init__" = true) (k21 : keepIn K (.ref f21) = true)
 (dl21 : K.lookup dt21 = some ⟨doc21, dod21, .seq #[.none] dn21, dsl21⟩)
 (F22 : MtH K ZB "put" "Tree.put" ZIQ f22 d22)
 (F23 : MtH K ZB "take" "Tree.take" ZHm f23 d23)
 (F24 : MtH K ZB "renew" "Tree.renew" ZHJ f24 d24)
 (F25 : MtH K ZB "four" "Tree.four" ZHn f25 d25)
 (F26 : MtH K ZB "fours" "Tree.fours" ZGN f26 d26)
 (F27 : MtH K ZB "told" "Tree.told" ZJR f27 d27)
 (F28 : FnH K "known_in" ZIR f28 d28)
 (F29 : MtH K ZC "__init__" "View.__init__" ZGO f29 d29)
 (F30 : MtH K ZC "fours" "View.fours" ZGP f30 d30)
 (F31 : MtH K ZC "forget" "View.forget" ZGp f31 d31)
 (F32 : MtH K ZC "on" "View.on" ZIv f32 d32)
 (F33 : MtH K ZC "wide" "View.wide" ZHo f33 d33)
 (F34 : MtH K ZC "narrow" "View.narrow" ZGq f34 d34)
 (F35 : MtH K ZC "columns" "View.columns" ZGe f35 d35)
 (F36 : MtH K ZC "step_to" "View.step_to" ZGf f36 d36)
 (F37 : FnH K "dots_of" ZHa f37 d37)
 (F38 : FnH K "dots_by" ZIw f38 d38)
 (F39 : FnH K "column_dots" ZGr f39 d39)
 (F40 : FnH K "rows_met" ZG0 f40 d40)
 (F41 : FnH K "row_at" ZJs f41 d41)
 (F42 : FnH K "row_of" ZJt f42 d42)
 (a43 : findIn K (.ref ZA) "__init__" = some (some (.ref f43))) (i43 : isFn K (.ref f43) = true)
 (l43 : K.lookup f43 = some ⟨oc43, od43, .func (fnOf "__init__" "Store.__init__" (ZEf ZET) (ZEY ZET) (ZDl ZET) (.ref dt43) kV43 dc43 pm43 an43 cd43 ct43), sl43⟩) (c43 : codeIn K cd43 "Store.__init__" = true) (k43 : keepIn K (.ref f43) = true)
 (dl43 : K.lookup dt43 = some ⟨doc43, dod43, .seq #[.none] dn43, dsl43⟩)
 (F44 : MtH K ZA "put" "Store.put" ZHp f44 d44)
 (F45 : MtH K ZA "take" "Store.take" ZIx f45 d45)
 (F46 : MtH K ZA "height" "Store.height" ZH5 f46 d46)
 (F47 : MtH K ZA "check_sample" "Store.check_sample" ZGQ f47 d47)
 (F48 : MtH K ZA "do" "Store.do" ZIS f48 d48)
 (F49 : MtH K ZA "bring" "Store.bring" ZGs f49 d49)
 (F50 : MtH K ZA "undo" "Store.undo" ZIy f50 d50)
 (F51 : MtH K ZA "times" "Store.times" ZGt f51 d51)
 (F52 : MtH K ZA "four" "Store.four" ZHK f52 d52)
 (F53 : MtH K ZA "fours" "Store.fours" ZIb f53 d53)
 (F54 : MtH K ZA "told" "Store.told" ZIz f54 d54)
 (F55 : MtH K ZA "watch" "Store.watch" ZIc f55 d55)
 (F56 : MtH K ZA "news" "Store.news" ZI0 f56 d56)
 (F57 : FnH K "_law_cell" ZJu f57 d57)
 (F58 : FnH K "_law_purse" ZI1 f58 d58)
 (F59 : FnH K "_law_draw" ZJv f59 d59)
 (F60 : FnH K "_law_less" ZJw f60 d60)
 (F61 : FnH K "_law_height" ZIT f61 d61)
 (F62 : FnH K "_law_met" ZJH f62 d62)
 (F63 : FnH K "_law_rows" ZHL f63 d63)
 (F64 : FnH K "_law_dots" ZGg f64 d64)
 (F65 : FnH K "_law_stepped" ZHq f65 d65)
 (F66 : FnH K "_law_runs" ZIU f66 d66)
 (a67 : nsIn K mainGlobals "law" = some (some (.ref f67)))
 (l67 : K.lookup f67 = some ⟨oc67, od67, .func (fnOf "law" "law" (ZEf ZF3) (ZEY ZF3) (ZDl ZF3) .none kV67 dc67 pm67 an67 cd67 ct67), sl67⟩) (c67 : codeIn K cd67 "law" = true) (k67 : keepIn K (.ref f67) = true)
 (ac_TOP_LEVEL : nsIn K mainGlobals "TOP_LEVEL" = some (some (.int 40 tk_TOP_LEVEL)))
 (ac_TIMES_END : nsIn K mainGlobals "TIMES_END" = some (some (.int 1099511627776 tk_TIMES_END)))
 (Jg : nsIn K mainGlobals "ValueError" = some none)
 (ZB5 : nsIn K mainGlobals "abs" = some none)
 (ZBa : nsIn K mainGlobals "bool" = some none)
 (ZB6 : nsIn K mainGlobals "int" = some none)
 (Zf : nsIn K mainGlobals "isinstance" = some none)
 (YX : nsIn K mainGlobals "len" = some none)
 (YT : nsIn K mainGlobals "max" = some none)
 (YW : nsIn K mainGlobals "min" = some none)
 (ZV : nsIn K mainGlobals "range" = some none)
 (Yx : nsIn K mainGlobals "sorted" = some none)
 (ZO : nsIn K mainGlobals "tuple" = some none)
 (ZBQ : nsIn K mainGlobals "zip" = some none)
   : ∃ fd : FuncData, (∀ (s : Shared) (v : Value), BindsTo s fd ⟨[v], []⟩ [("_law_script", v)]) ∧ ∀ base : Heap, K.In base → base.Ns mainGlobals mg → ZDw l.prog w K mg base CX0 9 fa fd ["_law_script"] (ZLq K) := by
  have e := hfa.symm.trans (mg_of X G a67)
  cases e
  have F21 := ZNb (st := ZEW) l21 c21 k21
  have F43 := ZNb (st := ZET) l43 c43 k43
  have F67 := fun_mk (st := ZF3) l67 c67 k67
  have T : Txt K mg ⟨f0, d0, f1, d1, f2, d2, f3, d3, f4, d4, f5, d5, f6, d6, f7, d7, f8, d8, f9, d9, f10, d10, f11, d11, f12, d12, f13, d13, f14, d14, f15, d15, f16, d16, f17, d17, f18, d18, f19, d19, f20, d20, f21, fnOf "__init__" "Tree.__init__" (ZEf ZEW) (ZEY ZEW) (ZDl ZEW) (.ref dt21) kV21 dc21 pm21 an21 cd21 ct21, f22, d22, f23, d23, f24, d24, f25, d25, f26, d26, f27, d27, f28, d28, f29, d29, f30, d30, f31, d31, f32, d32, f33, d33, f34, d34, f35, d35, f36, d36, f37, d37, f38, d38, f39, d39, f40, d40, f41, d41, f42, d42, f43, fnOf "__init__" "Store.__init__" (ZEf ZET) (ZEY ZET) (ZDl ZET) (.ref dt43) kV43 dc43 pm43 an43 cd43 ct43, f44, d44, f45, d45, f46, d46, f47, d47, f48, d48, f49, d49, f50, d50, f51, d51, f52, d52, f53, d53, f54, d54, f55, d55, f56, d56, f57, d57, f58, d58, f59, d59, f60, d60, f61, d61, f62, d62, f63, d63, f64, d64, f65, d65, f66, d66, fa, fnOf "law" "law" (ZEf ZF3) (ZEY ZF3) (ZDl ZF3) .none kV67 dc67 pm67 an67 cd67 ct67, ZB, ZC, ZA, ZY, Ze, ZP, Za, tk_TOP_LEVEL, tk_TIMES_END⟩ := ⟨F0.F, (F0.F.b1 fun _ _ _ _ _ _ _ => rfl), (mg_of X G F0.a), F1.F, (F1.F.b1 fun _ _ _ _ _ _ _ => rfl), (mg_of X G F1.a), F2.F, (F2.F.b1 fun _ _ _ _ _ _ _ => rfl), (mg_of X G F2.a), F3.F, (F3.F.b3 fun _ _ _ _ _ _ _ _ _ => rfl), (mg_of X G F3.a), F4.F, (F4.F.b2 fun _ _ _ _ _ _ _ _ => rfl), (mg_of X G F4.a), F5.F, (F5.F.b2 fun _ _ _ _ _ _ _ _ => rfl), (mg_of X G F5.a), F6.F, (F6.F.b1 fun _ _ _ _ _ _ _ => rfl), (mg_of X G F6.a), F7.F, (F7.F.b2 fun _ _ _ _ _ _ _ _ => rfl), (mg_of X G F7.a), F8.F, (F8.F.b1 fun _ _ _ _ _ _ _ => rfl), (mg_of X G F8.a), F9.F, (F9.F.b1 fun _ _ _ _ _ _ _ => rfl), (mg_of X G F9.a), F10.F, (F10.F.b2 fun _ _ _ _ _ _ _ _ => rfl), (mg_of X G F10.a), F11.F, (F11.F.b1 fun _ _ _ _ _ _ _ => rfl), (mg_of X G F11.a), F12.F, (F12.F.b1 fun _ _ _ _ _ _ _ => rfl), (mg_of X G F12.a), F13.F, (F13.F.b2 fun _ _ _ _ _ _ _ _ => rfl), (mg_of X G F13.a), F14.F, (F14.F.b1 fun _ _ _ _ _ _ _ => rfl), (mg_of X G F14.a), F15.F, (F15.F.b1 fun _ _ _ _ _ _ _ => rfl), (mg_of X G F15.a), F16.F, (F16.F.b2 fun _ _ _ _ _ _ _ _ => rfl), (mg_of X G F16.a), F17.F, (F17.F.b1 fun _ _ _ _ _ _ _ => rfl), (mg_of X G F17.a), F18.F, (F18.F.b1 fun _ _ _ _ _ _ _ => rfl), (mg_of X G F18.a), F19.F, (F19.F.b2 fun _ _ _ _ _ _ _ _ => rfl), (mg_of X G F19.a), F20.F, (F20.F.b2 fun _ _ _ _ _ _ _ _ => rfl), (mg_of X G F20.a), F21, (fun s us hI hl => by match us, hl with | [_, _], _ => exact binds_K hI rfl dl21 rfl rfl rfl), (fun s us hI hl => have hl2 : us.length = 1 := (by simpa using hl); match us, hl2 with | [_], _ => binds_K hI rfl dl21 rfl rfl rfl), (fun s u v hI => binds_K hI rfl dl21 rfl rfl rfl), F22.F, (F22.F.b3 fun _ _ _ _ _ _ _ _ _ => rfl), ⟨F22.a, F22.i, F22.F.kp⟩, F23.F, (F23.F.b2 fun _ _ _ _ _ _ _ _ => rfl), ⟨F23.a, F23.i, F23.F.kp⟩, F24.F, (F24.F.b3 fun _ _ _ _ _ _ _ _ _ => rfl), ⟨F24.a, F24.i, F24.F.kp⟩, F25.F, (F25.F.b3 fun _ _ _ _ _ _ _ _ _ => rfl), ⟨F25.a, F25.i, F25.F.kp⟩, F26.F, (F26.F.b2 fun _ _ _ _ _ _ _ _ => rfl), ⟨F26.a, F26.i, F26.F.kp⟩, F27.F, (F27.F.b1 fun _ _ _ _ _ _ _ => rfl), ⟨F27.a, F27.i, F27.F.kp⟩, F28.F, (F28.F.b2 fun _ _ _ _ _ _ _ _ => rfl), (mg_of X G F28.a), F29.F, (F29.F.b3 fun _ _ _ _ _ _ _ _ _ => rfl), F30.F, (F30.F.b1 fun _ _ _ _ _ _ _ => rfl), ⟨F30.a, F30.i, F30.F.kp⟩, F31.F, (F31.F.b1 fun _ _ _ _ _ _ _ => rfl), ⟨F31.a, F31.i, F31.F.kp⟩, F32.F, (F32.F.b2 fun _ _ _ _ _ _ _ _ => rfl), ⟨F32.a, F32.i, F32.F.kp⟩, F33.F, (F33.F.b1 fun _ _ _ _ _ _ _ => rfl), ⟨F33.a, F33.i, F33.F.kp⟩, F34.F, (F34.F.b1 fun _ _ _ _ _ _ _ => rfl), ⟨F34.a, F34.i, F34.F.kp⟩, F35.F, (F35.F.b2 fun _ _ _ _ _ _ _ _ => rfl), ⟨F35.a, F35.i, F35.F.kp⟩, F36.F, (F36.F.b2 fun _ _ _ _ _ _ _ _ => rfl), ⟨F36.a, F36.i, F36.F.kp⟩, F37.F, (F37.F.b3 fun _ _ _ _ _ _ _ _ _ => rfl), (mg_of X G F37.a), F38.F, (F38.F.b3 fun _ _ _ _ _ _ _ _ _ => rfl), (mg_of X G F38.a), F39.F, (F39.F.b3 fun _ _ _ _ _ _ _ _ _ => rfl), (mg_of X G F39.a), F40.F, (F40.F.b3 fun _ _ _ _ _ _ _ _ _ => rfl), (mg_of X G F40.a), F41.F, (F41.F.b4 fun _ _ _ _ _ _ _ _ _ _ => rfl), (mg_of X G F41.a), F42.F, (F42.F.b3 fun _ _ _ _ _ _ _ _ _ => rfl), (mg_of X G F42.a), F43, (fun s us hI hl => by match us, hl with | [_, _], _ => exact binds_K hI rfl dl43 rfl rfl rfl), (fun s us hI hl => have hl2 : us.length = 1 := (by simpa using hl); match us, hl2 with | [_], _ => binds_K hI rfl dl43 rfl rfl rfl), (fun s u v hI => binds_K hI rfl dl43 rfl rfl rfl), F44.F, (F44.F.b3 fun _ _ _ _ _ _ _ _ _ => rfl), ⟨F44.a, F44.i, F44.F.kp⟩, F45.F, (F45.F.b2 fun _ _ _ _ _ _ _ _ => rfl), ⟨F45.a, F45.i, F45.F.kp⟩, F46.F, (F46.F.b2 fun _ _ _ _ _ _ _ _ => rfl), ⟨F46.a, F46.i, F46.F.kp⟩, F47.F, (F47.F.b2 fun _ _ _ _ _ _ _ _ => rfl), ⟨F47.a, F47.i, F47.F.kp⟩, F48.F, (F48.F.b3 fun _ _ _ _ _ _ _ _ _ => rfl), ⟨F48.a, F48.i, F48.F.kp⟩, F49.F, (F49.F.b3 fun _ _ _ _ _ _ _ _ _ => rfl), ⟨F49.a, F49.i, F49.F.kp⟩, F50.F, (F50.F.b1 fun _ _ _ _ _ _ _ => rfl), ⟨F50.a, F50.i, F50.F.kp⟩, F51.F, (F51.F.b1 fun _ _ _ _ _ _ _ => rfl), ⟨F51.a, F51.i, F51.F.kp⟩, F52.F, (F52.F.b3 fun _ _ _ _ _ _ _ _ _ => rfl), ⟨F52.a, F52.i, F52.F.kp⟩, F53.F, (F53.F.b2 fun _ _ _ _ _ _ _ _ => rfl), ⟨F53.a, F53.i, F53.F.kp⟩, F54.F, (F54.F.b1 fun _ _ _ _ _ _ _ => rfl), ⟨F54.a, F54.i, F54.F.kp⟩, F55.F, (F55.F.b2 fun _ _ _ _ _ _ _ _ => rfl), ⟨F55.a, F55.i, F55.F.kp⟩, F56.F, (F56.F.b2 fun _ _ _ _ _ _ _ _ => rfl), ⟨F56.a, F56.i, F56.F.kp⟩, F57.F, (F57.F.b2 fun _ _ _ _ _ _ _ _ => rfl), (mg_of X G F57.a), F58.F, (F58.F.b2 fun _ _ _ _ _ _ _ _ => rfl), (mg_of X G F58.a), F59.F, (F59.F.b2 fun _ _ _ _ _ _ _ _ => rfl), (mg_of X G F59.a), F60.F, (F60.F.b2 fun _ _ _ _ _ _ _ _ => rfl), (mg_of X G F60.a), F61.F, (F61.F.b3 fun _ _ _ _ _ _ _ _ _ => rfl), (mg_of X G F61.a), F62.F, (F62.F.b3 fun _ _ _ _ _ _ _ _ _ => rfl), (mg_of X G F62.a), F63.F, (F63.F.b2 fun _ _ _ _ _ _ _ _ => rfl), (mg_of X G F63.a), F64.F, (F64.F.b3 fun _ _ _ _ _ _ _ _ _ => rfl), (mg_of X G F64.a), F65.F, (F65.F.b2 fun _ _ _ _ _ _ _ _ => rfl), (mg_of X G F65.a), F66.F, (F66.F.b1 fun _ _ _ _ _ _ _ => rfl), (mg_of X G F66.a), F67, (F67.b1 fun _ _ _ _ _ _ _ => rfl), (mg_of X G a67), ⟨e_Tree.pg, e_Tree.hd, e_Tree.po, e_Tree.sa⟩, (mg_of X G e_Tree.a), ⟨e_Tree.mi, a21, i21, e_Tree.kc⟩, na_Tree_looks, na_Tree_samples, na_Tree_kept_fours, ⟨e_View.pg, e_View.hd, e_View.po, e_View.sa⟩, (mg_of X G e_View.a), ⟨e_View.mi, F29.a, F29.i, e_View.kc⟩, na_View_source, na_View_window, na_View_asked, na_View_known, na_View_seen, ⟨e_Store.pg, e_Store.hd, e_Store.po, e_Store.sa⟩, (mg_of X G e_Store.a), ⟨e_Store.mi, a43, i43, e_Store.kc⟩, na_Store_tree, na_Store_deeds, na_Store_done, na_Store_watches, e_NoColumn.ex, ⟨e_NoColumn.ga, e_NoColumn.gt, e_NoColumn.cl, e_NoColumn.ob, e_NoColumn.be⟩, (mg_of X G e_NoColumn.a), e_NotHalf.ex, ⟨e_NotHalf.ga, e_NotHalf.gt, e_NotHalf.cl, e_NotHalf.ob, e_NotHalf.be⟩, (mg_of X G e_NotHalf.a), e_OutOfTimes.ex, ⟨e_OutOfTimes.ga, e_OutOfTimes.gt, e_OutOfTimes.cl, e_OutOfTimes.ob, e_OutOfTimes.be⟩, (mg_of X G e_OutOfTimes.a), e_NoSample.ex, ⟨e_NoSample.ga, e_NoSample.gt, e_NoSample.cl, e_NoSample.ob, e_NoSample.be⟩, (mg_of X G e_NoSample.a), (mg_of X G ac_TOP_LEVEL), (mg_of X G ac_TIMES_END), (mg_none_of X G Jg), (mg_none_of X G ZB5), (mg_none_of X G ZBa), (mg_none_of X G ZB6), (mg_none_of X G Zf), (mg_none_of X G YX), (mg_none_of X G YT), (mg_none_of X G YW), (mg_none_of X G ZV), (mg_none_of X G Yx), (mg_none_of X G ZO), (mg_none_of X G ZBQ)⟩
  exact ⟨fnOf "law" "law" (ZEf ZF3) (ZEY ZF3) (ZDl ZF3) .none kV67 dc67 pm67 an67 cd67 ct67, fun s v => .of_eq rfl, fun base _ _ => ZVf T⟩
theorem walk {l : W.OpenLaw} {q : Program} {loose : List Str} {XP : (Str → Option Value) → Heap → Prop} {YP : World → Heap → Prop} {d : DefRec} {K : Params → W.Frag} (hn : l.most = some 63) (hdf : d.params.defaults = [])
  (hY : ∀ (w : World) (h : Heap), YP w h → (K w.params).In h)
  (F : ∀ (w : World) (mg : Str → Option Value) (fa : Addr) (h : Heap), (K w.params).In h → h.Ns mainGlobals mg → mg d.name = some (.ref fa) →
   ∃ fd : FuncData, (∀ (s : Shared) (u : Value), BindsTo s fd ⟨[u], []⟩ [("_law_script", u)]) ∧ ∀ base : Heap, (K w.params).In base → base.Ns mainGlobals mg → ZDw l.prog w (K w.params) mg base CX0 9 fa fd ["_law_script"] (ZLq (K w.params))) :
  W.WalkO q loose XP YP l.row.toRowW d [] (fun f vs => PySem.call f vs) :=
 L2.walk_of (n := 63) (k := 9) (x := "_law_script") (CX := fun _ => CX0) (sp := fun w => ZLq (K w.params)) hn (by decide) hdf ⟨rfl, by decide, by decide, rfl⟩ hY F (fun _ _ a ns hl _ hS => ⟨a, ns, rfl, hS, hl, fun _ => rfl⟩) fun _ _ _ _ _ z => z
end My
local macro_rules | `(tactic| walk_at "e") => `(tactic| (refine' ⟨?a, ?b, ?c, ?d, ?e, ?f, ?g⟩; (case a => k_is); (case b => k_exc); (case c => k_is); (case d => k_is); (case e => k_is); (case f => k_is); (case g => k_is)))
local macro_rules | `(tactic| walk_at "c") => `(tactic| (refine' ⟨?a, ?b, ?c, ?d, ?e, ?f, ?g⟩; (case a => k_is); (case b => k_is); (case c => k_is); (case d => k_is); (case e => k_is); (case f => k_is); (case g => k_is)))
local macro_rules | `(tactic| walk_at "f") => `(tactic| (refine' ⟨?a, L2.fun_mk ?b ?c ?d⟩; (case a => k_is); (case b => k_is); (case c => k_is); (case d => k_is)))
local macro_rules | `(tactic| walk_at "m") => `(tactic| (refine' ⟨?a, ?b, L2.fun_mk ?c ?d ?e⟩; (case a => k_is); (case b => k_is); (case c => k_is); (case d => k_is); (case e => k_is)))
namespace PySem.W.Fast
def tw17502585008318319936:=()
def tw13737938487472318497:=()
def tw15826440253034253537:=()
def tw4911902636598179202:=()
def tw8281066970188527492:=()
def tw11958766399257893673:=()
def tw10014820113581990825:=()
def tw7674936730813844620:=()
def tw18440471826790036972:=()
def tw8543516891893572460:=()
def tw6196468112226514541:=()
def tw15177934065391281426:=()
def tw455906308497497971:=()
def tw17252355255543424052:=()
def tw4172345852285894165:=()
def tw18120961853814121464:=()
def tw2317666405318895803:=()
def tw66408926639531196:=()
def tw13540168788739123207:=()
def tw6434236970484062340:=()
def tw14667391320823063512:=()
def tw16756953864817048687:=()
def tw793081951091464894:=()
def tw2474818580844689536:=()
def tw5694536360803220040:=()
def tw16162785914951821969:=()
def tw12466485296632371460:=()
def tw9020499673627866119:=()
def tw3929268796737253555:=()
def tw11666659856521128108:=()
def tw8190286098891660883:=()
def tw17833461695735651805:=()
def tw5821493338922442271:=()
def tw12816155215357878861:=()
def tw10518801654124382163:=()
def tw13743284984220252331:=()
def tw9965742593885039153:=()
def tw5300232237585739294:=()
def tw8280026751876205693:=()
def tw8686594133381076004:=()
def tw15579980505145854035:=()
def tw5708033633224631686:=()
def tw12779255944744945608:=()
def tw11543745122400846764:=()
def tw6660428784589330428:=()
def tw13033136394400062941:=()
def tw831090209180915261:=()
def tw14513447816167336212:=()
def tw13053510086268859154:=()
def tw6890146816510556135:=()
def tw9121362591427148219:=()
def tw11906816465711830900:=()
def tw12058148985960140248:=()
def tw6781172311267384334:=()
def tw17750084268089262943:=()
def tw12803007897983942380:=()
def tw14765127642710495784:=()
def tw6411212832379825888:=()
def tw7375365260525470674:=()
def tw8073322833820618381:=()
def tw8307624352931100778:=()
def tw13951599397384543457:=()
def tw8278191851179383395:=()
def tw2227316091904754158:=()
def tw6303113510170053970:=()
def tw10974700205588798355:=()
def tw11188248236922498081:=()
def tw5102174358013786810:=()
def tw10283953529726898861:=()
def tw11195403671948509979:=()
def tw10155062115602384318:=()
def tw1354483803029517655:=()
def tw1630174166173471114:=()
def tw2335293972814440464:=()
def tw337388224972685504:=()
def tw18171246482546219511:=()
def tw11244059091380386788:=()
def tw11443502501113558563:=()
def tw827352311577245284:=()
def tw3813307772675504812:=()
def tw41195905862070320:=()
def tw12302231296600014027:=()
def tw9126016135130922615:=()
def tw3238100483248506819:=()
def tw15275854781151581195:=()
def tw8931797050736386373:=()
def tw15895202170454052421:=()
def tw2926881090532282771:=()
def tw11464105593258837686:=()
def tw7828821987200813459:=()
def tw12295602374590900375:=()
def tw7074803528042908733:=()
def tw12994678626815067666:=()
def tw14328017763594763608:=()
def tw3340082800055217300:=()
def tw5755639598612702236:=()
def tw10741606929383026113:=()
def tw7845292303049792525:=()
def tw2120396504170621625:=()
def tw5617204710030199293:=()
def tw3867599362684063097:=()
def tw10414106182874869418:=()
def tw18249720060790026833:=()
def tw13455282164569717493:=()
def tw6603602451556272315:=()
def tw9541000106553508683:=()
def tw12150357271978547617:=()
def tw6247410830136726126:=()
def tw4466412355252745491:=()
def tw13325429565360606881:=()
def tw15307820554845447014:=()
def tw12601706816497343096:=()
def tw4943312008925061190:=()
def tw14447200061868074945:=()
def tw2404331644058807062:=()
def tw882649804904693330:=()
def tw4519223744934376600:=()
def tw10438308778338533968:=()
def tw14249289876064717948:=()
def tw7760065182588376377:=()
def tw7878613672168643395:=()
def tw2805618605246937974:=()
def tw3813236181384237967:=()
def tw5816978741661103489:=()
def tw2925691882429689203:=()
def tw16057964822448983934:=()
def tw6856033416289745384:=()
def tw15814704420379256327:=()
def tw5245617777882228314:=()
def tw12036320265565330257:=()
def tw11343584335095974460:=()
def tw13958072950423180565:=()
def tw4392835349461006459:=()
def tw6656665749718647072:=()
def tw7664953268437712926:=()
def tw5434443728383361028:=()
def tw3247156309273230551:=()
def tw9227813640683990410:=()
def tw16813113457667269576:=()
def tw8039545927577925108:=()
def tw8575273934161315368:=()
def tw9105547358724821931:=()
def tw10595698847986632369:=()
def tw239703763962372660:=()
def tw15003895223554463180:=()
def tw654975542283905947:=()
def tw288061343752829983:=()
def tw13269041546643083467:=()
def tw8478530185197013368:=()
def tw435030610879001491:=()
def tw5968064016655167878:=()
def tw17866629423700907909:=()
def tw9246185070010786661:=()
def tw14615957673461426555:=()
def tw9502328071832172219:=()
def tw6953212968977487546:=()
def tw6999317196964314023:=()
def tw8640419042600292336:=()
def tw16951124440799572750:=()
def tw13712257480701992224:=()
def tw13260312625830321305:=()
def tw551061185326327907:=()
def tw1934379632519897960:=()
def tw5831300214918397402:=()
def tw7364374189359466539:=()
def tw2107068212534794906:=()
def tw14415710103181245642:=()
def tw16759575452224242749:=()
def tw7919189657979051493:=()
def tw826352782629858973:=()
def tw10371229528387232501:=()
def tw7506675544063488474:=()
def tw16939951915878605333:=()
def tw1040264398560085184:=()
def tw17499030406018426570:=()
def tw7087893616247627996:=()
def tw15821810592144812630:=()
def tw988927780884679877:=()
def tw15907997227761088330:=()
def tw3701177519970959944:=()
def tw6223408482920208794:=()
def tw9990979888710095752:=()
def tw4882070485067972488:=()
def tw6553712041677101132:=()
def tw11609212495245227914:=()
def tw10470338209780519401:=()
def tw15244025939166495956:=()
def tw11224952989540030709:=()
def tw2054030960176290426:=()
def tw563005383865357962:=()
def tw17612658209918985630:=()
def tw15079569959121445900:=()
def tw16720514148203359418:=()
def tw955884956599152116:=()
def tw11033635103247528140:=()
def tw10065336609292360534:=()
def tw6878633548577673449:=()
end PySem.W.Fast
open PySem PySem.W PyProof.Rows
set_option maxRecDepth 100000 in
set_option maxHeartbeats 0 in
theorem PySem.Challenge.cw_fourpoints_k93_whole_drawn_by_what_is_to_holds : PySem.Challenge.rw_fourpoints_k93_whole_drawn_by_what_is_to.Holds := by
 w_on; o_law; k_head; (case hw => w_witness2)
 k_fill
 refine My.walk (l := PySem.Challenge.rw_fourpoints_k93_whole_drawn_by_what_is_to) rfl rfl (fun w h Y => PySem.W.kIn_of Y) ?F
 case F =>
  intro w mg fa h KX G hmg
  refine' My.all_mk KX G hmg ?taa ?tab ?tac ?tad ?tae ?taf ?tag ?tah ?tai ?taj ?tak ?tal ?tam ?tan ?tao ?tap ?taq ?tar ?tas ?tat ?tau ?tav ?taw ?tax ?tay ?taz ?tba ?tbb ?tbc ?tbd ?tbe ?tbf ?tbg ?tbh ?tbi ?tbj ?tbk ?tbl ?tbm ?tbn ?tbo ?tbp ?tbq ?tbr ?tbs ?tbt ?tbu ?tbv ?tbw ?tbx ?tby ?tbz ?tca ?tcb ?tcc ?tcd ?tce ?tcf ?tcg ?tch ?tci ?tcj ?tck ?tcl ?tcm ?tcn ?tco ?tcp ?tcq ?tcr ?tcs ?tct ?tcu ?tcv ?tcw ?tcx ?tcy ?tcz ?tda ?tdb ?tdc ?tdd ?tde ?tdf ?tdg ?tdh ?tdi ?tdj ?tdk ?tdl ?tdm ?tdn ?tdo ?tdp ?tdq ?tdr ?tds ?tdt ?tdu ?tdv ?tdw ?tdx ?tdy ?tdz ?tea ?teb ?tec ?ted ?tee ?tef ?teg ?teh ?tei ?tej
  (case taa | tab | tac | tad => walk_at "e")
  (case tae => walk_at "c")
  (case taf | tag | tah => k_is)
  (case tai => walk_at "c")
  (case taj | tak | tal | tam | tan => k_is)
  (case tao => walk_at "c")
  (case tap | taq | tar | tas => k_is)
  (case tat | tau | tav | taw | tax | tay | taz | tba | tbb | tbc | tbd | tbe | tbf | tbg | tbh | tbi | tbj | tbk | tbl | tbm | tbn => walk_at "f")
  (case tbo | tbp | tbq | tbr | tbs | tbt => k_is)
  (case tbu | tbv | tbw | tbx | tby | tbz => walk_at "m")
  (case tca => walk_at "f")
  (case tcb | tcc | tcd | tce | tcf | tcg | tch | tci => walk_at "m")
  (case tcj | tck | tcl | tcm | tcn | tco => walk_at "f")
  (case tcp | tcq | tcr | tcs | tct | tcu => k_is)
  (case tcv | tcw | tcx | tcy | tcz | tda | tdb | tdc | tdd | tde | tdf | tdg | tdh => walk_at "m")
  (case tdi | tdj | tdk | tdl | tdm | tdn | tdo | tdp | tdq | tdr => walk_at "f")
  (case tds | tdt | tdu | tdv | tdw | tdx | tdy | tdz | tea | teb | tec | ted | tee | tef | teg | teh | tei | tej => k_is)
