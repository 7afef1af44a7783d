import PyProof.Rows.All
import Wide.All
import OpenK.AllK
import Wide.FinOn
import Lean
import PyProof.EqAt
import PyProof.EqKinds
import PyProof.TupleCall
import KE.KSortTup
import PyProof.CollectWalk
import PyProof.DictWalks
import PyProof.Rows.SortWalk
import KE.KItemsList
import PyProof.ReprText
import PyProof.Rows.StrIntSpec
import PyProof.RowDictHeap
import KE.KRevIter
import KE.KMinKey
import PyProof.P3In
import KE.KIntText
import PyProof.StrLawsTight
import PyProof.StrWalks
import PyProof.ListRange
import PySem.Challenge.RW_fourpoints_k54_beyond_tree_times
set_option Elab.async false
set_option linter.all false
set_option maxRecDepth 100000
set_option maxHeartbeats 4000000
-- CHANGE: your row's module here, as the last of these rows
abbrev L2.PL := List (Int × Int)
namespace L2
open PySem PySem.Spec PyProof.Rows
abbrev Key := Sum Int Str
def ZEF : Key → Value → Bool
 | .inl k, v => Value.isInt k v
 | .inr x, v => Value.isStrOf x v
def ZQf (w : World) : Key → Int
 | .inl k => hashInt k
 | .inr x => hashStr w x
theorem ZCG : ∀ {k : Key} {v : Value}, ZEF k v = true → (∃ i t, k = Sum.inl i ∧ v = Value.int i t) ∨ (∃ x t, k = Sum.inr x ∧ v = Value.str x t)
 | .inl i, v, h => by
  obtain ⟨t, e⟩ := Value.isInt_shape (k := i) (v := v) h
  exact .inl ⟨i, t, rfl, e⟩
 | .inr x, v, h => by
  obtain ⟨t, e⟩ := Value.isStrOf_shape (x := x) (v := v) h
  exact .inr ⟨x, t, rfl, e⟩
theorem ZKD (i : Int) (t : Tok) : ZEF (.inl i) (.int i t) = true := by simp [ZEF, Value.isInt]
theorem ZKE (x : Str) (t : Tok) : ZEF (.inr x) (.str x t) = true := by simp [ZEF, Value.isStrOf]
theorem ZOl (a b : Int) : decide ((Sum.inl a : Key) = Sum.inl b) = (a == b) := by
 by_cases e : a = b
 ·subst e; simp
 ·have h : ¬ (Sum.inl a : Key) = Sum.inl b := fun q => e (Sum.inl.inj q)
  rw [decide_eq_false h]
  exact (beq_eq_false_iff_ne.mpr e).symm
theorem ZOm (a b : Str) : decide ((Sum.inr a : Key) = Sum.inr b) = decide (a = b) := by
 by_cases e : a = b
 ·subst e; simp
 ·have h : ¬ (Sum.inr a : Key) = Sum.inr b := fun q => e (Sum.inr.inj q)
  rw [decide_eq_false h, decide_eq_false e]
theorem ZOn (a : Int) (b : Str) : decide ((Sum.inl a : Key) = Sum.inr b) = false := decide_eq_false (fun q => nomatch q)
theorem ZOo (a : Str) (b : Int) : decide ((Sum.inr a : Key) = Sum.inl b) = false := decide_eq_false (fun q => nomatch q)
def ZB2 (prog : Program) (w : World) : PySem.KeyKind prog w Key where
 is := ZEF
 hash := ZQf w
 inj := fun v a b ha hb => by
  rcases ZCG ha with ⟨i, t, rfl, rfl⟩ | ⟨x, t, rfl, rfl⟩
  ·rcases ZCG hb with ⟨j, u, rfl, e⟩ | ⟨y, u, rfl, e⟩
   ·injection e with e1 _; rw [e1]
   ·exact nomatch e
  ·rcases ZCG hb with ⟨j, u, rfl, e⟩ | ⟨y, u, rfl, e⟩
   ·exact nomatch e
   ·injection e with e1 _; rw [e1]
 byValue := fun k v h => by
  rcases ZCG h with ⟨i, t, rfl, rfl⟩ | ⟨x, t, rfl, rfl⟩ <;> rfl
 pyHash := fun hv h => by
  rcases ZCG hv with ⟨i, t, rfl, rfl⟩ | ⟨x, t, rfl, rfl⟩
  ·exact wpAny_pyHash_int h
  ·exact wpAny_pyHash_str h
 eqBool := fun hu hv h => by
  rcases ZCG hu with ⟨i, t, rfl, rfl⟩ | ⟨x, t, rfl, rfl⟩
  ·rcases ZCG hv with ⟨j, u, rfl, rfl⟩ | ⟨y, u, rfl, rfl⟩
   ·rw [ZOl] at h; exact wpAny_eqBool_int h
   ·rw [ZOn] at h; exact SeqAt.EqAt.int_str i t y u _ _ _ _ h
  ·rcases ZCG hv with ⟨j, u, rfl, rfl⟩ | ⟨y, u, rfl, rfl⟩
   ·rw [ZOo] at h; exact SeqAt.EqAt.str_int x t j u _ _ _ _ h
   ·rw [ZOm] at h; exact wpAny_eqBool_str h
 «strs» := fun k x t v h => by
  rcases ZCG h with ⟨i, u, rfl, e⟩ | ⟨y, u, rfl, e⟩
  ·exact nomatch e
  ·injection e with e1 _
   subst e1
   cases v <;> rfl
theorem ZIk (prog : Program) (w : World) (i : Int) (t : Tok) : (ZB2 prog w).is (.inl i) (.int i t) = true := ZKD i t
theorem ZIl (prog : Program) (w : World) (x : Str) (t : Tok) : (ZB2 prog w).is (.inr x) (.str x t) = true := ZKE x t
inductive V where
 | non | bl (b : Bool) | int (i : Int) | str (x : Str) | byt (b : Array UInt8) | flt (b : UInt64) | ref (a : Addr) | ty (n : String)
 deriving DecidableEq
def ZBi : V → Value → Prop
 | .non, u => u = Value.none
 | .bl b, u => u = Value.bool b
 | .int i, u => ∃ t, u = Value.int i t
 | .str x, u => ∃ t, u = Value.str x t
 | .byt b, u => ∃ t, u = Value.bytes b t
 | .flt b, u => ∃ t, u = Value.float b t
 | .ref a, u => u = Value.ref a
 | .ty n, u => u = Value.type n
abbrev ZBj : List V → List Value → Prop := Paired ZBi
theorem ZBj.length {xs : List V} {us : List Value} (r : ZBj xs us) : xs.length = us.length := Paired.length r
theorem ZBj.get : ∀ {xs : List V} {us : List Value} {i : Nat} {x : V}, ZBj xs us → xs[i]? = some x → ∃ u, us[i]? = some u ∧ ZBi x u
 | _, _, _, _, .nil, e => by simp at e
 | _, _, 0, _, .cons r _, e => by simp at e; subst e; exact ⟨_, rfl, r⟩
 | _, _, i + 1, x, .cons _ t, e => by
  obtain ⟨u, h1, h2⟩ := ZBj.get (i := i) (x := x) t (by simpa using e)
  exact ⟨u, by simpa using h1, h2⟩
theorem ZBj.set {x : V} {u : Value} (r : ZBi x u) : ∀ {xs : List V} {us : List Value} (i : Nat), ZBj xs us → ZBj (xs.set i x) (us.set i u)
 | _, _, _, .nil => .nil
 | _, _, 0, .cons _ t => .cons r t
 | _, _, i + 1, .cons q t => .cons q (ZBj.set r i t)
theorem ZBj.append : ∀ {xs ys : List V} {us ws : List Value}, ZBj xs us → ZBj ys ws → ZBj (xs ++ ys) (us ++ ws)
 | _, _, _, _, .nil, s => s
 | _, _, _, _, .cons r t, s => .cons r (ZBj.append t s)
def ZC0 : Option V → Option Value → Prop
 | some v, some u => ZBi v u
 | none, none => True
 | _, _ => False
def KV {κ : Type} : List (κ × V) → List (κ × Value) → Prop := Paired fun (p : κ × V) (q : κ × Value) => p.1 = q.1 ∧ ZBi p.2 q.2
def kV : Key → V
 | .inl i => .int i
 | .inr x => .str x
inductive HO where
 /-- a list -/
 | lst (xs : List V)
 /-- a tuple (never changes) -/
 | tup (xs : List V)
 /-- a dict whose keys are ints and texts; one whose keys are tuples of ints and texts (the empty one is both) -/
 | dK (kvs : List (Key × V)) | dT (kvs : List (List Key × V))
 /-- a set of ints: its members, its size -/
 | set (S : Int → Bool) (n : Nat)
 /-- an instance of the class at C, its dict at dx, its attributes -/
 | ins (C dx : Addr) (fs : List (Str × V))
 /-- the dict of the instance at x -/
 | own (x : Addr)
 /-- the dict of an exception -/
 | xd (fs : List (Str × V))
 /-- a bound method, f of x -/
 | met (f x : Addr)
 /-- a range object lo, lo + 1, .. below hi -/
 | rng (lo hi : Int)
 /-- a thing that is known to the object (the script; a dict while a loop walks it): read, never written while it is so -/
 | frz (o : Obj) (u : HO)
 /-- a code object's table -/
 | tbl (ps : Array Value)
 /-- any other thing, by what is true of its one object (a def of one's own: SetO a S n := HO.ext fun h => ..) -/
 | ext (φ : Heap → Prop)
abbrev Hp := Addr → Option HO
def upd (H : Hp) (a : Addr) (o : HO) : Hp := fun b => if b = a then some o else H b
theorem ZBg {H : Hp} {a : Addr} {o : HO} : upd H a o a = some o := by unfold upd; rw [if_pos rfl]
theorem ZBn {H : Hp} {a b : Addr} {o : HO} (h : b ≠ a) : upd H a o b = H b := by unfold upd; rw [if_neg h]
theorem ZQH {H : Hp} {a b : Addr} {o u : HO} (h : H a = some o) (h' : H b = some u) (d : o ≠ u) : a ≠ b := by
 intro e; subst e; rw [h] at h'; exact d (Option.some.inj h')
theorem ZBt {H : Hp} {a b : Addr} {o : HO} (h : H a = some o) (h' : H b = none) : a ≠ b := by
 intro e; subst e; rw [h] at h'; cases h'
section
variable (P : Program) (w : World)
def ZBw (H : Hp) (h : Heap) (a : Addr) : HO → Prop
 | .lst xs => xs.length ≤ sizeLine ∧ ∃ (its : List Value) (n : Nat), ZBj xs its ∧ h.get? a = some { cls := .type "list", data := .seq its.toArray n }
 | .tup xs => (xs.length ≤ sizeLine ∧ ((∀ i : Int, xs.head? ≠ some (.int i)) → ∃ o, h.get? a = some o ∧ o.dict = none ∧ o.slots = #[])) ∧ ∃ its : List Value, ZBj xs its ∧ IsTup h a its.toArray
 | .dK kvs => kvs.length ≤ sizeLine ∧ (a == sysModules) = false ∧ ∃ vs, KV kvs vs ∧ h.DictOf (ZB2 P w) a vs
 | .dT kvs => kvs.length ≤ sizeLine ∧ (a == sysModules) = false ∧ ∃ xs : List (List Key × Addr × Value),
  Paired (fun (p : List Key × V) (q : List Key × Addr × Value) => p.1 = q.1 ∧ H q.2.1 = some (.tup (p.1.map kV)) ∧ ZBi p.2 q.2.2) kvs xs ∧
  ∃ o es ep, h.get? a = some o ∧ o.ExactDict ∧ o.data = .dict es ep ∧ es.toList = xs.map (entryOfKey (tupleKind (ZB2 P w))) ∧ (xs.map (·.1)).Nodup
 | .set S n => h.SetOf (intKind P w) a S n
 | .ins C dx fs => H dx = some (.own a) ∧ fs.length ≤ 1000 ∧ dx ≠ a ∧ h.get? a = some (PySem.W.instObj C dx) ∧
  ∃ mA, h.Ns1 dx mA ∧ (∀ f, ZC0 (fs.lookup f) (mA f)) ∧ PySem.Within mA (fs.map (·.1))
 | .own _ => ∃ o, h.get? a = some o
 | .xd fs => ∃ mA, h.Ns1 a mA ∧ ∀ f, ZC0 (fs.lookup f) (mA f)
 | .rng lo hi => ∃ t u v, h.get? a = some { cls := .type "range", data := .fields #[.int lo t, .int hi u, .int 1 v] }
 | .frz o u => h.get? a = some o ∧ ZBw H h a u
 | .tbl ps => h.get? a = some { cls := .none, data := .fields ps }
 | .met f x => h.get? a = some (PySem.W.methodObj (.ref f) (.ref x))
 | .ext φ => φ h ∧ (∃ o, h.get? a = some o) ∧ ∀ h1 h2 : Heap, φ h1 → (∀ o, h1.get? a = some o → h2.get? a = some o) → φ h2
def HOk (H : Hp) (h : Heap) : Prop := ∀ a o, H a = some o → ZBw P w H h a o
end
section
variable {P : Program} {w : World} {H H' : Hp} {h h' : Heap} {a : Addr} {o : HO}
theorem ZBw.lt (x : ZBw P w H h a o) : a < h.objs.size := by
 cases o with
 | lst xs => obtain ⟨_, _, _, _, e⟩ := x; exact Heap.lt_size e
 | tup xs => obtain ⟨_, _, _, p⟩ := x; exact p.lt
 | dK kvs => obtain ⟨_, _, _, _, o, _, _, e, _⟩ := x; exact Heap.lt_size e
 | dT kvs => obtain ⟨_, _, _, _, o, _, _, e, _⟩ := x; exact Heap.lt_size e
 | set S n => obtain ⟨o, _, _, _, e, _⟩ := x; exact Heap.lt_size e
 | ins C dx fs => obtain ⟨_, _, _, e, _⟩ := x; exact Heap.lt_size e
 | own y => obtain ⟨_, e⟩ := x; exact Heap.lt_size e
 | xd fs => obtain ⟨_, ⟨_, _, _, e, _⟩, _⟩ := x; exact Heap.lt_size e
 | rng lo hi => obtain ⟨_, _, _, e⟩ := x; exact Heap.lt_size e
 | frz ob u => obtain ⟨e, _⟩ := x; exact Heap.lt_size e
 | tbl ps => exact Heap.lt_size (show h.get? a = some _ from x)
 | met f y => exact Heap.lt_size (show h.get? a = some _ from x)
 | ext φ => obtain ⟨_, ⟨_, e⟩, _⟩ := x; exact Heap.lt_size e
theorem Paired.mapP {α β : Type} {F G : α → β → Prop} : ∀ {l₁ : List α} {l₂ : List β}, Paired F l₁ l₂ → (∀ a b, F a b → G a b) → Paired G l₁ l₂
 | _, _, .nil, _ => .nil
 | _, _, .cons r t, f => .cons (f _ _ r) (Paired.mapP t f)
theorem ZBw.stay (x : ZBw P w H h a o) (k : ∀ b u, (b = a ∨ H b = some (.own a)) → h.get? b = some u → h'.get? b = some u)
  (ho : ∀ b, H b = some (.own a) → H' b = some (.own a)) (ht : ∀ b xs, H b = some (.tup xs) → H' b = some (.tup xs)) : ZBw P w H' h' a o := by
 induction o with
 | lst xs => obtain ⟨z, its, n, r, e⟩ := x; exact ⟨z, its, n, r, k _ _ (.inl rfl) e⟩
 | tup xs =>
  obtain ⟨⟨z, pd⟩, its, r, ob, e, c⟩ := x
  exact ⟨⟨z, fun q => let ⟨od, ed, cd⟩ := pd q; ⟨od, k _ _ (.inl rfl) ed, cd⟩⟩, its, r, ob, k _ _ (.inl rfl) e, c⟩
 | dK kvs => obtain ⟨z, y, vs, r, ob, es, ep, e, c⟩ := x; exact ⟨z, y, vs, r, ob, es, ep, k _ _ (.inl rfl) e, c⟩
 | dT kvs =>
  obtain ⟨z, y, xs, r, ob, es, ep, e, c⟩ := x
  exact ⟨z, y, xs, Paired.mapP r fun p q z => ⟨z.1, ht _ _ z.2.1, z.2.2⟩, ob, es, ep, k _ _ (.inl rfl) e, c⟩
 | set S n => obtain ⟨ob, es, ep, t, e, c⟩ := x; exact ⟨ob, es, ep, t, k _ _ (.inl rfl) e, c⟩
 | ins C dx fs =>
  obtain ⟨d, z, ne, e, mA, ⟨od, es, ep, e2, c⟩, r⟩ := x
  exact ⟨ho _ d, z, ne, k _ _ (.inl rfl) e, mA, ⟨od, es, ep, k _ _ (.inr d) e2, c⟩, r⟩
 | own y => obtain ⟨ob, e⟩ := x; exact ⟨ob, k _ _ (.inl rfl) e⟩
 | xd fs => obtain ⟨mA, ⟨od, es, ep, e, c⟩, r⟩ := x; exact ⟨mA, ⟨od, es, ep, k _ _ (.inl rfl) e, c⟩, r⟩
 | rng lo hi => obtain ⟨t, u, v, e⟩ := x; exact ⟨t, u, v, k _ _ (.inl rfl) e⟩
 | frz ob u ih => obtain ⟨e, q⟩ := x; exact ⟨k _ _ (.inl rfl) e, ih q⟩
 | tbl ps =>
  have e : h.get? a = some { cls := .none, data := .fields ps } := x
  show h'.get? a = some { cls := .none, data := .fields ps }
  exact k a _ (.inl rfl) e
 | met f y =>
  have e : h.get? a = some (PySem.W.methodObj (.ref f) (.ref y)) := x
  show h'.get? a = some (PySem.W.methodObj (.ref f) (.ref y))
  exact k a _ (.inl rfl) e
 | ext φ => obtain ⟨p, ⟨o, e⟩, st⟩ := x; exact ⟨st _ _ p fun o q => k _ _ (.inl rfl) q, ⟨o, k _ _ (.inl rfl) e⟩, st⟩
theorem HOk.lt (x : HOk P w H h) (e : H a = some o) : a < h.objs.size := (x a o e).lt
theorem HOk.fresh (x : HOk P w H h) (e : h.objs.size ≤ a) : H a = none := by
 cases q : H a with
 | none => rfl
 | some u => exact absurd (Nat.lt_of_lt_of_le (x.lt q) e) (Nat.lt_irrefl _)
theorem HOk.kept (x : HOk P w H h) (k : ∀ b u, h.get? b = some u → h'.get? b = some u) : HOk P w H h' := fun a o e =>
 (x a o e).stay (fun b u _ q => k b u q) (fun _ q => q) fun _ _ q => q
theorem HOk.laid (x : HOk P w H h) (k : ∀ b u, h.get? b = some u → h'.get? b = some u) (hp : h.objs.size ≤ a) (new : ZBw P w (upd H a o) h' a o) : HOk P w (upd H a o) h' := fun b u e => by
 have hn := x.fresh hp
 by_cases hb : b = a
 ·subst hb; rw [ZBg] at e; cases e; exact new
 ·rw [ZBn hb] at e
  exact (x b u e).stay (fun c v _ q => k c v q) (fun c q => by rw [ZBn (ZBt q hn)]; exact q) fun c xs q => by rw [ZBn (ZBt q hn)]; exact q
end
def Rd (H : Hp) (a : Addr) (u : HO) : Prop := H a = some u ∨ ∃ o, H a = some (.frz o u)
theorem Rd.ok {P : Program} {w : World} {H : Hp} {h : Heap} {a : Addr} {u : HO} (r : Rd H a u) (x : HOk P w H h) : ZBw P w H h a u := by
 rcases r with r | ⟨o, r⟩
 ·exact x a u r
 ·obtain ⟨_, q⟩ := x a _ r
  exact q
def Mut : Option HO → Prop
 | some (.lst _) => True
 | some (.dK _) => True
 | some (.dT _) => True
 | some (.set _ _) => True
 | some (.ins _ _ _) => True
 | some (.ext _) => True
 | _ => False
section
variable {P : Program} {w : World} {H : Hp} {h h' : Heap} {x e : Addr} {o' : HO}
theorem HOk.write (ok : HOk P w H h) (mu : Mut (H x)) (he : e = x ∨ H e = some (.own x)) (k : ∀ b u, b ≠ e → h.get? b = some u → h'.get? b = some u) (heo : ∃ u, h'.get? e = some u)
  (new : ZBw P w (upd H x o') h' x o') : HOk P w (upd H x o') h' := fun b u q => by
 have nown : ∀ c y, H c = some (.own y) → c ≠ x := fun c y r z => by subst z; rw [r] at mu; exact mu
 have ntup : ∀ c xs, H c = some (.tup xs) → c ≠ x := fun c xs r z => by subst z; rw [r] at mu; exact mu
 by_cases hb : b = x
 ·subst hb; rw [ZBg] at q; cases q; exact new
 ·rw [ZBn hb] at q
  by_cases hbe : b = e
  ·have q' : H b = some (.own x) := by
    rcases he with z | z
    ·exact absurd (hbe.trans z) hb
    ·rw [hbe]; exact z
   rw [q] at q'; cases q'
   obtain ⟨v, hv⟩ := heo
   exact ⟨v, by rw [hbe]; exact hv⟩
  ·refine (ok b u q).stay (fun c v hc r => k c v ?_ r) (fun c r => by rw [ZBn (nown c b r)]; exact r) fun c xs r => by rw [ZBn (ntup c xs r)]; exact r
   rcases hc with rfl | hc
   ·exact hbe
   ·rintro rfl
    rcases he with z | z
    ·exact nown c b hc z
    ·rw [hc] at z; cases z; exact hb rfl
end
structure Un (fs ex : List Addr) (H H' : Hp) (h h' : Heap) : Prop where
 keep : ∀ b o, h.get? b = some o → H b = none → b ∉ fs → b ∉ ex → h'.get? b = some o
 slot : ∀ b o, h.get? b = some o → H b = none → b ∈ fs → b ∉ ex → ∃ sl, h'.get? b = some { o with slots := sl }
 free : ∀ b o, h.get? b = some o → H b = none → b ∉ ex → H' b = none
 there : ∀ b o, h.get? b = some o → b ∉ ex → ∃ o', h'.get? b = some o'
 tups : ∀ b xs, H b = some (.tup xs) → H' b = some (.tup xs)
 frzs : ∀ b o u, H b = some (.frz o u) → H' b = some (.frz o u)
 tbls : ∀ b ps, H b = some (.tbl ps) → ∃ more, H' b = some (.tbl (ps ++ more))
section
variable {fs fs' ex ex' : List Addr} {H H1 H2 : Hp} {h h1 h2 h' : Heap} {a x e : Addr} {o : HO}
theorem Un.any (u : Un fs ex H H1 h h1) {b : Addr} {ob : Obj} (q : h.get? b = some ob) (n : H b = none) (hx : b ∉ ex) : ∃ sl, h1.get? b = some { ob with slots := sl } := by
 by_cases hb : b ∈ fs
 ·exact u.slot b ob q n hb hx
 ·exact ⟨ob.slots, u.keep b ob q n hb hx⟩
theorem Un.kept (k : ∀ b u, h.get? b = some u → h'.get? b = some u) : Un fs ex H H h h' :=
 ⟨fun b ob q _ _ _ => k b ob q, fun b ob q _ _ _ => ⟨ob.slots, k b ob q⟩, fun _ _ _ n _ => n, fun b ob q _ => ⟨ob, k b ob q⟩, fun _ _ q => q, fun _ _ _ q => q, fun _ ps q => ⟨#[], by rw [q]; simp⟩⟩
theorem Un.refl : Un fs ex H H h h := Un.kept fun _ _ q => q
theorem Un.laid (k : ∀ b u, h.get? b = some u → h'.get? b = some u) (hp : h.objs.size ≤ a) (hn : H a = none) : Un fs ex H (upd H a o) h h' where
 keep := fun b u q _ _ _ => k b u q
 slot := fun b u q _ _ _ => ⟨u.slots, k b u q⟩
 free := fun b u q n _ => by rw [ZBn (Nat.ne_of_lt (Nat.lt_of_lt_of_le (Heap.lt_size q) hp))]; exact n
 there := fun b u q _ => ⟨u, k b u q⟩
 tups := fun b xs q => by rw [ZBn (ZBt q hn)]; exact q
 frzs := fun b u xs q => by rw [ZBn (ZBt q hn)]; exact q
 tbls := fun b ps q => ⟨#[], by rw [ZBn (ZBt q hn), q]; simp⟩
theorem Un.write (mu : Mut (H x)) (he : e = x ∨ H e = some (.own x)) (k : ∀ b u, b ≠ e → h.get? b = some u → h'.get? b = some u) (heo : ∃ u, h'.get? e = some u) : Un fs ex H (upd H x o) h h' := by
 have hx : ∀ b, H b = none → b ≠ x := fun b n z => by subst z; rw [n] at mu; exact mu
 have hb : ∀ b, H b = none → b ≠ e := fun b n z => by
  subst z
  rcases he with r | r
  ·exact hx b n r
  ·rw [n] at r; cases r
 have hm : ∀ b u, H b = some u → ¬ Mut (some u) → b ≠ x := fun b u q nm z => by subst z; rw [q] at mu; exact nm mu
 refine ⟨fun b u q n _ _ => k b u (hb b n) q, fun b u q n _ _ => ⟨u.slots, k b u (hb b n) q⟩, fun b u q n _ => by rw [ZBn (hx b n)]; exact n, fun b u q _ => ?_,
  fun b xs q => by rw [ZBn (hm b _ q fun z => z)]; exact q, fun b u xs q => by rw [ZBn (hm b _ q fun z => z)]; exact q, fun b ps q => ⟨#[], by rw [ZBn (hm b _ q fun z => z), q]; simp⟩⟩
 by_cases hbe : b = e
 ·subst hbe; exact heo
 ·exact ⟨u, k b u hbe q⟩
end
def trk (h : Heap) (H : Hp) : List Addr := (List.range h.objs.size).filter fun a => (H a).isSome
def ZEc (h : Heap) (H : Hp) : Heap := PySem.W.hideAll h (trk h H)
theorem ZKF (h : Heap) (H : Hp) : (ZEc h H).objs.size = h.objs.size := PySem.W.hideAll_size _ _
theorem ZLU {h : Heap} {H : Hp} {b : Addr} {o : Obj} (e : h.get? b = some o) (n : H b = none) : (ZEc h H).get? b = some o :=
 PySem.W.hideAll_get _ e fun hm => by
  have q : (H b).isSome = true := (List.mem_filter.mp hm).2
  rw [n] at q; simp at q
theorem ZNI {h : Heap} {H : Hp} {b : Addr} {o : Obj} (e : (ZEc h H).get? b = some o) : h.get? b = some o ∧ H b = none := by
 have e' : h.get? b = some o := PySem.W.of_hideAll (trk h H) e
 refine ⟨e', ?_⟩
 cases q : H b with
 | none => rfl
 | some x =>
  have hm : b ∈ trk h H := List.mem_filter.mpr ⟨List.mem_range.mpr (Heap.lt_size e'), by simp [q]⟩
  have z : (ZEc h H).get? b = none := PySem.W.hideAll_none (trk h H) hm
  rw [z] at e; cases e
def ZNJ (g h : Heap) (L : Addr) : List (Addr × Obj) := (List.range h.objs.size).filterMap fun a => if a = L ∨ (g.get? a).isSome = true then none else (h.get? a).map fun o => (a, o)
def ZCj (g h : Heap) (L d : Addr) : List (Addr × Obj) := (ZNJ g h L).filter fun p => decide (p.1 ≠ d)
structure Mod (K : W.Frag) (mg : Str → Option Value) (base : Heap) : Prop where
 kin : K.In base
 glob : base.Ns mainGlobals mg
 blt : ∃ mb, base.Ns builtinsNs mb ∧ ∀ x : Str, x ≠ "__name__" → mb x = bootBuiltins x
 nolimit : base.NoLimit
structure Cx where
 prog : Program
 w : World
 K : W.Frag
 mg : Str → Option Value
 base : Heap
 A : Around
 N : List Str
 s₀ : Shared
 H₀ : Hp
 env : Env
 outer : List Env
 stack : List Env
 ex : List Addr
 fn : Str → Bool
 calm : Bool
 pn : List (Addr × Obj)
 xe : Value → Shared → Prop
def frs (l : List Env) : List Addr := l.filterMap (·.frame)
abbrev Cx.fs (X : Cx) : List Addr := frs X.outer
def Vis (sc : Scope) (x : Str) : Prop := sc.names.lookup x = some .local ∨ sc.names.lookup x = some .cell ∨ sc.names.lookup x = some .free
def Loc (sc : Scope) (x : Str) : Prop := sc.names.lookup x = some .local ∨ sc.names.lookup x = some .cell
def ZQg (env : Env) (h : Heap) (m : Str → Option Value) (x : Str) (u : Value) : Prop :=
 (env.kindOf x = some .local ∧ m x = some u) ∨ ((env.kindOf x = some .cell ∨ env.kindOf x = some .free) ∧ ∃ c, env.cells.lookup x = some c ∧ h.IsCell c (some u))
structure Cx.Ok (X : Cx) : Prop where
 mod : Mod X.K X.mg X.base
 kind : X.env.scope.kind = .function
 glob : X.env.globals = mainGlobals
 blt : X.env.builtins = builtinsNs
 above : X.s₀.heap.objs.size ≤ X.env.locals
 inj : ∀ x y c, X.env.cells.lookup x = some c → X.env.cells.lookup y = some c → x = y
 has : ∀ x, (X.env.kindOf x = some .cell ∨ X.env.kindOf x = some .free) → ∃ c, X.env.cells.lookup x = some c
 cab : ∀ x c, X.fn x = true → X.env.cells.lookup x = some c → X.s₀.heap.objs.size ≤ c
 hd : X.calm = true → X.A.handled = none
 frames : X.A.frames = some X.stack
 stk : X.stack = X.outer ∨ (X.stack = X.env :: X.outer ∧ X.env.frame = some X.env.locals)
 exf : ∀ b ∈ X.ex, b ≠ X.env.locals ∧ ∀ x c, X.env.cells.lookup x = some c → c ≠ b
 bs : ∀ b o, X.base.get? b = some o → X.s₀.heap.get? b = some o ∧ X.H₀ b = none
 bsz : X.base.objs.size ≤ X.s₀.heap.objs.size
 noex : ∀ b o, X.base.get? b = some o → b ∉ X.ex
 exfs : ∀ b ∈ X.ex, b ∉ X.fs
 funs : X.s₀.heap.FunFrames X.base X.outer
 frf : ∀ b ∈ X.fs, X.H₀ b = none
structure Inv (X : Cx) (pins : List (Addr × Obj)) (σ : List (Option V)) (H : Hp) (s : Shared) : Prop where
 ok : X.Ok
 os : s.os = X.s₀.os
 bare : AllBare s.gens
 base : Un X.fs X.ex X.H₀ H X.s₀.heap s.heap
 loc : ∃ m, s.heap.Ns X.env.locals m ∧ ∀ (i : Nat) (x : Str) (v : V), X.N[i]? = some x → σ[i]? = some (some v) → Vis X.env.scope x → ∃ u, ZBi v u ∧ ZQg X.env s.heap m x u
 cell : ∀ x c, X.env.cells.lookup x = some c → ∃ v, s.heap.IsCell c v
 free : H X.env.locals = none
 freeC : ∀ x c, X.env.cells.lookup x = some c → H c = none
 pin : ∀ p ∈ X.pn ++ pins, s.heap.get? p.1 = some p.2 ∧ H p.1 = none ∧ p.1 ≠ X.env.locals ∧ p.1 ∉ X.fs ∧ ∀ v, p.2.data ≠ .cell v
 hok : HOk X.prog X.w H s.heap
 len : σ.length = X.N.length
section
variable {X : Cx} {pins : List (Addr × Obj)} {σ : List (Option V)} {H H' : Hp} {s : Shared} {h' : Heap}
theorem Cx.Ok.nofr (ok : X.Ok) {b : Addr} {o : Obj} (e : X.base.get? b = some o) : b ∉ X.fs := fun hb => by
 have := (ok.funs.mem hb).1
 rw [e] at this; cases this
theorem Inv.bs (I : Inv X pins σ H s) : ∀ b o, X.base.get? b = some o → s.heap.get? b = some o ∧ H b = none := fun b o e =>
 ⟨I.base.keep b o (I.ok.bs b o e).1 (I.ok.bs b o e).2 (I.ok.nofr e) (I.ok.noex b o e), I.base.free b o (I.ok.bs b o e).1 (I.ok.bs b o e).2 (I.ok.noex b o e)⟩
theorem Inv.bk (I : Inv X pins σ H s) : ∀ b o, X.base.get? b = some o → s.heap.get? b = some o := fun b o e => (I.bs b o e).1
theorem Inv.mod (I : Inv X pins σ H s) : Mod X.K X.mg X.base := I.ok.mod
theorem Inv.kIn (I : Inv X pins σ H s) : X.K.In s.heap := I.ok.mod.kin.keeps I.bk
theorem Inv.lt (I : Inv X pins σ H s) : X.env.locals < s.heap.objs.size := let ⟨_, hn, _⟩ := I.loc; hn.lt
theorem Inv.sz (I : Inv X pins σ H s) : X.s₀.heap.objs.size ≤ s.heap.objs.size := Nat.le_trans I.ok.above (Nat.le_of_lt I.lt)
theorem Inv.nofs (I : Inv X pins σ H s) {a : Addr} (h : s.heap.objs.size ≤ a) : a ∉ X.fs := fun hb => by
 obtain ⟨_, o, ho, _⟩ := I.ok.funs.mem hb
 exact absurd (Nat.lt_of_lt_of_le (Heap.lt_size ho) (Nat.le_trans I.sz h)) (Nat.lt_irrefl _)
theorem Inv.cne (I : Inv X pins σ H s) : ∀ x c, X.env.cells.lookup x = some c → c ≠ X.env.locals := fun x c e z => by
 obtain ⟨v, o, ho, hd⟩ := I.cell x c e
 obtain ⟨m, ⟨o', es, ep, ho', hd', _⟩, _⟩ := I.loc
 rw [z, ho'] at ho; cases ho; rw [hd'] at hd; cases hd
theorem Inv.funs (I : Inv X pins σ H s) : s.heap.FunFrames X.base X.outer := by
 have all : ∀ (l : List Env), (∀ b ∈ frs l, b ∈ X.fs) → X.s₀.heap.FunFrames X.base l → s.heap.FunFrames X.base l := by
  intro l
  induction l with
  | nil => intro _ _; trivial
  | cons env r ih =>
   intro hs hl
   obtain ⟨hk, ⟨L, o, hf, hn, ho, hd⟩, hr⟩ := hl
   have hL : L ∈ X.fs := hs L (by unfold frs; rw [List.filterMap_cons, hf]; exact List.mem_cons_self)
   obtain ⟨sl, e⟩ := I.base.slot L o ho (I.ok.frf L hL) hL fun z => I.ok.exfs L z hL
   exact ⟨hk, ⟨L, _, hf, hn, e, hd⟩, ih (fun b hb => hs b (by unfold frs; rw [List.filterMap_cons, hf]; exact List.mem_cons_of_mem _ hb)) hr⟩
 exact all X.outer (fun _ hb => hb) I.ok.funs
theorem Inv.stack (I : Inv X pins σ H s) : s.heap.FunFrames X.base X.stack := by
 rcases I.ok.stk with e | ⟨e, hf⟩
 ·rw [e]; exact I.funs
 ·rw [e]
  obtain ⟨m, hn, _⟩ := I.loc
  refine .cons (by rw [I.ok.kind]; decide) hf hn ?_ I.funs
  exact Heap.get?_none_of_le (Nat.le_trans I.ok.bsz I.ok.above)
theorem Inv.stkSub (I : Inv X pins σ H s) : ∀ b ∈ frs X.stack, b ∈ X.env.locals :: X.fs := fun b hb => by
 rcases I.ok.stk with e | ⟨e, hf⟩
 ·rw [e] at hb; exact List.mem_cons_of_mem _ hb
 ·rw [e] at hb
  unfold frs at hb
  rw [List.filterMap_cons, hf] at hb
  exact hb
theorem Inv.stkFree (I : Inv X pins σ H s) : ∀ b ∈ frs X.stack, H b = none := fun b hb => by
 rcases List.mem_cons.mp (I.stkSub b hb) with e | hb
 ·rw [e]; exact I.free
 ·obtain ⟨_, o, ho, _⟩ := I.ok.funs.mem hb
  exact I.base.free b o ho (I.ok.frf b hb) fun z => I.ok.exfs b z hb
theorem Inv.step {g' : Array GenState} {t' : Nat} {d' : Drawn} {ch : List Addr} (I : Inv X pins σ H s)
  (hch : ∀ b ∈ ch, (b ∈ X.ex ∨ X.s₀.heap.objs.size ≤ b) ∧ b ≠ X.env.locals ∧ (∀ x c, X.env.cells.lookup x = some c → c ≠ b) ∧ ∀ p ∈ X.pn ++ pins, p.1 ≠ b)
  (keep : ∀ b o, b ≠ X.env.locals → b ∉ X.fs → b ∉ ch → s.heap.get? b = some o → H b = none → h'.get? b = some o)
  (slot : ∀ b o, b ≠ X.env.locals → b ∈ X.fs → b ∉ ch → s.heap.get? b = some o → H b = none → ∃ sl, h'.get? b = some { o with slots := sl }) (free : ∀ b o, b ∉ ch → s.heap.get? b = some o → H b = none → H' b = none)
  (there : ∀ b o, b ∉ ch → s.heap.get? b = some o → ∃ o', h'.get? b = some o')
  (tups : ∀ b xs, H b = some (.tup xs) → H' b = some (.tup xs)) (frzs : ∀ b o u, H b = some (.frz o u) → H' b = some (.frz o u)) (tbls : ∀ b ps, H b = some (.tbl ps) → ∃ more, H' b = some (.tbl (ps ++ more)))
  (ns : ∀ m, s.heap.Ns X.env.locals m → h'.Ns X.env.locals m) (hok : HOk X.prog X.w H' h') (hg : AllBare g') :
  Inv X pins σ H' { s with heap := h', gens := g', drawn := d', toks := t' } := by
 have neL : ∀ b o, X.s₀.heap.get? b = some o → b ≠ X.env.locals := fun b o e => Nat.ne_of_lt (Nat.lt_of_lt_of_le (Heap.lt_size e) I.ok.above)
 have neC : ∀ b o, X.s₀.heap.get? b = some o → b ∉ X.ex → b ∉ ch := fun b o e hx hb => by
  rcases (hch b hb).1 with z | z
  ·exact hx z
  ·exact absurd (Nat.lt_of_lt_of_le (Heap.lt_size e) z) (Nat.lt_irrefl _)
 have cellK : ∀ x c, X.env.cells.lookup x = some c → ∀ v, s.heap.IsCell c v → h'.IsCell c v := fun x c e v ⟨o, ho, hd⟩ => by
  have nch : c ∉ ch := fun z => (hch c z).2.2.1 x c e rfl
  by_cases hc : c ∈ X.fs
  ·obtain ⟨sl, q⟩ := slot c o (I.cne x c e) hc nch ho (I.freeC x c e)
   exact ⟨_, q, hd⟩
  ·exact ⟨o, keep c o (I.cne x c e) hc nch ho (I.freeC x c e), hd⟩
 refine ⟨I.ok, I.os, hg, ⟨fun b o e n hb hx => ?_, fun b o e n hb hx => ?_, fun b o e n hx => ?_, fun b o e hx => ?_, fun b xs e => tups b xs (I.base.tups b xs e), fun b o xs e => frzs b o xs (I.base.frzs b o xs e), fun b ps e => ?_⟩, ?_, fun x c e => ?_, ?_, fun x c e => ?_, fun p hp => ?_, hok, I.len⟩
 ·exact keep b o (neL b o e) hb (neC b o e hx) (I.base.keep b o e n hb hx) (I.base.free b o e n hx)
 ·obtain ⟨sl, e1⟩ := I.base.slot b o e n hb hx
  obtain ⟨sl', e2⟩ := slot b _ (neL b o e) hb (neC b o e hx) e1 (I.base.free b o e n hx)
  exact ⟨sl', e2⟩
 ·obtain ⟨o', e1⟩ := I.base.there b o e hx
  exact free b o' (neC b o e hx) e1 (I.base.free b o e n hx)
 ·obtain ⟨o', e1⟩ := I.base.there b o e hx
  exact there b o' (neC b o e hx) e1
 ·obtain ⟨m1, e1⟩ := I.base.tbls b ps e
  obtain ⟨m2, e2⟩ := tbls b _ e1
  exact ⟨m1 ++ m2, by rw [e2, Array.append_assoc]⟩
 ·obtain ⟨m, hn, hl⟩ := I.loc
  refine ⟨m, ns m hn, fun i x v e1 e2 e3 => ?_⟩
  obtain ⟨u, r, l⟩ := hl i x v e1 e2 e3
  refine ⟨u, r, ?_⟩
  rcases l with l | ⟨k, c, e, z⟩
  ·exact .inl l
  ·exact .inr ⟨k, c, e, cellK x c e _ z⟩
 ·obtain ⟨v, z⟩ := I.cell x c e
  exact ⟨v, cellK x c e v z⟩
 ·obtain ⟨m, ⟨o, _, _, ho, _⟩, _⟩ := I.loc
  exact free _ o (fun z => (hch _ z).2.1 rfl) ho I.free
 ·obtain ⟨v, o, ho, hd⟩ := I.cell x c e
  exact free c o (fun z => (hch c z).2.2.1 x c e rfl) ho (I.freeC x c e)
 ·obtain ⟨e, n, ne, nf, d⟩ := I.pin p hp
  have nch : p.1 ∉ ch := fun z => (hch p.1 z).2.2.2 p hp rfl
  exact ⟨keep p.1 p.2 ne nf nch e n, free p.1 p.2 nch e n, ne, nf, d⟩
theorem Inv.un {t' : Nat} (I : Inv X pins σ H s) (u : Un X.fs [] H H' s.heap h') (hok : HOk X.prog X.w H' h') : Inv X pins σ H' { s with heap := h', toks := t' } := by
 obtain ⟨m, ⟨o, es, ep, ho, r⟩, _⟩ := id I.loc
 obtain ⟨sl, hL⟩ := u.any ho I.free (by simp)
 exact I.step (g' := s.gens) (d' := s.drawn) (ch := []) (fun _ z => nomatch z) (fun b o _ hb _ e n => u.keep b o e n hb (by simp)) (fun b o _ hb _ e n => u.slot b o e n hb (by simp)) (fun b o _ e n => u.free b o e n (by simp)) (fun b o _ e => u.there b o e (by simp)) u.tups u.frzs u.tbls (fun m' hm => by
  obtain ⟨o', es', ep', ho', r'⟩ := hm
  rw [ho] at ho'; cases ho'
  exact ⟨_, es', ep', hL, r'⟩) hok I.bare
theorem Inv.call {g' : Array GenState} {t' : Nat} {d' : Drawn} {ch : List Addr} (I : Inv X pins σ H s) (u : Un (frs X.stack) ch H H' s.heap h') (hok : HOk X.prog X.w H' h') (hg : AllBare g')
  (hch : ∀ b ∈ ch, (b ∈ X.ex ∨ X.s₀.heap.objs.size ≤ b) ∧ b ≠ X.env.locals ∧ (∀ x c, X.env.cells.lookup x = some c → c ≠ b) ∧ ∀ p ∈ X.pn ++ pins, p.1 ≠ b) :
  Inv X pins σ H' { s with heap := h', gens := g', drawn := d', toks := t' } := by
 obtain ⟨m, ⟨o, es, ep, ho, r⟩, _⟩ := id I.loc
 obtain ⟨sl, hL⟩ := u.any ho I.free fun z => (hch _ z).2.1 rfl
 exact I.step (ch := ch) hch (fun b o hL hb hc e n => u.keep b o e n (fun z => (List.mem_cons.mp (I.stkSub b z)).elim hL hb) hc) (fun b o _ _ hc e n => u.any e n hc) (fun b o hc e n => u.free b o e n hc) (fun b o hc e => u.there b o e hc) u.tups u.frzs u.tbls (fun m' hm => by
  obtain ⟨o', es', ep', ho', r'⟩ := hm
  rw [ho] at ho'; cases ho'
  exact ⟨_, es', ep', hL, r'⟩) hok hg
theorem Inv.turned {t' : Nat} {it : Addr} (I : Inv X pins σ H s) (k : ∀ b o, b ≠ it → s.heap.get? b = some o → h'.get? b = some o) (hn : H it = none) (hL : it ≠ X.env.locals)
  (h1 : it ∈ X.ex ∨ X.s₀.heap.objs.size ≤ it) (h2 : ∀ x c, X.env.cells.lookup x = some c → c ≠ it) (h3 : ∀ p ∈ X.pn ++ pins, p.1 ≠ it) : Inv X pins σ H { s with heap := h', toks := t' } := by
 have nit : ∀ b u, H b = some u → b ≠ it := fun b u e z => by rw [z, hn] at e; cases e
 refine I.step (g' := s.gens) (d' := s.drawn) (ch := [it]) (fun b hb => ?_) (fun b o _ _ hc e _ => k b o (fun z => hc (by simp [z])) e) (fun b o _ _ hc e _ => ⟨o.slots, k b o (fun z => hc (by simp [z])) e⟩) (fun _ _ _ _ n => n)
  (fun b o hc e => ⟨o, k b o (fun z => hc (by simp [z])) e⟩) (fun _ _ e => e) (fun _ _ _ e => e) (fun b ps e => ⟨#[], by rw [e]; simp⟩) (fun m hm => ?_) (fun b u e => ?_) I.bare
 ·have e : b = it := by simpa using hb
  subst e
  exact ⟨h1, hL, h2, h3⟩
 ·obtain ⟨o, es, ep, ho, r⟩ := hm
  exact ⟨o, es, ep, k _ o (Ne.symm hL) ho, r⟩
 ·refine (I.hok b u e).stay (fun c v hc q => k c v ?_ q) (fun _ q => q) fun _ _ q => q
  rcases hc with z | z
  ·rw [z]; exact nit b u e
  ·exact nit c _ z
theorem Inv.tok (I : Inv X pins σ H s) (t : Nat) : Inv X pins σ H { s with toks := t } := I.un (h' := s.heap) (t' := t) Un.refl I.hok
theorem Inv.kept {t' : Nat} (I : Inv X pins σ H s) (k : ∀ b u, s.heap.get? b = some u → h'.get? b = some u) : Inv X pins σ H { s with heap := h', toks := t' } := I.un (Un.kept k) (I.hok.kept k)
theorem Inv.laid {a : Addr} {o : HO} {t' : Nat} (I : Inv X pins σ H s) (k : ∀ b u, s.heap.get? b = some u → h'.get? b = some u) (hp : s.heap.objs.size ≤ a) (new : ZBw X.prog X.w (upd H a o) h' a o) :
 Inv X pins σ (upd H a o) { s with heap := h', toks := t' } := I.un (Un.laid k hp (I.hok.fresh hp)) (I.hok.laid k hp new)
theorem Inv.write {x e : Addr} {o : HO} {t' : Nat} (I : Inv X pins σ H s) (mu : Mut (H x)) (he : e = x ∨ H e = some (.own x)) (k : ∀ b u, b ≠ e → s.heap.get? b = some u → h'.get? b = some u) (heo : ∃ u, h'.get? e = some u)
 (new : ZBw X.prog X.w (upd H x o) h' x o) : Inv X pins σ (upd H x o) { s with heap := h', toks := t' } := I.un (Un.write mu he k heo) (I.hok.write mu he k heo new)
theorem Inv.pins_of {pins' : List (Addr × Obj)} (I : Inv X pins σ H s) (h : ∀ p ∈ pins', s.heap.get? p.1 = some p.2 ∧ H p.1 = none ∧ p.1 ≠ X.env.locals ∧ p.1 ∉ X.fs ∧ ∀ v, p.2.data ≠ .cell v) : Inv X pins' σ H s :=
 ⟨I.ok, I.os, I.bare, I.base, I.loc, I.cell, I.free, I.freeC, fun p hp => (List.mem_append.mp hp).elim (fun z => I.pin p (List.mem_append_left _ z)) (h p), I.hok, I.len⟩
theorem ZFq {N : List Str} (hN : N.Nodup) {i j : Nat} {x : Str} (a : N[i]? = some x) (b : N[j]? = some x) : i = j := by
 obtain ⟨h1, e1⟩ := List.getElem?_eq_some_iff.mp a
 obtain ⟨h2, e2⟩ := List.getElem?_eq_some_iff.mp b
 exact (List.getElem_inj hN).mp (e1.trans e2.symm)
theorem ZKG {M : Model} {A : Around} {E : Value → Shared → Prop} {i : Nat} {x : Str} {v : V} {u : Value} {Q : Unit → Shared → Prop} (I : Inv X pins σ H s) (hN : X.N.Nodup) (hi : X.N[i]? = some x) (hx : Loc X.env.scope x) (r : ZBi v u)
  (h : ∀ s', Inv X pins (σ.set i (some v)) H s' → (∃ a, Heap.SameBut a s.heap s'.heap ∧ (a = X.env.locals ∨ X.env.cells.lookup x = some a)) → Q () s') (hf : X.fn x = true ∨ X.env.scope.names.lookup x = some .local := by first | exact .inl rfl | exact .inr rfl | assumption) : wpAny M A (storeName X.env x u) Q E s := by
 obtain ⟨m, hn, hl⟩ := id I.loc
 have hcls : (X.env.scope.kind == .class || (X.env.scope.kind == .module && X.env.locals != X.env.globals)) = false := by rw [I.ok.kind]; rfl
 have hiσ : i < σ.length := by rw [I.len]; exact (List.getElem?_eq_some_iff.mp hi).1
 have cne := I.cne
 have tracked : ∀ {a : Addr} {h' : Heap}, (∃ o, s.heap.get? a = some o ∧ H a = none) → Heap.SameBut a s.heap h' → HOk X.prog X.w H h' := fun {a h'} ha hs b ob e => by
  obtain ⟨_, _, hfree⟩ := ha
  refine (I.hok b ob e).stay (fun c w' hc q => (hs.2 c ?_).trans q) (fun _ q => q) fun _ _ q => q
  rintro rfl
  rcases hc with rfl | hc
  ·rw [hfree] at e; cases e
  ·rw [hfree] at hc; cases hc
 rcases hx with hk | hk
 ·refine wpAny_storeName_local hk hn (fun h' hn' hs => ?_) hcls
  obtain ⟨oL, _, _, hoL, _⟩ := id hn
  refine h _ ⟨I.ok, I.os, I.bare, ⟨fun b o e n hb hx => ?_, fun b o e n hb hx => ?_, I.base.free, fun b o e hx => ?_, I.base.tups, I.base.frzs, I.base.tbls⟩, ⟨_, hn', fun j y v' e1 e2 e3 => ?_⟩, fun y c e => ?_, I.free, I.freeC, fun p hp => ?_, tracked ⟨oL, hoL, I.free⟩ hs, by simpa using I.len⟩ ⟨_, hs, .inl rfl⟩
  ·exact (hs.2 b (Nat.ne_of_lt (Nat.lt_of_lt_of_le (Heap.lt_size e) I.ok.above))).trans (I.base.keep b o e n hb hx)
  ·obtain ⟨sl, e1⟩ := I.base.slot b o e n hb hx
   exact ⟨sl, (hs.2 b (Nat.ne_of_lt (Nat.lt_of_lt_of_le (Heap.lt_size e) I.ok.above))).trans e1⟩
  ·obtain ⟨o', e1⟩ := I.base.there b o e hx
   exact ⟨o', (hs.2 b (Nat.ne_of_lt (Nat.lt_of_lt_of_le (Heap.lt_size e) I.ok.above))).trans e1⟩
  ·by_cases hj : j = i
   ·subst hj
    rw [hi] at e1; cases e1
    rw [List.getElem?_set_self hiσ] at e2
    cases e2
    exact ⟨u, r, .inl ⟨hk, by simp⟩⟩
   ·rw [List.getElem?_set_ne (Ne.symm hj)] at e2
    obtain ⟨u', r', q⟩ := hl j y v' e1 e2 e3
    refine ⟨u', r', ?_⟩
    rcases q with ⟨k, e⟩ | ⟨k, c, e, z⟩
    ·refine .inl ⟨k, ?_⟩
     have : y ≠ x := fun e => hj (ZFq hN e1 (e ▸ hi))
     simp [this, e]
    ·exact .inr ⟨k, c, e, z.sameBut hs (cne y c e)⟩
  ·obtain ⟨w', z⟩ := I.cell y c e
   exact ⟨w', z.sameBut hs (cne y c e)⟩
  ·obtain ⟨e, n, ne, nf, d⟩ := I.pin p hp
   exact ⟨(hs.2 p.1 ne).trans e, n, ne, nf, d⟩
 ·have hfn : X.fn x = true := by
   rcases hf with z | z
   ·exact z
   ·rw [z] at hk; cases hk
  obtain ⟨c, hc⟩ := I.ok.has x (.inl hk)
  obtain ⟨w', z⟩ := I.cell x c hc
  refine wpAny_storeName_cell I.ok.kind hk hc z (fun h' hc' hs => ?_)
  obtain ⟨oc, hoc, hocd⟩ := id z
  refine h { s with heap := h' } ⟨I.ok, I.os, I.bare, ⟨fun b o e n hb hx => ?_, fun b o e n hb hx => ?_, I.base.free, fun b o e hx => ?_, I.base.tups, I.base.frzs, I.base.tbls⟩, ⟨m, hn.sameBut hs (Ne.symm (cne x c hc)), fun j y v' e1 e2 e3 => ?_⟩, fun y c' e => ?_, I.free, I.freeC, fun p hp => ?_, tracked ⟨oc, hoc, I.freeC x c hc⟩ hs, by simpa using I.len⟩ ⟨c, hs, .inr hc⟩
  ·exact (hs.2 b (Nat.ne_of_lt (Nat.lt_of_lt_of_le (Heap.lt_size e) (I.ok.cab x c hfn hc)))).trans (I.base.keep b o e n hb hx)
  ·obtain ⟨sl, e1⟩ := I.base.slot b o e n hb hx
   exact ⟨sl, (hs.2 b (Nat.ne_of_lt (Nat.lt_of_lt_of_le (Heap.lt_size e) (I.ok.cab x c hfn hc)))).trans e1⟩
  ·obtain ⟨o', e1⟩ := I.base.there b o e hx
   exact ⟨o', (hs.2 b (Nat.ne_of_lt (Nat.lt_of_lt_of_le (Heap.lt_size e) (I.ok.cab x c hfn hc)))).trans e1⟩
  ·by_cases hj : j = i
   ·subst hj
    rw [hi] at e1; cases e1
    rw [List.getElem?_set_self hiσ] at e2
    cases e2
    exact ⟨u, r, .inr ⟨.inl hk, c, hc, hc'⟩⟩
   ·rw [List.getElem?_set_ne (Ne.symm hj)] at e2
    obtain ⟨u', r', q⟩ := hl j y v' e1 e2 e3
    refine ⟨u', r', ?_⟩
    rcases q with q | ⟨k, c', e, z'⟩
    ·exact .inl q
    ·refine .inr ⟨k, c', e, z'.sameBut hs ?_⟩
     rintro rfl
     exact hj (ZFq hN e1 (I.ok.inj _ _ _ e hc ▸ hi))
  ·by_cases hcc : c' = c
   ·subst hcc; exact ⟨_, hc'⟩
   ·obtain ⟨w2, z2⟩ := I.cell y c' e
    exact ⟨w2, z2.sameBut hs hcc⟩
  ·obtain ⟨e, n, ne, nf, d⟩ := I.pin p hp
   refine ⟨(hs.2 p.1 ?_).trans e, n, ne, nf, d⟩
   intro q
   rw [q, hoc] at e
   have q' : oc = p.2 := Option.some.inj e
   exact d w' (by rw [← q']; exact hocd)
theorem ZEd {M : Model} {A : Around} {E : Value → Shared → Prop} {i : Nat} {x : Str} {v : V} {u : Value} {Q : Unit → Shared → Prop} (I : Inv X pins σ H s) (hN : X.N.Nodup) (hi : X.N[i]? = some x) (hx : Loc X.env.scope x) (r : ZBi v u)
  (h : ∀ s', Inv X pins (σ.set i (some v)) H s' → Q () s') (hf : X.fn x = true ∨ X.env.scope.names.lookup x = some .local := by first | exact .inl rfl | exact .inr rfl | assumption) : wpAny M A (storeName X.env x u) Q E s :=
 ZKG I hN hi hx r (fun s' I' _ => h s' I') hf
theorem Inv.call' {s' : Shared} {ch : List Addr} (I : Inv X pins σ H s) (ho : s'.os = s.os) (u : Un (frs X.stack) ch H H' s.heap s'.heap) (hok : HOk X.prog X.w H' s'.heap) (hg : AllBare s'.gens)
  (hch : ∀ b ∈ ch, (b ∈ X.ex ∨ X.s₀.heap.objs.size ≤ b) ∧ b ≠ X.env.locals ∧ (∀ x c, X.env.cells.lookup x = some c → c ≠ b) ∧ ∀ p ∈ X.pn ++ pins, p.1 ≠ b) : Inv X pins σ H' s' := by
 obtain ⟨h', g', d', t', o'⟩ := s'
 have e : o' = s.os := ho
 subst e
 exact I.call (g' := g') (t' := t') (d' := d') u hok hg hch
end
abbrev XK := Value → Option Addr → Hp → Prop
abbrev St := List (Option V)
abbrev VK := V → Hp → Prop
abbrev TE := St → Hp → VK → Prop
abbrev TT := St → Hp → (Bool → Hp → Prop) → Prop
abbrev TA := St → Hp → (List V → Hp → Prop) → Prop
structure ZCK where
 nx : St → Hp → Prop
 rt : VK
 bk : St → Hp → Prop := fun _ _ => False
 ct : St → Hp → Prop := fun _ _ => False
abbrev TS := ZCK → St → Hp → Prop
def EP (X : Cx) (pins : List (Addr × Obj)) (σ : St) (Q : VK) (u : Value) (s' : Shared) : Prop := ∃ v H', Inv X pins σ H' s' ∧ ZBi v u ∧ Q v H'
def TP (X : Cx) (pins : List (Addr × Obj)) (σ : St) (Q : Bool → Hp → Prop) (b : Bool) (s' : Shared) : Prop := ∃ H', Inv X pins σ H' s' ∧ Q b H'
def AP (X : Cx) (pins : List (Addr × Obj)) (σ : St) (Q : List V → Hp → Prop) (us : List Value) (s' : Shared) : Prop := ∃ vs H', Inv X pins σ H' s' ∧ ZBj vs us ∧ Q vs H'
def SP (X : Cx) (pins : List (Addr × Obj)) (D : ZCK) (f : Flow) (s' : Shared) : Prop :=
 match f with
 | .next => ∃ σ' H', Inv X pins σ' H' s' ∧ D.nx σ' H'
 | .brk => ∃ σ' H', Inv X pins σ' H' s' ∧ D.bk σ' H'
 | .cont => ∃ σ' H', Inv X pins σ' H' s' ∧ D.ct σ' H'
 | .ret u => ∃ v σ' H', Inv X pins σ' H' s' ∧ ZBi v u ∧ D.rt v H'
def PE (X : Cx) (e : Expr) (t : TE) : Prop :=
 ∀ (pins : List (Addr × Obj)) (s : Shared) (σ : St) (H : Hp) (Q : VK), Inv X pins σ H s → t σ H Q → wpAny (model X.prog X.w) X.A (eval e X.env) (EP X pins σ Q) X.xe s
def PT (X : Cx) (e : Expr) (t : TT) : Prop :=
 ∀ (pins : List (Addr × Obj)) (s : Shared) (σ : St) (H : Hp) (Q : Bool → Hp → Prop), Inv X pins σ H s → t σ H Q → wpAny (model X.prog X.w) X.A (isTrue e X.env (eval e X.env)) (TP X pins σ Q) X.xe s
def PW (X : Cx) (e : Expr) (t : TT) : Prop :=
 ∀ (whole : Sem Value) (pins : List (Addr × Obj)) (s : Shared) (σ : St) (H : Hp) (Q : Bool → Hp → Prop), Inv X pins σ H s → t σ H Q → wpAny (model X.prog X.w) X.A (isTrue e X.env whole) (TP X pins σ Q) X.xe s
theorem PW.pt {X : Cx} {e : Expr} {t : TT} (h : PW X e t) : PT X e t := h _
def PA (X : Cx) (es : List Expr) (t : TA) : Prop :=
 ∀ (pos : Pos) (pins : List (Addr × Obj)) (s : Shared) (σ : St) (H : Hp) (Q : List V → Hp → Prop), Inv X pins σ H s → t σ H Q → wpAny (model X.prog X.w) X.A (spliced (backTo pos (starEach es X.env))) (AP X pins σ Q) X.xe s
def PS (X : Cx) (st : Stmt) (t : TS) : Prop :=
 ∀ (pins : List (Addr × Obj)) (s : Shared) (σ : St) (H : Hp) (D : ZCK), Inv X pins σ H s → t D σ H → wpAny (model X.prog X.w) X.A (exec st X.env) (SP X pins D) X.xe s
def PSs (X : Cx) (st : List Stmt) (t : TS) : Prop :=
 ∀ (pins : List (Addr × Obj)) (s : Shared) (σ : St) (H : Hp) (D : ZCK), Inv X pins σ H s → t D σ H → wpAny (model X.prog X.w) X.A (execs st X.env) (SP X pins D) X.xe s
theorem thn {α : Type} {t : Sem α} {Q Q' : α → Shared → Prop} {M : Model} {A : Around} {E : Value → Shared → Prop} {s : Shared} (h : wpAny M A t Q E s) (hQ : ∀ a s, Q a s → Q' a s) : wpAny M A t Q' E s := wpAny_mono h hQ fun _ _ x => x
section
variable {X : Cx}
def ZJN (i : Nat) : TE := fun σ H Q => ∃ v, σ[i]? = some (some v) ∧ Q v H
def tC (v : V) : TE := fun _ H Q => Q v H
theorem ZKH {i : Nat} {x : Str} {pos : Pos} (hN : X.N[i]? = some x) (hv : Vis X.env.scope x) (hd : (x == ("__debug__" : Str)) = false := by decide) (hcd : (x == ("__classdict__" : Str)) = false := by decide) : PE X (.Name x pos) (ZJN i) := by
 intro pins s σ H Q I h
 obtain ⟨v, e, h⟩ := h
 obtain ⟨m, hn, hl⟩ := I.loc
 obtain ⟨u, r, l⟩ := hl i x v hN e hv
 have fin : EP X pins σ Q u s := ⟨v, H, I, r, h⟩
 rcases l with ⟨hk, hm⟩ | ⟨hk, c, hc, hcell⟩
 ·exact wpAny_Name (wpAny_loadName_local I.ok.kind hk hn hm fin) hd
 ·rcases hk with hk | hk
  ·exact wpAny_Name (wpAny_loadName_cell I.ok.kind hk hc hcell fin) hd
  ·exact wpAny_Name (wpAny_loadName_free I.ok.kind hk hc hcell fin hcd) hd
theorem ZOp {i j pos} : PE X (.Constant (.int i) j pos) (tC (.int i)) := fun _ _ _ H _ I h => wpAny_Constant_int ⟨.int i, H, I.tok _, ⟨_, rfl⟩, h⟩
theorem ZQI {b j pos} : PE X (.Constant (.bool b) j pos) (tC (.bl b)) := fun _ _ _ H _ I h => Constant_bool ⟨.bl b, H, I, rfl, h⟩
theorem ZOq {j pos} : PE X (.Constant .none j pos) (tC .non) := fun _ _ _ H _ I h => Constant_none ⟨.non, H, I, rfl, h⟩
theorem ZOr {x j pos} : PE X (.Constant (.str x) j pos) (tC (.str x)) := fun _ _ _ H _ I h => Calls.Constant_str ⟨.str x, H, I.tok _, ⟨_, rfl⟩, h⟩
def Gl (X : Cx) (x : Str) : Prop := X.env.kindOf x = some .globalImplicit
theorem ZDM {E : Value → Shared → Prop} {pins : List (Addr × Obj)} {s : Shared} {σ : St} {H : Hp} {x : Str} {u : Value} {pos : Pos} {Q : Value → Shared → Prop} (I : Inv X pins σ H s) (hg : Gl X x) (hm : X.mg x = some u) (h : Q u s)
  (hd : (x == ("__debug__" : Str)) = false := by decide) : wpAny (model X.prog X.w) X.A (eval (.Name x pos) X.env) Q E s :=
 Calls.Name_function_global I.ok.kind hg (Calls.loadGlobal_global (by rw [I.ok.glob]; exact I.mod.glob.keeps I.bk) hm h) hd
theorem ZD2 {E : Value → Shared → Prop} {pins : List (Addr × Obj)} {s : Shared} {σ : St} {H : Hp} {x : Str} {u : Value} {pos : Pos} {Q : Value → Shared → Prop} (I : Inv X pins σ H s) (hg : Gl X x) (hm : X.mg x = none) (hv : bootBuiltins x = some u) (h : Q u s)
  (hn : x ≠ "__name__" := by decide) (hd : (x == ("__debug__" : Str)) = false := by decide) : wpAny (model X.prog X.w) X.A (eval (.Name x pos) X.env) Q E s := by
 obtain ⟨mb, h1, h2⟩ := I.mod.blt
 exact Calls.Name_function_global I.ok.kind hg (Calls.loadGlobal_builtin (by rw [I.ok.glob]; exact I.mod.glob.keeps I.bk) hm (by rw [I.ok.blt]; exact h1.keeps I.bk) ((h2 x hn).trans hv) h) hd
theorem ZNK {x : Str} {v : V} {u : Value} {pos : Pos} (hg : Gl X x) (hm : X.mg x = some u) (r : ZBi v u) (hd : (x == ("__debug__" : Str)) = false := by decide) : PE X (.Name x pos) (tC v) :=
 fun _ _ _ H _ I h => ZDM I hg hm ⟨v, H, I, r, h⟩ hd
theorem ZNL {x : Str} {v : V} {u : Value} {pos : Pos} (hg : Gl X x) (hm : X.mg x = none) (hv : bootBuiltins x = some u) (r : ZBi v u) (hn : x ≠ "__name__" := by decide) (hd : (x == ("__debug__" : Str)) = false := by decide) : PE X (.Name x pos) (tC v) :=
 fun _ _ _ H _ I h => ZD2 I hg hm hv ⟨v, H, I, r, h⟩ hn hd
variable {a b : Expr} {ta tb : TE} {pos : Pos}
def tB (t : TE) : TT := fun σ H Q => t σ H fun x H1 => ∃ c, x = .bl c ∧ Q c H1
theorem ZOs {e : Expr} {t : TE} (h : PE X e t) (he : ∀ whole, isTrue e X.env whole = (do let v ← whole; standAt e.pos; holding [v] (truthy v)) := by intro _; rfl) : PT X e (tB t) := by
 intro pins s σ H Q I hw
 refine isTrue_plain (thn (h pins s σ H _ I hw) fun v s1 ⟨x, H1, I1, r1, q1⟩ => ?_) (he _)
 obtain ⟨d, rfl, q⟩ := q1
 cases r1
 exact wpAny_truthy_bool ⟨H1, I1, q⟩
variable {tA tB' : TT} {ZCj : List Expr}
def ZLV (t u : TT) : TT := fun σ H Q => t σ H fun c H1 => if c = true then u σ H1 Q else Q false H1
def tOr (t u : TT) : TT := fun σ H Q => t σ H fun c H1 => if c = true then Q true H1 else u σ H1 Q
def ZLW (t : TT) : TT := fun σ H Q => t σ H fun c H1 => Q (!c) H1
theorem ZNM (ha : PT X a tA) : PW X (.BoolOp .And [a] pos) tA := by
 intro wh pins s σ H Q I h
 refine isTrue_and (thn (ha pins s σ H Q I h) fun c s1 e => ?_)
 cases c with
 | true => exact isTrue_and_nil e
 | false => exact e
theorem ZOt (ha : PT X a tA) : PW X (.BoolOp .Or [a] pos) tA := by
 intro wh pins s σ H Q I h
 refine isTrue_or (thn (ha pins s σ H Q I h) fun c s1 e => ?_)
 cases c with
 | false => exact isTrue_or_nil e
 | true => exact e
theorem ZOu (ha : PT X a tA) (hb : PW X (.BoolOp .And (b :: ZCj) pos) tB') : PW X (.BoolOp .And (a :: b :: ZCj) pos) (ZLV tA tB') := by
 intro wh pins s σ H Q I h
 refine isTrue_and (thn (ha pins s σ H _ I h) fun c s1 ⟨H1, I1, q1⟩ => ?_)
 cases c with
 | true => exact hb wh pins s1 σ H1 Q I1 q1
 | false => exact ⟨H1, I1, q1⟩
theorem ZQJ (ha : PT X a tA) (hb : PW X (.BoolOp .Or (b :: ZCj) pos) tB') : PW X (.BoolOp .Or (a :: b :: ZCj) pos) (tOr tA tB') := by
 intro wh pins s σ H Q I h
 refine isTrue_or (thn (ha pins s σ H _ I h) fun c s1 ⟨H1, I1, q1⟩ => ?_)
 cases c with
 | true => exact ⟨H1, I1, q1⟩
 | false => exact hb wh pins s1 σ H1 Q I1 q1
theorem ZOv (ha : PT X a tA) : PT X (.UnaryOp .Not a pos) (ZLW tA) := by
 intro pins s σ H Q I h
 exact isTrue_not (ha pins s σ H (fun c H1 => Q (!c) H1) I h)
def ZJO (ta tb : TE) : TE := fun σ H Q => ta σ H fun x H1 => ∃ c, x = .bl c ∧ if c = true then tb σ H1 Q else Q (.bl false) H1
def ZJP (ta : TE) : TE := fun σ H Q => ta σ H fun x H1 => ∃ c, x = .bl c ∧ Q (.bl (!c)) H1
theorem ZOw {op} {t : TE} (h : PE X a t) : PE X (.BoolOp op [a] pos) t := fun pins s σ H Q I hw => BoolOp_one (h pins s σ H Q I hw)
theorem ZOx (ha : PE X a ta) (hb : PE X (.BoolOp .And (b :: ZCj) pos) tb) : PE X (.BoolOp .And (a :: b :: ZCj) pos) (ZJO ta tb) := by
 intro pins s σ H Q I h
 refine BoolOp_and (thn (ha pins s σ H _ I h) fun v s1 ⟨x, H1, I1, r1, q1⟩ => ?_)
 obtain ⟨c, rfl, q1⟩ := q1
 cases r1
 refine wpAny_truthy_bool ?_
 cases c with
 | true => exact hb pins s1 σ H1 Q I1 q1
 | false => exact ⟨.bl false, H1, I1, rfl, q1⟩
theorem ZOy (ha : PE X a ta) : PE X (.UnaryOp .Not a pos) (ZJP ta) := by
 intro pins s σ H Q I h
 refine UnaryOp_ (thn (ha pins s σ H _ I h) fun v s1 ⟨x, H1, I1, r1, q1⟩ => ?_)
 obtain ⟨c, rfl, q1⟩ := q1
 cases r1
 exact not_of (wpAny_truthy_bool ⟨.bl (!c), H1, I1, rfl, q1⟩)
def tIf (t : TT) (ta tb : TE) : TE := fun σ H Q => t σ H fun c H1 => if c = true then ta σ H1 Q else tb σ H1 Q
theorem ZLX {c : Expr} (hc : PT X c tA) (ha : PE X a ta) (hb : PE X b tb) : PE X (.IfExp c a b pos) (tIf tA ta tb) := by
 intro pins s σ H Q I h
 refine wpAny_IfExp (thn (hc pins s σ H _ I h) fun d s1 ⟨H1, I1, q1⟩ => ?_)
 cases d with
 | true => exact ha pins s1 σ H1 Q I1 q1
 | false => exact hb pins s1 σ H1 Q I1 q1
end
def SqL (K : W.Frag) (H : Hp) (a : Addr) (xs : List V) : Prop :=
 Rd H a (.lst xs) ∨
  ∃ (o : Obj) (its : Array Value) (n : Nat), K.lookup a = some o ∧ o.cls = .type "list" ∧ o.dict = none ∧ o.data = .seq its n ∧ its.size ≤ sizeLine ∧ ZBj xs its.toList
def SqT (K : W.Frag) (H : Hp) (a : Addr) (xs : List V) : Prop :=
 Rd H a (.tup xs) ∨
  ∃ (o : Obj) (its : Array Value) (n : Nat), K.lookup a = some o ∧ o.cls = .type "tuple" ∧ o.data = .seq its n ∧ its.size ≤ sizeLine ∧ ZBj xs its.toList
def ZQh : Value → Option V
 | .none => some .non
 | .bool b => some (.bl b)
 | .int i _ => some (.int i)
 | .str x _ => some (.str x)
 | .bytes b _ => some (.byt b)
 | .float b _ => some (.flt b)
 | .ref a => some (.ref a)
 | .type n => some (.ty n)
 | _ => none
theorem ZBi.abs {x : V} {u : Value} (r : ZBi x u) : ZQh u = some x := by
 cases x with
 | non => cases r; rfl
 | bl _ => cases r; rfl
 | int _ => obtain ⟨t, rfl⟩ := r; rfl
 | str _ => obtain ⟨t, rfl⟩ := r; rfl
 | byt _ => obtain ⟨t, rfl⟩ := r; rfl
 | flt _ => obtain ⟨t, rfl⟩ := r; rfl
 | ref _ => cases r; rfl
 | ty _ => cases r; rfl
theorem ZBi.inj {x y : V} {u : Value} (r : ZBi x u) (q : ZBi y u) : x = y := Option.some.inj (r.abs.symm.trans q.abs)
theorem ZBj.inj : ∀ {xs ys : List V} {us : List Value}, ZBj xs us → ZBj ys us → xs = ys
 | _, _, _, .nil, .nil => rfl
 | _, _, _, .cons r t, .cons r' t' => by rw [r.inj r', ZBj.inj t t']
section
variable {X : Cx} {pins : List (Addr × Obj)} {σ : St} {H : Hp} {s : Shared} {a : Addr} {xs ys : List V}
theorem SqL.of {K : W.Frag} (h : H a = some (.lst xs)) : SqL K H a xs := .inl (.inl h)
theorem SqT.of {K : W.Frag} (h : H a = some (.tup xs)) : SqT K H a xs := .inl (.inl h)
theorem Inv.list (I : Inv X pins σ H s) (h : SqL X.K H a xs) : ∃ its : List Value, ZBj xs its ∧ PlainL s.heap a its.toArray ∧ xs.length ≤ sizeLine := by
 rcases h with h | ⟨o, its, n, hk, hc, hd, hs, hz, r⟩
 ·obtain ⟨z, its, n, r, e⟩ := h.ok I.hok
  exact ⟨its, r, ⟨_, n, e, rfl, rfl, rfl⟩, z⟩
 ·refine ⟨its.toList, r, ⟨o, n, I.kIn a o hk, hc, hd, by simpa using hs⟩, ?_⟩
  have e := r.length
  simp only [Array.length_toList] at e
  omega
theorem Inv.tuple (I : Inv X pins σ H s) (h : SqT X.K H a xs) : ∃ its : List Value, ZBj xs its ∧ IsTup s.heap a its.toArray ∧ xs.length ≤ sizeLine := by
 rcases h with h | ⟨o, its, n, hk, hc, hs, hz, r⟩
 ·obtain ⟨z, its, r, p⟩ := h.ok I.hok
  exact ⟨its, r, p, z.1⟩
 ·refine ⟨its.toList, r, ⟨o, I.kIn a o hk, hc, n, by simpa using hs⟩, ?_⟩
  have e := r.length
  simp only [Array.length_toList] at e
  omega
theorem Inv.list_inj (I : Inv X pins σ H s) (h : SqL X.K H a xs) (h' : SqL X.K H a ys) : xs = ys := by
 obtain ⟨its, r, ⟨o, n, e, _, _, d⟩, _⟩ := I.list h
 obtain ⟨its', r', ⟨o', n', e', _, _, d'⟩, _⟩ := I.list h'
 rw [e] at e'; cases e'
 rw [d] at d'
 injection d' with d1 _
 have : its = its' := by simpa using congrArg Array.toList d1
 subst this
 exact r.inj r'
theorem Inv.tuple_inj (I : Inv X pins σ H s) (h : SqT X.K H a xs) (h' : SqT X.K H a ys) : xs = ys := by
 obtain ⟨its, r, ⟨o, e, _, n, d⟩, _⟩ := I.tuple h
 obtain ⟨its', r', ⟨o', e', _, n', d'⟩, _⟩ := I.tuple h'
 rw [e] at e'; cases e'
 rw [d] at d'
 injection d' with d1 _
 have : its = its' := by simpa using congrArg Array.toList d1
 subst this
 exact r.inj r'
end
abbrev Cx.wish (X : Cx) (E : Value → Shared → Prop) : Cx := { X with xe := E }
abbrev Cx.nox (X : Cx) : Cx := X.wish fun _ _ => False
theorem Cx.Ok.wish {X : Cx} (ok : X.Ok) (E : Value → Shared → Prop) : (X.wish E).Ok :=
 ⟨ok.mod, ok.kind, ok.glob, ok.blt, ok.above, ok.inj, ok.has, ok.cab, ok.hd, ok.frames, ok.stk, ok.exf, ok.bs, ok.bsz, ok.noex, ok.exfs, ok.funs, ok.frf⟩
theorem Cx.Ok.unwish {X : Cx} {E : Value → Shared → Prop} (ok : (X.wish E).Ok) : X.Ok :=
 ⟨ok.mod, ok.kind, ok.glob, ok.blt, ok.above, ok.inj, ok.has, ok.cab, ok.hd, ok.frames, ok.stk, ok.exf, ok.bs, ok.bsz, ok.noex, ok.exfs, ok.funs, ok.frf⟩
section
variable {X : Cx} {pins : List (Addr × Obj)} {σ : St} {H : Hp} {s : Shared} {E : Value → Shared → Prop}
theorem Inv.wish (I : Inv X pins σ H s) (E : Value → Shared → Prop) : Inv (X.wish E) pins σ H s := ⟨I.ok.wish E, I.os, I.bare, I.base, I.loc, I.cell, I.free, I.freeC, I.pin, I.hok, I.len⟩
theorem Inv.unwish (I : Inv (X.wish E) pins σ H s) : Inv X pins σ H s := ⟨I.ok.unwish, I.os, I.bare, I.base, I.loc, I.cell, I.free, I.freeC, I.pin, I.hok, I.len⟩
theorem SP.unwish {D : ZCK} {f : Flow} {s' : Shared} (h : SP (X.wish E) pins D f s') : SP X pins D f s' := by
 cases f with
 | next => obtain ⟨σ', H', I, q⟩ := h; exact ⟨σ', H', I.unwish, q⟩
 | brk => obtain ⟨σ', H', I, q⟩ := h; exact ⟨σ', H', I.unwish, q⟩
 | cont => obtain ⟨σ', H', I, q⟩ := h; exact ⟨σ', H', I.unwish, q⟩
 | ret u => obtain ⟨v, σ', H', I, r, q⟩ := h; exact ⟨v, σ', H', I.unwish, r, q⟩
theorem PSs.nox {st : List Stmt} {t : TS} (h : PSs X.nox st t) : PSs X st t := fun pins s σ H D I hw =>
 wpAny_mono (h pins s σ H D (I.wish _) hw) (fun _ _ q => q.unwish) fun _ _ z => False.elim z
end
section
variable {X : Cx} {st : Stmt} {ZCj : List Stmt} {t u : TS} {e : Expr} {te : TE} {pos : Pos}
def ZJQ : TS := fun D σ H => D.nx σ H
def ZLY (t u : TS) : TS := fun D σ H => t { D with nx := u D } σ H
theorem ZNN : PSs X [] ZJQ := fun _ _ σ H _ I h => wpAny_execs_nil ⟨σ, H, I, h⟩
theorem ZLZ (h1 : PS X st t) (h2 : PSs X ZCj u) : PSs X (st :: ZCj) (ZLY t u) := by
 intro pins s σ H D I h
 refine wpAny_execs_cons (thn (h1 pins s σ H { D with nx := u D } I h) fun f s1 q => ?_)
 cases f with
 | next =>
  obtain ⟨σ', H', I', q⟩ := q
  exact h2 pins s1 σ' H' D I' q
 | ret v => exact q
 | brk => exact q
 | cont => exact q
theorem ZNO (h1 : PS X st t) : PSs X [st] t := by
 intro pins s σ H D I h
 refine wpAny_execs_cons (thn (h1 pins s σ H D I h) fun f s1 q => ?_)
 cases f with
 | next => exact wpAny_execs_nil q
 | ret v => exact q
 | brk => exact q
 | cont => exact q
theorem Inv.quiet {pins : List (Addr × Obj)} {σ : St} {H : Hp} {s : Shared} (I : Inv X pins σ H s) : interactive X.env = false := by simp [interactive, I.ok.kind]
def ZHR (te : TE) : TS := fun D σ H => te σ H fun _ H1 => D.nx σ H1
theorem ZNP (he : PE X e te) (hs : swapsWith e none pos.line X.env = pure false := by rfl) : PS X (.Expr e pos) (ZHR te) := by
 intro pins s σ H D I h
 exact wpAny_Expr_any (thn (he pins s σ H _ I h) fun v s1 ⟨x, H1, I1, r1, q1⟩ => ⟨σ, H1, I1, q1⟩) I.quiet hs
def ZLa (te : TE) : TS := fun D σ H => te σ H D.rt
theorem ZOz (he : PE X e te) : PS X (.Return (some e) pos) (ZLa te) := by
 intro pins s σ H D I h
 exact wpAny_Return_some (thn (he pins s σ H _ I h) fun v s1 ⟨x, H1, I1, r1, q1⟩ => ⟨x, σ, H1, I1, r1, q1⟩)
def ZHZ (c : TT) (t u : TS) : TS := fun D σ H => c σ H fun b H1 => if b = true then t D σ H1 else u D σ H1
theorem ZQK {c : Expr} {a b : List Stmt} {tc : TT} (hc : PT X c tc) (ha : PSs X a t) (hb : PSs X b u) : PS X (.If c a b pos) (ZHZ tc t u) := by
 intro pins s σ H D I h
 refine wpAny_If (thn (hc pins s σ H _ I h) fun d s1 ⟨H1, I1, q1⟩ => ?_)
 cases d with
 | true => exact ha pins s1 σ H1 D I1 q1
 | false => exact hb pins s1 σ H1 D I1 q1
def ZKI : TS := fun _ _ _ => False
theorem ZLb : PS X st ZKI := fun _ _ _ _ _ _ h => h.elim
end
abbrev TG := V → St → Hp → (St → Hp → Prop) → Prop
abbrev TGs := List V → St → Hp → (St → Hp → Prop) → Prop
def PG (X : Cx) (target : Expr) (t : TG) : Prop :=
 ∀ (pins : List (Addr × Obj)) (s : Shared) (σ : St) (H : Hp) (v : V) (u : Value) (Q : St → Hp → Prop), Inv X pins σ H s → ZBi v u → t v σ H Q →
  wpAny (model X.prog X.w) X.A (assign target X.env u) (fun _ s' => ∃ σ' H', Inv X pins σ' H' s' ∧ Q σ' H') X.xe s
def PGs (X : Cx) (ts : List Expr) (t : TGs) : Prop :=
 ∀ (pins : List (Addr × Obj)) (s : Shared) (σ : St) (H : Hp) (vs : List V) (us : List Value) (Q : St → Hp → Prop), Inv X pins σ H s → ZBj vs us → t vs σ H Q →
  wpAny (model X.prog X.w) X.A (assignInOrder ((assignEach ts X.env).map (·.2)) us) (fun _ s' => ∃ σ' H', Inv X pins σ' H' s' ∧ Q σ' H') X.xe s
abbrev ZHa := V → V → V → Hp → (Hp → Prop) → Prop
def ZLc (X : Cx) (t : ZHa) : Prop :=
 ∀ (pins : List (Addr × Obj)) (s : Shared) (σ : St) (H : Hp) (o i v : V) (ov iv u : Value) (Q : Hp → Prop), Inv X pins σ H s → ZBi o ov → ZBi i iv → ZBi v u → t o i v H Q →
  wpAny (model X.prog X.w) X.A (setItem ov iv u) (fun _ s' => ∃ H', Inv X pins σ H' s' ∧ Q H') X.xe s
abbrev TIp := V → V → Hp → VK → Prop
def PIp (X : Cx) (op : Operator) (t : TIp) : Prop :=
 ∀ (pins : List (Addr × Obj)) (s : Shared) (σ : St) (H : Hp) (x y : V) (v u : Value) (Q : VK), Inv X pins σ H s → ZBi x v → ZBi y u → t x y H Q →
  wpAny (model X.prog X.w) X.A (inplaceOp op v u) (EP X pins σ Q) X.xe s
section
variable {X : Cx} {pos : Pos}
def ZEG (i : Nat) : TG := fun v σ H Q => Q (σ.set i (some v)) H
theorem ZNQ {i : Nat} {x : Str} (hN : X.N.Nodup) (hi : X.N[i]? = some x) (hx : Loc X.env.scope x) (hf : X.fn x = true ∨ X.env.scope.names.lookup x = some .local := by first | exact .inl rfl | exact .inr rfl | assumption) : PG X (.Name x pos) (ZEG i) := by
 intro pins s σ H v u Q I r h
 exact wpAny_assign_Name (ZEd I hN hi hx r (fun s' I' => ⟨_, H, I', h⟩) hf)
def ZLd : TGs := fun vs σ H Q => vs = [] ∧ Q σ H
def ZJR (t : TG) (u : TGs) : TGs := fun vs σ H Q => ∃ v r, vs = v :: r ∧ t v σ H fun σ' H' => u r σ' H' Q
theorem ZNR : PGs X [] ZLd := by
 intro pins s σ H vs us Q I r h
 obtain ⟨e, h⟩ := h
 subst e
 cases r
 exact assignInOrder_nil ⟨σ, H, I, h⟩
theorem ZLe {e : Expr} {es : List Expr} {t : TG} {u : TGs} (h1 : PG X e t) (h2 : PGs X es u)
  (hs : (assignEach (e :: es) X.env).map (·.2) = assign e X.env :: (assignEach es X.env).map (·.2) := by rfl) : PGs X (e :: es) (ZJR t u) := by
 intro pins s σ H vs us Q I r h
 obtain ⟨v, vr, e1, h⟩ := h
 subst e1
 cases r with
 | cons r rr =>
  rw [hs]
  refine assignInOrder_cons (thn (h1 pins s σ H _ _ _ I r h) fun _ s1 ⟨σ1, H1, I1, q1⟩ => ?_)
  exact h2 pins s1 σ1 H1 _ _ Q I1 rr q1
def ZJS (K : W.Frag) (n : Nat) (t : TGs) : TG := fun v σ H Q => ∃ a xs, v = .ref a ∧ SqT K H a xs ∧ xs.length = n ∧ t xs σ H Q
theorem ZO0 {es : List Expr} {k : Nat} {t : TGs} {n : Nat} (hc : X.calm = true) (h : PGs X es t)
  (hn : (assignEach es X.env).length = n := by rfl) (hst : (assignEach es X.env).findIdx? (·.1) = none := by rfl) : PG X (.Tuple es k pos) (ZJS X.K n t) := by
 intro pins s σ H v u Q I r hw
 obtain ⟨a, xs, e1, hq, hl, hw⟩ := hw
 subst e1
 cases r
 obtain ⟨its, rv, ht, hz⟩ := I.tuple hq
 refine assign_Tuple_tuple (I.ok.hd hc) ht (by simp [hn, ← hl, rv.length]) hst fun h' hx => ?_
 have I1 : Inv X pins σ H { s with heap := h' } := I.kept (t' := s.toks) fun b o e => hx b o (Nat.ne_of_lt (Heap.lt_size e)) e
 exact h pins _ σ H xs _ Q I1 (by simpa using rv) hw
def ZLf (to ti : TE) (t : ZHa) : TG := fun v σ H Q => to σ H fun o H1 => ti σ H1 fun i H2 => t o i v H2 fun H3 => Q σ H3
theorem ZO1 {o i : Expr} {to ti : TE} {t : ZHa} (ho : PE X o to) (hi : PE X i ti) (hs : ZLc X t)
  (ha : ∀ v, assign (.Subscript o i pos) X.env v = (do
   let ov ← holding [v] (eval o X.env)
   let iv ← holding [v, ov] (eval i X.env)
   standAt pos
   holding [v, ov, iv] (setItem ov iv v)
   release [v, ov, iv] []) := by intro _; rfl) : PG X (.Subscript o i pos) (ZLf to ti t) := by
 intro pins s σ H v u Q I r h
 rw [ha]
 refine wpAny_bind (wpAny_holding (thn (ho pins s σ H _ I h) fun ov s1 ⟨x, H1, I1, r1, q1⟩ => ?_))
 refine wpAny_bind (wpAny_holding (thn (hi pins s1 σ H1 _ I1 q1) fun iv s2 ⟨y, H2, I2, r2, q2⟩ => ?_))
 refine wpAny_bind (wpAny_standAt (wpAny_bind (wpAny_holding (thn (hs pins s2 σ H2 x y v ov iv u _ I2 r1 r2 r q2) fun _ s3 ⟨H3, I3, q3⟩ => ?_))))
 exact wpAny_release ⟨σ, H3, I3, q3⟩
def ZFr (te : TE) (g : TG) : TS := fun D σ H => te σ H fun x H1 => g x σ H1 D.nx
theorem ZO2 {tg e : Expr} {te : TE} {g : TG} (he : PE X e te) (hg : PG X tg g) (hs : swapsWithSole [tg] e pos.line X.env = pure false := by rfl) (hw : swappedStores [tg] e X.env = pure none := by rfl)
  (h1 : (assignEach [tg] X.env).map (·.2) = [assign tg X.env] := by rfl) : PS X (.Assign [tg] e pos) (ZFr te g) := by
 intro pins s σ H D I h
 refine wpAny_Assign_stores (thn (he pins s σ H _ I h) fun v s1 ⟨x, H1, I1, r1, q1⟩ => ?_) hs hw
 rw [h1]
 exact thn (hg pins s1 σ H1 x v _ I1 r1 q1) fun _ s2 q => q
theorem ZO3 {i : Nat} {x : Str} {e : Expr} {te : TE} {pos' : Pos} (hN : X.N.Nodup) (hi : X.N[i]? = some x) (hx : Loc X.env.scope x) (he : PE X e te) (hs : swapsWith e (some (.Name x pos')) pos.line X.env = pure false := by rfl) (hf : X.fn x = true ∨ X.env.scope.names.lookup x = some .local := by first | exact .inl rfl | exact .inr rfl | assumption) :
  PS X (.Assign [.Name x pos'] e pos) (ZFr te (ZEG i)) := by
 intro pins s σ H D I h
 refine wpAny_Assign_Name (thn (he pins s σ H _ I h) fun v s1 ⟨y, H1, I1, r1, q1⟩ => ?_) hs
 exact ZEd I1 hN hi hx r1 (fun s2 I2 => ⟨_, H1, I2, q1⟩) hf
def ZLg (i : Nat) (te : TE) (ti : TIp) : TS := fun D σ H => ∃ x, σ[i]? = some (some x) ∧ te σ H fun y H1 => ti x y H1 fun z H2 => D.nx (σ.set i (some z)) H2
theorem ZO4 {i : Nat} {x : Str} {e : Expr} {te : TE} {op : Operator} {ti : TIp} {pos' : Pos} (hN : X.N.Nodup) (hi : X.N[i]? = some x) (hx : Loc X.env.scope x) (he : PE X e te) (ho : PIp X op ti) (hf : X.fn x = true ∨ X.env.scope.names.lookup x = some .local := by first | exact .inl rfl | exact .inr rfl | assumption) :
  PS X (.AugAssign (.Name x pos') op e pos) (ZLg i te ti) := by
 intro pins s σ H D I h
 obtain ⟨v, e1, h⟩ := h
 obtain ⟨m, hn, hl⟩ := I.loc
 have vis : Vis X.env.scope x := by rcases hx with k | k; exact .inl k; exact .inr (.inl k)
 obtain ⟨u, r, l⟩ := hl i x v hi e1 vis
 refine wpAny_AugAssign_Name ?_
 have go : wpAny (model X.prog X.w) X.A (eval e X.env) (fun w s₂ => wpAny (model X.prog X.w) X.A (inplaceOp op u w) (fun r s₃ => wpAny (model X.prog X.w) X.A (storeName X.env x r) (fun _ => SP X pins D .next) X.xe s₃) X.xe s₂) X.xe s := by
  refine thn (he pins s σ H _ I h) fun w s1 ⟨y, H1, I1, r1, q1⟩ => ?_
  refine thn (ho pins s1 σ H1 v y u w _ I1 r r1 q1) fun z s2 ⟨zv, H2, I2, r2, q2⟩ => ?_
  exact ZEd I2 hN hi hx r2 (fun s3 I3 => ⟨_, H2, I3, q2⟩) hf
 rcases l with ⟨hk, hm⟩ | ⟨hk, c, hc, hcell⟩
 ·exact wpAny_loadName_local I.ok.kind hk hn hm go
 ·rcases hk with hk | hk
  ·exact wpAny_loadName_cell I.ok.kind hk hc hcell go
  ·rcases hx with k | k
   ·have : X.env.scope.names.lookup x = some .free := hk
    rw [k] at this; cases this
   ·have : X.env.scope.names.lookup x = some .free := hk
    rw [k] at this; cases this
end
section
variable {X : Cx} {pos : Pos}
def ZHb (c : TT) (tb : TS) : TS := fun D σ H => ∃ W : Nat → St → Hp → Prop, (∃ m, W m σ H) ∧ ∀ m σ H, W m σ H →
 c σ H fun b H1 => if b = true then ∃ N : St → Hp → Prop, (∀ σ' H', N σ' H' → ∃ m', m' < m ∧ W m' σ' H') ∧ tb { D with nx := N, ct := N, bk := D.nx } σ H1 else D.nx σ H1
theorem ZLh {c : Expr} {body : List Stmt} {tc : TT} {tb : TS} (hp : PassesOwn (model X.prog X.w) X.A X.env X.xe) (hc : PT X c tc) (hb : PSs X body tb) : PS X (.While c body [] pos) (ZHb tc tb) := by
 intro pins s σ H D I h
 obtain ⟨W, ⟨m0, w0⟩, turn⟩ := h
 refine wpAny_While (codeAny_whileLoop (fun n s' => ∃ σ' H', Inv X pins σ' H' s' ∧ W n σ' H') ?_ m0 ⟨σ, H, I, w0⟩)
 rintro n s1 ⟨σ1, H1, I1, w1⟩
 refine wpAny_passesOwn hp (thn (hc pins s1 σ1 H1 _ I1 (turn n σ1 H1 w1)) fun b s2 ⟨H2, I2, q2⟩ => ?_)
 cases b with
 | true =>
  obtain ⟨N, hN, q2⟩ := q2
  rw [if_pos rfl]
  refine wpAny_passesOwn hp (thn (hb pins s2 σ1 H2 _ I2 q2) fun f s3 q3 => ?_)
  cases f with
  | next =>
   obtain ⟨σ3, H3, I3, n3⟩ := q3
   obtain ⟨m', hm, w3⟩ := hN σ3 H3 n3
   exact ⟨m', hm, σ3, H3, I3, w3⟩
  | cont =>
   obtain ⟨σ3, H3, I3, n3⟩ := q3
   obtain ⟨m', hm, w3⟩ := hN σ3 H3 n3
   exact ⟨m', hm, σ3, H3, I3, w3⟩
  | brk => exact q3
  | ret v => exact q3
 | false =>
  rw [if_neg Bool.false_ne_true]
  exact wpAny_execs_nil ⟨σ1, H2, I2, q2⟩
end
structure It where
 go : Nat → Hp → Prop
 yld : Nat → Hp → V → Hp → Prop
 stop : Nat → Hp → Prop
def ZC1 (X : Cx) (pins : List (Addr × Obj)) (H : Hp) (b : Addr) : Prop :=
 H b = none ∧ b ≠ X.env.locals ∧ b ∉ X.fs ∧ (b ∈ X.ex ∨ X.s₀.heap.objs.size ≤ b) ∧ (∀ x c, X.env.cells.lookup x = some c → c ≠ b) ∧ ∀ p ∈ X.pn ++ pins, p.1 ≠ b
theorem Inv.fpOk {X : Cx} {pins : List (Addr × Obj)} {σ : St} {H H' : Hp} {s : Shared} {b : Addr} (I : Inv X pins σ H s) (hb : s.heap.objs.size ≤ b) (hn : H' b = none) : ZC1 X pins H' b := by
 refine ⟨hn, Nat.ne_of_gt (Nat.lt_of_lt_of_le I.lt hb), I.nofs hb, .inr (Nat.le_trans I.sz hb), fun x c e z => ?_, fun p hp z => ?_⟩
 ·obtain ⟨v, q⟩ := I.cell x c e
  exact absurd (Nat.lt_of_lt_of_le q.lt (by rw [z]; exact hb)) (Nat.lt_irrefl _)
 ·exact absurd (Nat.lt_of_lt_of_le (Heap.lt_size (I.pin p hp).1) (by rw [z]; exact hb)) (Nat.lt_irrefl _)
structure ZJT (P : Program) (w : World) (K : W.Frag) (tg : Expr) (J : It) (fp : List Addr) (it : Addr) (tn : Nat → Heap → Prop) : Prop where
 mem : it ∈ fp
 obj : ∀ i h, tn i h → ∀ b ∈ fp, ∃ o, h.get? b = some o ∧ ∀ v, o.data ≠ .cell v
 keep : ∀ i h h', tn i h → (∀ b ∈ fp, ∀ o, h.get? b = some o → h'.get? b = some o) → tn i h'
 item : ∀ (X : Cx), X.prog = P → X.w = w → X.K = K → X.calm = true → ∀ (i : Nat) (pins : List (Addr × Obj)) (s : Shared) (σ : St) (H : Hp) (E : Value → Shared → Prop), Inv X pins σ H s → (∀ b ∈ fp, ZC1 X pins H b) → tn i s.heap → J.go i H →
  wpAny (model P w) X.A (pyNext (.ref it)) (fun r s1 => ∃ u, r = some u ∧
   wpAny (model P w) X.A (letOwnedTupleGo tg (.ref it) u) (fun _ s2 => ∃ x H', Inv X pins σ H' s2 ∧ ZBi x u ∧ J.yld i H x H' ∧ tn (i + 1) s2.heap ∧ ∀ b ∈ fp, H' b = none) E s1) E s
 done : ∀ (X : Cx), X.prog = P → X.w = w → X.K = K → X.calm = true → ∀ (i : Nat) (pins : List (Addr × Obj)) (s : Shared) (σ : St) (H : Hp) (E : Value → Shared → Prop), Inv X pins σ H s → (∀ b ∈ fp, ZC1 X pins H b) → tn i s.heap → J.stop i H →
  wpAny (model P w) X.A (pyNext (.ref it)) (fun r s1 => r = none ∧ Inv X pins σ H s1) E s
 self : ∀ (A : Around) (i : Nat) (s : Shared) (Q : Value → Shared → Prop) (E : Value → Shared → Prop), tn i s.heap → Q (.ref it) s → wpAny (model P w) A (pyIter (.ref it)) Q E s
abbrev TI := St → Hp → (It → Hp → Prop) → Prop
def PIE (X : Cx) (pins : List (Addr × Obj)) (σ : St) (tg : Expr) (R : It → Hp → Prop) (itv : Value) (s2 : Shared) : Prop :=
 ∃ (it : Addr) (fp : List Addr) (tn : Nat → Heap → Prop) (J : It) (H' : Hp), itv = .ref it ∧ Inv X pins σ H' s2 ∧ ZJT X.prog X.w X.K tg J fp it tn ∧ tn 0 s2.heap ∧ (∀ b ∈ fp, ZC1 X pins H' b) ∧ R J H'
def PI (X : Cx) (tg iter : Expr) (wi : TI) : Prop :=
 ∀ (pins : List (Addr × Obj)) (s : Shared) (σ : St) (H : Hp) (R : It → Hp → Prop), Inv X pins σ H s → wi σ H R →
  wpAny (model X.prog X.w) X.A (eval iter X.env) (fun v s1 => wpAny (model X.prog X.w) X.A (pyIter v) (PIE X pins σ tg R) X.xe s1) X.xe s
theorem ZJU {M : Model} {A : Around} {E : Value → Shared → Prop} {s : Shared} {tg : Expr} {it : Addr} {u : Value} {o : Obj} {n : String} {vs : Array Value} {Q : Unit → Shared → Prop} (ho : s.heap.get? it = some o) (hc : o.cls = .type n) (hd : o.data = .fields vs)
    (hn : ["enumerate", "zip", "dict_itemiterator", "dict_reverseitemiterator", "odict_iterator", "itertools.zip_longest", "itertools.pairwise"].contains n = false) (hQ : Q () s) : wpAny M A (letOwnedTupleGo tg (.ref it) u) Q E s := by
  unfold letOwnedTupleGo
  cases tg <;> first
    | exact wpAny_pure hQ
    | (cases u <;> first
        | exact wpAny_pure hQ
        | (refine wpAny_bind (wpAny_load ho ?_)
           rw [hc, hd]
           show wpAny M A (if (["enumerate", "zip", "dict_itemiterator", "dict_reverseitemiterator", "odict_iterator", "itertools.zip_longest", "itertools.pairwise"].contains n && vs[0]? == some (rawInt _)) = true then _ else _) Q E s
           rw [if_neg (by intro h; rw [hn, Bool.false_and] at h; cases h)]
           exact wpAny_pure hQ))
def Itl (K : W.Frag) (a : Addr) : It :=
 ⟨fun i H => ∃ xs x, SqL K H a xs ∧ xs[i]? = some x, fun i H x H' => H' = H ∧ ∀ xs, SqL K H a xs → xs[i]? = some x, fun i H => ∃ xs, SqL K H a xs ∧ xs.length ≤ i⟩
def Itt (K : W.Frag) (a : Addr) : It :=
 ⟨fun i H => ∃ xs x, SqT K H a xs ∧ xs[i]? = some x, fun i H x H' => H' = H ∧ ∀ xs, SqT K H a xs → xs[i]? = some x, fun i H => ∃ xs, SqT K H a xs ∧ xs.length ≤ i⟩
def Itr (lo : Int) (n : Nat) : It := ⟨fun i _ => i < n, fun i H x H' => H' = H ∧ x = .int (lo + i), fun i _ => n ≤ i⟩
theorem ZGv {P : Program} {w : World} {K : W.Frag} {tg : Expr} (a it : Addr) : ZJT P w K tg (Itl K a) [it] it (fun i h => h.IsListIter it a i) where
 mem := by simp
 obj := fun i h st b hb => by
  have e : b = it := by simpa using hb
  subst e
  obtain ⟨o, e, c, d⟩ := st
  exact ⟨o, e, fun v z => by rw [d] at z; cases z⟩
 keep := fun i h h' st k => st.at fun o e => k it (by simp) o e
 item := by
  intro X hP hw hK hc i pins s σ H E I hf st hg
  subst hP hw hK
  obtain ⟨xs, x, hq, hx⟩ := hg
  obtain ⟨its, rv, p, hz⟩ := I.list hq
  obtain ⟨u, hu, ru⟩ := rv.get hx
  obtain ⟨f0, f1, f2, f3, f4, f5⟩ := hf it (by simp)
  refine wpAny_pyNext_list_item st p.isList (x := u) (by simpa using hu) fun h' st' sb => ?_
  have I1 : Inv X pins σ H { s with heap := h' } := I.turned (t' := s.toks) (fun b o hb e => (sb.2 b hb).trans e) f0 f1 f3 f4 f5
  obtain ⟨o, e, c, d⟩ := id st'
  exact ⟨u, rfl, ZJU (s := { s with heap := h' }) e c d (by decide) ⟨x, H, I1, ru, ⟨rfl, fun ys hy => by rw [I.list_inj hy hq]; exact hx⟩, st', fun b hb => (hf b hb).1⟩⟩
 done := by
  intro X hP hw hK hc i pins s σ H E I hf st hg
  subst hP hw hK
  obtain ⟨xs, hq, hx⟩ := hg
  obtain ⟨its, rv, p, hz⟩ := I.list hq
  obtain ⟨f0, f1, f2, f3, f4, f5⟩ := hf it (by simp)
  have hl := rv.length
  exact wpAny_pyNext_list_end (I.ok.hd hc) st p.isList (by simp; omega) fun h' eb => ⟨rfl, I.turned (t' := s.toks) (fun b o hb e => eb b o hb e) f0 f1 f3 f4 f5⟩
 self := fun _ _ _ _ _ st h => wpAny_pyIter_listiter st h
theorem ZGD {P : Program} {w : World} {K : W.Frag} {tg : Expr} (a it : Addr) : ZJT P w K tg (Itt K a) [it] it (fun i h => h.IsTupleIter it a i) where
 mem := by simp
 obj := fun i h st b hb => by
  have e : b = it := by simpa using hb
  subst e
  obtain ⟨o, e, c, d⟩ := st
  exact ⟨o, e, fun v z => by rw [d] at z; cases z⟩
 keep := fun i h h' st k => st.at fun o e => k it (by simp) o e
 item := by
  intro X hP hw hK hc i pins s σ H E I hf st hg
  subst hP hw hK
  obtain ⟨xs, x, hq, hx⟩ := hg
  obtain ⟨its, rv, p, hz⟩ := I.tuple hq
  obtain ⟨u, hu, ru⟩ := rv.get hx
  obtain ⟨f0, f1, f2, f3, f4, f5⟩ := hf it (by simp)
  refine wpAny_pyNext_tuple_item st (show s.heap.IsTuple a its.toArray from p) (x := u) (by simpa using hu) fun h' st' sb => ?_
  have I1 : Inv X pins σ H { s with heap := h' } := I.turned (t' := s.toks) (fun b o hb e => (sb.2 b hb).trans e) f0 f1 f3 f4 f5
  obtain ⟨o, e, c, d⟩ := id st'
  exact ⟨u, rfl, ZJU (s := { s with heap := h' }) e c d (by decide) ⟨x, H, I1, ru, ⟨rfl, fun ys hy => by rw [I.tuple_inj hy hq]; exact hx⟩, st', fun b hb => (hf b hb).1⟩⟩
 done := by
  intro X hP hw hK hc i pins s σ H E I hf st hg
  subst hP hw hK
  obtain ⟨xs, hq, hx⟩ := hg
  obtain ⟨its, rv, p, hz⟩ := I.tuple hq
  obtain ⟨f0, f1, f2, f3, f4, f5⟩ := hf it (by simp)
  have hl := rv.length
  exact wpAny_pyNext_tuple_end (I.ok.hd hc) st (show s.heap.IsTuple a its.toArray from p) (by simp; omega) fun h' eb => ⟨rfl, I.turned (t' := s.toks) (fun b o hb e => eb b o hb e) f0 f1 f3 f4 f5⟩
 self := fun _ _ _ _ _ st h => wpAny_pyIter_tupleiter st h
theorem ZJV {P : Program} {w : World} {K : W.Frag} {tg : Expr} (it : Addr) (lo : Int) (n : Nat) : ZJT P w K tg (Itr lo n) [it] it (fun i h => IsRangeIter h it (lo + (i : Nat) * 1) ((n : Int) - (i : Nat)) 1) where
 mem := by simp
 obj := fun i h st b hb => by
  have e : b = it := by simpa using hb
  subst e
  exact ⟨_, st, fun v z => by
   have z' : Data.fields _ = Data.cell v := z
   cases z'⟩
 keep := fun i h h' st k => k it (by simp) _ st
 item := by
  intro X hP hw hK hc i pins s σ H E I hf st hg
  subst hP hw hK
  obtain ⟨f0, f1, f2, f3, f4, f5⟩ := hf it (by simp)
  have W := Walks.range (prog := X.prog) (w := X.w) (I.ok.hd hc) it lo 1 n
  refine W.item i s _ _ hg st fun v h' tk hv st' kk => ?_
  obtain ⟨t, rfl⟩ := hv
  have I1 : Inv X pins σ H { s with heap := h', toks := tk } := I.turned (fun b o hb e => kk b o (by simpa using hb) e) f0 f1 f3 f4 f5
  refine ⟨_, rfl, ZJU (s := { s with heap := h', toks := tk }) (n := "range_iterator") st' rfl rfl (by decide) ⟨.int (lo + i), H, I1, ⟨t, ?_⟩, ⟨rfl, rfl⟩, st', fun b hb => (hf b hb).1⟩⟩
  rw [Int.mul_one]
 done := by
  intro X hP hw hK hc i pins s σ H E I hf st hg
  subst hP hw hK
  obtain ⟨f0, f1, f2, f3, f4, f5⟩ := hf it (by simp)
  exact wpAny_pyNext_range_end (I.ok.hd hc) st (by have : n ≤ i := hg; omega) fun h' eb => ⟨rfl, I.turned (t' := s.toks) (fun b o hb e => eb b o hb e) f0 f1 f3 f4 f5⟩
 self := fun _ _ _ _ _ st h => wpAny_pyIter_rangeiter st h
section
variable {X : Cx} {tg : Expr}
def ZHS (K : W.Frag) (tl : TE) : TI := fun σ H R => tl σ H fun x H1 => ∃ a, x = .ref a ∧ (∃ xs, SqL K H1 a xs) ∧ R (Itl K a) H1
def ZJW (K : W.Frag) (tl : TE) : TI := fun σ H R => tl σ H fun x H1 => ∃ a, x = .ref a ∧ (∃ xs, SqT K H1 a xs) ∧ R (Itt K a) H1
theorem ZNS {l : Expr} {tl : TE} (hl : PE X l tl) : PI X tg l (ZHS X.K tl) := by
 intro pins s σ H R I h
 refine thn (hl pins s σ H _ I h) fun v s1 ⟨x, H1, I1, r1, q1⟩ => ?_
 obtain ⟨a, e, ⟨xs, hq⟩, q⟩ := q1
 subst e
 cases r1
 obtain ⟨its, rv, p, hz⟩ := I1.list hq
 refine wpAny_pyIter_list p.isList ?_
 refine ⟨s1.heap.objs.size, [s1.heap.objs.size], _, _, H1, rfl, I1.kept (t' := s1.toks) fun b o e => Heap.get?_push_of_some _ e, ZGv a _, ⟨_, Heap.get?_push_size _ rfl, rfl, rfl⟩, fun b hb => ?_, q⟩
 have e : b = s1.heap.objs.size := by simpa using hb
 subst e
 exact I1.fpOk (Nat.le_refl _) (I1.hok.fresh (Nat.le_refl _))
theorem ZO5 {l : Expr} {tl : TE} (hl : PE X l tl) : PI X tg l (ZJW X.K tl) := by
 intro pins s σ H R I h
 refine thn (hl pins s σ H _ I h) fun v s1 ⟨x, H1, I1, r1, q1⟩ => ?_
 obtain ⟨a, e, ⟨xs, hq⟩, q⟩ := q1
 subst e
 cases r1
 obtain ⟨its, rv, p, hz⟩ := I1.tuple hq
 refine wpAny_pyIter_tuple (show s1.heap.IsTuple a its.toArray from p) ?_
 refine ⟨s1.heap.objs.size, [s1.heap.objs.size], _, _, H1, rfl, I1.kept (t' := s1.toks) fun b o e => Heap.get?_push_of_some _ e, ZGD a _, ⟨_, Heap.get?_push_size _ rfl, rfl, rfl⟩, fun b hb => ?_, q⟩
 have e : b = s1.heap.objs.size := by simpa using hb
 subst e
 exact I1.fpOk (Nat.le_refl _) (I1.hok.fresh (Nat.le_refl _))
theorem ZLi {pins : List (Addr × Obj)} {σ : St} {H : Hp} {s : Shared} {R : It → Hp → Prop} {E : Value → Shared → Prop} {lo hi : Int} {t u v : Tok} {tk : Nat} (I : Inv X pins σ H s) (h1 : -(2 ^ 62) ≤ lo) (h2 : lo < 2 ^ 62) (h3 : -(2 ^ 62) ≤ hi) (h4 : hi < 2 ^ 62)
  (q : R (Itr lo (hi - lo).toNat) H) : wpAny (model X.prog X.w) X.A (pyIter (.ref s.heap.objs.size)) (PIE X pins σ tg R) E { s with heap := s.heap.push { cls := .type "range", data := .fields #[.int lo t, .int hi u, .int 1 v] }, toks := tk } := by
 refine wpAny_pyIter_range (IsRange.new ..) (small_one h1 h2 h3 h4) ?_
 have I1 : Inv X pins σ H { s with heap := s.heap.push { cls := .type "range", data := .fields #[.int lo t, .int hi u, .int 1 v] }, toks := tk } := I.kept fun b o e => Heap.get?_push_of_some _ e
 refine ⟨(s.heap.push { cls := .type "range", data := .fields #[.int lo t, .int hi u, .int 1 v] }).objs.size, [(s.heap.push { cls := .type "range", data := .fields #[.int lo t, .int hi u, .int 1 v] }).objs.size], _, _, H, rfl,
  I1.kept (t' := tk) fun b o e => Heap.get?_push_of_some _ e, ZJV _ lo (hi - lo).toNat, ?_, fun b hb => ?_, q⟩
 ·have e1 : lo + ((0 : Nat) : Int) * 1 = lo := by simp
  have e2 : (((hi - lo).toNat : Nat) : Int) - ((0 : Nat) : Int) = Builtin.Range.rangeSize lo hi 1 := by rw [rangeSize_one]; split <;> omega
  show IsRangeIter _ _ (lo + ((0 : Nat) : Int) * 1) ((((hi - lo).toNat : Nat) : Int) - ((0 : Nat) : Int)) 1
  rw [e1, e2]
  exact Heap.get?_push_size _ rfl
 ·have e : b = (s.heap.push { cls := .type "range", data := .fields #[.int lo t, .int hi u, .int 1 v] }).objs.size := by simpa using hb
  subst e
  exact I1.fpOk (Nat.le_refl _) (I1.hok.fresh (Nat.le_refl _))
def ZJX (ta : TA) : TI := fun σ H R => ta σ H fun vs H1 => ∃ j : Int, vs = [.int j] ∧ -(2 ^ 62) ≤ j ∧ j < 2 ^ 62 ∧ R (Itr 0 j.toNat) H1
theorem ZKJ {a : Expr} {ta : TA} {p pos : Pos} (hg : Gl X "range") (hm : X.mg "range" = none) (ha : PA X [a] ta) (hs : starEach [a] X.env = [(false, eval a X.env)] := by rfl) : PI X tg (.Call (.Name "range" p) [a] [] pos) (ZJX ta) := by
 intro pins s σ H R I h
 refine Call_ (ZD2 I hg hm boot_range (PyProof.Rows.callWith_type1 (thn (ha pos pins s σ H _ I h) fun us s1 ⟨vs, H1, I1, r1, q1⟩ => ?_) hs rfl))
 obtain ⟨j, e, q1, q2, q⟩ := q1
 subst e
 cases r1 with
 | cons r rr =>
  cases rr
  obtain ⟨t, rfl⟩ := r
  exact call_range_1 (ZLi I1 (by omega) (by omega) q1 q2 (by simpa using q))
def ZLj (wi : TI) (g : TG) (tb : TS) : TS := fun D σ H => wi σ H fun J H1 => ∃ W : Nat → Nat → St → Hp → Prop, (∃ m, W 0 m σ H1) ∧ ∀ i m σ H, W i m σ H →
 (J.stop i H ∧ D.nx σ H) ∨ (J.go i H ∧ ∃ N : St → Hp → Prop, (∀ σ' H', N σ' H' → ∃ m', m' < m ∧ W (i + 1) m' σ' H') ∧ ∀ x H', J.yld i H x H' → g x σ H' fun σ2 H2 => tb { D with nx := N, ct := N, bk := D.nx } σ2 H2)
def ZE3 (fp : List Addr) (h : Heap) : List (Addr × Obj) := fp.filterMap fun b => (h.get? b).map fun o => (b, o)
theorem ZDv {fp : List Addr} {h : Heap} {b : Addr} {o : Obj} (hb : b ∈ fp) (e : h.get? b = some o) : (b, o) ∈ ZE3 fp h := List.mem_filterMap.mpr ⟨b, hb, by rw [e]; rfl⟩
theorem ZKK {fp : List Addr} {h : Heap} {p : Addr × Obj} (hp : p ∈ ZE3 fp h) : p.1 ∈ fp ∧ h.get? p.1 = some p.2 := by
 obtain ⟨b, hb, e⟩ := List.mem_filterMap.mp hp
 cases q : h.get? b with
 | none => rw [q] at e; cases e
 | some o =>
  rw [q] at e
  have e' : (b, o) = p := Option.some.inj e
  subst e'
  exact ⟨hb, q⟩
theorem Inv.pinned {pins : List (Addr × Obj)} {σ : St} {H : Hp} {s : Shared} {fp : List Addr} (I : Inv X pins σ H s) (hf : ∀ b ∈ fp, ZC1 X pins H b) (ho : ∀ b ∈ fp, ∃ o, s.heap.get? b = some o ∧ ∀ v, o.data ≠ .cell v) : Inv X (pins ++ ZE3 fp s.heap) σ H s :=
 I.pins_of fun p hp => (List.mem_append.mp hp).elim (fun z => I.pin p (List.mem_append_right _ z)) fun z => by
  obtain ⟨hb, e⟩ := ZKK z
  obtain ⟨f0, f1, f2, _⟩ := hf p.1 hb
  obtain ⟨o, e', d⟩ := ho p.1 hb
  rw [e] at e'; cases e'
  exact ⟨e, f0, f1, f2, d⟩
theorem Inv.unpinned {pins pl : List (Addr × Obj)} {σ : St} {H : Hp} {s : Shared} (I : Inv X (pins ++ pl) σ H s) : Inv X pins σ H s := I.pins_of fun p hp => I.pin p (List.mem_append_right _ (List.mem_append_left _ hp))
theorem ZO6 {iter : Expr} {body : List Stmt} {wi : TI} {g : TG} {tb : TS} {pos : Pos} (hp : PassesOwn (model X.prog X.w) X.A X.env X.xe) (hc : X.calm = true) (hi : PI X tg iter wi) (hg : PG X tg g) (hb : PSs X body tb)
  (hs : ∀ x, foldedSetIterable iter X.env x = pure x := by intro _; rfl) : PS X (.For tg iter body [] pos) (ZLj wi g tb) := by
 intro pins s σ H D I h
 refine wpAny_For (thn (hi pins s σ H _ I h) fun v s1 h1 => thn h1 fun itv s2 h2 => ?_) hs
 obtain ⟨it, fp, tn, J, H2, e, I2, T, st2, f2, W, ⟨m0, w0⟩, turn⟩ := h2
 subst e
 -- what stays true of the iterator's objects through the loop
 have stat : ∀ {H' : Hp}, (∀ b ∈ fp, H' b = none) → ∀ b ∈ fp, ZC1 X pins H' b := fun hn b hb => ⟨hn b hb, (f2 b hb).2⟩
 refine codeAny_forLoop_any (fun n s' => ∃ i σ' H', Inv X pins σ' H' s' ∧ tn i s'.heap ∧ (∀ b ∈ fp, H' b = none) ∧ W i n σ' H') ?_ m0 ⟨0, σ, H2, I2, st2, fun b hb => (f2 b hb).1, w0⟩
 rintro n s3 ⟨i, σ3, H3, I3, st3, fr3, w3⟩
 rcases turn i n σ3 H3 w3 with ⟨stop, qn⟩ | ⟨go, N, hN, step⟩
 ·refine wpAny_passesOwn hp (thn (T.done X rfl rfl rfl hc i pins s3 σ3 H3 X.xe I3 (stat fr3) st3 stop) fun r s4 ⟨hr, I4⟩ => ?_)
  subst hr
  exact wpAny_execs_nil ⟨σ3, H3, I4, qn⟩
 ·refine wpAny_passesOwn hp (thn (T.item X rfl rfl rfl hc i pins s3 σ3 H3 X.xe I3 (stat fr3) st3 go) fun r s4 ⟨u, hr, h4⟩ => ?_)
  subst hr
  refine wpAny_passesOwn hp (thn h4 fun _ s5 ⟨x, H5, I5, r5, y5, st5, fr5⟩ => ?_)
  have I5' := I5.pinned (stat fr5) (T.obj _ _ st5)
  refine wpAny_passesOwn hp (thn (hg _ s5 σ3 H5 x u _ I5' r5 (step x H5 y5)) fun _ s6 ⟨σ6, H6, I6, q6⟩ => ?_)
  refine wpAny_passesOwn hp (thn (hb _ s6 σ6 H6 _ I6 q6) fun f s7 q7 => ?_)
  have again : ∀ {σ7 : St} {H7 : Hp}, Inv X (pins ++ ZE3 fp s5.heap) σ7 H7 s7 → N σ7 H7 → ∃ m, m < n ∧ ∃ i σ' H', Inv X pins σ' H' s7 ∧ tn i s7.heap ∧ (∀ b ∈ fp, H' b = none) ∧ W i m σ' H' := fun {σ7 H7} I7 n7 => by
   obtain ⟨m', hm, w7⟩ := hN σ7 H7 n7
   refine ⟨m', hm, i + 1, σ7, H7, I7.unpinned, T.keep _ _ _ st5 fun b hb o e => (I7.pin (b, o) (List.mem_append_right _ (List.mem_append_right _ (ZDv hb e)))).1, fun b hb => ?_, w7⟩
   obtain ⟨o, e, d⟩ := T.obj _ _ st5 b hb
   exact (I7.pin (b, o) (List.mem_append_right _ (List.mem_append_right _ (ZDv hb e)))).2.1
  cases f with
  | next => obtain ⟨σ7, H7, I7, n7⟩ := q7; exact again I7 n7
  | cont => obtain ⟨σ7, H7, I7, n7⟩ := q7; exact again I7 n7
  | brk => obtain ⟨σ7, H7, I7, q7⟩ := q7; exact ⟨σ7, H7, I7.unpinned, q7⟩
  | ret v => obtain ⟨x7, σ7, H7, I7, r7, q7⟩ := q7; exact ⟨x7, σ7, H7, I7.unpinned, r7, q7⟩
end
theorem ZLk {K : W.Frag} {a : Addr} {xs : List V} {g : TG} {tb : TS} {D : ZCK} {σ : St} {H : Hp} (Pv : Nat → St → Hp → Prop) (h0 : Pv 0 σ H) (hl : ∀ i σ H, i ≤ xs.length → Pv i σ H → SqL K H a xs)
  (hs : ∀ i x σ H, xs[i]? = some x → Pv i σ H → g x σ H fun σ2 H2 => tb { D with nx := Pv (i + 1), ct := Pv (i + 1), bk := D.nx } σ2 H2) (hd : ∀ σ H, Pv xs.length σ H → D.nx σ H) :
  ∃ W : Nat → Nat → St → Hp → Prop, (∃ m, W 0 m σ H) ∧ ∀ i m σ H, W i m σ H →
   ((Itl K a).stop i H ∧ D.nx σ H) ∨ ((Itl K a).go i H ∧ ∃ N : St → Hp → Prop, (∀ σ' H', N σ' H' → ∃ m', m' < m ∧ W (i + 1) m' σ' H') ∧ ∀ x H', (Itl K a).yld i H x H' → g x σ H' fun σ2 H2 => tb { D with nx := N, ct := N, bk := D.nx } σ2 H2) := by
 refine ⟨fun i m σ H => m = xs.length - i ∧ i ≤ xs.length ∧ Pv i σ H, ⟨xs.length, by simp, Nat.zero_le _, h0⟩, ?_⟩
 rintro i m σ H ⟨rfl, hi, p⟩
 have q := hl i σ H hi p
 by_cases hlt : i < xs.length
 ·refine .inr ⟨⟨xs, xs[i], q, by simp [hlt]⟩, Pv (i + 1), fun σ' H' p' => ⟨xs.length - (i + 1), by omega, rfl, hlt, p'⟩, fun x H' y => ?_⟩
  obtain ⟨e, y⟩ := y
  subst e
  exact hs i x σ _ (y xs q) p
 ·have e : i = xs.length := by omega
  subst e
  exact .inl ⟨⟨xs, q, Nat.le_refl _⟩, hd σ H p⟩
theorem ZNT {K : W.Frag} {a : Addr} {xs : List V} {g : TG} {tb : TS} {D : ZCK} {σ : St} {H : Hp} (Pv : Nat → St → Hp → Prop) (h0 : Pv 0 σ H) (hl : ∀ i σ H, i ≤ xs.length → Pv i σ H → SqT K H a xs)
  (hs : ∀ i x σ H, xs[i]? = some x → Pv i σ H → g x σ H fun σ2 H2 => tb { D with nx := Pv (i + 1), ct := Pv (i + 1), bk := D.nx } σ2 H2) (hd : ∀ σ H, Pv xs.length σ H → D.nx σ H) :
  ∃ W : Nat → Nat → St → Hp → Prop, (∃ m, W 0 m σ H) ∧ ∀ i m σ H, W i m σ H →
   ((Itt K a).stop i H ∧ D.nx σ H) ∨ ((Itt K a).go i H ∧ ∃ N : St → Hp → Prop, (∀ σ' H', N σ' H' → ∃ m', m' < m ∧ W (i + 1) m' σ' H') ∧ ∀ x H', (Itt K a).yld i H x H' → g x σ H' fun σ2 H2 => tb { D with nx := N, ct := N, bk := D.nx } σ2 H2) := by
 refine ⟨fun i m σ H => m = xs.length - i ∧ i ≤ xs.length ∧ Pv i σ H, ⟨xs.length, by simp, Nat.zero_le _, h0⟩, ?_⟩
 rintro i m σ H ⟨rfl, hi, p⟩
 have q := hl i σ H hi p
 by_cases hlt : i < xs.length
 ·refine .inr ⟨⟨xs, xs[i], q, by simp [hlt]⟩, Pv (i + 1), fun σ' H' p' => ⟨xs.length - (i + 1), by omega, rfl, hlt, p'⟩, fun x H' y => ?_⟩
  obtain ⟨e, y⟩ := y
  subst e
  exact hs i x σ _ (y xs q) p
 ·have e : i = xs.length := by omega
  subst e
  exact .inl ⟨⟨xs, q, Nat.le_refl _⟩, hd σ H p⟩
theorem ZKL {lo : Int} {n : Nat} {g : TG} {tb : TS} {D : ZCK} {σ : St} {H : Hp} (Pv : Nat → St → Hp → Prop) (h0 : Pv 0 σ H)
  (hs : ∀ i σ H, i < n → Pv i σ H → g (.int (lo + i)) σ H fun σ2 H2 => tb { D with nx := Pv (i + 1), ct := Pv (i + 1), bk := D.nx } σ2 H2) (hd : ∀ σ H, Pv n σ H → D.nx σ H) :
  ∃ W : Nat → Nat → St → Hp → Prop, (∃ m, W 0 m σ H) ∧ ∀ i m σ H, W i m σ H →
   ((Itr lo n).stop i H ∧ D.nx σ H) ∨ ((Itr lo n).go i H ∧ ∃ N : St → Hp → Prop, (∀ σ' H', N σ' H' → ∃ m', m' < m ∧ W (i + 1) m' σ' H') ∧ ∀ x H', (Itr lo n).yld i H x H' → g x σ H' fun σ2 H2 => tb { D with nx := N, ct := N, bk := D.nx } σ2 H2) := by
 refine ⟨fun i m σ H => m = n - i ∧ i ≤ n ∧ Pv i σ H, ⟨n, by simp, Nat.zero_le _, h0⟩, ?_⟩
 rintro i m σ H ⟨rfl, hi, p⟩
 by_cases hlt : i < n
 ·refine .inr ⟨hlt, Pv (i + 1), fun σ' H' p' => ⟨n - (i + 1), by omega, rfl, hlt, p'⟩, fun x H' y => ?_⟩
  obtain ⟨e, y⟩ := y
  subst e y
  exact hs i σ _ hlt p
 ·have e : i = n := by omega
  subst e
  exact .inl ⟨Nat.le_refl _, hd σ H p⟩
abbrev R2 := V → V → Hp → VK → Prop
def OpR (X : Cx) (f : Value → Value → Sem Value) (r : R2) : Prop :=
 ∀ (pins : List (Addr × Obj)) (s : Shared) (σ : St) (H : Hp) (x y : V) (v u : Value) (Q : VK), Inv X pins σ H s → ZBi x v → ZBi y u → r x y H Q →
  wpAny (model X.prog X.w) X.A (f v u) (EP X pins σ Q) X.xe s
def UnR (X : Cx) (f : Value → Sem Value) (r : V → Hp → VK → Prop) : Prop :=
 ∀ (pins : List (Addr × Obj)) (s : Shared) (σ : St) (H : Hp) (x : V) (v : Value) (Q : VK), Inv X pins σ H s → ZBi x v → r x H Q →
  wpAny (model X.prog X.w) X.A (f v) (EP X pins σ Q) X.xe s
def ZBy (X : Cx) (f : Value) (r : List V → Hp → VK → Prop) : Prop :=
 ∀ (pins : List (Addr × Obj)) (s : Shared) (σ : St) (H : Hp) (xs : List V) (us : List Value) (Q : VK), Inv X pins σ H s → ZBj xs us → r xs H Q →
  wpAny (model X.prog X.w) X.A (call f us) (EP X pins σ Q) X.xe s
def tOp (r : R2) (ta tb : TE) : TE := fun σ H Q => ta σ H fun x H1 => tb σ H1 fun y H2 => r x y H2 Q
def tUn (r : V → Hp → VK → Prop) (ta : TE) : TE := fun σ H Q => ta σ H fun x H1 => r x H1 Q
def rI (C : Int → Int → Prop) (g : Int → Int → V) : R2 := fun x y H Q => ∃ i j, x = .int i ∧ y = .int j ∧ C i j ∧ Q (g i j) H
def rI0 (g : Int → Int → V) : R2 := fun x y H Q => ∃ i j, x = .int i ∧ y = .int j ∧ Q (g i j) H
def rU (g : Int → V) : V → Hp → VK → Prop := fun x H Q => ∃ i, x = .int i ∧ Q (g i) H
section
variable {X : Cx} {a b c : Expr} {ta tb tc : TE} {pos : Pos}
theorem ZLl (ha : PE X a ta) (hb : PE X b tb) {pins : List (Addr × Obj)} {s : Shared} {σ : St} {H : Hp} {R : V → V → Hp → Prop} (I : Inv X pins σ H s)
  (h : ta σ H fun x H1 => tb σ H1 fun y H2 => R x y H2) {Q : Value → Shared → Prop} {f : Value → Value → Sem Value}
  (hf : ∀ v u s2 x y H2, Inv X pins σ H2 s2 → ZBi x v → ZBi y u → R x y H2 → wpAny (model X.prog X.w) X.A (f v u) Q X.xe s2) :
  wpAny (model X.prog X.w) X.A (eval a X.env) (fun v s₁ => wpAny (model X.prog X.w) X.A (eval b X.env) (fun u s₂ => wpAny (model X.prog X.w) X.A (f v u) Q X.xe s₂) X.xe s₁) X.xe s := by
 refine thn (ha pins s σ H _ I h) fun v s1 ⟨x, H1, I1, r1, q1⟩ => ?_
 refine thn (hb pins s1 σ H1 _ I1 q1) fun u s2 ⟨y, H2, I2, r2, q2⟩ => ?_
 exact hf v u s2 x y H2 I2 r1 r2 q2
theorem ZQL {op : Operator} {r : R2} (ho : OpR X (binaryOp op) r) (ha : PE X a ta) (hb : PE X b tb) : PE X (.BinOp a op b pos) (tOp r ta tb) := by
 intro pins s σ H Q I h
 exact wpAny_BinOp (ZLl ha hb I h fun v u s2 x y H2 I2 rx ry q => ho pins s2 σ H2 x y v u Q I2 rx ry q)
theorem ZQM {op : UnaryOp} {r : V → Hp → VK → Prop} (ho : UnR X (unaryOp op) r) (ha : PE X a ta) : PE X (.UnaryOp op a pos) (tUn r ta) := by
 intro pins s σ H Q I h
 exact UnaryOp_ (thn (ha pins s σ H _ I h) fun v s1 ⟨x, H1, I1, r1, q1⟩ => ho pins s1 σ H1 x v Q I1 r1 q1)
theorem opI {f : Value → Value → Sem Value} {C : Int → Int → Prop} {g : Int → Int → Int}
  (rule : ∀ (i j : Int) (t u : Tok) (s : Shared) (Q : Value → Shared → Prop) (E : Value → Shared → Prop), C i j → Q (.int (g i j) s.toks) { s with toks := s.toks + 1 } → wpAny (model X.prog X.w) X.A (f (.int i t) (.int j u)) Q E s) :
  OpR X f (rI C fun i j => .int (g i j)) := by
 intro pins s σ H x y v u Q I rx ry h
 obtain ⟨i, j, rfl, rfl, hc, q⟩ := h
 obtain ⟨t, rfl⟩ := rx
 obtain ⟨t', rfl⟩ := ry
 exact rule i j t t' s _ _ hc ⟨.int (g i j), H, I.tok _, ⟨_, rfl⟩, q⟩
theorem ZLm {f : Value → Value → Sem Value} {g : Int → Int → Int}
  (rule : ∀ (i j : Int) (t u : Tok) (s : Shared) (Q : Value → Shared → Prop) (E : Value → Shared → Prop), Q (.int (g i j) s.toks) { s with toks := s.toks + 1 } → wpAny (model X.prog X.w) X.A (f (.int i t) (.int j u)) Q E s) :
  OpR X f (rI0 fun i j => .int (g i j)) := by
 intro pins s σ H x y v u Q I rx ry h
 obtain ⟨i, j, rfl, rfl, q⟩ := h
 obtain ⟨t, rfl⟩ := rx
 obtain ⟨t', rfl⟩ := ry
 exact rule i j t t' s _ _ ⟨.int (g i j), H, I.tok _, ⟨_, rfl⟩, q⟩
theorem ZJY {f : Value → Value → Sem Value} {g : Int → Int → Bool}
  (rule : ∀ (i j : Int) (t u : Tok) (s : Shared) (Q : Value → Shared → Prop) (E : Value → Shared → Prop), Q (.bool (g i j)) s → wpAny (model X.prog X.w) X.A (f (.int i t) (.int j u)) Q E s) :
  OpR X f (rI0 fun i j => .bl (g i j)) := by
 intro pins s σ H x y v u Q I rx ry h
 obtain ⟨i, j, rfl, rfl, q⟩ := h
 obtain ⟨t, rfl⟩ := rx
 obtain ⟨t', rfl⟩ := ry
 exact rule i j t t' s _ _ ⟨.bl (g i j), H, I, rfl, q⟩
def ZJZ (i j : Int) : Prop := 0 ≤ j ∧ j ≤ 1000000 ∧ i.natAbs < 2 ^ 64
def ZLn (i j : Int) : Prop := (-(2 ^ 64) < i ∧ i < 2 ^ 64) ∨ (-(2 ^ 64) < j ∧ j < 2 ^ 64)
theorem ZLn.ok {i j : Int} (h : ZLn i j) : IntMulOk i j := by
 rcases h with ⟨h1, h2⟩ | ⟨h1, h2⟩
 ·exact .of_left (intBits_le_64 h1 h2)
 ·exact .of_right (intBits_le_64 h1 h2)
theorem ZB6 : OpR X (binaryOp .Add) (rI0 fun i j => .int (i + j)) := ZLm fun _ _ _ _ _ _ _ q => add_int q
theorem ZCN : OpR X (binaryOp .Sub) (rI0 fun i j => .int (i - j)) := ZLm fun _ _ _ _ _ _ _ q => sub_int q
theorem ZEV : OpR X (binaryOp .Mod) (rI (fun _ j => 0 < j) fun i j => .int (i % j)) := opI fun i j _ _ _ _ _ hc q => by
 have h1 : (0 : Int) < j := hc
 exact mod_int' (by omega) (by rw [Int.fmod_eq_emod_of_nonneg i (by omega)]; exact q)
theorem ZBm : OpR X (binaryOp .Pow) (rI ZJZ fun i j => .int (i ^ j.toNat)) := opI fun _ _ _ _ _ _ _ hc q => pow_int_small hc.1 hc.2.1 hc.2.2 q
theorem ZO7 : OpR X (binaryOp .LShift) (rI ZJZ fun i j => .int (i * 2 ^ j.toNat)) := opI fun _ _ _ _ _ _ _ hc q => lshift_int_small hc.1 hc.2.1 hc.2.2 q
theorem ZIy : OpR X (inplaceOp .Add) (rI0 fun i j => .int (i + j)) := ZLm fun _ _ _ _ _ _ _ q => iadd_int q
theorem ZNU : OpR X (inplaceOp .Mult) (rI ZLn fun i j => .int (i * j)) := opI fun _ _ _ _ _ _ _ hc q => imul_int q hc.ok
theorem unI {f : Value → Sem Value} {g : Int → Int}
  (rule : ∀ (i : Int) (t : Tok) (s : Shared) (Q : Value → Shared → Prop) (E : Value → Shared → Prop), Q (.int (g i) s.toks) { s with toks := s.toks + 1 } → wpAny (model X.prog X.w) X.A (f (.int i t)) Q E s) :
  UnR X f (rU fun i => .int (g i)) := by
 intro pins s σ H x v Q I rx h
 obtain ⟨i, rfl, q⟩ := h
 obtain ⟨t, rfl⟩ := rx
 exact rule i t s _ _ ⟨.int (g i), H, I.tok _, ⟨_, rfl⟩, q⟩
theorem ZCn : UnR X (unaryOp .USub) (rU fun i => .int (-i)) := unI fun _ _ _ _ _ q => neg_int q
end
def ZO8 : V → V → Bool
 | .non, .non => true | .non, .int _ => true | .int _, .non => true | .non, .bl _ => true | .bl _, .non => true | .non, .str _ => true | .str _, .non => true
 | .int _, .int _ => true | .bl _, .bl _ => true | .str _, .str _ => true | .byt _, .byt _ => true
 | .int _, .str _ => true | .str _, .int _ => true | .bl _, .str _ => true | .str _, .bl _ => true
 | _, _ => false
def rEq : R2 := fun x y H Q => ZO8 x y = true ∧ Q (.bl (decide (x = y))) H
def rNe : R2 := fun x y H Q => ZO8 x y = true ∧ Q (.bl (!decide (x = y))) H
theorem ZIz {i j : Int} : decide (V.int i = V.int j) = (i == j) := by
 rw [Bool.eq_iff_iff]
 simp
theorem ZKM {i j : Bool} : decide (V.bl i = V.bl j) = (i == j) := by
 rw [Bool.eq_iff_iff]
 simp
theorem ZI0 {i j : Str} : decide (V.str i = V.str j) = (i == j) := by
 rw [Bool.eq_iff_iff]
 simp
theorem ZI1 {i j : Array UInt8} : decide (V.byt i = V.byt j) = (i.toList == j.toList) := by
 rw [Bool.eq_iff_iff]
 cases i
 cases j
 simp
section
variable {X : Cx} {a b c : Expr} {ta tb tc : TE} {pos : Pos}
theorem ZBu {pins : List (Addr × Obj)} {σ : St} {H : Hp} {s : Shared} {Q : VK} {k k' : Bool} (I : Inv X pins σ H s) (q : Q (.bl k) H) (e : k = k') : EP X pins σ Q (.bool k') s := by
 subst e
 exact ⟨.bl k, H, I, rfl, q⟩
theorem ZC8 : OpR X (compareOp .Eq) rEq := by
 intro pins s σ H x y v u Q I rx ry h
 obtain ⟨hs, q⟩ := h
 cases x with
 | non =>
  cases rx
  cases y with
  | non => cases ry; exact PySem.EqNone.eq_none_none (ZBu I q (by simp))
  | bl j => cases ry; exact PySem.EqNone.eq_none_bool (ZBu I q (by simp))
  | int j => obtain ⟨t', rfl⟩ := ry; exact PySem.EqNone.eq_none_int (ZBu I q (by simp))
  | str j => obtain ⟨t', rfl⟩ := ry; exact PySem.EqNone.eq_none_str (ZBu I q (by simp))
  | _ => exact absurd (show false = true from hs) Bool.false_ne_true
 | bl i =>
  cases rx
  cases y with
  | non => cases ry; exact PySem.EqNone.eq_bool_none (ZBu I q (by simp))
  | bl j => cases ry; exact eq_bool (ZBu I q ZKM)
  | str j => obtain ⟨t', rfl⟩ := ry; exact PySem.EqMixed.eq_bool_str (ZBu I q (by simp))
  | _ => exact absurd (show false = true from hs) Bool.false_ne_true
 | int i =>
  obtain ⟨t, rfl⟩ := rx
  cases y with
  | non => cases ry; exact PySem.EqNone.eq_int_none (ZBu I q (by simp))
  | int j => obtain ⟨t', rfl⟩ := ry; exact eq_int (ZBu I q ZIz)
  | str j => obtain ⟨t', rfl⟩ := ry; exact PySem.EqMixed.eq_int_str (ZBu I q (by simp))
  | _ => exact absurd (show false = true from hs) Bool.false_ne_true
 | str i =>
  obtain ⟨t, rfl⟩ := rx
  cases y with
  | non => cases ry; exact PySem.EqNone.eq_str_none (ZBu I q (by simp))
  | bl j => cases ry; exact PySem.EqMixed.eq_str_bool (ZBu I q (by simp))
  | int j => obtain ⟨t', rfl⟩ := ry; exact PySem.EqMixed.eq_str_int (ZBu I q (by simp))
  | str j => obtain ⟨t', rfl⟩ := ry; exact eq_str (ZBu I q ZI0)
  | _ => exact absurd (show false = true from hs) Bool.false_ne_true
 | byt i =>
  obtain ⟨t, rfl⟩ := rx
  cases y with
  | byt j => obtain ⟨t', rfl⟩ := ry; exact PySem.W.eq_bytes (ZBu I q ZI1)
  | _ => exact absurd (show false = true from hs) Bool.false_ne_true
 | _ => cases y <;> exact absurd (show false = true from hs) Bool.false_ne_true
theorem ZQN : OpR X (compareOp .NotEq) rNe := by
 intro pins s σ H x y v u Q I rx ry h
 obtain ⟨hs, q⟩ := h
 cases x with
 | non =>
  cases rx
  cases y with
  | non => cases ry; exact PySem.EqNone.ne_none_none (ZBu I q (by simp))
  | bl j => cases ry; exact PySem.EqNone.ne_none_bool (ZBu I q (by simp))
  | int j => obtain ⟨t', rfl⟩ := ry; exact PySem.EqNone.ne_none_int (ZBu I q (by simp))
  | str j => obtain ⟨t', rfl⟩ := ry; exact PySem.EqNone.ne_none_str (ZBu I q (by simp))
  | _ => exact absurd (show false = true from hs) Bool.false_ne_true
 | bl i =>
  cases rx
  cases y with
  | non => cases ry; exact PySem.EqNone.ne_bool_none (ZBu I q (by simp))
  | bl j => cases ry; exact ne_bool (ZBu I q (congrArg not ZKM))
  | str j => obtain ⟨t', rfl⟩ := ry; exact PySem.EqMixed.ne_bool_str (ZBu I q (by simp))
  | _ => exact absurd (show false = true from hs) Bool.false_ne_true
 | int i =>
  obtain ⟨t, rfl⟩ := rx
  cases y with
  | non => cases ry; exact PySem.EqNone.ne_int_none (ZBu I q (by simp))
  | int j => obtain ⟨t', rfl⟩ := ry; exact ne_int (ZBu I q (congrArg not ZIz))
  | str j => obtain ⟨t', rfl⟩ := ry; exact PySem.EqMixed.ne_int_str (ZBu I q (by simp))
  | _ => exact absurd (show false = true from hs) Bool.false_ne_true
 | str i =>
  obtain ⟨t, rfl⟩ := rx
  cases y with
  | non => cases ry; exact PySem.EqNone.ne_str_none (ZBu I q (by simp))
  | bl j => cases ry; exact PySem.EqMixed.ne_str_bool (ZBu I q (by simp))
  | int j => obtain ⟨t', rfl⟩ := ry; exact PySem.EqMixed.ne_str_int (ZBu I q (by simp))
  | str j => obtain ⟨t', rfl⟩ := ry; exact ne_str (ZBu I q (congrArg not ZI0))
  | _ => exact absurd (show false = true from hs) Bool.false_ne_true
 | byt i =>
  obtain ⟨t, rfl⟩ := rx
  cases y with
  | byt j => obtain ⟨t', rfl⟩ := ry; exact PySem.W.ne_bytes (ZBu I q (congrArg not ZI1))
  | _ => exact absurd (show false = true from hs) Bool.false_ne_true
 | _ => cases y <;> exact absurd (show false = true from hs) Bool.false_ne_true
theorem ZGE : OpR X (compareOp .Lt) (rI0 fun i j => .bl (decide (i < j))) := ZJY fun _ _ _ _ _ _ _ q => lt_int q
theorem ZGF : OpR X (compareOp .LtE) (rI0 fun i j => .bl (decide (i ≤ j))) := ZJY fun _ _ _ _ _ _ _ q => le_int q
theorem ZQO : OpR X (compareOp .Gt) (rI0 fun i j => .bl (decide (j < i))) := ZJY fun _ _ _ _ _ _ _ q => gt_int q
theorem ZM3 : OpR X (compareOp .GtE) (rI0 fun i j => .bl (decide (j ≤ i))) := ZJY fun _ _ _ _ _ _ _ q => ge_int q
theorem ZO9 : OpR X (compareOp .Is) (fun x y H Q => y = .non ∧ Q (.bl (decide (x = .non))) H) := by
 intro pins s σ H x y v u Q I rx ry h
 obtain ⟨rfl, q⟩ := h
 cases ry
 refine is_none_gen (ZBu I q ?_)
 cases x <;> first
  | (cases rx; rfl)
  | (obtain ⟨t, rfl⟩ := rx; rfl)
theorem ZNV : OpR X (compareOp .IsNot) (fun x y H Q => y = .non ∧ Q (.bl (!decide (x = .non))) H) := by
 intro pins s σ H x y v u Q I rx ry h
 obtain ⟨rfl, q⟩ := h
 cases ry
 refine isnot_none_gen (ZBu I q ?_)
 cases x <;> first
  | (cases rx; rfl)
  | (obtain ⟨t, rfl⟩ := rx; rfl)
theorem ZBv (b : Expr) {op : CmpOp} (h : op ≠ .In := by decide) (h2 : op ≠ .NotIn := by decide) : behindInMarks op b = false := by
 have e1 : (op == CmpOp.In) = false := by cases op <;> first | rfl | exact absurd rfl h
 have e2 : (op == CmpOp.NotIn) = false := by cases op <;> first | rfl | exact absurd rfl h2
 cases b <;> simp [behindInMarks, e1, e2]
theorem ZNW {op : CmpOp} {r : R2} (ho : OpR X (compareOp op) r) (ha : PE X a ta) (hb : PE X b tb) (hm : behindInMarks op b = false) : PE X (.Compare a [op] [b] pos) (tOp r ta tb) := by
 intro pins s σ H Q I h
 exact wpAny_Compare1 (ZLl ha hb I h fun v u s2 x y H2 I2 rx ry q => ho pins s2 σ H2 x y v u Q I2 rx ry q) hm
def ZGG (t : TE) : TT := fun σ H Q => t σ H fun x H' => ∃ k, x = .bl k ∧ Q k H'
theorem ZNX {op : CmpOp} {r : R2} (ho : OpR X (compareOp op) r) (ha : PE X a ta) (hb : PE X b tb) (hm : behindInMarks op b = false) : PT X (.Compare a [op] [b] pos) (ZGG (tOp r ta tb)) := by
 intro pins s σ H Q I h
 refine wpAny_isTrue_Compare1 (thn (ha pins s σ H _ I h) fun v s1 ⟨x, H1, I1, r1, q1⟩ => thn (hb pins s1 σ H1 _ I1 q1) fun u s2 ⟨y, H2, I2, r2, q2⟩ =>
  thn (ho pins s2 σ H2 x y v u _ I2 r1 r2 q2) fun c s3 ⟨z, H3, I3, r3, k, e, q3⟩ => ?_) hm
 subst e
 cases r3
 exact wpAny_truthy_bool ⟨H3, I3, q3⟩
def ZE4 (r r' : R2) (ta tb tc : TE) : TE := fun σ H Q => ta σ H fun x H1 => tb σ H1 fun y H2 => r x y H2 fun z H3 => ∃ k, z = .bl k ∧
 (if k = true then tc σ H3 fun w' H4 => r' y w' H4 Q else Q (.bl false) H3)
theorem ZLo {op op' : CmpOp} {r r' : R2} (ho : OpR X (compareOp op) r) (ho' : OpR X (compareOp op') r') (ha : PE X a ta) (hb : PE X b tb) (hc : PE X c tc)
  (hm : lastMarks [op, op'] [b, c] = false := by with_unfolding_all rfl) : PE X (.Compare a [op, op'] [b, c] pos) (ZE4 r r' ta tb tc) := by
 intro pins s σ H Q I h
 refine Compare_chain (thn (ha pins s σ H _ I h) fun v s1 ⟨x, H1, I1, r1, q1⟩ => chain_link (thn (hb pins s1 σ H1 _ I1 q1) fun u s2 ⟨y, H2, I2, r2, q2⟩ =>
  thn (ho pins s2 σ H2 x y v u _ I2 r1 r2 q2) fun d s3 ⟨z, H3, I3, r3, k, e, q3⟩ => ?_)) hm
 subst e
 cases r3
 refine wpAny_truthy_bool ?_
 cases k with
 | false => exact ite_ff ⟨.bl false, H3, I3, rfl, q3⟩
 | true => exact ite_tt (chain_last (thn (hc pins s3 σ H3 _ I3 q3) fun w' s4 ⟨z', H4, I4, r4, q4⟩ => ho' pins s4 σ H4 y z' u w' Q I4 r2 r4 q4))
theorem ZLp {op op' : CmpOp} {r r' : R2} (ho : OpR X (compareOp op) r) (ho' : OpR X (compareOp op') r') (ha : PE X a ta) (hb : PE X b tb) (hc : PE X c tc)
  (hm : lastMarks [op, op'] [b, c] = false := by with_unfolding_all rfl) : PT X (.Compare a [op, op'] [b, c] pos) (ZGG (ZE4 r r' ta tb tc)) := by
 intro pins s σ H Q I h
 refine isTrue_chain (thn (ha pins s σ H _ I h) fun v s1 ⟨x, H1, I1, r1, q1⟩ => test_link (thn (hb pins s1 σ H1 _ I1 q1) fun u s2 ⟨y, H2, I2, r2, q2⟩ =>
  thn (ho pins s2 σ H2 x y v u _ I2 r1 r2 q2) fun d s3 ⟨z, H3, I3, r3, k, e, q3⟩ => ?_)) hm
 subst e
 cases r3
 refine wpAny_truthy_bool ?_
 cases k with
 | false =>
  obtain ⟨k', e', q'⟩ := q3
  cases e'
  exact ite_ff ⟨H3, I3, q'⟩
 | true =>
  refine ite_tt (test_last (thn (hc pins s3 σ H3 _ I3 q3) fun w' s4 ⟨z', H4, I4, r4, q4⟩ => thn (ho' pins s4 σ H4 y z' u w' _ I4 r2 r4 q4) fun d' s5 ⟨z2, H5, I5, r5, k2, e2, q5⟩ => ?_))
  subst e2
  cases r5
  exact wpAny_truthy_bool ⟨H5, I5, q5⟩
theorem ZGH : (sizeLine : Nat) < 2 ^ 63 := by rw [sizeLine_eq]; decide
theorem ZEe {x : V} {us : List Value} (r : ZBj [x] us) : ∃ u, us = [u] ∧ ZBi x u := by
 cases r with
 | cons r1 r2 => cases r2; exact ⟨_, rfl, r1⟩
theorem ZM4 {x y : V} {us : List Value} (r : ZBj [x, y] us) : ∃ u w', us = [u, w'] ∧ ZBi x u ∧ ZBi y w' := by
 cases r with
 | cons r1 r2 =>
  cases r2 with
  | cons r3 r4 => cases r4; exact ⟨_, _, rfl, r1, r3⟩
theorem ZLq : ZBy X (.builtin "abs") (fun xs H Q => ∃ i, xs = [.int i] ∧ Q (.int (if i < 0 then -i else i)) H) := by
 intro pins s σ H xs us Q I r h
 obtain ⟨i, rfl, q⟩ := h
 obtain ⟨u, rfl, t, rfl⟩ := ZEe r
 exact call_abs_int fun u tk => ⟨.int (if i < 0 then -i else i), H, I.tok _, ⟨_, rfl⟩, q⟩
theorem ZKN (hc : X.calm = true) : ZBy X (.builtin "max") (fun xs H Q => ∃ i j, xs = [.int i, .int j] ∧ Q (.int (if j > i then j else i)) H) := by
 intro pins s σ H xs us Q I r h
 obtain ⟨i, j, rfl, q⟩ := h
 obtain ⟨u, w', rfl, ⟨t, rfl⟩, ⟨t', rfl⟩⟩ := ZM4 r
 refine max_two_ints (I.ok.hd hc) fun h' tk k => ⟨_, H, I.kept k, ?_, q⟩
 by_cases hj : j > i
 ·rw [if_pos hj, if_pos hj]; exact ⟨_, rfl⟩
 ·rw [if_neg hj, if_neg hj]; exact ⟨_, rfl⟩
theorem ZKO (hc : X.calm = true) : ZBy X (.builtin "min") (fun xs H Q => ∃ i j, xs = [.int i, .int j] ∧ Q (.int (if j < i then j else i)) H) := by
 intro pins s σ H xs us Q I r h
 obtain ⟨i, j, rfl, q⟩ := h
 obtain ⟨u, w', rfl, ⟨t, rfl⟩, ⟨t', rfl⟩⟩ := ZM4 r
 refine min_two_ints (I.ok.hd hc) fun h' tk k => ⟨_, H, I.kept k, ?_, q⟩
 by_cases hj : j < i
 ·rw [if_pos hj, if_pos hj]; exact ⟨_, rfl⟩
 ·rw [if_neg hj, if_neg hj]; exact ⟨_, rfl⟩
theorem ZKP : ZBy X (.type "int") (fun xs H Q => (∃ i, xs = [.int i] ∧ Q (.int i) H) ∨ ∃ k, xs = [.bl k] ∧ Q (.int (if k then 1 else 0)) H) := by
 intro pins s σ H xs us Q I r h
 rcases h with ⟨i, rfl, q⟩ | ⟨k, rfl, q⟩
 ·obtain ⟨u, rfl, t, rfl⟩ := ZEe r
  exact call_int_int ⟨.int i, H, I, ⟨_, rfl⟩, q⟩
 ·obtain ⟨u, rfl, r1⟩ := ZEe r
  cases r1
  exact call_int_bool ⟨.int (if k then 1 else 0), H, I.tok _, ⟨_, rfl⟩, q⟩
theorem ZHc : ZBy X (.type "str") (fun xs H Q => ∃ i, xs = [.int i] ∧ i.natAbs.log2 < 1920 ∧ Q (.str (toString i)) H) := by
 intro pins s σ H xs us Q I r h
 obtain ⟨i, rfl, hz, q⟩ := h
 obtain ⟨u, rfl, t, rfl⟩ := ZEe r
 exact PySem.P.str_of_int hz ⟨.str _, H, I.tok _, ⟨_, rfl⟩, q⟩
end
structure ZFs (h : Heap) (x dx C : Addr) (mA : Str → Option Value) : Prop where
 obj : h.get? x = some (PySem.W.instObj C dx)
 ns : h.Ns1 dx mA
 ne : dx ≠ x
theorem ZKQ {h : Heap} {dx : Addr} {mA : Str → Option Value} (n : h.Ns1 dx mA) : ∃ od, h.get? dx = some od ∧ ∀ name, PySem.W.lookIn name od = some (mA name) := by
 obtain ⟨o, es, ep, ho, hd, hk, _, hm⟩ := n
 refine ⟨o, ho, fun name => ?_⟩
 have e := hm name
 unfold nsFind findBy at e
 rw [← Array.find?_toList] at e
 unfold PySem.W.lookIn
 rw [hd]
 dsimp only
 split
 ·rename_i y q
  rw [q] at e
  exact congrArg some e
 ·rename_i q
  rw [q] at e
  have a : es.toList.any (·.refKey) = false := by
   rw [List.any_eq_false]
   intro y hy
   obtain ⟨z, t, hkey⟩ := hk y (Array.mem_toList_iff.mp hy)
   simp [DictEntry.refKey, hkey]
  have a' : ¬ es.toList.any (·.refKey) = true := by rw [a]; exact Bool.false_ne_true
  rw [if_neg a']
  exact congrArg some e
theorem ZFs.look {h : Heap} {x dx C : Addr} {mA : Str → Option Value} (I : ZFs h x dx C mA) : ∃ od, PySem.W.InstAt h x (PySem.W.instObj C dx) C (some od) ∧ ∀ name, PySem.W.lookIn name od = some (mA name) :=
 let ⟨od, ho, hl⟩ := ZKQ I.ns
 ⟨od, ⟨I.obj, rfl, rfl, ho⟩, hl⟩
section
variable {prog : Program} {w : World} {A : Around} {E : Value → Shared → Prop} {s : Shared} {K : W.Frag} {x dx C f : Addr} {mA : Str → Option Value} {name : Str} {v : Value}
theorem ZNY {expr : Bool} {Q : Value → Shared → Prop} (X : K.In s.heap) (I : ZFs s.heap x dx C mA) (hg : PySem.W.plainGet K C name = true) (hh : PySem.W.hasDictIn K C = true)
  (ha : W.findIn K (.ref C) name = some none) (hv : mA name = some v) (hv' : PySem.W.handedIn v = true) (h : Q v { s with toks := s.toks + 1 }) :
  wpAny (model prog w) A (getAttr (.ref x) name expr) Q E s := by
 obtain ⟨od, J, hl⟩ := I.look
 exact PySem.W.get_value X J (PySem.W.plainGet_of hg).1 (PySem.W.findObj_own hh ha rfl (by rw [hl, hv])) hv' h
theorem ZLr {pl : Sem Bool} {Q : Value × List Value → Shared → Prop} (X : K.In s.heap) (I : ZFs s.heap x dx C mA) (hg : PySem.W.plainGet K C name = true)
  (hf : W.findIn K (.ref C) name = some (some (.ref f))) (ht : PySem.W.isFn K (.ref f) = true) (hv : mA name = none) (h : Q (.ref f, [.ref x]) s) :
  wpAny (model prog w) A (getMethod (.ref x) name pl) Q E s := by
 obtain ⟨od, J, hl⟩ := I.look
 exact PySem.W.method_fn X J (PySem.W.plainGet_of hg).1 (PySem.W.plainGet_of hg).2 hf (beq_iff_eq.mp ht) (by show (PySem.W.lookIn name od).map (·.isSome) = some false; rw [hl, hv]; rfl) h
theorem ZNZ {ns : List Str} {Q : Unit → Shared → Prop} (X : K.In s.heap) (I : ZFs s.heap x dx C mA)
  (hs : W.findIn K (.ref C) "__setattr__" = some (some (.builtin "object.__setattr__"))) (hp : PySem.W.plainOver K C = true) (ht : PySem.W.takerIn K C name = some none) (hh : PySem.W.hasDictIn K C = true)
  (hw : PySem.Within mA ns) (hsz : ns.length ≤ sizeLine)
  (h : ∀ h', ZFs h' x dx C (fun y => if y = name then some v else mA y) → Heap.SameBut dx s.heap h' → Q () { s with heap := h', toks := s.toks + 2 }) :
  wpAny (model prog w) A (setAttr (.ref x) name v) Q E s := by
 obtain ⟨od, J, hl⟩ := I.look
 refine PySem.W.set_plain X J hs (PySem.W.osa_open (s := { s with toks := s.toks + 1 }) (r := none) X J hp ht fun b => ?_)
 obtain ⟨cd, hc, hd'⟩ := PySem.W.any_some hh
 have hx : s.heap.get? x = some ⟨.ref C, some dx, .plain, #[]⟩ := I.obj
 refine wpAny_bind (wpAny_pure (wpAny_bind (wpAny_bind (wpAny_loadPart hx (wpAny_bind (PySem.W.Looks.here (s := { s with toks := s.toks + 1 }) (PySem.W.looks_clsIn X hc) ?_))))))
 rw [hd']
 refine wpAny_pure (a := some dx) (wpAny_bind (wpAny_pure (wpAny_bind ?_)))
 refine wpAny_nsSet1 (s := { s with toks := s.toks + 1 }) I.ns fun h' hn2 hs2 => ?_
 obtain ⟨oD, esD, epD, hoD, hdD, hcD⟩ := hn2.count (PySem.Within.cons name v hw)
 refine wpAny_bind (wpAny_lookBehind hoD (by rw [hdD]; exact pastItsLine_dict (Nat.le_trans hcD (by rw [List.length_cons]; omega))) ?_)
 exact wpAny_pure (h _ ⟨(hs2.2 _ (Ne.symm I.ne)).trans I.obj, hn2, I.ne⟩ hs2)
theorem ZLs {R : Result → Shared → Prop} {vs : List Value} {kw : List (Str × Value)} (X : K.In s.heap) (hm : PySem.W.makesIn K C = true)
  (hi : W.findIn K (.ref C) "__init__" = some (some (.ref f))) (hf : PySem.W.typeIn K (.ref f) = some (.type "function"))
  (h : codeAny (model prog w) (A.under (.builtin "type.__call__" ⟨.ref C :: vs, kw⟩)) (.call (.ref f) ⟨.ref (s.heap.objs.size + 1) :: vs, kw⟩) (PySem.W.InitBack (s.heap.objs.size + 1) R)
   { s with heap := (s.heap.push PySem.W.emptyDict).push (PySem.W.instObj C s.heap.objs.size) }) :
  codeAny (model prog w) A (.call (.ref C) ⟨vs, kw⟩) R s := by
 obtain ⟨hh, g, d, t, os⟩ := s
 exact PySem.W.make_core (PySem.W.makes_of X hm) (PySem.W.looks_findIn X hi) (fun self => PySem.W.bind_fn X self hf) (.inl rfl) h
end
def ZCO (f : Str) (v : V) : List (Str × V) → List (Str × V)
 | [] => [(f, v)]
 | (g, x) :: r => if g = f then (g, v) :: r else (g, x) :: ZCO f v r
theorem ZFg (f g : Str) (v : V) : ∀ fs : List (Str × V), (ZCO f v fs).lookup g = if g = f then some v else fs.lookup g
 | [] => by
  show List.lookup g [(f, v)] = _
  by_cases h : g = f
  ·have hb : (g == f) = true := beq_iff_eq.mpr h
   simp only [List.lookup, hb, if_pos h]
  ·have hb : (g == f) = false := beq_eq_false_iff_ne.mpr h
   simp only [List.lookup, hb, if_neg h]
 | (k, x) :: r => by
  have ih := ZFg f g v r
  rw [show ZCO f v ((k, x) :: r) = (if k = f then (k, v) :: r else (k, x) :: ZCO f v r) from rfl]
  by_cases hk : k = f
  ·rw [if_pos hk]
   by_cases h : g = k
   ·have hb : (g == k) = true := beq_iff_eq.mpr h
    simp only [List.lookup, hb, if_pos (h.trans hk)]
   ·have hb : (g == k) = false := beq_eq_false_iff_ne.mpr h
    simp only [List.lookup, hb, if_neg (fun e : g = f => h (e.trans hk.symm))]
  ·rw [if_neg hk]
   by_cases h : g = k
   ·have hb : (g == k) = true := beq_iff_eq.mpr h
    simp only [List.lookup, hb, if_neg (fun e : g = f => hk (h.symm.trans e))]
   ·have hb : (g == k) = false := beq_eq_false_iff_ne.mpr h
    simp only [List.lookup, hb]
    exact ih
theorem ZE5 (f : Str) (v : V) : ∀ fs : List (Str × V), f ∈ (ZCO f v fs).map (·.1) ∧ ∀ g, g ∈ fs.map (·.1) → g ∈ (ZCO f v fs).map (·.1)
 | [] => ⟨by simp [ZCO], fun g h => by simp at h⟩
 | (k, x) :: r => by
  obtain ⟨i1, i2⟩ := ZE5 f v r
  rw [show ZCO f v ((k, x) :: r) = (if k = f then (k, v) :: r else (k, x) :: ZCO f v r) from rfl]
  by_cases hk : k = f
  ·rw [if_pos hk]
   subst hk
   exact ⟨by simp, fun g h => by simpa using h⟩
  ·rw [if_neg hk]
   refine ⟨?_, fun g h => ?_⟩
   ·rw [List.map_cons]
    exact List.mem_cons_of_mem _ i1
   ·rw [List.map_cons] at h ⊢
    rcases List.mem_cons.mp h with e | e
    ·exact List.mem_cons.mpr (.inl e)
    ·exact List.mem_cons_of_mem _ (i2 g e)
theorem ZFh (f : Str) (v : V) : ∀ fs : List (Str × V), (ZCO f v fs).length ≤ fs.length + 1
 | [] => by simp [ZCO]
 | (k, x) :: r => by
  have ih := ZFh f v r
  rw [show ZCO f v ((k, x) :: r) = (if k = f then (k, v) :: r else (k, x) :: ZCO f v r) from rfl]
  by_cases hk : k = f
  ·rw [if_pos hk, List.length_cons, List.length_cons]; omega
  ·rw [if_neg hk, List.length_cons, List.length_cons]; omega
theorem ZC0.some_of {v : V} {o : Option Value} (r : ZC0 (some v) o) : ∃ u, o = some u ∧ ZBi v u := by
 cases o with
 | none => exact (show False from r).elim
 | some u => exact ⟨u, rfl, r⟩
theorem ZC0.none_of {o : Option Value} (r : ZC0 none o) : o = none := by
 cases o with
 | none => rfl
 | some u => exact (show False from r).elim
theorem ZKR {v : V} {u : Value} (r : ZBi v u) : PySem.W.handedIn u = true := by
 cases v with
 | non => cases (show u = Value.none from r); rfl
 | bl b => cases (show u = Value.bool b from r); rfl
 | int i => obtain ⟨t, e⟩ := (show ∃ t, u = Value.int i t from r); cases e; rfl
 | str x => obtain ⟨t, e⟩ := (show ∃ t, u = Value.str x t from r); cases e; rfl
 | byt b => obtain ⟨t, e⟩ := (show ∃ t, u = Value.bytes b t from r); cases e; rfl
 | flt b => obtain ⟨t, e⟩ := (show ∃ t, u = Value.float b t from r); cases e; rfl
 | ref a => cases (show u = Value.ref a from r); rfl
 | ty n => cases (show u = Value.type n from r); rfl
section
variable {P : Program} {w : World} {H H' : Hp} {h h' : Heap} {a C dx : Addr} {fs fs' : List (Str × V)}
theorem ZFT (hok : HOk P w H h) (e : H a = some (.ins C dx fs)) : ∃ mA, ZFs h a dx C mA ∧ (∀ f, ZC0 (fs.lookup f) (mA f)) ∧ PySem.Within mA (fs.map (·.1)) ∧ fs.length ≤ 1000 ∧ H dx = some (.own a) := by
 obtain ⟨d, z, ne, ob, mA, n, r, q⟩ := (show ZBw P w H h a (.ins C dx fs) from hok a _ e)
 exact ⟨mA, ⟨ob, n, ne⟩, r, q, z, d⟩
end
structure Cls (K : W.Frag) (C : Addr) : Prop where
 pg : PySem.W.plainGet K C Str.empty = true
 hd : PySem.W.hasDictIn K C = true
 po : PySem.W.plainOver K C = true
 sa : W.findIn K (.ref C) "__setattr__" = some (some (.builtin "object.__setattr__"))
theorem Cls.get {K : W.Frag} {C : Addr} (c : Cls K C) (f : Str) : PySem.W.plainGet K C f = true := c.pg
def ZCd (K : W.Frag) (C : Addr) (f : Str) : Prop := W.findIn K (.ref C) f = some none
theorem ZCd.taker {K : W.Frag} {C : Addr} {f : Str} (n : ZCd K C f) : PySem.W.takerIn K C f = some none := by
 unfold PySem.W.takerIn
 rw [show W.findIn K (.ref C) f = some none from n]
 rfl
structure ZD3 (K : W.Frag) (C : Addr) (m : Str) (f : Addr) : Prop where
 at_ : W.findIn K (.ref C) m = some (some (.ref f))
 fn : PySem.W.isFn K (.ref f) = true
 kp : W.keepIn K (.ref f) = true
section
variable {X : Cx} {pins : List (Addr × Obj)} {σ : St} {H : Hp} {s : Shared} {a C dx : Addr} {fs : List (Str × V)} {f : Str} {v : V} {A : Around} {E : Value → Shared → Prop}
theorem ZGI {b : Bool} {Q : Value → Shared → Prop} (I : Inv X pins σ H s) (e : H a = some (.ins C dx fs)) (c : Cls X.K C) (n : ZCd X.K C f) (l : fs.lookup f = some v)
  (h : ∀ u s', Inv X pins σ H s' → ZBi v u → Q u s') : wpAny (model X.prog X.w) A (getAttr (.ref a) f b) Q E s := by
 obtain ⟨mA, O, r, _, _, _⟩ := ZFT I.hok e
 obtain ⟨u, hu, ru⟩ := ZC0.some_of (v := v) (o := mA f) (by rw [← l]; exact r f)
 exact ZNY I.kIn O (c.get f) c.hd n hu (ZKR ru) (h u _ (I.tok _) ru)
theorem ZGJ {m : Str} {g : Addr} {pl : Sem Bool} {Q : Value × List Value → Shared → Prop} (I : Inv X pins σ H s) (e : H a = some (.ins C dx fs)) (c : Cls X.K C) (k : ZD3 X.K C m g) (l : fs.lookup m = none)
  (h : Q (.ref g, [.ref a]) s) : wpAny (model X.prog X.w) A (getMethod (.ref a) m pl) Q E s := by
 obtain ⟨mA, O, r, _, _, _⟩ := ZFT I.hok e
 have hn : mA m = none := ZC0.none_of (by rw [← l]; exact r m)
 exact ZLr I.kIn O (c.get m) k.at_ k.fn hn h
theorem ZGK {y : V} {u : Value} {Q : Unit → Shared → Prop} (I : Inv X pins σ H s) (e : H a = some (.ins C dx fs)) (c : Cls X.K C) (n : ZCd X.K C f) (hl : fs.length < 1000) (ry : ZBi y u)
  (h : ∀ s', Inv X pins σ (upd H a (.ins C dx (ZCO f y fs))) s' → Q () s') : wpAny (model X.prog X.w) A (setAttr (.ref a) f u) Q E s := by
 obtain ⟨mA, O, r, wi, _, ho⟩ := ZFT I.hok e
 have hz : (fs.map (·.1)).length ≤ sizeLine := by rw [List.length_map, sizeLine_eq]; omega
 refine ZNZ I.kIn O c.sa c.po n.taker c.hd wi hz fun h' O' sb => h _ ?_
 have hd : ∃ o, h'.get? dx = some o := let ⟨o, _, _, e', _⟩ := O'.ns; ⟨o, e'⟩
 refine I.write (x := a) (e := dx) (by rw [e]; exact True.intro) (.inr ho) (fun b q hb z => (sb.2 b hb).trans z) hd ?_
 refine ⟨by rw [ZBn O.ne]; exact ho, ?_, O.ne, O'.obj, _, O'.ns, fun g => ?_, fun g hg => ?_⟩
 ·have := ZFh f y fs; omega
 ·show ZC0 ((ZCO f y fs).lookup g) (if g = f then some u else mA g)
  rw [ZFg]
  by_cases q : g = f
  ·rw [if_pos q, if_pos q]; exact ry
  ·rw [if_neg q, if_neg q]; exact r g
 ·by_cases q : g = f
  ·rw [q]; exact (ZE5 f y fs).1
  ·refine (ZE5 f y fs).2 g (wi g fun z => hg ?_)
   show (if g = f then some u else mA g) = none
   rw [if_neg q]; exact z
theorem Inv.made (I : Inv X pins σ H s) : Inv X pins σ (upd (upd H s.heap.objs.size (.own (s.heap.objs.size + 1))) (s.heap.objs.size + 1) (.ins C s.heap.objs.size []))
  { s with heap := (s.heap.push PySem.W.emptyDict).push (PySem.W.instObj C s.heap.objs.size) } := by
 have e1 : (s.heap.push PySem.W.emptyDict).get? s.heap.objs.size = some PySem.W.emptyDict := Heap.get?_push_size s.heap rfl
 have e2 : ((s.heap.push PySem.W.emptyDict).push (PySem.W.instObj C s.heap.objs.size)).get? (s.heap.objs.size + 1) = some (PySem.W.instObj C s.heap.objs.size) := by
  have := Heap.get?_push_size (s.heap.push PySem.W.emptyDict) (o := PySem.W.instObj C s.heap.objs.size) rfl
  rwa [Heap.size_push] at this
 have e3 : (s.heap.push PySem.W.emptyDict).Ns s.heap.objs.size (fun _ => none) := ⟨PySem.W.emptyDict, #[], _, e1, rfl, (fun e he => absurd he (by simp)), fun _ => rfl⟩
 have I1 := I.laid (a := s.heap.objs.size) (o := .own (s.heap.objs.size + 1)) (h' := s.heap.push PySem.W.emptyDict) (t' := s.toks) (fun b u q => Heap.get?_push_of_some _ q) (Nat.le_refl _) ⟨_, e1⟩
 refine I1.laid (a := s.heap.objs.size + 1) (o := .ins C s.heap.objs.size []) (t' := s.toks) (fun b u q => Heap.get?_push_of_some _ q) (Nat.le_of_eq (Heap.size_push _ _)) ?_
 have ne : s.heap.objs.size ≠ s.heap.objs.size + 1 := Nat.ne_of_lt (Nat.lt_succ_self _)
 refine ⟨by rw [ZBn ne, ZBg], Nat.zero_le _, ne, e2, fun _ => none, (Heap.Ns1.of_empty e3).at fun o q => Heap.get?_push_of_some _ q, fun _ => True.intro, fun y hy => absurd rfl hy⟩
theorem ZNa {prog : Program} {w : World} {env : Env} {e : Expr} {f : Str} {pos : Pos} {s : Shared} {Q : Value → Shared → Prop} (hb : attributeBase e f env (eval e env) = eval e env)
  (h : wpAny (model prog w) A (eval e env) (fun o s₁ => wpAny (model prog w) A (getAttr o f true) Q E s₁) E s) : wpAny (model prog w) A (eval (.Attribute e f pos) env) Q E s :=
 Attribute_any_ h (by rw [arm_eval_Attribute, hb])
end
def ZLt (K : W.Frag) (ta : TE) (f : Str) : TE := fun σ H Q => ta σ H fun x H1 => ∃ a C dx fs v, x = .ref a ∧ H1 a = some (.ins C dx fs) ∧ Cls K C ∧ ZCd K C f ∧ fs.lookup f = some v ∧ Q v H1
def ZLu (K : W.Frag) (ta tv : TE) (f : Str) : TS := fun D σ H => tv σ H fun y H1 => ta σ H1 fun x H2 => ∃ a C dx fs, x = .ref a ∧ H2 a = some (.ins C dx fs) ∧ Cls K C ∧ ZCd K C f ∧ fs.length < 1000 ∧
 D.nx σ (upd H2 a (.ins C dx (ZCO f y fs)))
def ZPA (X : Cx) (op : Operator) (rd : V → V → Hp → VK → Prop) : Prop :=
 ∀ (pins : List (Addr × Obj)) (s : Shared) (σ : St) (H : Hp) (x y : V) (u v : Value) (Q : VK), Inv X pins σ H s → ZBi x u → ZBi y v → rd x y H Q → wpAny (model X.prog X.w) X.A (inplaceOp op u v) (EP X pins σ Q) X.xe s
def ZGe (K : W.Frag) (ta tv : TE) (rd : V → V → Hp → VK → Prop) (f : Str) : TS := fun D σ H => ta σ H fun x H1 => ∃ a C dx fs v, x = .ref a ∧ H1 a = some (.ins C dx fs) ∧ Cls K C ∧ ZCd K C f ∧ fs.lookup f = some v ∧
 tv σ H1 fun y H2 => rd v y H2 fun z H3 => ∃ dx' fs', H3 a = some (.ins C dx' fs') ∧ fs'.length < 1000 ∧ D.nx σ (upd H3 a (.ins C dx' (ZCO f z fs')))
section
variable {X : Cx} {o e value : Expr} {f : Str} {pos pos' tpos : Pos} {ta tv : TE}
theorem ZPB (he : PE X e ta) (hb : attributeBase e f X.env (eval e X.env) = eval e X.env) : PE X (.Attribute e f pos) (ZLt X.K ta f) := by
 intro pins s σ H Q I h
 refine ZNa hb (thn (he pins s σ H _ I h) fun u s1 ⟨x, H1, I1, rx, a, C, dx, fs, v, ex, ea, c, n, l, q⟩ => ?_)
 subst ex
 obtain rfl : u = Value.ref a := rx
 exact ZGI I1 ea c n l fun u' s2 I2 ru => ⟨v, H1, I2, ru, q⟩
theorem ZPC (ha : PE X o ta) (hv : PE X value tv) (hs : swapsWith value (some (.Attribute o f pos')) pos.line X.env = pure false) : PS X (.Assign [.Attribute o f pos'] value pos) (ZLu X.K ta tv f) := by
 intro pins s σ H D I h
 refine plainObj_wpAny_Assign_Attribute (thn (hv pins s σ H _ I h) fun u s1 ⟨y, H1, I1, ry, q⟩ => thn (ha pins s1 σ H1 _ I1 q) fun ov s2 ⟨x, H2, I2, rx, a, C, dx, fs, ex, ea, c, n, l, q2⟩ => ?_) hs
 subst ex
 obtain rfl : ov = Value.ref a := rx
 exact ZGK I2 ea c n l ry fun s3 I3 => ⟨σ, _, I3, q2⟩
theorem ZKS {op : Operator} {rd : V → V → Hp → VK → Prop} (ha : PE X o ta) (hv : PE X value tv) (hop : ZPA X op rd) : PS X (.AugAssign (.Attribute o f tpos) op value pos) (ZGe X.K ta tv rd f) := by
 intro pins s σ H D I h
 refine wpAny_AugAssign_AttributeAny (thn (ha pins s σ H _ I h) fun ov s1 ⟨x, H1, I1, rx, a, C, dx, fs, v, ex, ea, c, n, l, q⟩ => ?_)
 subst ex
 obtain rfl : ov = Value.ref a := rx
 refine ZGI I1 ea c n l fun u s2 I2 ru => thn (hv pins s2 σ H1 _ I2 q) fun w3 s3 ⟨y, H2, I3, ry, q3⟩ => thn (hop pins s3 σ H2 v y u w3 _ I3 ru ry q3) fun w4 s4 ⟨z, H3, I4, rz, dx', fs', ea', l', q4⟩ => ?_
 exact ZGK I4 ea' c n l' rz fun s5 I5 => ⟨σ, _, I5, q4⟩
def ZHd : V → V → Hp → VK → Prop := fun x y H Q => ∃ i j, x = .int i ∧ y = .int j ∧ Q (.int (i + j)) H
theorem ZPD : ZPA X .Add ZHd := by
 rintro pins s σ H x y u v Q I rx ry ⟨i, j, rfl, rfl, q⟩
 obtain ⟨t, rfl⟩ := (show ∃ t, u = Value.int i t from rx)
 obtain ⟨t', rfl⟩ := (show ∃ t', v = Value.int j t' from ry)
 exact PyProof.Rows.iadd_int ⟨.int (i + j), H, I.tok _, ⟨_, rfl⟩, q⟩
end
section
variable {X : Cx} {pins : List (Addr × Obj)} {σ : St} {H : Hp} {s : Shared} {A : Around} {E : Value → Shared → Prop} {Q : Value → Shared → Prop} {c : Value} {b : Bool}
inductive ZDQ (K : W.Frag) (H : Hp) : V → Value → Prop where
 | non : ZDQ K H .non (.type "NoneType")
 | bl (x : Bool) : ZDQ K H (.bl x) (.type "bool")
 | int (i : Int) : ZDQ K H (.int i) (.type "int")
 | str (x : Str) : ZDQ K H (.str x) (.type "str")
 | flt (x : UInt64) : ZDQ K H (.flt x) (.type "float")
 | lst {a : Addr} {xs : List V} (e : H a = some (.lst xs)) : ZDQ K H (.ref a) (.type "list")
 | frz {a : Addr} {o : Obj} {xs : List V} (e : H a = some (.frz o (.lst xs))) : ZDQ K H (.ref a) (.type "list")
 | tup {a : Addr} {xs : List V} (e : H a = some (.tup xs)) : ZDQ K H (.ref a) (.type "tuple")
 | dK {a : Addr} {kvs : List (Key × V)} (e : H a = some (.dK kvs)) : ZDQ K H (.ref a) (.type "dict")
 | dT {a : Addr} {kvs : List (List Key × V)} (e : H a = some (.dT kvs)) : ZDQ K H (.ref a) (.type "dict")
 | ins {a C dx : Addr} {fs : List (Str × V)} (e : H a = some (.ins C dx fs)) (cl : Cls K C) (ha : W.findIn K (.ref C) "__class__" = some (some (.builtin "object.__class__")))
  (hn : PySem.W.specialIn K (.builtin "object.__class__") "__get__" = some (some (.builtin "getset_descriptor.__get__"))) (htk : PySem.W.takesIn K (.builtin "object.__class__") = some true)
  (hm : PySem.W.mroIn K C (.type "object") = some true) : ZDQ K H (.ref a) (.ref C)
theorem ZKT {x : V} {u t : Value} (I : Inv X pins σ H s) (rx : ZBi x u) (ty : ZDQ X.K H x t) (e : W.kitOne X.K t c = some b) (h : ∀ tk, Q (.bool b) { s with toks := tk }) :
  wpAny (model X.prog X.w) A (call (.builtin "isinstance") [u, c]) Q E s := by
 cases ty with
 | non => cases (show u = Value.none from rx); exact PySem.W.kia_one PySem.W.kitx_none I.kIn True.intro e (fun z => nomatch z) h
 | bl y => cases (show u = Value.bool y from rx); exact PySem.W.kia_one PySem.W.kitx_bool I.kIn True.intro e (fun z => nomatch z) h
 | int i => obtain ⟨t, q⟩ := (show ∃ t, u = Value.int i t from rx); cases q; exact PySem.W.kia_one PySem.W.kitx_int I.kIn True.intro e (fun z => nomatch z) h
 | str y => obtain ⟨t, q⟩ := (show ∃ t, u = Value.str y t from rx); cases q; exact PySem.W.kia_one PySem.W.kitx_str I.kIn True.intro e (fun z => nomatch z) h
 | flt y => obtain ⟨t, q⟩ := (show ∃ t, u = Value.float y t from rx); cases q; exact PySem.W.kia_one PySem.W.kitx_float I.kIn True.intro e (fun z => nomatch z) h
 | @lst a xs ea =>
  cases (show u = Value.ref a from rx)
  obtain ⟨_, _, n, _, h1⟩ := (show ZBw X.prog X.w H s.heap a (.lst xs) from I.hok a _ ea)
  exact PySem.W.kia_one PySem.W.kitx_list I.kIn ⟨_, h1, rfl⟩ e (fun z => nomatch z) h
 | @frz a ob xs ea =>
  cases (show u = Value.ref a from rx)
  obtain ⟨_, _, _, n, _, h1⟩ := (show ZBw X.prog X.w H s.heap a (.frz ob (.lst xs)) from I.hok a _ ea)
  exact PySem.W.kia_one PySem.W.kitx_list I.kIn ⟨_, h1, rfl⟩ e (fun z => nomatch z) h
 | @tup a xs ea =>
  cases (show u = Value.ref a from rx)
  obtain ⟨_, _, _, p⟩ := (show ZBw X.prog X.w H s.heap a (.tup xs) from I.hok a _ ea)
  obtain ⟨o, h1, h2, _⟩ := p
  exact PySem.W.kia_one PySem.W.kitx_tuple I.kIn ⟨o, h1, h2⟩ e (fun z => nomatch z) h
 | @dK a kvs ea =>
  cases (show u = Value.ref a from rx)
  obtain ⟨_, _, vs, _, p⟩ := (show ZBw X.prog X.w H s.heap a (.dK kvs) from I.hok a _ ea)
  obtain ⟨o, es, ep, h1, h2, _⟩ := p
  exact PySem.W.kia_one PySem.W.kitx_dict I.kIn ⟨o, h1, h2.1⟩ e (fun z => nomatch z) h
 | @dT a kvs ea =>
  cases (show u = Value.ref a from rx)
  obtain ⟨_, _, xs, _, o, es, ep, h1, h2, _⟩ := (show ZBw X.prog X.w H s.heap a (.dT kvs) from I.hok a _ ea)
  exact PySem.W.kia_one PySem.W.kitx_dict I.kIn ⟨o, h1, h2.1⟩ e (fun z => nomatch z) h
 | @ins a C dx fs ea cl ha hn htk hm =>
  cases (show u = Value.ref a from rx)
  obtain ⟨mA, O, _⟩ := ZFT I.hok ea
  obtain ⟨od, J, _⟩ := O.look
  exact PySem.W.kia_one (PySem.W.kitx_own (cl.get _) cl.hd ha hn htk hm) I.kIn J e (fun z => nomatch z) h
end
structure Room (k : Nat) (A : Around) : Prop where
 hd : A.handled = none
 dp : A.depth + 3 * k + 5 < recursionLimit
 un : A.units + 16 * k + 200 < cLine
 gd : A.guards = some []
theorem Room.mono {j k : Nat} {A : Around} (r : Room k A) (h : j ≤ k) : Room j A := ⟨r.hd, by have := r.dp; omega, by have := r.un; omega, r.gd⟩
theorem Room.deeper {k : Nat} {A : Around} (r : Room (k + 1) A) (env : Env) : Room k (A.deeper env) :=
 ⟨r.hd, by have := r.dp; show A.depth + 1 + 3 * k + 5 < _; omega, by have := r.un; show A.units + 3 + 16 * k + 200 < _; omega, r.gd⟩
theorem Room.in1 {k : Nat} {A : Around} (r : Room (k + 1) A) : Room k A.in1 :=
 ⟨r.hd, by have := r.dp; show A.depth + 3 * k + 5 < _; omega, by have := r.un; show A.units + 1 + 16 * k + 200 < _; omega, r.gd⟩
theorem ZJa {A : Around} {C : Addr} {us : List Value} {kw : List (Str × Value)} : (A.under (.builtin "type.__call__" ⟨.ref C :: us, kw⟩)).depth = A.depth + 1 := by
 first | rfl | simp [Around.under, Code.weight, Code.isCreation, Code.isGuard, Code.isCaller, Code.frames, Code.isFrame, guardIds]
theorem ZJb {A : Around} {C : Addr} {us : List Value} {kw : List (Str × Value)} : (A.under (.builtin "type.__call__" ⟨.ref C :: us, kw⟩)).units = A.units + 1 := by
 first | rfl | simp [Around.under, Code.cUnits, Code.frames, Code.isFrame]
theorem ZIm {A : Around} {C : Addr} {us : List Value} {kw : List (Str × Value)} : (A.under (.builtin "type.__call__" ⟨.ref C :: us, kw⟩)).guards = A.guards := by
 have e : pushGuards [] A.guards = A.guards := by cases A.guards <;> rfl
 first | exact e | rfl | simp [Around.under, Code.guards, Code.isGuard, guardIds, pushGuards]
theorem Room.make {k : Nat} {A : Around} (r : Room (k + 1) A) (C : Addr) (us : List Value) (kw : List (Str × Value)) : Room k (A.under (.builtin "type.__call__" ⟨.ref C :: us, kw⟩)) :=
 ⟨r.hd, by have := r.dp; rw [ZJa]; omega, by have := r.un; rw [ZJb]; omega, (ZIm).trans r.gd⟩
theorem Room.depth {k : Nat} {A : Around} (r : Room k A) : A.depth < recursionLimit := by have := r.dp; omega
theorem Room.units {k : Nat} {A : Around} (r : Room k A) : A.units + 64 < cLine := by have := r.un; omega
def ZHe : TA := fun _ H Q => Q [] H
def ZHT (ta : TE) (tr : TA) : TA := fun σ H Q => ta σ H fun x H1 => tr σ H1 fun xs H2 => Q (x :: xs) H2
section
variable {X : Cx} {e : Expr} {es : List Expr} {te : TE} {t : TA} {pos : Pos}
theorem ZPE : PA X [] ZHe := fun _ _ _ _ H Q I h => Calls.spliced_nil ⟨[], H, I, .nil, h⟩
theorem ZNb (ha : PE X e te) (hr : PA X es t) (hs : starEach (e :: es) X.env = (false, eval e X.env) :: starEach es X.env := by rfl) : PA X (e :: es) (ZHT te t) := by
 intro pos pins s σ H Q I h
 rw [hs]
 show wpAny _ _ (spliced ((false, eval e X.env) :: backTo pos (starEach es X.env))) _ _ s
 refine Calls.spliced_cons (thn (ha pins s σ H _ I h) fun u s1 ⟨x, H1, I1, r1, q1⟩ => ?_)
 exact thn (hr pos pins s1 σ H1 _ I1 q1) fun us s2 ⟨xs, H2, I2, r2, q2⟩ => ⟨x :: xs, H2, I2, .cons r1 r2, q2⟩
def ZLv (t : TA) : TE := fun σ H Q => t σ H fun xs H1 => xs.length ≤ sizeLine ∧ ∀ p, H1 p = none → Q (.ref p) (upd H1 p (.tup xs))
def ZLw (t : TA) : TE := fun σ H Q => t σ H fun xs H1 => xs.length ≤ sizeLine ∧ ∀ p, H1 p = none → Q (.ref p) (upd H1 p (.lst xs))
theorem ZPF {x1} (h : PA X es t) : PE X (.Tuple es x1 pos) (ZLv t) := by
 intro pins s σ H Q I hq
 refine wpAny_Tuple_spliced (thn (h pos pins s σ H _ I hq) fun us s1 ⟨xs, H1, I1, r, z, q⟩ => ⟨by rw [← r.length]; exact z, ?_⟩)
 have hf : H1 s1.heap.objs.size = none := I1.hok.fresh (Nat.le_refl _)
 refine ⟨.ref s1.heap.objs.size, upd H1 s1.heap.objs.size (.tup xs), I1.laid (t' := s1.toks) (fun b u e => Heap.get?_push_of_some _ e) (Nat.le_refl _) ?_, rfl, q _ hf⟩
 exact ⟨⟨z, fun _ => ⟨_, Heap.get?_push_size _ rfl, rfl, rfl⟩⟩, us, r, ⟨_, Heap.get?_push_size _ rfl, rfl, _, rfl⟩⟩
theorem ZPG (h : PA X es t) : PE X (.List es pos) (ZLw t) := by
 intro pins s σ H Q I hq
 refine wpAny_List_spliced (thn (h pos pins s σ H _ I hq) fun us s1 ⟨xs, H1, I1, r, z, q⟩ => ⟨by rw [← r.length]; exact z, ?_⟩)
 have hf : H1 s1.heap.objs.size = none := I1.hok.fresh (Nat.le_refl _)
 refine ⟨.ref s1.heap.objs.size, upd H1 s1.heap.objs.size (.lst xs), I1.laid (t' := s1.toks) (fun b u e => Heap.get?_push_of_some _ e) (Nat.le_refl _) ?_, rfl, q _ hf⟩
 exact ⟨z, us, 0, r, Heap.get?_push_size _ rfl⟩
end
abbrev Sp := List V → Hp → VK → XK → Prop
abbrev CXT := List Env → Hp → Shared → XK → Value → Shared → Prop
structure ZEK (P : Program) (w : World) (K : W.Frag) (mg : Str → Option Value) (base : Heap) (A : Around) (outer : List Env) (s : Shared) (H : Hp) : Prop where
 frames : A.frames = some outer
 mod : Mod K mg base
 bs : ∀ b o, base.get? b = some o → s.heap.get? b = some o ∧ H b = none
 bsz : base.objs.size ≤ s.heap.objs.size
 funs : s.heap.FunFrames base outer
 frf : ∀ b ∈ frs outer, H b = none
 hok : HOk P w H s.heap
 bare : AllBare s.gens
def CE (outer : List Env) (P : Program) (w : World) (H : Hp) (s : Shared) (Q : VK) (u : Value) (s' : Shared) : Prop :=
 ∃ v H', s'.os = s.os ∧ AllBare s'.gens ∧ Un (frs outer) [] H H' s.heap s'.heap ∧ HOk P w H' s'.heap ∧ ZBi v u ∧ Q v H'
def CR (CX : CXT) (outer : List Env) (P : Program) (w : World) (H : Hp) (s : Shared) (Q : VK) (E : XK) (r : Result) (s' : Shared) : Prop :=
 match r with
 | .ok (.ret u) => CE outer P w H s Q u s'
 | .ok _ => False
 | .error e => CX outer H s E e s'
structure ZBh (P : Program) (w : World) (K : W.Frag) (mg : Str → Option Value) (base : Heap) (CX : CXT) (k : Nat) (f : Addr) (fd : FuncData) (ps : List Str) (sp : Sp) : Prop where
 len : ∀ vs H Q E, sp vs H Q E → vs.length = ps.length
 run : ∀ (A : Around) (outer : List Env) (s : Shared) (H : Hp) (args : Args) (us : List Value) (vs : List V) (Q : VK) (E : XK), Room k A → ZEK P w K mg base A outer s H → BindsTo s fd args (ps.zip us) → ZBj vs us → sp vs H Q E →
  codeAny (model P w) A (.call (.ref f) args) (CR CX outer P w H s Q E) s
theorem ZEK.make {P : Program} {w : World} {K : W.Frag} {mg : Str → Option Value} {base : Heap} {A : Around} {outer : List Env} {s : Shared} {H : Hp} (e : ZEK P w K mg base A outer s H) (C : Addr) (us : List Value) (kw : List (Str × Value)) :
 ZEK P w K mg base (A.under (.builtin "type.__call__" ⟨.ref C :: us, kw⟩)) outer s H := ⟨by first | exact e.frames | (simpa [Around.under, Code.envs, Code.isFrame, pushEnvs] using e.frames), e.mod, e.bs, e.bsz, e.funs, e.frf, e.hok, e.bare⟩
theorem ZEK.in1 {P : Program} {w : World} {K : W.Frag} {mg : Str → Option Value} {base : Heap} {A : Around} {outer : List Env} {s : Shared} {H : Hp} (e : ZEK P w K mg base A outer s H) :
 ZEK P w K mg base A.in1 outer s H := ⟨e.frames, e.mod, e.bs, e.bsz, e.funs, e.frf, e.hok, e.bare⟩
section
variable {X : Cx} {pins : List (Addr × Obj)} {σ : St} {H : Hp} {s s' : Shared}
theorem Inv.env0 (I : Inv X pins σ H s) : ZEK X.prog X.w X.K X.mg X.base X.A X.stack s H :=
 ⟨I.ok.frames, I.ok.mod, I.bs, Nat.le_trans I.ok.bsz I.sz, I.stack, I.stkFree, I.hok, I.bare⟩
theorem Inv.after {Q : VK} {u : Value} (I : Inv X pins σ H s) (h : CE X.stack X.prog X.w H s Q u s') : EP X pins σ Q u s' := by
 obtain ⟨v, H', os, bare, un, hok, r, q⟩ := h
 obtain ⟨hh, g, d, t, os'⟩ := s'
 obtain rfl : os' = s.os := os
 exact ⟨v, H', I.call (h' := hh) (g' := g) (d' := d) (t' := t) (ch := []) un hok bare (fun b z => absurd z (by simp)), r, q⟩
end
def ZGL (sp : Sp) (dvs : List V) (E : XK) (t : TA) : TE := fun σ H Q => t σ H fun vs H1 => sp (vs ++ dvs) H1 Q E
def ZGM (C : Addr) (m : Str) (sp : Sp) (dvs : List V) (E : XK) (ta : TE) (t : TA) : TE := fun σ H Q => ta σ H fun x H1 => ∃ a dx fs, x = .ref a ∧ H1 a = some (.ins C dx fs) ∧ fs.lookup m = none ∧
 t σ H1 fun vs H2 => sp (x :: (vs ++ dvs)) H2 Q E
def ZJc (C : Addr) (sp : Sp) (dvs : List V) (E : XK) (t : TA) : TE := fun σ H Q => t σ H fun vs H1 => ∀ x dx, H1 x = none → H1 dx = none → dx ≠ x →
 sp (.ref x :: (vs ++ dvs)) (upd (upd H1 dx (.own x)) x (.ins C dx [])) (fun v H2 => v = .non ∧ Q (.ref x) H2) E
def ZBf (K : W.Frag) (fd : FuncData) (ps : List Str) (ds : List Value) : Prop :=
 ∀ (s : Shared) (us : List Value), K.In s.heap → (us ++ ds).length = ps.length → BindsTo s fd ⟨us, []⟩ (ps.zip (us ++ ds))
theorem ZBf.all {K : W.Frag} {fd : FuncData} {ps : List Str} (h : ∀ us : List Value, us.length = ps.length → bindArgs fd ⟨us, []⟩ = pure (ps.zip us)) : ZBf K fd ps [] := fun s us _ hl => by
 rw [List.append_nil] at hl ⊢
 exact .of_eq (h us hl)
def ZCo (CX : CXT) (X : Cx) (E : XK) : Prop := ∀ (pins : List (Addr × Obj)) (σ : St) (H : Hp) (s : Shared) (e : Value) (s' : Shared), Inv X pins σ H s → CX X.stack H s E e s' → X.xe e s'
section
variable {X : Cx} {CX : CXT} {k : Nat} {f C : Addr} {fd : FuncData} {ps : List Str} {sp : Sp} {dvs : List V} {ds : List Value} {E : XK} {x m : Str} {p pos apos : Pos} {e o : Expr} {es : List Expr} {ta : TE} {t : TA}
theorem ZHf {pins : List (Addr × Obj)} {σ : St} {H : Hp} {s : Shared} {Q : VK} {us : List Value} {vs : List V} (F : ZBh X.prog X.w X.K X.mg X.base CX k f fd ps sp) (hr : Room k X.A) (hb : ZBf X.K fd ps ds) (hd : ZBj dvs ds) (hx : ZCo CX X E)
  (I : Inv X pins σ H s) (r : ZBj vs us) (h : sp (vs ++ dvs) H Q E) : wpAny (model X.prog X.w) X.A (call (.ref f) us) (EP X pins σ Q) X.xe s := by
 have r2 : ZBj (vs ++ dvs) (us ++ ds) := r.append hd
 have hl : (us ++ ds).length = ps.length := by rw [← r2.length]; exact F.len _ _ _ _ h
 refine wpAny_call (codeAny_mono (F.run X.A X.stack s H ⟨us, []⟩ (us ++ ds) (vs ++ dvs) Q E hr I.env0 (hb s us I.kIn hl) r2 h) fun r s' hq => ?_)
 cases r with
 | error e => exact hx pins σ H s e s' I hq
 | ok fl =>
  cases fl with
  | ret u => exact I.after hq
  | next => exact False.elim hq
  | brk => exact False.elim hq
  | cont => exact False.elim hq
theorem ZNc (F : ZBh X.prog X.w X.K X.mg X.base CX k f fd ps sp) (hr : Room k X.A) (hg : Gl X x) (hm : X.mg x = some (.ref f)) (hk : W.keepIn X.K (.ref f) = true) (hb : ZBf X.K fd ps ds) (hd : ZBj dvs ds) (hx : ZCo CX X E)
  (ha : PA X (e :: es) t) (hdb : (x == ("__debug__" : Str)) = false := by decide) (he : starEach (e :: es) X.env = (false, eval e X.env) :: starEach es X.env := by rfl) (hpl : (backTo pos (starEach es X.env)).any (·.1) = false := by rfl) :
  PE X (.Call (.Name x p) (e :: es) [] pos) (ZGL sp dvs E t) := by
 intro pins s σ H Q I h
 refine wpAny_Call_Name_kw (ZDM I hg hm ?_ hdb)
 refine PySem.W.callWith_K (h₀ := X.base) I.ok.mod.kin hk (thn (ha pos pins s σ H _ I h) fun us s1 ⟨vs, H1, I1, r, q⟩ => ⟨I1.kIn, ?_⟩) he hpl
 exact ZHf F hr hb hd hx I1 r q
theorem ZNd {pl : Sem Bool} (he : PE X o ta) (c : Cls X.K C) (hm : ZD3 X.K C m f) (F : ZBh X.prog X.w X.K X.mg X.base CX k f fd ps sp) (hr : Room k X.A) (hb : ZBf X.K fd ps ds) (hd : ZBj dvs ds) (hx : ZCo CX X E) (ha : PA X (e :: es) t)
  (hst : starEach (e :: es) X.env = (false, eval e X.env) :: starEach es X.env := by rfl) (hpl : (backTo pos (starEach es X.env)).any (·.1) = false := by rfl)
  (ht : eval (.Call (.Attribute o m apos) (e :: es) [] pos) X.env = (do
   let ov ← eval o X.env
   standAt apos.atName
   let (f, first) ← holding [ov] (getMethod ov m pl)
   callWith pos f first (backTo pos (starEach (e :: es) X.env)) (backToKw pos (keywordEach [] X.env))) := by rfl) :
  PE X (.Call (.Attribute o m apos) (e :: es) [] pos) (ZGM C m sp dvs E ta t) := by
 intro pins s σ H Q I h
 refine PySem.W.methodCall_KW (pl := pl) (thn (he pins s σ H _ I h) fun u s1 ⟨x, H1, I1, rx, a, dx, fs, ex, ea, l, q⟩ => ?_) ht
 subst ex
 obtain rfl : u = Value.ref a := rx
 refine ZGJ I1 ea c hm l ?_
 refine PySem.W.callWith_K (first := [.ref a]) (h₀ := X.base) I.ok.mod.kin hm.kp (thn (ha pos pins s1 σ H1 _ I1 q) fun us s2 ⟨vs, H2, I2, r, q2⟩ => ⟨I2.kIn, ?_⟩) hst hpl
 exact ZHf (us := .ref a :: us) (vs := .ref a :: vs) F hr hb hd hx I2 (.cons rfl r) q2
theorem ZLx {pl : Sem Bool} (he : PE X o ta) (c : Cls X.K C) (hm : ZD3 X.K C m f) (F : ZBh X.prog X.w X.K X.mg X.base CX k f fd ps sp) (hr : Room k X.A) (hb : ZBf X.K fd ps ds) (hd : ZBj dvs ds) (hx : ZCo CX X E)
  (ht : eval (.Call (.Attribute o m apos) [] [] pos) X.env = (do
   let ov ← eval o X.env
   standAt apos.atName
   let (f, first) ← holding [ov] (getMethod ov m pl)
   callWith pos f first (backTo pos (starEach [] X.env)) (backToKw pos (keywordEach [] X.env))) := by rfl) :
  PE X (.Call (.Attribute o m apos) [] [] pos) (ZGM C m sp dvs E ta ZHe) := by
 intro pins s σ H Q I h
 refine PySem.W.methodCall_KW (pl := pl) (thn (he pins s σ H _ I h) fun u s1 ⟨x, H1, I1, rx, a, dx, fs, ex, ea, l, q⟩ => ?_) ht
 subst ex
 obtain rfl : u = Value.ref a := rx
 refine ZGJ I1 ea c hm l ?_
 exact PySem.W.callWith_K0 (first := [.ref a]) I1.kIn hm.kp (ZHf (us := [.ref a]) (vs := [.ref a]) F hr hb hd hx I1 (.cons rfl .nil) q)
structure Mk (K : W.Frag) (C f : Addr) : Prop where
 makes : PySem.W.makesIn K C = true
 init : W.findIn K (.ref C) "__init__" = some (some (.ref f))
 fn : PySem.W.isFn K (.ref f) = true
 kp : W.keepIn K (.ref C) = true
theorem ZLy {pins : List (Addr × Obj)} {σ : St} {H : Hp} {s : Shared} {Q : VK} {us : List Value} {vs : List V} (M : Mk X.K C f) (F : ZBh X.prog X.w X.K X.mg X.base CX k f fd ps sp) (hr : Room (k + 1) X.A) (hb : ZBf X.K fd ps ds) (hd : ZBj dvs ds)
  (hx : ZCo CX X E) (I : Inv X pins σ H s) (r : ZBj vs us)
  (h : ∀ x dx, H x = none → H dx = none → dx ≠ x → sp (.ref x :: (vs ++ dvs)) (upd (upd H dx (.own x)) x (.ins C dx [])) (fun v H2 => v = .non ∧ Q (.ref x) H2) E) :
  wpAny (model X.prog X.w) X.A (call (.ref C) us) (EP X pins σ Q) X.xe s := by
 have hq := h (s.heap.objs.size + 1) s.heap.objs.size (I.hok.fresh (Nat.le_succ _)) (I.hok.fresh (Nat.le_refl _)) (Nat.ne_of_lt (Nat.lt_succ_self _))
 have I2 := Inv.made (C := C) I
 have r2 : ZBj (V.ref (s.heap.objs.size + 1) :: (vs ++ dvs)) (Value.ref (s.heap.objs.size + 1) :: (us ++ ds)) := .cons rfl (r.append hd)
 have hl : (Value.ref (s.heap.objs.size + 1) :: us ++ ds).length = ps.length := by
  have e := r2.length
  rw [F.len _ _ _ _ hq] at e
  exact e.symm
 refine wpAny_call (ZLs (f := f) I.kIn M.makes M.init (beq_iff_eq.mp M.fn) (codeAny_mono (F.run _ X.stack _ _ ⟨Value.ref (s.heap.objs.size + 1) :: us, []⟩ (Value.ref (s.heap.objs.size + 1) :: (us ++ ds)) _ _ E (hr.make C us [])
  (I2.env0.make C us []) (hb _ (Value.ref (s.heap.objs.size + 1) :: us) I2.kIn hl) r2 hq) fun r s' hq' => ?_))
 cases r with
 | error e => exact hx pins σ _ _ e s' I2 hq'
 | ok fl =>
  cases fl with
  | ret u =>
   obtain ⟨v, H', I3, rv, ev, q3⟩ := I2.after hq'
   subst ev
   exact ⟨rv, ⟨V.ref (s.heap.objs.size + 1), H', I3, rfl, q3⟩⟩
  | next => exact False.elim hq'
  | brk => exact False.elim hq'
  | cont => exact False.elim hq'
theorem ZNe (M : Mk X.K C f) (F : ZBh X.prog X.w X.K X.mg X.base CX k f fd ps sp) (hr : Room (k + 1) X.A) (hg : Gl X x) (hm : X.mg x = some (.ref C)) (hb : ZBf X.K fd ps ds) (hd : ZBj dvs ds) (hx : ZCo CX X E)
  (ha : PA X (e :: es) t) (hdb : (x == ("__debug__" : Str)) = false := by decide) (he : starEach (e :: es) X.env = (false, eval e X.env) :: starEach es X.env := by rfl) (hpl : (backTo pos (starEach es X.env)).any (·.1) = false := by rfl) :
  PE X (.Call (.Name x p) (e :: es) [] pos) (ZJc C sp dvs E t) := by
 intro pins s σ H Q I h
 refine wpAny_Call_Name_kw (ZDM I hg hm ?_ hdb)
 refine PySem.W.callWith_K (h₀ := X.base) I.ok.mod.kin M.kp (thn (ha pos pins s σ H _ I h) fun us s1 ⟨vs, H1, I1, r, q⟩ => ⟨I1.kIn, ?_⟩) he hpl
 exact ZLy M F hr hb hd hx I1 r q
end
section
variable {X : Cx} {CX : CXT} {k : Nat} {f C : Addr} {fd : FuncData} {ps ks : List Str} {sp : Sp} {E : XK} {x m : Str} {p pos apos kpos : Pos} {e o : Expr} {es : List Expr} {kws : List Keyword} {te ta : TE} {t tk : TA} {nm : Option Str}
variable {g : List Value → List Value → List Value} {gV : List V → List V → List V}
end
structure ZBl (N P : List Str) (sc : Scope) : Prop where
 kind : sc.kind = .function
 co : sc.isCoroutine = false
 gen : sc.isGenerator = false
 nd : N.Nodup
 pre : N.take P.length = P
 par : ∀ x ∈ P, sc.names.lookup x = some .local ∨ sc.names.lookup x = some .cell
 nofree : ∀ y ∈ sc.names, y.2 ≠ .free
theorem ZGw {kindOf : Str → Option NameKind} {x : Str} : ∀ {binds : List (Str × Value)} {m : Str → Option Value}, (∀ v, (x, v) ∉ binds) → bindL kindOf binds m x = m x
 | [], _, _ => rfl
 | (n, v) :: r, m, h => by
  unfold bindL
  rw [ZGw fun w hw => h w (List.mem_cons_of_mem _ hw)]
  split
  ·have : x ≠ n := by rintro rfl; exact h v List.mem_cons_self
   simp [this]
  ·rfl
theorem ZGx {kindOf : Str → Option NameKind} {x : Str} : ∀ {binds : List (Str × Value)} {m : Str → Option Value}, (∀ v, (x, v) ∉ binds) → bindC kindOf binds m x = m x
 | [], _, _ => rfl
 | (n, v) :: r, m, h => by
  unfold bindC
  rw [ZGx fun w hw => h w (List.mem_cons_of_mem _ hw)]
  split
  ·rfl
  ·have : x ≠ n := by rintro rfl; exact h v List.mem_cons_self
   simp [this]
theorem ZGy {kindOf : Str → Option NameKind} {x : Str} {v : Value} : ∀ {P : List Str} {vs : List Value} {i : Nat} {m : Str → Option Value}, P.Nodup → P[i]? = some x → vs[i]? = some v → kindOf x = some .local →
  bindL kindOf (P.zip vs) m x = some v
 | [], _, _, _, _, h, _, _ => by simp at h
 | _ :: _, [], _, _, _, _, h, _ => by simp at h
 | p :: P, w :: vs, 0, m, nd, h1, h2, hk => by
  simp at h1 h2; subst h1; subst h2
  show bindL kindOf ((p, w) :: P.zip vs) m p = _
  unfold bindL
  rw [ZGw fun v hv => (List.nodup_cons.mp nd).1 (List.of_mem_zip hv).1, if_pos hk]
  simp
 | p :: P, w :: vs, i + 1, m, nd, h1, h2, hk => by
  show bindL kindOf ((p, w) :: P.zip vs) m x = _
  unfold bindL
  exact ZGy (i := i) (List.nodup_cons.mp nd).2 (by simpa using h1) (by simpa using h2) hk
theorem ZGz {kindOf : Str → Option NameKind} {x : Str} {v : Value} : ∀ {P : List Str} {vs : List Value} {i : Nat} {m : Str → Option Value}, P.Nodup → P[i]? = some x → vs[i]? = some v → kindOf x ≠ some .local →
  bindC kindOf (P.zip vs) m x = some v
 | [], _, _, _, _, h, _, _ => by simp at h
 | _ :: _, [], _, _, _, _, h, _ => by simp at h
 | p :: P, w :: vs, 0, m, nd, h1, h2, hk => by
  simp at h1 h2; subst h1; subst h2
  show bindC kindOf ((p, w) :: P.zip vs) m p = _
  unfold bindC
  rw [ZGx fun v hv => (List.nodup_cons.mp nd).1 (List.of_mem_zip hv).1, if_neg hk]
  simp
 | p :: P, w :: vs, i + 1, m, nd, h1, h2, hk => by
  show bindC kindOf ((p, w) :: P.zip vs) m x = _
  unfold bindC
  exact ZGz (i := i) (List.nodup_cons.mp nd).2 (by simpa using h1) (by simpa using h2) hk
def start (N : List Str) (vs : List V) : St := vs.map some ++ List.replicate (N.length - vs.length) none
def ZE6 (CX : CXT) (P : Program) (w : World) (K : W.Frag) (mg : Str → Option Value) (base : Heap) (N : List Str) (qual : Str) (scope : Scope) (f : Addr) (cd : Value) (A : Around) (outer : List Env) (s : Shared) (H : Hp) (E : XK) : Cx where
 prog := P
 w := w
 K := K
 mg := mg
 base := base
 A := A.deeper (envOfC qual scope s.heap.objs.size f cd)
 N := N
 s₀ := s
 H₀ := H
 env := envOfC qual scope s.heap.objs.size f cd
 outer := outer
 stack := envOfC qual scope s.heap.objs.size f cd :: outer
 ex := []
 calm := true
 fn := fun _ => true
 pn := []
 xe := fun e s' => wpAny (model P w) (A.deeper (envOfC qual scope s.heap.objs.size f cd)) (leaving (envOfC qual scope s.heap.objs.size f cd) e) (fun _ s'' => CX outer H s E e s'') (fun e' s'' => CX outer H s E e' s'') s'
theorem ZHg {sc : Scope} {n : Nat} {x : Str} (h : sc.names.lookup x = some .cell) : ∃ c, (cellsFrom n sc.names []).lookup x = some c := by
 have q := PySem.W.cellsFrom_some sc.names n [] (.inl h)
 exact Option.isSome_iff_exists.mp q
theorem ZKU {CX : CXT} {P : Program} {w : World} {K : W.Frag} {mg : Str → Option Value} {base : Heap} {N ps : List Str} {qual : Str} {scope : Scope} {f : Addr} {cd : Value} {A : Around} {outer : List Env} {s s1 : Shared} {H : Hp} {E : XK} {us : List Value} {vs : List V}
  (S : ZBl N ps scope) (hd : A.handled = none) (e0 : ZEK P w K mg base A outer s H) (hl : vs.length = ps.length) (r : ZBj vs us)
  (x : InCallC s s.heap.objs.size (bindL (envOfC qual scope s.heap.objs.size f cd).kindOf (ps.zip us) fun _ => none) (cellsFrom (s.heap.objs.size + 1) scope.names []) (bindC (envOfC qual scope s.heap.objs.size f cd).kindOf (ps.zip us) fun _ => none) s1) :
  Inv (ZE6 CX P w K mg base N qual scope f cd A outer s H E) [] (start N vs) H s1 := by
 have hpl : ps.length ≤ N.length := by have := congrArg List.length S.pre; rw [List.length_take] at this; omega
 obtain ⟨h1, tk, rfl, hk⟩ := x.done
 have noA : ∀ b : Addr, b ∉ (ZE6 CX P w K mg base N qual scope f cd A outer s H E).ex := fun b z => absurd (show b ∈ ([] : List Addr) from z) (by simp)
 refine ⟨⟨e0.mod, S.kind, rfl, rfl, Nat.le_refl _, fun y z c h1 h2 => ?_, fun y hy => ?_, fun y c _ h => ?_, fun _ => hd, Around.frames_deeper e0.frames, .inr ⟨rfl, rfl⟩, fun b z => absurd z (noA b), e0.bs, e0.bsz, fun b _ _ => noA b, fun b z => absurd z (noA b), e0.funs, e0.frf⟩,
  rfl, e0.bare, Un.kept hk, ⟨_, x.toInCall.ns, fun i y v h1 h2 h3 => ?_⟩, fun y c h => ⟨_, x.cell y c h⟩, e0.hok.fresh (Nat.le_refl _), fun y c h => ?_, fun p hp => absurd (show p ∈ ([] : List (Addr × Obj)) from hp) (by simp), e0.hok.kept hk, ?_⟩
 ·exact name_of_addr x.apart (PySem.mem_of_lookup h1) (PySem.mem_of_lookup h2)
 ·have hy : scope.names.lookup y = some .cell ∨ scope.names.lookup y = some .free := hy
  rcases hy with hy | hy
  ·exact ZHg hy
  ·exact absurd rfl (S.nofree _ (PySem.mem_of_lookup hy))
 ·exact Nat.le_of_lt (x.above y c (PySem.mem_of_lookup h))
 ·have hi : i < vs.length := by
   unfold start at h2
   by_cases hi : i < vs.length
   ·exact hi
   ·rw [List.getElem?_append_right (by simpa using hi)] at h2
    rw [List.getElem?_replicate] at h2
    split at h2 <;> cases h2
  have ha : vs[i]? = some v := by
   unfold start at h2
   rw [List.getElem?_append_left (by simpa using hi), List.getElem?_map] at h2
   cases e : vs[i]? with
   | none => rw [e] at h2; cases h2
   | some a => rw [e] at h2; cases h2; rfl
  obtain ⟨u, hu, rv⟩ := r.get ha
  have hp : ps[i]? = some y := by
   rw [← S.pre, List.getElem?_take_of_lt (by omega)]; exact h1
  have ndP : ps.Nodup := by rw [← S.pre]; exact S.nd.sublist (List.take_sublist _ _)
  refine ⟨u, rv, ?_⟩
  rcases S.par y (List.mem_of_getElem? hp) with k | k
  ·exact .inl ⟨k, ZGy ndP hp hu k⟩
  ·obtain ⟨c, e⟩ := ZHg (n := s.heap.objs.size + 1) k
   refine .inr ⟨.inl k, c, e, ?_⟩
   have q := x.cell y c e
   rw [ZGz ndP hp hu (by show scope.names.lookup y ≠ _; rw [k]; decide)] at q
   exact q
 ·exact e0.hok.fresh (Nat.le_of_lt (x.above y c (PySem.mem_of_lookup h)))
 ·unfold start
  show _ = N.length
  rw [List.length_append, List.length_map, List.length_replicate]
  omega
theorem ZHU {CX : CXT} {P : Program} {w : World} {K : W.Frag} {mg : Str → Option Value} {base : Heap} {k : Nat} {f : Addr} {name qual : Str} {params : Arguments} {body : List Stmt} {scope : Scope} {dV kV doc pm cdv ct oc : Value} {an od : Option Addr}
  {osl : Array (Option Value)} {N ps : List Str} {sp : Sp} (lk : K.lookup f = some ⟨oc, od, .func (W.fnOf name qual params body scope dV kV doc pm an cdv ct), osl⟩) (hcd : W.codeIn K cdv qual = true) (S : ZBl N ps scope)
  (len : ∀ vs H Q E, sp vs H Q E → vs.length = ps.length)
  (hbody : ∀ (A : Around) (outer : List Env) (s : Shared) (H : Hp) (vs : List V) (Q : VK) (E : XK), Room k (A.deeper (envOfC qual scope s.heap.objs.size f cdv)) → sp vs H Q E →
   ∃ t, PSs (ZE6 CX P w K mg base N qual scope f cdv A outer s H E) body t ∧ t { nx := fun _ H' => Q .non H', rt := Q } (start N vs) H) :
  ZBh P w K mg base CX (k + 1) f (W.fnOf name qual params body scope dV kV doc pm an cdv ct) ps sp := by
 refine ⟨len, fun A outer s H args us vs Q E hr e0 hb r hsp => ?_⟩
 have hl := len _ _ _ _ hsp
 have KX : K.In s.heap := e0.mod.kin.keeps fun b o e => (e0.bs b o e).1
 have lim : s.heap.NoLimit := e0.mod.nolimit.keeps fun b o e => (e0.bs b o e).1
 have hkind : ∀ y ∈ ps.zip us, scope.names.lookup y.1 = some .local ∨ (scope.names.lookup y.1 = some .cell ∧ ((cellsFrom (s.heap.objs.size + 1) scope.names []).lookup y.1).isSome = true) := fun ⟨n, v⟩ hy => by
  rcases S.par n (List.of_mem_zip hy).1 with q | q
  ·exact .inl q
  ·exact .inr ⟨q, PySem.W.cellsFrom_some _ _ _ (.inl q)⟩
 refine codeAny_call_function hr.depth (KX _ _ lk) rfl S.co S.gen rfl (PySem.W.codeRec_of KX hcd) (hb _ _ _ _ ?_)
 refine wpAny_newFunctionEnv_cells S.kind hkind fun env he s1 x => ?_
 subst he
 refine ⟨lim.keeps x.toInCall.keep, codeAny_func ?_⟩
 obtain ⟨t, ht, hq⟩ := hbody A outer s H vs Q E (hr.deeper _) hsp
 have I : Inv (ZE6 CX P w K mg base N qual scope f cdv A outer s H E) [] (start N vs) H s1 := ZKU S hr.hd e0 hl r x
 refine wpAny_mono (ht [] s1 (start N vs) H _ I hq) (fun fl s' hs => ?_) fun e s' hs => hs
 have fin : ∀ {σ' : St} {H' : Hp} {v : V} {u : Value}, Inv (ZE6 CX P w K mg base N qual scope f cdv A outer s H E) [] σ' H' s' → ZBi v u → Q v H' → CE outer P w H s Q u s' :=
  fun {σ' H' v u} J rv q => ⟨v, H', J.os, J.bare, J.base, J.hok, rv, q⟩
 cases fl with
 | ret u =>
  obtain ⟨v, σ', H', J, rv, q⟩ := hs
  exact fin J rv q
 | next =>
  obtain ⟨σ', H', J, q⟩ := hs
  exact fin (v := V.non) (u := Value.none) J rfl q
 | brk =>
  obtain ⟨_, _, _, q⟩ := hs
  exact False.elim q
 | cont =>
  obtain ⟨_, _, _, q⟩ := hs
  exact False.elim q
section
variable {X : Cx} {x : Str} {p pos : Pos} {e : Expr} {es : List Expr} {t : TA} {id T : String} {r : List V → Hp → VK → Prop}
def tCB (r : List V → Hp → VK → Prop) (t : TA) : TE := fun σ H Q => t σ H fun vs H1 => r vs H1 Q
theorem ZLz (hc : ZBy X (.builtin id) r) (hg : Gl X x) (hm : X.mg x = none) (hv : bootBuiltins x = some (.builtin id)) (ha : PA X (e :: es) t) (hn : x ≠ "__name__" := by decide) (hdb : (x == ("__debug__" : Str)) = false := by decide)
  (he : starEach (e :: es) X.env = (false, eval e X.env) :: starEach es X.env := by rfl) (hpl : (backTo pos (starEach es X.env)).any (·.1) = false := by rfl) : PE X (.Call (.Name x p) (e :: es) [] pos) (tCB r t) := by
 intro pins s σ H Q I h
 refine wpAny_Call_Name_kw (ZD2 I hg hm hv ?_ hn hdb)
 exact PyProof.Rows.callWith_builtin1 (thn (ha pos pins s σ H _ I h) fun us s1 ⟨vs, H1, I1, r1, q1⟩ => hc pins s1 σ H1 vs us Q I1 r1 q1) he hpl
theorem ZKV (hc : ZBy X (.type T) r) (hg : Gl X x) (hm : X.mg x = none) (hv : bootBuiltins x = some (.type T)) (ha : PA X (e :: es) t) (hn : x ≠ "__name__" := by decide) (hdb : (x == ("__debug__" : Str)) = false := by decide)
  (he : starEach (e :: es) X.env = (false, eval e X.env) :: starEach es X.env := by rfl) (hpl : (backTo pos (starEach es X.env)).any (·.1) = false := by rfl) : PE X (.Call (.Name x p) (e :: es) [] pos) (tCB r t) := by
 intro pins s σ H Q I h
 refine wpAny_Call_Name_kw (ZD2 I hg hm hv ?_ hn hdb)
 exact PyProof.Rows.callWith_type1 (thn (ha pos pins s σ H _ I h) fun us s1 ⟨vs, H1, I1, r1, q1⟩ => hc pins s1 σ H1 vs us Q I1 r1 q1) he hpl
end
end L2
namespace HT
open PySem PyProof.Rows
section
open PySem.SeqAt
open PySem.AutoSeq1 (wpAny_loadPart')
open PySem.MeetsSeq PySem.MeetsSeq2 PySem.MeetsSeq3
end
section
variable {prog : Program} {w : World} {A : Around} {E : Value → Shared → Prop} {s : Shared}
theorem cat_tup {t b : Addr} {vs ws : List Value} {Q : Value → Shared → Prop} (ht : IsTup s.heap t vs.toArray) (hb : IsTup s.heap b ws.toArray) (hv : vs ≠ [])
  (h1 : ws = [] → Q (.ref t) s) (h2 : ws ≠ [] → Q (.ref s.heap.objs.size) { s with heap := s.heap.push { cls := .type "tuple", data := .seq (vs ++ ws).toArray } })
  (hsz : vs.length + ws.length ≤ sizeLine) : wpAny (model prog w) A (binaryOp .Add (.ref t) (.ref b)) Q E s := by
 obtain ⟨⟨cls, dd, data, sl⟩, ho, hc, n, hd⟩ := id ht
 obtain ⟨⟨cls2, dd2, data2, sl2⟩, ho2, hc2, n2, hd2⟩ := id hb
 simp only at hc hd hc2 hd2
 subst hc hd hc2 hd2
 have e : vs.toArray ++ ws.toArray = (vs ++ ws).toArray := by simp
 by_cases hw : ws = []
 ·exact concat_meets ⟨_, ho, rfl⟩ ⟨_, ho2, rfl⟩ noFill_tuple_add seq_tuple_add PySem.F.slot_tuple_add PySem.F.entry_tuple_add (PySem.F.args_tuple_add_2 _ _)
   (tuple_addW1 t b vs.toArray ws.toArray n n2 dd dd2 sl sl2 (by simpa using hv) (by simp [hw])) ⟨ho, ho2, h1 hw⟩
 ·refine concat_meets ⟨_, ho, rfl⟩ ⟨_, ho2, rfl⟩ noFill_tuple_add seq_tuple_add PySem.F.slot_tuple_add PySem.F.entry_tuple_add (PySem.F.args_tuple_add_2 _ _)
   (tuple_addW2 t b vs.toArray ws.toArray n n2 dd dd2 sl sl2 (by simpa using hv) (by simpa using hw) (by rw [List.size_toArray, List.size_toArray]; exact hsz)) ⟨ho, ho2, ?_⟩
  rw [e]
  exact h2 hw
end
end HT
namespace L2
open PySem PySem.Spec PyProof.Rows
abbrev TO := St → Hp → (Option Int → Hp → Prop) → Prop
section
variable {X : Cx} {e : Expr} {te : TE} {lo hi : Option Expr} {tl th : TO} {pos p2 : Pos}
def ZQP (K : W.Frag) : R2 := fun x y H Q => ∃ a b xs ys, x = .ref a ∧ y = .ref b ∧ SqT K H a xs ∧ SqT K H b ys ∧ xs ≠ [] ∧ xs.length + ys.length ≤ sizeLine ∧
 (ys = [] → Q (.ref a) H) ∧ (ys ≠ [] → ∀ p, H p = none → Q (.ref p) (upd H p (.tup (xs ++ ys))))
theorem ZBj.nil_iff {xs : List V} {us : List Value} (r : ZBj xs us) : us = [] ↔ xs = [] := by
 cases r with
 | nil => simp
 | cons _ _ => simp
theorem ZNf : OpR X (binaryOp .Add) (ZQP X.K) := by
 intro pins s σ H x y v u Q I rx ry h
 obtain ⟨a, b, xs, ys, rfl, rfl, ha, hb, hx, hz, q1, q2⟩ := h
 cases rx
 cases ry
 obtain ⟨its, r1, p1, _⟩ := I.tuple ha
 obtain ⟨its2, r2, p2, _⟩ := I.tuple hb
 refine HT.cat_tup p1 p2 (fun z => hx (r1.nil_iff.mp z)) (fun z => ⟨.ref a, H, I, rfl, q1 (r2.nil_iff.mp z)⟩) (fun z => ?_) (by rw [← r1.length, ← r2.length]; exact hz)
 refine ⟨.ref s.heap.objs.size, _, I.laid (t' := s.toks) (o := .tup (xs ++ ys)) (fun b ob q => Heap.get?_push_of_some _ q) (Nat.le_refl _) ?_, rfl, q2 (fun w => z (r2.nil_iff.mpr w)) _ (I.hok.fresh (Nat.le_refl _))⟩
 exact ⟨⟨by rw [List.length_append]; exact hz, fun _ => ⟨_, Heap.get?_push_size _ rfl, rfl, rfl⟩⟩, _, r1.append r2, IsTup.new _ _⟩
end
def ixN (n : Nat) (i : Int) : Option Nat := if 0 ≤ i then (if i < n then some i.toNat else none) else if -(n : Int) ≤ i then some (i + n).toNat else none
def atI {α : Type} (xs : List α) (i : Int) : Option α := (ixN xs.length i).bind fun j => xs[j]?
theorem ZI2 {n : Nat} {i : Int} {j : Nat} (h : ixN n i = some j) : seqIndex? i n = some j ∧ j < n ∧ -(n : Int) ≤ i ∧ i < n := by
 unfold ixN at h
 by_cases h0 : 0 ≤ i
 ·rw [if_pos h0] at h
  by_cases h1 : i < n
  ·rw [if_pos h1] at h
   have e : i.toNat = j := Option.some.inj h
   exact ⟨by rw [seqIndex_of h0 h1, e], by omega, by omega, h1⟩
  ·rw [if_neg h1] at h; cases h
 ·rw [if_neg h0] at h
  by_cases h1 : -(n : Int) ≤ i
  ·rw [if_pos h1] at h
   have e : (i + n).toNat = j := Option.some.inj h
   exact ⟨by rw [seqIndex_neg (by omega) h1, e], by omega, h1, by omega⟩
  ·rw [if_neg h1] at h; cases h
theorem ZI3 {α : Type} {xs : List α} {i : Int} {v : α} (h : atI xs i = some v) : ∃ j, seqIndex? i xs.length = some j ∧ xs[j]? = some v ∧ j < xs.length ∧ -(xs.length : Int) ≤ i ∧ i < xs.length := by
 unfold atI at h
 cases e : ixN xs.length i with
 | none => rw [e] at h; cases h
 | some j =>
  rw [e] at h
  obtain ⟨h1, h2, h3, h4⟩ := ZI2 e
  exact ⟨j, h1, h, h2, h3, h4⟩
theorem ZFU {α : Type} {xs : List α} {j : Nat} {v : α} (h : xs[j]? = some v) : atI xs (j : Int) = some v := by
 have hj : j < xs.length := (List.getElem?_eq_some_iff.mp h).1
 have e : ixN xs.length (j : Int) = some j := by
  unfold ixN
  rw [if_pos (by omega), if_pos (by omega)]; simp
 unfold atI; rw [e]; exact h
def ZI4 (b : Expr) : Prop := ∀ o i, subscripted b false o i = operate [o, i] (getItem o i)
def IxR (X : Cx) (r : R2) : Prop :=
 ∀ (value slice : Expr) (pins : List (Addr × Obj)) (s : Shared) (σ : St) (H : Hp) (x y : V) (v u : Value) (Q : VK), Inv X pins σ H s → ZBi x v → ZBi y u → r x y H Q →
  subscripted slice false v u = operate [v, u] (getItem v u) → wpAny (model X.prog X.w) X.A (subscriptTail value slice v u) (EP X pins σ Q) X.xe s
def MtR (X : Cx) (id : String) (r : V → List V → Hp → VK → Prop) : Prop :=
 ∀ (pins : List (Addr × Obj)) (s : Shared) (σ : St) (H : Hp) (x : V) (xs : List V) (v : Value) (us : List Value) (Q : VK), Inv X pins σ H s → ZBi x v → ZBj xs us → r x xs H Q →
  wpAny (model X.prog X.w) X.A (call (.builtin id) (v :: us)) (EP X pins σ Q) X.xe s
section
variable {X : Cx} {a b : Expr} {ta tb : TE} {pos : Pos}
theorem ZQQ {r : R2} (hr : IxR X r) (ha : PE X a ta) (hb : PE X b tb) (hs : ZI4 b) : PE X (.Subscript a b pos) (tOp r ta tb) := by
 intro pins s σ H Q I h
 exact Subscript_ (ZLl ha hb I h fun v u s2 x y H2 I2 rx ry q => hr a b pins s2 σ H2 x y v u Q I2 rx ry q (hs _ _))
def ZL0 (K : W.Frag) : R2 := fun x y H Q => ∃ p xs i v, x = .ref p ∧ y = .int i ∧ SqL K H p xs ∧ atI xs i = some v ∧ Q v H
def ZL1 (K : W.Frag) : R2 := fun x y H Q => ∃ p xs i v, x = .ref p ∧ y = .int i ∧ SqT K H p xs ∧ atI xs i = some v ∧ Q v H
theorem ZNg : IxR X (ZL0 X.K) := by
 intro value slice pins s σ H x y v u Q I rx ry h hs
 obtain ⟨p, xs, i, z, rfl, rfl, hq, he, q⟩ := h
 cases rx
 obtain ⟨t, rfl⟩ := ry
 obtain ⟨its, r, pl, hz⟩ := I.list hq
 obtain ⟨j, h1, h2, h3, h4, h5⟩ := ZI3 he
 obtain ⟨w, ew, rw'⟩ := r.get h2
 have hl := r.length
 have hn := ZGH
 have fin : EP X pins σ Q w s := ⟨z, H, I, rw', q⟩
 by_cases h0 : 0 ≤ i
 ·have hj : i.toNat = j := by
   rw [seqIndex_of h0 h5] at h1
   exact Option.some.inj h1
  exact item_listR pl.isList h0 (by omega) (by rw [hj]; simpa using ew) fin hs
 ·have hj : (i + (its.toArray.size : Int)).toNat = j := by
   rw [seqIndex_neg (by omega) h4] at h1
   rw [List.size_toArray, ← hl]
   exact Option.some.inj h1
  exact subscriptTail_builtinR (x := w) pl.isList.typeIs slot_list_getitem.lookup
   (wpAny_getItem_list_neg (Q := fun r s' => r = w ∧ EP X pins σ Q r s') pl.isList (by omega) (by rw [List.size_toArray] <;> omega) (by omega) (by rw [hj]; simpa using ew) ⟨rfl, fin⟩) hs
theorem ZPH : IxR X (ZL1 X.K) := by
 intro value slice pins s σ H x y v u Q I rx ry h hs
 obtain ⟨p, xs, i, z, rfl, rfl, hq, he, q⟩ := h
 cases rx
 obtain ⟨t, rfl⟩ := ry
 obtain ⟨its, r, pl, hz⟩ := I.tuple hq
 obtain ⟨j, h1, h2, h3, h4, h5⟩ := ZI3 he
 obtain ⟨w, ew, rw'⟩ := r.get h2
 have hl := r.length
 have hn := ZGH
 have fin : EP X pins σ Q w s := ⟨z, H, I, rw', q⟩
 exact subscriptTail_builtinR (x := w) pl.typeIs slot_tuple_getitem.lookup
  (getItem_tuple (j := j) (Q := fun r s' => r = w ∧ EP X pins σ Q r s') pl (by omega) (by omega) (by rw [List.size_toArray, ← hl]; exact h1) (by simpa using ew) ⟨rfl, fin⟩) hs
theorem ZJd (its : List Value) (n j : Nat) (u : Value) : Obj.mapSeq (·.setIfInBounds j u) { cls := .type "list", data := .seq its.toArray n } = { cls := .type "list", data := .seq (its.set j u).toArray n } := by
 simp [Obj.mapSeq]
theorem Inv.lst {pins : List (Addr × Obj)} {σ : St} {H : Hp} {s : Shared} {p : Addr} {xs : List V} (I : Inv X pins σ H s) (h : H p = some (.lst xs)) :
  ∃ (its : List Value) (n : Nat), ZBj xs its ∧ s.heap.get? p = some { cls := .type "list", data := .seq its.toArray n } ∧ xs.length ≤ sizeLine := by
 obtain ⟨z, its, n, r, e⟩ := I.hok p _ h
 exact ⟨its, n, r, e, z⟩
theorem Inv.lstUpd {pins : List (Addr × Obj)} {σ : St} {H : Hp} {s : Shared} {p : Addr} {xs ys : List V} {its its' : List Value} {n n' : Nat} {f : Obj → Obj} (I : Inv X pins σ H s) (h : H p = some (.lst xs))
  (ho : s.heap.get? p = some { cls := .type "list", data := .seq its.toArray n }) (hf : f { cls := .type "list", data := .seq its.toArray n } = { cls := .type "list", data := .seq its'.toArray n' }) (r : ZBj ys its') (hz : ys.length ≤ sizeLine) (t : Nat) :
  Inv X pins σ (upd H p (.lst ys)) { s with heap := s.heap.update p f, toks := t } := by
 have e : (s.heap.update p f).get? p = some { cls := .type "list", data := .seq its'.toArray n' } := by
  rw [Heap.get?_update_self f ho (by rw [hf] <;> rfl), hf]
 refine I.write (x := p) (e := p) (by rw [h]; trivial) (.inl rfl) (fun b u hb q => (Heap.get?_update_other _ _ (Ne.symm hb)).trans q) ⟨_, e⟩ ?_
 exact ⟨hz, its', n', r, e⟩
def ZM5 : V → V → V → Hp → (Hp → Prop) → Prop := fun o i v H Q => ∃ p xs k j, o = .ref p ∧ i = .int k ∧ H p = some (.lst xs) ∧ ixN xs.length k = some j ∧ Q (upd H p (.lst (xs.set j v)))
theorem ZHh : ZLc X ZM5 := by
 intro pins s σ H o i v ov iv u Q I ro ri rv h
 obtain ⟨p, xs, k, j, rfl, rfl, hp, hj, q⟩ := h
 cases ro
 obtain ⟨t, rfl⟩ := ri
 obtain ⟨its, n, r, ho, hz⟩ := I.lst hp
 obtain ⟨h1, h2, h3, h4⟩ := ZI2 hj
 have hl := r.length
 have hn := ZGH
 have I' : Inv X pins σ (upd H p (.lst (xs.set j v))) { s with heap := s.heap.update p (Obj.mapSeq (·.setIfInBounds j u)) } :=
  I.lstUpd hp ho (ZJd its n j u) (r.set rv j) (by rw [List.length_set]; exact hz) s.toks
 by_cases h0 : 0 ≤ k
 ·have hk : k.toNat = j := by
   rw [seqIndex_of h0 h4] at h1
   exact Option.some.inj h1
  exact PySem.W.ki_setAt ho h0 (by omega) (by rw [List.size_toArray, ← hl]; exact h4) (by rw [hk]; exact ⟨_, I', q⟩)
 ·have hk : (k + (its.toArray.size : Int)).toNat = j := by
   rw [seqIndex_neg (by omega) h3] at h1
   rw [List.size_toArray, ← hl]
   exact Option.some.inj h1
  exact PySem.W.ki_setBack ho (by omega) (by rw [List.size_toArray, ← hl]; exact h3) (by omega) (by rw [hk]; exact ⟨_, I', q⟩)
theorem ZHi : ZBy X (.builtin "len") (fun xs H Q => ∃ p ys, xs = [.ref p] ∧ (SqL X.K H p ys ∨ SqT X.K H p ys) ∧ Q (.int ys.length) H) := by
 intro pins s σ H xs us Q I r h
 obtain ⟨p, ys, rfl, hq, q⟩ := h
 obtain ⟨u, rfl, rx⟩ := ZEe r
 cases rx
 have hn := ZGH
 rcases hq with hq | hq
 ·obtain ⟨its, r', pl, hz⟩ := I.list hq
  have hlen := r'.length
  exact Calls.call_len_list pl.isList (by simp only [List.size_toArray] <;> omega) ⟨.int ys.length, H, I.tok _, ⟨s.toks + 1, by rw [List.size_toArray, hlen]⟩, q⟩
 ·obtain ⟨its, r', pl, hz⟩ := I.tuple hq
  have hlen := r'.length
  exact len_tuple pl (by simp only [List.size_toArray] <;> omega) ⟨.int ys.length, H, I.tok _, ⟨s.toks + 1, by rw [List.size_toArray, hlen]⟩, q⟩
theorem ZHD : ZBy X (.type "tuple") (fun xs H Q => ∃ p ys, xs = [.ref p] ∧ ((SqL X.K H p ys ∧ ∀ l, H l = none → Q (.ref l) (upd H l (.tup ys))) ∨ (SqT X.K H p ys ∧ Q (.ref p) H))) := by
 intro pins s σ H xs us Q I r h
 obtain ⟨p, ys, rfl, h⟩ := h
 obtain ⟨u, rfl, rx⟩ := ZEe r
 cases rx
 rcases h with ⟨hq, q⟩ | ⟨hq, q⟩
 ·obtain ⟨its, r', pl, hz⟩ := I.list hq
  have hlen := r'.length
  refine call_tuple_list pl.isList (fun h' kp => ?_) (by simp only [List.size_toArray] <;> omega)
  have I1 : Inv X pins σ H { s with heap := h' } := I.kept (t' := s.toks) kp
  have I2 : Inv X pins σ (upd H h'.objs.size (.tup ys)) { s with heap := h'.push { cls := .type "tuple", data := .seq its.toArray } } :=
   I1.laid (t' := s.toks) (fun b o e => Heap.get?_push_of_some _ e) (Nat.le_refl _) (show ZBw X.prog X.w _ _ _ (.tup ys) from ⟨⟨hz, fun _ => ⟨_, Heap.get?_push_size _ rfl, rfl, rfl⟩⟩, its, r', IsTup.new _ _⟩)
  exact ⟨.ref h'.objs.size, _, I2, rfl, q _ (I1.hok.fresh (Nat.le_refl _))⟩
 ·obtain ⟨its, r', pl, hz⟩ := I.tuple hq
  exact call_tuple_same pl ⟨.ref p, H, I, rfl, q⟩
def tyV (K : W.Frag) (T : String) (x : V) (H : Hp) : Prop := match x with
 | .str _ => T = "str"
 | .int _ => T = "int"
 | .ref p => (T = "list" ∧ ∃ xs, SqL K H p xs) ∨ (T = "tuple" ∧ ∃ o, K.lookup p = some o ∧ o.cls = .type "tuple" ∧ o.dict = none) ∨
  (T = "dict" ∧ ((∃ kvs, H p = some (.dK kvs)) ∨ ∃ kvs, H p = some (.dT kvs))) ∨ (T = "set" ∧ ∃ S n, H p = some (.set S n))
 | _ => False
theorem ZPI {pins : List (Addr × Obj)} {σ : St} {H : Hp} {s : Shared} {T : String} {x : V} {v : Value} (I : Inv X pins σ H s) (r : ZBi x v) (ty : tyV X.K T x H) :
  s.TypeIs v T ∧ ∀ a, v = .ref a → ∃ ob, s.heap.get? a = some ob ∧ ob.dict = none := by
 cases x with
 | str z =>
  obtain ⟨t, rfl⟩ := r
  cases (show T = "str" from ty)
  exact ⟨typeIs_str s z t, fun _ e => nomatch e⟩
 | int i =>
  obtain ⟨t, rfl⟩ := r
  cases (show T = "int" from ty)
  exact ⟨typeIs_int s i t, fun _ e => nomatch e⟩
 | ref p =>
  cases r
  rcases ty with ⟨rfl, xs, hq⟩ | ⟨rfl, o, hk, hc, hd⟩ | ⟨rfl, hk⟩ | ⟨rfl, S, n, hk⟩
  ·obtain ⟨its, _, pl, _⟩ := I.list hq
   refine ⟨pl.isList.typeIs, fun a e => ?_⟩
   cases e
   obtain ⟨o, n, e, c, hd, _⟩ := pl
   exact ⟨o, e, hd⟩
  ·refine ⟨⟨o, I.kIn p o hk, hc⟩, fun a e => ?_⟩
   cases e
   exact ⟨o, I.kIn _ o hk, hd⟩
  ·have z : ∃ o, s.heap.get? p = some o ∧ o.ExactDict := by
    rcases hk with ⟨kvs, hk⟩ | ⟨kvs, hk⟩
    ·obtain ⟨_, _, _, _, o, _, _, e, ex, _⟩ := I.hok p _ hk
     exact ⟨o, e, ex⟩
    ·obtain ⟨_, _, _, _, o, _, _, e, ex, _⟩ := I.hok p _ hk
     exact ⟨o, e, ex⟩
   obtain ⟨o, e, ex⟩ := z
   refine ⟨⟨o, e, ex.1⟩, fun a e2 => ?_⟩
   cases e2
   exact ⟨o, e, ex.2.1⟩
  ·obtain ⟨o, _, _, _, e, ex, _⟩ := I.hok p _ hk
   refine ⟨⟨o, e, ex.1⟩, fun a e2 => ?_⟩
   cases e2
   exact ⟨o, e, ex.2.1⟩
 | _ => exact False.elim ty
def tBM (K : W.Frag) (T : String) (r : V → List V → Hp → VK → Prop) (to : TE) (t : TA) : TE := fun σ H Q => to σ H fun x H1 => tyV K T x H1 ∧ t σ H1 fun xs H2 => r x xs H2 Q
variable {o e : Expr} {es : List Expr} {to : TE} {t : TA} {name : Str} {apos cpos : Pos} {T id : String} {r : V → List V → Hp → VK → Prop}
theorem ZQR (pa : PlainAttrs T) (slot : Slot T name id) (hty : typeOf (.builtin id) = pure (.type "method_descriptor")) (hm : MtR X id r) (ho : PE X o to) (ha : PA X (e :: es) t)
  (hbase : attributeBase o name X.env (eval o X.env) = eval o X.env := by rfl)
  (hfew : ((backTo cpos (starEach (e :: es) X.env)).all (fun x => !x.1) && (backToKw cpos (keywordEach [] X.env)).all (fun x => x.1.isSome)
   && decide ((e :: es).length + ([] : List Keyword).length + (if ([] : List Keyword).isEmpty then 0 else 1) < 30)) = true := by rfl)
  (hline : (apos.endLine == cpos.line) = true := by rfl) (hs : starEach (e :: es) X.env = (false, eval e X.env) :: starEach es X.env := by rfl) (hplain : (backTo cpos (starEach es X.env)).any (·.1) = false := by rfl) :
  PE X (.Call (.Attribute o name apos) (e :: es) [] cpos) (tBM X.K T r to t) := by
 intro pins s σ H Q I h
 refine wpAny_Call_method_late hbase hfew hline rfl (thn (ho pins s σ H _ I h) fun v s1 ⟨x, H1, I1, r1, ty, q1⟩ => ?_)
 obtain ⟨h1, h2⟩ := ZPI I1 r1 ty
 refine ⟨T, id, pa, slot, hty, h1, h2, ?_⟩
 have hA := ha cpos pins s1 σ H1 _ I1 q1
 rw [hs] at hA ⊢
 refine Calls.callWith_builtin (by show (false || (backTo cpos (starEach es X.env)).any (·.1)) = false; rw [hplain] <;> rfl) (Calls.evalArgs_plain ?_)
 exact thn hA fun us s2 ⟨vs, H2, I2, r2, q2⟩ => hm pins s2 σ H2 x vs v us Q I2 r1 r2 q2
/- xs.append(e), list.index on a module's tuple .. are MtR facts of 06m -/
end
def MtM (X : Cx) (id : String) (r : V → List V → Hp → VK → Prop) : Prop :=
 ∀ (pins : List (Addr × Obj)) (s : Shared) (σ : St) (H : Hp) (x : V) (xs : List V) (v : Value) (us : List Value) (Q : VK), Inv X pins σ H s → ZBi x v → ZBj xs us → r x xs H Q →
  wpAny (model X.prog X.w) X.A (call (.builtin id) (v :: us)) (EP X pins σ Q) X.xe s
theorem ZBj.one : ∀ {x : V} {us : List Value}, ZBj [x] us → ∃ u, us = [u] ∧ ZBi x u
 | _, _, .cons r .nil => ⟨_, rfl, r⟩
theorem ZBj.two : ∀ {x y : V} {us : List Value}, ZBj [x, y] us → ∃ u v, us = [u, v] ∧ ZBi x u ∧ ZBi y v
 | _, _, _, .cons r (.cons q .nil) => ⟨_, _, rfl, r, q⟩
section
variable {X : Cx} {pins : List (Addr × Obj)} {σ : St} {H : Hp} {s : Shared} {l b : Addr} {xs ys zs : List V}
theorem Inv.lset {its its' : List Value} {n : Nat} {f : Array Value → Array Value} {t' : Nat} (I : Inv X pins σ H s) (hH : H l = some (.lst xs))
  (e : s.heap.get? l = some { cls := .type "list", data := .seq its.toArray n }) (hf : f its.toArray = its'.toArray) (hv : ZBj ys its') (hz : ys.length ≤ sizeLine) :
  Inv X pins σ (upd H l (.lst ys)) { s with heap := s.heap.update l (Obj.mapSeq f), toks := t' } := by
 have q := PySem.IsL.update e f
 rw [hf] at q
 refine I.write (x := l) (e := l) (by rw [hH]; exact trivial) (.inl rfl) (fun b' u hb hu => (Heap.get?_update_other s.heap (Obj.mapSeq f) (Ne.symm hb)).trans hu) ⟨_, q⟩ ?_
 exact ⟨hz, its', _, hv, q⟩
theorem Inv.lnew {its : List Value} {t' : Nat} (I : Inv X pins σ H s) (hv : ZBj ys its) (hz : ys.length ≤ sizeLine) :
  Inv X pins σ (upd H s.heap.objs.size (.lst ys)) { s with heap := s.heap.push { cls := .type "list", data := .seq its.toArray }, toks := t' } :=
 I.laid (fun _ _ q => Heap.get?_push_of_some _ q) (Nat.le_refl _) ⟨hz, its, 0, hv, Heap.get?_push_size _ rfl⟩
theorem Inv.fresh (I : Inv X pins σ H s) : H s.heap.objs.size = none := I.hok.fresh (Nat.le_refl _)
theorem Inv.lstM (I : Inv X pins σ H s) (hH : H l = some (.lst xs)) : xs.length ≤ sizeLine ∧ ∃ (its : List Value) (n : Nat), ZBj xs its ∧ xs.length = its.length ∧ s.heap.get? l = some { cls := .type "list", data := .seq its.toArray n } := by
 obtain ⟨z, its, n, r, e⟩ := I.hok l _ hH
 exact ⟨z, its, n, r, r.length, e⟩
end
section
variable {X : Cx}
def ZI5 : V → List V → Hp → VK → Prop := fun x vs H Q => ∃ l xs y, x = .ref l ∧ vs = [y] ∧ H l = some (.lst xs) ∧ xs.length < sizeLine ∧ Q .non (upd H l (.lst (xs ++ [y])))
theorem ZE7 : MtM X "list.append" ZI5 := by
 intro pins s σ H x vs v us Q I rx rv h
 obtain ⟨l, xs, y, rfl, rfl, hH, hz, q⟩ := h
 cases rx
 obtain ⟨u, rfl, ru⟩ := rv.one
 obtain ⟨z, its, n, r, hl, e⟩ := I.lstM hH
 refine call_meets F.slot_list_append ⟨_, e, rfl⟩ F.entry_list_append (F.args_list_append_2 _ _) (PySem.list_append l its.toArray n u (by rw [List.size_toArray]; omega)) ⟨e, ?_⟩
 refine ⟨.non, _, I.lset (its' := its ++ [u]) hH e (by simp) (r.append (.cons ru .nil)) ?_, rfl, q⟩
 rw [List.length_append, List.length_singleton]
 omega
def ZPJ : R2 := fun x y H Q => ∃ l b xs zs, x = .ref l ∧ y = .ref b ∧ H l = some (.lst xs) ∧ H b = some (.lst zs) ∧ xs.length + zs.length ≤ sizeLine ∧ ∀ p, H p = none → Q (.ref p) (upd H p (.lst (xs ++ zs)))
theorem ZPK : OpR X (binaryOp .Add) ZPJ := by
 intro pins s σ H x y v u Q I rx ry h
 obtain ⟨l, b, xs, zs, rfl, rfl, hH, hB, hz, q⟩ := h
 cases rx
 cases ry
 obtain ⟨z, its, n, r, hl, e⟩ := I.lstM hH
 obtain ⟨z2, its2, n2, r2, hl2, e2⟩ := I.lstM hB
 refine PySem.P.add_list e e2 ?_ (by rw [List.size_toArray, List.size_toArray]; omega)
 have ea : its.toArray ++ its2.toArray = (its ++ its2).toArray := by simp
 rw [ea]
 exact ⟨.ref _, _, I.lnew (t' := s.toks) (r.append r2) (by rw [List.length_append]; omega), rfl, q _ I.fresh⟩
end
section
variable {prog : Program} {w : World} {A : Around} {E : Value → Shared → Prop} {s : Shared}
end
section
variable {X : Cx}
end
end L2
namespace Att
open PySem PySem.W PySem.Calls PyProof.Rows
theorem ZGN {P : Params} {h : Heap} : ∀ (ns : List Int) (vs : List Value), WellAll P h vs (ns.map WData.int) → IntsAre vs ns := by
 intro ns
 induction ns with
 | nil =>
  intro vs w
  rw [List.map_nil] at w
  cases w
  exact .nil
 | cons n ns ih =>
  intro vs w
  rw [List.map_cons] at w
  cases w with
  | cons a b =>
   cases a
   exact .cons _ _ (ih _ b)
theorem ZKW {l : OpenLaw} {n : Nat} (hn : l.most = some n) {P : Params} {h : Heap} {args : List WData} {vals : List Value}
  (hpre : l.row.toRowW.claim.pre args = true) (hwl : WellAll P h vals args) :
  ∃ a vs ns, vals = [Value.ref a] ∧ args = [WData.list (ns.map WData.int)] ∧ h.get? a = some { cls := .type "list", data := .seq vs.toArray } ∧ IntsAre vs ns ∧ ns.length ≤ n := by
 have hsh : WShape.hasAll [] args [.list .int] = true := (pre_splitW hpre).1
 have hc : l.pre.holds [] { args := args } = true := (pre_splitW hpre).2
 obtain ⟨d, r, rfl, h1, h2⟩ := hasAllW_cons hsh
 obtain rfl := hasAllW_nil h2
 obtain ⟨xs, rfl, h3⟩ := hasW_list h1
 obtain ⟨ns, rfl⟩ := items_int h3
 have hlen : ns.length ≤ n := by
  unfold OpenLaw.pre at hc
  have h4 : (WTm.not (.lt (.lit (.int (n : Int))) (.len (.arg 0)))).holds [] { args := [.list (ns.map .int)] } = true := by
   have h4 := (holds_andW hc).1
   rw [hn] at h4
   exact h4
  have h5 := condW_of h4 (w_not (w_lt w_lit (w_len_list (w_arg rfl))))
  rw [List.length_map] at h5
  refine Nat.le_of_not_lt fun q => ?_
  have q' : (n : Int) < ((ns.length : Nat) : Int) := by omega
  first
   | (rw [decide_eq_true q'] at h5; exact absurd h5 (by decide))
   | (simp at h5; omega)
 cases hwl with
 | cons w1 w2 =>
  cases w2
  cases w1 with
  | list ho hall => exact ⟨_, _, ns, rfl, rfl, ho, ZGN ns _ hall, hlen⟩
theorem ZKX (l : OpenLaw) (args : List WData) : l.row.toRowW.claim.post args (.bool true) args = true :=
 postW_of (r := l.row.toRowW) (X := (true == true))
  (show WShape.has [] (.bool true) .bool = true by first | rfl | decide | simp [WShape.has, WShape.arms, WShape.armsAll])
  (show (WTm.eq .res (.lit (.bool true))).value [] { args := args, res := some (.bool true), after := args } = some (.bool (true == true)) from w_eq_bool (w_res rfl) w_lit) rfl
theorem attach_call {l : OpenLaw} {n : Nat} {q : Program} {loose : List Str} {XP : (Str → Option Value) → Heap → Prop} {YP : World → Heap → Prop} {d : DefRec}
  (hn : l.most = some n) (hdf : d.params.defaults = [])
  (call : ∀ (w : World) (s₀ s₁ : Shared) (mg mb : Str → Option Value) (fa : Addr) (o : Obj) (pm cd doc : Value) (a : Addr) (vs : List Value) (ns : List Int),
   Ground q loose [] XP w s₀ mg mb s₁.heap → YP w s₁.heap →
   s₁.heap.get? fa = some o → o.data = .func (docDef d.name d.params d.body d.scope pm cd doc) → s₁.heap.CodeRec cd d.name → mg d.name = some (.ref fa) →
   s₁.heap.get? a = some { cls := .type "list", data := .seq vs.toArray } → IntsAre vs ns → ns.length ≤ n → s₁.gens = #[] →
   codeAny (model l.prog w) callerA (.call (.ref fa) ⟨[.ref a], []⟩) (fun r s' => r = .ok (.ret (.bool true)) ∧ OldK s₁.heap s'.heap ∧ s'.os = s₁.os ∧ AllBare s'.gens) s₁) :
  WalkO q loose XP YP l.row.toRowW d [] (fun f vs => PySem.call f vs) := by
 intro w s₀ s₁ mg mb G Y fa o pm cd doc dV kV ho hd hcd hD hmg hg args vals as hpre hlay hrd hwl hlo
 obtain rfl : dV = .none := Dflts.none hD hdf
 obtain rfl : kV = .none := Dflts.noKw hD
 obtain ⟨a, vs, ns, rfl, rfl, hobj, hints, hlen⟩ := ZKW hn hpre hwl
 refine enter_call (codeAny_mono (call w s₀ s₁ mg mb fa o pm cd doc a vs ns G Y ho (fd_plain hd) hcd hmg hobj hints hlen hg) fun r s' hq => ?_)
 obtain ⟨rfl, h2, h3, h4⟩ := hq
 exact ⟨.inl ⟨.bool true, .bool true, [], rfl, fun _ => rfl, .bool true, ZKX l _, fun _ => ⟨List.Pairwise.nil, fun _ hm => (nomatch hm)⟩⟩, h2, h3, h4⟩
section
variable {prog : Program} {w : World} {A : Around} {E : Value → Shared → Prop} {s : Shared} {K : Frag}
def ZQs (h : Heap) (L d : Addr) : List (Addr × Obj) := (List.range h.objs.size).filterMap fun a => if a = L ∨ a = d then none else (h.get? a).map fun o => (a, o)
end
end Att
namespace L2
open PySem PySem.Spec PyProof.Rows
theorem ZG0 : ∀ {vs : List Value} {ns : List Int}, IntsAre vs ns → ZBj (ns.map V.int) vs
 | _, _, .nil => .nil
 | _, _, .cons n t h => .cons ⟨t, rfl⟩ (ZG0 h)
def ZL2 (H : Hp) : Prop := ∀ b, H b = none ∨ ∃ o xs, H b = some (.frz o (.lst xs))
theorem ZL3 {P : Program} {w : World} {K : W.Frag} {mg mb : Str → Option Value} {CX : CXT} {k : Nat} {fa a : Addr} {fd : FuncData} {x : Str} {sp : Sp} {s₁ : Shared} {vs : List Value} {ns : List Int}
  (KX : K.In s₁.heap) (hns : s₁.heap.Ns mainGlobals mg) (hb : s₁.heap.Ns builtinsNs mb) (hbb : ∀ x : Str, x ≠ "__name__" → mb x = bootBuiltins x) (hlim : s₁.heap.NoLimit) (hg : s₁.gens = #[])
  (ha : s₁.heap.get? a = some { cls := .type "list", data := .seq vs.toArray }) (hi : IntsAre vs ns) (hl : ns.length ≤ sizeLine) (hr : Room k callerA)
  (F : ∀ base : Heap, K.In base → base.Ns mainGlobals mg → ZBh P w K mg base CX k fa fd [x] sp) (hbind : ∀ (s : Shared) (u : Value), BindsTo s fd ⟨[u], []⟩ [(x, u)])
  (hsp : ∀ H : Hp, ZL2 H → SqL K H a (ns.map V.int) → sp [.ref a] H (fun v _ => v = .bl true) fun _ _ _ => False)
  (hCX : ∀ H e s', CX [] H s₁ (fun _ _ _ => False) e s' → False) :
  codeAny (model P w) callerA (.call (.ref fa) ⟨[.ref a], []⟩) (fun r s' => r = .ok (.ret (.bool true)) ∧ OldK s₁.heap s'.heap ∧ s'.os = s₁.os ∧ AllBare s'.gens) s₁ := by
 have rv := ZG0 hi
 have lenV := hi.length
 -- from an abstract heap in which nothing but the script may be tracked
 have core : ∀ H : Hp, ZL2 H → SqL K H a (ns.map V.int) → HOk P w H s₁.heap → (∀ b, H b ≠ none → b = a) → (H a ≠ none → K.lookup a = none) →
   codeAny (model P w) callerA (.call (.ref fa) ⟨[.ref a], []⟩) (fun r s' => r = .ok (.ret (.bool true)) ∧ OldK s₁.heap s'.heap ∧ s'.os = s₁.os ∧ AllBare s'.gens) s₁ := by
  intro H hO hS hok hA hK
  have base_of : ∀ {b : Addr} {o : Obj}, s₁.heap.get? b = some o → H b = none → (ZEc s₁.heap H).get? b = some o := fun e n => ZLU e n
  have noA : ∀ {b : Addr} {o : Obj} {es : Array DictEntry} {ep : Nat}, s₁.heap.get? b = some o → o.data = .dict es ep → H b = none := fun {b o es ep} e d => by
   cases q : H b with
   | none => rfl
   | some u =>
    have e' : b = a := hA b (by rw [q]; simp)
    subst e'
    rw [ha] at e; cases e
    have d' : Data.seq vs.toArray _ = Data.dict es ep := d
    cases d'
  have nsK : ∀ {b : Addr} {m : Str → Option Value}, s₁.heap.Ns b m → (ZEc s₁.heap H).Ns b m := fun {b m} ⟨o, es, ep, e, d, r⟩ => ⟨o, es, ep, base_of e (noA e d), d, r⟩
  have hKb : K.In (ZEc s₁.heap H) := fun b o e => base_of (KX b o e) (by
   cases q : H b with
   | none => rfl
   | some u =>
    have e' : b = a := hA b (by rw [q]; simp)
    subst e'
    rw [hK (by rw [q]; simp)] at e; cases e)
  have hM : Mod K mg (ZEc s₁.heap H) := ⟨hKb, nsK hns, ⟨mb, nsK hb, hbb⟩, let ⟨mc, h1, h2⟩ := hlim; ⟨mc, nsK h1, h2⟩⟩
  have e0 : ZEK P w K mg (ZEc s₁.heap H) callerA [] s₁ H := ⟨rfl, hM, fun b o e => ZNI e, Nat.le_of_eq (ZKF _ _), trivial, fun b hb => absurd (show b ∈ ([] : List Addr) from hb) (by simp), hok, .of_eq hg⟩
  refine codeAny_mono ((F _ hKb (nsK hns)).run callerA [] s₁ H ⟨[.ref a], []⟩ [.ref a] [.ref a] _ _ hr e0 (hbind s₁ (.ref a)) (.cons rfl .nil) (hsp H hO hS)) fun r s' h => ?_
  cases r with
  | error e => exact (hCX H e s' h).elim
  | ok fl =>
   cases fl with
   | next => exact False.elim h
   | brk => exact False.elim h
   | cont => exact False.elim h
   | ret u =>
    obtain ⟨v, H', os, bare, un, hok', r', q⟩ := h
    have q' : v = .bl true := q
    subst q'
    obtain rfl : u = Value.bool true := r'
    refine ⟨rfl, OldK.of_keep fun b o e => ?_, os, bare⟩
    cases q : H b with
    | none => exact un.keep b o e q (by intro z; exact absurd (show b ∈ ([] : List Addr) from z) (by simp)) (by simp)
    | some u =>
     rcases hO b with z | ⟨ob, xs, z⟩
     ·rw [q] at z; cases z
     ·have z2 := un.frzs b ob _ z
      obtain ⟨e1, _⟩ := hok b _ z
      obtain ⟨e2, _⟩ := hok' b _ z2
      rw [e] at e1; cases e1
      exact e2
 cases hk : K.lookup a with
 | some o =>
  -- the script is one of the module's own objects
  have e := KX a o hk
  rw [ha] at e
  cases e
  refine core (fun _ => none) (fun _ => .inl rfl) (.inr ⟨_, vs.toArray, _, hk, rfl, rfl, rfl, by rw [List.size_toArray, lenV]; exact hl, by simpa using rv⟩) (fun b u z => by have z' : (none : Option HO) = some u := z; cases z') (fun b z => absurd rfl z) fun z => absurd rfl z
 | none =>
  refine core (fun b => if b = a then some (.frz { cls := .type "list", data := .seq vs.toArray } (.lst (ns.map V.int))) else none) (fun b => ?_) (.inl (.inr ⟨{ cls := .type "list", data := .seq vs.toArray }, if_pos rfl⟩)) (fun b u z => ?_) (fun b z => ?_) fun _ => hk
  ·by_cases hb : b = a
   ·exact .inr ⟨_, _, if_pos hb⟩
   ·exact .inl (if_neg hb)
  ·by_cases hb : b = a
   ·have z' := (if_pos hb).symm.trans z
    cases z'
    subst hb
    exact ⟨ha, by rw [List.length_map]; exact hl, vs, _, rv, ha⟩
   ·have z' := (if_neg hb).symm.trans z
    cases z'
  ·by_cases hb : b = a
   ·exact hb
   ·exact absurd (if_neg hb) z
theorem walk_of {l : PySem.W.OpenLaw} {n k : Nat} {q : Program} {loose : List Str} {XP : (Str → Option Value) → Heap → Prop} {YP : World → Heap → Prop} {d : DefRec} {K : Params → W.Frag} {CX : World → CXT} {sp : World → Sp} {x : Str}
  (hn : l.most = some n) (hn2 : n ≤ sizeLine) (hdf : d.params.defaults = []) (hr : Room k callerA)
  (hY : ∀ (w : World) (h : Heap), YP w h → (K w.params).In h)
  (F : ∀ (w : World) (mg : Str → Option Value) (fa : Addr) (h : Heap), (K w.params).In h → h.Ns mainGlobals mg → mg d.name = some (.ref fa) →
   ∃ fd : FuncData, (∀ (s : Shared) (u : Value), BindsTo s fd ⟨[u], []⟩ [(x, u)]) ∧
    ∀ base : Heap, (K w.params).In base → base.Ns mainGlobals mg → ZBh l.prog w (K w.params) mg base (CX w) k fa fd [x] (sp w))
  (hsp : ∀ (w : World) (H : Hp) (a : Addr) (ns : List Int), ns.length ≤ n → ZL2 H → SqL (K w.params) H a (ns.map V.int) → sp w [.ref a] H (fun v _ => v = .bl true) fun _ _ _ => False)
  (hCX : ∀ (w : World) (H : Hp) (s : Shared) (e : Value) (s' : Shared), CX w [] H s (fun _ _ _ => False) e s' → False) :
  PySem.W.WalkO q loose XP YP l.row.toRowW d [] (fun f vs => PySem.call f vs) := by
 refine Att.attach_call hn hdf fun w s₀ s₁ mg mb fa o pm cd doc a vs ns G Y ho hd hcd hmg hobj hints hlen hg => ?_
 have KX := hY w _ Y
 obtain ⟨fd, hb, hF⟩ := F w mg fa _ KX G.T.g hmg
 exact ZL3 KX G.T.g G.T.b G.T.builtins G.T.nolimit hg hobj hints (Nat.le_trans hlen hn2) hr hF hb (fun H hO hS => hsp w H a ns hlen hO hS) fun H e s' => hCX w H s₁ e s'
end L2
/- THE LAST THEOREM (shape; LID, My.* are yours):
 My.Adr: a structure of the addresses that your layer names (classes, functions); My.Txt K t: a structure (Prop) of the equations over K;
 My.txt_mk : {K} {implicit addresses ..} (e1 : nsIn K mainGlobals "law" = some (some (.ref f))) (e2 : K.lookup f = some ⟨oc, od, .func (fnOf "law" "law" params body scope dV kV doc pm an cdv ct), sl⟩) (e3 : codeIn K cdv "law" = true) .. : ∃ t, My.Txt K t
(the tactic k_is has no namespace: write k_is) -/
namespace L2
open PySem PySem.Spec PyProof.Rows
def ZDf (s : Stmt) (j : Nat) : Stmt := match s with
 | .ClassDef _ _ _ body _ _ _ _ _ _ _ => body.getD j (.Pass ⟨0, 0, 0, 0⟩)
 | _ => .Pass ⟨0, 0, 0, 0⟩
def ZCT (s : Stmt) : Arguments := match s with
 | .FunctionDef _ a _ _ _ _ _ _ _ _ => a
 | _ => { posonlyargs := [], args := [], vararg := none, kwonlyargs := [], kw_defaults := [], kwarg := none, defaults := [] }
def ZB9 (s : Stmt) : List Stmt := match s with
 | .FunctionDef _ _ b _ _ _ _ _ _ _ => b
 | _ => []
def ZBc (s : Stmt) : Scope := match s with
 | .FunctionDef _ _ _ _ _ _ sc _ _ _ => sc
 | _ => { kind := .function, names := [], isGenerator := false, isCoroutine := false }
abbrev CX0 : CXT := fun _ _ _ _ _ _ => False
abbrev E0 : XK := fun _ _ _ => False
theorem ZC3 {X : Cx} : ZCo CX0 X E0 := fun _ _ _ _ _ _ _ h => h.elim
structure Fun (K : W.Frag) (x qual : Str) (st : Stmt) (f : Addr) (fd : FuncData) : Prop where
 ex : ∃ (oc : Value) (od : Option Addr) (kV doc pm : Value) (an : Option Addr) (cdv ct : Value) (osl : Array (Option Value)),
  fd = W.fnOf x qual (ZCT st) (ZB9 st) (ZBc st) .none kV doc pm an cdv ct ∧ K.lookup f = some ⟨oc, od, .func fd, osl⟩ ∧ W.codeIn K cdv qual = true
 kp : W.keepIn K (.ref f) = true
section
variable {P : Program} {w : World} {K : W.Frag} {mg : Str → Option Value} {base : Heap}
theorem Fun.ok {x qual : Str} {st : Stmt} {f : Addr} {fd : FuncData} {N ps : List Str} {k : Nat} {sp : Sp} (F : Fun K x qual st f fd) (S : ZBl N ps (ZBc st)) (len : ∀ vs H Q E, sp vs H Q E → vs.length = ps.length)
  (hbody : ∀ (cdv : Value) (A : Around) (outer : List Env) (s : Shared) (H : Hp) (vs : List V) (Q : VK) (E : XK), Room k (A.deeper (envOfC qual (ZBc st) s.heap.objs.size f cdv)) → sp vs H Q E →
   ∃ t, PSs (ZE6 CX0 P w K mg base N qual (ZBc st) f cdv A outer s H E).nox (ZB9 st) t ∧ t { nx := fun _ H' => Q .non H', rt := Q } (start N vs) H) : ZBh P w K mg base CX0 (k + 1) f fd ps sp := by
 obtain ⟨oc, od, kV, doc, pm, an, cdv, ct, osl, rfl, lk, hcd⟩ := F.ex
 refine ZHU lk hcd S len fun A outer s H vs Q E hr hsp => ?_
 obtain ⟨t, h, q⟩ := hbody cdv A outer s H vs Q E hr hsp
 exact ⟨t, h.nox, q⟩
theorem Fun.binds {x qual : Str} {st : Stmt} {f : Addr} {fd : FuncData} {ps : List Str} (F : Fun K x qual st f fd)
  (h : ∀ (kV doc pm : Value) (an : Option Addr) (cdv ct : Value) (us : List Value), us.length = ps.length → bindArgs (W.fnOf x qual (ZCT st) (ZB9 st) (ZBc st) .none kV doc pm an cdv ct) ⟨us, []⟩ = pure (ps.zip us)) : ZBf K fd ps [] := by
 obtain ⟨oc, od, kV, doc, pm, an, cdv, ct, osl, rfl, lk, hcd⟩ := F.ex
 exact .all (h kV doc pm an cdv ct)
theorem fun_mk {x qual : Str} {st : Stmt} {f : Addr} {oc : Value} {od an : Option Addr} {osl : Array (Option Value)} {kV doc pm cdv ct : Value} (l : K.lookup f = some ⟨oc, od, .func (W.fnOf x qual (ZCT st) (ZB9 st) (ZBc st) .none kV doc pm an cdv ct), osl⟩)
 (c : W.codeIn K cdv qual = true) (k : W.keepIn K (.ref f) = true) : Fun K x qual st f (W.fnOf x qual (ZCT st) (ZB9 st) (ZBc st) .none kV doc pm an cdv ct) := ⟨⟨oc, od, kV, doc, pm, an, cdv, ct, osl, rfl, l, c⟩, k⟩
end
theorem ZFV {A : Around} {k : Nat} (hr : Room k A) : A.units + 1 < cLine := Nat.lt_of_le_of_lt (Nat.add_le_add_left (by decide : 1 ≤ 64) _) hr.units
section
variable {X : Cx}
theorem pv (i : Nat) {x : Str} {pos : Pos} (hN : X.N[i]? = some x := by rfl) (hv : Vis X.env.scope x := by first | exact Or.inl rfl | exact Or.inr (Or.inl rfl) | exact Or.inr (Or.inr rfl)) (hd : (x == ("__debug__" : Str)) = false := by decide)
 (hcd : (x == ("__classdict__" : Str)) = false := by decide) : PE X (.Name x pos) (ZJN i) := ZKH hN hv hd hcd
end
theorem ZCg {A B : Prop} (h : B) : if false = true then A else B := by
 rw [if_neg Bool.false_ne_true]
 exact h
theorem ZDR {A B : Prop} (h : A) : if true = true then A else B := by
 rw [if_pos rfl]
 exact h
def ZBd (H H' : Hp) : Prop := ∀ b o, H b = some o → H' b = some o
theorem ZBd.refl (H : Hp) : ZBd H H := fun _ _ h => h
theorem ZBd.trans {H H1 H2 : Hp} (a : ZBd H H1) (b : ZBd H1 H2) : ZBd H H2 := fun c o h => b c o (a c o h)
theorem ZBd.free {H H' : Hp} (e : ZBd H H') {l : Addr} (h : H' l = Option.none) : H l = Option.none := by
 cases q : H l with
 | none => rfl
 | some o =>
  rw [e l o q] at h
  cases h
theorem ZBd.seq {K : W.Frag} {H H' : Hp} {a : Addr} {xs : List V} (e : ZBd H H') (h : SqL K H a xs) : SqL K H' a xs := by
 rcases h with (h | ⟨o, h⟩) | h
 ·exact .inl (.inl (e _ _ h))
 ·exact .inl (.inr ⟨o, e _ _ h⟩)
 ·exact .inr h
end L2
namespace L2
open PySem PySem.Spec PyProof.Rows PySem.W
section
variable {c : Nat → Nat → Bool} {n : Nat}
end
section
variable {X : Cx}
theorem ZB0 : OpR X (binaryOp .Mult) (rI IntMulOk fun i j => .int (i * j)) := opI fun _ _ _ _ _ _ _ hc q => mul_int q hc
def ZFW (_ j : Int) : Prop := 0 < j ∧ j.natAbs.log2 < 9000
theorem ZEf : OpR X (binaryOp .FloorDiv) (rI ZFW fun i j => .int (i / j)) := opI fun i j _ _ _ _ _ hc q => by
 have h1 : (0 : Int) < j := hc.1
 exact floordiv_int (by omega) (by rw [Int.fdiv_eq_ediv_of_nonneg i (by omega)]; exact q) (.inl (PyProof.noPylong_of_log2 hc.2))
theorem ZFW.of {i j : Int} (h : 0 < j) {k : Nat} (h2 : j < 2 ^ k) (hk : k ≤ 9000) : ZFW i j := by
 refine ⟨h, ?_⟩
 have h3 : j.natAbs < 2 ^ k := by
  have e : ((j.natAbs : Nat) : Int) = j := by omega
  have e2 : ((2 ^ k : Nat) : Int) = (2 : Int) ^ k := by simp
  have : ((j.natAbs : Nat) : Int) < ((2 ^ k : Nat) : Int) := by rw [e, e2]; exact h2
  exact Int.ofNat_lt.mp this
 have h4 : j.natAbs.log2 < k := (Nat.log2_lt (by omega)).mpr h3
 omega
theorem ZQi {i j : Int} (h1 : -(2 ^ 64) < i) (h2 : i < 2 ^ 64) : IntMulOk i j := .of_left (intBits_le_64 h1 h2)
theorem ZQj {i j : Int} (h1 : -(2 ^ 64) < j) (h2 : j < 2 ^ 64) : IntMulOk i j := .of_right (intBits_le_64 h1 h2)
end
section
variable {X : Cx}
end
section
variable {X : Cx}
theorem ZGO : ∀ {bs : List Bool} {us : List Value}, ZBj (bs.map V.bl) us → ∀ (i : Nat) (v : Value), us[i]? = some v → ∃ b, bs[i]? = some b ∧ v = .bool b
 | [], _, .nil, i, v, h => by simp at h
 | b :: bs, _, .cons r t, 0, v, h => by
  simp at h; subst h
  exact ⟨b, rfl, r⟩
 | b :: bs, _, .cons r t, i + 1, v, h => by
  simpa using ZGO t i v (by simpa using h)
theorem ZL4 (hc : X.calm = true) : ZBy X (.builtin "all") (fun xs H Q => ∃ (p : Addr) (bs : List Bool), xs = [.ref p] ∧ SqL X.K H p (bs.map V.bl) ∧ Q (.bl (bs.all id)) H) := by
 intro pins s σ H xs us Q I r h
 obtain ⟨p, bs, rfl, hq, q⟩ := h
 cases r with
 | cons r1 r2 =>
 cases r2
 cases r1
 obtain ⟨its, rv, pl, hz⟩ := I.list hq
 have hl : s.heap.IsList p its.toArray := pl.isList
 have hlt : p < s.heap.objs.size := by obtain ⟨_, e, _⟩ := hl; exact Heap.lt_size e
 refine call_all_walk (wpAny_pyIter_list hl ?_)
 refine ⟨s.heap.objs.size, [s.heap.objs.size, p], [s.heap.objs.size], its.toArray.size, _, _, fun i => (bs[i]?).getD true, rfl, Walks.list (A := X.A.in1) (I.ok.hd hc) _ p (Nat.ne_of_lt hlt) its.toArray,
  ⟨⟨_, Heap.get?_push_size _ rfl, rfl, rfl⟩, hl.push _⟩, fun i v s' Q' E' hP hQ => ?_, fun h' tk hk => ?_⟩
 ·obtain ⟨b, e, rfl⟩ := ZGO rv i v (by simpa using hP)
  simp only [e, Option.getD_some] at hQ
  exact wpAny_truthy_bool hQ
 ·have e : ((List.range its.toArray.size).all fun i => (bs[i]?).getD true) = bs.all id := by
   have hl2 := rv.length
   rw [List.length_map] at hl2
   rw [List.size_toArray, ← hl2]; exact PyProof.Rows.LSm.range_all bs
  rw [e]
  refine ⟨.bl _, H, I.kept fun b x e => hk b x (fun hm => by rw [List.mem_singleton.mp hm] at e; exact Nat.lt_irrefl _ (Heap.lt_size e)) (Heap.get?_push_of_some _ e), rfl, q⟩
end
section
variable {X : Cx}
def ZL5 (K : W.Frag) : List V → Hp → VK → Prop := fun xs H Q => ∃ x n t b, xs = [x, .ty n] ∧ ZDQ K H x t ∧ W.kitOne K t (.type n) = some b ∧ Q (.bl b) H
theorem ZL6 : ZBy X (.builtin "isinstance") (ZL5 X.K) := by
 intro pins s σ H xs us Q I r h
 obtain ⟨x, n, t, b, rfl, ty, e, q⟩ := h
 obtain ⟨u, v, rfl, ru, rv⟩ := r.two
 obtain rfl : v = Value.type n := rv
 exact ZKT I ru ty e fun tk => ⟨.bl b, H, I.tok _, rfl, q⟩
end
section
variable {X : Cx}
end
theorem ZHE {l : List (Str × Addr)} {x : Str} {c : Addr} (h : (x, c) ∈ l) : ∃ d, l.lookup x = some d := by
 induction l with
 | nil => cases h
 | cons p r ih =>
  obtain ⟨y, d⟩ := p
  cases hx : x == y with
  | true => exact ⟨d, by simp [List.lookup_cons, hx]⟩
  | false =>
   have hr : (x, c) ∈ r := by
    rcases List.mem_cons.mp h with e | e
    ·cases e
     simp at hx
    ·exact e
   obtain ⟨d', e⟩ := ih hr
   exact ⟨d', by simp only [List.lookup_cons, hx]; exact e⟩
theorem ZD4 {env : Env} : ∀ (names : List (Str × NameKind)) (acc : List (Str × Addr)), (∀ y ∈ names, y.2 = NameKind.free → ∃ c, env.cells.lookup y.1 = some c) → (∀ p ∈ acc, env.cells.lookup p.1 = some p.2) →
  ∃ cl : List (Str × Addr), (forIn names acc fun (x : Str × NameKind) (r : List (Str × Addr)) => (match x with | (name, kind) => if (kind == NameKind.free) = true then (do let a ← cellOf env name; pure (ForInStep.yield ((name, a) :: r))) else pure (ForInStep.yield r) : Sem (ForInStep (List (Str × Addr))))) = pure cl
   ∧ (∀ p ∈ cl, env.cells.lookup p.1 = some p.2) ∧ (∀ p ∈ acc, p ∈ cl) ∧ ∀ y ∈ names, y.2 = NameKind.free → ∃ c, (y.1, c) ∈ cl
 | [], acc, _, ha => ⟨acc, by simp, ha, fun _ h => h, fun y h => by cases h⟩
 | (n, k) :: r, acc, h, ha => by
  by_cases hk : k = NameKind.free
  ·subst hk
   obtain ⟨c, hc⟩ := h (n, .free) List.mem_cons_self rfl
   obtain ⟨cl, e, h1, h2, h3⟩ := ZD4 r ((n, c) :: acc) (fun y hy => h y (List.mem_cons_of_mem _ hy)) (fun p hp => by
    rcases List.mem_cons.mp hp with rfl | hp
    ·exact hc
    ·exact ha p hp)
   refine ⟨cl, ?_, h1, fun p hp => h2 p (List.mem_cons_of_mem _ hp), fun y hy hf => ?_⟩
   ·rw [List.forIn_cons]
    simp only [beq_self_eq_true, if_true, cellOf, hc, pure_bind]
    exact e
   ·rcases List.mem_cons.mp hy with rfl | hy
    ·exact ⟨c, h2 _ List.mem_cons_self⟩
    ·exact h3 y hy hf
  ·obtain ⟨cl, e, h1, h2, h3⟩ := ZD4 r acc (fun y hy => h y (List.mem_cons_of_mem _ hy)) ha
   have hb : (k == NameKind.free) = false := by simpa using hk
   refine ⟨cl, ?_, h1, h2, fun y hy hf => ?_⟩
   ·rw [List.forIn_cons]
    simp only [hb, Bool.false_eq_true, if_false, pure_bind]
    exact e
   ·rcases List.mem_cons.mp hy with rfl | hy
    ·exact absurd hf hk
    ·exact h3 y hy hf
theorem ZJe {scope : Scope} {env : Env} (h : ∀ y ∈ scope.names, y.2 = NameKind.free → ∃ c, env.cells.lookup y.1 = some c) :
  ∃ cl, closureFor scope env = pure cl ∧ (∀ x c, cl.lookup x = some c → env.cells.lookup x = some c) ∧ ∀ y ∈ scope.names, y.2 = .free → ∃ c, cl.lookup y.1 = some c := by
 obtain ⟨cl, e, h1, _, h3⟩ := ZD4 scope.names [] h (fun p hp => by cases hp)
 refine ⟨cl, ?_, fun x c hx => h1 (x, c) (PySem.mem_of_lookup hx), fun y hy hf => ?_⟩
 ·simp only [closureFor]
  rw [e]
  rfl
 ·obtain ⟨c, hc⟩ := h3 y hy hf
  exact ZHE hc
theorem ZEW {env : Env} : ∀ (names : List (Str × NameKind)) (x : Str),
  (names.map fun (n, k) => if (k == NameKind.free && env.scope.kind == .function && env.kindOf n == some .cell) then (n, NameKind.cell) else (n, k)).lookup x =
   (names.lookup x).map fun k => if (k == NameKind.free && env.scope.kind == .function && env.kindOf x == some .cell) then NameKind.cell else k
 | [], _ => rfl
 | (n, k) :: r, x => by
  have ih := ZEW (env := env) r x
  show List.lookup x ((if (k == NameKind.free && env.scope.kind == .function && env.kindOf n == some .cell) = true then (n, NameKind.cell) else (n, k)) :: _) = _
  cases hx : x == n with
  | true =>
   have e : x = n := eq_of_beq hx
   subst e
   by_cases hc : (k == NameKind.free && env.scope.kind == .function && env.kindOf x == some .cell) = true
   ·rw [if_pos hc]
    simp only [List.lookup_cons, beq_self_eq_true, Option.map_some]
    rw [if_pos hc]
   ·rw [if_neg hc]
    simp only [List.lookup_cons, beq_self_eq_true, Option.map_some]
    rw [if_neg hc]
  | false =>
   by_cases hc : (k == NameKind.free && env.scope.kind == .function && env.kindOf n == some .cell) = true
   ·rw [if_pos hc]; simp only [List.lookup_cons, hx]; exact ih
   ·rw [if_neg hc]; simp only [List.lookup_cons, hx]; exact ih
structure ZKY (N : List Str) (sc : Scope) (own caps : List Str) (ks : List Nat) (scope : Scope) : Prop where
 kind : scope.kind = .function
 nocell : ∀ y ∈ scope.names, y.2 ≠ .cell
 names : ∀ y ∈ scope.names, y.2 = .local → scope.names.lookup y.1 = some .local
 free : ∀ y ∈ scope.names, y.2 = .free → sc.names.lookup y.1 = some .cell
 nd : (own ++ caps).Nodup
 cap : ks.map (fun k => N[k]?) = caps.map some
 fr : ∀ x ∈ caps, scope.names.lookup x = some .free
def ZCe (X : Cx) (N' : List Str) (scope : Scope) (cl : List (Str × Addr)) (C : Addr) (s₂ : Shared) (H₂ : Hp) (fp : List Addr) : Cx :=
 { X with N := N', s₀ := s₂, H₀ := H₂, env := compEnvC scope cl C X.env, outer := X.stack, stack := X.stack, ex := fp, fn := fun _ => false, pn := [], xe := fun _ _ => False }
def ZEg (own : Nat) (ks : List Nat) (σ : St) : St := List.replicate own none ++ ks.map fun k => (σ[k]?).join
section
variable {prog : Program} {w : World} {A : Around} {R : Result → Shared → Prop} {s : Shared}
theorem ZEh {elt target iter : Expr} {ifs : List Expr} {scope : Scope} {pos : Pos} {it acc : Value} {env : Env} (I : Nat → Shared → Prop)
  (turn : ∀ n s, I n s → wpAny (model prog w) A (pyNext it) (fun r s₁ => match r with
   | none => R (.ok .next) s₁
   | some v => wpAny (model prog w) A (letOwnedTupleGo target it v) (fun _ s₁' => wpAny (model prog w) A (assign target env v) (fun _ s₂ =>
    wpAny (model prog w) A (forIn ifs true fun c r => if r = true then do let ok ← isTrue c env (eval c env); pure (ForInStep.yield ok) else pure (ForInStep.yield r)) (fun ok s₃ =>
     if ok = true then wpAny (model prog w) A (eval elt env) (fun x s₄ =>
      wpAny (model prog w) A (call (.builtin "list.append") [acc, x]) (fun _ s₅ => ∃ m, m < n ∧ I m s₅) (notedBy (model prog w) A env fun e s' => R (.error e) s') s₄) (notedBy (model prog w) A env fun e s' => R (.error e) s') s₃
     else ∃ m, m < n ∧ I m s₃) (notedBy (model prog w) A env fun e s' => R (.error e) s') s₂) (notedBy (model prog w) A env fun e s' => R (.error e) s') s₁') (notedBy (model prog w) A env fun e s' => R (.error e) s') s₁) (notedBy (model prog w) A env fun e s' => R (.error e) s') s)
  (n : Nat) (h : I n s) :
  codeAny (model prog w) A (.compLoop (.ListComp elt [⟨target, iter, ifs, 0⟩] scope pos) 0 it acc env) R s := by
 refine codeAny_loop rfl I (fun n s hI => ?_) n h
 show wpAny _ A ((compTurn (.ListComp elt [⟨target, iter, ifs, 0⟩] scope pos) 0 it acc env).onRaise (fun x => do noteFrame x env; theTreesLotGoes x)) _ _ s
 refine wpAny_noted ?_
 rw [compTurn_list]
 refine wpAny_bind (wpAny_standAt (wpAny_bind (wpAny_mono (turn n s hI) (fun r s₁ h₁ => ?_) fun _ _ h' => h')))
 cases r with
 | none => exact wpAny_pure h₁
 | some v =>
  refine wpAny_bind (wpAny_mono h₁ (fun _ s₁' h₁' => ?_) fun _ _ h' => h')
  refine wpAny_bind (wpAny_mono h₁' (fun _ s₂ h₂ => wpAny_bind (wpAny_mono h₂ (fun ok s₃ h₃ => ?_) fun _ _ h' => h')) fun _ _ h' => h')
  cases ok with
  | false => exact wpAny_pure ⟨rfl, h₃⟩
  | true =>
   exact wpAny_bind (wpAny_bind (wpAny_mono h₃ (fun x s₄ h₄ => wpAny_bind (wpAny_mono h₄ (fun _ s₅ h₅ => wpAny_pure (wpAny_pure ⟨rfl, h₅⟩)) fun _ _ h' => h')) fun _ _ h' => h'))
end
def ZJf (X : Cx) (ifs : List Expr) (t : TT) : Prop :=
 ∀ (pins : List (Addr × Obj)) (s : Shared) (σ : St) (H : Hp) (Q : Bool → Hp → Prop), Inv X pins σ H s → t σ H Q →
  wpAny (model X.prog X.w) X.A (forIn ifs true fun c r => if r = true then do let ok ← isTrue c X.env (eval c X.env); pure (ForInStep.yield ok) else pure (ForInStep.yield r)) (TP X pins σ Q) X.xe s
def ZJg : TT := fun _ H Q => Q true H
section
variable {X : Cx}
theorem ZL7 : ZJf X [] ZJg := fun _ _ _ H _ I h => wpAny_tests_nil ⟨H, I, h⟩
theorem ZL8 {c : Expr} {t : TT} (hc : PT X c t) : ZJf X [c] t := fun pins s σ H Q I h => wpAny_tests_one (hc pins s σ H Q I h)
def ZJh (own : Nat) (ks : List Nat) (wi : TI) (g : TG) (tt : TT) (te : TE) : TE := fun σ H Q => wi σ H fun J H1 => ∀ l, H1 l = none →
 ∃ W : Nat → Nat → St → Hp → Prop, (∃ m, W 0 m (ZEg own ks σ) (upd H1 l (.lst []))) ∧ ∀ i m σ' H', W i m σ' H' →
  (J.stop i H' ∧ Q (.ref l) H') ∨ (J.go i H' ∧ ∃ N : St → Hp → Prop, (∀ σ2 H2, N σ2 H2 → ∃ m', m' < m ∧ W (i + 1) m' σ2 H2) ∧
   ∀ x H'', J.yld i H' x H'' → g x σ' H'' fun σ2 H2 => tt σ2 H2 fun b H3 =>
    if b = true then te σ2 H3 fun v H4 => ∃ xs, H4 l = some (.lst xs) ∧ xs.length < sizeLine ∧ N σ2 (upd H4 l (.lst (xs ++ [v]))) else N σ2 H3)
theorem ZKZ {α : Type} {o : Option (Option α)} {v : α} (h : o.join = some v) : o = some (some v) := by
 cases o with
 | none => cases h
 | some x => exact congrArg some h
theorem ZNh {N : List Str} {sc : Scope} {own caps : List Str} {ks : List Nat} {elt tg iter : Expr} {ifs : List Expr} {scope : Scope} {pos : Pos} {wi : TI} {g : TG} {tt : TT} {te : TE}
  (hN : X.N = N) (hsc : X.env.scope = sc) (hc : X.calm = true) (S : ZKY N sc own caps ks scope) (hi : PI X tg iter wi)
  (hg : ∀ cl C s₂ H₂ fp, PG (ZCe X (own ++ caps) scope cl C s₂ H₂ fp) tg g)
  (ht : ∀ cl C s₂ H₂ fp, ZJf (ZCe X (own ++ caps) scope cl C s₂ H₂ fp) ifs tt)
  (he : ∀ cl C s₂ H₂ fp, PE (ZCe X (own ++ caps) scope cl C s₂ H₂ fp) elt te)
  (hs : ∀ x, foldedSetIterable iter X.env x = pure x := by intro _; rfl) :
  PE X (.ListComp elt [⟨tg, iter, ifs, 0⟩] scope pos) (ZJh own.length ks wi g tt te) := by
 intro pins s σ H Q I h
 subst hN hsc
 rw [eval_ListComp]
 obtain ⟨cl, hclos, hcl, hclf⟩ := ZJe (scope := scope) (env := X.env) fun y hy hf => I.ok.has y.1 (.inl (S.free y hy hf))
 refine wpAny_comprehension_free (use := none) rfl hs hclos S.kind S.names (wpAny_mono (hi pins s σ H _ I h) (fun xv s₁ h₁ => wpAny_mono h₁ (fun it s₂ h₂ => ?_) fun _ _ e => e) fun _ _ e => e)
 obtain ⟨it, fp, tn, J, H2, e, I2, T, st2, f2, q⟩ := h₂
 subst e
 refine wpAny_newObj_type (wpAny_newFunctionEnv S.nocell (by intro y hy; simp at hy) (fun h₁ hns₁ hsb₁ => ?_) S.kind)
 dsimp only at hns₁ hsb₁ ⊢
 generalize hH2 : s₂.heap.push { cls := .type "list", dict := none, data := .seq ([] : List Value).toArray } = HP at hns₁ hsb₁ ⊢
 have hC : HP.objs.size = s₂.heap.objs.size + 1 := by rw [← hH2, Heap.size_push]
 have hDC : s₂.heap.objs.size ≠ HP.objs.size := by rw [hC]; exact Nat.ne_of_lt (Nat.lt_succ_self _)
 have hCle : s₂.heap.objs.size ≤ HP.objs.size := by rw [hC]; exact Nat.le_succ _
 have old : ∀ b o, s₂.heap.get? b = some o → h₁.get? b = some o := fun b o e => by
  have hb : b < s₂.heap.objs.size := Heap.lt_size e
  exact hsb₁.extBut b o (by rw [hC]; exact Nat.ne_of_lt (Nat.lt_succ_of_lt hb)) (Heap.get?_push_of_some _ (hH2 ▸ Heap.get?_push_of_some _ e))
 have hacc : h₁.get? s₂.heap.objs.size = some { cls := .type "list", dict := none, data := .seq ([] : List Value).toArray } := hsb₁.extBut _ _ hDC (Heap.get?_push_of_some _ (hH2 ▸ Heap.get?_push_size _ rfl))
 have fpl : ∀ b ∈ fp, b < s₂.heap.objs.size := fun b hb => by
  obtain ⟨o, e, _⟩ := T.obj _ _ st2 b hb
  exact Heap.lt_size e
 have hfD : H2 s₂.heap.objs.size = none := I2.hok.fresh (Nat.le_refl _)
 obtain ⟨W, ⟨m0, w0⟩, turn⟩ := q s₂.heap.objs.size hfD
 have hkr : ∀ x, (compEnvC scope cl HP.objs.size X.env).kindOf x = (scope.names.lookup x).map fun k => if (k == NameKind.free && X.env.scope.kind == .function && X.env.kindOf x == some .cell) then NameKind.cell else k := fun x => ZEW (env := X.env) scope.names x
 have cellOfN : ∀ x, scope.names.lookup x = some .free → X.env.kindOf x = some .cell := fun x e => S.free (x, .free) (PySem.mem_of_lookup e) rfl
 -- the context within
 have ok : (ZCe X (own ++ caps) scope cl HP.objs.size s₂ H2 fp).Ok := by
  refine ⟨I2.ok.mod, S.kind, I2.ok.glob, I2.ok.blt, hCle, fun x y c e1 e2 => I2.ok.inj x y c (hcl x c e1) (hcl y c e2), fun x hx => ?_, fun x c z => (by cases z), I2.ok.hd, I2.ok.frames, .inl rfl, fun b hb => ⟨?_, fun x c e => (f2 b hb).2.2.2.2.1 x c (hcl x c e)⟩,
   I2.bs, Nat.le_trans I2.ok.bsz I2.sz, fun b o e hb => ?_, fun b hb z => ?_, I2.stack, I2.stkFree⟩
  ·have hx' : (scope.names.lookup x).map (fun k => if (k == NameKind.free && X.env.scope.kind == .function && X.env.kindOf x == some .cell) then NameKind.cell else k) = some .cell ∨
     (scope.names.lookup x).map (fun k => if (k == NameKind.free && X.env.scope.kind == .function && X.env.kindOf x == some .cell) then NameKind.cell else k) = some .free := by rw [← hkr x]; exact hx
   cases e : scope.names.lookup x with
   | none => rw [e] at hx'; rcases hx' with z | z <;> cases z
   | some k =>
    have hm := PySem.mem_of_lookup e
    have hk : k = .free := by
     by_cases hkf : k = .free
     ·exact hkf
     ·have hb : (k == NameKind.free) = false := by simpa using hkf
      rw [e] at hx'
      simp only [Option.map_some, hb, Bool.false_and, Bool.false_eq_true, if_false, Option.some.injEq] at hx'
      rcases hx' with z | z
      ·exact absurd z (S.nocell _ hm)
      ·exact z
    exact hclf _ hm hk
  ·exact Nat.ne_of_lt (Nat.lt_of_lt_of_le (fpl b hb) hCle)
  ·rcases (f2 b hb).2.2.2.1 with z | z
   ·exact I2.ok.noex b o e z
   ·exact absurd (Nat.lt_of_lt_of_le (Heap.lt_size e) (Nat.le_trans I2.ok.bsz z)) (Nat.lt_irrefl _)
  ·rcases List.mem_cons.mp (I2.stkSub b z) with r | r
   ·exact (f2 b hb).2.1 r
   ·exact (f2 b hb).2.2.1 r
 have hlen : (ZEg own.length ks σ).length = (own ++ caps).length := by
  have := congrArg List.length S.cap
  simp only [List.length_map] at this
  simp [ZEg, this]
 have I4 : Inv (ZCe X (own ++ caps) scope cl HP.objs.size s₂ H2 fp) [] (ZEg own.length ks σ) (upd H2 s₂.heap.objs.size (.lst [])) { s₂ with heap := h₁, toks := s₂.toks + ([] : List (Str × Value)).length } := by
  obtain ⟨mX, hnX, hlX⟩ := I2.loc
  refine ⟨ok, rfl, I2.bare, Un.laid old (Nat.le_refl _) hfD, ⟨_, hns₁, fun i x v e1 e2 e3 => ?_⟩, fun x c e => ?_, ?_, fun x c e => ?_, fun p hp => (by cases hp), I2.hok.laid old (Nat.le_refl _) ⟨Nat.zero_le _, [], 0, .nil, hacc⟩, hlen⟩
  ·have e1 : (own ++ caps)[i]? = some x := e1
   by_cases hio : i < own.length
   ·unfold ZEg at e2
    rw [List.getElem?_append_left (by simpa using hio), List.getElem?_replicate] at e2
    rw [if_pos hio] at e2
    cases e2
   ·unfold ZEg at e2
    rw [List.getElem?_append_right (by simpa using hio), List.length_replicate, List.getElem?_map] at e2
    rw [List.getElem?_append_right (by simpa using hio)] at e1
    cases ek : ks[i - own.length]? with
    | none => rw [ek] at e2; cases e2
    | some k =>
     rw [ek] at e2
     have e2' := ZKZ (Option.some.inj e2)
     have hcap := congrArg (fun l => l[i - own.length]?) S.cap
     simp only [List.getElem?_map, ek, e1, Option.map_some] at hcap
     have hNk : X.N[k]? = some x := Option.some.inj hcap
     have hfx := S.fr x (List.mem_of_getElem? e1)
     have hkX := cellOfN x hfx
     obtain ⟨u, ru, lk⟩ := hlX k x v hNk e2' (.inr (.inl hkX))
     refine ⟨u, ru, .inr ⟨.inl ?_, ?_⟩⟩
     ·show (compEnvC scope cl HP.objs.size X.env).kindOf x = some .cell
      rw [hkr x, hfx]
      simp [I2.ok.kind, hkX]
     ·rcases lk with ⟨z, _⟩ | ⟨_, c, ec, o, ho, hd⟩
      ·rw [hkX] at z; cases z
      ·obtain ⟨c', ec'⟩ := hclf (x, .free) (PySem.mem_of_lookup hfx) rfl
       have := hcl _ _ ec'
       rw [ec] at this
       cases this
       exact ⟨c, ec', o, old _ _ ho, hd⟩
  ·obtain ⟨v, o, ho, hd⟩ := I2.cell x c (hcl x c e)
   exact ⟨v, o, old _ _ ho, hd⟩
  ·show upd H2 s₂.heap.objs.size (.lst []) HP.objs.size = none
   rw [ZBn (Ne.symm hDC)]
   exact I2.hok.fresh hCle
  ·obtain ⟨v, o, ho, hd⟩ := I2.cell x c (hcl x c e)
   show upd H2 s₂.heap.objs.size (.lst []) c = none
   rw [ZBn (Nat.ne_of_lt (Heap.lt_size ho))]
   exact I2.freeC x c (hcl x c e)
 -- the way out
 have out : ∀ {σ' : St} {H' : Hp} {s' : Shared}, Inv (ZCe X (own ++ caps) scope cl HP.objs.size s₂ H2 fp) [] σ' H' s' → Q (.ref s₂.heap.objs.size) H' →
   ∃ m, s'.heap.Ns HP.objs.size m ∧ ∀ h', Heap.SameBut HP.objs.size s'.heap h' → EP X pins σ Q (.ref s₂.heap.objs.size) { s' with heap := h' } := fun {σ' H' s'} I' q' => by
  obtain ⟨m, hn, _⟩ := I'.loc
  refine ⟨m, hn, fun h' hs' => ⟨.ref s₂.heap.objs.size, H', ?_, rfl, q'⟩⟩
  have hfree : H' HP.objs.size = none := I'.free
  have neC : ∀ {b : Addr} {o : Obj}, s₂.heap.get? b = some o → b ≠ HP.objs.size := fun e => Nat.ne_of_lt (Nat.lt_of_lt_of_le (Heap.lt_size e) hCle)
  refine I2.call' (ch := fp) (s' := { s' with heap := h' }) I'.os ⟨fun b o e n hb hx => ?_, fun b o e n hb hx => ?_, I'.base.free, fun b o e hx => ?_, I'.base.tups, I'.base.frzs, I'.base.tbls⟩ (fun b ob e => ?_) I'.bare fun b hb => ⟨(f2 b hb).2.2.2.1, (f2 b hb).2.1, (f2 b hb).2.2.2.2.1, (f2 b hb).2.2.2.2.2⟩
  ·exact (hs'.2 b (neC e)).trans (I'.base.keep b o e n hb hx)
  ·obtain ⟨sl, e1⟩ := I'.base.slot b o e n hb hx
   exact ⟨sl, (hs'.2 b (neC e)).trans e1⟩
  ·obtain ⟨o', e1⟩ := I'.base.there b o e hx
   exact ⟨o', (hs'.2 b (neC e)).trans e1⟩
  ·refine (I'.hok b ob e).stay (fun c w' hc q => (hs'.2 c ?_).trans q) (fun _ q => q) fun _ _ q => q
   rintro rfl
   rcases hc with rfl | hc
   ·rw [hfree] at e; cases e
   ·rw [hfree] at hc; cases hc
 have stat : ∀ {H' : Hp}, (∀ b ∈ fp, H' b = none) → ∀ b ∈ fp, ZC1 (ZCe X (own ++ caps) scope cl HP.objs.size s₂ H2 fp) [] H' b := fun hn b hb =>
  ⟨hn b hb, Nat.ne_of_lt (Nat.lt_of_lt_of_le (fpl b hb) hCle), ok.exfs b hb, .inl hb, (ok.exf b hb).2, fun p hp => by cases hp⟩
 have fr4 : ∀ b ∈ fp, upd H2 s₂.heap.objs.size (.lst []) b = none := fun b hb => by
  rw [ZBn (Nat.ne_of_lt (fpl b hb))]
  exact (f2 b hb).1
 have tn4 : tn 0 h₁ := T.keep _ _ _ st2 fun b _ o e => old b o e
 have loop : ∀ s4 : Shared, s4 = { s₂ with heap := h₁, toks := s₂.toks + ([] : List (Str × Value)).length } →
   codeAny (model X.prog X.w) X.A (.compLoop (.ListComp elt [⟨tg, iter, ifs, 0⟩] scope pos) 0 (.ref it) (.ref s₂.heap.objs.size) (compEnvC scope cl HP.objs.size X.env))
    (compPost (model X.prog X.w) X.A X.xe none (EP X pins σ Q) (.ref s₂.heap.objs.size) HP.objs.size) s4 := by
  rintro s4 rfl
  refine ZEh (fun n s' => ∃ i σ' H', Inv (ZCe X (own ++ caps) scope cl HP.objs.size s₂ H2 fp) [] σ' H' s' ∧ tn i s'.heap ∧ (∀ b ∈ fp, H' b = none) ∧ W i n σ' H') ?_ m0 ⟨0, _, _, I4, tn4, fr4, w0⟩
  rintro n s3 ⟨i, σ3, H3, I3, st3, fr3, w3⟩
  rcases turn i n σ3 H3 w3 with ⟨stop, qn⟩ | ⟨go, N, hN, step⟩
  ·refine wpAny_mono (T.done (ZCe X (own ++ caps) scope cl HP.objs.size s₂ H2 fp) rfl rfl rfl hc i [] s3 σ3 H3 (fun _ _ => False) I3 (stat fr3) st3 stop) (fun r s4 ⟨hr, I4'⟩ => ?_) fun _ _ z => False.elim z
   subst hr
   exact out I4' qn
  ·refine wpAny_mono (T.item (ZCe X (own ++ caps) scope cl HP.objs.size s₂ H2 fp) rfl rfl rfl hc i [] s3 σ3 H3 (fun _ _ => False) I3 (stat fr3) st3 go) (fun r s4 ⟨u, hr, h4⟩ => ?_) fun _ _ z => False.elim z
   subst hr
   refine wpAny_mono h4 (fun _ s5 ⟨x, H5, I5, r5, y5, st5, fr5⟩ => ?_) fun _ _ z => False.elim z
   have I5' := I5.pinned (stat fr5) (T.obj _ _ st5)
   have back : ∀ {s7 : Shared} {σ7 : St} {H7 : Hp}, Inv (ZCe X (own ++ caps) scope cl HP.objs.size s₂ H2 fp) ([] ++ ZE3 fp s5.heap) σ7 H7 s7 → N σ7 H7 →
     ∃ m, m < n ∧ ∃ i σ' H', Inv (ZCe X (own ++ caps) scope cl HP.objs.size s₂ H2 fp) [] σ' H' s7 ∧ tn i s7.heap ∧ (∀ b ∈ fp, H' b = none) ∧ W i m σ' H' := fun {s7 σ7 H7} I7 n7 => by
    obtain ⟨m', hm, w7⟩ := hN σ7 H7 n7
    refine ⟨m', hm, i + 1, σ7, H7, I7.unpinned, T.keep _ _ _ st5 fun b hb o e => (I7.pin (b, o) (List.mem_append_right _ (List.mem_append_right _ (ZDv hb e)))).1, fun b hb => ?_, w7⟩
    obtain ⟨o, e, d⟩ := T.obj _ _ st5 b hb
    exact (I7.pin (b, o) (List.mem_append_right _ (List.mem_append_right _ (ZDv hb e)))).2.1
   refine wpAny_mono (hg _ _ _ _ _ _ s5 σ3 H5 x u _ I5' r5 (step x H5 y5)) (fun _ s6 ⟨σ6, H6, I6, q6⟩ => ?_) fun _ _ z => False.elim z
   refine wpAny_mono (ht _ _ _ _ _ _ s6 σ6 H6 _ I6 q6) (fun b s7 ⟨H7, I7, q7⟩ => ?_) fun _ _ z => False.elim z
   cases b with
   | false =>
    rw [if_neg Bool.false_ne_true]
    rw [if_neg Bool.false_ne_true] at q7
    exact back I7 q7
   | true =>
    rw [if_pos rfl]
    rw [if_pos rfl] at q7
    refine wpAny_mono (he _ _ _ _ _ _ s7 σ6 H7 _ I7 q7) (fun y s8 ⟨v, H8, I8, r8, xs, hx8, hz8, n8⟩ => ?_) fun _ _ z => False.elim z
    refine wpAny_mono (ZE7 (X := ZCe X (own ++ caps) scope cl HP.objs.size s₂ H2 fp) _ s8 σ6 H8 (.ref s₂.heap.objs.size) [v] (.ref s₂.heap.objs.size) [y] (fun _ H' => N σ6 H') I8 rfl (.cons r8 .nil) ⟨_, xs, v, rfl, rfl, hx8, hz8, n8⟩) (fun _ s9 ⟨_, H9, I9, _, n9⟩ => ?_) fun _ _ z => False.elim z
    exact back I9 n9
 exact codeAny_compStart_list (loop _ rfl) (T.self _ 0 _ _ _ tn4 (loop _ rfl))
end
theorem ZHj : bootBuiltins "int" = some (.type "int") := by decide +kernel
theorem ZNi : bootBuiltins "bool" = some (.type "bool") := by decide +kernel
theorem ZPL : bootBuiltins "str" = some (.type "str") := by decide +kernel
theorem ZD5 : bootBuiltins "tuple" = some (.type "tuple") := by decide +kernel
theorem ZNj : bootBuiltins "list" = some (.type "list") := by decide +kernel
theorem ZE8 : bootBuiltins "len" = some (.builtin "len") := by decide +kernel
theorem ZKa : bootBuiltins "abs" = some (.builtin "abs") := by decide +kernel
theorem ZKb : bootBuiltins "max" = some (.builtin "max") := by decide +kernel
theorem ZGP : bootBuiltins "min" = some (.builtin "min") := by decide +kernel
theorem ZPM : bootBuiltins "all" = some (.builtin "all") := by decide +kernel
theorem ZG1 : bootBuiltins "sorted" = some (.builtin "sorted") := by decide +kernel
theorem ZDG : bootBuiltins "isinstance" = some (.builtin "isinstance") := by decide +kernel
def ZDS : Expr → Bool
 | .Starred _ _ => true
 | _ => false
def ZCA (es : List Expr) : Bool := es.all fun e => !ZDS e
theorem ZDl {e : Expr} {es : List Expr} {env : Env} (h : ZDS e = false) : starEach (e :: es) env = (false, eval e env) :: starEach es env := by
 cases e <;> first | rfl | cases h
theorem ZC9 {e : Expr} {es : List Expr} {env : Env} (h : ZCA (e :: es) = true) : starEach (e :: es) env = (false, eval e env) :: starEach es env := by
 refine ZDl ?_
 unfold ZCA at h
 rw [List.all_cons, Bool.and_eq_true] at h
 simpa using h.1
theorem ZCv {pos : Pos} {env : Env} : ∀ {es : List Expr}, ZCA es = true → (backTo pos (starEach es env)).any (·.1) = false
 | [], _ => rfl
 | e :: es, h => by
  rw [ZC9 h]
  have h2 : ZCA es = true := by
   unfold ZCA at h ⊢
   rw [List.all_cons, Bool.and_eq_true] at h
   exact h.2
  exact ZCv h2
theorem ZCu {e : Expr} {es : List Expr} (h : ZCA (e :: es) = true) : ZCA es = true := by
 unfold ZCA at h ⊢
 rw [List.all_cons, Bool.and_eq_true] at h
 exact h.2
section
variable {X : Cx} {CX : CXT} {k : Nat} {f : Addr} {fd : FuncData} {ps : List Str} {sp : Sp} {dvs : List V} {ds : List Value} {E : XK} {x : Str} {p pos : Pos} {e : Expr} {es : List Expr} {te : TE} {t : TA} {id T : String} {r : List V → Hp → VK → Prop}
theorem ZQk (ha : PE X e te) (hr : PA X es t) (hs : ZDS e = false := by rfl) : PA X (e :: es) (ZHT te t) := ZNb ha hr (ZDl hs)
theorem ZL9 (F : ZBh X.prog X.w X.K X.mg X.base CX k f fd ps sp) (hr : Room k X.A) (hg : Gl X x) (hm : X.mg x = some (.ref f)) (hk : W.keepIn X.K (.ref f) = true) (hb : ZBf X.K fd ps ds) (hd : ZBj dvs ds) (hx : ZCo CX X E)
  (ha : PA X (e :: es) t) (hns : ZCA (e :: es) = true := by rfl) (hdb : (x == ("__debug__" : Str)) = false := by decide) : PE X (.Call (.Name x p) (e :: es) [] pos) (ZGL sp dvs E t) :=
 ZNc F hr hg hm hk hb hd hx ha hdb (ZC9 hns) (ZCv (ZCu hns))
theorem ZKc (hc : ZBy X (.builtin id) r) (hg : Gl X x) (hm : X.mg x = none) (hv : bootBuiltins x = some (.builtin id)) (ha : PA X (e :: es) t) (hns : ZCA (e :: es) = true := by rfl) (hn : x ≠ "__name__" := by decide) (hdb : (x == ("__debug__" : Str)) = false := by decide) :
 PE X (.Call (.Name x p) (e :: es) [] pos) (tCB r t) := ZLz hc hg hm hv ha hn hdb (ZC9 hns) (ZCv (ZCu hns))
theorem ZJi (hc : ZBy X (.type T) r) (hg : Gl X x) (hm : X.mg x = none) (hv : bootBuiltins x = some (.type T)) (ha : PA X (e :: es) t) (hns : ZCA (e :: es) = true := by rfl) (hn : x ≠ "__name__" := by decide) (hdb : (x == ("__debug__" : Str)) = false := by decide) :
 PE X (.Call (.Name x p) (e :: es) [] pos) (tCB r t) := ZKV hc hg hm hv ha hn hdb (ZC9 hns) (ZCv (ZCu hns))
end
def ZCz : Expr → Bool
 | .ListComp _ _ _ _ => true
 | .SetComp _ _ _ _ => true
 | .DictComp _ _ _ _ _ => true
 | _ => false
theorem ZDg {e : Expr} {tg : Option Expr} {n : Nat} {env : Env} (h : ZCz e = false) : swapsWith e tg n env = pure false := by
 cases e <;> first | rfl | cases h
section
variable {X : Cx} {e : Expr} {te : TE} {pos : Pos}
theorem ZMA (he : PE X e te) (hs : ZCz e = false := by rfl) : PS X (.Expr e pos) (ZHR te) := ZNP he (ZDg hs)
theorem ZNk {i : Nat} {x : Str} {pos' : Pos} (hN : X.N.Nodup) (hi : X.N[i]? = some x) (hx : Loc X.env.scope x) (he : PE X e te) (hs : ZCz e = false := by rfl) (hf : X.fn x = true ∨ X.env.scope.names.lookup x = some .local := by first | exact .inl rfl | exact .inr rfl | assumption) :
 PS X (.Assign [.Name x pos'] e pos) (ZFr te (ZEG i)) := ZO3 hN hi hx he (ZDg hs) hf
end
def ZJj (K : W.Frag) : List V → Hp → VK → Prop := fun xs H Q => ∃ p ys, xs = [.ref p] ∧ (SqL K H p ys ∨ SqT K H p ys) ∧ Q (.int ys.length) H
def ZM6 : List V → Hp → VK → Prop := fun xs H Q => (∃ i, xs = [.int i] ∧ Q (.int i) H) ∨ ∃ k, xs = [.bl k] ∧ Q (.int (if k then 1 else 0)) H
def ZPN : List V → Hp → VK → Prop := fun xs H Q => ∃ i, xs = [.int i] ∧ Q (.int (if i < 0 then -i else i)) H
def ZPO : List V → Hp → VK → Prop := fun xs H Q => ∃ i j, xs = [.int i, .int j] ∧ Q (.int (if j > i then j else i)) H
def ZPP : List V → Hp → VK → Prop := fun xs H Q => ∃ i j, xs = [.int i, .int j] ∧ Q (.int (if j < i then j else i)) H
def ZMB (K : W.Frag) : List V → Hp → VK → Prop := fun xs H Q => ∃ (p : Addr) (bs : List Bool), xs = [.ref p] ∧ SqL K H p (bs.map V.bl) ∧ Q (.bl (bs.all id)) H
def ZHk (K : W.Frag) : List V → Hp → VK → Prop := fun xs H Q => ∃ p ys, xs = [.ref p] ∧ ((SqL K H p ys ∧ ∀ l, H l = none → Q (.ref l) (upd H l (.tup ys))) ∨ (SqT K H p ys ∧ Q (.ref p) H))
def ZPQ : R2 := fun x y H Q => y = .non ∧ Q (.bl (decide (x = .non))) H
def ZM7 : R2 := fun x y H Q => y = .non ∧ Q (.bl (!decide (x = .non))) H
section
variable {X : Cx}
theorem ZPR : ZBy X (.builtin "len") (ZJj X.K) := ZHi
theorem ZKd : ZBy X (.type "int") ZM6 := ZKP
theorem ZKe : ZBy X (.builtin "abs") ZPN := ZLq
theorem ZPS (hc : X.calm = true) : ZBy X (.builtin "max") ZPO := ZKN hc
theorem ZHl (hc : X.calm = true) : ZBy X (.builtin "min") ZPP := ZKO hc
theorem ZPT (hc : X.calm = true) : ZBy X (.builtin "all") (ZMB X.K) := ZL4 hc
theorem ZMC : ZBy X (.type "tuple") (ZHk X.K) := ZHD
theorem ZKf : OpR X (compareOp .Is) ZPQ := ZO9
theorem ZI6 : OpR X (compareOp .IsNot) ZM7 := ZNV
end
section
variable {K : W.Frag} {σ : St} {H : Hp} {Q : VK} {D : ZCK}
theorem ZPU {t u : TS} (h : t { D with nx := u D } σ H) : ZLY t u D σ H := h
theorem ZPV {te : TE} (h : te σ H D.rt) : ZLa te D σ H := h
theorem ZNl {te : TE} (h : te σ H fun _ H1 => D.nx σ H1) : ZHR te D σ H := h
theorem ZNm (h : D.nx σ H) : ZJQ D σ H := h
theorem ZPW {te : TE} {g : TG} (h : te σ H fun x H1 => g x σ H1 D.nx) : ZFr te g D σ H := h
theorem ZMD {i : Nat} {v : V} {R : St → Hp → Prop} (h : R (σ.set i (some v)) H) : ZEG i v σ H R := h
theorem ZNn {R : St → Hp → Prop} (h : R σ H) : ZLd [] σ H R := ⟨rfl, h⟩
theorem ZME {t : TG} {u : TGs} {v : V} {r : List V} {R : St → Hp → Prop} (h : t v σ H fun σ' H' => u r σ' H' R) : ZJR t u (v :: r) σ H R := ⟨v, r, rfl, h⟩
theorem ZNo {to ti : TE} {t : ZHa} {v : V} {R : St → Hp → Prop} (h : to σ H fun o H1 => ti σ H1 fun i H2 => t o i v H2 fun H3 => R σ H3) : ZLf to ti t v σ H R := h
theorem ZPX {c : TT} {t u : TS} (h : c σ H fun b H1 => if b = true then t D σ H1 else u D σ H1) : ZHZ c t u D σ H := h
theorem ZNp {t : TE} {R : Bool → Hp → Prop} (h : t σ H fun x H' => ∃ k, x = .bl k ∧ R k H') : ZGG t σ H R := h
theorem ZQl {t : TE} {R : Bool → Hp → Prop} (h : t σ H fun x H' => ∃ k, x = .bl k ∧ R k H') : tB t σ H R := h
theorem ZGf {b : Bool} {R : Bool → Prop} (h : R b) : ∃ k, V.bl b = .bl k ∧ R k := ⟨b, rfl, h⟩
theorem ZPY {t u : TT} {R : Bool → Hp → Prop} (h : t σ H fun c H1 => if c = true then u σ H1 R else R false H1) : ZLV t u σ H R := h
theorem ZQS {t u : TT} {R : Bool → Hp → Prop} (h : t σ H fun c H1 => if c = true then R true H1 else u σ H1 R) : tOr t u σ H R := h
theorem ZPZ {t : TT} {R : Bool → Hp → Prop} (h : t σ H fun c H1 => R (!c) H1) : ZLW t σ H R := h
theorem ZNq {t u : TE} (h : t σ H fun x H1 => ∃ c, x = .bl c ∧ if c = true then u σ H1 Q else Q (.bl false) H1) : ZJO t u σ H Q := h
theorem ZNr {t : TE} (h : t σ H fun x H1 => ∃ c, x = .bl c ∧ Q (.bl (!c)) H1) : ZJP t σ H Q := h
theorem ZQT {t : TT} {ta tb : TE} (h : t σ H fun c H1 => if c = true then ta σ H1 Q else tb σ H1 Q) : tIf t ta tb σ H Q := h
theorem ZPa {i : Nat} {v : V} (e : σ[i]? = some (some v)) (h : Q v H) : ZJN i σ H Q := ⟨v, e, h⟩
theorem ZHm {i j : Int} (h1 : 0 ≤ j) (h2 : j ≤ 1000000) (h3 : i.natAbs < 2 ^ 64) : ZJZ i j := ⟨h1, h2, h3⟩
theorem ZQm {v : V} (h : Q v H) : tC v σ H Q := h
theorem ZQU {r : R2} {ta tb : TE} (h : ta σ H fun x H1 => tb σ H1 fun y H2 => r x y H2 Q) : tOp r ta tb σ H Q := h
theorem ZQV {r : V → Hp → VK → Prop} {ta : TE} (h : ta σ H fun x H1 => r x H1 Q) : tUn r ta σ H Q := h
theorem ZQW {g : Int → Int → V} {i j : Int} (h : Q (g i j) H) : rI0 g (.int i) (.int j) H Q := ⟨i, j, rfl, rfl, h⟩
theorem ZPb {C : Int → Int → Prop} {g : Int → Int → V} {i j : Int} (c : C i j) (h : Q (g i j) H) : rI C g (.int i) (.int j) H Q := ⟨i, j, rfl, rfl, c, h⟩
theorem ZQn {g : Int → V} {i : Int} (h : Q (g i) H) : rU g (.int i) H Q := ⟨i, rfl, h⟩
theorem ZPc {i j : Int} (h : Q (.bl (decide (V.int i = V.int j))) H) : rEq (.int i) (.int j) H Q := ⟨rfl, h⟩
theorem ZPd {i j : Int} (h : Q (.bl (!decide (V.int i = V.int j))) H) : rNe (.int i) (.int j) H Q := ⟨rfl, h⟩
theorem ZQX {r : List V → Hp → VK → Prop} {t : TA} (h : t σ H fun vs H1 => r vs H1 Q) : tCB r t σ H Q := h
theorem ZNs {sp : Sp} {dvs : List V} {E : XK} {t : TA} (h : t σ H fun vs H1 => sp (vs ++ dvs) H1 Q E) : ZGL sp dvs E t σ H Q := h
theorem ZNt {ta : TE} {tr : TA} {R : List V → Hp → Prop} (h : ta σ H fun x H1 => tr σ H1 fun xs H2 => R (x :: xs) H2) : ZHT ta tr σ H R := h
theorem ZPe {R : List V → Hp → Prop} (h : R [] H) : ZHe σ H R := h
def ZMF (n : Nat) (o : HO) (H : Hp) (Q : VK) : Prop := n ≤ sizeLine ∧ ∀ p, H p = none → Q (.ref p) (upd H p o)
theorem ZPf {t : TA} (h : t σ H fun xs H1 => ZMF xs.length (.tup xs) H1 Q) : ZLv t σ H Q := h
theorem ZPg {t : TA} (h : t σ H fun xs H1 => ZMF xs.length (.lst xs) H1 Q) : ZLw t σ H Q := h
theorem ZBk {n : Nat} {o : HO} (hz : n ≤ sizeLine) (h : ∀ p H2, H p = none → H2 p = some o → ZBd H H2 → Q (.ref p) H2) : ZMF n o H Q :=
 ⟨hz, fun p hp => h p _ hp ZBg (fun b u e => by rw [ZBn (ZBt e hp)]; exact e)⟩
theorem ZMG {r r' : R2} {ta tb tc : TE} (h : ta σ H fun x H1 => tb σ H1 fun y H2 => r x y H2 fun z H3 => ∃ k, z = .bl k ∧ (if k = true then tc σ H3 fun w' H4 => r' y w' H4 Q else Q (.bl false) H3)) : ZE4 r r' ta tb tc σ H Q := h
theorem ZE9 {p : Addr} {xs : List V} {i : Int} {v : V} (h1 : SqL K H p xs) (h2 : atI xs i = some v) (h : Q v H) : ZL0 K (.ref p) (.int i) H Q := ⟨p, xs, i, v, rfl, rfl, h1, h2, h⟩
theorem ZFA {p : Addr} {xs : List V} {i : Int} {v : V} (h1 : SqT K H p xs) (h2 : atI xs i = some v) (h : Q v H) : ZL1 K (.ref p) (.int i) H Q := ⟨p, xs, i, v, rfl, rfl, h1, h2, h⟩
theorem ZI7 {p : Addr} {xs : List V} {k : Int} {j : Nat} {v : V} {R : Hp → Prop} (h1 : H p = some (.lst xs)) (h2 : ixN xs.length k = some j) (h : R (upd H p (.lst (xs.set j v)))) : ZM5 (.ref p) (.int k) v H R := ⟨p, xs, k, j, rfl, rfl, h1, h2, h⟩
def rFor (J : It) (g : TG) (tb : TS) (D : ZCK) (σ : St) (H : Hp) : Prop := ∃ W : Nat → Nat → St → Hp → Prop, (∃ m, W 0 m σ H) ∧ ∀ i m σ H, W i m σ H →
 (J.stop i H ∧ D.nx σ H) ∨ (J.go i H ∧ ∃ N : St → Hp → Prop, (∀ σ' H', N σ' H' → ∃ m', m' < m ∧ W (i + 1) m' σ' H') ∧ ∀ x H', J.yld i H x H' → g x σ H' fun σ2 H2 => tb { D with nx := N, ct := N, bk := D.nx } σ2 H2)
theorem ZPh {wi : TI} {g : TG} {tb : TS} (h : wi σ H fun J H1 => rFor J g tb D σ H1) : ZLj wi g tb D σ H := h
def ZM8 (vs : List V) (H : Hp) (R : It → Hp → Prop) : Prop := ∃ j : Int, vs = [.int j] ∧ -(2 ^ 62) ≤ j ∧ j < 2 ^ 62 ∧ R (Itr 0 j.toNat) H
theorem ZNu {ta : TA} {R : It → Hp → Prop} (h : ta σ H fun vs H1 => ZM8 vs H1 R) : ZJX ta σ H R := h
theorem ZHn {j : Int} {R : It → Hp → Prop} (h1 : -(2 ^ 62) ≤ j) (h2 : j < 2 ^ 62) (h : R (Itr 0 j.toNat) H) : ZM8 [.int j] H R := ⟨j, rfl, h1, h2, h⟩
theorem ZNv {b : Bool} (h : Q (.int (if b then 1 else 0)) H) : ZM6 [.bl b] H Q := .inr ⟨b, rfl, h⟩
theorem ZPi {i : Int} (h : Q (.int (if i < 0 then -i else i)) H) : ZPN [.int i] H Q := ⟨i, rfl, h⟩
theorem ZPj {i j : Int} (h : Q (.int (if j > i then j else i)) H) : ZPO [.int i, .int j] H Q := ⟨i, j, rfl, h⟩
theorem ZPk {i j : Int} (h : Q (.int (if j < i then j else i)) H) : ZPP [.int i, .int j] H Q := ⟨i, j, rfl, h⟩
theorem ZNw {p : Addr} {ys : List V} (h1 : SqL K H p ys) (h : Q (.int ys.length) H) : ZJj K [.ref p] H Q := ⟨p, ys, rfl, .inl h1, h⟩
theorem ZNx {p : Addr} {ys : List V} (h1 : SqT K H p ys) (h : Q (.int ys.length) H) : ZJj K [.ref p] H Q := ⟨p, ys, rfl, .inr h1, h⟩
theorem ZPl {p : Addr} {bs : List Bool} (h1 : SqL K H p (bs.map V.bl)) (h : Q (.bl (bs.all id)) H) : ZMB K [.ref p] H Q := ⟨p, bs, rfl, h1, h⟩
theorem ZFB {x : V} {n : String} {t : Value} {b : Bool} (ty : ZDQ K H x t) (e : W.kitOne K t (.type n) = some b) (h : Q (.bl b) H) : ZL5 K [x, .ty n] H Q := ⟨x, n, t, b, rfl, ty, e, h⟩
theorem ZPm {x : V} (h : Q (.bl (decide (x = .non))) H) : ZPQ x .non H Q := ⟨rfl, h⟩
theorem ZNy {x : V} (h : Q (.bl (!decide (x = .non))) H) : ZM7 x .non H Q := ⟨rfl, h⟩
theorem ZNz {n : Nat} {t : TGs} {p : Addr} {xs : List V} {R : St → Hp → Prop} (h1 : SqT K H p xs) (h2 : xs.length = n) (h : t xs σ H R) : ZJS K n t (.ref p) σ H R := ⟨p, xs, rfl, h1, h2, h⟩
theorem ZEX {p : Addr} {ys : List V} (h1 : SqL K H p ys) (h : ∀ l H2, H l = none → H2 l = some (.tup ys) → ZBd H H2 → Q (.ref l) H2) :
  ZHk K [.ref p] H Q :=
 ⟨p, ys, rfl, .inl ⟨h1, fun l hl => h l _ hl ZBg (fun b u e => by rw [ZBn (ZBt e hl)]; exact e)⟩⟩
theorem ZPn {p q : Addr} {xs zs : List V} (h1 : H p = some (.lst xs)) (h2 : H q = some (.lst zs)) (hz : xs.length + zs.length ≤ sizeLine) (h : ∀ l H2, H l = none → H2 l = some (.lst (xs ++ zs)) → ZBd H H2 → Q (.ref l) H2) : ZPJ (.ref p) (.ref q) H Q :=
 ⟨p, q, xs, zs, rfl, rfl, h1, h2, hz, fun l hl => h l _ hl ZBg (fun b u e => by rw [ZBn (ZBt e hl)]; exact e)⟩
theorem ZCU {c A B : Prop} [Decidable c] (h1 : c → A) (h2 : ¬ c → B) : if decide c = true then A else B := by
 by_cases h : c
 ·rw [decide_eq_true h]; exact ZDR (h1 h)
 ·rw [decide_eq_false h]; exact ZCg (h2 h)
theorem ZJk {c A B : Prop} [Decidable c] (h1 : ¬ c → A) (h2 : c → B) : if (!decide c) = true then A else B := by
 by_cases h : c
 ·rw [decide_eq_true h]; exact ZCg (h2 h)
 ·rw [decide_eq_false h]; exact ZDR (h1 h)
theorem ZDH {i j : Int} : decide (V.int i = V.int j) = decide (i = j) := by
 by_cases h : i = j
 ·subst h; simp
 ·rw [decide_eq_false h, decide_eq_false (fun z => h (V.int.inj z))]
theorem ZI8 {lo : Int} {n : Nat} {g : TG} {tb : TS} (Pv : Nat → St → Hp → Prop) (h0 : Pv 0 σ H)
 (hs : ∀ i σ H, i < n → Pv i σ H → g (.int (lo + i)) σ H fun σ2 H2 => tb { D with nx := Pv (i + 1), ct := Pv (i + 1), bk := D.nx } σ2 H2) (hd : ∀ σ H, Pv n σ H → D.nx σ H) :
 rFor (Itr lo n) g tb D σ H := ZKL Pv h0 hs hd
theorem ZI9 {a : Addr} {xs : List V} {g : TG} {tb : TS} (Pv : Nat → St → Hp → Prop) (h0 : Pv 0 σ H) (hl : ∀ i σ H, i ≤ xs.length → Pv i σ H → SqL K H a xs)
 (hs : ∀ i x σ H, xs[i]? = some x → Pv i σ H → g x σ H fun σ2 H2 => tb { D with nx := Pv (i + 1), ct := Pv (i + 1), bk := D.nx } σ2 H2) (hd : ∀ σ H, Pv xs.length σ H → D.nx σ H) :
 rFor (Itl K a) g tb D σ H := ZLk Pv h0 hl hs hd
theorem ZDy {a : Addr} {xs : List V} {g : TG} {tb : TS} (Pv : Nat → St → Hp → Prop) (h0 : Pv 0 σ H) (hl : ∀ i σ H, i ≤ xs.length → Pv i σ H → SqT K H a xs)
 (hs : ∀ i x σ H, xs[i]? = some x → Pv i σ H → g x σ H fun σ2 H2 => tb { D with nx := Pv (i + 1), ct := Pv (i + 1), bk := D.nx } σ2 H2) (hd : ∀ σ H, Pv xs.length σ H → D.nx σ H) :
 rFor (Itt K a) g tb D σ H := ZNT Pv h0 hl hs hd
def ZM9 (J : It) (g : TG) (tt : TT) (te : TE) (l : Addr) (σ0 : St) (H : Hp) (Q : VK) : Prop :=
 ∃ W : Nat → Nat → St → Hp → Prop, (∃ m, W 0 m σ0 (upd H l (.lst []))) ∧ ∀ i m σ' H', W i m σ' H' →
  (J.stop i H' ∧ Q (.ref l) H') ∨ (J.go i H' ∧ ∃ N : St → Hp → Prop, (∀ σ2 H2, N σ2 H2 → ∃ m', m' < m ∧ W (i + 1) m' σ2 H2) ∧
   ∀ x H'', J.yld i H' x H'' → g x σ' H'' fun σ2 H2 => tt σ2 H2 fun b H3 =>
    if b = true then te σ2 H3 fun v H4 => ∃ xs, H4 l = some (.lst xs) ∧ xs.length < sizeLine ∧ N σ2 (upd H4 l (.lst (xs ++ [v]))) else N σ2 H3)
theorem ZDz {J : It} {g : TG} {tt : TT} {te : TE} {σ0 : St} {l : Addr} (n : Nat) (Pv : Nat → St → Hp → Prop) (h0 : Pv 0 σ0 (upd H l (.lst [])))
  (stop : ∀ σ H, Pv n σ H → J.stop n H ∧ Q (.ref l) H)
  (go : ∀ i σ H, i < n → Pv i σ H → J.go i H ∧ ∀ x H', J.yld i H x H' → g x σ H' fun σ2 H2 => tt σ2 H2 fun b H3 =>
   if b = true then te σ2 H3 fun v H4 => ∃ xs, H4 l = some (.lst xs) ∧ xs.length < sizeLine ∧ Pv (i + 1) σ2 (upd H4 l (.lst (xs ++ [v]))) else Pv (i + 1) σ2 H3) :
  ZM9 J g tt te l σ0 H Q := by
 refine ⟨fun i m σ H => m = n - i ∧ i ≤ n ∧ Pv i σ H, ⟨n, by simp, Nat.zero_le _, h0⟩, ?_⟩
 rintro i m σ H ⟨rfl, hi, p⟩
 by_cases hlt : i < n
 ·obtain ⟨hgo, h⟩ := go i σ H hlt p
  exact .inr ⟨hgo, Pv (i + 1), fun σ' H' p' => ⟨n - (i + 1), by omega, rfl, hlt, p'⟩, h⟩
 ·have e : i = n := by omega
  subst e
  exact .inl (stop σ H p)
theorem ZN0 {own : Nat} {ks : List Nat} {wi : TI} {g : TG} {tt : TT} {te : TE} (h : wi σ H fun J H1 => ∀ l, H1 l = none → ZM9 J g tt te l (ZEg own ks σ) H1 Q) : ZJh own ks wi g tt te σ H Q := h
def ZPo (K : W.Frag) (x : V) (H : Hp) (R : It → Hp → Prop) : Prop := ∃ a, x = .ref a ∧ (∃ xs, SqT K H a xs) ∧ R (Itt K a) H
def ZPp (K : W.Frag) (x : V) (H : Hp) (R : It → Hp → Prop) : Prop := ∃ a, x = .ref a ∧ (∃ xs, SqL K H a xs) ∧ R (Itl K a) H
theorem ZN1 {tl : TE} {R : It → Hp → Prop} (h : tl σ H fun x H1 => ZPo K x H1 R) : ZJW K tl σ H R := h
theorem ZMH {tl : TE} {R : It → Hp → Prop} (h : tl σ H fun x H1 => ZPp K x H1 R) : ZHS K tl σ H R := h
theorem ZPq {p : Addr} {xs : List V} {R : It → Hp → Prop} (h1 : SqT K H p xs) (h : R (Itt K p) H) : ZPo K (.ref p) H R := ⟨p, rfl, ⟨xs, h1⟩, h⟩
theorem ZPr {p : Addr} {xs : List V} {R : It → Hp → Prop} (h1 : SqL K H p xs) (h : R (Itl K p) H) : ZPp K (.ref p) H R := ⟨p, rfl, ⟨xs, h1⟩, h⟩
theorem ZN2 {R : Bool → Hp → Prop} (h : R true H) : ZJg σ H R := h
end
theorem ZBd.seqT {K : W.Frag} {H H' : Hp} {a : Addr} {xs : List V} (e : ZBd H H') (h : SqT K H a xs) : SqT K H' a xs := by
 rcases h with (h | ⟨o, h⟩) | h
 ·exact .inl (.inl (e _ _ h))
 ·exact .inl (.inr ⟨o, e _ _ h⟩)
 ·exact .inr h
def Kp (p : Addr) (H H' : Hp) : Prop := ∀ q o, H q = some o → q ≠ p → H' q = some o
theorem Kp.trans {p : Addr} {H H1 H2 : Hp} (a : Kp p H H1) (b : Kp p H1 H2) : Kp p H H2 := fun q o h n => b q o (a q o h n) n
theorem Kp.upd {p : Addr} {H : Hp} {o : HO} : Kp p H (upd H p o) := fun q u h n => by rw [ZBn n]; exact h
theorem Kp.same {p : Addr} {H H' : Hp} (a : ZBd H H') : Kp p H H' := fun q o h _ => a q o h
theorem ZBd.new {H : Hp} {l : Addr} {o : HO} (h : H l = none) : ZBd H (upd H l o) := fun b u e => by rw [ZBn (ZBt e h)]; exact e
def Pot (H : Hp) (p : Addr) : Prop := ∃ a b : Int, H p = some (.lst [.int a, .int b]) ∧ 0 ≤ a ∧ 0 ≤ b ∧ b < 2147483648
theorem Pot.same {H H' : Hp} {p : Addr} (h : Pot H p) (s : ZBd H H') : Pot H' p := by
 obtain ⟨x, y, h, r⟩ := h
 exact ⟨x, y, s _ _ h, r⟩
theorem Pot.neN {H : Hp} {p l : Addr} (h : Pot H p) (hl : H l = none) : l ≠ p := by
 obtain ⟨x, y, h, r⟩ := h
 exact (ZBt h hl).symm
theorem Kp.then {H H1 H2 : Hp} {p : Addr} (h : Kp p H H1) (s : ZBd H1 H2) : Kp p H H2 := h.trans (Kp.same s)
theorem Kp.fresh {H H1 : Hp} {p : Addr} (h : Kp p H H1) (hp : H p = none) : ZBd H H1 := fun q o e => h q o e (ZBt e hp)
structure QE (X : Cx) (e : Expr) (t : TE) : Prop where
 h : PE X e t
structure QT (X : Cx) (e : Expr) (t : TT) : Prop where
 h : PT X e t
structure QW (X : Cx) (e : Expr) (t : TT) : Prop where
 h : PW X e t
structure QA (X : Cx) (es : List Expr) (t : TA) : Prop where
 h : PA X es t
structure QS (X : Cx) (st : Stmt) (t : TS) : Prop where
 h : PS X st t
structure QB (X : Cx) (st : List Stmt) (t : TS) : Prop where
 h : PSs X st t
structure QG (X : Cx) (e : Expr) (t : TG) : Prop where
 h : PG X e t
structure QGs (X : Cx) (es : List Expr) (t : TGs) : Prop where
 h : PGs X es t
structure QI (X : Cx) (tg e : Expr) (t : TI) : Prop where
 h : PI X tg e t
structure QF (X : Cx) (es : List Expr) (t : TT) : Prop where
 h : ZJf X es t
def ZHV : Expr → Bool
 | .Slice _ _ _ _ => true
 | _ => false
theorem ZN3 {b : Expr} (h : ZHV b = false) : ZI4 b := by
 intro o i
 cases b <;> first | rfl | cases h
def ZHo : Expr → Bool
 | .UnaryOp _ _ _ => false
 | .BoolOp _ _ _ => false
 | .IfExp _ _ _ _ => false
 | .Compare _ _ _ _ => false
 | _ => true
theorem ZPs {e : Expr} {env : Env} (h : ZHo e = true) : ∀ whole, isTrue e env whole = (do let v ← whole; standAt e.pos; holding [v] (truthy v)) := by
 intro whole
 cases e <;> first | rfl | cases h
section
variable {X : Cx} {a b c e o : Expr} {es ZCj : List Expr} {ta tb tc te to ti : TE} {tA tB' : TT} {t tr : TA} {pos p p2 pos' : Pos} {x : Str}
theorem qv (i : Nat) {x : Str} {pos : Pos} (hN : X.N[i]? = some x := by rfl) (hv : Vis X.env.scope x := by first | exact Or.inl rfl | exact Or.inr (Or.inl rfl) | exact Or.inr (Or.inr rfl)) (hd : (x == ("__debug__" : Str)) = false := by decide)
 (hcd : (x == ("__classdict__" : Str)) = false := by decide) : QE X (.Name x pos) (ZJN i) := ⟨ZKH hN hv hd hcd⟩
theorem ZBW {i j pos} : QE X (.Constant (.int i) j pos) (tC (.int i)) := ⟨ZOp⟩
theorem ZFX {b j pos} : QE X (.Constant (.bool b) j pos) (tC (.bl b)) := ⟨ZQI⟩
theorem ZDm {j pos} : QE X (.Constant .none j pos) (tC .non) := ⟨ZOq⟩
theorem ZKg {x j pos} : QE X (.Constant (.str x) j pos) (tC (.str x)) := ⟨ZOr⟩
theorem ZCi {v : V} {u : Value} (hg : Gl X x) (hm : X.mg x = some u) (r : ZBi v u) (hd : (x == ("__debug__" : Str)) = false := by decide) : QE X (.Name x pos) (tC v) := ⟨ZNK hg hm r hd⟩
theorem ZJA {v : V} {u : Value} (hg : Gl X x) (hm : X.mg x = none) (hv : bootBuiltins x = some u) (r : ZBi v u) (hn : x ≠ "__name__" := by decide) (hd : (x == ("__debug__" : Str)) = false := by decide) : QE X (.Name x pos) (tC v) := ⟨ZNL hg hm hv r hn hd⟩
theorem ZBa {op : Operator} {r : R2} (ho : OpR X (binaryOp op) r) (ha : QE X a ta) (hb : QE X b tb) : QE X (.BinOp a op b pos) (tOp r ta tb) := ⟨ZQL ho ha.h hb.h⟩
theorem ZDA {op : UnaryOp} {r : V → Hp → VK → Prop} (ho : UnR X (unaryOp op) r) (ha : QE X a ta) : QE X (.UnaryOp op a pos) (tUn r ta) := ⟨ZQM ho ha.h⟩
theorem ZKh (ha : QE X a ta) : QE X (.UnaryOp .Not a pos) (ZJP ta) := ⟨ZOy ha.h⟩
theorem ZHp {op} (h : QE X a ta) : QE X (.BoolOp op [a] pos) ta := ⟨ZOw h.h⟩
theorem ZHq (ha : QE X a ta) (hb : QE X (.BoolOp .And (b :: ZCj) pos) tb) : QE X (.BoolOp .And (a :: b :: ZCj) pos) (ZJO ta tb) := ⟨ZOx ha.h hb.h⟩
theorem ZFt (hc : QT X c tA) (ha : QE X a ta) (hb : QE X b tb) : QE X (.IfExp c a b pos) (tIf tA ta tb) := ⟨ZLX hc.h ha.h hb.h⟩
theorem ZGg {op : CmpOp} {r : R2} (ho : OpR X (compareOp op) r) (ha : QE X a ta) (hb : QE X b tb) (hm : behindInMarks op b = false) : QE X (.Compare a [op] [b] pos) (tOp r ta tb) := ⟨ZNW ho ha.h hb.h hm⟩
theorem ZBr {op : CmpOp} {r : R2} (ho : OpR X (compareOp op) r) (ha : QE X a ta) (hb : QE X b tb) (hm : behindInMarks op b = false) : QT X (.Compare a [op] [b] pos) (ZGG (tOp r ta tb)) := ⟨ZNX ho ha.h hb.h hm⟩
theorem ZMI {op op' : CmpOp} {r r' : R2} (ho : OpR X (compareOp op) r) (ho' : OpR X (compareOp op') r') (ha : QE X a ta) (hb : QE X b tb) (hc : QE X c tc)
 (hm : lastMarks [op, op'] [b, c] = false := by with_unfolding_all rfl) : QE X (.Compare a [op, op'] [b, c] pos) (ZE4 r r' ta tb tc) := ⟨ZLo ho ho' ha.h hb.h hc.h hm⟩
theorem ZMJ {op op' : CmpOp} {r r' : R2} (ho : OpR X (compareOp op) r) (ho' : OpR X (compareOp op') r') (ha : QE X a ta) (hb : QE X b tb) (hc : QE X c tc)
 (hm : lastMarks [op, op'] [b, c] = false := by with_unfolding_all rfl) : QT X (.Compare a [op, op'] [b, c] pos) (ZGG (ZE4 r r' ta tb tc)) := ⟨ZLp ho ho' ha.h hb.h hc.h hm⟩
theorem ZCx (h : QE X e te) (he : ZHo e = true := by rfl) : QT X e (tB te) := ⟨ZOs h.h (ZPs he)⟩
theorem QW.pt (h : QW X e tA) : QT X e tA := ⟨h.h.pt⟩
theorem ZN4 (ha : QT X a tA) : QW X (.BoolOp .And [a] pos) tA := ⟨ZNM ha.h⟩
theorem ZDT (ha : QT X a tA) : QW X (.BoolOp .Or [a] pos) tA := ⟨ZOt ha.h⟩
theorem ZPt (ha : QT X a tA) (hb : QW X (.BoolOp .And (b :: ZCj) pos) tB') : QW X (.BoolOp .And (a :: b :: ZCj) pos) (ZLV tA tB') := ⟨ZOu ha.h hb.h⟩
theorem ZDi (ha : QT X a tA) (hb : QW X (.BoolOp .Or (b :: ZCj) pos) tB') : QW X (.BoolOp .Or (a :: b :: ZCj) pos) (tOr tA tB') := ⟨ZQJ ha.h hb.h⟩
theorem ZCp (ha : QT X a tA) : QT X (.UnaryOp .Not a pos) (ZLW tA) := ⟨ZOv ha.h⟩
theorem ZBY : QA X [] ZHe := ⟨ZPE⟩
theorem ZBX (ha : QE X e te) (hr : QA X es t) (hs : ZDS e = false := by rfl) : QA X (e :: es) (ZHT te t) := ⟨ZQk ha.h hr.h hs⟩
theorem ZBq {x1} (h : QA X es t) : QE X (.Tuple es x1 pos) (ZLv t) := ⟨ZPF h.h⟩
theorem ZDn (h : QA X es t) : QE X (.List es pos) (ZLw t) := ⟨ZPG h.h⟩
theorem ZCC {r : R2} (hr : IxR X r) (ha : QE X a ta) (hb : QE X b tb) (hs : ZHV b = false := by rfl) : QE X (.Subscript a b pos) (tOp r ta tb) := ⟨ZQQ hr ha.h hb.h (ZN3 hs)⟩
theorem ZDJ {CX : CXT} {k : Nat} {f : Addr} {fd : FuncData} {ps : List Str} {sp : Sp} {dvs : List V} {ds : List Value} {E : XK} (F : ZBh X.prog X.w X.K X.mg X.base CX k f fd ps sp) (hr : Room k X.A) (hg : Gl X x) (hm : X.mg x = some (.ref f)) (hk : W.keepIn X.K (.ref f) = true) (hb : ZBf X.K fd ps ds) (hd : ZBj dvs ds) (hx : ZCo CX X E)
 (ha : QA X (e :: es) t) (hns : ZCA (e :: es) = true := by rfl) (hdb : (x == ("__debug__" : Str)) = false := by decide) : QE X (.Call (.Name x p) (e :: es) [] pos) (ZGL sp dvs E t) := ⟨ZL9 F hr hg hm hk hb hd hx ha.h hns hdb⟩
theorem ZBz {id : String} {r : List V → Hp → VK → Prop} (hc : ZBy X (.builtin id) r) (hg : Gl X x) (hm : X.mg x = none) (hv : bootBuiltins x = some (.builtin id)) (ha : QA X (e :: es) t) (hns : ZCA (e :: es) = true := by rfl) (hn : x ≠ "__name__" := by decide) (hdb : (x == ("__debug__" : Str)) = false := by decide) :
 QE X (.Call (.Name x p) (e :: es) [] pos) (tCB r t) := ⟨ZKc hc hg hm hv ha.h hns hn hdb⟩
theorem ZCh {T : String} {r : List V → Hp → VK → Prop} (hc : ZBy X (.type T) r) (hg : Gl X x) (hm : X.mg x = none) (hv : bootBuiltins x = some (.type T)) (ha : QA X (e :: es) t) (hns : ZCA (e :: es) = true := by rfl) (hn : x ≠ "__name__" := by decide) (hdb : (x == ("__debug__" : Str)) = false := by decide) :
 QE X (.Call (.Name x p) (e :: es) [] pos) (tCB r t) := ⟨ZJi hc hg hm hv ha.h hns hn hdb⟩
theorem ZD6 : QF X [] ZJg := ⟨ZL7⟩
theorem ZMK (hc : QT X c tA) : QF X [c] tA := ⟨ZL8 hc.h⟩
theorem ZN5 {tg : Expr} (hl : QE X e te) : QI X tg e (ZHS X.K te) := ⟨ZNS hl.h⟩
theorem ZPu {tg : Expr} (hl : QE X e te) : QI X tg e (ZJW X.K te) := ⟨ZO5 hl.h⟩
theorem ZFC {tg : Expr} (hg : Gl X "range") (hm : X.mg "range" = none) (ha : QA X [a] t) (hs : ZDS a = false := by rfl) : QI X tg (.Call (.Name "range" p) [a] [] pos) (ZJX t) := ⟨ZKJ hg hm ha.h (ZDl hs)⟩
theorem ZDN {i : Nat} (hN : X.N.Nodup) (hi : X.N[i]? = some x) (hx : Loc X.env.scope x) (hf : X.fn x = true ∨ X.env.scope.names.lookup x = some .local := by first | exact .inl rfl | exact .inr rfl | assumption) : QG X (.Name x pos) (ZEG i) := ⟨ZNQ hN hi hx hf⟩
theorem ZDO : QGs X [] ZLd := ⟨ZNR⟩
theorem ZKi {e : Expr} {es : List Expr} {env : Env} (h : ZDS e = false) : (assignEach (e :: es) env).map (·.2) = assign e env :: (assignEach es env).map (·.2) := by
 cases e <;> first | rfl | cases h
theorem ZB3 {g : TG} {u : TGs} (h1 : QG X e g) (h2 : QGs X es u) (hs : ZDS e = false := by rfl) : QGs X (e :: es) (ZJR g u) := ⟨ZLe h1.h h2.h (ZKi hs)⟩
theorem ZPv {k : Nat} {u : TGs} {n : Nat} (hc : X.calm = true) (h : QGs X es u) (hn : (assignEach es X.env).length = n := by rfl) (hst : (assignEach es X.env).findIdx? (·.1) = none := by rfl) : QG X (.Tuple es k pos) (ZJS X.K n u) := ⟨ZO0 hc h.h hn hst⟩
theorem ZKj {s : ZHa} (ho : QE X o to) (hi : QE X e ti) (hs : ZLc X s)
 (ha : ∀ v, assign (.Subscript o e pos) X.env v = (do
  let ov ← holding [v] (eval o X.env)
  let iv ← holding [v, ov] (eval e X.env)
  standAt pos
  holding [v, ov, iv] (setItem ov iv v)
  release [v, ov, iv] []) := by intro _; rfl) : QG X (.Subscript o e pos) (ZLf to ti s) := ⟨ZO1 ho.h hi.h hs ha⟩
theorem ZD0 {N : List Str} {sc : Scope} {own caps : List Str} {ks : List Nat} {elt tg iter : Expr} {ifs : List Expr} {scope : Scope} {wi : TI} {g : TG} {tt : TT}
  (hN : X.N = N) (hsc : X.env.scope = sc) (hc : X.calm = true) (S : ZKY N sc own caps ks scope) (hi : QI X tg iter wi)
  (hg : ∀ cl C s₂ H₂ fp, QG (ZCe X (own ++ caps) scope cl C s₂ H₂ fp) tg g)
  (ht : ∀ cl C s₂ H₂ fp, QF (ZCe X (own ++ caps) scope cl C s₂ H₂ fp) ifs tt)
  (he : ∀ cl C s₂ H₂ fp, QE (ZCe X (own ++ caps) scope cl C s₂ H₂ fp) elt te)
  (hs : ∀ x, foldedSetIterable iter X.env x = pure x := by intro _; rfl) :
  QE X (.ListComp elt [⟨tg, iter, ifs, 0⟩] scope pos) (ZJh own.length ks wi g tt te) :=
 ⟨ZNh hN hsc hc S hi.h (fun cl C s₂ H₂ fp => (hg cl C s₂ H₂ fp).h) (fun cl C s₂ H₂ fp => (ht cl C s₂ H₂ fp).h) (fun cl C s₂ H₂ fp => (he cl C s₂ H₂ fp).h) hs⟩
theorem ZNA {T : String} {name : Str} {id : String} {r : V → List V → Hp → VK → Prop} {apos cpos : Pos} (pa : PlainAttrs T) (slot : Slot T name id) (hty : typeOf (.builtin id) = pure (.type "method_descriptor")) (hm : MtR X id r) (ho : QE X o to) (ha : QA X (e :: es) t)
  (hst : ZCA (e :: es) = true := by rfl) (hbase : attributeBase o name X.env (eval o X.env) = eval o X.env := by rfl)
  (hfew : ((backTo cpos (starEach (e :: es) X.env)).all (fun x => !x.1) && (backToKw cpos (keywordEach [] X.env)).all (fun x => x.1.isSome)
   && decide ((e :: es).length + ([] : List Keyword).length + (if ([] : List Keyword).isEmpty then 0 else 1) < 30)) = true := by rfl)
  (hline : (apos.endLine == cpos.line) = true := by rfl) : QE X (.Call (.Attribute o name apos) (e :: es) [] cpos) (tBM X.K T r to t) :=
 ⟨ZQR pa slot hty hm ho.h ha.h hbase hfew hline (ZC9 hst) (ZCv (ZCu hst))⟩
end
section
variable {X : Cx} {st : Stmt} {ZCj sa sb : List Stmt} {t u : TS} {e c : Expr} {te : TE} {tA : TT} {pos pos' : Pos} {x : Str}
theorem ZB5 : QB X [] ZJQ := ⟨ZNN⟩
theorem ZBZ (h1 : QS X st t) (h2 : QB X ZCj u) : QB X (st :: ZCj) (ZLY t u) := ⟨ZLZ h1.h h2.h⟩
theorem ZBb (h1 : QS X st t) : QB X [st] t := ⟨ZNO h1.h⟩
theorem ZB1 (he : QE X e te) (hs : ZCz e = false := by rfl) : QS X (.Expr e pos) (ZHR te) := ⟨ZMA he.h hs⟩
theorem ZBo (he : QE X e te) : QS X (.Return (some e) pos) (ZLa te) := ⟨ZOz he.h⟩
theorem ZCI (hc : QT X c tA) (ha : QB X sa t) (hb : QB X sb u) : QS X (.If c sa sb pos) (ZHZ tA t u) := ⟨ZQK hc.h ha.h hb.h⟩
theorem ZCV : QS X st ZKI := ⟨ZLb⟩
theorem ZN6 {i : Nat} (hN : X.N.Nodup) (hi : X.N[i]? = some x) (hx : Loc X.env.scope x) (he : QE X e te) (hs : ZCz e = false := by rfl) (hf : X.fn x = true ∨ X.env.scope.names.lookup x = some .local := by first | exact .inl rfl | exact .inr rfl | assumption) :
 QS X (.Assign [.Name x pos'] e pos) (ZFr te (ZEG i)) := ⟨ZNk hN hi hx he.h hs hf⟩
theorem ZEY {tg : Expr} {g : TG} (he : QE X e te) (hg : QG X tg g) (hs : ZCz e = false := by rfl) (hw : swappedStores [tg] e X.env = pure none := by rfl)
 (h1 : (assignEach [tg] X.env).map (·.2) = [assign tg X.env] := by rfl) : QS X (.Assign [tg] e pos) (ZFr te g) := ⟨ZO2 he.h hg.h (ZDg hs) hw h1⟩
theorem ZDU {tg iter : Expr} {wi : TI} {g : TG} (hp : PassesOwn (model X.prog X.w) X.A X.env X.xe) (hc : X.calm = true) (hi : QI X tg iter wi) (hg : QG X tg g) (hb : QB X sa t)
 (hs : ∀ x, foldedSetIterable iter X.env x = pure x := by intro _; rfl) : QS X (.For tg iter sa [] pos) (ZLj wi g t) := ⟨ZO6 hp hc hi.h hg.h hb.h hs⟩
theorem ZHr (hp : PassesOwn (model X.prog X.w) X.A X.env X.xe) (hc : QT X c tA) (hb : QB X sa t) : QS X (.While c sa [] pos) (ZHb tA t) := ⟨ZLh hp hc.h hb.h⟩
end
section
variable {X : Cx} {e : Expr} {es : List Expr} {te : TE} {pos : Pos} (K : W.Frag) (h : X.K = K)
include h
theorem ZFD : ZBy X (.builtin "len") (ZJj K) := h ▸ ZPR
theorem ZPw (hc : X.calm = true) : ZBy X (.builtin "all") (ZMB K) := h ▸ ZPT hc
theorem ZD7 : ZBy X (.type "tuple") (ZHk K) := h ▸ ZMC
theorem ZKk : ZBy X (.builtin "isinstance") (ZL5 K) := h ▸ ZL6
theorem ZDB : IxR X (ZL0 K) := h ▸ ZNg
theorem ZCP : IxR X (ZL1 K) := h ▸ ZPH
theorem ZEZ {tg : Expr} (hl : QE X e te) : QI X tg e (ZHS K te) := h ▸ ZN5 hl
theorem ZEa {tg : Expr} (hl : QE X e te) : QI X tg e (ZJW K te) := h ▸ ZPu hl
theorem ZDo {k : Nat} {u : TGs} {n : Nat} (hc : X.calm = true) (hg : QGs X es u) (hn : (assignEach es X.env).length = n := by rfl) (hst : (assignEach es X.env).findIdx? (·.1) = none := by rfl) : QG X (.Tuple es k pos) (ZJS K n u) := h ▸ ZPv hc hg hn hst
end
section
variable {X : Cx} {tg : Expr}
end
section
variable {σ : St} {H : Hp}
end
mutual
inductive Dat (K : W.Frag) (H : Hp) : V → PyData → Prop
 | non : Dat K H .non .none
 | bl (b : Bool) : Dat K H (.bl b) (.bool b)
 | int (i : Int) : Dat K H (.int i) (.int i)
 | str (x : Str) : Dat K H (.str x) (.str x)
 | tup {a : Addr} {xs : List V} {ds : List PyData} (h : SqT K H a xs) (r : ZC5 K H xs ds) : Dat K H (.ref a) (.tuple ds)
 | lst {a : Addr} {xs : List V} {ds : List PyData} (h : SqL K H a xs) (r : ZC5 K H xs ds) : Dat K H (.ref a) (.list ds)
inductive ZC5 (K : W.Frag) (H : Hp) : List V → List PyData → Prop
 | nil : ZC5 K H [] []
 | cons {x : V} {d : PyData} {xs : List V} {ds : List PyData} (h : Dat K H x d) (r : ZC5 K H xs ds) : ZC5 K H (x :: xs) (d :: ds)
end
section
variable {X : Cx} {pins : List (Addr × Obj)} {σ : St} {H : Hp} {s : Shared}
mutual
theorem Dat.reads (I : Inv X pins σ H s) : ∀ {x : V} {d : PyData} {u : Value}, Dat X.K H x d → ZBi x u → ∃ as, Reads s.heap u d as
 | _, _, u, .non, r => by cases (show u = Value.none from r); exact ⟨_, .none⟩
 | _, _, u, .bl b, r => by cases (show u = Value.bool b from r); exact ⟨_, .bool b⟩
 | _, _, u, .int i, r => by obtain ⟨t, rfl⟩ := (show ∃ t, u = Value.int i t from r); exact ⟨_, .int i t⟩
 | _, _, u, .str x, r => by obtain ⟨t, rfl⟩ := (show ∃ t, u = Value.str x t from r); exact ⟨_, .str x t⟩
 | _, _, u, @Dat.tup _ _ a xs ds h rs, r => by
  cases (show u = Value.ref a from r)
  obtain ⟨its, rv, ⟨o, ho, hc, n, hd⟩, _⟩ := I.tuple h
  obtain ⟨as, ra⟩ := ZC5.reads I rs rv
  exact ⟨_, .tuple ho hc hd (by simpa using ra)⟩
 | _, _, u, @Dat.lst _ _ a xs ds h rs, r => by
  cases (show u = Value.ref a from r)
  obtain ⟨its, rv, ⟨o, n, ho, hc, _, hd⟩, _⟩ := I.list h
  obtain ⟨as, ra⟩ := ZC5.reads I rs rv
  exact ⟨_, .list ho hc hd (by simpa using ra)⟩
theorem ZC5.reads (I : Inv X pins σ H s) : ∀ {xs : List V} {ds : List PyData} {us : List Value}, ZC5 X.K H xs ds → ZBj xs us → ∃ as, ReadsAll s.heap us ds as
 | _, _, _, .nil, .nil => ⟨_, .nil⟩
 | _, _, _, .cons h r, .cons r1 r2 => by
  obtain ⟨as, ra⟩ := Dat.reads I h r1
  obtain ⟨bs, rb⟩ := ZC5.reads I r r2
  exact ⟨_, .cons ra rb⟩
end
end
section
variable {X : Cx}
def ZML (K : W.Frag) : R2 := fun x y H Q => ∃ d e, Dat K H x d ∧ Dat K H y e ∧ d.canLay0 = true ∧ e.canLay0 = true ∧ d.depth ≤ 60 ∧ Q (.bl (PyData.eqv d e)) H
def ZHs (K : W.Frag) : R2 := fun x y H Q => ∃ d e, Dat K H x d ∧ Dat K H y e ∧ d.canLay0 = true ∧ e.canLay0 = true ∧ d.depth ≤ 60 ∧ Q (.bl (!PyData.eqv d e)) H
theorem ZPx (K : W.Frag) (hK : X.K = K) (hu : X.A.units + 64 < cLine) : OpR X (compareOp .Eq) (ZML K) := by
 subst hK
 intro pins s σ H x y v u Q I rx ry h
 obtain ⟨d, e, h1, h2, c1, c2, hd, q⟩ := h
 obtain ⟨as, ra⟩ := h1.reads I rx
 obtain ⟨bs, rb⟩ := h2.reads I ry
 exact SeqAt.compareEq_reads ra rb c1 c2 (by have := Nat.min_le_left d.depth e.depth; omega) ⟨.bl _, H, I, rfl, q⟩
theorem ZGQ (K : W.Frag) (hK : X.K = K) (hu : X.A.units + 64 < cLine) : OpR X (compareOp .NotEq) (ZHs K) := by
 subst hK
 intro pins s σ H x y v u Q I rx ry h
 obtain ⟨d, e, h1, h2, c1, c2, hd, q⟩ := h
 obtain ⟨as, ra⟩ := h1.reads I rx
 obtain ⟨bs, rb⟩ := h2.reads I ry
 exact SeqAt.compareNe_reads ra rb c1 c2 (by have := Nat.min_le_left d.depth e.depth; omega) ⟨.bl _, H, I, rfl, q⟩
theorem ZPy {K : W.Frag} {H : Hp} {Q : VK} {x y : V} {d e : PyData} (h1 : Dat K H x d) (h2 : Dat K H y e) (c1 : d.canLay0 = true) (c2 : e.canLay0 = true) (hd : d.depth ≤ 60) (h : Q (.bl (PyData.eqv d e)) H) : ZML K x y H Q := ⟨d, e, h1, h2, c1, c2, hd, h⟩
theorem ZKl {K : W.Frag} {H : Hp} {Q : VK} {x y : V} {d e : PyData} (h1 : Dat K H x d) (h2 : Dat K H y e) (c1 : d.canLay0 = true) (c2 : e.canLay0 = true) (hd : d.depth ≤ 60) (h : Q (.bl (!PyData.eqv d e)) H) : ZHs K x y H Q := ⟨d, e, h1, h2, c1, c2, hd, h⟩
theorem ZQY {K : W.Frag} {T : String} {r : V → List V → Hp → VK → Prop} {to : TE} {t : TA} {σ : St} {H : Hp} {Q : VK} (h : to σ H fun x H1 => tyV K T x H1 ∧ t σ H1 fun xs H2 => r x xs H2 Q) : tBM K T r to t σ H Q := h
theorem tyL {K : W.Frag} {H : Hp} {p : Addr} {xs : List V} (h : H p = some (.lst xs)) : tyV K "list" (.ref p) H := .inl ⟨rfl, xs, SqL.of h⟩
theorem ZG2 {H : Hp} {Q : VK} {p : Addr} {xs : List V} {y : V} (h1 : H p = some (.lst xs)) (hz : xs.length < sizeLine) (h : ∀ H2, H2 p = some (.lst (xs ++ [y])) → Kp p H H2 → Q .non H2) : ZI5 (.ref p) [y] H Q :=
 ⟨p, xs, y, rfl, rfl, h1, hz, h _ ZBg Kp.upd⟩
end
def ZCJ (p : Int × Int) : PyData := .tuple [.int p.1, .int p.2]
def ZBe (H : Hp) (vs : List V) (l : PL) : Prop := Paired (fun v (p : Int × Int) => ∃ a, v = V.ref a ∧ H a = some (.tup [.int p.1, .int p.2])) vs l
theorem ZBe.same {H H' : Hp} {vs : List V} {l : PL} (h : ZBe H vs l) (s : ZBd H H') : ZBe H' vs l := Paired.mapP h fun _ _ ⟨a, e, z⟩ => ⟨a, e, s _ _ z⟩
theorem ZBe.dats {K : W.Frag} {H : Hp} : ∀ {vs : List V} {l : PL}, ZBe H vs l → ZC5 K H vs (l.map ZCJ)
 | _, _, .nil => .nil
 | _, _, .cons ⟨a, e, z⟩ t => by
  subst e
  exact .cons (.tup (SqT.of z) (.cons (.int _) (.cons (.int _) .nil))) (ZBe.dats t)
theorem ZEH : ∀ l : PL, PyData.canLayAll0 (l.map ZCJ) = true
 | [] => rfl
 | p :: l => by
  show (PyData.canLay0 (ZCJ p) && PyData.canLayAll0 (l.map ZCJ)) = true
  rw [ZEH l]
  rfl
section
variable {κ : Type} [DecidableEq κ]
def ZCW (kvs : List (κ × V)) (k : κ) : Option V := (kvs.find? fun kv => decide (kv.1 = k)).map (·.2)
def ZCH (kvs : List (κ × V)) (k : κ) (v : V) : List (κ × V) :=
 if (kvs.any fun kv => decide (kv.1 = k)) = true then kvs.map (fun kv => if kv.1 = k then (kv.1, v) else kv) else kvs ++ [(k, v)]
theorem ZCb {p : κ × V} {r : List (κ × V)} {k : κ} (e : p.1 = k) : ZCW (p :: r) k = some p.2 := by simp [ZCW, List.find?_cons, e]
theorem ZCc {p : κ × V} {r : List (κ × V)} {k : κ} (e : ¬ p.1 = k) : ZCW (p :: r) k = ZCW r k := by simp [ZCW, List.find?_cons, e]
theorem ZEi (k : κ) : ∀ kvs : List (κ × V), (kvs.any fun kv => decide (kv.1 = k)) = (ZCW kvs k).isSome
 | [] => rfl
 | p :: r => by
  rw [List.any_cons]
  by_cases e : p.1 = k
  ·simp only [ZCb e, decide_eq_true e, Bool.true_or, Option.isSome_some]
  ·rw [ZCc e, decide_eq_false e, Bool.false_or]; exact ZEi k r
theorem ZHt (k j : κ) (y : V) : ∀ kvs : List (κ × V), ZCW (kvs.map fun kv => if kv.1 = k then (kv.1, y) else kv) j = (ZCW kvs j).map fun x => if j = k then y else x
 | [] => rfl
 | p :: r => by
  have ih := ZHt k j y r
  rw [List.map_cons]
  by_cases h : p.1 = k
  ·rw [if_pos h]
   by_cases e : p.1 = j
   ·rw [ZCb (p := (p.1, y)) e, ZCb e, Option.map_some, if_pos (e.symm.trans h)]
   ·rw [ZCc (p := (p.1, y)) e, ZCc e, ih]
  ·rw [if_neg h]
   by_cases e : p.1 = j
   ·rw [ZCb (p := p) e, ZCb e, Option.map_some, if_neg (fun z => h (e.trans z))]
   ·rw [ZCc (p := p) e, ZCc e, ih]
theorem ZG3 (k j : κ) (y : V) : ∀ kvs : List (κ × V), ZCW kvs k = none → ZCW (kvs ++ [(k, y)]) j = if j = k then some y else ZCW kvs j
 | [], _ => by
  by_cases e : k = j
  ·rw [if_pos e.symm]; exact ZCb (p := (k, y)) e
  ·rw [if_neg (fun z => e z.symm)]; exact ZCc (p := (k, y)) e
 | p :: r, hn => by
  rw [List.cons_append]
  have hk : ¬ p.1 = k := fun z => by rw [ZCb z] at hn; cases hn
  rw [ZCc hk] at hn
  have ih := ZG3 k j y r hn
  by_cases e : p.1 = j
  ·rw [ZCb e, ZCb e, if_neg (fun z => hk (e.trans z))]
  ·rw [ZCc e, ZCc e, ih]
theorem ZFu (kvs : List (κ × V)) (k j : κ) (y : V) : ZCW (ZCH kvs k y) j = if j = k then some y else ZCW kvs j := by
 unfold ZCH
 by_cases a : (kvs.any fun kv => decide (kv.1 = k)) = true
 ·rw [if_pos a, ZHt]
  rw [ZEi] at a
  by_cases e : j = k
  ·obtain ⟨x, hx⟩ := Option.isSome_iff_exists.mp a
   rw [if_pos e, e, hx, Option.map_some, if_pos rfl]
  ·rw [if_neg e]
   cases ZCW kvs j with
   | none => rfl
   | some x => rw [Option.map_some, if_neg e]
 ·rw [if_neg a]
  refine ZG3 k j y kvs ?_
  rw [ZEi] at a
  cases q : ZCW kvs k with
  | none => rfl
  | some x => rw [q] at a; exact (a rfl).elim
theorem ZDD (kvs : List (κ × V)) (k : κ) (v : V) : (ZCH kvs k v).length ≤ kvs.length + 1 := by
 unfold ZCH
 split
 ·rw [List.length_map]; omega
 ·rw [List.length_append, List.length_cons, List.length_nil]; omega
theorem ZC0.isSome_eq {o : Option V} {u : Option Value} (r : ZC0 o u) : o.isSome = u.isSome := by
 cases o with
 | none => cases u with
  | none => rfl
  | some _ => exact (show False from r).elim
 | some _ => cases u with
  | none => exact (show False from r).elim
  | some _ => rfl
theorem ZC0.getD {o : Option V} {u : Option Value} {d : V} {d' : Value} (r : ZC0 o u) (rd : ZBi d d') : ZBi (o.getD d) (u.getD d') := by
 cases o with
 | none => cases u with
  | none => exact rd
  | some _ => exact (show False from r).elim
 | some _ => cases u with
  | none => exact (show False from r).elim
  | some _ => exact r
theorem KV.val {kvs : List (κ × V)} {vs : List (κ × Value)} (r : KV kvs vs) (k : κ) : ZC0 (ZCW kvs k) (valueAt vs k) := by
 unfold KV at r
 induction r with
 | nil => exact True.intro
 | @cons p q ps qs h t ih =>
  obtain ⟨h1, h2⟩ := h
  by_cases e : p.1 = k
  ·have e' : q.1 = k := h1.symm.trans e
   have b : valueAt (q :: qs) k = some q.2 := by simp [valueAt, List.find?_cons, e']
   rw [ZCb e, b]; exact h2
  ·have e' : ¬ q.1 = k := fun z => e (h1.trans z)
   have b : valueAt (q :: qs) k = valueAt qs k := by simp [valueAt, List.find?_cons, e']
   rw [ZCc e, b]; exact ih
theorem KV.any {kvs : List (κ × V)} {vs : List (κ × Value)} (r : KV kvs vs) (k : κ) : (kvs.any fun kv => decide (kv.1 = k)) = vs.any fun kv => decide (kv.1 = k) := by
 unfold KV at r
 induction r with
 | nil => rfl
 | cons h t ih => rw [List.any_cons, List.any_cons, ih, h.1]
theorem KV.repl {kvs : List (κ × V)} {vs : List (κ × Value)} (r : KV kvs vs) (k : κ) {y : V} {u : Value} (ry : ZBi y u) :
  KV (kvs.map fun kv => if kv.1 = k then (kv.1, y) else kv) (vs.map fun kv => if kv.1 = k then (kv.1, u) else kv) := by
 unfold KV at r ⊢
 induction r with
 | nil => exact .nil
 | @cons p q ps qs h t ih =>
  rw [List.map_cons, List.map_cons]
  refine .cons ?_ ih
  obtain ⟨h1, h2⟩ := h
  by_cases e : p.1 = k
  ·rw [if_pos e, if_pos (h1.symm.trans e)]; exact ⟨h1, ry⟩
  ·rw [if_neg e, if_neg (fun z => e (h1.trans z))]; exact ⟨h1, h2⟩
theorem KV.put {kvs : List (κ × V)} {vs : List (κ × Value)} (r : KV kvs vs) (k : κ) {y : V} {u : Value} (ry : ZBi y u) : KV (ZCH kvs k y) (stored vs k u) := by
 unfold ZCH stored
 rw [r.any k]
 by_cases e : (vs.any fun kv => decide (kv.1 = k)) = true
 ·rw [if_pos e, if_pos e]; exact r.repl k ry
 ·rw [if_neg e, if_neg e]; exact Paired.snoc r ⟨rfl, ry⟩
theorem KV.length {kvs : List (κ × V)} {vs : List (κ × Value)} (r : KV kvs vs) : kvs.length = vs.length := Paired.length r
end
theorem ZGR {P : Program} {w : World} {k : Key} {u : Value} (r : ZBi (kV k) u) : (ZB2 P w).is k u = true := by
 cases k with
 | inl i => obtain ⟨t, e⟩ := (show ∃ t, u = Value.int i t from r); subst e; exact ZIk P w i t
 | inr x => obtain ⟨t, e⟩ := (show ∃ t, u = Value.str x t from r); subst e; exact ZIl P w x t
theorem ZG4 {P : Program} {w : World} : ∀ {ks : List Key} {us : List Value}, ZBj (ks.map kV) us → ItemsAre (ZB2 P w) ks us
 | [], _, r => by rw [List.map_nil] at r; cases r; exact .nil
 | k :: ks, _, r => by
  rw [List.map_cons] at r
  cases r with
  | cons h t => exact .cons (ZGR h) (ZG4 t)
abbrev KT (H : Hp) : List (List Key × V) → List (List Key × Addr × Value) → Prop := Paired fun p q => p.1 = q.1 ∧ H q.2.1 = some (.tup (p.1.map kV)) ∧ ZBi p.2 q.2.2
theorem KT.val {H : Hp} {kvs : List (List Key × V)} {xs : List (List Key × Addr × Value)} (r : KT H kvs xs) (k : List Key) : ZC0 (ZCW kvs k) ((atKey xs k).map (·.2)) := by
 induction r with
 | nil => exact True.intro
 | @cons p q ps qs h t ih =>
  obtain ⟨h1, _, h2⟩ := h
  by_cases e : p.1 = k
  ·have e' : q.1 = k := h1.symm.trans e
   have b : atKey (q :: qs) k = some q.2 := by simp [atKey, List.find?_cons, e']
   rw [ZCb e, b]; exact h2
  ·have e' : ¬ q.1 = k := fun z => e (h1.trans z)
   have b : atKey (q :: qs) k = atKey qs k := by simp [atKey, List.find?_cons, e']
   rw [ZCc e, b]; exact ih
theorem KT.repl {H : Hp} {kvs : List (List Key × V)} {xs : List (List Key × Addr × Value)} (r : KT H kvs xs) (k : List Key) {y : V} {u : Value} (ry : ZBi y u) :
  KT H (kvs.map fun kv => if kv.1 = k then (kv.1, y) else kv) (xs.map (putAt k u)) := by
 induction r with
 | nil => exact .nil
 | @cons p q ps qs h t ih =>
  rw [List.map_cons, List.map_cons]
  refine .cons ?_ ih
  obtain ⟨h1, h2, h3⟩ := h
  unfold putAt
  by_cases e : p.1 = k
  ·rw [if_pos e, if_pos (h1.symm.trans e)]; exact ⟨h1, h2, ry⟩
  ·rw [if_neg e, if_neg (fun z => e (h1.trans z))]; exact ⟨h1, h2, h3⟩
theorem KT.put {H : Hp} {kvs : List (List Key × V)} {xs : List (List Key × Addr × Value)} (r : KT H kvs xs) (k : List Key) {b : Addr} {y : V} {u : Value} (hb : H b = some (.tup (k.map kV))) (ry : ZBi y u) :
  KT H (ZCH kvs k y) (storedH xs k b u) := by
 have e : (kvs.any fun kv => decide (kv.1 = k)) = (atKey xs k).isSome := by
  rw [ZEi, (r.val k).isSome_eq, Option.isSome_map]
 unfold ZCH storedH
 rw [e]
 by_cases q : (atKey xs k).isSome = true
 ·rw [if_pos q, if_pos q]; exact r.repl k ry
 ·rw [if_neg q, if_neg q]; exact Paired.snoc r ⟨rfl, hb, ry⟩
theorem KT.keeps {H H' : Hp} {kvs : List (List Key × V)} {xs : List (List Key × Addr × Value)} (r : KT H kvs xs) (ht : ∀ b ys, H b = some (.tup ys) → H' b = some (.tup ys)) : KT H' kvs xs :=
 Paired.mapP r fun _ _ z => ⟨z.1, ht _ _ z.2.1, z.2.2⟩
section
variable {P : Program} {w : World} {H : Hp} {h : Heap} {a : Addr}
theorem ZNB {u : HO} (ok : HOk P w H h) (e : Rd H a u) : ZBw P w H h a u := e.ok ok
theorem ZEj {kvs : List (Key × V)} (ok : HOk P w H h) (e : Rd H a (.dK kvs)) : kvs.length ≤ sizeLine ∧ (a == sysModules) = false ∧ ∃ vs, KV kvs vs ∧ h.DictOf (ZB2 P w) a vs :=
 show ZBw P w H h a (.dK kvs) from ZNB ok e
theorem ZJl {kvs : List (Key × V)} (ok : HOk P w H h) (e : H a = some (.dK kvs)) : kvs.length ≤ sizeLine ∧ (a == sysModules) = false ∧ ∃ vs, KV kvs vs ∧ h.DictOf (ZB2 P w) a vs := ZEj ok (.inl e)
theorem ZGS {ks : List Key} (ok : HOk P w H h) (e : H a = some (.tup (ks.map kV))) : (tupleKind (ZB2 P w)).is h ks a := by
 obtain ⟨_, its, r, o, h1, h2, n, h3⟩ := (show ZBw P w H h a (.tup (ks.map kV)) from ok a _ e)
 exact ⟨o, its.toArray, n, h1, h2, h3, by simpa using ZG4 r⟩
theorem ZFY {kvs : List (List Key × V)} (ok : HOk P w H h) (e : Rd H a (.dT kvs)) : kvs.length ≤ sizeLine ∧ (a == sysModules) = false ∧
  ∃ xs, KT H kvs xs ∧ h.DictOfH (tupleKind (ZB2 P w)) a xs := by
 obtain ⟨z, y, xs, r, o, es, ep, h1, h2, h3, h4, h5⟩ := (show ZBw P w H h a (.dT kvs) from ZNB ok e)
 refine ⟨z, y, xs, r, o, es, ep, h1, h2, h3, h4, fun x hx => ?_, h5⟩
 have all : ∀ {l : List (List Key × V)} {m : List (List Key × Addr × Value)}, KT H l m → ∀ x ∈ m, (tupleKind (ZB2 P w)).is h x.1 x.2.1 := by
  intro l m q
  induction q with
  | nil => intro x hx; exact nomatch hx
  | @cons p q ps qs hq t ih =>
   intro x hx
   rcases List.mem_cons.mp hx with e | hx
   ·subst e
    exact ZGS ok (by rw [← hq.1]; exact hq.2.1)
   ·exact ih x hx
 exact all r x hx
theorem ZQZ {kvs : List (List Key × V)} (ok : HOk P w H h) (e : H a = some (.dT kvs)) : kvs.length ≤ sizeLine ∧ (a == sysModules) = false ∧
 ∃ xs, KT H kvs xs ∧ h.DictOfH (tupleKind (ZB2 P w)) a xs := ZFY ok (.inl e)
end
def ZDK (H : Hp) (a : Addr) (y : V) (r : Option V) : Prop :=
 (∃ kvs k, Rd H a (.dK kvs) ∧ y = kV k ∧ r = ZCW kvs k) ∨ ∃ kvs k b, Rd H a (.dT kvs) ∧ y = .ref b ∧ H b = some (.tup (k.map kV)) ∧ r = ZCW kvs k
def ZEk (H : Hp) (a : Addr) (y v : V) (H' : Hp) : Prop :=
 (∃ kvs k, H a = some (.dK kvs) ∧ y = kV k ∧ kvs.length < sizeLine ∧ H' = upd H a (.dK (ZCH kvs k v))) ∨
 ∃ kvs k b, H a = some (.dT kvs) ∧ y = .ref b ∧ H b = some (.tup (k.map kV)) ∧ kvs.length < sizeLine ∧ H' = upd H a (.dT (ZCH kvs k v))
theorem ZDK.k {H : Hp} {a : Addr} {kvs : List (Key × V)} {k : Key} (e : H a = some (.dK kvs)) : ZDK H a (kV k) (ZCW kvs k) := .inl ⟨kvs, k, .inl e, rfl, rfl⟩
theorem ZDK.t {H : Hp} {a b : Addr} {kvs : List (List Key × V)} {k : List Key} (e : H a = some (.dT kvs)) (eb : H b = some (.tup (k.map kV))) : ZDK H a (.ref b) (ZCW kvs k) := .inr ⟨kvs, k, b, .inl e, rfl, eb, rfl⟩
theorem ZEk.k {H : Hp} {a : Addr} {kvs : List (Key × V)} {k : Key} {v : V} (e : H a = some (.dK kvs)) (hl : kvs.length < sizeLine) : ZEk H a (kV k) v (upd H a (.dK (ZCH kvs k v))) := .inl ⟨kvs, k, e, rfl, hl, rfl⟩
theorem ZEk.t {H : Hp} {a b : Addr} {kvs : List (List Key × V)} {k : List Key} {v : V} (e : H a = some (.dT kvs)) (eb : H b = some (.tup (k.map kV))) (hl : kvs.length < sizeLine) :
 ZEk H a (.ref b) v (upd H a (.dT (ZCH kvs k v))) := .inr ⟨kvs, k, b, e, rfl, eb, hl, rfl⟩
section
variable {X : Cx} {pins : List (Addr × Obj)} {σ : St} {H : Hp} {s : Shared} {a : Addr} {y v : V} {u r : Value} {o : Option V} {A : Around} {E : Value → Shared → Prop}
theorem Inv.big (I : Inv X pins σ H s) : sysModules < s.heap.objs.size := by
 have h : mainGlobals < s.heap.objs.size := (I.mod.glob.keeps I.bk).lt
 exact Nat.lt_trans (by decide) h
theorem ZKm {Q : Value → Shared → Prop} (hu : A.units + 1 < cLine) (I : Inv X pins σ H s) (g : ZDK H a y (some v)) (ry : ZBi y u) (h : ∀ w' s', Inv X pins σ H s' → ZBi v w' → Q w' s') :
  wpAny (model X.prog X.w) A (getItem (.ref a) u) Q E s := by
 rcases g with ⟨kvs, k, e, ey, l⟩ | ⟨kvs, k, b, e, ey, eb, l⟩
 ·subst ey
  obtain ⟨z, hd, vs, rel, dd⟩ := ZEj I.hok e
  obtain ⟨w', hw, rw'⟩ := ZC0.some_of (v := v) (o := valueAt vs k) (by rw [l]; exact rel.val k)
  exact wpAny_getItem_of (ZGR ry) dd.mapOf hw (h w' _ (I.tok _) rw')
 ·subst ey
  cases (show u = Value.ref b from ry)
  obtain ⟨z, hd, xs, rel, dd⟩ := ZFY I.hok e
  obtain ⟨w', hw, rw'⟩ := ZC0.some_of (v := v) (o := (atKey xs k).map (·.2)) (by rw [l]; exact rel.val k)
  obtain ⟨p, hp, hp2⟩ := Option.map_eq_some_iff.mp hw
  refine wpAny_getItem_heap (tupleKind_room_in1 hu) (ZGS I.hok eb) dd hp ?_
  rw [hp2]
  exact h w' _ (I.tok _) rw'
theorem ZJB {h' : Heap} {t' : Nat} {ob : HO} (I : Inv X pins σ H s) (mu : Mut (H a)) (hs : Heap.SameBut a s.heap h') (he : ∃ q, h'.get? a = some q) (new : ZBw X.prog X.w (upd H a ob) h' a ob) :
  Inv X pins σ (upd H a ob) { s with heap := h', toks := t' } :=
 I.write (x := a) (e := a) mu (.inl rfl) (fun b q hb z => (hs.2 b hb).trans z) he new
theorem ZHu {P : Program} {w : World} {H' : Hp} {h' : Heap} {kvs : List (Key × V)} {vs : List (Key × Value)} (z : kvs.length ≤ sizeLine) (hd : (a == sysModules) = false) (rel : KV kvs vs) (dd : h'.DictOf (ZB2 P w) a vs) :
 ZBw P w H' h' a (.dK kvs) := ⟨z, hd, vs, rel, dd⟩
theorem ZKn {H' : Hp} {Q : Unit → Shared → Prop} (hu : A.units + 1 < cLine) (I : Inv X pins σ H s) (g : ZEk H a y v H') (ry : ZBi y u) (rv : ZBi v r) (h : ∀ s', Inv X pins σ H' s' → Q () s') :
  wpAny (model X.prog X.w) A (setItem (.ref a) u r) Q E s := by
 rcases g with ⟨kvs, k, e, ey, l, eH⟩ | ⟨kvs, k, b, e, ey, eb, l, eH⟩
 ·subst ey eH
  obtain ⟨z, hd, vs, rel, dd⟩ := ZJl I.hok e
  have hz : vs.length ≤ sizeLine := by rw [← rel.length]; exact z
  have hl : (ZCH kvs k v).length ≤ sizeLine := by have := ZDD kvs k v; omega
  refine wpAny_setItem_pairs (hsz := hz) (ZGR ry) dd fun h' dd' hs => h _ ?_
  have he : ∃ q, h'.get? a = some q := let ⟨q, _, _, hq, _⟩ := dd'; ⟨q, hq⟩
  exact ZJB I (by rw [e]; exact True.intro) hs he (ZHu hl hd (rel.put k rv) dd')
 ·subst ey eH
  cases (show u = Value.ref b from ry)
  obtain ⟨z, hd, xs, rel, dd⟩ := ZQZ I.hok e
  have hz : xs.length ≤ sizeLine := by rw [← Paired.length rel]; exact z
  have hl : (ZCH kvs k v).length ≤ sizeLine := by have := ZDD kvs k v; omega
  refine wpAny_setItem_heap (hsz := hz) (tupleKind_room_in1 hu) (ZGS I.hok eb) dd fun h' dd' hs => h _ ?_
  obtain ⟨q, es, ep, hq, h2, h3, h4, _, h5⟩ := dd'
  refine ZJB I (by rw [e]; exact True.intro) hs ⟨q, hq⟩ ⟨hl, hd, _, (rel.put k eb rv).keeps fun c ys ec => ?_, q, es, ep, hq, h2, h3, h4, h5⟩
  rw [ZBn (ZQH ec e (fun z => nomatch z))]
  exact ec
end
section
variable {X : Cx} {pins : List (Addr × Obj)} {σ : St} {H : Hp} {s : Shared} {a : Addr} {kvs : List (Key × V)} {k : Key} {u : Value} {A : Around} {E : Value → Shared → Prop}
end
def ZMM (i : Expr) : Prop := ∀ ov iv, subscripted i false ov iv = operate [ov, iv] (getItem ov iv)
theorem ZN7 {prog : Program} {w : World} {A : Around} {E : Value → Shared → Prop} {s : Shared} {env : Env} {value slice : Expr} {pos : Pos} {T id : String} {Q : Value → Shared → Prop}
  (hl : typeLookup (.type T) "__getitem__" = pure (some (.builtin id))) (hs : ZMM slice)
  (h : wpAny (model prog w) A (eval value env) (fun o s₁ => wpAny (model prog w) A (eval slice env) (fun i s₂ => s₂.TypeIs o T ∧ wpAny (model prog w) A (getItem o i) Q E s₂) E s₁) E s) :
  wpAny (model prog w) A (eval (.Subscript value slice pos) env) Q E s := by
 refine Subscript_ (wpAny_mono h (fun o s₁ h₁ => wpAny_mono h₁ (fun i s₂ h₂ => ?_) fun _ _ x => x) fun _ _ x => x)
 obtain ⟨hT, h₂⟩ := h₂
 unfold subscriptTail
 refine wpAny_bind ?_
 rw [getitemInPython_of_ne hT.not_modules]
 refine wpAny_bind (wpAny_specialOf hT hl ?_)
 have fin : wpAny (model prog w) A (subscripted slice false o i) (fun r s₃ => wpAny (model prog w) A (letTemporaryGo value o r >>= fun _ => pure r) Q E s₃) E s₂ := by
  rw [hs o i]
  exact wpAny_operating (wpAny_mono h₂ (fun r s₃ h₃ => wpAny_bind (wpAny_letTemporaryGo (wpAny_pure h₃))) fun _ _ x => x)
 first
  | exact wpAny_pure (wpAny_bind fin)
  | exact wpAny_bind (wpAny_pure (wpAny_bind fin))
  | exact wpAny_bind fin
theorem ZIn {X : Cx} {pins : List (Addr × Obj)} {σ : St} {H : Hp} {s : Shared} {a : Addr} {y : V} {o : Option V} (I : Inv X pins σ H s) (g : ZDK H a y o) : s.TypeIs (.ref a) "dict" := by
 rcases g with ⟨kvs, k, e, _, _⟩ | ⟨kvs, k, b, e, _, _, _⟩
 ·obtain ⟨_, _, vs, _, dd⟩ := ZEj I.hok e
  exact dd.typeIs
 ·obtain ⟨_, _, xs, _, dd⟩ := ZFY I.hok e
  exact dd.typeIs
theorem ZIo {X : Cx} {pins : List (Addr × Obj)} {σ : St} {H : Hp} {s : Shared} {a : Addr} {y : V} {o : Option V} (I : Inv X pins σ H s) (g : ZDK H a y o) :
  ∀ b, Value.ref a = .ref b → ∃ ob, s.heap.get? b = some ob ∧ ob.dict = none := fun b q => by
 cases q
 rcases g with ⟨kvs, k, e, _, _⟩ | ⟨kvs, k, b, e, _, _, _⟩
 ·obtain ⟨_, _, vs, _, ob, _, _, h1, h2, _⟩ := ZEj I.hok e
  exact ⟨ob, h1, h2.2.1⟩
 ·obtain ⟨_, _, xs, _, ob, _, _, h1, h2, _⟩ := ZFY I.hok e
  exact ⟨ob, h1, h2.2.1⟩
def ZJm (td ty : TE) : TE := fun σ H Q => td σ H fun x H1 => ty σ H1 fun y H2 => ∃ a v, x = .ref a ∧ ZDK H2 a y (some v) ∧ Q v H2
def ZJn (td ty tv : TE) : TS := fun D σ H => tv σ H fun v H1 => td σ H1 fun x H2 => ty σ H2 fun y H3 => ∃ a H4, x = .ref a ∧ ZEk H3 a y v H4 ∧ D.nx σ H4
section
variable {X : Cx} {o i e value : Expr} {pos pos' tpos : Pos} {td ty tv : TE}
theorem ZN8 (hu : X.A.units + 1 < cLine) (ho : PE X o td) (hi : PE X i ty) (hs : ZMM i) : PE X (.Subscript o i pos) (ZJm td ty) := by
 intro pins s σ H Q I h
 refine ZN7 PySem.F.slot_dict_getitem.lookup hs (thn (ho pins s σ H _ I h) fun u s1 ⟨x, H1, I1, rx, q1⟩ => thn (hi pins s1 σ H1 _ I1 q1) fun iv s2 ⟨y, H2, I2, ry, a, v, ex, g, q2⟩ => ?_)
 subst ex
 obtain rfl : u = Value.ref a := rx
 exact ⟨ZIn I2 g, ZKm hu I2 g ry fun w' s3 I3 rw' => ⟨v, H2, I3, rw', q2⟩⟩
theorem ZN9 (hu : X.A.units + 1 < cLine) (ho : PE X o td) (hi : PE X i ty) (hv : PE X value tv) (hs : swapsWith value (some (.Subscript o i pos')) pos.line X.env = pure false) :
  PS X (.Assign [.Subscript o i pos'] value pos) (ZJn td ty tv) := by
 intro pins s σ H D I h
 refine wpAny_Assign_Subscript (thn (hv pins s σ H _ I h) fun r s1 ⟨v, H1, I1, rv, q1⟩ => thn (ho pins s1 σ H1 _ I1 q1) fun u s2 ⟨x, H2, I2, rx, q2⟩ => thn (hi pins s2 σ H2 _ I2 q2) fun iv s3 ⟨y, H3, I3, ry, a, H4, ex, g, q3⟩ => ?_) hs
 subst ex
 obtain rfl : u = Value.ref a := rx
 exact ZKn hu I3 g ry rv fun s4 I4 => ⟨σ, H4, I4, q3⟩
end
theorem ZMN {P : Program} {w : World} {H : Hp} (h : Heap) (hb : sysModules < h.objs.size) : ZBw P w H (h.push { cls := .type "dict", data := .dict #[] }) h.objs.size (.dK []) :=
 ⟨Nat.zero_le _, beq_eq_false_iff_ne.mpr (Ne.symm (Nat.ne_of_lt hb)), [], .nil, Heap.DictOf.new h⟩
theorem ZMO {P : Program} {w : World} {H : Hp} (h : Heap) (hb : sysModules < h.objs.size) : ZBw P w H (h.push { cls := .type "dict", data := .dict #[] }) h.objs.size (.dT []) :=
 ⟨Nat.zero_le _, beq_eq_false_iff_ne.mpr (Ne.symm (Nat.ne_of_lt hb)), [], .nil, _, #[], 0, Heap.get?_push_size _ rfl, ⟨rfl, rfl, rfl⟩, rfl, rfl, List.nodup_nil⟩
def ZHv : TE := fun _ H Q => ∀ p, H p = none → Q (.ref p) (upd H p (.dK []))
def ZHw : TE := fun _ H Q => ∀ p, H p = none → Q (.ref p) (upd H p (.dT []))
section
variable {X : Cx} {pos : Pos}
theorem ZMP : PE X (.Dict [] [] pos) ZHv := fun pins s σ H Q I h =>
 wpAny_Dict_empty ⟨.ref s.heap.objs.size, _, I.laid (a := s.heap.objs.size) (o := .dK []) (t' := s.toks) (fun _ _ q => Heap.get?_push_of_some _ q) (Nat.le_refl _) (ZMN s.heap I.big), rfl, h _ (I.hok.fresh (Nat.le_refl _))⟩
theorem ZMQ : PE X (.Dict [] [] pos) ZHw := fun pins s σ H Q I h =>
 wpAny_Dict_empty ⟨.ref s.heap.objs.size, _, I.laid (a := s.heap.objs.size) (o := .dT []) (t' := s.toks) (fun _ _ q => Heap.get?_push_of_some _ q) (Nat.le_refl _) (ZMO s.heap I.big), rfl, h _ (I.hok.fresh (Nat.le_refl _))⟩
end
structure M1 (X : Cx) (o : Expr) (m : Str) (apos : Pos) (e : Expr) (cpos : Pos) : Prop where
 base : attributeBase o m X.env (eval o X.env) = eval o X.env
 few : ((backTo cpos (starEach [e] X.env)).all (fun x => !x.1) && (backToKw cpos (keywordEach [] X.env)).all (fun x => x.1.isSome)
  && decide (([e] : List Expr).length + ([] : List Keyword).length + (if ([] : List Keyword).isEmpty then 0 else 1) < 30)) = true
 line : (apos.endLine == cpos.line) = true
 trees : backTo cpos (starEach [e] X.env) = [(false, eval e X.env)]
def IsD (H : Hp) (a : Addr) : Prop := (∃ kvs, Rd H a (.dK kvs)) ∨ ∃ kvs, Rd H a (.dT kvs)
theorem ZPz {X : Cx} {pins : List (Addr × Obj)} {σ : St} {H : Hp} {s : Shared} {a : Addr} (I : Inv X pins σ H s) (d : IsD H a) :
  s.TypeIs (.ref a) "dict" ∧ (∀ b, Value.ref a = .ref b → ∃ ob, s.heap.get? b = some ob ∧ ob.dict = none) ∧ (a == sysModules) = false := by
 rcases d with ⟨kvs, e⟩ | ⟨kvs, e⟩
 ·obtain ⟨_, hd, vs, _, dd⟩ := ZEj I.hok e
  refine ⟨dd.typeIs, fun b q => ?_, hd⟩
  cases q
  obtain ⟨ob, _, _, h1, h2, _⟩ := dd
  exact ⟨ob, h1, h2.2.1⟩
 ·obtain ⟨_, hd, xs, _, dd⟩ := ZFY I.hok e
  refine ⟨dd.typeIs, fun b q => ?_, hd⟩
  cases q
  obtain ⟨ob, _, _, h1, h2, _⟩ := dd
  exact ⟨ob, h1, h2.2.1⟩
section
variable {X : Cx} {pins : List (Addr × Obj)} {σ : St} {H : Hp} {s : Shared} {a : Addr} {y d : V} {u r : Value} {o : Option V} {A : Around} {E : Value → Shared → Prop}
theorem ZP0 {Q : Value → Shared → Prop} (hu : A.units + 1 < cLine) (I : Inv X pins σ H s) (g : ZDK H a y o) (ry : ZBi y u) (h : ∀ w' s', Inv X pins σ H s' → ZBi (o.getD .non) w' → Q w' s') :
  wpAny (model X.prog X.w) A (call (.builtin "dict.get") [.ref a, u]) Q E s := by
 rcases g with ⟨kvs, k, e, ey, l⟩ | ⟨kvs, k, b, e, ey, eb, l⟩
 ·subst ey
  obtain ⟨z, hd, vs, rel, dd⟩ := ZEj I.hok e
  refine call_meetsIn PySem.F.slot_dict_get dd.typeIs PySem.F.entry_dict_get (PySem.F.args_dict_get_2 _ _) (meets_dict_get (ZB2 X.prog X.w) a (ZGR ry) hd) ⟨_, dd.mapOf, h _ _ (I.tok _) ?_⟩
  rw [l]
  exact (rel.val k).getD rfl
 ·subst ey
  cases (show u = Value.ref b from ry)
  obtain ⟨z, hd, xs, rel, dd⟩ := ZFY I.hok e
  refine call_meetsIn PySem.F.slot_dict_get dd.typeIs PySem.F.entry_dict_get (PySem.F.args_dict_get_2 _ _) (meetsH_dict_get (tupleKind (ZB2 X.prog X.w)) a b hd) ⟨tupleKind_room_in1 hu, k, xs, ZGS I.hok eb, dd, h _ _ (I.tok _) ?_⟩
  rw [l]
  exact (rel.val k).getD rfl
end
def ZHx (td ty : TE) : TE := fun σ H Q => td σ H fun x H1 => ∃ a, x = .ref a ∧ IsD H1 a ∧ ty σ H1 fun y H2 => ∃ o, ZDK H2 a y o ∧ Q (o.getD .non) H2
section
variable {X : Cx} {o e f : Expr} {apos cpos : Pos} {td ty tx : TE}
theorem ZMR (hu : X.A.units + 1 < cLine) (ho : PE X o td) (he : PE X e ty) (m : M1 X o "get" apos e cpos) : PE X (.Call (.Attribute o "get" apos) [e] [] cpos) (ZHx td ty) := by
 intro pins s σ H Q I h
 refine wpAny_Call_method m.base m.few m.line PySem.F.plainAttrs_dict PySem.F.slot_dict_get PySem.F.type_dict_get (thn (ho pins s σ H _ I h) fun u s1 ⟨x, H1, I1, rx, a, ex, d, q1⟩ => ?_)
 subst ex
 obtain rfl : u = Value.ref a := rx
 obtain ⟨t1, t2, _⟩ := ZPz I1 d
 refine ⟨t1, t2, ?_⟩
 rw [m.trees]
 refine Calls.callWith_builtin rfl (Calls.evalArgs_plain (Calls.spliced_cons (thn (he pins s1 σ H1 _ I1 q1) fun iv s2 ⟨y, H2, I2, ry, ov, g, q2⟩ => Calls.spliced_nil ?_)))
 exact ZP0 hu I2 g ry fun w' s3 I3 rw' => ⟨_, H2, I3, rw', q2⟩
end
section
variable {X : Cx} {pins : List (Addr × Obj)} {σ : St} {H : Hp} {s : Shared} {a : Addr} {kvs : List (Key × V)} {A : Around} {E : Value → Shared → Prop}
end
section
variable {X : Cx} {pins : List (Addr × Obj)} {σ : St} {H : Hp} {s : Shared} {a : Addr} {y : V} {u : Value} {A : Around} {E : Value → Shared → Prop}
end
theorem ZHy : typeLookup (.type "list") "keys" = pure none := by rw [typeLookup_type, builtinLookup_eq_fast]; kernel_rfl
theorem ZFE {prog : Program} {w : World} {A : Around} {E : Value → Shared → Prop} {s : Shared} {a : Addr} {o : Obj} {xs : Array Value} {k : Nat} {Q : Option Value → Shared → Prop}
  (hx : s.heap.get? a = some o) (hc : o.cls = .type "list") (hdat : o.data = .seq xs k) (hd : o.dict = none) (hA : A.handled = none)
  (h : ∀ h' tk, (∀ b u, s.heap.get? b = some u → h'.get? b = some u) → Q none { s with heap := h', toks := tk }) :
  wpAny (model prog w) A (getAttr? (.ref a) "keys") Q E s := by
 obtain ⟨c, dct, dat, sl⟩ := o
 simp only at hc hdat hd
 subst hc hdat hd
 obtain ⟨hp, g, d, tk, os⟩ := s
 have hT : ∀ tk', (⟨hp, g, d, tk', os⟩ : Shared).TypeIs (.ref a) "list" := fun _ => ⟨_, hx, rfl⟩
 have f1 := sub_AttributeError
 have f3 := F.slot_list_getattribute.lookup
 have f4 := F.slot_list_getattribute.bind (.ref a)
 have f5 := am_list_getattr_none
 unfold getAttr? getAttrBy? getAttrBy
 repeat (any_goals (first | assumption | exact hT _ | ((with_reducible show wpAny _ _ (call (Value.builtin "list.__getattribute__") _ _) _ _ _); refine call_meets F.slot_list_getattribute (hT _) am_entry_list_getattribute (F.args_list_getattribute_2 _ _) (meets_getattribute_miss_list a xs k sl "keys" _ ZHy (by decide +kernel) (by size_fits)) ⟨hx, hA, fun h' tk' e hx' => ?_⟩) | wp_step))
 obtain ⟨t', u', he⟩ := hx'.there
 show wpAny _ _ (getattributeRaised _ _ _ _ _ _ _) _ _ _
 unfold getattributeRaised
 repeat (any_goals (first | assumption | wp_step))
 exact h _ _ hx'.keeps
theorem ZG5 : entryFor table "dict.update.loop" = some Builtin.«dict.update.loop» := entryFor_of_tree (by kernel_rfl)
theorem ZDp : plainId "dict.update.loop" = true := by decide +kernel
def ZHW {κ : Type} [DecidableEq κ] (key : Nat → κ) (val : Nat → Value) : Nat → Nat → List (κ × Value) → List (κ × Value)
 | _, 0, kvs => kvs
 | i, k + 1, kvs => ZHW key val (i + 1) k (stored kvs (key i) (val i))
section
variable {prog : Program} {w : World} {A : Around} {R : Result → Shared → Prop} {I : Addr} {fp wr : List Addr} {n : Nat} {P : Nat → Value → Prop} {St : Nat → Heap → Prop} {κ : Type} [DecidableEq κ] {knd : KeyKind prog w κ}
theorem ZFi (W : Walks prog w A.in1 I fp wr n P St) (D : Addr) (hDf : D ∉ fp) (h0 : Heap) (key : Nat → κ) (val : Nat → Value)
  (hval : ∀ i v, P i v → ∃ p kv, v = .ref p ∧ p ≠ D ∧ p ∉ wr ∧ knd.is (key i) kv = true ∧ IsTup h0 p #[kv, val i]) (hn : n < sizeLine) :
  ∀ (k i : Nat) (s : Shared) (kvs : List (κ × Value)), n - i = k → i ≤ n → St i s.heap → s.heap.DictOf knd D kvs → kvs.length ≤ i → (∀ b o, b ≠ D → b ∉ wr → h0.get? b = some o → s.heap.get? b = some o) →
   (∀ h' tk, h'.DictOf knd D (ZHW key val i k kvs) → (∀ b o, b ≠ D → b ∉ wr → h0.get? b = some o → h'.get? b = some o) → R (.ok (.ret .none)) { s with heap := h', toks := tk }) →
   codeAny (model prog w) A (.builtin "dict.update.loop" ⟨[.ref D, .ref I, rawInt i, .none], []⟩) R s := by
 have hDw : D ∉ wr := fun h => hDf (W.sub _ h)
 intro k
 induction k with
 | zero =>
  intro i s kvs hk hi hst hD hl hkeep hR
  have hin : i = n := by omega
  subst hin
  refine codeAny_builtin ZG5 ?_
  rw [Around.under_plainId ZDp _]
  show wpAny _ A.in1 (pyNext (.ref I) >>= _) _ _ s
  refine wpAny_bind (W.done s _ _ hst fun h' tk hm => ?_)
  show wpAny _ A.in1 (do Builtin.Dict.addKeywords D []; ret Value.none) _ _ _
  refine wpAny_bind (wpAny_pure (wpAny_pure (hR h' tk ?_ fun b o h1 h2 e => hm b o h2 (hkeep b o h1 h2 e))))
  obtain ⟨o, es, ep, ho, r⟩ := hD
  exact ⟨o, es, ep, hm _ _ hDw ho, r⟩
 | succ k ih =>
  intro i s kvs hk hi hst hD hl hkeep hR
  have hlt : i < n := by omega
  refine codeAny_builtin ZG5 ?_
  rw [Around.under_plainId ZDp _]
  show wpAny _ A.in1 (pyNext (.ref I) >>= _) _ _ s
  refine wpAny_bind (W.item i s _ _ hlt hst fun v h' tk hP hst' hm => ?_)
  obtain ⟨p, kv, rfl, hpD, hpw, hkv, o, ho, hc, c, hd⟩ := hval i v hP
  have hp' := hm _ _ hpw (hkeep _ _ hpD hpw ho)
  have hD' : h'.DictOf knd D kvs := by
   obtain ⟨o, es, ep, ho, r⟩ := hD
   exact ⟨o, es, ep, hm _ _ hDw ho, r⟩
  show wpAny _ A.in1 (holding [Value.ref p] _ >>= _) _ _ _
  refine wpAny_bind (wpAny_holding ?_)
  refine wpAny_bind ?_
  refine wpAny_tryCatch (E := _) ?_
  have hT : (⟨h', s.gens, s.drawn, tk, s.os⟩ : Shared).TypeIs (.ref p) "tuple" := ⟨o, hp', hc⟩
  unfold Builtin.Dict.pairItems
  refine wpAny_bind (wpAny_typeOf hT ?_)
  rw [if_pos (by decide)]
  refine wpAny_bind (wpAny_seqItems hp' hd (wpAny_pure ?_))
  show wpAny _ A.in1 (holding [kv, val i] (dictSet D kv (val i))) _ _ _
  refine wpAny_holding (wpAny_dictSet_pairs (hsz := by omega) hkv hD' fun h2 hD2 hs2 => ?_)
  have e1 : (rawInt ((i : Int) + 1)) = rawInt ((i + 1 : Nat) : Int) := rfl
  rw [e1]
  refine wpAny_pure ⟨plainId_quiet ZDp _, ih (i + 1) _ (stored kvs (key i) (val i)) (by omega) hlt (W.frame _ h' _ hst' fun b hb o e => ?_) hD2 ?_ (fun b o h1 h2 e => ?_) fun h3 tk3 hD3 hk3 => ?_⟩
  ·exact (hs2.2 b (fun z => hDf (by rw [← z]; exact hb))).trans e
  ·unfold stored
   split
   ·rw [List.length_map]; omega
   ·rw [List.length_append]; exact Nat.succ_le_succ hl
  ·exact (hs2.2 b h1).trans (hm b o h2 (hkeep b o h1 h2 e))
  ·exact hR h3 tk3 hD3 hk3
end
def ZJo (H : Hp) (vs : List V) (prs : List (Key × V)) : Prop := Paired (fun v (p : Key × V) => ∃ a, v = V.ref a ∧ H a = some (.tup [kV p.1, p.2])) vs prs
def ZGT (prs : List (Key × V)) : List (Key × V) := prs.foldl (fun acc p => ZCH acc p.1 p.2) []
def ZGh (K : W.Frag) : List V → Hp → VK → Prop := fun xs H Q => ∃ p vs prs, xs = [.ref p] ∧ SqL K H p vs ∧ ZJo H vs prs ∧ vs.length < sizeLine ∧ ∀ l, H l = none → Q (.ref l) (upd H l (.dK (ZGT prs)))
theorem ZHz {key : Nat → Key} {val : Nat → Value} : ∀ (prs : List (Key × V)) (i : Nat) (acc : List (Key × V)) (us : List (Key × Value)), KV acc us → (∀ (j : Nat) (p : Key × V), prs[j]? = some p → key (i + j) = p.1 ∧ ZBi p.2 (val (i + j))) →
  KV (prs.foldl (fun acc p => ZCH acc p.1 p.2) acc) (ZHW key val i prs.length us)
 | [], _, _, _, h, _ => h
 | p :: prs, i, acc, us, h, hv => by
  obtain ⟨e1, r1⟩ := hv 0 p rfl
  rw [Nat.add_zero] at e1 r1
  have := ZHz prs (i + 1) (ZCH acc p.1 p.2) (stored us p.1 (val i)) (h.put p.1 r1) fun j q hq => by
   have := hv (j + 1) q (by simpa using hq)
   rw [show i + 1 + j = i + (j + 1) by omega]
   exact this
  show KV _ (ZHW key val (i + 1) prs.length (stored us (key i) (val i)))
  rw [e1]
  exact this
theorem ZFF : ∀ (prs acc : List (Key × V)), (prs.foldl (fun acc p => ZCH acc p.1 p.2) acc).length ≤ acc.length + prs.length
 | [], acc => Nat.le_refl _
 | p :: prs, acc => by
  have h1 := ZFF prs (ZCH acc p.1 p.2)
  have h2 := ZDD acc p.1 p.2
  show (prs.foldl (fun acc p => ZCH acc p.1 p.2) (ZCH acc p.1 p.2)).length ≤ acc.length + (prs.length + 1)
  omega
theorem ZFv {P : Program} {w : World} {H : Hp} {h : Heap} (ok : HOk P w H h) : ∀ {vs : List V} {prs : List (Key × V)} {its : List Value}, ZJo H vs prs → ZBj vs its →
  ∃ ps : List (Addr × Value × Value), ps.length = prs.length ∧ its = ps.map (fun x => Value.ref x.1) ∧ ∀ (i : Nat) x, ps[i]? = some x → ∃ p, prs[i]? = some p ∧ IsTup h x.1 #[x.2.1, x.2.2] ∧ ZEF p.1 x.2.1 = true ∧ ZBi p.2 x.2.2
 | _, _, _, .nil, .nil => ⟨[], rfl, rfl, fun i x e => by simp at e⟩
 | _, _, _, @Paired.cons _ _ _ v p vs prs ⟨c, e, z⟩ t, .cons r rr => by
  obtain ⟨ps, h1, h2, h3⟩ := ZFv ok t rr
  subst e
  cases r
  obtain ⟨_, its, rv, ht⟩ := ok c _ z
  obtain ⟨k1, k2, rfl, r1, r2⟩ := ZBj.two rv
  refine ⟨(c, k1, k2) :: ps, by simp [h1], by rw [h2]; rfl, fun i x e => ?_⟩
  cases i with
  | zero =>
   simp at e; subst e
   exact ⟨p, rfl, ht, ZGR (P := P) (w := w) r1, r2⟩
  | succ i =>
   obtain ⟨q, g1, g2⟩ := h3 i x (by simpa using e)
   exact ⟨q, by simpa using g1, g2⟩
theorem ZOA {X : Cx} (K : W.Frag) (hK : X.K = K) (hc : X.calm = true) : ZBy X (.type "dict") (ZGh K) := by
 subst hK
 intro pins s σ H xs us Q I r h
 obtain ⟨p, vs, prs, rfl, hS, hP, hz, q⟩ := h
 obtain ⟨u, rfl, ru⟩ := r.one
 cases ru
 obtain ⟨its, rv, pl, _⟩ := I.list hS
 obtain ⟨ol, nl, hol, hcl, hdl, hsl⟩ := id pl
 refine PySem.callType_codes (Q₁ := fun obj s₁ => obj = .ref s.heap.objs.size ∧ s₁ = { s with heap := s.heap.push { cls := .type "dict", data := .dict #[] } }) F.kt_called_dict (F.kt_typeCall_dict_1 _) F.entry_dict_init (PySem.kt_code_dict_new _ ⟨rfl, rfl⟩) ?_
 rintro obj s₁ ⟨rfl, rfl⟩
 have hnew : (s.heap.push { cls := .type "dict", data := .dict #[] }).DictOf (ZB2 X.prog X.w) s.heap.objs.size [] := Heap.DictOf.new s.heap
 refine ⟨hnew.typeIs, F.args_dict_init_2 _ _, ?_⟩
 unfold Builtin.«dict.__init__»
 refine wpAny_bind ?_
 unfold Builtin.Dict.selfAndRest
 refine wpAny_bind (wpAny_notOrdered_dict hnew.typeIs ?_)
 show wpAny _ _ (pure (s.heap.objs.size, [Value.ref p])) _ _ _
 refine wpAny_pure ?_
 show wpAny _ _ (Builtin.Dict.updateFrom "dict.__init__" s.heap.objs.size (.ref p) [] .none) _ _ _
 unfold Builtin.Dict.updateFrom
 have hol' : (s.heap.push { cls := .type "dict", data := .dict #[] }).get? p = some ol := Heap.get?_push_of_some _ hol
 refine wpAny_bind (wpAny_typeOf (T := "list") ⟨ol, hol', hcl⟩ ?_)
 rw [if_pos (by decide)]
 refine wpAny_bind (ZFE hol' hcl hsl hdl ?_ fun h1 tk1 hk1 => ?_)
 ·exact I.ok.hd hc
 rw [if_pos (show (none : Option Value).isNone = true from rfl)]
 refine wpAny_bind (wpAny_rule ?_)
 have hl1 : h1.IsList p its.toArray := ⟨ol, hk1 _ _ hol', hcl, nl, hsl⟩
 refine wpAny_bind (wpAny_pyIter_list hl1 ?_)
 refine wpAny_pure ⟨plainId_quiet ZDp _, ?_⟩
 have hlt : p < h1.objs.size := Heap.lt_size (hk1 _ _ hol')
 have hD1 : s.heap.objs.size < h1.objs.size := by
  obtain ⟨oD, _, _, hoD, _⟩ := hnew
  exact Heap.lt_size (hk1 _ _ hoD)
 obtain ⟨ps, hps, rfl, hprs⟩ := ZFv I.hok hP rv
 have keepS : ∀ b o, s.heap.get? b = some o → (h1.push { cls := .type "list_iterator", data := .fields #[.ref p, rawInt 0] }).get? b = some o := fun b o e => Heap.get?_push_of_some _ (hk1 _ _ (Heap.get?_push_of_some _ e))
 have hps' : p < s.heap.objs.size := Heap.lt_size hol
 have hlen : vs.length = prs.length := Paired.length hP
 have W := Walks.list (prog := X.prog) (w := X.w) (A := X.A.in1.in1) (I.ok.hd hc) h1.objs.size p (Nat.ne_of_lt hlt) (ps.map fun x => Value.ref x.1).toArray
 have hsz : (ps.map fun x => Value.ref x.1).toArray.size = prs.length := by simp [hps]
 refine ZFi (A := X.A.in1) (knd := ZB2 X.prog X.w) W s.heap.objs.size ?_ s.heap (fun i => ((prs[i]?).map (·.1)).getD (.inl 0)) (fun i => ((ps[i]?).map (·.2.2)).getD .none) ?_ ?_ prs.length 0 _ [] ?_ (Nat.zero_le _) ⟨?_, ?_⟩ ?_ (Nat.le_refl _) ?_ ?_
 ·intro z
  simp only [List.mem_cons, List.not_mem_nil, or_false] at z
  rcases z with z | z
  ·exact Nat.ne_of_lt hD1 z
  ·exact Nat.ne_of_gt hps' z
 ·intro i v hv
  have hv' : (ps.map fun x => Value.ref x.1)[i]? = some v := by simpa using hv
  rw [List.getElem?_map] at hv'
  cases hx : ps[i]? with
  | none => rw [hx] at hv'; cases hv'
  | some x =>
   rw [hx] at hv'
   cases hv'
   obtain ⟨q, g1, g2, g3, g4⟩ := hprs i x hx
   have hl2 : x.1 < s.heap.objs.size := by obtain ⟨o, ho, _⟩ := g2; exact Heap.lt_size ho
   refine ⟨x.1, x.2.1, rfl, Nat.ne_of_lt hl2, ?_, ?_, ?_⟩
   ·intro z
    simp only [List.mem_cons, List.not_mem_nil, or_false] at z
    exact Nat.ne_of_lt (Nat.lt_trans hl2 hD1) z
   ·rw [g1]; exact g3
   ·exact g2
 ·rw [hsz, ← hlen]; exact hz
 ·rw [hsz]; rfl
 ·exact ⟨_, Heap.get?_push_size _ rfl, rfl, rfl⟩
 ·obtain ⟨o, a1, a2, a3, a4⟩ := hl1
  exact ⟨o, Heap.get?_push_of_some _ a1, a2, a3, a4⟩
 ·obtain ⟨o, es, ep, ho, rr⟩ := hnew
  exact ⟨o, es, ep, Heap.get?_push_of_some _ (hk1 _ _ ho), rr⟩
 ·intro b o _ _ e
  exact keepS b o e
 ·intro h' tk hD hkp
  have hkv := ZHz (key := fun i => ((prs[i]?).map (·.1)).getD (.inl 0)) (val := fun i => ((ps[i]?).map (·.2.2)).getD .none) prs 0 [] [] .nil fun j q hq => by
   rw [Nat.zero_add]
   have hj : j < ps.length := by rw [hps]; exact (List.getElem?_eq_some_iff.mp hq).1
   obtain ⟨q', g1, _, _, g4⟩ := hprs j ps[j] (List.getElem?_eq_getElem hj)
   rw [hq] at g1
   cases g1
   constructor
   ·simp only [hq]; rfl
   ·simp only [List.getElem?_eq_getElem hj]; exact g4
  have hd2 := ZFF prs []
  refine ⟨rfl, .ref s.heap.objs.size, upd H s.heap.objs.size (.dK (ZGT prs)), I.laid (t' := tk) (fun b o e => hkp b o (Nat.ne_of_lt (Heap.lt_size e)) (fun z => ?_) e) (Nat.le_refl _) (ZHu ?_ (beq_eq_false_iff_ne.mpr (Ne.symm (Nat.ne_of_lt I.big))) hkv hD), rfl, q _ (I.hok.fresh (Nat.le_refl _))⟩
  ·simp only [List.mem_cons, List.not_mem_nil, or_false] at z
   exact Nat.ne_of_lt (Nat.lt_trans (Heap.lt_size e) hD1) z
  ·show (prs.foldl (fun acc p => ZCH acc p.1 p.2) []).length ≤ sizeLine
   simp only [List.length_nil] at hd2
   omega
section
variable {prog : Program} {w : World} {A : Around} {E : Value → Shared → Prop} {s : Shared} {κ : Type} [DecidableEq κ] {knd : KeyKind prog w κ}
theorem ZH0 {d : Addr} {kvs : List (κ × Value)} {ep : Nat} {Q : List Value → Shared → Prop} (hh : A.handled = none) (hd : (d == sysModules) = false) (hm : s.heap.DictAt knd d kvs ep) (hn : kvs.length ≤ sizeLine)
  (hQ : ∀ s' acc, (∀ b o, s.heap.get? b = some o → s'.heap.get? b = some o) → s'.gens = s.gens → s'.drawn = s.drawn → s'.os = s.os → s.heap.objs.size < s'.heap.objs.size → ItemsOf (fun i v => ∃ k x, kvs[i]? = some (k, x) ∧ knd.is k v = true) acc kvs.length → Q acc.toList s') :
  wpAny (model prog w) A (collect (.ref d)) Q E s := by
 have hdl : d < s.heap.objs.size := let ⟨_, _, ho, _⟩ := hm; Heap.lt_size ho
 unfold collect
 refine wpAny_bind (wpAny_runValue (codeAny_builtin F.entry_proto_collect ?_))
 rw [Around.under_plainId F.plain_proto_collect _]
 show wpAny _ A.in1 (newList [] >>= fun l => again (.builtin "list.__iadd__" ⟨[l, .ref d], []⟩)) _ _ s
 refine wpAny_bind (wpAny_newObj_type ?_)
 refine wpAny_pure ⟨plainId_quiet F.plain_list_iadd _, codeAny_builtin F.entry_list_iadd ?_⟩
 rw [Around.under_plainId F.plain_list_iadd _]
 generalize hH : s.heap.push { cls := .type "list", data := .seq ([] : List Value).toArray } = H
 have hHs : H.objs.size = s.heap.objs.size + 1 := by rw [← hH, Heap.size_push]
 have hm1 : H.DictAt knd d kvs ep := hm.at' fun o e => hH ▸ Heap.get?_push_of_some _ e
 have hT1 : (⟨H, s.gens, s.drawn, s.toks, s.os⟩ : Shared).TypeIs (.ref d) "dict" := hm1.dictOf.typeIs
 show wpAny _ A.in1 (Builtin.List.listExtendWith (.ref s.heap.objs.size) (.ref d) (.ref s.heap.objs.size)) _ _ (⟨H, s.gens, s.drawn, s.toks, s.os⟩ : Shared)
 unfold Builtin.List.listExtendWith
 refine wpAny_bind (wpAny_typeOf hT1 ?_)
 have h1 : Builtin.List.listSameRef (.ref s.heap.objs.size) (.ref d) = false := by
  simp only [Builtin.List.listSameRef]
  exact beq_eq_false_iff_ne.mpr (Nat.ne_of_gt hdl)
 have h2 : (Value.type "dict" == Value.type "list") = false := by decide
 have h3 : (Value.type "dict" == Value.type "tuple") = false := by decide
 simp only [h1, h2, h3, Bool.or_false, Bool.false_eq_true, if_false]
 refine wpAny_bind (wpAny_pyIter_dict hd hm1 ?_)
 generalize hO : ({ cls := .type "dict_keyiterator", data := .fields #[.ref d, .int 0 0, .int kvs.length 0, .int ep 0] } : Obj) = O
 have hm2 : (H.push O).DictAt knd d kvs ep := hm1.at' fun o e => Heap.get?_push_of_some _ e
 have hT2 : (⟨H.push O, s.gens, s.drawn, s.toks, s.os⟩ : Shared).TypeIs (.ref d) "dict" := hm2.dictOf.typeIs
 refine wpAny_bind (wpAny_holding ?_)
 unfold Builtin.List.listLengthHint
 refine wpAny_bind (wpAny_specialOf hT2 PySem.F.slot_dict_len.lookup ?_)
 wp_delta
 refine wpAny_bind (wpAny_isInstance (b := true) hT2 (by rw [isSubtype_type]; kernel_rfl) ?_)
 show wpAny _ A.in1 (typeOf (Value.ref d) >>= _) _ _ _
 refine wpAny_bind (wpAny_typeOf hT2 ?_)
 refine wpAny_pure ?_
 show wpAny _ A.in1 (rule "list.extend.makes-room" >>= fun _ => Builtin.List.listTouch (.ref s.heap.objs.size) >>= fun _ =>
  again (.builtin "list.extend.loop" ⟨[.ref s.heap.objs.size, .ref H.objs.size, .ref s.heap.objs.size], []⟩)) _ _ _
 refine wpAny_bind (wpAny_rule ?_)
 have hS₁ : (H.push O).get? s.heap.objs.size = some { cls := .type "list", data := .seq ([] : List Value).toArray } := Heap.get?_push_of_some _ (hH ▸ Heap.get?_push_size _ rfl)
 refine wpAny_bind ?_
 show wpAny _ A.in1 (updateSeq s.heap.objs.size (·.push .none) >>= fun _ => updateSeq s.heap.objs.size (·.pop)) _ _ _
 refine wpAny_bind (wpAny_updateSeq hS₁ rfl ?_)
 have hS₂ := Heap.get?_update_self (Obj.mapSeq (·.push Value.none)) hS₁ rfl
 refine wpAny_updateSeq hS₂ rfl ?_
 have hS₃ := Heap.get?_update_self (Obj.mapSeq (·.pop)) hS₂ rfl
 have oth : ∀ b o, b ≠ s.heap.objs.size → (H.push O).get? b = some o → (((H.push O).update s.heap.objs.size (Obj.mapSeq (·.push Value.none))).update s.heap.objs.size (Obj.mapSeq (·.pop))).get? b = some o :=
  fun b o hb e => (Heap.get?_update_other _ _ (Ne.symm hb)).trans ((Heap.get?_update_other _ _ (Ne.symm hb)).trans e)
 have hdH : d < H.objs.size := by rw [hHs]; exact Nat.lt_succ_of_lt hdl
 have hHne : H.objs.size ≠ s.heap.objs.size := by rw [hHs]; exact Nat.succ_ne_self _
 have hSf : s.heap.objs.size ∉ [H.objs.size, d] := fun z => by
  simp only [List.mem_cons, List.not_mem_nil, or_false] at z
  rcases z with z | z
  ·exact hHne z.symm
  ·exact Nat.ne_of_gt hdl z
 have W := (Walks.dictKeys (knd := knd) (A := A.in1) hh H.objs.size d (Nat.ne_of_lt hdH) kvs ep).toS
 refine wpAny_pure ⟨plainId_quiet F.plain_extend_loop _, codeAny_extend_loopS (A := A) W hn _ hSf _ kvs.length 0 _ _ _ rfl (Nat.zero_le _) ⟨?_, ?_⟩ hS₃ (ItemsOf.nil _) fun s' acc' c' hmv hS' hacc => ?_⟩
 ·exact ⟨_, oth _ _ hHne (Heap.get?_push_size _ (by rw [← hO]; rfl)), by rw [← hO], by rw [← hO]; rfl⟩
 ·exact hm2.at' fun o e => oth _ _ (Nat.ne_of_lt hdl) e
 ·show wpAny _ A (load s.heap.objs.size >>= _) _ _ s'
  refine wpAny_bind (wpAny_load hS' ?_)
  refine wpAny_pure (hQ s' acc' (fun b ob e => hmv.heap b ob (fun hb => ?_) (oth _ _ (Nat.ne_of_lt (Heap.lt_size e)) (Heap.get?_push_of_some _ (hH ▸ Heap.get?_push_of_some _ e)))) hmv.gens hmv.drawn hmv.os (Heap.lt_size hS') hacc)
  have hlt := Heap.lt_size e
  simp only [List.mem_cons, List.not_mem_nil, or_false] at hb
  rcases hb with h | h
  ·exact Nat.ne_of_lt hlt h
  ·rw [h, hHs] at hlt; exact absurd hlt (Nat.not_lt.mpr (Nat.le_succ _))
theorem ZIp {d : Addr} {kvs : List (κ × Value)} {ep : Nat} {Q : Value → Shared → Prop} (hh : A.handled = none) (hd : (d == sysModules) = false) (hm : s.heap.DictAt knd d kvs ep) (h64 : kvs.length < 64)
  (hI : ∀ acc : Array Value, ItemsOf (fun i v => ∃ k x, kvs[i]? = some (k, x) ∧ knd.is k v = true) acc kvs.length → ∃ ns, IntsAre acc.toList ns ∧ ∀ (s' : Shared) (l : Addr) (out : Array Value) (ns' : List Int) (e : Nat), s.heap.objs.size ≤ l → (∀ b o, s.heap.get? b = some o → s'.heap.get? b = some o) → s'.gens = s.gens → s'.drawn = s.drawn → s'.os = s.os →
   s'.heap.get? l = some (seqObj "list" out e) → out.size = kvs.length → IntsAre out.toList ns' → ns'.Perm ns → ns'.Pairwise (· ≤ ·) → Q (.ref l) s') :
  wpAny (model prog w) A (call (.builtin "sorted") [.ref d]) Q E s := by
 refine Calls.call_function_entry kind_sorted plain_sorted entry_sorted (args_sorted1 _) ?_
 unfold Builtin.«sorted»
 refine wpAny_bind (m := checkCount "sorted" 1 1 _) (wpAny_pure ?_)
 refine wpAny_bind (ZH0 (knd := knd) hh hd hm (by rw [sizeLine_eq]; omega) fun s1 acc hk e1 e2 e3 hlt hacc => ?_)
 obtain ⟨ns, hns, hQ⟩ := hI acc hacc
 refine wpAny_bind (wpAny_newList (hsz := by rw [Array.length_toList, hacc.1, sizeLine_eq]; omega) ?_)
 have hoL : (s1.heap.push (seqObj "list" acc.toList.toArray 0)).get? s1.heap.objs.size = some (seqObj "list" acc.toList.toArray 0) := Heap.get?_push_size _ rfl
 show wpAny _ _ _ _ _ { s1 with heap := s1.heap.push (seqObj "list" acc.toList.toArray 0) }
 refine wpAny_bind (wpAny_holding (wpAny_call_entry slot_list_sort ⟨_, hoL, rfl⟩ entry_list_sort (list_sort_tree hoL hns (by rw [Array.length_toList, hacc.1]; exact h64) fun out ns' a1 a2 a3 => ⟨_, rfl, ?_⟩) (args_list_sort _)))
 refine wpAny_pure ⟨_, rfl, ?_⟩
 obtain ⟨e, he⟩ := sortedHeap_at (out := out) hoL
 have hle : s.heap.objs.size ≤ s1.heap.objs.size := Nat.le_of_lt hlt
 refine hQ _ _ out ns' e hle (fun b o eb => ?_) e1 e2 e3 he ?_ a1 a2 a3
 ·have hb := Heap.lt_size (hk _ _ eb)
  exact (sortedHeap_old (Nat.ne_of_lt hb) (by rw [Heap.size_push]; exact Nat.lt_succ_of_lt hb)).trans (Heap.get?_push_of_some _ (hk _ _ eb))
 ·have l1 := IntsAre.length a1
  have l2 := IntsAre.length hns
  have l3 := a2.length_eq
  have l4 := hacc.1
  simp only [Array.length_toList] at l1 l2
  omega
end
theorem ZG6 : ∀ (vs : List (Key × Value)) (ns : List Int) (l : List Value), vs.map (·.1) = ns.map Sum.inl → l.length = vs.length → (∀ (j : Nat) (v : Value), l[j]? = some v → ∃ k x, vs[j]? = some (k, x) ∧ ZEF k v = true) → IntsAre l ns
 | [], [], [], _, _, _ => .nil
 | [], [], _ :: _, _, h, _ => by simp at h
 | [], _ :: _, _, h, _, _ => by simp at h
 | _ :: _, [], _, h, _, _ => by simp at h
 | _ :: _, _ :: _, [], _, h, _ => by simp at h
 | (k, x) :: vs, n :: ns, v :: l, h1, h2, h3 => by
  simp only [List.map_cons, List.cons.injEq] at h1
  obtain ⟨rfl, h1⟩ := h1
  obtain ⟨k', x', e, hk⟩ := h3 0 v rfl
  simp only [List.getElem?_cons_zero, Option.some.injEq, Prod.mk.injEq] at e
  obtain ⟨rfl, rfl⟩ := e
  rcases ZCG hk with ⟨i, t, e1, e2⟩ | ⟨y, t, e1, e2⟩
  ·cases e1; cases e2
   refine .cons _ _ (ZG6 vs ns l h1 (by simpa using h2) fun j v e => ?_)
   have := h3 (j + 1) v (by simpa using e)
   simpa using this
  ·cases e1
theorem KV.keysEq {κ : Type} : ∀ {kvs : List (κ × V)} {us : List (κ × Value)}, KV kvs us → us.map (·.1) = kvs.map (·.1)
 | _, _, .nil => rfl
 | _, _, .cons h t => by rw [List.map_cons, List.map_cons, h.1, KV.keysEq t]
theorem IntsAre.vals : ∀ {vs : List Value} {ns : List Int}, IntsAre vs ns → ZBj (ns.map V.int) vs
 | _, _, .nil => .nil
 | _, _, .cons _ t h => .cons ⟨t, rfl⟩ (IntsAre.vals h)
def ZH1 : List V → Hp → VK → Prop := fun xs H Q => ∃ (p : Addr) (kvs : List (Key × V)) (ns : List Int), xs = [.ref p] ∧ Rd H p (.dK kvs) ∧ kvs.map (·.1) = ns.map Sum.inl ∧ kvs.length < 64 ∧ ∀ (l : Addr) (ns' : List Int), H l = none → ns'.Perm ns → ns'.Pairwise (· ≤ ·) → Q (.ref l) (upd H l (.lst (ns'.map V.int)))
theorem ZGU {X : Cx} (hc : X.calm = true) : ZBy X (.builtin "sorted") ZH1 := by
 intro pins s σ H xs us Q I r h
 obtain ⟨p, kvs, ns, rfl, hd, hns, h64, q⟩ := h
 obtain ⟨u, rfl, ru⟩ := r.one
 cases ru
 obtain ⟨z, hd, vs, rel, dd⟩ := ZEj I.hok hd
 obtain ⟨ep, dd⟩ := dd.dictAt
 have hlen : vs.length = kvs.length := rel.length.symm
 refine ZIp (I.ok.hd hc) hd dd (by rw [hlen]; exact h64) fun acc hacc => ⟨ns, ?_, fun s' l out ns' e hl hk e1 e2 e3 he ho a1 a2 a3 => ?_⟩
 ·exact ZG6 vs ns acc.toList (by rw [KV.keysEq rel]; exact hns) (by rw [Array.length_toList]; exact hacc.1) fun j v e => hacc.2 j v (by simpa using e)
 ·obtain ⟨h', g', d', tk, os'⟩ := s'
  simp only at e1 e2 e3
  subst e1 e2 e3
  refine ⟨.ref l, upd H l (.lst (ns'.map V.int)), I.laid (t' := tk) hk hl ?_, rfl, q l ns' (I.hok.fresh hl) a2 a3⟩
  refine ⟨?_, out.toList, e, IntsAre.vals a1, he⟩
  have l1 := a2.length_eq
  have l2 := congrArg List.length hns
  simp only [List.length_map] at l2 ⊢
  rw [sizeLine_eq]
  omega
section
variable {prog : Program} {w : World} {A : Around} {E : Value → Shared → Prop} {I : Addr} {fp wr : List Addr} {n : Nat} {P : Nat → Value → Prop} {St : Nat → Heap → Prop}
end
section
variable {X : Cx} {pos : Pos}
end
section
variable {X : Cx} {o i value : Expr} {pos pos' : Pos} {td ty tv : TE}
theorem ZQo {b : Expr} (h : ZHV b = false) : ZMM b := by
 intro ov iv
 cases b <;> first | rfl | cases h
theorem ZJC (hu : X.A.units + 1 < cLine) (ho : QE X o td) (hi : QE X i ty) (hs : ZHV i = false := by rfl) : QE X (.Subscript o i pos) (ZJm td ty) := ⟨ZN8 hu ho.h hi.h (ZQo hs)⟩
theorem ZFZ (hu : X.A.units + 1 < cLine) (hv : QE X value tv) (ho : QE X o td) (hi : QE X i ty) (hs : ZCz value = false := by rfl) : QS X (.Assign [.Subscript o i pos'] value pos) (ZJn td ty tv) := ⟨ZN9 hu ho.h hi.h hv.h (ZDg hs)⟩
theorem ZFw : QE X (.Dict [] [] pos) ZHv := ⟨ZMP⟩
end
section
variable {σ : St} {H : Hp} {Q : VK} {D : ZCK}
def ZNC (x y : V) (H : Hp) (Q : VK) : Prop := ∃ a v, x = .ref a ∧ ZDK H a y (some v) ∧ Q v H
theorem ZMS {td ty : TE} (h : td σ H fun x H1 => ty σ H1 fun y H2 => ZNC x y H2 Q) : ZJm td ty σ H Q := h
def ZJp (v x y : V) (H : Hp) (R : Hp → Prop) : Prop := ∃ a H4, x = .ref a ∧ ZEk H a y v H4 ∧ R H4
theorem ZMT {td ty tv : TE} (h : tv σ H fun v H1 => td σ H1 fun x H2 => ty σ H2 fun y H3 => ZJp v x y H3 (D.nx σ)) : ZJn td ty tv D σ H := h
def ZJq (H : Hp) (Q : VK) : Prop := ∀ p, H p = none → Q (.ref p) (upd H p (.dK []))
theorem ZMU (h : ZJq H Q) : ZHv σ H Q := h
theorem ZOB (h : ∀ p H2, H p = none → H2 p = some (.dK []) → ZBd H H2 → Q (.ref p) H2) : ZJq H Q := fun p hp => h p _ hp ZBg (ZBd.new hp)
end
def ZCQ (m : PL) (t : Int) : Option Int := (m.find? fun kv => decide (kv.1 = t)).map (·.2)
def ZCL (m : PL) (t h : Int) : PL := if (m.any fun kv => decide (kv.1 = t)) = true then m.map fun kv => if kv.1 = t then (kv.1, h) else kv else m ++ [(t, h)]
def dkE (p : Int × Int) : Key × V := (.inl p.1, .int p.2)
def ZB8 (m : PL) : List (Key × V) := m.map dkE
theorem ZH2 {a b : Int} : ((Sum.inl a : Key) = Sum.inl b) ↔ a = b := ⟨fun h => Sum.inl.inj h, fun h => h ▸ rfl⟩
theorem ZP1 (m : PL) (t : Int) : ((ZB8 m).any fun kv => decide (kv.1 = Sum.inl t)) = m.any fun kv => decide (kv.1 = t) := by
 unfold ZB8
 rw [List.any_map]
 congr 1
 funext p
 simp only [Function.comp, dkE, ZH2]
theorem ZH3 (m : PL) (t h : Int) : ZCH (ZB8 m) (.inl t) (.int h) = ZB8 (ZCL m t h) := by
 unfold ZCH ZCL
 rw [ZP1]
 by_cases c : (m.any fun kv => decide (kv.1 = t)) = true
 ·rw [if_pos c, if_pos c]
  unfold ZB8
  rw [List.map_map, List.map_map]
  refine List.map_congr_left fun p _ => ?_
  simp only [Function.comp, dkE, ZH2]
  split <;> simp
 ·rw [if_neg c, if_neg c]
  simp [ZB8, dkE]
theorem ZGV (t : Int) : ∀ m : PL, ZCW (ZB8 m) (.inl t) = (ZCQ m t).map V.int
 | [] => rfl
 | p :: m => by
  have ih := ZGV t m
  by_cases e : p.1 = t
  ·have : ZCW (ZB8 (p :: m)) (.inl t) = some (.int p.2) := ZCb (p := dkE p) (by simp [dkE, e])
   rw [this]
   simp [ZCQ, List.find?_cons, e]
  ·have : ZCW (ZB8 (p :: m)) (.inl t) = ZCW (ZB8 m) (.inl t) := ZCc (p := dkE p) (by simp [dkE, e])
   rw [this, ih]
   simp [ZCQ, List.find?_cons, e]
theorem ZH4 {H : Hp} {Q : VK} {p : Addr} {m : PL} {t v : Int} (h1 : H p = some (.dK (ZB8 m))) (h2 : ZCQ m t = some v) (h : Q (.int v) H) : ZNC (.ref p) (.int t) H Q :=
 ⟨p, .int v, rfl, by
  have := ZDK.k (k := Sum.inl t) h1
  rw [ZGV, h2] at this
  exact this, h⟩
theorem ZH5 {H : Hp} {R : Hp → Prop} {p : Addr} {m : PL} {t v : Int} (h1 : H p = some (.dK (ZB8 m))) (hz : m.length < sizeLine) (h : ∀ H2, H2 p = some (.dK (ZB8 (ZCL m t v))) → Kp p H H2 → R H2) : ZJp (.int v) (.ref p) (.int t) H R :=
 ⟨p, _, rfl, ZEk.k (k := Sum.inl t) h1 (by simpa [ZB8] using hz), by
  rw [ZH3]
  exact h _ ZBg Kp.upd⟩
theorem ZFx {H : Hp} {Q : VK} (h : ∀ p H2, H p = none → H2 p = some (.dK (ZB8 [])) → ZBd H H2 → Q (.ref p) H2) : ZJq H Q := ZOB h
theorem ZMV (m : PL) (t h j : Int) : ZCQ (ZCL m t h) j = if j = t then some h else ZCQ m j := by
 have e1 := ZGV j (ZCL m t h)
 rw [← ZH3, ZFu] at e1
 have e2 := ZGV j m
 rw [e2] at e1
 simp only [ZH2] at e1
 by_cases e : j = t
 ·rw [if_pos e] at e1 ⊢
  cases hg : ZCQ (ZCL m t h) j with
  | none => rw [hg] at e1; cases e1
  | some x => rw [hg] at e1; simp at e1; rw [e1]
 ·rw [if_neg e] at e1 ⊢
  cases hg : ZCQ (ZCL m t h) j <;> cases hm : ZCQ m j <;> rw [hg, hm] at e1 <;> simp_all
theorem ZD8 (m : PL) (t h : Int) : (ZCL m t h).length ≤ m.length + 1 := by
 unfold ZCL
 split <;> simp
theorem ZDq {t : Int} : ∀ {m : PL}, ZCQ m t = none ↔ t ∉ m.map (·.1)
 | [] => by simp [ZCQ]
 | p :: m => by
  have ih := ZDq (t := t) (m := m)
  by_cases e : p.1 = t
  ·simp [ZCQ, List.find?_cons, e]
  ·have e' : ¬ t = p.1 := fun z => e z.symm
   have : ZCQ (p :: m) t = ZCQ m t := by simp [ZCQ, List.find?_cons, e]
   rw [this, ih]
   simp [e']
theorem ZKo (m : PL) (t h : Int) : (ZCL m t h).map (·.1) = if t ∈ m.map (·.1) then m.map (·.1) else m.map (·.1) ++ [t] := by
 have ha : (m.any fun kv => decide (kv.1 = t)) = true ↔ t ∈ m.map (·.1) := by simp
 unfold ZCL
 by_cases c : (m.any fun kv => decide (kv.1 = t)) = true
 ·rw [if_pos c, if_pos (ha.mp c), List.map_map]
  refine List.map_congr_left fun p _ => ?_
  simp only [Function.comp]
  split <;> rfl
 ·rw [if_neg c, if_neg (fun z => c (ha.mpr z))]
  simp
theorem ZDV {m : PL} {t h : Int} (n : (m.map (·.1)).Nodup) : ((ZCL m t h).map (·.1)).Nodup := by
 rw [ZKo]
 split
 ·exact n
 ·rename_i c
  rw [List.nodup_append]
  exact ⟨n, by simp, fun a ha b hb e => c (by simp at hb; subst hb; subst e; exact ha)⟩
theorem ZDL {t h : Int} : ∀ {m : PL}, (m.map (·.1)).Nodup → (ZCQ m t = some h ↔ (t, h) ∈ m)
 | [], _ => by simp [ZCQ]
 | p :: m, n => by
  simp only [List.map_cons, List.nodup_cons] at n
  have ih := ZDL (t := t) (h := h) n.2
  by_cases e : p.1 = t
  ·have : ZCQ (p :: m) t = some p.2 := by simp [ZCQ, List.find?_cons, e]
   rw [this]
   constructor
   ·intro z; cases z; rw [← e]; exact List.mem_cons_self
   ·intro z
    rcases List.mem_cons.mp z with z | z
    ·rw [← z]
    ·exact absurd (List.mem_map.mpr ⟨_, z, rfl⟩) (by rw [← e] at *; exact n.1)
  ·have : ZCQ (p :: m) t = ZCQ m t := by simp [ZCQ, List.find?_cons, e]
   rw [this, ih]
   constructor
   ·exact fun z => List.mem_cons_of_mem _ z
   ·intro z
    rcases List.mem_cons.mp z with z | z
    ·exact absurd (by rw [← z]) e
    ·exact z
def ZB4 (prs : PL) : PL := prs.foldl (fun m p => ZCL m p.1 p.2) []
theorem ZH6 : ∀ (prs acc : PL), (prs.map dkE).foldl (fun a p => ZCH a p.1 p.2) (ZB8 acc) = ZB8 (prs.foldl (fun m p => ZCL m p.1 p.2) acc)
 | [], _ => rfl
 | p :: prs, acc => by
  show (prs.map dkE).foldl (fun a p => ZCH a p.1 p.2) (ZCH (ZB8 acc) (.inl p.1) (.int p.2)) = _
  rw [ZH3]
  exact ZH6 prs _
theorem ZH7 (prs : PL) : ZGT (prs.map dkE) = ZB8 (ZB4 prs) := ZH6 prs []
theorem ZFj : ∀ (prs acc : PL), (acc.map (·.1)).Nodup → ((prs.foldl (fun m p => ZCL m p.1 p.2) acc).map (·.1)).Nodup
 | [], _, h => h
 | p :: prs, acc, h => ZFj prs _ (ZDV h)
theorem ZCw (prs : PL) : ((ZB4 prs).map (·.1)).Nodup := ZFj prs [] List.nodup_nil
theorem ZG7 : ∀ (prs acc : PL), (prs.foldl (fun m p => ZCL m p.1 p.2) acc).length ≤ acc.length + prs.length
 | [], acc => Nat.le_refl _
 | p :: prs, acc => by
  have h1 := ZG7 prs (ZCL acc p.1 p.2)
  have h2 := ZD8 acc p.1 p.2
  show (prs.foldl (fun m p => ZCL m p.1 p.2) (ZCL acc p.1 p.2)).length ≤ acc.length + (prs.length + 1)
  omega
theorem ZFy (prs : PL) : (ZB4 prs).length ≤ prs.length := by
 have := ZG7 prs []
 simpa [ZB4] using this
theorem ZBe.prs {H : Hp} : ∀ {vs : List V} {l : PL}, ZBe H vs l → ZJo H vs (l.map dkE)
 | _, _, .nil => .nil
 | _, _, .cons ⟨a, e, z⟩ t => .cons ⟨a, e, z⟩ (ZBe.prs t)
theorem ZBe.length {H : Hp} {vs : List V} {l : PL} (h : ZBe H vs l) : vs.length = l.length := Paired.length h
theorem ZBe.snoc {H : Hp} : ∀ {vs : List V} {l : PL}, ZBe H vs l → ∀ {a : Addr} {p : Int × Int}, H a = some (.tup [.int p.1, .int p.2]) → ZBe H (vs ++ [.ref a]) (l ++ [p])
 | _, _, .nil, a, p, z => .cons ⟨a, rfl, z⟩ .nil
 | _, _, .cons h t, a, p, z => .cons h (ZBe.snoc t z)
theorem ZBe.at {H : Hp} : ∀ {vs : List V} {l : PL}, ZBe H vs l → ∀ {i : Nat} {v : V}, vs[i]? = some v → ∃ a p, v = .ref a ∧ l[i]? = some p ∧ H a = some (.tup [.int p.1, .int p.2])
 | _, _, .nil, i, v, e => by simp at e
 | _, _, @Paired.cons _ _ _ _ p _ _ ⟨a, e1, z⟩ t, 0, v, e => by
  simp at e; subst e
  exact ⟨a, p, e1, rfl, z⟩
 | _, _, .cons _ t, i + 1, v, e => by
  obtain ⟨a, p, h1, h2, h3⟩ := ZBe.at t (by simpa using e)
  exact ⟨a, p, h1, by simpa using h2, h3⟩
theorem ZBe.kp {p : Addr} {H H' : Hp} (k : Kp p H H') {n : Nat} {xs : List V} (hp : H p = some (.lst xs)) : ∀ {vs : List V} {l : PL}, ZBe H vs l → ZBe H' vs l
 | _, _, .nil => .nil
 | _, _, .cons ⟨a, e, z⟩ t => .cons ⟨a, e, k _ _ z (fun c => by subst c; rw [hp] at z; cases z)⟩ (ZBe.kp k (n := n) hp t)
theorem ZMW {K : W.Frag} {H : Hp} {Q : VK} {p : Addr} {vs : List V} {prs : PL} (h1 : SqL K H p vs) (h2 : ZBe H vs prs) (hz : prs.length < sizeLine) (h : ∀ l H2, H l = none → H2 l = some (.dK (ZB8 (ZB4 prs))) → ZBd H H2 → Q (.ref l) H2) : ZGh K [.ref p] H Q :=
 ⟨p, vs, _, rfl, h1, h2.prs, by rw [h2.length]; exact hz, fun l hl => by
  rw [ZH7]
  exact h l _ hl ZBg (ZBd.new hl)⟩
theorem ZGW {H : Hp} {Q : VK} {p : Addr} {m : PL} (h1 : H p = some (.dK (ZB8 m))) (hz : m.length < 64) (h : ∀ l H2 (ns : List Int), H l = none → H2 l = some (.lst (ns.map V.int)) → ns.Perm (m.map (·.1)) → ns.Pairwise (· ≤ ·) → ZBd H H2 → Q (.ref l) H2) : ZH1 [.ref p] H Q :=
 ⟨p, _, m.map (·.1), rfl, .inl h1, by simp [ZB8, dkE], by simpa [ZB8] using hz, fun l ns hl hp hs => h l _ ns hl ZBg hp hs (ZBd.new hl)⟩
def Asc (cv : PL) : Prop := cv.Pairwise fun a b => a.1 < b.1
def ZFa (m cv : PL) : Prop := Asc cv ∧ ∀ t h, (t, h) ∈ cv ↔ ZCQ m t = some h
theorem ZGi : ∀ {a b : PL}, Asc a → Asc b → (∀ p, p ∈ a ↔ p ∈ b) → a = b
 | [], [], _, _, _ => rfl
 | [], q :: b, _, _, h => by have := (h q).mpr List.mem_cons_self; simp at this
 | p :: a, [], _, _, h => by have := (h p).mp List.mem_cons_self; simp at this
 | p :: a, q :: b, ha, hb, h => by
  unfold Asc at ha hb
  rw [List.pairwise_cons] at ha hb
  have e : p = q := by
   rcases List.mem_cons.mp ((h p).mp List.mem_cons_self) with e | e
   ·exact e
   ·rcases List.mem_cons.mp ((h q).mpr List.mem_cons_self) with e2 | e2
    ·exact e2.symm
    ·have h1 := hb.1 _ e
     have h2 := ha.1 _ e2
     omega
  subst e
  rw [ZGi ha.2 hb.2 fun r => ?_]
  constructor
  ·intro hr
   rcases List.mem_cons.mp ((h r).mp (List.mem_cons_of_mem _ hr)) with e | e
   ·subst e; have := ha.1 _ hr; omega
   ·exact e
  ·intro hr
   rcases List.mem_cons.mp ((h r).mpr (List.mem_cons_of_mem _ hr)) with e | e
   ·subst e; have := hb.1 _ hr; omega
   ·exact e
def ZCB (m : PL) (ns : List Int) : PL := ns.map fun t => (t, (ZCQ m t).getD 0)
theorem ZGX {m : PL} {ns : List Int} (nd : (m.map (·.1)).Nodup) (hp : ns.Perm (m.map (·.1))) (hs : ns.Pairwise (· ≤ ·)) : ZFa m (ZCB m ns) := by
 have hn : ns.Nodup := hp.nodup_iff.mpr nd
 refine ⟨?_, fun t h => ?_⟩
 ·unfold Asc ZCB
  rw [List.pairwise_map]
  exact (hs.and hn).imp fun ⟨a, b⟩ => by
   show _ < _
   omega
 ·unfold ZCB
  rw [List.mem_map]
  constructor
  ·rintro ⟨u, hu, e⟩
   have hu' := hp.mem_iff.mp hu
   cases hg : ZCQ m u with
   | none => exact absurd hu' (ZDq.mp hg)
   | some x =>
    rw [hg] at e
    cases e
    exact hg
  ·intro hg
   refine ⟨t, hp.mem_iff.mpr ?_, by rw [hg]; rfl⟩
   by_cases c : t ∈ m.map (·.1)
   ·exact c
   ·rw [ZDq.mpr c] at hg; cases hg
theorem ZFk {m : PL} {ns : List Int} (hp : ns.Perm (m.map (·.1))) : (ZCB m ns).length = m.length := by
 have := hp.length_eq
 simpa [ZCB] using this
theorem ZOC : bootBuiltins "dict" = some (.type "dict") := by decide +kernel
def ZHX (K : W.Frag) : R2 := fun x y H Q => ∃ a b xs ys, x = .ref a ∧ y = .ref b ∧ SqT K H a xs ∧ SqT K H b ys ∧ xs.length + ys.length ≤ sizeLine ∧ (xs = [] → Q (.ref b) H) ∧ (xs ≠ [] → ys = [] → Q (.ref a) H) ∧
 (xs ≠ [] → ys ≠ [] → ∀ p, H p = none → Q (.ref p) (upd H p (.tup (xs ++ ys))))
theorem ZMX {prog : Program} {w : World} {A : Around} {E : Value → Shared → Prop} {s : Shared} {t b : Addr} {ws : List Value} {Q : Value → Shared → Prop} (ht : IsTup s.heap t ([] : List Value).toArray) (hb : IsTup s.heap b ws.toArray) (h : Q (.ref b) s) : wpAny (model prog w) A (binaryOp .Add (.ref t) (.ref b)) Q E s := by
 obtain ⟨⟨cls, dd, data, sl⟩, ho, hc, n, hd⟩ := id ht
 obtain ⟨⟨cls2, dd2, data2, sl2⟩, ho2, hc2, n2, hd2⟩ := id hb
 simp only at hc hd hc2 hd2
 subst hc hd hc2 hd2
 exact concat_meets ⟨_, ho, rfl⟩ ⟨_, ho2, rfl⟩ noFill_tuple_add seq_tuple_add PySem.F.slot_tuple_add PySem.F.entry_tuple_add (PySem.F.args_tuple_add_2 _ _)
  (tuple_addW0 t b ([] : List Value).toArray ws.toArray n n2 dd dd2 sl sl2 (by simp)) ⟨ho, ho2, h⟩
theorem ZGj {X : Cx} (K : W.Frag) (hK : X.K = K) : OpR X (binaryOp .Add) (ZHX K) := by
 subst hK
 intro pins s σ H x y v u Q I rx ry h
 obtain ⟨a, b, xs, ys, rfl, rfl, ha, hb, hz, q0, q1, q2⟩ := h
 by_cases hx : xs = []
 ·subst hx
  cases rx
  cases ry
  obtain ⟨its, r1, p1, _⟩ := I.tuple ha
  obtain ⟨its2, r2, p2, _⟩ := I.tuple hb
  cases r1
  exact ZMX p1 p2 ⟨.ref b, H, I, rfl, q0 rfl⟩
 ·exact ZNf pins s σ H (.ref a) (.ref b) v u Q I rx ry ⟨a, b, xs, ys, rfl, rfl, ha, hb, hx, hz, q1 hx, q2 hx⟩
section
variable {X : Cx} {pos pos' : Pos} {e : Expr} {te : TE}
theorem ZQp {op : Operator} {r : R2} (ho : OpR X (inplaceOp op) r) : PIp X op r := ho
theorem ZH8 {i : Nat} {x : Str} {op : Operator} {r : R2} (hN : X.N.Nodup) (hi : X.N[i]? = some x) (hx : Loc X.env.scope x) (ho : OpR X (inplaceOp op) r) (he : QE X e te) (hf : X.fn x = true ∨ X.env.scope.names.lookup x = some .local := by first | exact .inl rfl | exact .inr rfl | assumption) :
 QS X (.AugAssign (.Name x pos') op e pos) (ZLg i te r) := ⟨ZO4 hN hi hx he.h (ZQp ho) hf⟩
theorem ZP2 {i : Nat} {r : R2} {D : ZCK} {σ : St} {H : Hp} {x : V} (e1 : σ[i]? = some (some x)) (h : te σ H fun y H1 => r x y H1 fun z H2 => D.nx (σ.set i (some z)) H2) : ZLg i te r D σ H := ⟨x, e1, h⟩
end
def ZND (Pv : St → Hp → Prop) (μ : St → Hp → Nat) (tb : TS) (D : ZCK) (n : Nat) (σ : St) (H : Hp) : Prop :=
 ∃ N : St → Hp → Prop, (∀ σ' H', N σ' H' → ∃ m', m' < n ∧ m' = μ σ' H' ∧ Pv σ' H') ∧ tb { D with nx := N, ct := N, bk := D.nx } σ H
theorem ZH9 {c : TT} {tb : TS} {D : ZCK} {σ : St} {H : Hp} (Pv : St → Hp → Prop) (μ : St → Hp → Nat) (h0 : Pv σ H)
  (hs : ∀ σ H, Pv σ H → c σ H fun b H1 => if b = true then ZND Pv μ tb D (μ σ H) σ H1 else D.nx σ H1) : ZHb c tb D σ H := by
 refine ⟨fun m σ H => m = μ σ H ∧ Pv σ H, ⟨_, rfl, h0⟩, ?_⟩
 rintro m σ H ⟨rfl, p⟩
 exact hs σ H p
theorem ZJD {Pv : St → Hp → Prop} {μ : St → Hp → Nat} {tb : TS} {D : ZCK} {n : Nat} {σ : St} {H : Hp} (h : tb { D with nx := fun σ' H' => Pv σ' H' ∧ μ σ' H' < n, ct := fun σ' H' => Pv σ' H' ∧ μ σ' H' < n, bk := D.nx } σ H) : ZND Pv μ tb D n σ H :=
 ⟨_, fun σ' H' ⟨p, l⟩ => ⟨_, l, rfl, p⟩, h⟩
theorem ZKp (p q : Int × Int) : PyData.eqv (ZCJ p) (ZCJ q) = decide (p = q) := by
 have e : PyData.eqv (ZCJ p) (ZCJ q) = ((p.1 == q.1) && ((p.2 == q.2) && true)) := rfl
 rw [e]
 obtain ⟨a, b⟩ := p
 obtain ⟨c, d⟩ := q
 by_cases h1 : a = c <;> by_cases h2 : b = d <;> simp [h1, h2]
theorem ZEl : ∀ l m : PL, PyData.eqvAll (l.map ZCJ) (m.map ZCJ) = decide (l = m)
 | [], [] => rfl
 | [], q :: m => by simp [PyData.eqvAll]
 | p :: l, [] => by simp [PyData.eqvAll]
 | p :: l, q :: m => by
  show (PyData.eqv (ZCJ p) (ZCJ q) && PyData.eqvAll (l.map ZCJ) (m.map ZCJ)) = _
  rw [ZKp, ZEl l m]
  by_cases h1 : p = q <;> by_cases h2 : l = m <;> simp [h1, h2]
theorem ZD9 : ∀ l : PL, PyData.depthAll (l.map ZCJ) ≤ 50
 | [] => by decide
 | p :: l => by
  have ih := ZD9 l
  have h0 : PyData.depth (ZCJ p) ≤ 50 := by
   show PyData.depth (.tuple [.int p.1, .int p.2]) ≤ 50
   simp only [PyData.depth, PyData.depthAll]
   decide
  show PyData.depthAll (ZCJ p :: l.map ZCJ) ≤ 50
  simp only [PyData.depthAll]
  omega
section
variable {K : W.Frag} {H : Hp} {Q : VK} {a b : Addr} {vs ws : List V} {l m : PL}
theorem ZIA (l : PL) : (PyData.tuple (l.map ZCJ)).depth ≤ 60 := by
 have := ZD9 l
 simp only [PyData.depth]
 omega
theorem ZOD (h1 : SqT K H a vs) (p1 : ZBe H vs l) (h2 : SqT K H b ws) (p2 : ZBe H ws m) (h : Q (.bl (!decide (l = m))) H) : ZHs K (.ref a) (.ref b) H Q := by
 refine ZKl (.tup h1 p1.dats) (.tup h2 p2.dats) (ZEH l) (ZEH m) (ZIA l) ?_
 have e : PyData.eqv (.tuple (l.map ZCJ)) (.tuple (m.map ZCJ)) = decide (l = m) := ZEl l m
 rw [e]
 exact h
end
theorem ZBd.kpN {H H1 H2 : Hp} {l : Addr} (s : ZBd H H1) (hl : H l = none) (k : Kp l H1 H2) : ZBd H H2 := fun q o e => k q o (s q o e) (ZBt e hl)
theorem ZBe.kpL {p : Addr} {H H' : Hp} (k : Kp p H H') {xs : List V} (hp : H p = some (.lst xs)) {vs : List V} {l : PL} (h : ZBe H vs l) : ZBe H' vs l := ZBe.kp k (n := 0) hp h
theorem ZBe.app {H : Hp} : ∀ {vs : List V} {l : PL}, ZBe H vs l → ∀ {ws : List V} {m : PL}, ZBe H ws m → ZBe H (vs ++ ws) (l ++ m)
 | _, _, .nil, _, _, h => h
 | _, _, .cons h t, _, _, g => .cons h (ZBe.app t g)
theorem Pot.ne_tup {H : Hp} {p l : Addr} {xs : List V} (h : Pot H p) (hl : H l = some (.tup xs)) : l ≠ p := by
 obtain ⟨x, y, h, r⟩ := h
 intro e; subst e; rw [h] at hl; cases hl
theorem ZBe.pot {p : Addr} {H H' : Hp} (k : Kp p H H') (hp : Pot H p) {vs : List V} {l : PL} (h : ZBe H vs l) : ZBe H' vs l := by
 obtain ⟨x, y, e, _⟩ := hp
 exact ZBe.kpL k e h
section
variable {K : W.Frag} {H H' : Hp} {Q : VK} {a b : Addr} {xs ys : List V} {cv l m : PL}
theorem rd_catH (h1 : H a = some (.tup xs)) (h2 : H b = some (.tup ys)) (hz : xs.length + ys.length ≤ sizeLine) (h : ∀ p H2, H2 p = some (.tup (xs ++ ys)) → ZBd H H2 → Q (.ref p) H2) : ZHX K (.ref a) (.ref b) H Q :=
 ⟨a, b, xs, ys, rfl, rfl, SqT.of h1, SqT.of h2, hz, fun e => h b H (by rw [e]; exact h2) (ZBd.refl H), fun _ e => h a H (by rw [e, List.append_nil]; exact h1) (ZBd.refl H), fun _ _ p hp => h p _ ZBg (ZBd.new hp)⟩
def PrT (H : Hp) (a : Addr) (cv : PL) : Prop := ∃ vs, H a = some (.tup vs) ∧ ZBe H vs cv
def PrL (H : Hp) (a : Addr) (cv : PL) : Prop := ∃ vs, H a = some (.lst vs) ∧ ZBe H vs cv
theorem PrT.same (h : PrT H a cv) (s : ZBd H H') : PrT H' a cv := by
 obtain ⟨vs, h1, h2⟩ := h
 exact ⟨vs, s _ _ h1, h2.same s⟩
theorem PrL.same (h : PrL H a cv) (s : ZBd H H') : PrL H' a cv := by
 obtain ⟨vs, h1, h2⟩ := h
 exact ⟨vs, s _ _ h1, h2.same s⟩
theorem PrT.pot {p : Addr} (h : PrT H a cv) (hp : Pot H p) (k : Kp p H H') : PrT H' a cv := by
 obtain ⟨vs, h1, h2⟩ := h
 exact ⟨vs, k _ _ h1 (hp.ne_tup h1), h2.pot k hp⟩
theorem PrL.pot {p : Addr} (h : PrL H a cv) (hp : Pot H p) (hne : a ≠ p) (k : Kp p H H') : PrL H' a cv := by
 obtain ⟨vs, h1, h2⟩ := h
 exact ⟨vs, k _ _ h1 hne, h2.pot k hp⟩
theorem ZJE (h1 : PrT H a l) (h2 : PrT H b m) (h : Q (.bl (!decide (l = m))) H) : ZHs K (.ref a) (.ref b) H Q := by
 obtain ⟨vs, g1, p1⟩ := h1
 obtain ⟨ws, g2, p2⟩ := h2
 exact ZOD (SqT.of g1) p1 (SqT.of g2) p2 h
theorem PrT.cat (h1 : PrT H a l) (h2 : PrT H b m) (hz : l.length + m.length ≤ sizeLine) (h : ∀ p H2, PrT H2 p (l ++ m) → ZBd H H2 → Q (.ref p) H2) : ZHX K (.ref a) (.ref b) H Q := by
 obtain ⟨vs, g1, p1⟩ := h1
 obtain ⟨ws, g2, p2⟩ := h2
 refine rd_catH g1 g2 (by rw [p1.length, p2.length]; exact hz) fun p H2 f2 S2 => h p H2 ⟨_, f2, (p1.app p2).same S2⟩ S2
end
section
variable {X : Cx}
end
section
variable {K : W.Frag} {H H' : Hp} {a p l : Addr} {cv : PL} {xs : List V}
theorem PrT.kpL (h : PrT H a cv) (k : Kp l H H') (hl : H l = some (.lst xs)) : PrT H' a cv := by
 obtain ⟨vs, h1, h2⟩ := h
 exact ⟨vs, k _ _ h1 (fun e => by subst e; rw [h1] at hl; cases hl), h2.kpL k hl⟩
end
section
variable {X : Cx} {e st : Expr} {te : TE} {pos p2 : Pos}
end
section
variable {K : W.Frag} {H : Hp} {Q : VK} {a : Addr} {xs : List V} {l : PL}
end
section
variable {X : Cx} {tg : Expr}
end
section
variable {σ : St} {H : Hp}
end
section
variable {X : Cx}
end
def ZMY (K : W.Frag) (x : V) (H : Hp) (R : It → Hp → Prop) : Prop := (∃ a, x = .ref a ∧ (∃ xs, SqL K H a xs) ∧ R (Itl K a) H) ∨ (∃ a, x = .ref a ∧ (∃ xs, SqT K H a xs) ∧ R (Itt K a) H)
def ZP3 (K : W.Frag) (tl : TE) : TI := fun σ H R => tl σ H fun x H1 => ZMY K x H1 R
theorem ZP4 {X : Cx} {tg e : Expr} {te : TE} (K : W.Frag) (hK : X.K = K) (hl : QE X e te) : QI X tg e (ZP3 K te) := by
 subst hK
 refine ⟨?_⟩
 intro pins s σ H R I h
 refine thn (hl.h pins s σ H _ I h) fun v s1 ⟨x, H1, I1, r1, q1⟩ => ?_
 rcases q1 with ⟨a, e, ⟨xs, hq⟩, q⟩ | ⟨a, e, ⟨xs, hq⟩, q⟩
 ·subst e
  cases r1
  obtain ⟨its, rv, p, hz⟩ := I1.list hq
  refine wpAny_pyIter_list p.isList ?_
  refine ⟨s1.heap.objs.size, [s1.heap.objs.size], _, _, H1, rfl, I1.kept (t' := s1.toks) fun b o e => Heap.get?_push_of_some _ e, ZGv a _, ⟨_, Heap.get?_push_size _ rfl, rfl, rfl⟩, fun b hb => ?_, q⟩
  have e : b = s1.heap.objs.size := by simpa using hb
  subst e
  exact I1.fpOk (Nat.le_refl _) (I1.hok.fresh (Nat.le_refl _))
 ·subst e
  cases r1
  obtain ⟨its, rv, p, hz⟩ := I1.tuple hq
  refine wpAny_pyIter_tuple (show s1.heap.IsTuple a its.toArray from p) ?_
  refine ⟨s1.heap.objs.size, [s1.heap.objs.size], _, _, H1, rfl, I1.kept (t' := s1.toks) fun b o e => Heap.get?_push_of_some _ e, ZGD a _, ⟨_, Heap.get?_push_size _ rfl, rfl, rfl⟩, fun b hb => ?_, q⟩
  have e : b = s1.heap.objs.size := by simpa using hb
  subst e
  exact I1.fpOk (Nat.le_refl _) (I1.hok.fresh (Nat.le_refl _))
def SQ (b : Bool) (H : Hp) (a : Addr) (vs : List V) : Prop := H a = some (if b then .lst vs else .tup vs)
section
variable {K : W.Frag} {σ : St} {H : Hp} {D : ZCK}
theorem ZOE {tl : TE} {R : It → Hp → Prop} (h : tl σ H fun x H1 => ZMY K x H1 R) : ZP3 K tl σ H R := h
theorem ZOF {b : Bool} {a : Addr} {xs : List V} {g : TG} {tb : TS} (Pv : Nat → St → Hp → Prop) (hq : SQ b H a xs) (h0 : Pv 0 σ H) (hl : ∀ i σ H, i ≤ xs.length → Pv i σ H → SQ b H a xs)
  (hs : ∀ i x σ H, xs[i]? = some x → Pv i σ H → g x σ H fun σ2 H2 => tb { D with nx := Pv (i + 1), ct := Pv (i + 1), bk := D.nx } σ2 H2) (hd : ∀ σ H, Pv xs.length σ H → D.nx σ H) :
  ZMY K (.ref a) H (fun J H1 => rFor J g tb D σ H1) := by
 cases b with
 | true => exact .inl ⟨a, rfl, ⟨xs, SqL.of hq⟩, ZI9 Pv h0 (fun i σ H hi p => SqL.of (hl i σ H hi p)) hs hd⟩
 | false => exact .inr ⟨a, rfl, ⟨xs, SqT.of hq⟩, ZDy Pv h0 (fun i σ H hi p => SqT.of (hl i σ H hi p)) hs hd⟩
end
theorem SQ.same {b : Bool} {H H' : Hp} {a : Addr} {vs : List V} (h : SQ b H a vs) (s : ZBd H H') : SQ b H' a vs := s _ _ h
section
variable {X : Cx} {pos : Pos}
end
section
variable {n : Nat}
end
def ZJr (h : Heap) (a : Addr) (v : Value) (p : Int × Int) : Prop := ∃ b t u, v = .ref b ∧ b ≠ a ∧ IsTup h b #[.int p.1 t, .int p.2 u]
def ZFG (h : Heap) (a : Addr) (vs : List Value) (l : PL) : Prop := Paired (ZJr h a) vs l
theorem ZFG.get {h : Heap} {a : Addr} : ∀ {vs : List Value} {l : PL}, ZFG h a vs l → ∀ {i : Nat}, i < l.length → ZJr h a (vs.getD i .none) (l.getD i (0, 0))
 | _, _, .nil, i, hi => absurd hi (Nat.not_lt_zero _)
 | _, _, .cons g t, 0, _ => g
 | _, _, .cons g t, i + 1, hi => by
  have := ZFG.get t (i := i) (by simpa using hi)
  simpa using this
section
variable {prog : Program} {w : World} {A : Around} {E : Value → Shared → Prop} {s : Shared}
end
section
variable {X : Cx} {pins : List (Addr × Obj)} {σ : St} {H H' : Hp} {s : Shared} {h' : Heap}
theorem Inv.old (I : Inv X pins σ H s) {b : Addr} {o : HO} (e : H b = some o) : b < s.heap.objs.size := by
 by_cases h : b < s.heap.objs.size
 ·exact h
 ·rw [I.hok.fresh (Nat.le_of_not_lt h)] at e
  cases e
theorem Inv.many {t' : Nat} (I : Inv X pins σ H s) (k : ∀ b u, s.heap.get? b = some u → h'.get? b = some u) (hs : ∀ b, b < s.heap.objs.size → H' b = H b) (new : ∀ b o, s.heap.objs.size ≤ b → H' b = some o → ZBw X.prog X.w H' h' b o) :
  Inv X pins σ H' { s with heap := h', toks := t' } := by
 have old : ∀ b o, H b = some o → H' b = some o := fun b o e => (hs b (I.old e)).trans e
 refine I.un ⟨fun b u q _ _ _ => k b u q, fun b u q _ _ _ => ⟨u.slots, k b u q⟩, fun b u q n _ => (hs b (Heap.lt_size q)).trans n, fun b u q _ => ⟨u, k b u q⟩, fun b xs q => old _ _ q, fun b u xs q => old _ _ q, fun b ps q => ⟨#[], by rw [old _ _ q]; simp⟩⟩ fun b u e => ?_
 by_cases hb : b < s.heap.objs.size
 ·rw [hs b hb] at e
  exact (I.hok b u e).stay (fun c v _ q => k c v q) (fun c q => old _ _ q) fun c xs q => old _ _ q
 ·exact new b u (Nat.le_of_not_lt hb) e
end
section
variable {X : Cx} {o : Expr} {to : TE} {apos cpos : Pos}
def ZIB (to : TE) : (σ : St) → Hp → (Addr → PL → Hp → Prop) → Prop := fun σ H R => to σ H fun x H1 => ∃ a m, x = .ref a ∧ H1 a = some (.dK (ZB8 m)) ∧ R a m H1
theorem ZJs {pins : List (Addr × Obj)} {s : Shared} {σ : St} {H : Hp} {R : Addr → PL → Hp → Prop} (ho : PE X o to) (I : Inv X pins σ H s) (h : ZIB to σ H R)
  (hbase : attributeBase o "items" X.env (eval o X.env) = eval o X.env) (hline : (apos.endLine == cpos.line) = true) :
  wpAny (model X.prog X.w) X.A (eval (.Call (.Attribute o "items" apos) [] [] cpos) X.env) (fun u s1 => ∃ r a m H1, u = .ref r ∧ s1.heap.objs.size = r + 1 ∧ s1.heap.IsItemsView r a ∧ H1 a = some (.dK (ZB8 m)) ∧ Inv X pins σ H1 s1 ∧ R a m H1) X.xe s := by
 refine wpAny_Call_method0_late hbase hline (thn (ho pins s σ H _ I h) fun v s1 ⟨x, H1, I1, r1, a, m, ex, hd, q1⟩ => ?_)
 subst ex
 cases r1
 obtain ⟨z, hsm, vs, rel, dd⟩ := ZJl I1.hok hd
 refine ⟨"dict", "dict.items", PySem.F.plainAttrs_dict, PySem.F.slot_dict_items, PySem.F.type_dict_items, dd.typeIs, ZIo I1 (ZDK.k (k := Sum.inl 0) hd), ?_⟩
 refine Calls.callWith_builtin rfl (PySem.evalArgs_none ?_)
 refine call_meetsIn PySem.F.slot_dict_items dd.typeIs PySem.F.entry_dict_items (PySem.F.args_dict_items_1 _) (meets_dict_items (ZB2 X.prog X.w) a hsm) ⟨⟨vs, dd⟩, ?_⟩
 exact ⟨_, a, m, H1, rfl, by rw [Heap.size_push], ⟨_, Heap.get?_push_size _ rfl, rfl, rfl⟩, hd, I1.kept (t' := s1.toks) fun b o e => Heap.get?_push_of_some _ e, q1⟩
end
theorem ZKq {m : PL} {vs : List (Key × Value)} (rel : KV (ZB8 m) vs) : vs.length = m.length ∧ ∀ (j : Nat) (k : Key) (x : Value), vs[j]? = some (k, x) → ∃ (p : Int × Int) (t : Tok), m[j]? = some p ∧ k = Sum.inl p.1 ∧ x = Value.int p.2 t := by
 have hl : vs.length = m.length := by
  have := rel.length
  simp [ZB8] at this
  omega
 refine ⟨hl, ?_⟩
 induction m generalizing vs with
 | nil => intro j k x e; cases rel; simp at e
 | cons p m ih =>
  cases rel with
  | cons h t =>
   rename_i q vs'
   intro j k x e
   cases j with
   | zero =>
    simp at e
    obtain ⟨h1, h2⟩ := h
    rw [e] at h1 h2
    obtain ⟨t', rfl⟩ := h2
    exact ⟨p, t', rfl, h1.symm, rfl⟩
   | succ j =>
    obtain ⟨p', t', g1, g2, g3⟩ := ih t (by simpa using hl) j k x (by simpa using e)
    exact ⟨p', t', by simpa using g1, g2, g3⟩
theorem ZEm {α β : Type} {F : α → β → Prop} : ∀ {l₁ : List α} {l₂ : List β}, l₁.length = l₂.length → (∀ (i : Nat) a b, l₁[i]? = some a → l₂[i]? = some b → F a b) → Paired F l₁ l₂
 | [], [], _, _ => .nil
 | [], _ :: _, h, _ => by simp at h
 | _ :: _, [], h, _ => by simp at h
 | a :: l₁, b :: l₂, h, f => .cons (f 0 a b rfl rfl) (ZEm (by simpa using h) fun i x y e1 e2 => f (i + 1) x y (by simpa using e1) (by simpa using e2))
theorem ZOG {P : Program} {w : World} {m : PL} {vs : List (Key × Value)} {lo : Addr} {h : Heap} {as : List Addr} (rel : KV (ZB8 m) vs) (hl : as.length = vs.length) (g : KdxG (ZB2 P w) vs lo h as) (a : Addr) (hna : ∀ b ∈ as, b ≠ a) :
  ZFG h a (as.map Value.ref) m := by
 obtain ⟨hvl, hv⟩ := ZKq rel
 refine ZEm (by rw [List.length_map]; omega) fun i v p e1 e2 => ?_
 rw [List.getElem?_map] at e1
 cases hb : as[i]? with
 | none => rw [hb] at e1; cases e1
 | some b =>
  rw [hb] at e1
  cases e1
  obtain ⟨key, k, x, g1, g2, g3⟩ := g.pairs i b hb
  obtain ⟨p', t', e3, e4, e5⟩ := hv i k x g1
  rw [e2] at e3
  cases e3
  subst e4 e5
  rcases ZCG (k := Sum.inl p.1) (v := key) g2 with ⟨y, t, z1, z2⟩ | ⟨y, t, z1, z2⟩
  ·cases z1
   subst z2
   exact ⟨b, t, t', rfl, hna b (List.mem_of_getElem? hb), _, g3, rfl, _, rfl⟩
  ·cases z1
theorem ZKr {P : Program} {w : World} {h : Heap} {a b : Addr} {p : Int × Int} {Hn : Hp} (e : ZJr h a (.ref b) p) : ZBw P w Hn h b (.tup [.int p.1, .int p.2]) := by
 obtain ⟨b', t, u, e1, _, ht⟩ := e
 cases e1
 exact ⟨⟨by show 2 ≤ sizeLine; decide, fun z => absurd rfl (z p.1)⟩, [.int p.1 t, .int p.2 u], .cons ⟨t, rfl⟩ (.cons ⟨u, rfl⟩ .nil), ht⟩
def ZFH (H : Hp) (as : List Addr) (ps : PL) (l : Addr) (vs : List V) (n : Nat) : Hp := fun b => if b < n then H b else if b = l then some (.lst vs) else ((as.zip ps).lookup b).map fun p => .tup [.int p.1, .int p.2]
theorem ZJt {as : List Addr} {ps : PL} (hn : as.Nodup) : ∀ {i : Nat} {b : Addr} {p : Int × Int}, as[i]? = some b → ps[i]? = some p → (as.zip ps).lookup b = some p := by
 induction as generalizing ps with
 | nil => intro i b p e; simp at e
 | cons a as ih =>
  intro i b p e1 e2
  rw [List.nodup_cons] at hn
  cases ps with
  | nil => simp at e2
  | cons q ps =>
   cases i with
   | zero => simp at e1 e2; subst e1 e2; simp [List.lookup]
   | succ i =>
    have e1 : as[i]? = some b := by simpa using e1
    have hb : b ≠ a := fun z => hn.1 (z ▸ List.mem_of_getElem? e1)
    have hb' : (b == a) = false := by simpa using hb
    have := ih hn.2 (ps := ps) e1 (by simpa using e2)
    simpa [List.lookup, hb'] using this
theorem ZGk {as : List Addr} {ps : PL} : ∀ {b : Addr} {p : Int × Int}, (as.zip ps).lookup b = some p → ∃ i : Nat, as[i]? = some b ∧ ps[i]? = some p := by
 induction as generalizing ps with
 | nil => intro b p e; simp [List.lookup] at e
 | cons a as ih =>
  intro b p e
  cases ps with
  | nil => simp [List.lookup] at e
  | cons q ps =>
   by_cases hb : b = a
   ·subst hb
    simp [List.lookup] at e
    subst e
    exact ⟨0, rfl, rfl⟩
   ·have hb' : (b == a) = false := by simpa using hb
    have e : (as.zip ps).lookup b = some p := by simpa [List.lookup, hb'] using e
    obtain ⟨i, h1, h2⟩ := ih e
    exact ⟨i + 1, by simpa using h1, by simpa using h2⟩
section
variable {X : Cx} {o : Expr} {to : TE} {apos cpos pos p : Pos}
end
section
variable {σ : St} {H : Hp} {Q : VK} {to : TE}
end
section
variable {prog : Program} {w : World} {A : Around} {E : Value → Shared → Prop} {s : Shared}
end
section
variable {X : Cx} {pins : List (Addr × Obj)} {σ : St} {H H' : Hp} {s : Shared} {h' : Heap}
end
section
variable {X : Cx} {tg : Expr}
end
section
variable {K : W.Frag} {σ : St} {H : Hp} {D : ZCK}
end
section
variable {X : Cx}
end
theorem ZHF : typeLookup (.type "tuple") "keys" = pure none := by rw [typeLookup_type, builtinLookup_eq_fast]; kernel_rfl
theorem ZE2 {prog : Program} {w : World} {A : Around} {E : Value → Shared → Prop} {s : Shared} {a : Addr} {o : Obj} {xs : Array Value} {k : Nat} {Q : Option Value → Shared → Prop}
  (hx : s.heap.get? a = some o) (hc : o.cls = .type "tuple") (hdat : o.data = .seq xs k) (hd : o.dict = none) (hA : A.handled = none)
  (h : ∀ h' tk, (∀ b u, s.heap.get? b = some u → h'.get? b = some u) → Q none { s with heap := h', toks := tk }) :
  wpAny (model prog w) A (getAttr? (.ref a) "keys") Q E s := by
 obtain ⟨c, dct, dat, sl⟩ := o
 simp only at hc hdat hd
 subst hc hdat hd
 obtain ⟨hp, g, d, tk, os⟩ := s
 have hT : ∀ tk', (⟨hp, g, d, tk', os⟩ : Shared).TypeIs (.ref a) "tuple" := fun _ => ⟨_, hx, rfl⟩
 have f1 := sub_AttributeError
 have f3 := F.slot_tuple_getattribute.lookup
 have f4 := F.slot_tuple_getattribute.bind (.ref a)
 have f5 := am_tuple_getattr_none
 unfold getAttr? getAttrBy? getAttrBy
 repeat (any_goals (first | assumption | exact hT _ | ((with_reducible show wpAny _ _ (call (Value.builtin "tuple.__getattribute__") _ _) _ _ _); refine call_meets F.slot_tuple_getattribute (hT _) am_entry_tuple_getattribute (F.args_tuple_getattribute_2 _ _) (meets_getattribute_miss_tuple a xs k sl "keys" _ ZHF (by decide +kernel) (by size_fits)) ⟨hx, hA, fun h' tk' e hx' => ?_⟩) | wp_step))
 obtain ⟨t', u', he⟩ := hx'.there
 show wpAny _ _ (getattributeRaised _ _ _ _ _ _ _) _ _ _
 unfold getattributeRaised
 repeat (any_goals (first | assumption | wp_step))
 exact h _ _ hx'.keeps
def ZFz (K : W.Frag) : List V → Hp → VK → Prop := fun xs H Q => ∃ p vs prs, xs = [.ref p] ∧ H p = some (.tup vs) ∧ ZJo H vs prs ∧ vs.length < sizeLine ∧ ∀ l, H l = none → Q (.ref l) (upd H l (.dK (ZGT prs)))
theorem ZMZ {X : Cx} (K : W.Frag) (hK : X.K = K) (hc : X.calm = true) : ZBy X (.type "dict") (ZFz K) := by
 subst hK
 intro pins s σ H xs us Q I r h
 obtain ⟨p, vs, prs, rfl, hS, hP, hz, q⟩ := h
 obtain ⟨u, rfl, ru⟩ := r.one
 cases ru
 obtain ⟨⟨_, hpd⟩, its, rv, ht0⟩ := (show ZBw X.prog X.w H s.heap p (.tup vs) from I.hok p _ hS)
 obtain ⟨od, hod, hdl0, _⟩ := hpd (by
  cases hP with
  | nil => intro i z; cases z
  | cons a t =>
   obtain ⟨c, e, _⟩ := a
   intro i z
   rw [List.head?_cons, e] at z
   cases z)
 obtain ⟨ol, hol, hcl, nl, hsl⟩ := id ht0
 have hdl : ol.dict = none := by
  rw [hol] at hod
  cases hod
  exact hdl0
 refine PySem.callType_codes (Q₁ := fun obj s₁ => obj = .ref s.heap.objs.size ∧ s₁ = { s with heap := s.heap.push { cls := .type "dict", data := .dict #[] } }) F.kt_called_dict (F.kt_typeCall_dict_1 _) F.entry_dict_init (PySem.kt_code_dict_new _ ⟨rfl, rfl⟩) ?_
 rintro obj s₁ ⟨rfl, rfl⟩
 have hnew : (s.heap.push { cls := .type "dict", data := .dict #[] }).DictOf (ZB2 X.prog X.w) s.heap.objs.size [] := Heap.DictOf.new s.heap
 refine ⟨hnew.typeIs, F.args_dict_init_2 _ _, ?_⟩
 unfold Builtin.«dict.__init__»
 refine wpAny_bind ?_
 unfold Builtin.Dict.selfAndRest
 refine wpAny_bind (wpAny_notOrdered_dict hnew.typeIs ?_)
 show wpAny _ _ (pure (s.heap.objs.size, [Value.ref p])) _ _ _
 refine wpAny_pure ?_
 show wpAny _ _ (Builtin.Dict.updateFrom "dict.__init__" s.heap.objs.size (.ref p) [] .none) _ _ _
 unfold Builtin.Dict.updateFrom
 have hol' : (s.heap.push { cls := .type "dict", data := .dict #[] }).get? p = some ol := Heap.get?_push_of_some _ hol
 refine wpAny_bind (wpAny_typeOf (T := "tuple") ⟨ol, hol', hcl⟩ ?_)
 rw [if_pos (by decide)]
 refine wpAny_bind (ZE2 hol' hcl hsl hdl ?_ fun h1 tk1 hk1 => ?_)
 ·exact I.ok.hd hc
 rw [if_pos (show (none : Option Value).isNone = true from rfl)]
 refine wpAny_bind (wpAny_rule ?_)
 have hl1 : h1.IsTuple p its.toArray := ⟨ol, hk1 _ _ hol', hcl, nl, hsl⟩
 refine wpAny_bind (wpAny_pyIter_tuple hl1 ?_)
 refine wpAny_pure ⟨plainId_quiet ZDp _, ?_⟩
 have hlt : p < h1.objs.size := Heap.lt_size (hk1 _ _ hol')
 have hD1 : s.heap.objs.size < h1.objs.size := by
  obtain ⟨oD, _, _, hoD, _⟩ := hnew
  exact Heap.lt_size (hk1 _ _ hoD)
 obtain ⟨ps, hps, rfl, hprs⟩ := ZFv I.hok hP rv
 have keepS : ∀ b o, s.heap.get? b = some o → (h1.push { cls := .type "tuple_iterator", data := .fields #[.ref p, .int 0 0] }).get? b = some o := fun b o e => Heap.get?_push_of_some _ (hk1 _ _ (Heap.get?_push_of_some _ e))
 have hps' : p < s.heap.objs.size := Heap.lt_size hol
 have hlen : vs.length = prs.length := Paired.length hP
 have W := Walks.tuple (prog := X.prog) (w := X.w) (A := X.A.in1.in1) (I.ok.hd hc) h1.objs.size p (Nat.ne_of_lt hlt) (ps.map fun x => Value.ref x.1).toArray
 have hsz : (ps.map fun x => Value.ref x.1).toArray.size = prs.length := by simp [hps]
 refine ZFi (A := X.A.in1) (knd := ZB2 X.prog X.w) W s.heap.objs.size ?_ s.heap (fun i => ((prs[i]?).map (·.1)).getD (.inl 0)) (fun i => ((ps[i]?).map (·.2.2)).getD .none) ?_ ?_ prs.length 0 _ [] ?_ (Nat.zero_le _) ⟨?_, ?_⟩ ?_ (Nat.le_refl _) ?_ ?_
 ·intro z
  simp only [List.mem_cons, List.not_mem_nil, or_false] at z
  rcases z with z | z
  ·exact Nat.ne_of_lt hD1 z
  ·exact Nat.ne_of_gt hps' z
 ·intro i v hv
  have hv' : (ps.map fun x => Value.ref x.1)[i]? = some v := by simpa using hv
  rw [List.getElem?_map] at hv'
  cases hx : ps[i]? with
  | none => rw [hx] at hv'; cases hv'
  | some x =>
   rw [hx] at hv'
   cases hv'
   obtain ⟨q, g1, g2, g3, g4⟩ := hprs i x hx
   have hl2 : x.1 < s.heap.objs.size := by obtain ⟨o, ho, _⟩ := g2; exact Heap.lt_size ho
   refine ⟨x.1, x.2.1, rfl, Nat.ne_of_lt hl2, ?_, ?_, ?_⟩
   ·intro z
    simp only [List.mem_cons, List.not_mem_nil, or_false] at z
    exact Nat.ne_of_lt (Nat.lt_trans hl2 hD1) z
   ·rw [g1]; exact g3
   ·exact g2
 ·rw [hsz, ← hlen]; exact hz
 ·rw [hsz]; rfl
 ·exact ⟨_, Heap.get?_push_size _ rfl, rfl, rfl⟩
 ·obtain ⟨o, a1, a2⟩ := hl1
  exact ⟨o, Heap.get?_push_of_some _ a1, a2⟩
 ·obtain ⟨o, es, ep, ho, rr⟩ := hnew
  exact ⟨o, es, ep, Heap.get?_push_of_some _ (hk1 _ _ ho), rr⟩
 ·intro b o _ _ e
  exact keepS b o e
 ·intro h' tk hD hkp
  have hkv := ZHz (key := fun i => ((prs[i]?).map (·.1)).getD (.inl 0)) (val := fun i => ((ps[i]?).map (·.2.2)).getD .none) prs 0 [] [] .nil fun j q hq => by
   rw [Nat.zero_add]
   have hj : j < ps.length := by rw [hps]; exact (List.getElem?_eq_some_iff.mp hq).1
   obtain ⟨q', g1, _, _, g4⟩ := hprs j ps[j] (List.getElem?_eq_getElem hj)
   rw [hq] at g1
   cases g1
   constructor
   ·simp only [hq]; rfl
   ·simp only [List.getElem?_eq_getElem hj]; exact g4
  have hd2 := ZFF prs []
  refine ⟨rfl, .ref s.heap.objs.size, upd H s.heap.objs.size (.dK (ZGT prs)), I.laid (t' := tk) (fun b o e => hkp b o (Nat.ne_of_lt (Heap.lt_size e)) (fun z => ?_) e) (Nat.le_refl _) (ZHu ?_ (beq_eq_false_iff_ne.mpr (Ne.symm (Nat.ne_of_lt I.big))) hkv hD), rfl, q _ (I.hok.fresh (Nat.le_refl _))⟩
  ·simp only [List.mem_cons, List.not_mem_nil, or_false] at z
   exact Nat.ne_of_lt (Nat.lt_trans (Heap.lt_size e) hD1) z
  ·show (prs.foldl (fun acc p => ZCH acc p.1 p.2) []).length ≤ sizeLine
   simp only [List.length_nil] at hd2
   omega
theorem ZKs {K : W.Frag} {H : Hp} {Q : VK} {p : Addr} {prs : PL} (h1 : PrT H p prs) (hz : prs.length < sizeLine) (h : ∀ l H2, H l = none → H2 l = some (.dK (ZB8 (ZB4 prs))) → ZBd H H2 → Q (.ref l) H2) : ZFz K [.ref p] H Q := by
 obtain ⟨vs, h1, h2⟩ := h1
 exact ⟨p, vs, _, rfl, h1, h2.prs, by rw [h2.length]; exact hz, fun l hl => by
  rw [ZH7]
  exact h l _ hl ZBg (ZBd.new hl)⟩
section
variable {X : Cx}
end
inductive ZBs (H : Hp) : V → Option (PL) → Prop where
 | non : ZBs H .non Option.none
 | pr {c : Addr} {qs : PL} (h : PrT H c qs) (hl : qs.length = 4) : ZBs H (.ref c) (Option.some qs)
theorem ZBs.same {H H' : Hp} {v : V} {o : Option (PL)} (h : ZBs H v o) (s : ZBd H H') : ZBs H' v o := by
 cases h with
 | non => exact .non
 | pr e hl => exact .pr (e.same s) hl
theorem ZBs.kpL {H H' : Hp} {l : Addr} {xs : List V} {v : V} {o : Option (PL)} (h : ZBs H v o) (k : Kp l H H') (hl : H l = Option.some (.lst xs)) : ZBs H' v o := by
 cases h with
 | non => exact .non
 | pr e hn => exact .pr (e.kpL k hl) hn
inductive ZCR (H : Hp) : List V → List (Option (PL)) → Prop where
 | nil : ZCR H [] []
 | cons {v : V} {o : Option (PL)} {vs : List V} {os : List (Option (PL))} (h : ZBs H v o) (t : ZCR H vs os) : ZCR H (v :: vs) (o :: os)
theorem ZCR.mapP {H H' : Hp} (f : ∀ v o, ZBs H v o → ZBs H' v o) : ∀ {vs : List V} {os : List (Option (PL))}, ZCR H vs os → ZCR H' vs os
 | _, _, .nil => .nil
 | _, _, .cons h t => .cons (f _ _ h) (ZCR.mapP f t)
theorem ZCR.same {H H' : Hp} {vs : List V} {os : List (Option (PL))} (h : ZCR H vs os) (s : ZBd H H') : ZCR H' vs os := h.mapP fun _ _ d => d.same s
theorem ZCR.len {H : Hp} : ∀ {vs : List V} {os : List (Option (PL))}, ZCR H vs os → vs.length = os.length
 | _, _, .nil => rfl
 | _, _, .cons _ t => by simp [ZCR.len t]
theorem ZCR.snoc {H : Hp} : ∀ {vs : List V} {os : List (Option (PL))}, ZCR H vs os → ∀ {v : V} {o : Option (PL)}, ZBs H v o → ZCR H (vs ++ [v]) (os ++ [o])
 | _, _, .nil, _, _, d => .cons d .nil
 | _, _, .cons h t, _, _, d => .cons h (ZCR.snoc t d)
theorem ZCR.at {H : Hp} : ∀ {vs : List V} {os : List (Option (PL))}, ZCR H vs os → ∀ {i : Nat} {v : V}, vs[i]? = Option.some v → ∃ o, os[i]? = Option.some o ∧ ZBs H v o
 | _, _, .nil, i, v, e => by simp at e
 | _, _, .cons h t, 0, v, e => by simp at e; subst e; exact ⟨_, rfl, h⟩
 | _, _, .cons _ t, i + 1, v, e => by
  obtain ⟨o, h1, h2⟩ := ZCR.at t (by simpa using e)
  exact ⟨o, by simpa using h1, h2⟩
def ZGY : Option (PL) → PyData
 | none => .none
 | some qs => .tuple (qs.map ZCJ)
section
variable {X : Cx}
mutual
theorem Dat.same {K : W.Frag} {H H' : Hp} (s : ZBd H H') : ∀ {x : V} {d : PyData}, Dat K H x d → Dat K H' x d
 | _, _, .non => .non
 | _, _, .bl b => .bl b
 | _, _, .int i => .int i
 | _, _, .str x => .str x
 | _, _, .tup h r => .tup (s.seqT h) (ZC5.same s r)
 | _, _, .lst h r => .lst (s.seq h) (ZC5.same s r)
theorem ZC5.same {K : W.Frag} {H H' : Hp} (s : ZBd H H') : ∀ {x : List V} {d : List PyData}, ZC5 K H x d → ZC5 K H' x d
 | _, _, .nil => .nil
 | _, _, .cons h r => .cons (Dat.same s h) (ZC5.same s r)
end
end
section
variable {X : Cx} {pins : List (Addr × Obj)} {σ : St} {H : Hp} {s : Shared}
end
section
variable {prog : Program} {w : World} {A : Around} {E : Value → Shared → Prop} {s : Shared}
end
section
variable {X : Cx} {tg : Expr}
end
section
variable {K : W.Frag} {σ : St} {H : Hp} {D : ZCK}
end
section
variable {X : Cx} {k : Nat} {f : Addr} {fd : FuncData} {ps : List Str} {sp : Sp}
theorem ZFb {pins : List (Addr × Obj)} {σ : St} {H : Hp} {s : Shared} {Q : VK} {us : List Value} {vs : List V} {E1 : Value → Shared → Prop} (F : ZBh X.prog X.w X.K X.mg X.base CX0 k f fd ps sp) (hr : Room k X.A.in1) (hb : ZBf X.K fd ps [])
  (I : Inv X pins σ H s) (r : ZBj vs us) (h : sp vs H Q E0) : wpAny (model X.prog X.w) X.A.in1 (call (.ref f) us) (EP X pins σ Q) E1 s := by
 have hl : (us ++ []).length = ps.length := by rw [List.append_nil, ← r.length]; exact F.len _ _ _ _ h
 refine wpAny_call (codeAny_mono (F.run X.A.in1 X.stack s H ⟨us, []⟩ (us ++ []) vs Q E0 hr I.env0.in1 (hb s us I.kIn hl) (by rw [List.append_nil]; exact r) h) fun r s' hq => ?_)
 cases r with
 | error e => exact False.elim hq
 | ok fl =>
  cases fl with
  | ret u => exact I.after hq
  | next => exact False.elim hq
  | brk => exact False.elim hq
  | cont => exact False.elim hq
theorem Inv.pin2 {pins : List (Addr × Obj)} {σ : St} {H : Hp} {s : Shared} {a b : Addr} {oa ob : Obj} (I : Inv X pins σ H s) (fa : ZC1 X pins H a) (fb : ZC1 X pins H b) (ha : s.heap.get? a = some oa) (hb : s.heap.get? b = some ob) (ca : ∀ v, oa.data ≠ .cell v) (cb : ∀ v, ob.data ≠ .cell v) :
  Inv X ((a, oa) :: (b, ob) :: pins) σ H s := I.pins_of fun p hp => by
 rcases List.mem_cons.mp hp with rfl | hp
 ·exact ⟨ha, fa.1, fa.2.1, fa.2.2.1, ca⟩
 ·rcases List.mem_cons.mp hp with rfl | hp
  ·exact ⟨hb, fb.1, fb.2.1, fb.2.2.1, cb⟩
  ·exact I.pin p (List.mem_append_right _ hp)
theorem Inv.unpin2 {pins : List (Addr × Obj)} {σ : St} {H : Hp} {s : Shared} {a b : Addr} {oa ob : Obj} (I : Inv X ((a, oa) :: (b, ob) :: pins) σ H s) : s.heap.get? a = some oa ∧ s.heap.get? b = some ob ∧ Inv X pins σ H s :=
 ⟨(I.pin (a, oa) (List.mem_append_right _ (.head _))).1, (I.pin (b, ob) (List.mem_append_right _ (.tail _ (.head _)))).1, I.pins_of fun p hp => I.pin p (List.mem_append_right _ (.tail _ (.tail _ hp)))⟩
theorem Inv.turnedAt {pins : List (Addr × Obj)} {σ : St} {H : Hp} {s : Shared} {h' : Heap} {t' : Nat} {it : Addr} (I : Inv X pins σ H s) (fa : ZC1 X pins H it) (k : ∀ b o, b ≠ it → s.heap.get? b = some o → h'.get? b = some o) : Inv X pins σ H { s with heap := h', toks := t' } := by
 obtain ⟨f0, f1, f2, f3, f4, f5⟩ := fa
 exact I.turned k f0 f1 f3 f4 f5
theorem ZHG {pins : List (Addr × Obj)} {σ : St} {H : Hp} (hc : X.calm = true) (F : ZBh X.prog X.w X.K X.mg X.base CX0 k f fd ps sp) (hr : Room k X.A.in1) (hb : ZBf X.K fd ps []) {l I S : Addr} {us : List V} (kf : Nat → Int) (hSI : S ≠ I) (hS : SqT X.K H l us)
  (fI : ZC1 X pins H I) (fS : ZC1 X pins H S) (turn : ∀ i v, us[i]? = some v → ∀ Q : VK, Q (.int (kf i)) H → sp [v] H Q E0) {R : Result → Shared → Prop}
  (hR : ∀ i v u s', us[i]? = some v → ZBi v u → (∀ j, j < us.length → kf i ≤ kf j ∧ (j < i → kf i < kf j)) → Inv X pins σ H s' → R (.ok (.ret u)) s') :
  ∀ (r j i : Nat) (s : Shared) (v : V) (vb : Value) (tb : Tok) (c : Nat), us.length - (j + 1) = r → j + 1 ≤ us.length → Inv X pins σ H s → s.heap.get? S = some (seqObj "list" #[vb, .int (kf i) tb] c) → s.heap.IsTupleIter I l (j + 1) →
   us[i]? = some v → ZBi v vb → i ≤ j → (∀ j', j' ≤ j → kf i ≤ kf j' ∧ (j' < i → kf i < kf j')) →
   codeAny (model X.prog X.w) X.A (.builtin "min.loop" ⟨[.ref I, .ref f, .ref S], []⟩) R s := by
 have hname : (toString "min" ++ toString ".loop" : String) = "min.loop" := by decide
 intro r
 induction r with
 | zero =>
  intro j i s v vb tb c hr' hj J nS hit hv rv hij hbest
  have hin : j + 1 = us.length := by omega
  obtain ⟨its, rvs, p, hz⟩ := J.tuple hS
  have hl := rvs.length
  refine codeAny_builtin PySem.F.entry_min_loop ?_
  rw [Around.under_plainId PySem.F.plain_min_loop _]
  show wpAny _ X.A.in1 (seqItems? (.ref S) >>= _) _ _ _
  refine wpAny_bind (wpAny_seqItems nS rfl ?_)
  show wpAny _ X.A.in1 (tryCatch (pyNext (.ref I)) _ >>= _) _ _ _
  refine wpAny_bind (wpAny_tryCatch (wpAny_pyNext_tuple_end (J.ok.hd hc) hit (show s.heap.IsTuple l its.toArray from p) (by simp; omega) fun h' eb => ?_))
  have J1 : Inv X pins σ H { s with heap := h' } := J.turnedAt (t' := s.toks) fI fun b o hb e => eb b o hb e
  have hS' : h'.get? S = some (seqObj "list" #[vb, .int (kf i) tb] c) := eb S _ hSI nS
  show wpAny _ X.A.in1 (updateSeq S (fun _ => #[]) >>= _) _ _ _
  refine wpAny_bind ?_
  refine wpAny_updateSeq hS' rfl (wpAny_bind (wpAny_letGo (wpAny_pure ?_)))
  exact hR i v vb _ hv rv (fun j' hj' => hbest j' (by omega)) (J1.turnedAt (t' := s.toks) fS fun b o hb e => (Heap.get?_update_other _ _ (Ne.symm hb)).trans e)
 | succ r ih =>
  intro j i s v vb tb c hr' hj J nS hit hv rv hij hbest
  have hlt : j + 1 < us.length := by omega
  obtain ⟨its, rvs, p, hz⟩ := J.tuple hS
  have hx : us[j + 1]? = some us[j + 1] := List.getElem?_eq_getElem hlt
  obtain ⟨u, hu, ru⟩ := rvs.get hx
  refine codeAny_builtin PySem.F.entry_min_loop ?_
  rw [Around.under_plainId PySem.F.plain_min_loop _]
  show wpAny _ X.A.in1 (seqItems? (.ref S) >>= _) _ _ _
  refine wpAny_bind (wpAny_seqItems nS rfl ?_)
  show wpAny _ X.A.in1 (tryCatch (pyNext (.ref I)) _ >>= _) _ _ _
  refine wpAny_bind (wpAny_tryCatch (wpAny_pyNext_tuple_item hit (show s.heap.IsTuple l its.toArray from p) (x := u) (by simpa using hu) fun h' st' sb => ?_))
  have J1 : Inv X pins σ H { s with heap := h' } := J.turnedAt (t' := s.toks) fI fun b o hb e => (sb.2 b hb).trans e
  have hS' : h'.get? S = some (seqObj "list" #[vb, .int (kf i) tb] c) := (sb.2 S hSI).trans nS
  obtain ⟨oI, hoI, hoc, hod⟩ := id st'
  have J2 := J1.pin2 (s := { s with heap := h' }) fS fI hS' hoI (fun v z => by cases z) (fun v z => by rw [hod] at z; cases z)
  show wpAny _ X.A.in1 (tryCatch (holding [u] (call (.ref f) [u])) _ >>= _) _ _ _
  refine wpAny_bind (wpAny_tryCatch (wpAny_holding (wpAny_mono (ZFb (E1 := fun _ _ => False) F hr hb J2 (.cons ru .nil) (turn (j + 1) _ hx (fun v H' => v = .int (kf (j + 1)) ∧ H' = H) ⟨rfl, rfl⟩)) (fun x s'' he => ?_) fun _ _ hF => hF.elim)))
  obtain ⟨v2, H2, J3, r2, e2, e3⟩ := he
  subst e2 e3
  obtain ⟨t2, rfl⟩ := r2
  obtain ⟨nS2, nI2, J4⟩ := J3.unpin2
  have hit2 : s''.heap.IsTupleIter I l (j + 1 + 1) := ⟨oI, nI2, hoc, hod⟩
  show wpAny _ X.A.in1 (tryCatch (holding [u, .int (kf (j + 1)) t2] (richCompare .Lt (.int (kf (j + 1)) t2) (.int (kf i) tb) >>= _)) _ >>= _) _ _ _
  refine wpAny_bind (wpAny_tryCatch (wpAny_holding (wpAny_bind (CmpOf.ints_lt (prog := X.prog) (w := X.w) (A := X.A.in1) (P := fun i v => ∃ t, v = .int (kf i) t) kf (fun i v h => h) (j + 1) i _ _ _ _ _ ⟨t2, rfl⟩ ⟨tb, rfl⟩ ?_))))
  refine wpAny_bind (wpAny_holding (wpAny_truthy_bool ?_))
  refine wpAny_bind (wpAny_letGo (wpAny_pure ?_))
  by_cases hb' : kf (j + 1) < kf i
  ·obtain ⟨c2, hc2⟩ : ∃ c2, (s''.heap.update S (Obj.mapSeq fun _ => #[u, .int (kf (j + 1)) t2])).get? S = some (seqObj "list" #[u, .int (kf (j + 1)) t2] c2) := ⟨_, get?_update_seq nS2 fun _ => #[u, .int (kf (j + 1)) t2]⟩
   simp only [hb', decide_true, if_true]
   refine wpAny_bind ?_
   refine wpAny_updateSeq nS2 rfl (wpAny_bind (wpAny_letGo ?_))
   rw [hname]
   refine wpAny_pure ⟨plainId_quiet PySem.F.plain_min_loop _, ih (j + 1) (j + 1) _ _ u t2 c2 (by omega) hlt (J4.turnedAt (t' := s''.toks) fS fun b o hb e => (Heap.get?_update_other _ _ (Ne.symm hb)).trans e) hc2 ⟨oI, (Heap.get?_update_other _ _ hSI).trans nI2, hoc, hod⟩ hx ru (Nat.le_refl _) fun j' hj' => ?_⟩
   by_cases e : j' = j + 1
   ·subst e
    exact ⟨by omega, fun _ => by omega⟩
   ·have hb1 := hbest j' (by omega)
    have hb2 := hb1.1
    exact ⟨by omega, fun _ => by omega⟩
  ·simp only [hb', decide_false, Bool.false_eq_true, if_false]
   refine wpAny_bind (wpAny_letGo ?_)
   rw [hname]
   refine wpAny_pure ⟨plainId_quiet PySem.F.plain_min_loop _, ih (j + 1) i _ v vb tb c (by omega) hlt J4 nS2 hit2 hv rv (by omega) fun j' hj' => ?_⟩
   by_cases e : j' = j + 1
   ·subst e
    exact ⟨by omega, fun _ => by omega⟩
   ·exact hbest j' (by omega)
theorem ZHH {pins : List (Addr × Obj)} {σ : St} {H : Hp} {s : Shared} {Q : VK} {E1 : Value → Shared → Prop} (hc : X.calm = true) (F : ZBh X.prog X.w X.K X.mg X.base CX0 k f fd ps sp) (hr : Room k X.A.in1) (hb : ZBf X.K fd ps []) {l : Addr} {us : List V} (kf : Nat → Int) (J : Inv X pins σ H s) (hS : SqT X.K H l us) (hne : us ≠ [])
  (turn : ∀ i v, us[i]? = some v → ∀ Q : VK, Q (.int (kf i)) H → sp [v] H Q E0) (hQ : ∀ i v, us[i]? = some v → (∀ j, j < us.length → kf i ≤ kf j ∧ (j < i → kf i < kf j)) → Q v H) :
  wpAny (model X.prog X.w) X.A (call (.builtin "min") [.ref l] [(Str.ofString "key", .ref f)]) (EP X pins σ Q) E1 s := by
 have hname : (toString "min" ++ toString ".loop" : String) = "min.loop" := by decide
 have hpos : 0 < us.length := List.length_pos_iff.mpr hne
 obtain ⟨its, rvs, p, hz⟩ := J.tuple hS
 have hls : s.heap.IsTuple l its.toArray := p
 refine kmk_tree PySem.F.kind_min PySem.F.plain_min PySem.F.entry_min (kmk_min_key _ _) ?_
 show wpAny _ X.A.in1 (Builtin.Builtins.bindParams "min" ["key", "default"] 0 ⟨[], [(Str.ofString "key", .ref f)]⟩ >>= _) _ _ s
 refine wpAny_bind (wpAny_of_eq (show Builtin.Builtins.bindParams "min" ["key", "default"] 0 ⟨[], [(Str.ofString "key", .ref f)]⟩ = pure [some (.ref f), none] from rfl) ?_)
 refine wpAny_bind (wpAny_pure ?_)
 refine wpAny_bind (wpAny_pyIter_tuple hls ?_)
 refine wpAny_bind (wpAny_newList ?_ (Nat.zero_le _))
 rw [hname]
 refine wpAny_pure ⟨plainId_quiet PySem.F.plain_min_loop _, ?_⟩
 generalize hO : ({ cls := .type "tuple_iterator", data := .fields #[.ref l, .int 0 0] } : Obj) = O
 have hSs : (s.heap.push O).objs.size = s.heap.objs.size + 1 := size_push' ..
 have hSI : (s.heap.push O).objs.size ≠ s.heap.objs.size := by rw [hSs]; exact Nat.ne_of_gt (Nat.lt_succ_self _)
 have gI : ((s.heap.push O).push (seqObj "list" #[] 0)).get? s.heap.objs.size = some O := Heap.get?_push_of_some _ (Heap.get?_push_size _ (by rw [← hO]; rfl))
 have gS : ((s.heap.push O).push (seqObj "list" #[] 0)).get? (s.heap.push O).objs.size = some (seqObj "list" #[] 0) := Heap.get?_push_size _ rfl
 have fI : ZC1 X pins H s.heap.objs.size := J.fpOk (Nat.le_refl _) (J.hok.fresh (Nat.le_refl _))
 have fS : ZC1 X pins H (s.heap.push O).objs.size := J.fpOk (by rw [hSs]; exact Nat.le_succ _) (J.hok.fresh (by rw [hSs]; exact Nat.le_succ _))
 have J0 : Inv X pins σ H { s with heap := (s.heap.push O).push (seqObj "list" #[] 0) } := J.kept (t' := s.toks) fun b o e => Heap.get?_push_of_some _ (Heap.get?_push_of_some _ e)
 obtain ⟨its0, rvs0, p0, hz0⟩ := J0.tuple hS
 have hx : us[0]? = some us[0] := List.getElem?_eq_getElem hpos
 obtain ⟨u, hu, ru⟩ := rvs0.get hx
 refine codeAny_builtin PySem.F.entry_min_loop ?_
 rw [Around.under_plainId PySem.F.plain_min_loop _]
 show wpAny _ X.A.in1 (seqItems? (.ref _) >>= _) _ _ _
 refine wpAny_bind (wpAny_seqItems gS rfl ?_)
 show wpAny _ X.A.in1 (tryCatch (pyNext (.ref s.heap.objs.size)) _ >>= _) _ _ _
 refine wpAny_bind (wpAny_tryCatch (wpAny_pyNext_tuple_item (s := { s with heap := (s.heap.push O).push (seqObj "list" #[] 0) }) (i := 0) ⟨O, gI, by rw [← hO], by rw [← hO]; rfl⟩ (show ((s.heap.push O).push (seqObj "list" #[] 0)).IsTuple l its0.toArray from p0) (x := u) (by simpa using hu) fun h' st' sb => ?_))
 have J1 : Inv X pins σ H { s with heap := h' } := J0.turnedAt (t' := s.toks) fI fun b o hb e => (sb.2 b hb).trans e
 have hS' : h'.get? (s.heap.push O).objs.size = some (seqObj "list" #[] 0) := (sb.2 _ hSI).trans gS
 obtain ⟨oI, hoI, hoc, hod⟩ := id st'
 have J2 := J1.pin2 (s := { s with heap := h' }) fS fI hS' hoI (fun v z => by cases z) (fun v z => by rw [hod] at z; cases z)
 show wpAny _ X.A.in1 (tryCatch (holding [u] (call (.ref f) [u])) _ >>= _) _ _ _
 refine wpAny_bind (wpAny_tryCatch (wpAny_holding (wpAny_mono (ZFb (E1 := fun _ _ => False) F hr hb J2 (.cons ru .nil) (turn 0 _ hx (fun v H' => v = .int (kf 0) ∧ H' = H) ⟨rfl, rfl⟩)) (fun x s'' he => ?_) fun _ _ hF => hF.elim)))
 obtain ⟨v2, H2, J3, r2, e2, e3⟩ := he
 subst e2 e3
 obtain ⟨t2, rfl⟩ := r2
 obtain ⟨nS2, nI2, J4⟩ := J3.unpin2
 obtain ⟨c2, hc2⟩ : ∃ c2, (s''.heap.update (s.heap.push O).objs.size (Obj.mapSeq fun _ => #[u, .int (kf 0) t2])).get? (s.heap.push O).objs.size = some (seqObj "list" #[u, .int (kf 0) t2] c2) := ⟨_, get?_update_seq nS2 fun _ => #[u, .int (kf 0) t2]⟩
 show wpAny _ X.A.in1 (updateSeq (s.heap.push O).objs.size (fun _ => #[u, .int (kf 0) t2]) >>= _) _ _ _
 refine wpAny_bind ?_
 refine wpAny_updateSeq nS2 rfl ?_
 rw [hname]
 refine wpAny_pure ⟨plainId_quiet PySem.F.plain_min_loop _, ZHG hc F hr hb kf hSI hS fI fS turn (fun i v u s' hv rv hbest J' => ⟨v, _, J', rv, hQ i v hv hbest⟩) _ 0 0 _ _ u t2 c2 rfl hpos (J4.turnedAt (t' := s''.toks) fS fun b o hb e => (Heap.get?_update_other _ _ (Ne.symm hb)).trans e) hc2 ⟨oI, (Heap.get?_update_other _ _ hSI).trans nI2, hoc, hod⟩ hx ru (Nat.le_refl _) fun j' hj' => ?_⟩
 have e : j' = 0 := by omega
 subst e
 exact ⟨by omega, fun h => absurd h (Nat.lt_irrefl _)⟩
def ZF0 (K : W.Frag) (sp : Sp) (vs : List V) (H : Hp) (Q : VK) : Prop := ∃ (l : Addr) (us : List V) (kf : Nat → Int), vs = [.ref l] ∧ SqT K H l us ∧ us ≠ [] ∧ (∀ i v, us[i]? = some v → ∀ Q : VK, Q (.int (kf i)) H → sp [v] H Q E0) ∧
 ∀ i v, us[i]? = some v → (∀ j, j < us.length → kf i ≤ kf j ∧ (j < i → kf i < kf j)) → Q v H
def ZIC (K : W.Frag) (sp : Sp) (t : TA) : TE := fun σ H Q => t σ H fun vs H1 => ZF0 K sp vs H1 Q
theorem ZJu {x : Str} {e : Expr} {t : TA} {p kp kpos pos : Pos} (K : W.Frag) (hK : X.K = K) (hc : X.calm = true) (F : ZBh X.prog X.w X.K X.mg X.base CX0 k f fd ps sp) (hr : Room (k + 1) X.A) (hgm : Gl X "min") (hmm : X.mg "min" = none) (hg : Gl X x) (hm : X.mg x = some (.ref f)) (hb : ZBf X.K fd ps []) (ha : QA X [e] t)
  (hs : ZDS e = false := by rfl) (hd : (x == ("__debug__" : Str)) = false := by decide) : QE X (.Call (.Name "min" p) [e] [⟨some "key", .Name x kp, kpos⟩] pos) (ZIC K sp t) := by
 subst hK
 refine ⟨?_⟩
 intro pins s σ H Q I h
 refine wpAny_Call_Name_kw (ZD2 I hgm hmm ZGP ?_ (by decide) (by decide))
 have hse := ZDl (e := e) (es := []) (env := X.env) hs
 refine PyProof.Rows.callWith_kw (thn (ha.h pos pins s σ H _ I h) fun us s1 ⟨vs, H1, I1, r1, q1⟩ => PyProof.Rows.kws_cons (ZDM I1 hg hm (PyProof.Rows.kws_nil ?_) hd)) (by rw [hse]; rfl) (by rw [hse]; rfl)
 obtain ⟨l, ws, kf, e1, g1, g2, g3, g4⟩ := q1
 subst e1
 obtain ⟨u, rfl, ru⟩ := r1.one
 cases ru
 exact ZHH hc F hr.in1 hb kf I1 g1 g2 g3 g4
theorem ZJv {K : W.Frag} {H : Hp} {Q : VK} {sp : Sp} {l : Addr} {us : List V} (kf : Nat → Int) (h1 : SqT K H l us) (h2 : us ≠ []) (h3 : ∀ i v, us[i]? = some v → ∀ Q : VK, Q (.int (kf i)) H → sp [v] H Q E0)
 (h : ∀ i v, us[i]? = some v → (∀ j, j < us.length → kf i ≤ kf j ∧ (j < i → kf i < kf j)) → Q v H) : ZF0 K sp [.ref l] H Q := ⟨l, us, kf, rfl, h1, h2, h3, h⟩
theorem ZIq {K : W.Frag} {sp : Sp} {t : TA} {σ : St} {H : Hp} {Q : VK} (h : t σ H fun vs H1 => ZF0 K sp vs H1 Q) : ZIC K sp t σ H Q := h
theorem ZHI {pins : List (Addr × Obj)} {σ : St} {H : Hp} (hc : X.calm = true) (F : ZBh X.prog X.w X.K X.mg X.base CX0 k f fd ps sp) (hr : Room k X.A.in1) (hb : ZBf X.K fd ps []) {l I S : Addr} {us : List V} (kf : Nat → Int) (hSI : S ≠ I) (hS : SqT X.K H l us)
  (fI : ZC1 X pins H I) (fS : ZC1 X pins H S) (turn : ∀ i v, us[i]? = some v → ∀ Q : VK, Q (.int (kf i)) H → sp [v] H Q E0) {R : Result → Shared → Prop}
  (hR : ∀ i v u s', us[i]? = some v → ZBi v u → (∀ j, j < us.length → kf i ≥ kf j ∧ (j < i → kf i > kf j)) → Inv X pins σ H s' → R (.ok (.ret u)) s') :
  ∀ (r j i : Nat) (s : Shared) (v : V) (vb : Value) (tb : Tok) (c : Nat), us.length - (j + 1) = r → j + 1 ≤ us.length → Inv X pins σ H s → s.heap.get? S = some (seqObj "list" #[vb, .int (kf i) tb] c) → s.heap.IsTupleIter I l (j + 1) →
   us[i]? = some v → ZBi v vb → i ≤ j → (∀ j', j' ≤ j → kf i ≥ kf j' ∧ (j' < i → kf i > kf j')) →
   codeAny (model X.prog X.w) X.A (.builtin "max.loop" ⟨[.ref I, .ref f, .ref S], []⟩) R s := by
 have hname : (toString "max" ++ toString ".loop" : String) = "max.loop" := by decide
 intro r
 induction r with
 | zero =>
  intro j i s v vb tb c hr' hj J nS hit hv rv hij hbest
  have hin : j + 1 = us.length := by omega
  obtain ⟨its, rvs, p, hz⟩ := J.tuple hS
  have hl := rvs.length
  refine codeAny_builtin PySem.F.entry_max_loop ?_
  rw [Around.under_plainId PySem.F.plain_max_loop _]
  show wpAny _ X.A.in1 (seqItems? (.ref S) >>= _) _ _ _
  refine wpAny_bind (wpAny_seqItems nS rfl ?_)
  show wpAny _ X.A.in1 (tryCatch (pyNext (.ref I)) _ >>= _) _ _ _
  refine wpAny_bind (wpAny_tryCatch (wpAny_pyNext_tuple_end (J.ok.hd hc) hit (show s.heap.IsTuple l its.toArray from p) (by simp; omega) fun h' eb => ?_))
  have J1 : Inv X pins σ H { s with heap := h' } := J.turnedAt (t' := s.toks) fI fun b o hb e => eb b o hb e
  have hS' : h'.get? S = some (seqObj "list" #[vb, .int (kf i) tb] c) := eb S _ hSI nS
  show wpAny _ X.A.in1 (updateSeq S (fun _ => #[]) >>= _) _ _ _
  refine wpAny_bind ?_
  refine wpAny_updateSeq hS' rfl (wpAny_bind (wpAny_letGo (wpAny_pure ?_)))
  exact hR i v vb _ hv rv (fun j' hj' => hbest j' (by omega)) (J1.turnedAt (t' := s.toks) fS fun b o hb e => (Heap.get?_update_other _ _ (Ne.symm hb)).trans e)
 | succ r ih =>
  intro j i s v vb tb c hr' hj J nS hit hv rv hij hbest
  have hlt : j + 1 < us.length := by omega
  obtain ⟨its, rvs, p, hz⟩ := J.tuple hS
  have hx : us[j + 1]? = some us[j + 1] := List.getElem?_eq_getElem hlt
  obtain ⟨u, hu, ru⟩ := rvs.get hx
  refine codeAny_builtin PySem.F.entry_max_loop ?_
  rw [Around.under_plainId PySem.F.plain_max_loop _]
  show wpAny _ X.A.in1 (seqItems? (.ref S) >>= _) _ _ _
  refine wpAny_bind (wpAny_seqItems nS rfl ?_)
  show wpAny _ X.A.in1 (tryCatch (pyNext (.ref I)) _ >>= _) _ _ _
  refine wpAny_bind (wpAny_tryCatch (wpAny_pyNext_tuple_item hit (show s.heap.IsTuple l its.toArray from p) (x := u) (by simpa using hu) fun h' st' sb => ?_))
  have J1 : Inv X pins σ H { s with heap := h' } := J.turnedAt (t' := s.toks) fI fun b o hb e => (sb.2 b hb).trans e
  have hS' : h'.get? S = some (seqObj "list" #[vb, .int (kf i) tb] c) := (sb.2 S hSI).trans nS
  obtain ⟨oI, hoI, hoc, hod⟩ := id st'
  have J2 := J1.pin2 (s := { s with heap := h' }) fS fI hS' hoI (fun v z => by cases z) (fun v z => by rw [hod] at z; cases z)
  show wpAny _ X.A.in1 (tryCatch (holding [u] (call (.ref f) [u])) _ >>= _) _ _ _
  refine wpAny_bind (wpAny_tryCatch (wpAny_holding (wpAny_mono (ZFb (E1 := fun _ _ => False) F hr hb J2 (.cons ru .nil) (turn (j + 1) _ hx (fun v H' => v = .int (kf (j + 1)) ∧ H' = H) ⟨rfl, rfl⟩)) (fun x s'' he => ?_) fun _ _ hF => hF.elim)))
  obtain ⟨v2, H2, J3, r2, e2, e3⟩ := he
  subst e2 e3
  obtain ⟨t2, rfl⟩ := r2
  obtain ⟨nS2, nI2, J4⟩ := J3.unpin2
  have hit2 : s''.heap.IsTupleIter I l (j + 1 + 1) := ⟨oI, nI2, hoc, hod⟩
  show wpAny _ X.A.in1 (tryCatch (holding [u, .int (kf (j + 1)) t2] (richCompare .Gt (.int (kf (j + 1)) t2) (.int (kf i) tb) >>= _)) _ >>= _) _ _ _
  refine wpAny_bind (wpAny_tryCatch (wpAny_holding (wpAny_bind (CmpOf.ints_gt (prog := X.prog) (w := X.w) (A := X.A.in1) (P := fun i v => ∃ t, v = .int (kf i) t) kf (fun i v h => h) (j + 1) i _ _ _ _ _ ⟨t2, rfl⟩ ⟨tb, rfl⟩ ?_))))
  refine wpAny_bind (wpAny_holding (wpAny_truthy_bool ?_))
  refine wpAny_bind (wpAny_letGo (wpAny_pure ?_))
  by_cases hb' : kf (j + 1) > kf i
  ·obtain ⟨c2, hc2⟩ : ∃ c2, (s''.heap.update S (Obj.mapSeq fun _ => #[u, .int (kf (j + 1)) t2])).get? S = some (seqObj "list" #[u, .int (kf (j + 1)) t2] c2) := ⟨_, get?_update_seq nS2 fun _ => #[u, .int (kf (j + 1)) t2]⟩
   simp only [hb', decide_true, if_true]
   refine wpAny_bind ?_
   refine wpAny_updateSeq nS2 rfl (wpAny_bind (wpAny_letGo ?_))
   rw [hname]
   refine wpAny_pure ⟨plainId_quiet PySem.F.plain_max_loop _, ih (j + 1) (j + 1) _ _ u t2 c2 (by omega) hlt (J4.turnedAt (t' := s''.toks) fS fun b o hb e => (Heap.get?_update_other _ _ (Ne.symm hb)).trans e) hc2 ⟨oI, (Heap.get?_update_other _ _ hSI).trans nI2, hoc, hod⟩ hx ru (Nat.le_refl _) fun j' hj' => ?_⟩
   by_cases e : j' = j + 1
   ·subst e
    exact ⟨by omega, fun _ => by omega⟩
   ·have hb1 := hbest j' (by omega)
    have hb2 := hb1.1
    exact ⟨by omega, fun _ => by omega⟩
  ·simp only [hb', decide_false, Bool.false_eq_true, if_false]
   refine wpAny_bind (wpAny_letGo ?_)
   rw [hname]
   refine wpAny_pure ⟨plainId_quiet PySem.F.plain_max_loop _, ih (j + 1) i _ v vb tb c (by omega) hlt J4 nS2 hit2 hv rv (by omega) fun j' hj' => ?_⟩
   by_cases e : j' = j + 1
   ·subst e
    exact ⟨by omega, fun _ => by omega⟩
   ·exact hbest j' (by omega)
theorem ZHJ {pins : List (Addr × Obj)} {σ : St} {H : Hp} {s : Shared} {Q : VK} {E1 : Value → Shared → Prop} (hc : X.calm = true) (F : ZBh X.prog X.w X.K X.mg X.base CX0 k f fd ps sp) (hr : Room k X.A.in1) (hb : ZBf X.K fd ps []) {l : Addr} {us : List V} (kf : Nat → Int) (J : Inv X pins σ H s) (hS : SqT X.K H l us) (hne : us ≠ [])
  (turn : ∀ i v, us[i]? = some v → ∀ Q : VK, Q (.int (kf i)) H → sp [v] H Q E0) (hQ : ∀ i v, us[i]? = some v → (∀ j, j < us.length → kf i ≥ kf j ∧ (j < i → kf i > kf j)) → Q v H) :
  wpAny (model X.prog X.w) X.A (call (.builtin "max") [.ref l] [(Str.ofString "key", .ref f)]) (EP X pins σ Q) E1 s := by
 have hname : (toString "max" ++ toString ".loop" : String) = "max.loop" := by decide
 have hpos : 0 < us.length := List.length_pos_iff.mpr hne
 obtain ⟨its, rvs, p, hz⟩ := J.tuple hS
 have hls : s.heap.IsTuple l its.toArray := p
 refine kmk_tree PySem.F.kind_max PySem.F.plain_max PySem.F.entry_max (kmk_max_key _ _) ?_
 show wpAny _ X.A.in1 (Builtin.Builtins.bindParams "max" ["key", "default"] 0 ⟨[], [(Str.ofString "key", .ref f)]⟩ >>= _) _ _ s
 refine wpAny_bind (wpAny_of_eq (show Builtin.Builtins.bindParams "max" ["key", "default"] 0 ⟨[], [(Str.ofString "key", .ref f)]⟩ = pure [some (.ref f), none] from rfl) ?_)
 refine wpAny_bind (wpAny_pure ?_)
 refine wpAny_bind (wpAny_pyIter_tuple hls ?_)
 refine wpAny_bind (wpAny_newList ?_ (Nat.zero_le _))
 rw [hname]
 refine wpAny_pure ⟨plainId_quiet PySem.F.plain_max_loop _, ?_⟩
 generalize hO : ({ cls := .type "tuple_iterator", data := .fields #[.ref l, .int 0 0] } : Obj) = O
 have hSs : (s.heap.push O).objs.size = s.heap.objs.size + 1 := size_push' ..
 have hSI : (s.heap.push O).objs.size ≠ s.heap.objs.size := by rw [hSs]; exact Nat.ne_of_gt (Nat.lt_succ_self _)
 have gI : ((s.heap.push O).push (seqObj "list" #[] 0)).get? s.heap.objs.size = some O := Heap.get?_push_of_some _ (Heap.get?_push_size _ (by rw [← hO]; rfl))
 have gS : ((s.heap.push O).push (seqObj "list" #[] 0)).get? (s.heap.push O).objs.size = some (seqObj "list" #[] 0) := Heap.get?_push_size _ rfl
 have fI : ZC1 X pins H s.heap.objs.size := J.fpOk (Nat.le_refl _) (J.hok.fresh (Nat.le_refl _))
 have fS : ZC1 X pins H (s.heap.push O).objs.size := J.fpOk (by rw [hSs]; exact Nat.le_succ _) (J.hok.fresh (by rw [hSs]; exact Nat.le_succ _))
 have J0 : Inv X pins σ H { s with heap := (s.heap.push O).push (seqObj "list" #[] 0) } := J.kept (t' := s.toks) fun b o e => Heap.get?_push_of_some _ (Heap.get?_push_of_some _ e)
 obtain ⟨its0, rvs0, p0, hz0⟩ := J0.tuple hS
 have hx : us[0]? = some us[0] := List.getElem?_eq_getElem hpos
 obtain ⟨u, hu, ru⟩ := rvs0.get hx
 refine codeAny_builtin PySem.F.entry_max_loop ?_
 rw [Around.under_plainId PySem.F.plain_max_loop _]
 show wpAny _ X.A.in1 (seqItems? (.ref _) >>= _) _ _ _
 refine wpAny_bind (wpAny_seqItems gS rfl ?_)
 show wpAny _ X.A.in1 (tryCatch (pyNext (.ref s.heap.objs.size)) _ >>= _) _ _ _
 refine wpAny_bind (wpAny_tryCatch (wpAny_pyNext_tuple_item (s := { s with heap := (s.heap.push O).push (seqObj "list" #[] 0) }) (i := 0) ⟨O, gI, by rw [← hO], by rw [← hO]; rfl⟩ (show ((s.heap.push O).push (seqObj "list" #[] 0)).IsTuple l its0.toArray from p0) (x := u) (by simpa using hu) fun h' st' sb => ?_))
 have J1 : Inv X pins σ H { s with heap := h' } := J0.turnedAt (t' := s.toks) fI fun b o hb e => (sb.2 b hb).trans e
 have hS' : h'.get? (s.heap.push O).objs.size = some (seqObj "list" #[] 0) := (sb.2 _ hSI).trans gS
 obtain ⟨oI, hoI, hoc, hod⟩ := id st'
 have J2 := J1.pin2 (s := { s with heap := h' }) fS fI hS' hoI (fun v z => by cases z) (fun v z => by rw [hod] at z; cases z)
 show wpAny _ X.A.in1 (tryCatch (holding [u] (call (.ref f) [u])) _ >>= _) _ _ _
 refine wpAny_bind (wpAny_tryCatch (wpAny_holding (wpAny_mono (ZFb (E1 := fun _ _ => False) F hr hb J2 (.cons ru .nil) (turn 0 _ hx (fun v H' => v = .int (kf 0) ∧ H' = H) ⟨rfl, rfl⟩)) (fun x s'' he => ?_) fun _ _ hF => hF.elim)))
 obtain ⟨v2, H2, J3, r2, e2, e3⟩ := he
 subst e2 e3
 obtain ⟨t2, rfl⟩ := r2
 obtain ⟨nS2, nI2, J4⟩ := J3.unpin2
 obtain ⟨c2, hc2⟩ : ∃ c2, (s''.heap.update (s.heap.push O).objs.size (Obj.mapSeq fun _ => #[u, .int (kf 0) t2])).get? (s.heap.push O).objs.size = some (seqObj "list" #[u, .int (kf 0) t2] c2) := ⟨_, get?_update_seq nS2 fun _ => #[u, .int (kf 0) t2]⟩
 show wpAny _ X.A.in1 (updateSeq (s.heap.push O).objs.size (fun _ => #[u, .int (kf 0) t2]) >>= _) _ _ _
 refine wpAny_bind ?_
 refine wpAny_updateSeq nS2 rfl ?_
 rw [hname]
 refine wpAny_pure ⟨plainId_quiet PySem.F.plain_max_loop _, ZHI hc F hr hb kf hSI hS fI fS turn (fun i v u s' hv rv hbest J' => ⟨v, _, J', rv, hQ i v hv hbest⟩) _ 0 0 _ _ u t2 c2 rfl hpos (J4.turnedAt (t' := s''.toks) fS fun b o hb e => (Heap.get?_update_other _ _ (Ne.symm hb)).trans e) hc2 ⟨oI, (Heap.get?_update_other _ _ hSI).trans nI2, hoc, hod⟩ hx ru (Nat.le_refl _) fun j' hj' => ?_⟩
 have e : j' = 0 := by omega
 subst e
 exact ⟨by omega, fun h => absurd h (Nat.lt_irrefl _)⟩
def ZF1 (K : W.Frag) (sp : Sp) (vs : List V) (H : Hp) (Q : VK) : Prop := ∃ (l : Addr) (us : List V) (kf : Nat → Int), vs = [.ref l] ∧ SqT K H l us ∧ us ≠ [] ∧ (∀ i v, us[i]? = some v → ∀ Q : VK, Q (.int (kf i)) H → sp [v] H Q E0) ∧
 ∀ i v, us[i]? = some v → (∀ j, j < us.length → kf i ≥ kf j ∧ (j < i → kf i > kf j)) → Q v H
def ZID (K : W.Frag) (sp : Sp) (t : TA) : TE := fun σ H Q => t σ H fun vs H1 => ZF1 K sp vs H1 Q
theorem ZJw {x : Str} {e : Expr} {t : TA} {p kp kpos pos : Pos} (K : W.Frag) (hK : X.K = K) (hc : X.calm = true) (F : ZBh X.prog X.w X.K X.mg X.base CX0 k f fd ps sp) (hr : Room (k + 1) X.A) (hgm : Gl X "max") (hmm : X.mg "max" = none) (hg : Gl X x) (hm : X.mg x = some (.ref f)) (hb : ZBf X.K fd ps []) (ha : QA X [e] t)
  (hs : ZDS e = false := by rfl) (hd : (x == ("__debug__" : Str)) = false := by decide) : QE X (.Call (.Name "max" p) [e] [⟨some "key", .Name x kp, kpos⟩] pos) (ZID K sp t) := by
 subst hK
 refine ⟨?_⟩
 intro pins s σ H Q I h
 refine wpAny_Call_Name_kw (ZD2 I hgm hmm ZKb ?_ (by decide) (by decide))
 have hse := ZDl (e := e) (es := []) (env := X.env) hs
 refine PyProof.Rows.callWith_kw (thn (ha.h pos pins s σ H _ I h) fun us s1 ⟨vs, H1, I1, r1, q1⟩ => PyProof.Rows.kws_cons (ZDM I1 hg hm (PyProof.Rows.kws_nil ?_) hd)) (by rw [hse]; rfl) (by rw [hse]; rfl)
 obtain ⟨l, ws, kf, e1, g1, g2, g3, g4⟩ := q1
 subst e1
 obtain ⟨u, rfl, ru⟩ := r1.one
 cases ru
 exact ZHJ hc F hr.in1 hb kf I1 g1 g2 g3 g4
theorem ZJx {K : W.Frag} {H : Hp} {Q : VK} {sp : Sp} {l : Addr} {us : List V} (kf : Nat → Int) (h1 : SqT K H l us) (h2 : us ≠ []) (h3 : ∀ i v, us[i]? = some v → ∀ Q : VK, Q (.int (kf i)) H → sp [v] H Q E0)
 (h : ∀ i v, us[i]? = some v → (∀ j, j < us.length → kf i ≥ kf j ∧ (j < i → kf i > kf j)) → Q v H) : ZF1 K sp [.ref l] H Q := ⟨l, us, kf, rfl, h1, h2, h3, h⟩
theorem ZIr {K : W.Frag} {sp : Sp} {t : TA} {σ : St} {H : Hp} {Q : VK} (h : t σ H fun vs H1 => ZF1 K sp vs H1 Q) : ZID K sp t σ H Q := h
end
section
variable {X : Cx}
end
section
variable {prog : Program} {w : World} {A : Around} {E : Value → Shared → Prop}
end
section
variable {X : Cx}
end
section
variable {X : Cx} {o e value : Expr} {f m : Str} {pos pos' tpos apos : Pos} {ta tv : TE} {t : TA}
def ZP5 (K : W.Frag) (f : Str) (x : V) (H : Hp) (Q : VK) : Prop := ∃ a C dx fs v, x = .ref a ∧ H a = some (.ins C dx fs) ∧ Cls K C ∧ ZCd K C f ∧ fs.lookup f = some v ∧ Q v H
def ZNE (K : W.Frag) (f : Str) (y x : V) (H : Hp) (R : Hp → Prop) : Prop := ∃ a C dx fs, x = .ref a ∧ H a = some (.ins C dx fs) ∧ Cls K C ∧ ZCd K C f ∧ fs.length < 1000 ∧ R (upd H a (.ins C dx (ZCO f y fs)))
theorem ZDW (K : W.Frag) (hK : X.K = K) (he : QE X e ta) (hb : attributeBase e f X.env (eval e X.env) = eval e X.env := by rfl) : QE X (.Attribute e f pos) (ZLt K ta f) := by
 subst hK
 exact ⟨ZPB he.h hb⟩
theorem ZEb (K : W.Frag) (hK : X.K = K) (ho : QE X o ta) (hv : QE X value tv) (hs : ZCz value = false := by rfl) : QS X (.Assign [.Attribute o f pos'] value pos) (ZLu K ta tv f) := by
 subst hK
 exact ⟨ZPC ho.h hv.h (ZDg hs)⟩
theorem ZKt (K : W.Frag) (hK : X.K = K) (ho : QE X o ta) (hv : QE X value tv) : QS X (.AugAssign (.Attribute o f tpos) .Add value pos) (ZGe K ta tv ZHd f) := by
 subst hK
 exact ⟨ZKS ho.h hv.h ZPD⟩
section
variable {CX : CXT} {k : Nat} {fa C : Addr} {fd : FuncData} {ps : List Str} {sp : Sp} {dvs : List V} {ds : List Value} {E : XK} {es : List Expr} {x : Str} {p : Pos}
theorem ZCa {pl : Sem Bool} (he : QE X o ta) (c : Cls X.K C) (hm : ZD3 X.K C m fa) (F : ZBh X.prog X.w X.K X.mg X.base CX k fa fd ps sp) (hr : Room k X.A) (hb : ZBf X.K fd ps ds) (hd : ZBj dvs ds) (hx : ZCo CX X E) (ha : QA X (e :: es) t) (hns : ZCA (e :: es) = true := by rfl)
 (ht : eval (.Call (.Attribute o m apos) (e :: es) [] pos) X.env = (do
  let ov ← eval o X.env
  standAt apos.atName
  let (f, first) ← holding [ov] (getMethod ov m pl)
  callWith pos f first (backTo pos (starEach (e :: es) X.env)) (backToKw pos (keywordEach [] X.env))) := by rfl) :
 QE X (.Call (.Attribute o m apos) (e :: es) [] pos) (ZGM C m sp dvs E ta t) := ⟨ZNd he.h c hm F hr hb hd hx ha.h (ZC9 hns) (ZCv (ZCu hns)) ht⟩
theorem ZIE {pl : Sem Bool} (he : QE X o ta) (c : Cls X.K C) (hm : ZD3 X.K C m fa) (F : ZBh X.prog X.w X.K X.mg X.base CX k fa fd ps sp) (hr : Room k X.A) (hb : ZBf X.K fd ps ds) (hd : ZBj dvs ds) (hx : ZCo CX X E)
 (ht : eval (.Call (.Attribute o m apos) [] [] pos) X.env = (do
  let ov ← eval o X.env
  standAt apos.atName
  let (f, first) ← holding [ov] (getMethod ov m pl)
  callWith pos f first (backTo pos (starEach [] X.env)) (backToKw pos (keywordEach [] X.env))) := by rfl) :
 QE X (.Call (.Attribute o m apos) [] [] pos) (ZGM C m sp dvs E ta ZHe) := ⟨ZLx he.h c hm F hr hb hd hx ht⟩
theorem ZJF (M : Mk X.K C fa) (F : ZBh X.prog X.w X.K X.mg X.base CX k fa fd ps sp) (hr : Room (k + 1) X.A) (hg : Gl X x) (hm : X.mg x = some (.ref C)) (hb : ZBf X.K fd ps ds) (hd : ZBj dvs ds) (hx : ZCo CX X E) (ha : QA X (e :: es) t)
 (hns : ZCA (e :: es) = true := by rfl) (hdb : (x == ("__debug__" : Str)) = false := by decide) : QE X (.Call (.Name x p) (e :: es) [] pos) (ZJc C sp dvs E t) := ⟨ZNe M F hr hg hm hb hd hx ha.h hdb (ZC9 hns) (ZCv (ZCu hns))⟩
end
end
section
variable {K : W.Frag} {σ : St} {H : Hp} {Q : VK} {D : ZCK} {f m : Str} {ta tv : TE} {t : TA} {C : Addr} {sp : Sp} {dvs : List V} {E : XK}
theorem ZOH (h : ta σ H fun x H1 => ZP5 K f x H1 Q) : ZLt K ta f σ H Q := h
theorem ZDr {a dx : Addr} {fs : List (Str × V)} {v : V} (h1 : H a = some (.ins C dx fs)) (c : Cls K C) (n : ZCd K C f) (l : fs.lookup f = some v) (q : Q v H) : ZP5 K f (.ref a) H Q := ⟨a, C, dx, fs, v, rfl, h1, c, n, l, q⟩
theorem ZMa (h : tv σ H fun y H1 => ta σ H1 fun x H2 => ZNE K f y x H2 (D.nx σ)) : ZLu K ta tv f D σ H := h
theorem ZD1 {a dx : Addr} {fs : List (Str × V)} {y : V} {R : Hp → Prop} (h1 : H a = some (.ins C dx fs)) (c : Cls K C) (n : ZCd K C f) (l : fs.length < 1000) (q : ∀ H2, H2 a = some (.ins C dx (ZCO f y fs)) → Kp a H H2 → R H2) : ZNE K f y (.ref a) H R := ⟨a, C, dx, fs, rfl, h1, c, n, l, q _ ZBg Kp.upd⟩
def ZJG (K : W.Frag) (f : Str) (tv : TE) (σ : St) (R : Hp → Prop) (x : V) (H : Hp) : Prop := ∃ a C dx fs v, x = .ref a ∧ H a = some (.ins C dx fs) ∧ Cls K C ∧ ZCd K C f ∧ fs.lookup f = some v ∧
 tv σ H fun y H2 => ZHd v y H2 fun z H3 => ∃ dx' fs', H3 a = some (.ins C dx' fs') ∧ fs'.length < 1000 ∧ R (upd H3 a (.ins C dx' (ZCO f z fs')))
theorem ZJy (h : ta σ H fun x H1 => ZJG K f tv σ (D.nx σ) x H1) : ZGe K ta tv ZHd f D σ H := h
def ZKu (C : Addr) (m : Str) (x : V) (H : Hp) (R : Prop) : Prop := ∃ a dx fs, x = .ref a ∧ H a = some (.ins C dx fs) ∧ fs.lookup m = none ∧ R
theorem ZMb (h : ta σ H fun x H1 => ZKu C m x H1 (t σ H1 fun vs H2 => sp (x :: (vs ++ dvs)) H2 Q E)) : ZGM C m sp dvs E ta t σ H Q := h
theorem ZCD {a dx : Addr} {fs : List (Str × V)} {R : Prop} (h1 : H a = some (.ins C dx fs)) (l : fs.lookup m = none) (q : R) : ZKu C m (.ref a) H R := ⟨a, dx, fs, rfl, h1, l, q⟩
def ZNF (C : Addr) (sp : Sp) (dvs : List V) (E : XK) (vs : List V) (H : Hp) (Q : VK) : Prop := ∀ x dx, H x = none → H dx = none → dx ≠ x → sp (.ref x :: (vs ++ dvs)) (upd (upd H dx (.own x)) x (.ins C dx [])) (fun v H2 => v = .non ∧ Q (.ref x) H2) E
theorem ZMc (h : t σ H fun vs H1 => ZNF C sp dvs E vs H1 Q) : ZJc C sp dvs E t σ H Q := h
theorem ZJH {vs : List V} (h : ∀ x dx H2, H x = none → H2 x = some (.ins C dx []) → ZBd H H2 → sp (.ref x :: (vs ++ dvs)) H2 (fun v H3 => v = .non ∧ Q (.ref x) H3) E) : ZNF C sp dvs E vs H Q := fun x dx hx hdx hne =>
 h x dx _ hx ZBg fun b o e => by rw [ZBn (ZBt e hx), ZBn (ZBt e hdx)]; exact e
end
structure ZGl (K : W.Frag) (x qual : Str) (st : Stmt) (f : Addr) (fd : FuncData) : Prop where
 ex : ∃ (oc : Value) (od : Option Addr) (dV kV doc pm : Value) (an : Option Addr) (cdv ct : Value) (osl : Array (Option Value)),
  fd = W.fnOf x qual (ZCT st) (ZB9 st) (ZBc st) dV kV doc pm an cdv ct ∧ K.lookup f = some ⟨oc, od, .func fd, osl⟩ ∧ W.codeIn K cdv qual = true
 kp : W.keepIn K (.ref f) = true
theorem ZGl.ok {P : Program} {w : World} {K : W.Frag} {mg : Str → Option Value} {base : Heap} {x qual : Str} {st : Stmt} {f : Addr} {fd : FuncData} {N ps : List Str} {k : Nat} {sp : Sp} (F : ZGl K x qual st f fd) (S : ZBl N ps (ZBc st)) (len : ∀ vs H Q E, sp vs H Q E → vs.length = ps.length)
  (hbody : ∀ (cdv : Value) (A : Around) (outer : List Env) (s : Shared) (H : Hp) (vs : List V) (Q : VK) (E : XK), Room k (A.deeper (envOfC qual (ZBc st) s.heap.objs.size f cdv)) → sp vs H Q E →
   ∃ t, PSs (ZE6 CX0 P w K mg base N qual (ZBc st) f cdv A outer s H E).nox (ZB9 st) t ∧ t { nx := fun _ H' => Q .non H', rt := Q } (start N vs) H) : ZBh P w K mg base CX0 (k + 1) f fd ps sp := by
 obtain ⟨oc, od, dV, kV, doc, pm, an, cdv, ct, osl, rfl, lk, hcd⟩ := F.ex
 refine ZHU lk hcd S len fun A outer s H vs Q E hr hsp => ?_
 obtain ⟨t, h, q⟩ := hbody cdv A outer s H vs Q E hr hsp
 exact ⟨t, h.nox, q⟩
section
variable {K : W.Frag} {σ : St} {H : Hp} {Q : VK} {f : Str} {tv td ty : TE} {C : Addr}
theorem ZJz {a dx : Addr} {fs : List (Str × V)} {v : V} {R : Hp → Prop} (h1 : H a = some (.ins C dx fs)) (c : Cls K C) (n : ZCd K C f) (l : fs.lookup f = some v)
 (q : tv σ H fun y H2 => ZHd v y H2 fun z H3 => ∃ dx' fs', H3 a = some (.ins C dx' fs') ∧ fs'.length < 1000 ∧ R (upd H3 a (.ins C dx' (ZCO f z fs')))) : ZJG K f tv σ R (.ref a) H := ⟨a, C, dx, fs, v, rfl, h1, c, n, l, q⟩
def ZIF (a : Addr) (y : V) (H : Hp) (Q : VK) : Prop := ∃ o, ZDK H a y o ∧ Q (o.getD .non) H
def ZKv (ty : TE) (σ : St) (Q : VK) (x : V) (H : Hp) : Prop := ∃ a, x = .ref a ∧ IsD H a ∧ ty σ H fun y H2 => ZIF a y H2 Q
theorem ZKw (h : td σ H fun x H1 => ZKv ty σ Q x H1) : ZHx td ty σ H Q := h
theorem ZFI {a : Addr} {kvs : List (List Key × V)} (h1 : H a = some (.dT kvs)) (q : ty σ H fun y H2 => ZIF a y H2 Q) : ZKv ty σ Q (.ref a) H := ⟨a, rfl, .inr ⟨kvs, .inl h1⟩, q⟩
theorem ZF2 {a b : Addr} {kvs : List (List Key × V)} {k : List Key} (h1 : H a = some (.dT kvs)) (hb : H b = some (.tup (k.map kV))) (q : Q ((ZCW kvs k).getD .non) H) : ZIF a (.ref b) H Q := ⟨_, ZDK.t h1 hb, q⟩
theorem ZIG {a b : Addr} {kvs : List (List Key × V)} {k : List Key} {v : V} {R : Hp → Prop} (h1 : H a = some (.dT kvs)) (hb : H b = some (.tup (k.map kV))) (hz : kvs.length < sizeLine) (h : ∀ H2, H2 a = some (.dT (ZCH kvs k v)) → Kp a H H2 → R H2) : ZJp v (.ref a) (.ref b) H R :=
 ⟨a, _, rfl, ZEk.t h1 hb hz, h _ ZBg Kp.upd⟩
end
section
variable {X : Cx} {o e : Expr} {apos cpos pos p : Pos} {td ty to : TE}
theorem ZF3 (hu : X.A.units + 1 < cLine) (ho : QE X o td) (he : QE X e ty) (m : M1 X o "get" apos e cpos := by exact ⟨rfl, rfl, rfl, rfl⟩) : QE X (.Call (.Attribute o "get" apos) [e] [] cpos) (ZHx td ty) := ⟨ZMR hu ho.h he.h m⟩
theorem ZIH : QE X (.Dict [] [] pos) ZHw := ⟨ZMQ⟩
def ZKx (H : Hp) (Q : VK) : Prop := ∀ p, H p = none → Q (.ref p) (upd H p (.dT []))
theorem ZKy {σ : St} {H : Hp} {Q : VK} (h : ZKx H Q) : ZHw σ H Q := h
theorem ZII {H : Hp} {Q : VK} (h : ∀ p H2, H p = none → H2 p = some (.dT []) → ZBd H H2 → Q (.ref p) H2) : ZKx H Q := fun p hp => h p _ hp ZBg (ZBd.new hp)
theorem ZJ0 {pins : List (Addr × Obj)} {s : Shared} {σ : St} {H : Hp} {Q : VK} {a r : Addr} {m : PL} (hc : X.calm = true) (I : Inv X pins σ H s) (hd : H a = some (.dK (ZB8 m))) (hv : s.heap.IsItemsView r a) (hz : m.length ≤ 1000)
  (q : ∀ (l : Addr) (vs : List V) (H' : Hp), H l = none → H' l = some (.lst vs) → ZBe H' vs m → ZBd H H' → Q (.ref l) H') :
  wpAny (model X.prog X.w) X.A (call (.type "list") [.ref r]) (EP X pins σ Q) X.xe s := by
 obtain ⟨z, hsm, kvs, rel, dd⟩ := ZJl I.hok hd
 obtain ⟨ep, dd⟩ := dd.dictAt
 obtain ⟨hkl, _⟩ := ZKq rel
 refine kdx_call (knd := ZB2 X.prog X.w) (I.ok.hd hc) hv dd (by rw [sizeLine_eq]; omega) fun h' tk acc c as hk hS hl hG hacc => ?_
 have hasn : as.Nodup := List.nodup_iff_pairwise_ne.mpr (hG.rise.imp fun hab e => Nat.ne_of_lt hab e)
 have hlm : as.length = m.length := by omega
 have hT : ZFG h' s.heap.objs.size (as.map Value.ref) m := ZOG rel hl hG s.heap.objs.size fun b hb => Nat.ne_of_gt (hG.above b hb)
 have hat : ∀ (i : Nat) b p, as[i]? = some b → m[i]? = some p → ZFH H as m s.heap.objs.size (as.map V.ref) s.heap.objs.size b = some (.tup [.int p.1, .int p.2]) := fun i b p e1 e2 => by
  have hbl := hG.above b (List.mem_of_getElem? e1)
  unfold ZFH
  rw [if_neg (Nat.not_lt.mpr (Nat.le_of_lt hbl)), if_neg (Nat.ne_of_gt hbl), ZJt hasn e1 e2]
  rfl
 have hil : ZFH H as m s.heap.objs.size (as.map V.ref) s.heap.objs.size s.heap.objs.size = some (.lst (as.map V.ref)) := by
  unfold ZFH
  rw [if_neg (Nat.lt_irrefl _), if_pos rfl]
 have hSame : ZBd H (ZFH H as m s.heap.objs.size (as.map V.ref) s.heap.objs.size) := fun b u e => by
  unfold ZFH
  rw [if_pos (I.old e)]
  exact e
 refine ⟨.ref s.heap.objs.size, _, I.many (t' := tk) (h' := h') hk (fun b hb => by unfold ZFH; rw [if_pos hb]) (fun b ob hb e => ?_), rfl, q _ (as.map V.ref) _ (I.hok.fresh (Nat.le_refl _)) hil ?_ hSame⟩
 ·by_cases hbl : b = s.heap.objs.size
  ·subst hbl
   rw [hil] at e
   cases e
   refine ⟨by rw [List.length_map, sizeLine_eq]; omega, acc.toList, c, ?_, by rw [hS]⟩
   rw [hacc]
   clear hil hat hSame hT hacc hG hasn hlm hl
   induction as with
   | nil => exact .nil
   | cons b bs ih => exact .cons rfl ih
  ·unfold ZFH at e
   rw [if_neg (Nat.not_lt.mpr hb), if_neg hbl] at e
   cases hlk : (as.zip m).lookup b with
   | none => rw [hlk] at e; cases e
   | some p =>
    rw [hlk] at e
    cases e
    obtain ⟨i, e1, e2⟩ := ZGk hlk
    have hi : i < m.length := (List.getElem?_eq_some_iff.mp e2).1
    have g := hT.get (i := i) hi
    have e3 : (as.map Value.ref).getD i Value.none = .ref b := by simp [e1]
    have e4 : m.getD i (0, 0) = p := by simp [e2]
    rw [e3, e4] at g
    exact ZKr g
 ·refine ZEm (by rw [List.length_map]; exact hlm) fun i v p e1 e2 => ?_
  rw [List.getElem?_map] at e1
  cases hi : as[i]? with
  | none => rw [hi] at e1; cases e1
  | some b =>
   rw [hi] at e1
   cases e1
   exact ⟨b, rfl, hat i b p hi e2⟩
def ZJI (a : Addr) (m : PL) (H : Hp) (Q : VK) : Prop := m.length ≤ 1000 ∧ ∀ (l : Addr) (vs : List V) (H' : Hp), H l = none → H' l = some (.lst vs) → ZBe H' vs m → ZBd H H' → Q (.ref l) H'
def ZJJ (to : TE) : TE := fun σ H Q => ZIB to σ H fun a m H1 => ZJI a m H1 Q
theorem ZKz (hc : X.calm = true) (hg : Gl X "list") (hm : X.mg "list" = none) (ho : QE X o to)
  (hbase : attributeBase o "items" X.env (eval o X.env) = eval o X.env := by rfl) (hline : (apos.endLine == cpos.line) = true := by rfl) :
  QE X (.Call (.Name "list" p) [.Call (.Attribute o "items" apos) [] [] cpos] [] pos) (ZJJ to) := by
 refine ⟨?_⟩
 intro pins s σ H Q I h
 refine wpAny_Call_Name_kw (ZD2 I hg hm ZNj ?_ (by decide) (by decide))
 refine PyProof.Rows.callWith_type1 ?_ rfl rfl
 show wpAny _ _ (spliced ((false, eval (.Call (.Attribute o "items" apos) [] [] cpos) X.env) :: backTo pos (starEach [] X.env))) _ _ s
 refine Calls.spliced_cons (thn (ZJs ho.h I h hbase hline) fun u s1 ⟨r, a, m, H1, eu, hsz, hv, hd, I1, q⟩ => ?_)
 subst eu
 refine Calls.spliced_nil ?_
 exact ZJ0 hc I1 hd hv q.1 q.2
def ZJK (x : V) (H : Hp) (Q : VK) : Prop := ∃ a m, x = .ref a ∧ H a = some (.dK (ZB8 m)) ∧ ZJI a m H Q
theorem ZJ1 {σ : St} {H : Hp} {Q : VK} (h : to σ H fun x H1 => ZJK x H1 Q) : ZJJ to σ H Q := h
theorem ZK0 {H : Hp} {Q : VK} {a : Addr} {m : PL} (h1 : H a = some (.dK (ZB8 m))) (hz : m.length ≤ 1000) (h : ∀ l H2, H l = none → PrL H2 l m → ZBd H H2 → Q (.ref l) H2) : ZJK (.ref a) H Q :=
 ⟨a, m, rfl, h1, hz, fun l vs H' n f hP S => h l H' n ⟨vs, f, hP⟩ S⟩
end
theorem ZOI {K : W.Frag} {x qual : Str} {st : Stmt} {f : Addr} {oc : Value} {od an : Option Addr} {osl : Array (Option Value)} {dV kV doc pm cdv ct : Value} (l : K.lookup f = some ⟨oc, od, .func (W.fnOf x qual (ZCT st) (ZB9 st) (ZBc st) dV kV doc pm an cdv ct), osl⟩)
 (c : W.codeIn K cdv qual = true) (k : W.keepIn K (.ref f) = true) : ZGl K x qual st f (W.fnOf x qual (ZCT st) (ZB9 st) (ZBc st) dV kV doc pm an cdv ct) := ⟨⟨oc, od, dV, kV, doc, pm, an, cdv, ct, osl, rfl, l, c⟩, k⟩
def ZOJ (K : W.Frag) (fd : FuncData) (ps : List Str) (x : Str) : Prop := ∀ (s : Shared) (u v : Value), K.In s.heap → BindsTo s fd ⟨[u], [(x, v)]⟩ (ps.zip [u, v])
section
variable {X : Cx} {k : Nat} {f C : Addr} {fd : FuncData} {ps : List Str} {sp : Sp} {x kw : Str} {p pos kpos : Pos} {e : Expr} {te : TE} {E : XK} {CX : CXT}
end
theorem ZBw.there {P : Program} {w : World} {H : Hp} {h : Heap} {a : Addr} {o : HO} (x : ZBw P w H h a o) : ∃ ob, h.get? a = some ob := by
 cases o with
 | lst xs => obtain ⟨_, _, _, _, e⟩ := x; exact ⟨_, e⟩
 | tup xs => obtain ⟨_, _, _, p⟩ := x; obtain ⟨o, e, _⟩ := p; exact ⟨_, e⟩
 | dK kvs => obtain ⟨_, _, _, _, o, _, _, e, _⟩ := x; exact ⟨_, e⟩
 | dT kvs => obtain ⟨_, _, _, _, o, _, _, e, _⟩ := x; exact ⟨_, e⟩
 | set S n => obtain ⟨o, _, _, _, e, _⟩ := x; exact ⟨_, e⟩
 | ins C dx fs => obtain ⟨_, _, _, e, _⟩ := x; exact ⟨_, e⟩
 | own y => exact x
 | xd fs => obtain ⟨_, ⟨_, _, _, e, _⟩, _⟩ := x; exact ⟨_, e⟩
 | rng lo hi => obtain ⟨_, _, _, e⟩ := x; exact ⟨_, e⟩
 | frz ob u => obtain ⟨e, _⟩ := x; exact ⟨_, e⟩
 | tbl ps => exact ⟨_, (show h.get? a = some _ from x)⟩
 | met f y => exact ⟨_, (show h.get? a = some _ from x)⟩
 | ext φ => obtain ⟨_, e, _⟩ := x; exact e
def Cov (B : Heap) (H' : Hp) (h0 h' : Heap) (fs : List Addr) : Prop := ∀ b o, h'.get? b = some o → b ∉ fs → ((∃ u, H' b = some u) ∨ ∃ o0, h0.get? b = some o0) → B.get? b = some o
def CX1 (P : Program) (w : World) : CXT := fun l H s E ev s' => ∃ (e : Addr) (C a0 : Value) (B : Heap) (H' : Hp), ev = .ref e ∧ s'.os = s.os ∧ AllBare s'.gens ∧ Un (frs l) [] H H' s.heap s'.heap ∧ HOk P w H' s'.heap ∧
 s.heap.get? e = none ∧ H' e = none ∧ Heap.FlyingW B l e C a0 s'.heap ∧ Cov B H' s.heap s'.heap (frs l) ∧ E C none H'
section
variable {P : Program} {w : World} {H H' : Hp} {h0 h' h'' B : Heap} {fs : List Addr}
theorem ZEn (hok : HOk P w H' h') (un : Un fs [] H H' h0 h') (cov : Cov B H' h0 h' fs) (st : B.StaysIn h'') (up : h'.UpToSlots h'') (fr : ∀ b ∈ fs, H' b = none ∧ ∃ o, h'.get? b = some o ∧ ∀ vs, o.data ≠ .fields vs) :
  HOk P w H' h'' ∧ Un fs [] H H' h0 h'' ∧ Cov B H' h0 h'' fs := by
 have trk : ∀ b u, H' b = some u → b ∉ fs := fun b u e hb => by rw [(fr b hb).1] at e; cases e
 have old : ∀ b o0, h0.get? b = some o0 → ∃ o', h''.get? b = some o' := fun b o0 e => by
  obtain ⟨o', e'⟩ := un.there b o0 e (by simp)
  by_cases hb : b ∈ fs
  ·obtain ⟨_, o, ho, hd⟩ := fr b hb
   obtain ⟨sl, q⟩ := up b o ho hd
   exact ⟨_, q⟩
  ·exact ⟨o', st _ _ (cov b o' e' hb (.inr ⟨o0, e⟩))⟩
 refine ⟨fun b u e => (hok b u e).stay (fun c v hc q => ?_) (fun _ q => q) fun _ _ q => q, ⟨fun b o e n hb hx => ?_, fun b o e n hb hx => ?_, un.free, fun b o e _ => old b o e, un.tups, un.frzs, un.tbls⟩, fun b o e hb ht => ?_⟩
 ·have hc' : ∃ u, H' c = some u := by
   rcases hc with rfl | hc
   ·exact ⟨_, e⟩
   ·exact ⟨_, hc⟩
  obtain ⟨u', hu'⟩ := hc'
  exact st _ _ (cov c v q (trk c u' hu') (.inl ⟨u', hu'⟩))
 ·exact st _ _ (cov b o (un.keep b o e n hb hx) hb (.inr ⟨o, e⟩))
 ·obtain ⟨sl, q⟩ := un.slot b o e n hb hx
  obtain ⟨_, o2, ho2, hd⟩ := fr b hb
  rw [q] at ho2
  cases ho2
  obtain ⟨sl2, q2⟩ := up b _ q hd
  exact ⟨sl2, q2⟩
 ·have : ∃ o1, h'.get? b = some o1 := by
   rcases ht with ⟨u, hu⟩ | ⟨o0, ho0⟩
   ·exact (hok b u hu).there
   ·exact un.there b o0 ho0 (by simp)
  obtain ⟨o1, h1⟩ := this
  have hB := cov b o1 h1 hb ht
  have := st _ _ hB
  rw [e] at this
  cases this
  exact hB
end
section
variable {P : Program} {w : World} {K : W.Frag} {mg : Str → Option Value} {base : Heap} {N : List Str} {qual : Str} {scope : Scope} {f : Addr} {cd : Value} {A : Around} {outer : List Env} {s : Shared} {H : Hp} {E : XK}
abbrev cxE (P : Program) (w : World) (K : W.Frag) (mg : Str → Option Value) (base : Heap) (N : List Str) (qual : Str) (scope : Scope) (f : Addr) (cd : Value) (A : Around) (outer : List Env) (s : Shared) (H : Hp) (E : XK) : Cx := ZE6 (CX1 P w) P w K mg base N qual scope f cd A outer s H E
theorem ZF4 {env : Env} {l : List Env} {L : Addr} (h : env.frame = some L) : frs (env :: l) = L :: frs l := by
 unfold frs
 rw [List.filterMap_cons, h]
theorem ZFc {X : Cx} {pins : List (Addr × Obj)} {σ : St} {H1 : Hp} {s1 : Shared} (I : Inv X pins σ H1 s1) {B h : Heap} {l : List Env} (hl : h.FunFrames B l) (hs : ∀ b ∈ frs l, b ∈ frs X.stack) : ∀ b ∈ frs l, H1 b = none ∧ ∃ o, h.get? b = some o ∧ ∀ vs, o.data ≠ .fields vs :=
 fun b hb => ⟨I.stkFree b (hs b hb), (hl.mem hb).2⟩
theorem ZDX : ZCo (CX1 P w) (cxE P w K mg base N qual scope f cd A outer s H E) E := by
 intro pins σ H1 s1 ev s' I hc
 obtain ⟨e, C, a0, B, H', rfl, os, bare, un, hok, hen, heH, fl, cov, q⟩ := hc
 have I2 := I.call' (ch := []) os un hok bare (fun b z => absurd z (by simp))
 have hfr : (cxE P w K mg base N qual scope f cd A outer s H E).A.frames = some ((cxE P w K mg base N qual scope f cd A outer s H E).env :: outer) := I.ok.frames
 show wpAny (model P w) _ (leaving _ (.ref e)) _ _ s'
 refine wpAny_leaves_onW (L := s.heap.objs.size) hfr rfl fl fun h'' fl2 up => ?_
 have nL : ∀ b o, s.heap.get? b = some o → b ≠ s.heap.objs.size := fun b o e => Nat.ne_of_lt (Heap.lt_size e)
 have efr : frs ((cxE P w K mg base N qual scope f cd A outer s H E).env :: outer) = s.heap.objs.size :: frs outer := ZF4 rfl
 have un2 : Un (frs outer) [] H H' s.heap s'.heap := I2.base
 have cov2 : Cov B H' s.heap s'.heap (frs outer) := fun b o hb hn ht => by
  refine cov b o hb (fun z => ?_) (ht.imp id fun ⟨o0, h0⟩ => I.base.there b o0 h0 (show b ∉ ([] : List Addr) by simp))
  have z2 : b ∈ s.heap.objs.size :: frs outer := by rw [← efr]; exact z
  rcases List.mem_cons.mp z2 with rfl | z2
  ·rcases ht with ⟨u, hu⟩ | ⟨o0, h0⟩
   ·have z3 : H' s.heap.objs.size = none := I2.free
    rw [z3] at hu; cases hu
   ·exact nL _ _ h0 rfl
  ·exact hn z2
 have flo : s'.heap.FunFrames B outer := by
  obtain ⟨_, _, ⟨_, _, k⟩, _⟩ := fl
  exact k
 obtain ⟨hok3, un3, cov3⟩ := ZEn hok un2 cov2 fl2.1 up (ZFc I2 flo fun b hb => by
  show b ∈ frs ((cxE P w K mg base N qual scope f cd A outer s H E).env :: outer)
  rw [efr]; exact List.mem_cons_of_mem _ hb)
 refine ⟨e, C, a0, B, H', rfl, I2.os, bare, un3, hok3, ?_, heH, fl2, cov3, q⟩
 cases z : s.heap.get? e with
 | none => rfl
 | some o =>
  obtain ⟨o', e'⟩ := I.base.there e o z (show e ∉ ([] : List Addr) by simp)
  rw [hen] at e'; cases e'
end
theorem ZFd {K : W.Frag} {h : Heap} {C : Addr} {bmB : List Value} {newId : String} (X : K.In h) (q : excIn K C bmB newId = true) :
  ∃ bm N nm q bs hdct sn sub ab col dd k0 k1 k2 k3 k5 mN, h.get? C = some (excClassObj nm q C N bs bm hdct sn sub ab col dd k0 k1 k2 k3 k5 newId) ∧ h.Ns N mN ∧ mN "__init__" = none ∧ OwnTail h bmB bm := by
 unfold excIn at q
 split at q
 ·rename_i dd cd sl ho
  split at q
  ·rename_i C' bm k0 k1 k2 k3 n k5 hm hs
   simp only [Bool.and_eq_true, beq_iff_eq, Bool.not_eq_true'] at q
   obtain ⟨⟨⟨⟨⟨rfl, rfl⟩, hdel⟩, ht⟩, hok⟩, hni⟩ := q
   obtain ⟨nm, bs, mro, ns, qn, hd, sn, sub, ab, col, del⟩ := cd
   dsimp only at hm hdel hok hni
   subst hm hdel
   have hsl : sl = #[k0, k1, k2, k3, some (.builtin n), k5] := by
    obtain ⟨l⟩ := sl
    simp only at hs
    rw [hs]
   subst hsl
   exact ⟨bm, ns, nm, qn, bs, hd, sn, sub, ab, col, dd, k0, k1, k2, k3, k5, _, X _ _ ho, .of_isNs (isNs_of_in X hok), nsMap_none_of_in X hok hni, tail_of_in X ht⟩
  ·cases q
 ·cases q
def ZC2 (K : W.Frag) (C : Addr) : Prop := excIn K C [.type "ValueError", .type "Exception", .type "BaseException", .type "object"] "ValueError.__new__" = true
section
variable {P : Program} {w : World} {K : W.Frag} {mg : Str → Option Value} {base : Heap} {N : List Str} {qual : Str} {scope : Scope} {f : Addr} {cd : Value} {A : Around} {outer : List Env} {s : Shared} {H : Hp} {E : XK}
 {x : Str} {np cpos pos : Pos} {e₀ : Expr} {es : List Expr} {t : TA} {C : Addr}
def ZIJ (E : XK) (C : Addr) (t : TA) : TS := fun _ σ H => t σ H fun vs H1 => vs.length ≤ sizeLine ∧ E (.ref C) none H1
theorem ZMd (hC : ZC2 K C) (hg : Gl (cxE P w K mg base N qual scope f cd A outer s H E) x) (hm : mg x = some (.ref C)) (ha : PA (cxE P w K mg base N qual scope f cd A outer s H E) (e₀ :: es) t)
  (hdb : (x == ("__debug__" : Str)) = false := by decide)
  (he : starEach (e₀ :: es) (cxE P w K mg base N qual scope f cd A outer s H E).env = (false, eval e₀ (cxE P w K mg base N qual scope f cd A outer s H E).env) :: starEach es (cxE P w K mg base N qual scope f cd A outer s H E).env := by rfl)
  (hpl : (backTo cpos (starEach es (cxE P w K mg base N qual scope f cd A outer s H E).env)).any (·.1) = false := by rfl) :
  PS (cxE P w K mg base N qual scope f cd A outer s H E) (.Raise (some (.Call (.Name x np) (e₀ :: es) [] cpos)) none pos) (ZIJ E C t) := by
 intro pins s1 σ H1 D I h
 have hh : (cxE P w K mg base N qual scope f cd A outer s H E).A.handled = none := I.ok.hd rfl
 obtain ⟨bm, N', nm, qn, bs, hdct, sn, sub, ab, col, dd, k0, k1, k2, k3, k5, mN, hCo, hN, hni, TL⟩ := ZFd I.ok.mod.kin hC
 have FB := PySem.F.excBase_ValueError
 refine wpAny_Raise_call_subT (C := C) (nm := nm) (q := qn) (N := N') (bs := bs) (bm := bm) (hdct := hdct) (sn := sn) (sub := sub) (ab := ab) (col := col) (dd := dd) (k0 := k0) (k1 := k1) (k2 := k2) (k3 := k3) (k5 := k5)
  FB (mN := mN) (TL.hasType FB.hasBase) hh (by rw [he]; show (false || (backTo cpos (starEach es _)).any (·.1)) = false; rw [hpl]; rfl) hni (ZDM I hg hm ⟨rfl, ?_⟩ hdb)
 have hA := ha cpos pins s1 σ H1 _ I h
 rw [he] at hA ⊢
 refine Calls.evalArgs_plain (wpAny_mono hA (fun vs s2 ⟨xs, H2, I2, r, z, q⟩ => ⟨rfl, by rw [← r.length]; exact z, I2.bk _ _ hCo, hN.keeps I2.bk, TL.keeps I2.bk, fun h' e hx => ?_⟩) fun _ _ y => y)
 -- the exception is made: it leaves the frame
 have hfr : (cxE P w K mg base N qual scope f cd A outer s H E).A.frames = some ((cxE P w K mg base N qual scope f cd A outer s H E).env :: outer) := I.ok.frames
 have efr : frs ((cxE P w K mg base N qual scope f cd A outer s H E).env :: outer) = s.heap.objs.size :: frs outer := ZF4 rfl
 have stk := I2.stack
 have hin : ∀ env ∈ ((cxE P w K mg base N qual scope f cd A outer s H E).env :: outer), ∀ b, env.frame = some b → b ∈ frs ((cxE P w K mg base N qual scope f cd A outer s H E).env :: outer) := fun env he b hb => List.mem_filterMap.mpr ⟨env, he, hb⟩
 show wpAny (model P w) _ (leaving _ (.ref e)) _ _ { s2 with heap := h' }
 refine wpAny_leaves_madeW (base := hideAll s2.heap (frs ((cxE P w K mg base N qual scope f cd A outer s H E).env :: outer))) (L := s.heap.objs.size) hfr rfl (fun b o q => of_hideAll _ q) (funFrames_hide stk hin) hx fun h'' t' fl2 htup hbt up => ?_
 have I3 : Inv (cxE P w K mg base N qual scope f cd A outer s H E) pins σ H2 { s2 with heap := h' } := I2.kept (h' := h') (t' := s2.toks) hx.keeps
 have cov : Cov (hideAll s2.heap (frs ((cxE P w K mg base N qual scope f cd A outer s H E).env :: outer))) H2 s.heap h' (frs outer) := fun b o hb hn ht => by
  have : ∃ o1, s2.heap.get? b = some o1 := by
   rcases ht with ⟨u, hu⟩ | ⟨o0, ho0⟩
   ·exact (I2.hok b u hu).there
   ·exact I2.base.there b o0 ho0 (show b ∉ ([] : List Addr) by simp)
  obtain ⟨o1, h1⟩ := this
  have h2 := hx.keeps _ _ h1
  rw [hb] at h2
  cases h2
  refine hideAll_get _ h1 fun z => ?_
  rw [efr] at z
  rcases List.mem_cons.mp z with rfl | z
  ·rcases ht with ⟨u, hu⟩ | ⟨o0, h0⟩
   ·have z3 : H2 s.heap.objs.size = none := I2.free
    rw [z3] at hu; cases hu
   ·exact Nat.lt_irrefl _ (Heap.lt_size h0)
  ·exact hn z
 have flo : h'.FunFrames (hideAll s2.heap (frs ((cxE P w K mg base N qual scope f cd A outer s H E).env :: outer))) outer := by
  obtain ⟨_, _, k⟩ := (funFrames_hide stk hin : s2.heap.FunFrames (hideAll s2.heap (frs ((cxE P w K mg base N qual scope f cd A outer s H E).env :: outer))) ((cxE P w K mg base N qual scope f cd A outer s H E).env :: outer))
  exact k.of_keeps fun b o hb _ => ⟨o, hx.keeps b o hb, rfl⟩
 obtain ⟨hok3, un3, cov3⟩ := ZEn (I3.hok) (show Un (frs outer) [] H H2 s.heap h' from I3.base) cov fl2.1 up (ZFc I3 flo fun b hb => by
  show b ∈ frs ((cxE P w K mg base N qual scope f cd A outer s H E).env :: outer)
  rw [efr]; exact List.mem_cons_of_mem _ hb)
 refine ⟨e, .ref C, .ref t', _, H2, rfl, I2.os, I2.bare, un3, hok3, ?_, ?_, fl2, cov3, q⟩
 ·cases z : s.heap.get? e with
  | none => rfl
  | some o =>
   obtain ⟨o', e'⟩ := I2.base.there e o z (show e ∉ ([] : List Addr) by simp)
   rw [hx.new] at e'; cases e'
 ·cases z : H2 e with
  | none => rfl
  | some u =>
   obtain ⟨o', e'⟩ := (I2.hok e u z).there
   rw [hx.new] at e'; cases e'
end
section
variable {P : Program} {w : World} {K : W.Frag} {mg : Str → Option Value} {base : Heap}
theorem ZBh.lift {k : Nat} {f : Addr} {fd : FuncData} {ps : List Str} {sp : Sp} (F : ZBh P w K mg base CX0 k f fd ps sp) : ZBh P w K mg base (CX1 P w) k f fd ps sp :=
 ⟨F.len, fun A outer s H args us vs Q E hr he hb hv hs => codeAny_mono (F.run A outer s H args us vs Q E hr he hb hv hs) fun r s' h => by
  cases r with
  | error e => exact h.elim
  | ok fl => cases fl <;> exact h⟩
theorem ZBh.or {k : Nat} {CX : CXT} {f : Addr} {fd : FuncData} {ps : List Str} {sp sq : Sp} (F : ZBh P w K mg base CX k f fd ps sp) (G : ZBh P w K mg base CX k f fd ps sq) : ZBh P w K mg base CX k f fd ps (fun vs H Q E => sp vs H Q E ∨ sq vs H Q E) :=
 ⟨fun vs H Q E h => h.elim (F.len vs H Q E) (G.len vs H Q E), fun A outer s H args us vs Q E hr he hb hv hs => hs.elim (F.run A outer s H args us vs Q E hr he hb hv) (G.run A outer s H args us vs Q E hr he hb hv)⟩
theorem Fun.okx {x qual : Str} {st : Stmt} {f : Addr} {fd : FuncData} {N ps : List Str} {k : Nat} {sp : Sp} (F : Fun K x qual st f fd) (S : ZBl N ps (ZBc st)) (len : ∀ vs H Q E, sp vs H Q E → vs.length = ps.length)
  (hbody : ∀ (cdv : Value) (A : Around) (outer : List Env) (s : Shared) (H : Hp) (vs : List V) (Q : VK) (E : XK), Room k (A.deeper (envOfC qual (ZBc st) s.heap.objs.size f cdv)) → sp vs H Q E →
   ∃ t, PSs (cxE P w K mg base N qual (ZBc st) f cdv A outer s H E) (ZB9 st) t ∧ t { nx := fun _ H' => Q .non H', rt := Q } (start N vs) H) : ZBh P w K mg base (CX1 P w) (k + 1) f fd ps sp := by
 obtain ⟨oc, od, kV, doc, pm, an, cdv, ct, osl, rfl, lk, hcd⟩ := F.ex
 exact ZHU lk hcd S len fun A outer s H vs Q E hr hsp => hbody cdv A outer s H vs Q E hr hsp
theorem ZGl.okx {x qual : Str} {st : Stmt} {f : Addr} {fd : FuncData} {N ps : List Str} {k : Nat} {sp : Sp} (F : ZGl K x qual st f fd) (S : ZBl N ps (ZBc st)) (len : ∀ vs H Q E, sp vs H Q E → vs.length = ps.length)
  (hbody : ∀ (cdv : Value) (A : Around) (outer : List Env) (s : Shared) (H : Hp) (vs : List V) (Q : VK) (E : XK), Room k (A.deeper (envOfC qual (ZBc st) s.heap.objs.size f cdv)) → sp vs H Q E →
   ∃ t, PSs (cxE P w K mg base N qual (ZBc st) f cdv A outer s H E) (ZB9 st) t ∧ t { nx := fun _ H' => Q .non H', rt := Q } (start N vs) H) : ZBh P w K mg base (CX1 P w) (k + 1) f fd ps sp := by
 obtain ⟨oc, od, dV, kV, doc, pm, an, cdv, ct, osl, rfl, lk, hcd⟩ := F.ex
 exact ZHU lk hcd S len fun A outer s H vs Q E hr hsp => hbody cdv A outer s H vs Q E hr hsp
end
theorem ZEx {α : Type} (p : α → Bool) : ∀ (l : List α) (i : Nat), (∀ a, l[i]? = some a → p a = false) → (l.eraseIdx i).find? p = l.find? p
 | [], _, _ => by simp
 | a :: l, 0, h => by
  have := h a rfl
  rw [List.eraseIdx_cons_zero, List.find?_cons, this]
 | a :: l, i + 1, h => by
  rw [List.eraseIdx_cons_succ, List.find?_cons, List.find?_cons, ZEx p l i fun b hb => h b (by simpa using hb)]
theorem ZMe {es : Array DictEntry} (hk : StrKeys es) {name : Str} {i : Nat} (hi : es.findIdx? (fun e => e.key.isStr name) = some i) (x : Str) (hx : x ≠ name) :
  nsFind (es.eraseIdxIfInBounds i) x = nsFind es x := by
 obtain ⟨l⟩ := es
 simp only [nsFind, findBy, List.eraseIdxIfInBounds_toArray, List.find?_toArray, List.findIdx?_toArray] at hi ⊢
 rw [ZEx]
 intro a ha
 obtain ⟨hlt, hp, _⟩ := List.findIdx?_eq_some_iff_getElem.mp hi
 have ea : l[i] = a := by
  rw [List.getElem?_eq_getElem hlt] at ha
  exact Option.some.inj ha
 rw [ea] at hp
 obtain ⟨n, t, h⟩ := hk a (by simpa using List.mem_of_getElem? ha)
 rw [h] at hp ⊢
 have e1 : n = name := by simpa [Value.isStr] using hp
 have e2 : n ≠ x := fun z => hx (z.symm.trans e1)
 simpa [Value.isStr] using e2
section
variable {M : Model} {A : Around} {E : Value → Shared → Prop} {s : Shared}
theorem ZMf {a : Addr} {m : Str → Option Value} {name : Str} {Q : Bool → Shared → Prop} (hn : s.heap.Ns a m)
  (hQ : ∀ h' m', h'.Ns a m' → (∀ x, x ≠ name → m' x = m x) → Heap.SameBut a s.heap h' → Q (m name).isSome { s with heap := h' }) : wpAny M A (nsDel a name) Q E s := by
 obtain ⟨o, es, ep, ho, hd, hk, hm⟩ := id hn
 have hany : es.any (·.refKey) = false := by
  rw [Array.any_eq_false']; intro e he; obtain ⟨n, t, h⟩ := hk e he; simp [DictEntry.refKey, h]
 have hsome : (m name).isSome = es.any (·.key.isStr name) := by
  rw [← hm name]; simp only [nsFind, findBy, Option.isSome_map]
  rw [Bool.eq_iff_iff]; simp only [Array.find?_isSome, Array.any_eq_true]
  constructor
  ·rintro ⟨x, hx, hp⟩; obtain ⟨i, hi, rfl⟩ := Array.mem_iff_getElem.mp hx; exact ⟨i, hi, hp⟩
  ·rintro ⟨i, hi, hp⟩; exact ⟨_, Array.getElem_mem hi, hp⟩
 have hhas : nsHas name o = pure (es.any (·.key.isStr name)) := by
  rw [nsHas_eq]; unfold nsHasByArray; rw [hd]
  show (if (es.any fun x => x.key.isStr name) = true then _ else _) = _
  generalize (es.any fun x => x.key.isStr name) = b
  cases b <;> simp [hany]
 unfold nsDel
 refine wpAny_bind (wpAny_loadPart ho ?_)
 rw [hhas]
 refine wpAny_bind (wpAny_pure ?_)
 rw [← hsome]
 cases hmn : (m name).isSome
 ·have := hQ s.heap m hn (fun _ _ => rfl) (.refl ..)
  rw [hmn] at this
  exact wpAny_pure this
 ·refine wpAny_bind (wpAny_updatePart ho (wpAny_pure ?_))
  have key : ∃ m', (s.heap.update a (Obj.dropName name)).Ns a m' ∧ ∀ x, x ≠ name → m' x = m x := by
   obtain ⟨cl, d, dt, sl⟩ := o
   subst hd
   cases hi : es.findIdx? (·.key.isStr name) with
   | some i => exact ⟨_, ⟨_, _, ep + 1, Heap.get?_update_self _ ho (by simp only [Obj.dropName_eq, Obj.dropNameByArray, hi] <;> rfl), (by simp only [Obj.dropName_eq, Obj.dropNameByArray, hi] <;> rfl), hk.erase i, fun _ => rfl⟩, fun x hx => by rw [← hm x]; exact ZMe hk hi x hx⟩
   | none => exact ⟨_, ⟨_, _, ep, Heap.get?_update_self _ ho (by simp only [Obj.dropName_eq, Obj.dropNameByArray, hi] <;> rfl), (by simp only [Obj.dropName_eq, Obj.dropNameByArray, hi] <;> rfl), hk, fun _ => rfl⟩, fun x _ => hm x⟩
  obtain ⟨m', hm', hx'⟩ := key
  have := hQ _ m' hm' hx' (Heap.SameBut.update ..)
  rw [hmn] at this
  exact this
theorem ZIs {env : Env} {n : Str} {pos : Pos} {m : Str → Option Value} {Q : Unit → Shared → Prop} (hl : env.kindOf n = some .local) (hn : s.heap.Ns env.locals m)
  (hp : (env.scope.kind == .class || (env.scope.kind == .module && env.locals != env.globals)) = false)
  (h : ∀ h' m', h'.Ns env.locals m' → (∀ x, x ≠ n → m' x = m x) → Heap.SameBut env.locals s.heap h' → Q () { s with heap := h', toks := s.toks + 1 }) :
  wpAny M A (do bindName env n .none; unbindBehindTheSuite env n pos) Q E s := by
 refine wpAny_bind (wpAny_bindName (wpAny_storeName_local hl hn (fun h₁ hn₁ hs₁ => ?_) hp))
 unfold unbindBehindTheSuite
 refine wpAny_onRaise ?_
 unfold unbindName
 refine wpAny_bind (wpAny_point (wpAny_bind ?_))
 unfold deleteName
 simp only [hl, hp]
 rw [if_neg (by decide)]
 refine wpAny_bind (ZMf hn₁ fun h₂ m₂ hn₂ hm₂ hs₂ => ?_)
 simp only [if_true, Option.isSome_some, Bool.not_true, Bool.false_eq_true, if_false]
 exact wpAny_pure (wpAny_point (h h₂ m₂ hn₂ (fun x hx => by rw [hm₂ x hx, if_neg hx]) (hs₁.trans hs₂)))
end
section
variable {X : Cx} {pins : List (Addr × Obj)} {σ : St} {H : Hp} {s : Shared}
theorem ZFe {M : Model} {A : Around} {E : Value → Shared → Prop} {i : Nat} {n : Str} {pos : Pos} {Q : Unit → Shared → Prop} (I : Inv X pins σ H s) (hN : X.N.Nodup) (hi : X.N[i]? = some n) (hl : X.env.scope.names.lookup n = some .local)
  (h : ∀ s', Inv X pins (σ.set i none) H s' → Q () s') : wpAny M A (do bindName X.env n .none; unbindBehindTheSuite X.env n pos) Q E s := by
 obtain ⟨m, hn, hlk⟩ := id I.loc
 have hcls : (X.env.scope.kind == .class || (X.env.scope.kind == .module && X.env.locals != X.env.globals)) = false := by rw [I.ok.kind]; rfl
 obtain ⟨oL, _, _, hoL, _⟩ := id hn
 refine ZIs hl hn hcls fun h' m' hn' hm' hs => h _ ?_
 refine ⟨I.ok, I.os, I.bare, ⟨fun b o e n hb hx => ?_, fun b o e n hb hx => ?_, I.base.free, fun b o e hx => ?_, I.base.tups, I.base.frzs, I.base.tbls⟩, ⟨m', hn', fun j y v' e1 e2 e3 => ?_⟩, fun y c e => ?_, I.free, I.freeC, fun p hp => ?_, fun b ob e => ?_, by simpa using I.len⟩
 ·exact (hs.2 b (Nat.ne_of_lt (Nat.lt_of_lt_of_le (Heap.lt_size e) I.ok.above))).trans (I.base.keep b o e n hb hx)
 ·obtain ⟨sl, e1⟩ := I.base.slot b o e n hb hx
  exact ⟨sl, (hs.2 b (Nat.ne_of_lt (Nat.lt_of_lt_of_le (Heap.lt_size e) I.ok.above))).trans e1⟩
 ·obtain ⟨o', e1⟩ := I.base.there b o e hx
  exact ⟨o', (hs.2 b (Nat.ne_of_lt (Nat.lt_of_lt_of_le (Heap.lt_size e) I.ok.above))).trans e1⟩
 ·by_cases hj : j = i
  ·subst hj
   rw [List.getElem?_set] at e2
   split at e2
   ·split at e2 <;> cases e2
   ·rename_i z; exact absurd rfl z
  ·rw [List.getElem?_set_ne (Ne.symm hj)] at e2
   obtain ⟨u', r', q⟩ := hlk j y v' e1 e2 e3
   have hy : y ≠ n := fun e => hj (ZFq hN e1 (e ▸ hi))
   refine ⟨u', r', ?_⟩
   rcases q with ⟨k, e⟩ | ⟨k, c, e, z⟩
   ·exact .inl ⟨k, by rw [hm' y hy]; exact e⟩
   ·exact .inr ⟨k, c, e, z.sameBut hs (I.cne y c e)⟩
 ·obtain ⟨w', z⟩ := I.cell y c e
  exact ⟨w', z.sameBut hs (I.cne y c e)⟩
 ·obtain ⟨e, n, ne, nf, d⟩ := I.pin p hp
  exact ⟨(hs.2 p.1 ne).trans e, n, ne, nf, d⟩
 ·refine (I.hok b ob e).stay (fun c w' hc q => (hs.2 c ?_).trans q) (fun _ q => q) fun _ _ q => q
  rintro rfl
  rcases hc with z | hc
  ·have := I.free
   rw [z, e] at this; cases this
  ·have := I.free
   rw [hc] at this; cases this
end
def ZDt (e : Addr) (C : Value) : HO := .ext fun h => ∃ oe, h.get? e = some oe ∧ oe.cls = C
abbrev Cx.suite (X : Cx) (e : Addr) : Cx := { X with A := X.A.mark (some (.ref e)), calm := false, xe := fun _ _ => False }
section
variable {X : Cx} {pins : List (Addr × Obj)} {σ : St} {H : Hp} {s : Shared} {e : Addr}
theorem Inv.around {A' : Around} {xe' : Value → Shared → Prop} (I : Inv X pins σ H s) (hf : A'.frames = X.A.frames) : Inv { X with A := A', calm := false, xe := xe' } pins σ H s :=
 ⟨⟨I.ok.mod, I.ok.kind, I.ok.glob, I.ok.blt, I.ok.above, I.ok.inj, I.ok.has, I.ok.cab, (fun z => nomatch z), hf.trans I.ok.frames, I.ok.stk, I.ok.exf, I.ok.bs, I.ok.bsz, I.ok.noex, I.ok.exfs, I.ok.funs, I.ok.frf⟩,
  I.os, I.bare, I.base, I.loc, I.cell, I.free, I.freeC, I.pin, I.hok, I.len⟩
theorem Inv.toSuite (I : Inv X pins σ H s) : Inv (X.suite e) pins σ H s := I.around rfl
theorem Inv.ofSuite (ok : X.Ok) (I : Inv (X.suite e) pins σ H s) : Inv X pins σ H s :=
 ⟨ok, I.os, I.bare, I.base, I.loc, I.cell, I.free, I.freeC, I.pin, I.hok, I.len⟩
theorem Inv.track {u : HO} (I : Inv X pins σ H s) (h1 : X.s₀.heap.get? e = none) (h2 : H e = none) (h3 : e ≠ X.env.locals) (h4 : ∀ x c, X.env.cells.lookup x = some c → c ≠ e) (h5 : ∀ p ∈ X.pn ++ pins, p.1 ≠ e) (new : ZBw X.prog X.w (upd H e u) s.heap e u) : Inv X pins σ (upd H e u) s := by
 have ne : ∀ b o, X.s₀.heap.get? b = some o → b ≠ e := fun b o q z => by rw [z, h1] at q; cases q
 refine ⟨I.ok, I.os, I.bare, ⟨I.base.keep, I.base.slot, fun b o q n hx => ?_, I.base.there, fun b xs q => ?_, fun b o xs q => ?_, fun b ps q => ?_⟩, I.loc, I.cell, ?_, fun x c q => ?_, fun p hp => ?_, fun b v q => ?_, I.len⟩
 ·rw [ZBn (ne b o q)]; exact I.base.free b o q n hx
 ·have := I.base.tups b xs q
  rw [ZBn (ZBt this h2)]; exact this
 ·have := I.base.frzs b o xs q
  rw [ZBn (ZBt this h2)]; exact this
 ·obtain ⟨m, z⟩ := I.base.tbls b ps q
  exact ⟨m, by rw [ZBn (ZBt z h2)]; exact z⟩
 ·rw [ZBn (Ne.symm h3)]; exact I.free
 ·rw [ZBn (h4 x c q)]; exact I.freeC x c q
 ·obtain ⟨a, b, c⟩ := I.pin p hp
  exact ⟨a, by rw [ZBn (h5 p hp)]; exact b, c⟩
 ·by_cases hb : b = e
  ·subst hb; rw [ZBg] at q; cases q; exact new
  ·rw [ZBn hb] at q
   exact (I.hok b v q).stay (fun _ _ _ q => q) (fun c r => by rw [ZBn (ZBt r h2)]; exact r) fun c xs r => by rw [ZBn (ZBt r h2)]; exact r
end
def Fl (X : Cx) (H1 : Hp) (s0 : Shared) (e : Addr) (C : Value) (H' : Hp) (s3 : Shared) : Prop := ∃ (a0 : Value) (B : Heap), s3.os = s0.os ∧ AllBare s3.gens ∧ Un (frs X.stack) [] H1 H' s0.heap s3.heap ∧ HOk X.prog X.w H' s3.heap ∧
 s0.heap.get? e = none ∧ H' e = none ∧ Heap.FlyingW B X.stack e C a0 s3.heap ∧ Cov B H' s0.heap s3.heap (frs X.stack)
section
variable {X : Cx} {pins : List (Addr × Obj)} {σ : St} {H1 H' : Hp} {s0 s3 : Shared} {e : Addr} {C : Value}
theorem Fl.inv (F : Fl X H1 s0 e C H' s3) (I : Inv X pins σ H1 s0) : Inv X pins σ H' s3 := by
 obtain ⟨a0, B, os, bare, un, hok, _⟩ := F
 exact I.call' (ch := []) os un hok bare (fun b z => absurd z (by simp))
theorem ZOK {P : Program} {w : World} {H : Hp} {h : Heap} {e : Addr} {oe : Obj} {C : Value} (he : h.get? e = some oe) (hc : oe.cls = C) : ZBw P w (upd H e (ZDt e C)) h e (ZDt e C) := ⟨⟨oe, he, hc⟩, ⟨oe, he⟩, fun h1 h2 ⟨o, q, c⟩ k => ⟨o, k o q, c⟩⟩
theorem Fl.suite (F : Fl X H1 s0 e C H' s3) (I : Inv X pins σ H1 s0) (hst : X.stack = X.env :: X.outer) (hfr : X.env.frame = some X.env.locals) (hex : X.ex = []) : ∃ oe, oe.cls = C ∧ s3.heap.get? e = some oe ∧ H' e = none ∧ Inv (X.suite e) pins σ (upd H' e (ZDt e C)) s3 := by
 have I3 := F.inv I
 obtain ⟨a0, B, os, bare, un, hok, hen, heH, fl, cov⟩ := F
 obtain ⟨oe, vs, T, oT, ts, he, hc, hd, _⟩ := fl.2.2.2
 have nfr : e ∉ frs X.stack := fun z => by
  obtain ⟨_, o, ho, hn⟩ := fl.2.2.1.mem z
  rw [he] at ho; cases ho
  exact hn vs hd
 have efr : frs X.stack = X.env.locals :: X.fs := by rw [hst]; exact ZF4 hfr
 rw [efr] at nfr
 refine ⟨oe, hc.1, he, heH, (I3.track (u := ZDt e C) ?_ heH (fun z => nfr (by rw [z]; exact List.mem_cons_self)) (fun x c q z => ?_) (fun p hp z => ?_) (ZOK he hc.1)).toSuite⟩
 ·cases z : X.s₀.heap.get? e with
  | none => rfl
  | some o =>
   obtain ⟨o', e'⟩ := I.base.there e o z (by rw [hex]; simp)
   rw [hen] at e'; cases e'
 ·obtain ⟨v, o, ho, hdc⟩ := I3.cell x c q
  rw [z, he] at ho; cases ho
  rw [hd] at hdc; cases hdc
 ·have := (I.pin p hp).1
  rw [z, hen] at this; cases this
end
abbrev TX := St → Hp → VK → XK → Prop
def XP (X : Cx) (pins : List (Addr × Obj)) (σ : St) (E : XK) (ev : Value) (s' : Shared) : Prop := ∃ H1 s1 e C H', Inv X pins σ H1 s1 ∧ ev = .ref e ∧ Fl X H1 s1 e C H' s' ∧ E C none H'
structure QX (X : Cx) (e : Expr) (t : TX) : Prop where
 h : ∀ (pins : List (Addr × Obj)) (s : Shared) (σ : St) (H : Hp) (Q : VK) (E : XK), Inv X pins σ H s → t σ H Q E → wpAny (model X.prog X.w) X.A (eval e X.env) (EP X pins σ Q) (XP X pins σ E) s
section
variable {X : Cx} {k : Nat} {f C : Addr} {fd : FuncData} {ps : List Str} {sp : Sp} {dvs : List V} {ds : List Value} {E : XK} {x m : Str} {p pos apos : Pos} {e o : Expr} {es : List Expr} {ta : TE} {t : TA}
theorem ZOL {pins : List (Addr × Obj)} {σ : St} {H : Hp} {s : Shared} {Q : VK} {us : List Value} {vs : List V} (F : ZBh X.prog X.w X.K X.mg X.base (CX1 X.prog X.w) k f fd ps sp) (hr : Room k X.A) (hb : ZBf X.K fd ps ds) (hd : ZBj dvs ds)
  (I : Inv X pins σ H s) (r : ZBj vs us) (h : sp (vs ++ dvs) H Q E) : wpAny (model X.prog X.w) X.A (call (.ref f) us) (EP X pins σ Q) (XP X pins σ E) s := by
 have r2 : ZBj (vs ++ dvs) (us ++ ds) := r.append hd
 have hl : (us ++ ds).length = ps.length := by rw [← r2.length]; exact F.len _ _ _ _ h
 refine wpAny_call (codeAny_mono (F.run X.A X.stack s H ⟨us, []⟩ (us ++ ds) (vs ++ dvs) Q E hr I.env0 (hb s us I.kIn hl) r2 h) fun r s' hq => ?_)
 cases r with
 | error e =>
  obtain ⟨e, C, a0, B, H', rfl, q1, q2, q3, q4, q5, q6, q7, q8, q⟩ := hq
  exact ⟨H, s, e, C, H', I, rfl, ⟨a0, B, q1, q2, q3, q4, q5, q6, q7, q8⟩, q⟩
 | ok fl =>
  cases fl with
  | ret u => exact I.after hq
  | next => exact False.elim hq
  | brk => exact False.elim hq
  | cont => exact False.elim hq
def ZK1 (sp : Sp) (dvs : List V) (t : TA) : TX := fun σ H Q E => t σ H fun vs H1 => sp (vs ++ dvs) H1 Q E
theorem ZOM (F : ZBh X.prog X.w X.K X.mg X.base (CX1 X.prog X.w) k f fd ps sp) (hr : Room k X.A) (hg : Gl X x) (hm : X.mg x = some (.ref f)) (hk : W.keepIn X.K (.ref f) = true) (hb : ZBf X.K fd ps ds) (hd : ZBj dvs ds)
  (ha : QA X.nox (e :: es) t) (hns : ZCA (e :: es) = true := by rfl) (hdb : (x == ("__debug__" : Str)) = false := by decide) : QX X (.Call (.Name x p) (e :: es) [] pos) (ZK1 sp dvs t) := by
 refine ⟨?_⟩
 intro pins s σ H Q E I h
 refine wpAny_Call_Name_kw (ZDM I hg hm ?_ hdb)
 refine PySem.W.callWith_K (h₀ := X.base) I.ok.mod.kin hk (wpAny_mono (ha.h pos pins s σ H _ (I.wish _) h) (fun us s1 ⟨vs, H1, I1, r, q⟩ => ⟨I1.kIn, ?_⟩) fun _ _ z => False.elim z) (ZC9 hns) (ZCv (ZCu hns))
 exact ZOL F hr hb hd I1.unwish r q
end
abbrev TBX := ZCK → XK → St → Hp → Prop
structure QBX (X : Cx) (st : List Stmt) (t : TBX) : Prop where
 h : ∀ (pins : List (Addr × Obj)) (s : Shared) (σ : St) (H : Hp) (D : ZCK) (E : XK), Inv X pins σ H s → t D E σ H → wpAny (model X.prog X.w) X.A (execs st X.env) (SP X pins D) (XP X pins σ E) s
def ZK2 (t : TX) : TBX := fun D E σ H => t σ H (fun _ H1 => D.nx σ H1) E
section
variable {X : Cx} {e : Expr} {t : TX} {pos pos' : Pos} {x : Str} {i : Nat}
theorem one_bx {st : Stmt} {E : Value → Shared → Prop} {pins : List (Addr × Obj)} {D : ZCK} {s : Shared} (h : wpAny (model X.prog X.w) X.A (exec st X.env) (SP X pins D) E s) : wpAny (model X.prog X.w) X.A (execs [st] X.env) (SP X pins D) E s := by
 refine wpAny_execs_cons (thn h fun f s1 q => ?_)
 cases f with
 | next => exact wpAny_execs_nil q
 | ret v => exact q
 | brk => exact q
 | cont => exact q
theorem ZMg (he : QX X e t) (hs : ZCz e = false := by rfl) : QBX X [.Expr e pos] (ZK2 t) := ⟨fun pins s σ H D E I h =>
 one_bx (wpAny_Expr_any (thn (he.h pins s σ H _ E I h) fun v s1 ⟨x, H1, I1, r1, q1⟩ => ⟨σ, H1, I1, q1⟩) I.quiet (ZDg hs))⟩
end
abbrev TH := Value → ZCK → St → Hp → Prop
structure QH (X : Cx) (hs : List ExceptHandler) (t : TH) : Prop where
 h : ∀ (pins : List (Addr × Obj)) (σ : St) (H1 : Hp) (s0 : Shared) (e : Addr) (C : Value) (H' : Hp) (s3 : Shared) (D : ZCK), Inv X pins σ H1 s0 → Fl X H1 s0 e C H' s3 → t C D σ H' → wpAny (model X.prog X.w) X.A (handleBy (.ref e) X.env hs) (SP X pins D) X.xe s3
section
variable {X : Cx}
def ZQq : TH := fun _ _ _ _ => False
theorem ZP6 : QH X [] ZQq := ⟨fun _ _ _ _ _ _ _ _ _ _ _ h => False.elim h⟩
theorem ZK3 {M : Model} {A : Around} {E : Value → Shared → Prop} {s : Shared} {K : W.Frag} {T e : Addr} {oe : Obj} {b : Bool} {Q : Bool → Shared → Prop} (hK : K.In s.heap) (hT : ZC2 K T) (he : s.heap.get? e = some oe) (hsub : subIn K oe.cls (.ref T) = some b) (hq : Q b s) : wpAny M A (excMatches (.ref e) (.ref T)) Q E s := by
 obtain ⟨bm, N', nm, qn, bs, hdct, sn, sub, ab, col, dd, k0, k1, k2, k3, k5, mN, hC, hN, hni, TL⟩ := ZFd hK hT
 obtain ⟨h, g, d, tk, os⟩ := s
 have hbase := TL.hasType PySem.F.excBase_ValueError.hasBase
 have hcB : (Value.ref T :: bm).contains (.type "BaseException") = true := by rw [List.contains_cons, hbase, Bool.or_true]
 have f := tc_notTuple
 have L := looks_subIn (M := M) hK hsub
 unfold excMatches
 repeat (first | with_reducible refine wpAny_loadPart_at he ?_ | with_reducible refine wpAny_loadPart_at hC ?_ | (with_reducible refine wpAny_isSubtype_exc hC ?_; rw [hcB]) | with_reducible refine L.at ?_ | wp_step)
 cases b <;> (wp_walk; exact hq)
abbrev ZCK.gone (D : ZCK) (i : Nat) : ZCK := { nx := fun σ H => D.nx (σ.set i none) H, rt := D.rt, bk := fun σ H => D.bk (σ.set i none) H, ct := fun σ H => D.ct (σ.set i none) H }
variable {x n : Str} {np pos : Pos} {T : Addr} {b₀ : Stmt} {suite : List Stmt} {ZCj : List ExceptHandler} {ts : Addr → TS} {tr : TH} {i : Nat}
def ZIK (C : Value) (H : Hp) (R : Addr → Hp → Prop) : Prop := ∀ e, H e = none → R e (upd H e (ZDt e C))
def ZGm (K : W.Frag) (T : Addr) (C : Value) (A B : Prop) : Prop := ∃ b, subIn K C (.ref T) = some b ∧ if b = true then A else B
def tHN (K : W.Frag) (T : Addr) (i : Nat) (ts : Addr → TS) (tr : TH) : TH := fun C D σ H => ZGm K T C (ZIK C H fun e H2 => ts e (D.gone i) (σ.set i (some (.ref e))) H2) (tr C D σ H)
theorem ZMh (K : W.Frag) (hK : X.K = K) (hst : X.stack = X.env :: X.outer) (hfr : X.env.frame = some X.env.locals) (hex : X.ex = []) (hN : X.N.Nodup) (hi : X.N[i]? = some n) (hl : X.env.scope.names.lookup n = some .local) (hg : Gl X x) (hm : X.mg x = some (.ref T)) (hT : ZC2 K T)
  (hs : ∀ e : Addr, QB (X.suite e) (b₀ :: suite) (ts e)) (hr : QH X ZCj tr) (hdb : (x == ("__debug__" : Str)) = false := by decide) :
  QH X (.ExceptHandler (some (.Name x np)) (some n) (b₀ :: suite) pos :: ZCj) (tHN K T i ts tr) := by
 subst hK
 refine ⟨?_⟩
 intro pins σ H1 s0 e C H' s3 D I F h
 obtain ⟨oe, rfl, he3, heH, IS⟩ := F.suite I hst hfr hex
 obtain ⟨b, hsub, h⟩ := h
 refine wpAny_handleBy_cons (codeAny_handlers_test ?_) (by intro q; cases q)
 refine ZDM IS hg hm ?_ hdb
 refine ZK3 IS.kIn hT he3 hsub ?_
 cases b with
 | false => exact hr.h pins σ H1 s0 e _ H' s3 D I F h
 | true =>
  have okX := I.ok
  refine codeAny_handlers_suite_as ?_
  have F2 := F
  obtain ⟨a0, B, q1, q2, q3, q4, q5, q6, q7, q8⟩ := F2
  refine lands_againW q7 fun h' fl' up => ?_
  have I3 := F.inv I
  obtain ⟨hok3, un3, cov3⟩ := ZEn q4 q3 q8 fl'.1 up (ZFc I3 q7.2.2.1 fun b hb => hb)
  have F3 : Fl X H1 s0 e oe.cls H' { s3 with heap := h' } := ⟨a0, B, q1, q2, un3, hok3, q5, q6, fl', cov3⟩
  obtain ⟨oe4, ec4, _, _, IS4⟩ := F3.suite I hst hfr hex
  have hf : (X.suite e).fn n = true ∨ (X.suite e).env.scope.names.lookup n = some .local := .inr hl
  refine ZEd (X := X.suite e) (v := .ref e) IS4 hN hi (.inl hl) rfl (fun s5 IS5 => ?_) hf
  have := (hs e).h pins _ _ _ (D.gone i) IS5 (h e q6)
  refine wpAny_mono this (fun f s6 hsp => ?_) fun _ _ z => False.elim z
  show wpAny (model X.prog X.w) X.A (do bindName X.env n .none; unbindBehindTheSuite X.env n pos) (fun _ s₃ => SP X pins D f s₃) X.xe s6
  cases f with
  | next => obtain ⟨σ', H', I, q⟩ := hsp; exact ZFe (I.ofSuite okX) hN hi hl fun s7 I7 => ⟨_, _, I7, q⟩
  | brk => obtain ⟨σ', H', I, q⟩ := hsp; exact ZFe (I.ofSuite okX) hN hi hl fun s7 I7 => ⟨_, _, I7, q⟩
  | cont => obtain ⟨σ', H', I, q⟩ := hsp; exact ZFe (I.ofSuite okX) hN hi hl fun s7 I7 => ⟨_, _, I7, q⟩
  | ret u => obtain ⟨v, σ', H', I, r, q⟩ := hsp; exact ZFe (I.ofSuite okX) hN hi hl fun s7 I7 => ⟨_, _, _, I7, r, q⟩
end
section
variable {X : Cx} {body : List Stmt} {h₀ : ExceptHandler} {hs : List ExceptHandler} {pos : Pos} {tb : TBX} {th : TH}
def ZP7 (tb : TBX) (th : TH) : TS := fun D σ H => tb D (fun C _ H' => th C D σ H') σ H
theorem ZP8 (hst : X.stack = X.env :: X.outer) (hfr : X.env.frame = some X.env.locals) (hb : QBX X body tb) (hh : QH X (h₀ :: hs) th) : QS X (.Try body (h₀ :: hs) [] [] pos) (ZP7 tb th) := by
 refine ⟨?_⟩
 intro pins s σ H D I h
 refine wpAny_Try_except (wpAny_mono (hb.h pins s σ H D _ I h) (fun f s1 q => ?_) fun ev s1 ⟨H1, s0, e, C, H', I1, eq, F, q⟩ => ?_)
 ·cases f with
  | next => exact wpAny_execs_nil q
  | brk => exact q
  | cont => exact q
  | ret u => exact q
 ·subst eq
  have I3 := F.inv I1
  have F2 := F
  obtain ⟨a0, B, q1, q2, q3, q4, q5, q6, q7, q8⟩ := F2
  have hfrs : X.A.frames = some (X.env :: X.outer) := by rw [← hst]; exact I.ok.frames
  have q7' : Heap.FlyingW B (X.env :: X.outer) e C a0 s1.heap := by rw [← hst]; exact q7
  refine wpAny_looks_onW hfrs hfr q7' fun h4 hheld up4 => ?_
  refine wpAny_landsW hheld fun h5 fl5 up5 => ?_
  have fl5' : Heap.FlyingW B X.stack e C a0 h5 := by rw [hst]; exact fl5
  obtain ⟨hok3, un3, cov3⟩ := ZEn q4 q3 q8 fl5'.1 (up4.trans up5) (ZFc I3 q7.2.2.1 fun b hb => hb)
  exact hh.h pins σ H1 s0 e C H' { s1 with heap := h5 } D I1 ⟨a0, B, q1, q2, un3, hok3, q5, q6, fl5', cov3⟩ q
end
end L2
namespace L2
open PySem PySem.Spec PyProof.Rows PySem.W PySem.Builtin PySem.Builtin.ObjectAttr PySem.Builtin.Getset_descriptor
structure ZCq (K : W.Frag) (C : Addr) : Prop where
 ga : findIn K (.ref C) "__getattribute__" = some (some (.builtin "BaseException.__getattribute__"))
 gt : findIn K (.ref C) "__getattr__" = some none
 cl : findIn K (.ref C) "__class__" = some (some (.builtin "object.__class__"))
 ob : mroIn K C (.type "object") = some true
 be : mroIn K C (.type "BaseException") = some true
section
variable {prog : Program} {w : World} {A : Around} {E : Value → Shared → Prop} {h : Heap} {g : Array GenState} {d : Drawn} {t : Nat} {os : OsState} {a C : Addr} {o : Obj} {K : W.Frag}
theorem ZIL {M : Model} (hx : h.get? a = some o) (hc : o.cls = .ref C) : Looks M h (typeOf (.ref a)) (.ref C) := hc ▸ (Looks.ld hx).andThen .now
theorem ZHK {R : Result → Shared → Prop} {tp : Value} (X : K.In h) (hx : h.get? a = some o) (hc : o.cls = .ref C) (F : ZCq K C) (hq : R (.ok (.ret (.ref C))) ⟨h, g, d, t, os⟩) :
  codeAny (model prog w) A (.call (.builtin "getset_descriptor.__get__") ⟨[.builtin "object.__class__", .ref a, tp], []⟩) R ⟨h, g, d, t, os⟩ := by
 have L0 := ZIL (M := model prog w) hx hc
 have L1 := looks_mroIn (M := model prog w) X F.ob
 refine codeAny_call_builtin KF.slot_gs.plain KF.entry_gs (KF.slot_gs.check _ _ _ _ _ _ _ _ KF.type_class (KF.args_gs _ _ _) ?_)
 unfold Builtin.«getset_descriptor.__get__» descrGet
 rw [dga_obj]
 refine wpAny_bind (wpAny_pure ?_)
 unfold descrGetter descrCheckInstance descrNameAndClass isInstance
 simp only [KF.owner_class]
 repeat lk
 refine ⟨Code.quiet_builtin _ (by decide +kernel), codeAny_builtin KF.entry_class ?_⟩
 unfold Builtin.«object.__class__» shownTypeOf
 repeat lk
 exact hq
theorem ZIM {M : Model} {nameV : Value} {Q : Unit → Shared → Prop} (X : K.In h) (hx : h.get? a = some o) (hc : o.cls = .ref C) (F : ZCq K C) (hq : Q () ⟨h, g, d, t, os⟩) : wpAny M A (checkBuiltinCall "BaseException.__getattribute__" ⟨[.ref a, nameV], []⟩) Q E ⟨h, g, d, t, os⟩ := by
 have hk : builtinKind "BaseException.__getattribute__" = some .slot := by decide +kernel
 have hsplit : splitId "BaseException.__getattribute__" = some ("BaseException", "__getattribute__") := by decide +kernel
 have ha := PySem.F.args_bexc_ga (.ref a) nameV
 have L0 := ZIL (M := M) hx hc
 have L1 := looks_mroIn (M := M) X F.be
 simp only [checkBuiltinCall, hk, hsplit]
 refine wpAny_bind ?_
 unfold isInstance
 repeat (first | with_reducible refine L0.at ?_ | with_reducible refine L1.at ?_ | wp_step)
 exact hq
theorem ZGZ {tk : Tok} {Q : Fin → Shared → Prop} (X : K.In h) (hx : h.get? a = some o) (hc : o.cls = .ref C) (F : ZCq K C) (hq : Q (.done (.ret (.ref C))) ⟨h, g, d, t, os⟩) :
  wpAny (model prog w) A (Builtin.«object.__getattribute__» ⟨[.ref a, .str "__class__" tk], []⟩) Q E ⟨h, g, d, t, os⟩ := by
 have hT5 : (⟨h, g, d, t, os⟩ : Shared).TypeIs (.builtin "object.__class__") "getset_descriptor" := PySem.F.typeOf_object_class
 have f5 := PySem.F.typeOf_object_class
 have f6 := PySem.F.slot_gs_get.lookup
 have f7 := PySem.F.slot_gs_set.lookup
 have L2 := looks_findIn (M := model prog w) X F.cl
 repeat (any_goals (first | assumption | (with_reducible refine wpAny_loadPart_at hx ?_; rw [hc]) | with_reducible refine L2.at ?_ | wp_step))
 refine ZHK X hx hc F ?_
 repeat (any_goals (first | assumption | wp_step))
theorem ZGn {tk : Tok} {R : Result → Shared → Prop} (X : K.In h) (hx : h.get? a = some o) (hc : o.cls = .ref C) (F : ZCq K C) (hq : R (.ok (.ret (.ref C))) ⟨h, g, d, t, os⟩) :
  codeAny (model prog w) A (.call (.builtin "BaseException.__getattribute__") ⟨[.ref a, .str "__class__" tk], []⟩) R ⟨h, g, d, t, os⟩ :=
 codeAny_call_builtin PySem.F.attr_ValueError.ga.plain PySem.F.entry_bexc_ga (ZIM X hx hc F (ZGZ X hx hc F hq))
theorem ZIN {tk : Tok} {Q : Value → Shared → Prop} (X : K.In h) (hx : h.get? a = some o) (hc : o.cls = .ref C) (F : ZCq K C) (hq : Q (.ref C) ⟨h, g, d, t, os⟩) :
  wpAny (model prog w) A (getAttrBy (.ref a) (.str "__class__" tk) false) Q E ⟨h, g, d, t, os⟩ := by
 have f3 := PySem.F.attr_ValueError.ga.bind (.ref a)
 have hx2 : (Value.builtin "BaseException.__getattribute__" == Value.builtin "object.__getattribute__") = false := by decide +kernel
 have hx1 : (onTheHeap (Value.ref C) && Value.builtin "BaseException.__getattribute__" == Value.builtin "object.__getattribute__") = false := by rw [hx2]; rfl
 have L1 := looks_findIn (M := model prog w) X F.ga
 have L2 := looks_findIn (M := model prog w) X F.gt
 repeat (any_goals (first | assumption | (with_reducible refine wpAny_loadPart_at hx ?_; rw [hc]) | with_reducible refine L1.at ?_ | with_reducible refine L2.at ?_ | wp_step))
 refine ZGn X hx hc F ?_
 repeat (any_goals (first | assumption | wp_step))
theorem ZGo {Q : Option Value → Shared → Prop} (X : K.In h) (hx : h.get? a = some o) (hc : o.cls = .ref C) (F : ZCq K C) (hq : Q (some (.ref C)) ⟨h, g, d, t + 1, os⟩) : wpAny (model prog w) A (getAttr? (.ref a) "__class__") Q E ⟨h, g, d, t, os⟩ := by
 unfold getAttr? getAttrBy?
 repeat (any_goals (first | assumption | with_reducible apply ZIN X hx hc F | wp_step))
end
section
variable {K : W.Frag}
theorem ZIO {e C : Addr} (hC : ZC2 K C) (F : ZCq K C) : KitX K (.ref e) (.ref C) (fun h => ∃ oe, h.get? e = some oe ∧ oe.cls = .ref C) where
 ty := fun _ _ _ ⟨oe, h1, h2⟩ => ZIL h1 h2
 it := fun _ h X _ => by
  obtain ⟨bm, N', nm, qn, bs, hdct, sn, sub, ab, col, dd, k0, k1, k2, k3, k5, mN, hCo, _⟩ := ZFd X hC
  intro A' Q' E' s' k q
  unfold isType loadHead
  exact wpAny_bind (wpAny_loadPart (k _ _ hCo) (wpAny_pure q))
 ne := fun h tp dd its n sl X htp => by
  obtain ⟨bm, N', nm, qn, bs, hdct, sn, sub, ab, col, dd', k0, k1, k2, k3, k5, mN, hCo, _⟩ := ZFd X hC
  refine Bool.eq_false_iff.mpr fun q => ?_
  have e : C = tp := Value.ref.inj (beq_iff_eq.mp q)
  subst e
  have z := congrArg Obj.data (Option.some.inj (hCo.symm.trans htp))
  unfold excClassObj at z
  cases z
 ca := fun {_ _ _ _ _ s} X ⟨oe, h1, h2⟩ k => by
  obtain ⟨h, g, d, t, os⟩ := s
  exact ZGo X h1 h2 F k
end
def ZGp : V → Value → Prop
 | .ref T, u => u = .ref T
 | .ty n, u => u = .type n
 | _, _ => False
def ZJ2 (K : W.Frag) : List V → Hp → VK → Prop := fun xs H Q => ∃ e C y u b, xs = [.ref e, y] ∧ H e = some (ZDt e (.ref C)) ∧ ZC2 K C ∧ ZCq K C ∧ ZGp y u ∧ W.kitOne K (.ref C) u = some b ∧ Q (.bl b) H
def ZJ3 (K : W.Frag) : List V → Hp → VK → Prop := fun xs H Q => ∃ e C tp ys us b, xs = [.ref e, .ref tp] ∧ H e = some (ZDt e (.ref C)) ∧ ZC2 K C ∧ ZCq K C ∧ H tp = some (.tup ys) ∧ Paired ZGp ys us ∧ W.kitAny K (.ref C) us = some b ∧ Q (.bl b) H
theorem ZIP {y : V} {u v : Value} (h : ZGp y u) (r : ZBi y v) : v = u := by
 cases y <;> first | exact False.elim h | (obtain rfl := h; exact r)
theorem ZIQ : ∀ {ys : List V} {us its : List Value}, Paired ZGp ys us → ZBj ys its → its = us
 | _, _, _, .nil, .nil => rfl
 | _, _, _, .cons a hy, .cons b rb => by rw [ZIP a b, ZIQ hy rb]
section
variable {X : Cx}
theorem ZK4 : ZBy X (.builtin "isinstance") (ZJ2 X.K) := by
 intro pins s σ H xs us Q I r h
 obtain ⟨e, C, y, u, b, rfl, he, hC, F, hy, hk, q⟩ := h
 obtain ⟨v1, v2, rfl, r1, r2⟩ := r.two
 obtain rfl : v1 = Value.ref e := r1
 obtain rfl := ZIP hy r2
 obtain ⟨p, _⟩ := (show ZBw X.prog X.w H s.heap e (ZDt e (.ref C)) from I.hok e _ he)
 exact PySem.W.kia_one (ZIO hC F) I.kIn p hk (fun z => nomatch z) fun tk => ⟨.bl b, H, I.tok _, rfl, q⟩
theorem ZK5 : ZBy X (.builtin "isinstance") (ZJ3 X.K) := by
 intro pins s σ H xs us Q I r h
 obtain ⟨e, C, tp, ys, vs, b, rfl, he, hC, F, ht, hy, hk, q⟩ := h
 obtain ⟨v1, v2, rfl, r1, r2⟩ := r.two
 obtain rfl : v1 = Value.ref e := r1
 obtain rfl : v2 = Value.ref tp := r2
 obtain ⟨p, _⟩ := (show ZBw X.prog X.w H s.heap e (ZDt e (.ref C)) from I.hok e _ he)
 obtain ⟨_, its, rv, o, ho, hc, n, hd⟩ := (show ZBw X.prog X.w H s.heap tp (.tup ys) from I.hok tp _ ht)
 have ev : its = vs := ZIQ hy rv
 subst ev
 obtain ⟨oc, od, odt, osl⟩ := o
 obtain rfl : oc = Value.type "tuple" := hc
 obtain rfl : odt = Data.seq its.toArray n := hd
 exact PySem.W.kia_tup (ZIO hC F) I.kIn p ho hk (fun z => nomatch z) fun tk => ⟨.bl b, H, I.tok _, rfl, q⟩
theorem ZON (K : W.Frag) (h : X.K = K) : ZBy X (.builtin "isinstance") (ZJ2 K) := h ▸ ZK4
theorem ZOO (K : W.Frag) (h : X.K = K) : ZBy X (.builtin "isinstance") (ZJ3 K) := h ▸ ZK5
end
section
variable {X : Cx} {k : Nat} {f : Addr} {fd : FuncData} {ps : List Str} {sp : Sp} {dvs : List V} {ds : List Value} {x : Str} {p pos : Pos} {e : Expr} {es : List Expr} {t : TA}
end
section
variable {K : W.Frag} {σ : St} {H : Hp} {Q : VK} {D : ZCK} {E : XK} {C T e : Addr} {t : TA} {tb : TBX} {th : TH} {ts : Addr → TS} {tr : TH} {i : Nat}
def ZK6 (E : XK) (C : Addr) (vs : List V) (H : Hp) : Prop := vs.length ≤ sizeLine ∧ E (.ref C) none H
theorem ZK7 (h : t σ H fun vs H1 => ZK6 E C vs H1) : ZIJ E C t D σ H := h
theorem ZEo {vs : List V} (h : vs.length ≤ 1000) (q : E (.ref C) none H) : ZK6 E C vs H := ⟨Nat.le_trans h (by decide), q⟩
theorem ZP9 (h : tb D (fun C _ H' => th C D σ H') σ H) : ZP7 tb th D σ H := h
theorem ZMi {sp : Sp} {dvs : List V} (h : t σ H fun vs H1 => sp (vs ++ dvs) H1 Q E) : ZK1 sp dvs t σ H Q E := h
theorem ZMj {u : TX} (h : u σ H (fun _ H1 => D.nx σ H1) E) : ZK2 u D E σ H := h
theorem ZK8 {C : Value} {A B : Prop} {b : Bool} (hs : subIn K C (.ref T) = some b) (h : if b = true then A else B) : ZGm K T C A B := ⟨b, hs, h⟩
theorem ZQa {C : Value} (h : ZGm K T C (ZIK C H fun e H2 => ts e (D.gone i) (σ.set i (some (.ref e))) H2) (tr C D σ H)) : tHN K T i ts tr C D σ H := h
theorem ZMk {C : Value} {R : Addr → Hp → Prop} (h : ∀ e H2, H e = none → H2 e = some (ZDt e C) → ZBd H H2 → R e H2) : ZIK C H R := fun e he => h e _ he ZBg (ZBd.new he)
theorem ZOP {y : V} {u : Value} {b : Bool} (he : H e = some (ZDt e (.ref C))) (hC : ZC2 K C) (F : ZCq K C) (hy : ZGp y u) (hk : W.kitOne K (.ref C) u = some b) (q : Q (.bl b) H) : ZJ2 K [.ref e, y] H Q := ⟨e, C, y, u, b, rfl, he, hC, F, hy, hk, q⟩
theorem ZOQ {tp : Addr} {ys : List V} {us : List Value} {b : Bool} (he : H e = some (ZDt e (.ref C))) (hC : ZC2 K C) (F : ZCq K C) (ht : H tp = some (.tup ys)) (hy : Paired ZGp ys us) (hk : W.kitAny K (.ref C) us = some b) (q : Q (.bl b) H) : ZJ3 K [.ref e, .ref tp] H Q := ⟨e, C, tp, ys, us, b, rfl, he, hC, F, ht, hy, hk, q⟩
end
section
variable {P : Program} {w : World} {K : W.Frag} {mg : Str → Option Value} {base : Heap} {N : List Str} {qual : Str} {scope : Scope} {f : Addr} {cd : Value} {A : Around} {outer : List Env} {s : Shared} {H : Hp} {E : XK}
 {x : Str} {np cpos pos : Pos} {e₀ : Expr} {es : List Expr} {t : TA} {C : Addr}
theorem ZIR (hC : ZC2 K C) (hg : Gl (cxE P w K mg base N qual scope f cd A outer s H E) x) (hm : mg x = some (.ref C)) (ha : QA (cxE P w K mg base N qual scope f cd A outer s H E) (e₀ :: es) t)
 (hns : ZCA (e₀ :: es) = true := by rfl) (hdb : (x == ("__debug__" : Str)) = false := by decide) :
 QS (cxE P w K mg base N qual scope f cd A outer s H E) (.Raise (some (.Call (.Name x np) (e₀ :: es) [] cpos)) none pos) (ZIJ E C t) := ⟨ZMd hC hg hm ha.h hdb (ZC9 hns) (ZCv (ZCu hns))⟩
end
section
variable {X : Cx}
end
section
variable {X : Cx}
end
section
variable {K : W.Frag} {H : Hp} {Q : VK} {σ : St}
variable {D : ZCK}
end
section
variable {M : Model} {A : Around} {Er : Value → Shared → Prop} {s : Shared} {Bs : Heap} {l outer : List Env} {env : Env} {x L : Addr} {c0 a0 fl : Value}
end
section
variable {P : Program} {w : World} {H H' : Hp} {h0 h' h'' Bs : Heap} {fs ex : List Addr}
end
section
variable {P : Program} {w : World} {K : W.Frag} {mg : Str → Option Value} {base : Heap} {N : List Str} {qual : Str} {scope : Scope} {f : Addr} {cd : Value} {A : Around} {outer : List Env} {s : Shared} {H : Hp} {E : XK}
end
section
variable {X : Cx}
end
section
variable {P : Program} {w : World} {K : W.Frag} {mg : Str → Option Value} {base : Heap} {N : List Str} {qual : Str} {scope : Scope} {f : Addr} {cd : Value} {A : Around} {outer : List Env} {s : Shared} {H : Hp} {E : XK}
end
def fl (low tall : Int) (q : Int × Int) : Int := (q.1 - low * q.2) / (tall * q.2)
def ZCS (cv : PL) (b e : Int) : PL := cv.filter fun p => decide (b ≤ p.1) && decide (p.1 < e)
def InT (cv : PL) : Prop := ∀ p ∈ cv, (-(10 ^ 64) < p.1 ∧ p.1 < 10 ^ 64) ∧ -(10 ^ 64) < p.2 ∧ p.2 < 10 ^ 64
section
variable {X : Cx}
end
theorem ZGa {cv : PL} (h : Asc cv) {i j : Nat} (hi : i < cv.length) (hj : j < cv.length) (hij : i < j) : cv[i].1 < cv[j].1 := List.pairwise_iff_getElem.mp h i j hi hj hij
theorem ZCE {cv : PL} {b e : Int} {p : Int × Int} : p ∈ ZCS cv b e ↔ p ∈ cv ∧ b ≤ p.1 ∧ p.1 < e := by
 unfold ZCS
 rw [List.mem_filter]
 simp
def Is4 (cv : PL) (o : Option (PL)) : Prop :=
 (o = none ∧ cv = []) ∨ ∃ q0 q1 q2 q3 : Int × Int, o = some [q0, q1, q2, q3] ∧ q0 ∈ cv ∧ q1 ∈ cv ∧ q2 ∈ cv ∧ q3 ∈ cv ∧
  ∀ p ∈ cv, q0.1 ≤ p.1 ∧ p.1 ≤ q1.1 ∧ (q2.2 < p.2 ∨ (q2.2 = p.2 ∧ q2.1 ≤ p.1)) ∧ (p.2 < q3.2 ∨ (p.2 = q3.2 ∧ q3.1 ≤ p.1))
theorem Is4.join {c1 c2 : PL} {a0 a1 a2 a3 b0 b1 b2 b3 : Int × Int} (h : Is4 c1 (some [a0, a1, a2, a3])) (g : Is4 c2 (some [b0, b1, b2, b3])) (hlt : ∀ p ∈ c1, ∀ q ∈ c2, p.1 < q.1) :
  Is4 (c1 ++ c2) (some [a0, b1, if a2.2 ≤ b2.2 then a2 else b2, if b3.2 ≤ a3.2 then a3 else b3]) := by
 rcases h with ⟨e, _⟩ | ⟨q0, q1, q2, q3, e, m0, m1, m2, m3, hb⟩
 ·cases e
 rcases g with ⟨e', _⟩ | ⟨r0, r1, r2, r3, e', n0, n1, n2, n3, gb⟩
 ·cases e'
 cases e
 cases e'
 refine .inr ⟨_, _, _, _, rfl, List.mem_append_left _ m0, List.mem_append_right _ n1, ?_, ?_, fun p hp => ?_⟩
 ·split
  ·exact List.mem_append_left _ m2
  ·exact List.mem_append_right _ n2
 ·split
  ·exact List.mem_append_left _ m3
  ·exact List.mem_append_right _ n3
 ·rcases List.mem_append.mp hp with hp | hp
  ·have k1 := hb p hp
   have k2 := hlt p hp _ n1
   have k3 := hlt p hp _ n2
   have k4 := hlt p hp _ n3
   refine ⟨k1.1, by omega, ?_, ?_⟩
   ·split <;> omega
   ·split <;> omega
  ·have k1 := gb p hp
   have k2 := hlt _ m0 p hp
   have k3 := hlt _ m2 p hp
   have k4 := hlt _ m3 p hp
   refine ⟨by omega, k1.2.1, ?_, ?_⟩
   ·split <;> omega
   ·split <;> omega
theorem Is4.of_none {cv : PL} (h : Is4 cv none) : cv = [] := by
 rcases h with ⟨_, e⟩ | ⟨q0, q1, q2, q3, e, _⟩
 ·exact e
 ·cases e
theorem Is4.minmax {cv : PL} {p0 p1 p2 p3 : Int × Int} {i2 i3 : Nat} (ha : Asc cv) (e0 : cv[0]? = some p0) (e1 : cv[cv.length - 1]? = some p1) (e2 : cv[i2]? = some p2) (e3 : cv[i3]? = some p3)
  (h2 : ∀ j, j < cv.length → (cv.getD i2 (0, 0)).2 ≤ (cv.getD j (0, 0)).2 ∧ (j < i2 → (cv.getD i2 (0, 0)).2 < (cv.getD j (0, 0)).2))
  (h3 : ∀ j, j < cv.length → (cv.getD i3 (0, 0)).2 ≥ (cv.getD j (0, 0)).2 ∧ (j < i3 → (cv.getD i3 (0, 0)).2 > (cv.getD j (0, 0)).2)) : Is4 cv (some [p0, p1, p2, p3]) := by
 obtain ⟨z0, y0⟩ := List.getElem?_eq_some_iff.mp e0
 obtain ⟨z1, y1⟩ := List.getElem?_eq_some_iff.mp e1
 obtain ⟨z2, y2⟩ := List.getElem?_eq_some_iff.mp e2
 obtain ⟨z3, y3⟩ := List.getElem?_eq_some_iff.mp e3
 have d : ∀ {j : Nat} (hj : j < cv.length), cv.getD j (0, 0) = cv[j] := fun {j} hj => by simp [hj]
 refine .inr ⟨p0, p1, p2, p3, rfl, List.mem_of_getElem? e0, List.mem_of_getElem? e1, List.mem_of_getElem? e2, List.mem_of_getElem? e3, fun p hp => ?_⟩
 obtain ⟨j, hj, rfl⟩ := List.getElem_of_mem hp
 have k2 := h2 j hj
 have k3 := h3 j hj
 rw [d z2, d hj, y2] at k2
 rw [d z3, d hj, y3] at k3
 refine ⟨?_, ?_, ?_, ?_⟩
 ·by_cases h : j = 0
  ·subst h; rw [y0]; exact Int.le_refl _
  ·have := ZGa ha z0 hj (by omega)
   rw [y0] at this
   omega
 ·by_cases h : j = cv.length - 1
  ·subst h; rw [y1]; exact Int.le_refl _
  ·have := ZGa ha hj z1 (by omega)
   rw [y1] at this
   omega
 ·by_cases h : i2 < j
  ·have := ZGa ha z2 hj h
   rw [y2] at this
   omega
  ·by_cases h' : j = i2
   ·subst h'; rw [y2]; omega
   ·have := k2.2 (by omega)
    omega
 ·by_cases h : i3 < j
  ·have := ZGa ha z3 hj h
   rw [y3] at this
   omega
  ·by_cases h' : j = i3
   ·subst h'; rw [y3]; omega
   ·have := k3.2 (by omega)
    omega
theorem ZOR {b y t i : Int} (hy : 0 < y) : (b + i * y ≤ t ∧ t < b + i * y + y) ↔ (t - b) / y = i := by
 have h1 := Int.emod_add_mul_ediv (t - b) y
 have h2 := Int.emod_nonneg (t - b) (show y ≠ 0 by omega)
 have h3 := Int.emod_lt_of_pos (t - b) hy
 constructor
 ·rintro ⟨g1, g2⟩
  refine (Int.ediv_emod_unique hy (r := t - b - i * y) (q := i)).mpr ⟨?_, by omega, by omega⟩ |>.1
  rw [Int.mul_comm y i]
  omega
 ·intro e
  rw [e, Int.mul_comm y i] at h1
  constructor <;> omega
def ZQA (cv : PL) (b y : Int) (m : Nat) (fs : List (Option (PL))) : Prop := fs.length = m ∧ ∀ (k : Nat) o, fs[k]? = some o → Is4 (ZCS cv (b + (k : Int) * y) (b + (k : Int) * y + y)) o
def Ch (e : Int) : Int → PL → Int → Prop
 | x, [], y => x = y
 | x, p :: r, y => (0 ≤ p.1 ∧ p.1 ≤ 40) ∧ p.2 * 2 ^ p.1.toNat = x ∧ x + 2 ^ p.1.toNat ≤ e ∧ (p.1 < 40 → x % (2 * 2 ^ p.1.toNat) = 0 → x + 2 * 2 ^ p.1.toNat ≤ e → False) ∧ Ch e (x + 2 ^ p.1.toNat) r y
theorem ZCr (k : Nat) : (0 : Int) < 2 ^ k := Int.pow_pos (by decide)
theorem Ch.le {e : Int} : ∀ {r : PL} {x y : Int}, Ch e x r y → x ≤ y
 | [], _, _, h => by cases h; exact Int.le_refl _
 | p :: r, x, y, h => by
  have := Ch.le h.2.2.2.2
  have := ZCr p.1.toNat
  omega
theorem Ch.snoc {e : Int} {p : Int × Int} : ∀ {r : PL} {x y : Int}, Ch e x r y → (0 ≤ p.1 ∧ p.1 ≤ 40) → p.2 * 2 ^ p.1.toNat = y → y + 2 ^ p.1.toNat ≤ e → (p.1 < 40 → y % (2 * 2 ^ p.1.toNat) = 0 → y + 2 * 2 ^ p.1.toNat ≤ e → False) → Ch e x (r ++ [p]) (y + 2 ^ p.1.toNat)
 | [], _, _, h, h1, h2, h3, h4 => by cases h; exact ⟨h1, h2, h3, h4, rfl⟩
 | _ :: _, _, _, h, h1, h2, h3, h4 => ⟨h.1, h.2.1, h.2.2.1, h.2.2.2.1, Ch.snoc h.2.2.2.2 h1 h2 h3 h4⟩
theorem ZEp {a b : Nat} (h : a ≤ b) : (2 : Int) ^ a ≤ 2 ^ b := by
 obtain ⟨c, rfl⟩ := Nat.exists_eq_add_of_le h
 rw [Int.pow_add]
 have h1 := ZCr a
 have h2 := ZCr c
 have h3 : (2 : Int) ^ a * 1 ≤ 2 ^ a * 2 ^ c := Int.mul_le_mul_of_nonneg_left (by omega) (by omega)
 omega
theorem ZEL {a b : Nat} (h : a ≤ b) : (2 : Int) ^ a ∣ 2 ^ b := by
 obtain ⟨c, rfl⟩ := Nat.exists_eq_add_of_le h
 rw [Int.pow_add]
 exact Int.dvd_mul_right _ _
theorem ZEq (k : Nat) : (2 : Int) * 2 ^ k = 2 ^ (k + 1) := by rw [Int.pow_succ]; omega
def Few (e : Int) (n : Nat) (x : Int) : Prop := ((2 : Int) ^ n ∣ x ∧ n ≤ 40 ∧ -(2 ^ 40) + (n : Int) ≤ x) ∨ ∃ m : Nat, (2 : Int) ^ m ∣ x ∧ e - x < 2 ^ m ∧ n + m ≤ 80
theorem Few.len {e x : Int} {n : Nat} (h : Few e n x) : n ≤ 80 := by
 rcases h with h | ⟨m, h⟩ <;> omega
theorem ZK9 {a : Nat} {x : Int} (h : (2 : Int) ^ a ∣ x) (h1 : -(2 ^ a) < x) (h2 : x < 2 ^ a) : x = 0 := by
 obtain ⟨c, rfl⟩ := h
 have hp := ZCr a
 have hc : c = 0 := by
  by_cases h0 : c ≤ -1
  ·have : (2 : Int) ^ a * c ≤ 2 ^ a * (-1) := Int.mul_le_mul_of_nonneg_left h0 (by omega)
   omega
  ·by_cases h0' : 1 ≤ c
   ·have : (2 : Int) ^ a * 1 ≤ 2 ^ a * c := Int.mul_le_mul_of_nonneg_left h0' (by omega)
    omega
   ·omega
 rw [hc, Int.mul_zero]
theorem ZIS {e x : Int} {L : Nat} (he : e ≤ 2 ^ 40) (hx : -(2 ^ 40) ≤ x) (h1 : (2 : Int) ^ L ∣ x) (h2 : x + 2 ^ L ≤ e) : L ≤ 40 := by
 have hc : L ≤ 40 ∨ L = 41 ∨ 42 ≤ L := by omega
 rcases hc with h | rfl | h
 ·exact h
 ·exfalso
  obtain ⟨c, hc⟩ := h1
  have e1 : (2 : Int) ^ 41 = 2199023255552 := by decide
  have e2 : (2 : Int) ^ 40 = 1099511627776 := by decide
  rw [e1] at h2 hc
  rw [e2] at he hx
  omega
 ·exfalso
  have h3 := ZEp h
  have e1 : (2 : Int) ^ 42 = 4398046511104 := by decide
  have e2 : (2 : Int) ^ 40 = 1099511627776 := by decide
  rw [e1] at h3
  rw [e2] at he hx
  omega
theorem Few.step {e x : Int} {n L : Nat} (he : e ≤ 2 ^ 40) (hx : -(2 ^ 40) ≤ x) (h : Few e n x) (h1 : (2 : Int) ^ L ∣ x) (h2 : x + 2 ^ L ≤ e) (h3 : (2 : Int) ^ (L + 1) ∣ x → x + 2 ^ (L + 1) ≤ e → False) : Few e (n + 1) (x + 2 ^ L) := by
 have hL := ZIS he hx h1 h2
 have hp := ZCr L
 have es : (2 : Int) ^ (L + 1) = 2 * 2 ^ L := (ZEq L).symm
 rcases h with ⟨hd, hn, hb⟩ | ⟨m, hd, hm, hnm⟩
 ·by_cases ha : (2 : Int) ^ (L + 1) ∣ x
  ·-- limited by the end
   have h4 : ¬ x + 2 ^ (L + 1) ≤ e := fun z => h3 ha z
   by_cases h40 : L = 40
   ·subst h40
    have e2 : (2 : Int) ^ 40 = 1099511627776 := by decide
    have e3 : (2 : Int) ^ (40 + 1) = 2199023255552 := by decide
    have hx0 : x = 0 := ZK9 ha (by rw [e3]; rw [e2] at hx; omega) (by rw [e3]; rw [e2] at h2 he; omega)
    subst hx0
    right
    refine ⟨0, Int.one_dvd _, ?_, by omega⟩
    rw [e2] at he h2 ⊢
    show e - (0 + 1099511627776) < 1
    omega
   ·right
    exact ⟨L, Int.dvd_add h1 (Int.dvd_refl _), by omega, by omega⟩
  ·-- limited by where it begins
   have hLn : n ≤ L := by
    by_cases hlt : n ≤ L
    ·exact hlt
    ·exact absurd (Int.dvd_trans (ZEL (by omega)) hd) ha
   have hd' : (2 : Int) ^ (L + 1) ∣ x + 2 ^ L := by
    obtain ⟨c, hc⟩ := h1
    have hodd : c % 2 = 1 := by
     by_cases h0 : c % 2 = 0
     ·exfalso
      apply ha
      refine ⟨c / 2, ?_⟩
      have : c = 2 * (c / 2) := by omega
      rw [hc, es]
      rw [Int.mul_comm 2 ((2 : Int) ^ L), Int.mul_assoc, ← this]
     ·omega
    refine ⟨(c + 1) / 2, ?_⟩
    have : c + 1 = 2 * ((c + 1) / 2) := by omega
    have h5 : x + 2 ^ L = 2 ^ L * (c + 1) := by rw [hc, Int.mul_add, Int.mul_one]
    rw [h5, es, Int.mul_comm 2 ((2 : Int) ^ L), Int.mul_assoc, ← this]
   left
   refine ⟨Int.dvd_trans (ZEL (by omega)) hd', ?_, by omega⟩
   by_cases h40 : L = 40
   ·subst h40
    have e2 : (2 : Int) ^ 40 = 1099511627776 := by decide
    obtain ⟨c, hc⟩ := h1
    rw [e2] at hc he h2 hx hb
    have : c ≠ 0 := by
     rintro rfl
     apply ha
     rw [hc]
     exact ⟨0, by omega⟩
    omega
   ·omega
 ·have hlt : L < m := by
   by_cases hlt : L < m
   ·exact hlt
   ·have := ZEp (show m ≤ L by omega)
    omega
  have ha : (2 : Int) ^ (L + 1) ∣ x := Int.dvd_trans (ZEL (by omega)) hd
  have h4 : ¬ x + 2 ^ (L + 1) ≤ e := fun z => h3 ha z
  right
  exact ⟨L, Int.dvd_add h1 (Int.dvd_refl _), by omega, by omega⟩
theorem Few.start {e b : Int} (hb : -(2 ^ 40) ≤ b) : Few e 0 b := .inl ⟨Int.one_dvd _, by omega, by simpa using hb⟩
theorem Is4.congr {a b : PL} {o : Option (PL)} (h : Is4 a o) (e : ∀ p, p ∈ a ↔ p ∈ b) : Is4 b o := by
 rcases h with ⟨h1, h2⟩ | ⟨q0, q1, q2, q3, h1, m0, m1, m2, m3, hb⟩
 ·refine .inl ⟨h1, ?_⟩
  cases b with
  | nil => rfl
  | cons p ps =>
   have := (e p).mpr List.mem_cons_self
   rw [h2] at this
   cases this
 ·exact .inr ⟨q0, q1, q2, q3, h1, (e _).mp m0, (e _).mp m1, (e _).mp m2, (e _).mp m3, fun p hp => hb p ((e p).mpr hp)⟩
theorem Is4.uniqueD {cv : PL} {o o' : Option (PL)} (ha : ∀ p ∈ cv, ∀ q ∈ cv, p.1 = q.1 → p = q) (h : Is4 cv o) (g : Is4 cv o') : o = o' := by
 rcases h with ⟨e, hc⟩ | ⟨q0, q1, q2, q3, e, m0, m1, m2, m3, hb⟩
 ·rcases g with ⟨e', _⟩ | ⟨r0, r1, r2, r3, e', n0, _⟩
  ·rw [e, e']
  ·rw [hc] at n0; cases n0
 ·rcases g with ⟨e', hc⟩ | ⟨r0, r1, r2, r3, e', n0, n1, n2, n3, gb⟩
  ·rw [hc] at m0; cases m0
  ·have a0 := hb r0 n0
   have a1 := hb r1 n1
   have a2 := hb r2 n2
   have a3 := hb r3 n3
   have b0 := gb q0 m0
   have b1 := gb q1 m1
   have b2 := gb q2 m2
   have b3 := gb q3 m3
   have e0 : q0 = r0 := ha _ m0 _ n0 (by omega)
   have e1 : q1 = r1 := ha _ m1 _ n1 (by omega)
   have e2 : q2 = r2 := ha _ m2 _ n2 (by omega)
   have e3 : q3 = r3 := ha _ m3 _ n3 (by omega)
   rw [e, e', e0, e1, e2, e3]
theorem Is4.one (p : Int × Int) : Is4 [p] (some [p, p, p, p]) := .inr ⟨p, p, p, p, rfl, List.mem_cons_self, List.mem_cons_self, List.mem_cons_self, List.mem_cons_self, fun q hq => by
 rw [List.mem_singleton.mp hq]
 exact ⟨Int.le_refl _, Int.le_refl _, .inr ⟨rfl, Int.le_refl _⟩, .inr ⟨rfl, Int.le_refl _⟩⟩⟩
def inS (sm : PL) (l : Nat) (s : Int) : PL := ZCS sm (s * 2 ^ l) (s * 2 ^ l + 2 ^ l)
theorem ZDP {sm : PL} {l : Nat} {s : Int} {p : Int × Int} : p ∈ inS sm l s ↔ p ∈ sm ∧ p.1 / 2 ^ l = s := by
 unfold inS
 rw [ZCE]
 have := ZOR (b := 0) (t := p.1) (i := s) (ZCr l)
 rw [Int.sub_zero, Int.zero_add] at this
 rw [this]
theorem ZIT (x : Int) (l : Nat) : x / 2 ^ (l + 1) = x / 2 ^ l / 2 := by
 rw [Int.pow_succ, ← Int.ediv_ediv_of_nonneg (Int.le_of_lt (ZCr l))]
theorem ZMl {sm : PL} {l : Nat} {s : Int} {p : Int × Int} : p ∈ inS sm l (2 * s) ++ inS sm l (2 * s + 1) ↔ p ∈ inS sm (l + 1) s := by
 rw [List.mem_append, ZDP, ZDP, ZDP, ZIT]
 constructor
 ·rintro (⟨h1, h2⟩ | ⟨h1, h2⟩)
  ·exact ⟨h1, by omega⟩
  ·exact ⟨h1, by omega⟩
 ·rintro ⟨h1, h2⟩
  have : p.1 / 2 ^ l = 2 * s ∨ p.1 / 2 ^ l = 2 * s + 1 := by omega
  rcases this with h | h
  ·exact .inl ⟨h1, h⟩
  ·exact .inr ⟨h1, h⟩
theorem ZQB {sm : PL} {l : Nat} {a b : Int} (hab : a < b) : ∀ p ∈ inS sm l a, ∀ q ∈ inS sm l b, p.1 < q.1 := by
 intro p hp q hq
 have h1 := (ZDP.mp hp).2
 have h2 := (ZDP.mp hq).2
 by_cases h : p.1 < q.1
 ·exact h
 ·have := Int.ediv_le_ediv (ZCr l) (show q.1 ≤ p.1 by omega)
  omega
theorem ZJ4 {sm : PL} {b x e : Int} (h1 : b ≤ x) (h2 : x ≤ e) (p : Int × Int) : p ∈ ZCS sm b x ++ ZCS sm x e ↔ p ∈ ZCS sm b e := by
 rw [List.mem_append, ZCE, ZCE, ZCE]
 constructor
 ·rintro (⟨g1, g2, g3⟩ | ⟨g1, g2, g3⟩)
  ·exact ⟨g1, g2, by omega⟩
  ·exact ⟨g1, by omega, g3⟩
 ·rintro ⟨g1, g2, g3⟩
  by_cases h : p.1 < x
  ·exact .inl ⟨g1, g2, h⟩
  ·exact .inr ⟨g1, by omega, g3⟩
theorem ZMm {sm : PL} {b x e : Int} : ∀ p ∈ ZCS sm b x, ∀ q ∈ ZCS sm x e, p.1 < q.1 := by
 intro p hp q hq
 have h1 := (ZCE.mp hp).2
 have h2 := (ZCE.mp hq).2
 omega
theorem ZCl {m : PL} (hn : (m.map (·.1)).Nodup) {t h : Int} {q : Int × Int} : q ∈ ZCL m t h ↔ (q.1 ≠ t ∧ q ∈ m) ∨ q = (t, h) := by
 obtain ⟨a, b⟩ := q
 rw [← ZDL (ZDV hn), ZMV, ← ZDL hn]
 by_cases e : a = t
 ·subst e
  simp only [if_true, Option.some.injEq, ne_eq, not_true_eq_false, false_and, false_or, Prod.mk.injEq, true_and]
  exact eq_comm
 ·simp [e]
def kOf (l : Nat) (s : Int) : List Key := [Sum.inl (l : Int), Sum.inl s]
theorem ZOS {l l' : Nat} {s s' : Int} (h : kOf l s = kOf l' s') : l = l' ∧ s = s' := by
 unfold kOf at h
 simp only [List.cons.injEq, Sum.inl.injEq, and_true] at h
 exact ⟨by omega, h.2⟩
def ZCm (H : Hp) (kvs : List (List Key × V)) (sm : PL) (G : Nat → Int → Prop) : Prop := ∀ (l : Nat) (s : Int), l ≤ 40 → G l s → ∃ o, ZBs H ((ZCW kvs (kOf l s)).getD .non) o ∧ Is4 (inS sm l s) o
theorem ZCm.same {H H' : Hp} {kvs : List (List Key × V)} {sm : PL} {G : Nat → Int → Prop} (h : ZCm H kvs sm G) (s : ZBd H H') : ZCm H' kvs sm G := fun l s' hl g => by
 obtain ⟨o, h1, h2⟩ := h l s' hl g
 exact ⟨o, h1.same s, h2⟩
theorem PrT.kpX {H H' : Hp} {a d : Addr} {cv : PL} {ob : HO} (h : PrT H a cv) (k : Kp d H H') (hd : H d = some ob) (hn : ∀ xs, ob ≠ .tup xs) : PrT H' a cv := by
 obtain ⟨us, g, p⟩ := h
 have ne : ∀ {b : Addr} {xs : List V}, H b = some (.tup xs) → H' b = some (.tup xs) := fun {b xs} e => k _ _ e fun z => by
  subst z
  rw [hd] at e
  exact hn _ (Option.some.inj e)
 exact ⟨us, ne g, Paired.mapP p fun _ _ ⟨a, e, z⟩ => ⟨a, e, ne z⟩⟩
theorem ZBs.kpX {H H' : Hp} {d : Addr} {v : V} {o : Option (PL)} {ob : HO} (h : ZBs H v o) (k : Kp d H H') (hd : H d = some ob) (hn : ∀ xs, ob ≠ .tup xs) : ZBs H' v o := by
 cases h with
 | non => exact .non
 | pr e hl => exact .pr (e.kpX k hd hn) hl
theorem ZCm.kpX {H H' : Hp} {kvs : List (List Key × V)} {sm : PL} {G : Nat → Int → Prop} {d : Addr} {ob : HO} (h : ZCm H kvs sm G) (k : Kp d H H') (hd : H d = some ob) (hn : ∀ xs, ob ≠ .tup xs) : ZCm H' kvs sm G := fun l s' hl g => by
 obtain ⟨o, h1, h2⟩ := h l s' hl g
 exact ⟨o, h1.kpX k hd hn, h2⟩
theorem ZCm.other {H : Hp} {kvs : List (List Key × V)} {sm sm' : PL} {t : Int} (h : ZCm H kvs sm fun _ _ => True) (e : ∀ q : Int × Int, q.1 ≠ t → (q ∈ sm ↔ q ∈ sm')) : ZCm H kvs sm' fun l s => s ≠ t / 2 ^ l := fun l s hl g => by
 obtain ⟨o, h1, h2⟩ := h l s hl trivial
 refine ⟨o, h1, h2.congr fun p => ?_⟩
 rw [ZDP, ZDP]
 constructor
 ·rintro ⟨g1, g2⟩
  exact ⟨(e p fun z => g (by rw [← g2, z])).mp g1, g2⟩
 ·rintro ⟨g1, g2⟩
  exact ⟨(e p fun z => g (by rw [← g2, z])).mpr g1, g2⟩
theorem ZCm.put {H' : Hp} {kvs : List (List Key × V)} {sm : PL} {G : Nat → Int → Prop} {t : Int} {i : Nat} {v : V} {o : Option (PL)} (h : ZCm H' kvs sm G) (hv : ZBs H' v o) (ho : Is4 (inS sm i (t / 2 ^ i)) o) :
  ZCm H' (ZCH kvs (kOf i (t / 2 ^ i)) v) sm fun l s => G l s ∨ (l = i ∧ s = t / 2 ^ l) := fun l s hl g => by
 by_cases e : kOf l s = kOf i (t / 2 ^ i)
 ·obtain ⟨rfl, rfl⟩ := ZOS e
  refine ⟨o, ?_, ho⟩
  rw [ZFu, if_pos rfl]
  exact hv
 ·rcases g with g | ⟨rfl, rfl⟩
  ·obtain ⟨o', h1, h2⟩ := h l s hl g
   refine ⟨o', ?_, h2⟩
   rw [ZFu, if_neg e]
   exact h1
  ·exact absurd rfl e
theorem ZCm.mono {H : Hp} {kvs : List (List Key × V)} {sm : PL} {G G' : Nat → Int → Prop} (h : ZCm H kvs sm G) (g : ∀ l s, l ≤ 40 → G' l s → G l s) : ZCm H kvs sm G' := fun l s hl hg => h l s hl (g l s hl hg)
def Eqv (m m' : PL) : Prop := ∀ q : Int × Int, q ∈ m ↔ q ∈ m'
section
variable {X : Cx} {o e : Expr} {apos cpos pos p : Pos} {td ty to : TE}
end
section
variable {K : W.Frag} {σ : St} {H : Hp} {Q : VK} {td ty : TE} {a b : Addr} {m m' : PL} {i v : Int}
end
section
variable {X : Cx} {tg : Expr}
end
section
variable {σ : St} {H : Hp}
end
section
variable {X : Cx}
end
section
variable {K : W.Frag} {H : Hp} {Q : VK} {p q : Addr} {xs : List V}
end
section
variable {K : W.Frag} {H : Hp} {Q : VK} {a b : Addr} {l m : List Int}
end
end L2
namespace L2
end L2
namespace L2
open PySem PySem.Spec PyProof.Rows PySem.W
end L2
namespace L2
theorem ZLA {c : TT} {t u : TS} {D : ZCK} {σ : St} {H : Hp} (h : ZHZ c t u D σ H) : ZHZ c t u D σ H := h
end L2
namespace L2
open PySem PySem.Spec PyProof.Rows PySem.W
theorem ZEr (o : Option (PL)) : (ZGY o).canLay0 = true := by
 cases o with
 | none => rfl
 | some qs => exact ZEH qs
theorem ZIU (o : Option (PL)) : (ZGY o).depth ≤ 55 := by
 cases o with
 | none => show (PyData.none).depth ≤ 55; simp only [PyData.depth]; decide
 | some qs =>
  have := ZD9 qs
  show (PyData.tuple (qs.map ZCJ)).depth ≤ 55
  simp only [PyData.depth]
  omega
theorem ZIV (o o' : Option (PL)) : PyData.eqv (ZGY o) (ZGY o') = decide (o = o') := by
 cases o with
 | none =>
  cases o' with
  | none => rfl
  | some qs => rfl
 | some qs =>
  cases o' with
  | none => rfl
  | some rs =>
   show PyData.eqvAll (qs.map ZCJ) (rs.map ZCJ) = _
   rw [ZEl]
   simp only [Option.some.injEq]
theorem ZBs.dat {K : W.Frag} {H : Hp} {v : V} {o : Option (PL)} (h : ZBs H v o) : Dat K H v (ZGY o) := by
 cases h with
 | non => exact .non
 | pr h hl =>
  obtain ⟨us, g, p⟩ := h
  exact .tup (SqT.of g) p.dats
section
variable {K : W.Frag} {H : Hp} {Q : VK} {x y : V} {o o' : Option (PL)} {a b : Addr} {us ws : List V} {fs gs : List (Option (PL))}
theorem ZG8 (h : ZBs H x o) (g : ZBs H y o') (q : Q (.bl (!decide (o = o'))) H) : ZHs K x y H Q :=
 ZKl h.dat g.dat (ZEr _) (ZEr _) (Nat.le_trans (ZIU _) (by decide)) (by rw [ZIV]; exact q)
theorem ZLB (h : ZBs H x o) (g : ZBs H y o') (q : Q (.bl (decide (o = o'))) H) : ZML K x y H Q :=
 ZPy h.dat g.dat (ZEr _) (ZEr _) (Nat.le_trans (ZIU _) (by decide)) (by rw [ZIV]; exact q)
end
theorem ZLC {m m' : PL} (h : Eqv m m') (b e : Int) : ∀ p, p ∈ ZCS m b e ↔ p ∈ ZCS m' b e := fun p => by rw [ZCE, ZCE, h p]
theorem ZLD {m : PL} (n : (m.map (·.1)).Nodup) : ∀ p ∈ m, ∀ q ∈ m, p.1 = q.1 → p = q := fun p hp q hq e => by
 obtain ⟨x, y⟩ := p
 obtain ⟨z, w⟩ := q
 have e : x = z := e
 subst e
 have h1 := (ZDL n).mpr hp
 have h2 := (ZDL n).mpr hq
 rw [h1] at h2
 cases h2
 rfl
theorem ZMn {m m' : PL} {b e : Int} {o o' : Option (PL)} (hv : Eqv m m') (n : (m.map (·.1)).Nodup) (h : Is4 (ZCS m b e) o) (g : Is4 (ZCS m' b e) o') : o = o' :=
 Is4.uniqueD (fun p hp q hq => ZLD n p (ZCE.mp hp).1 q (ZCE.mp hq).1) h (g.congr fun p => (ZLC hv b e p).symm)
section
variable {X : Cx} {tg e : Expr} {te t : TE}
end
section
variable {X : Cx} {σ : St} {H : Hp} {Q : VK} {R : It → Hp → Prop} {te t : TE} {d : Addr} {m : PL}
end
section
variable {K : Type} [DecidableEq K]
variable {prog : Program} {w : World} {knd : HeapKind prog w K} {A : Around} {E : Value → Shared → Prop} {s : Shared} {d a : Addr} {k : K} {xs : List (K × Addr × Value)}
end
section
variable {X : Cx} {pins : List (Addr × Obj)} {σ : St} {H : Hp} {s : Shared} {a b : Addr} {kvs : List (List Key × V)} {k : List Key} {A : Around} {E : Value → Shared → Prop}
end
section
variable {X : Cx} {o e f : Expr} {apos cpos pos p : Pos} {td ty tx : TE}
variable {σ : St} {H : Hp} {Q : VK} {a b : Addr} {kvs : List (List Key × V)} {k : List Key} {z : V}
end
section
variable {X : Cx} {a : Expr} {ta : TA} {p p2 pos pos2 : Pos}
end
section
variable {prog : Program} {w : World} {A : Around} {E : Value → Shared → Prop} {s : Shared}
end
structure ZEs (K : Frag) (x : Str) (C : Addr) : Prop where
 a : nsIn K mainGlobals x = some (some (.ref C))
 ex : excIn K C [.type "ValueError", .type "Exception", .type "BaseException", .type "object"] "ValueError.__new__" = true
 ga : findIn K (.ref C) "__getattribute__" = some (some (.builtin "BaseException.__getattribute__"))
 gt : findIn K (.ref C) "__getattr__" = some none
 cl : findIn K (.ref C) "__class__" = some (some (.builtin "object.__class__"))
 ob : mroIn K C (.type "object") = some true
 be : mroIn K C (.type "BaseException") = some true
structure ZQr (K : Frag) (x : Str) (C : Addr) : Prop where
 a : nsIn K mainGlobals x = some (some (.ref C))
 pg : plainGet K C Str.empty = true
 hd : hasDictIn K C = true
 po : plainOver K C = true
 sa : findIn K (.ref C) "__setattr__" = some (some (.builtin "object.__setattr__"))
 mi : makesIn K C = true
 kc : keepIn K (.ref C) = true
section
variable {K : Frag} {x qual : Str} {st : Stmt} {f : Addr} {fd : FuncData}
theorem Fun.b1 {p : Str} (F : Fun K x qual st f fd) (h : ∀ (kV doc pm : Value) (an : Option Addr) (cdv ct u : Value), bindArgs (fnOf x qual (ZCT st) (ZB9 st) (ZBc st) .none kV doc pm an cdv ct) ⟨[u], []⟩ = pure ([p].zip [u])) : ZBf K fd [p] [] := F.binds fun _ _ _ _ _ _ us hl => match us, hl with | [_], _ => h _ _ _ _ _ _ _
theorem Fun.b2 {p q : Str} (F : Fun K x qual st f fd) (h : ∀ (kV doc pm : Value) (an : Option Addr) (cdv ct u v : Value), bindArgs (fnOf x qual (ZCT st) (ZB9 st) (ZBc st) .none kV doc pm an cdv ct) ⟨[u, v], []⟩ = pure ([p, q].zip [u, v])) : ZBf K fd [p, q] [] := F.binds fun _ _ _ _ _ _ us hl => match us, hl with | [_, _], _ => h _ _ _ _ _ _ _ _
theorem Fun.b3 {p q r : Str} (F : Fun K x qual st f fd) (h : ∀ (kV doc pm : Value) (an : Option Addr) (cdv ct u v y : Value), bindArgs (fnOf x qual (ZCT st) (ZB9 st) (ZBc st) .none kV doc pm an cdv ct) ⟨[u, v, y], []⟩ = pure ([p, q, r].zip [u, v, y])) : ZBf K fd [p, q, r] [] := F.binds fun _ _ _ _ _ _ us hl => match us, hl with | [_, _, _], _ => h _ _ _ _ _ _ _ _ _
theorem Fun.b4 {p q r t : Str} (F : Fun K x qual st f fd) (h : ∀ (kV doc pm : Value) (an : Option Addr) (cdv ct u v y z : Value), bindArgs (fnOf x qual (ZCT st) (ZB9 st) (ZBc st) .none kV doc pm an cdv ct) ⟨[u, v, y, z], []⟩ = pure ([p, q, r, t].zip [u, v, y, z])) : ZBf K fd [p, q, r, t] [] := F.binds fun _ _ _ _ _ _ us hl => match us, hl with | [_, _, _, _], _ => h _ _ _ _ _ _ _ _ _ _
end
section
variable {X : Cx} {o i e f value : Expr} {tpos pos apos cpos : Pos} {to ti te td ty tx : TE}
end
section
variable {K : W.Frag} {σ : St} {H : Hp} {Q : VK} {D : ZCK} {to ti te td ty tx : TE} {a p : Addr} {m : PL} {i : Int}
end
section
variable {X : Cx} {e : Expr} {pos : Pos} {te : TE}
end
section
variable {X : Cx} {k : Nat} {f C : Addr} {fd : FuncData} {ps : List Str} {sp : Sp} {dvs : List V} {ds : List Value} {E : XK} {x : Str} {p pos p1 : Pos} {e : Expr} {es : List Expr} {t : TA} {u : TX} {body : List Stmt}
end
theorem ZHL : fillsNumberSlot (.type "tuple") "mul" = pure false :=
 PySem.fillsNumberSlot_seq (id := "tuple.__mul__") (r := some (.builtin "tuple.__rmul__")) F.slot_tuple_mul.lookup (by decide +kernel) F.slot_tuple_rmul.lookup (by decide +kernel)
theorem ZIW : seqRepeat? (.type "tuple") = pure (some (.builtin "tuple.__mul__")) := by
 unfold seqRepeat?
 rw [PySem.seqSlot_of (T := "tuple") (name := "__mul__") (id := "tuple.__mul__") F.slot_tuple_mul.lookup (by decide +kernel), PySem.seqSlot_of (T := "tuple") (name := "__rmul__") (id := "tuple.__rmul__") F.slot_tuple_rmul.lookup (by decide +kernel)]
 rfl
theorem ZGq (a : Int) (t : Tok) (l : Addr) (items : Array Value) (n : Nat) (dd : Option Addr) (sl : Array (Option Value)) :
  Meets (Builtin.«int.__rmul__» ⟨[.int a t, .ref l], []⟩) (fun _ R s => s.heap.get? l = some { cls := .type "tuple", dict := dd, data := .seq items n, slots := sl } ∧ R (.ok (.ret Value.notImplemented)) s) :=
 .of_wp fun prog w A R s h => by obtain ⟨hp, g, d, tk, os⟩ := s; obtain ⟨hl, h⟩ := h; wp_walk; exact ⟨_, rfl, h⟩
theorem ZJ5 (l : Addr) (v : Value) (n : Nat) (u : Tok) (dd : Option Addr) (sl : Array (Option Value)) :
  Meets (Builtin.«tuple.__mul__» ⟨[.ref l, .int 4 u], []⟩) (fun _ R s => s.heap.get? l = some { cls := .type "tuple", dict := dd, data := .seq #[v] n, slots := sl } ∧ R (.ok (.ret (Value.ref s.heap.objs.size))) { s with heap := s.heap.push { cls := Value.type "tuple", data := Data.seq #[v, v, v, v] }, toks := s.toks }) :=
 .of_wp fun prog w A R s h => by
  obtain ⟨hp, g, d, tk, os⟩ := s; obtain ⟨hl, h⟩ := h
  have f1 := AutoSeq1.idx_int
  show wpAny _ _ (asIndex (.int 4 u) >>= _) _ _ _
  wp_walk using wpAny_loadPart' hl
  exact ⟨_, rfl, h⟩
section
variable {X : Cx}
def ZNG : R2 := fun x y H Q => ∃ l v, x = .ref l ∧ y = .int 4 ∧ H l = some (.tup [v]) ∧ ∀ p, H p = none → Q (.ref p) (upd H p (.tup [v, v, v, v]))
theorem ZOT : OpR X (binaryOp .Mult) ZNG := by
 intro pins s σ H x y v u Q I rx ry h
 obtain ⟨l, z, rfl, rfl, hH, q⟩ := h
 cases rx
 obtain ⟨t, rfl⟩ := ry
 obtain ⟨its, r1, ⟨⟨cls, dd, dt, sl⟩, e, hc, n, hd⟩, _⟩ := I.tuple (SqT.of hH)
 obtain ⟨z', rfl, rz⟩ := ZEe r1
 cases hc
 cases hd
 refine wpAny_binaryOp_repeat_ref (T := "tuple") (U := "int") (by decide) ⟨_, e, rfl⟩ (fun s' => typeIs_int s' 4 t) ZHL F.fills_int_mul F.slot_int_rmul ZIW F.slot_int_index.lookup
  (call_meets F.slot_int_rmul (typeIs_int s 4 t) F.entry_int_rmul (F.args_int_rmul_2 _ _) (ZGq 4 t l _ n dd sl)
   ⟨e, rfl, ⟨_, e, rfl⟩, call_meets F.slot_tuple_mul ⟨_, e, rfl⟩ F.entry_tuple_mul (F.args_tuple_mul_2 _ _) (ZJ5 l _ n t dd sl) ⟨e, ?_⟩⟩)
 refine ⟨.ref s.heap.objs.size, _, I.laid (t' := s.toks) (o := .tup [z, z, z, z]) (fun b ob q => Heap.get?_push_of_some _ q) (Nat.le_refl _) ?_, rfl, q _ (I.hok.fresh (Nat.le_refl _))⟩
 exact ⟨⟨by show 4 ≤ sizeLine; decide, fun _ => ⟨_, Heap.get?_push_size _ rfl, rfl, rfl⟩⟩, [z', z', z', z'], .cons rz (.cons rz (.cons rz (.cons rz .nil))), IsTup.new _ _⟩
theorem ZOU {H : Hp} {Q : VK} {l : Addr} {v : V} (h : H l = some (.tup [v])) (k : ∀ p H2, H p = none → H2 p = some (.tup [v, v, v, v]) → ZBd H H2 → Q (.ref p) H2) : ZNG (.ref l) (.int 4) H Q := ⟨l, v, rfl, rfl, h, fun p hp => k p _ hp ZBg (ZBd.new hp)⟩
def ZLE (K : W.Frag) : List V → Hp → VK → Prop := fun xs H Q => ZGh K xs H Q ∨ ZFz K xs H Q
theorem ZMo (K : W.Frag) (hK : X.K = K) (hc : X.calm = true) : ZBy X (.type "dict") (ZLE K) := by
 intro pins s σ H xs us Q I r h
 rcases h with h | h
 ·exact ZOA K hK hc pins s σ H xs us Q I r h
 ·exact ZMZ K hK hc pins s σ H xs us Q I r h
end
end L2
namespace My
open PySem L2
theorem ZCM {N P : List Str} {sc : Scope} (a : sc.kind = .function := by rfl) (b : sc.isCoroutine = false := by rfl) (c : sc.isGenerator = false := by rfl) (d : N.Nodup := by decide +kernel) (e : N.take P.length = P := by rfl) (f : ∀ x ∈ P, sc.names.lookup x = some .local ∨ sc.names.lookup x = some .cell := by decide +kernel) (g : ∀ y ∈ sc.names, y.2 ≠ .free := by decide +kernel) : ZBl N P sc := ⟨a, b, c, d, e, f, g⟩
theorem qsS {X : Cx} {x : Str} {e : Expr} {te : TE} {pos pos' : Pos} {i : Nat} (hN : X.N.Nodup) (he : QE X e te) (hi : X.N[i]? = some x := by rfl) (hx : Loc X.env.scope x := by first | exact Or.inl rfl | exact Or.inr rfl) (hs : ZCz e = false := by rfl) (hf : X.fn x = true ∨ X.env.scope.names.lookup x = some .local := by first | exact .inl rfl | exact .inr rfl | assumption) : QS X (.Assign [.Name x pos'] e pos) (ZFr te (ZEG i)) := ZN6 hN hi hx he hs hf
theorem qgN {X : Cx} {x : Str} {pos : Pos} {i : Nat} (hN : X.N.Nodup) (hi : X.N[i]? = some x := by rfl) (hx : Loc X.env.scope x := by first | exact Or.inl rfl | exact Or.inr rfl) (hf : X.fn x = true ∨ X.env.scope.names.lookup x = some .local := by first | exact .inl rfl | exact .inr rfl | assumption) : QG X (.Name x pos) (ZEG i) := ZDN hN hi hx hf
theorem qcS {X : Cx} {e : Expr} {es : List Expr} {t : TA} {pos p : Pos} {x : Str} {k : Nat} {f : Addr} {fd : FuncData} {ps : List Str} {sp : Sp} (F : ZBh X.prog X.w X.K X.mg X.base CX0 k f fd ps sp) (hr : Room k X.A) (hm : X.mg x = some (.ref f)) (hk : W.keepIn X.K (.ref f) = true) (hb : ZBf X.K fd ps []) (ha : QA X (e :: es) t) (hg : Gl X x := by rfl) (hns : ZCA (e :: es) = true := by rfl) (hdb : (x == ("__debug__" : Str)) = false := by decide) : QE X (.Call (.Name x p) (e :: es) [] pos) (ZGL sp [] E0 t) := ZDJ F hr hg hm hk hb .nil ZC3 ha hns hdb
theorem _root_.L2.Room.m {j k : Nat} {A : Around} (r : Room k A) (h : j ≤ k := by decide) : Room j A := r.mono h
local macro_rules | `(tactic| walk_at "l") => `(tactic| (intro vs H Q E h; (repeat (obtain ⟨_, h⟩ := h)); all_goals (subst_vars; rfl)))
local macro_rules | `(tactic| walk_at "w") => `(tactic| repeat walk_at "rd")
local macro_rules | `(tactic| walk_at "s") => `(tactic| simp only [L2.start, List.length_cons, List.length_nil, List.map_cons, List.map_nil, Nat.reduceAdd, Nat.reduceSub, List.replicate_succ, List.replicate_zero, List.cons_append, List.nil_append])
local macro_rules | `(tactic| walk_at "o") => `(tactic| first | exact Or.inl rfl | exact Or.inr rfl)
def top (i : Nat) : Stmt := PySem.Challenge.pw_fourpoints_k54_beyond_tree_times.main.body.getD i (.Pass ⟨0, 0, 0, 0⟩)
abbrev ZJL : Stmt := top 0
abbrev ZEt : Stmt := top 12
abbrev ZDw : Stmt := top 14
abbrev ZEu : Stmt := top 16
abbrev ZDY : Stmt := top 17
abbrev ZEM : Stmt := top 19
abbrev ZFJ : Stmt := top 20
abbrev ZF5 : Stmt := top 21
abbrev ZEN : Stmt := top 25
abbrev ZDZ : Stmt := top 26
abbrev ZEA : Stmt := top 27
abbrev ZDh : Stmt := top 28
abbrev ZEO : Stmt := top 29
abbrev ZFK : Stmt := top 30
abbrev ZB7 : Stmt := ZDf (top 31) 0
abbrev ZEv : Stmt := ZDf (top 31) 1
abbrev ZFl : Stmt := ZDf (top 31) 2
abbrev ZEB : Stmt := ZDf (top 31) 3
abbrev ZEP : Stmt := ZDf (top 31) 4
abbrev ZDa : Stmt := ZDf (top 31) 5
abbrev ZEQ : Stmt := ZDf (top 31) 6
abbrev ZF6 : Stmt := top 33
abbrev ZGr : Stmt := top 34
abbrev ZF7 : Stmt := top 35
abbrev ZEw : Stmt := top 36
abbrev ZGs : Stmt := top 37
abbrev ZER : Stmt := top 38
abbrev ZEI : Stmt := top 39
abbrev ZF8 : Stmt := top 40
abbrev ZES : Stmt := top 41
abbrev ZET : Stmt := top 42
abbrev ZC4 : Stmt := top 43
abbrev ZDC : Stmt := top 44
set_option genInjectivity false in
set_option genSizeOf false in
set_option genSizeOfSpec false in
structure Ad where
 ZAg : Addr
 ZAd : FuncData
 Y9 : Addr
 JJ : FuncData
 JF : Addr
 JI : FuncData
 JH : Addr
 JA : FuncData
 Yi : Addr
 Yk : FuncData
 Yu : Addr
 Yr : FuncData
 JM : Addr
 JW : FuncData
 Jq : Addr
 Ji : FuncData
 Y4 : Addr
 Yy : FuncData
 Zm : Addr
 Zp : FuncData
 YE : Addr
 Z6 : FuncData
 Zs : Addr
 Zr : FuncData
 YV : Addr
 YW : FuncData
 JT : Addr
 JL : FuncData
 Zl : Addr
 ZQ : FuncData
 YF : Addr
 Z9 : FuncData
 Jd : Addr
 Jc : FuncData
 Yn : Addr
 Yl : FuncData
 YX : Addr
 YY : FuncData
 YJ : Addr
 YB : FuncData
 Yt : Addr
 Y2 : FuncData
 Jl : Addr
 Jr : FuncData
 J9 : Addr
 J8 : FuncData
 Jh : Addr
 Jo : FuncData
 JB : Addr
 JG : FuncData
 ZAA : Addr
 J7 : FuncData
 Yw : Addr
 Y3 : FuncData
 JV : Addr
 JR : FuncData
 Jj : Addr
 Jk : FuncData
 Yx : Addr
 Ys : FuncData
 Y1 : Addr
 Y0 : FuncData
 YA : Addr
 Z7 : FuncData
 ZAp : Addr
 ZAk : FuncData
 ZC : Addr
 ZD : Addr
 ZM : Addr
 ZB : Addr
 ZL : Addr
 ZA : Addr
 ZG : Addr
 ZK : Addr
 ZN : Addr
 ZH : Addr
 ZAa : Tok
 ZAT : Tok
structure Txt (K : W.Frag) (mg : Str → Option Value) (a : Ad) : Prop where
 ZBS : Fun K "_wall" "_wall" ZJL a.ZAg a.ZAd
 ZBT : ZBf K a.ZAd ["k"] []
 ZBR : mg "_wall" = some (.ref a.ZAg)
 Y8 : Fun K "is_whole" "is_whole" ZEt a.Y9 a.JJ
 Jt : ZBf K a.JJ ["thing"] []
 J5 : mg "is_whole" = some (.ref a.Y9)
 Jz : Fun K "curve_of" "curve_of" ZDw a.JF a.JI
 ZAu : ZBf K a.JI ["samples"] []
 ZAs : mg "curve_of" = some (.ref a.JF)
 Js : Fun K "times_of" "times_of" ZEu a.JH a.JA
 ZAl : ZBf K a.JA ["window", "k"] []
 ZAt : mg "times_of" = some (.ref a.JH)
 JS : Fun K "columns_of" "columns_of" ZDY a.Yi a.Yk
 ZAO : ZBf K a.Yk ["window"] []
 ZAL : mg "columns_of" = some (.ref a.Yi)
 Zy : Fun K "height_of" "height_of" ZEM a.Yu a.Yr
 Zi : ZBf K a.Yr ["sample"] []
 Zf : mg "height_of" = some (.ref a.Yu)
 ZAC : Fun K "four_of" "four_of" ZFJ a.JM a.JW
 ZAx : ZBf K a.JW ["curve"] []
 ZAz : mg "four_of" = some (.ref a.JM)
 Jn : Fun K "joined" "joined" ZF5 a.Jq a.Ji
 ZAJ : ZBf K a.Ji ["one", "other"] []
 ZAM : mg "joined" = some (.ref a.Jq)
 ZT : Fun K "is_border" "is_border" ZEN a.Y4 a.Yy
 Ze : ZBf K a.Yy ["thing"] []
 Zg : mg "is_border" = some (.ref a.Y4)
 ZP : Fun K "check_borders" "check_borders" ZDZ a.Zm a.Zp
 Zo : ZBf K a.Zp ["begin", "end"] []
 Zn : mg "check_borders" = some (.ref a.Zm)
 YG : Fun K "check_time" "check_time" ZEA a.YE a.Z6
 JK : ZBf K a.Z6 ["t"] []
 JQ : mg "check_time" = some (.ref a.YE)
 Zq : Fun K "check_window" "check_window" ZDh a.Zs a.Zr
 Y5 : ZBf K a.Zr ["window"] []
 Y6 : mg "check_window" = some (.ref a.Zs)
 Zw : Fun K "stretches" "stretches" ZEO a.YV a.YW
 Yv : ZBf K a.YW ["begin", "end"] []
 Yz : mg "stretches" = some (.ref a.YV)
 ZAE : Fun K "longest" "longest" ZFK a.JT a.JL
 ZAy : ZBf K a.JL ["first", "end"] []
 ZAw : mg "longest" = some (.ref a.JT)
 Yq : ZGl K "__init__" "Tree.__init__" ZB7 a.Zl a.ZQ
 Yo : ZBf K a.ZQ ["self", "curve"] []
 ZA3 : ZBf K a.ZQ ["self", "curve"] [Value.none]
 ZA7 : ZOJ K a.ZQ ["self", "curve"] "curve"
 Jy : Fun K "put" "Tree.put" ZEv a.YF a.Z9
 YI : ZBf K a.Z9 ["self", "t", "h"] []
 YC : ZD3 K a.ZC "put" a.YF
 ZBA : Fun K "take" "Tree.take" ZFl a.Jd a.Jc
 ZA9 : ZBf K a.Jc ["self", "t"] []
 ZBB : ZD3 K a.ZC "take" a.Jd
 ZAI : Fun K "renew" "Tree.renew" ZEB a.Yn a.Yl
 ZAR : ZBf K a.Yl ["self", "t", "four"] []
 ZAN : ZD3 K a.ZC "renew" a.Yn
 Ja : Fun K "four" "Tree.four" ZEP a.YX a.YY
 Zz : ZBf K a.YY ["self", "begin", "end"] []
 Z0 : ZD3 K a.ZC "four" a.YX
 JU : Fun K "fours" "Tree.fours" ZDa a.YJ a.YB
 Ym : ZBf K a.YB ["self", "window"] []
 Yj : ZD3 K a.ZC "fours" a.YJ
 ZAV : Fun K "told" "Tree.told" ZEQ a.Yt a.Y2
 Jf : ZBf K a.Y2 ["self"] []
 Jg : ZD3 K a.ZC "told" a.Yt
 JE : Fun K "_law_cell" "_law_cell" ZF6 a.Jl a.Jr
 Jp : ZBf K a.Jr ["_law_script", "_law_k"] []
 Jm : mg "_law_cell" = some (.ref a.Jl)
 J6 : Fun K "_law_pot" "_law_pot" ZGr a.J9 a.J8
 ZAh : ZBf K a.J8 ["_law_cell_here"] []
 ZAe : mg "_law_pot" = some (.ref a.J9)
 ZF : Fun K "_law_take" "_law_take" ZF7 a.Jh a.Jo
 ZJ : ZBf K a.Jo ["_law_pot_here", "_law_many"] []
 ZI : mg "_law_take" = some (.ref a.Jh)
 Ju : Fun K "_law_number" "_law_number" ZEw a.JB a.JG
 ZAj : ZBf K a.JG ["_law_pot_here"] []
 ZAo : mg "_law_number" = some (.ref a.JB)
 ZAB : Fun K "_law_end" "_law_end" ZGs a.ZAA a.J7
 ZAb : ZBf K a.J7 ["_law_pot_here"] []
 ZAc : mg "_law_end" = some (.ref a.ZAA)
 Jb : Fun K "_law_samples" "_law_samples" ZER a.Yw a.Y3
 ZAZ : ZBf K a.Y3 ["_law_script"] []
 ZAW : mg "_law_samples" = some (.ref a.Yw)
 JN : Fun K "_law_curve" "_law_curve" ZEI a.JV a.JR
 ZAD : ZBf K a.JR ["_law_samples_here"] []
 ZAF : mg "_law_curve" = some (.ref a.JV)
 ZAK : Fun K "_law_deed" "_law_deed" ZF8 a.Jj a.Jk
 ZA6 : ZBf K a.Jk ["_law_tree", "_law_way", "_law_one", "_law_other"] []
 ZA8 : mg "_law_deed" = some (.ref a.Jj)
 Zh : Fun K "_law_refused" "_law_refused" ZES a.Yx a.Ys
 Zx : ZBf K a.Ys ["_law_tree", "_law_way", "_law_one", "_law_other"] []
 Zv : mg "_law_refused" = some (.ref a.Yx)
 Je : Fun K "_law_windows" "_law_windows" ZET a.Y1 a.Y0
 ZAY : ZBf K a.Y0 ["_law_pot_here", "_law_far"] []
 ZAU : mg "_law_windows" = some (.ref a.Y1)
 Yp : Fun K "_law_all_refused" "_law_all_refused" ZC4 a.YA a.Z7
 Jx : ZBf K a.Z7 ["_law_tree", "_law_curve_here", "_law_pot_here"] []
 Jw : mg "_law_all_refused" = some (.ref a.YA)
 ZBH : Fun K "law" "law" ZDC a.ZAp a.ZAk
 ZBU : ZBf K a.ZAk ["_law_script"] []
 ZBV : mg "law" = some (.ref a.ZAp)
 ZE : Cls K a.ZC
 ZA1 : mg "Tree" = some (.ref a.ZC)
 ZAf : Mk K a.ZC a.Zl
 ZR : ZCd K a.ZC "looks"
 Zt : ZCd K a.ZC "samples"
 ZU : ZCd K a.ZC "kept_fours"
 JY : ZC2 K a.ZD
 ZA2 : ZCq K a.ZD
 JZ : mg "FourPointsError" = some (.ref a.ZD)
 ZBO : ZC2 K a.ZM
 ZBN : ZCq K a.ZM
 ZA4 : mg "NoText" = some (.ref a.ZM)
 ZBI : ZC2 K a.ZB
 ZBG : ZCq K a.ZB
 ZAr : mg "NoColumn" = some (.ref a.ZB)
 ZBK : ZC2 K a.ZL
 ZBL : ZCq K a.ZL
 ZAv : mg "NotHalf" = some (.ref a.ZL)
 YD : ZC2 K a.ZA
 JP : ZCq K a.ZA
 Yh : mg "OutOfTimes" = some (.ref a.ZA)
 ZBD : ZC2 K a.ZG
 ZBF : ZCq K a.ZG
 ZAm : mg "NoSample" = some (.ref a.ZG)
 ZBJ : ZC2 K a.ZK
 ZBM : ZCq K a.ZK
 ZA0 : mg "NoWatch" = some (.ref a.ZK)
 ZBP : ZC2 K a.ZN
 ZBQ : ZCq K a.ZN
 ZA5 : mg "NoName" = some (.ref a.ZN)
 ZBC : ZC2 K a.ZH
 ZBE : ZCq K a.ZH
 ZAn : mg "NotApart" = some (.ref a.ZH)
 Zd : W.subIn K (.ref a.ZB) (.ref a.ZD) = some true
 Zc : W.kitOne K (.ref a.ZB) (.ref a.ZD) = some true
 Yf : W.subIn K (.ref a.ZB) (.ref a.ZM) = some false
 Yg : W.kitOne K (.ref a.ZB) (.ref a.ZM) = some false
 YK : W.subIn K (.ref a.ZB) (.ref a.ZB) = some true
 YO : W.kitOne K (.ref a.ZB) (.ref a.ZB) = some true
 Yb : W.subIn K (.ref a.ZB) (.ref a.ZL) = some false
 Ya : W.kitOne K (.ref a.ZB) (.ref a.ZL) = some false
 Z2 : W.subIn K (.ref a.ZB) (.ref a.ZA) = some false
 Z3 : W.kitOne K (.ref a.ZB) (.ref a.ZA) = some false
 YQ : W.subIn K (.ref a.ZB) (.ref a.ZG) = some false
 YN : W.kitOne K (.ref a.ZB) (.ref a.ZG) = some false
 Yc : W.subIn K (.ref a.ZB) (.ref a.ZK) = some false
 YZ : W.kitOne K (.ref a.ZB) (.ref a.ZK) = some false
 Yd : W.subIn K (.ref a.ZB) (.ref a.ZN) = some false
 Ye : W.kitOne K (.ref a.ZB) (.ref a.ZN) = some false
 YM : W.subIn K (.ref a.ZB) (.ref a.ZH) = some false
 YL : W.kitOne K (.ref a.ZB) (.ref a.ZH) = some false
 ZO : W.subIn K (.ref a.ZA) (.ref a.ZD) = some true
 ZZ : W.kitOne K (.ref a.ZA) (.ref a.ZD) = some true
 YR : W.subIn K (.ref a.ZA) (.ref a.ZM) = some false
 Zk : W.kitOne K (.ref a.ZA) (.ref a.ZM) = some false
 Z4 : W.subIn K (.ref a.ZA) (.ref a.ZB) = some false
 ZX : W.kitOne K (.ref a.ZA) (.ref a.ZB) = some false
 YH : W.subIn K (.ref a.ZA) (.ref a.ZL) = some false
 Za : W.kitOne K (.ref a.ZA) (.ref a.ZL) = some false
 Zu : W.subIn K (.ref a.ZA) (.ref a.ZA) = some true
 ZS : W.kitOne K (.ref a.ZA) (.ref a.ZA) = some true
 Z1 : W.subIn K (.ref a.ZA) (.ref a.ZG) = some false
 ZW : W.kitOne K (.ref a.ZA) (.ref a.ZG) = some false
 Z8 : W.subIn K (.ref a.ZA) (.ref a.ZK) = some false
 Zb : W.kitOne K (.ref a.ZA) (.ref a.ZK) = some false
 YS : W.subIn K (.ref a.ZA) (.ref a.ZN) = some false
 Zj : W.kitOne K (.ref a.ZA) (.ref a.ZN) = some false
 Z5 : W.subIn K (.ref a.ZA) (.ref a.ZH) = some false
 ZV : W.kitOne K (.ref a.ZA) (.ref a.ZH) = some false
 ZAX : mg "TOP_LEVEL" = some (.int 40 a.ZAa)
 YU : mg "TIMES_END" = some (.int 1099511627776 a.ZAT)
 JO : mg "ValueError" = none
 ZAG : mg "abs" = none
 ZAi : mg "all" = none
 ZAP : mg "bool" = none
 ZAS : mg "dict" = none
 Jv : mg "int" = none
 ZY : mg "isinstance" = none
 JD : mg "len" = none
 ZAQ : mg "list" = none
 ZAH : mg "max" = none
 JX : mg "min" = none
 Y7 : mg "range" = none
 JC : mg "sorted" = none
 ZAq : mg "str" = none
 YT : mg "tuple" = none
local macro_rules | `(tactic| walk_at "sd") => `(tactic| first
 | (show (0 : Int) < _; omega)
 | decide
 | exact ZQi (by omega) (by omega)
 | exact ZQj (by omega) (by omega)
 | exact ZFW.of (k := 250) (by omega) (by omega) (by decide)
 | exact Or.inr ⟨by omega, by omega⟩
 | exact Or.inl ⟨by omega, by omega⟩
 | exact ZHm (by omega) (by omega) (by decide))
local macro_rules | `(tactic| walk_at "hp") => `(tactic| first
 | assumption
 | exact ZBg
 | (rw [ZBn (by assumption)]; assumption)
 | (rw [ZBn (Ne.symm (by assumption))]; assumption)
 | (rw [ZBn (by assumption)]; rw [ZBn (by assumption)]; assumption))
local macro_rules | `(tactic| walk_at "rd") => `(tactic| first
 | with_reducible first | refine ZPU ?_ | refine ZK7 ?_ | refine ZP9 ?_ | refine ZMj ?_ | refine ZMi ?_ | refine ZQa ?_ | refine ZMS ?_ | refine ZOH ?_ | refine ZMa ?_ | refine ZJy ?_ | refine ZMb ?_ | refine ZMc ?_ | refine ZKw ?_ | refine ZKy ?_ | refine ZJ1 ?_ | refine ZIq ?_ | refine ZIr ?_ | refine ZOE ?_ | refine ZMT ?_ | refine ZMU ?_
 | ((with_reducible refine' ZP2 ?e ?_); (case e => rfl))
 | with_reducible first | refine ZPV ?_ | refine ZNl ?_ | refine ZNm ?_ | refine ZPW ?_ | refine ZMD ?_ | refine ZNn ?_ | refine ZME ?_ | refine ZNo ?_ | refine ZPX ?_ | refine ZNp ?_ | refine ZQl ?_ | refine ZPY ?_ | refine ZQS ?_ | refine ZPZ ?_ | refine ZNq ?_ | refine ZNr ?_ | refine ZQT ?_
 | ((with_reducible refine' ZPa ?e ?_); (case e => rfl))
 | with_reducible first | refine ZQm ?_ | refine ZQU ?_ | refine ZQV ?_ | refine ZQW ?_
 | ((with_reducible refine ZPb (C := ZJZ) ?c ?_); (case c => exact ZHm (by decide) (by decide) (by decide)); (simp only [Int.reduceToNat, Int.reducePow]))
 | ((with_reducible refine ZPb ?c ?_); (case c => walk_at "sd"))
 | with_reducible first | refine ZQn ?_ | refine ZPc ?_ | refine ZPd ?_ | refine ZQX ?_ | refine ZNs ?_ | refine ZNt ?_ | refine ZPe ?_ | refine ZPf ?_ | refine ZPg ?_ | refine ZMG ?_ | refine ZN2 ?_ | refine ZGf ?_ | refine ZNv ?_ | refine ZPi ?_ | refine ZPj ?_ | refine ZPk ?_ | refine ZPm ?_ | refine ZNy ?_
 | ((with_reducible refine' ZNw ?s ?_); (case s => first | assumption | exact SqL.of (by assumption)))
 | ((with_reducible refine' ZNx ?s ?_); (case s => first | assumption | exact SqT.of (by assumption)))
 | with_reducible first | refine ZPh ?_ | refine ZNu ?_ | refine ZN0 ?_ | refine ZQY ?_ | refine ZN1 ?_ | refine ZMH ?_
 | ((with_reducible refine' ZPq ?s ?_); (case s => first | assumption | exact SqT.of (by assumption)))
 | ((with_reducible refine' ZPr ?s ?_); (case s => first | assumption | exact SqL.of (by assumption)))
 | ((with_reducible refine' ZE9 ?s ?e ?_); (case s => exact SqL.of (by assumption)); (case e => rfl))
 | ((with_reducible refine' ZFA ?s ?e ?_); (case s => first | assumption | exact SqT.of (by assumption)); (case e => rfl))
 | ((with_reducible refine' ZNz ?s ?e ?_); (case s => first | assumption | exact SqT.of (by assumption)); (case e => rfl)))
local macro_rules | `(tactic| walk_at "ri") => `(tactic| ((fail_if_success with_reducible refine ZLA ?_); walk_at "rd"))
local macro_rules | `(tactic| walk_at "rd") => `(tactic| first
 | fail "none")
theorem ZLF (K : W.Frag) : W.kitOne K (.type "int") (.type "int") = some true := by kernel_rfl
theorem ZLG (K : W.Frag) : W.kitOne K (.type "NoneType") (.type "int") = some false := by kernel_rfl
theorem ZJ6 (K : W.Frag) : W.kitOne K (.type "int") (.type "bool") = some false := by kernel_rfl
section
variable {P : Program} {w : World} {K : W.Frag} {mg : Str → Option Value} {base : Heap} {a : Ad}
def ZLH (K : W.Frag) : Sp := fun vs H Q _ => ∃ (b : Bool) (l : Addr) (us : List V) (prs : PL), vs = [.ref l] ∧ SQ b H l us ∧ ZBe H us prs ∧ prs.length < 64 ∧
 ∀ (t : Addr) (cv : PL) (H' : Hp), PrT H' t cv → ZFa (ZB4 prs) cv → cv.length ≤ prs.length → ZBd H H' → Q (.ref t) H'
theorem ZEJ (l : PL) (p : Int × Int) : ZB4 (l ++ [p]) = ZCL (ZB4 l) p.1 p.2 := by
 unfold ZB4
 rw [List.foldl_append]
 rfl
theorem ZDj : ZBl ["samples", "heights", "t", "h"] ["samples"] (ZBc ZDw) := ZCM
theorem ZIt (T : Txt K mg a) : ZBh P w K mg base CX0 1 a.JF a.JI ["samples"] (ZLH K) := by
 refine T.Jz.ok ZDj (by walk_at "l") (fun cdv A outer s H vs Q E hr h => ?_)
 ·obtain ⟨b, l, us, prs, rfl, hL, hP, hlen, k⟩ := h
  have hu := ZFV hr
  have hm := ZFy prs
  refine ⟨_, QB.h (ZBZ (qsS (i := 1) ZDj.nd ZFw) (ZBZ (ZDU PassesOwn.never rfl (ZP4 K rfl (qv 0)) (ZDo (n := 2) K rfl rfl (ZB3 (qgN (i := 2) ZDj.nd) (ZB3 (qgN (i := 3) ZDj.nd) ZDO))) (ZBb (ZFZ hu (qv 3) (qv 1) (qv 2)))) (ZBb (ZBo (ZCh (ZD7 K rfl) rfl T.YT ZD5 (ZBX (ZD0 (N := ["samples", "heights", "t", "h"]) (sc := ZBc ZDw) (own := ["t"]) (caps := ["heights"]) (ks := [1]) rfl rfl rfl ⟨rfl, by decide +kernel, by decide +kernel, by decide +kernel, by decide +kernel, rfl, by decide +kernel⟩ (ZEZ K rfl (ZBz (ZGU rfl) rfl T.JC ZG1 (ZBX (qv 1) ZBY))) (fun _ _ _ _ _ => ZDN (i := 0) (show List.Nodup (α := Str) ["t", "heights"] from by decide +kernel) rfl (by walk_at "o") (.inr rfl)) (fun _ _ _ _ _ => ZD6) (fun _ _ _ _ _ => ZBq (ZBX (qv 0) (ZBX (ZJC hu (qv 1) (qv 0)) ZBY)))) ZBY)))))), ?_⟩
  walk_at "s"
  walk_at "w"
  refine ZFx fun d H0 n0 f0 S0 => ?_
  walk_at "w"
  refine ZOF (b := b) (xs := us) (fun i σ H' => (∃ v2 v3, σ = [some (.ref l), some (.ref d), v2, v3]) ∧ ZBd H H' ∧ H' d = some (.dK (ZB8 (ZB4 (prs.take i))))) (hL.same S0) ?_ (fun i σ H' _ h => hL.same h.2.1) ?_ ?_
  ·exact ⟨⟨_, _, rfl⟩, S0, f0⟩
  ·rintro i x σ H1 hx ⟨⟨v2, v3, rfl⟩, S1, f1⟩
   obtain ⟨c, p, rfl, hp, hc⟩ := (hP.same S1).at hx
   have e3 : prs.take (i + 1) = prs.take i ++ [p] := by
    rw [List.take_succ, hp]
    rfl
   walk_at "w"
   refine ZH5 f1 ?_ fun H2 f2 K2 => ?_
   ·exact Nat.lt_of_le_of_lt (ZFy _) (Nat.lt_of_le_of_lt (by rw [List.length_take]; exact Nat.min_le_right _ _) (Nat.lt_of_lt_of_le hlen (by decide)))
   walk_at "w"
   refine ⟨⟨_, _, rfl⟩, S1.kpN n0 K2, ?_⟩
   rw [e3, ZEJ]
   exact f2
  ·rintro σ H1 ⟨⟨v2, v3, rfl⟩, S1, f1⟩
   rw [hP.length, List.take_length] at f1
   walk_at "w"
   refine ZGW f1 (by omega) fun l2 H2 ns n2 f2 hp hs S2 => ?_
   have hnl : ns.length = (ZB4 prs).length := by have := hp.length_eq; simpa using this
   walk_at "w"
   intro l3 n3
   have S23 : ZBd H2 (upd H2 l3 (.lst [])) := ZBd.new n3
   refine ZDz ns.length (fun i σ' H' => (∃ o, σ' = [o, some (.ref d)]) ∧ ZBd H2 H' ∧ ∃ vs, H' l3 = some (.lst vs) ∧ ZBe H' vs ((ZCB (ZB4 prs) ns).take i)) ?_ ?_ ?_
   ·exact ⟨⟨none, rfl⟩, S23, [], ZBg, .nil⟩
   ·rintro σ H' ⟨_, s, vs, f3, hPc⟩
    refine ⟨⟨_, SqL.of (s _ _ f2), by simp⟩, ?_⟩
    walk_at "w"
    refine ZEX (SqL.of f3) fun t H4 n4 f4 S4 => ?_
    have ecv : (ZCB (ZB4 prs) ns).take ns.length = ZCB (ZB4 prs) ns := List.take_of_length_le (by simp [ZCB])
    rw [ecv] at hPc
    exact k t _ H4 ⟨vs, f4, hPc.same S4⟩ (ZGX (ZCw prs) hp hs) (by unfold ZCB; rw [List.length_map, hnl]; exact hm) (((S1.trans S2).trans s).trans S4)
   ·rintro i σ H' hi ⟨⟨o, rfl⟩, s, vs, f3, hPc⟩
    have hi2 : i < (ns.map V.int).length := by simpa using hi
    refine ⟨⟨_, _, SqL.of (s _ _ f2), List.getElem?_eq_getElem hi2⟩, ?_⟩
    rintro u H'' ⟨rfl, hu'⟩
    have hu' := hu' _ (SqL.of (s _ _ f2))
    have eu : u = .int ns[i] := by
     rw [List.getElem?_map, List.getElem?_eq_getElem hi] at hu'
     simpa using hu'.symm
    subst eu
    walk_at "w"
    refine ZDR ?_
    walk_at "w"
    have hmem : ns[i] ∈ (ZB4 prs).map (·.1) := hp.mem_iff.mp (List.getElem_mem hi)
    obtain ⟨x, hx⟩ : ∃ x, ZCQ (ZB4 prs) ns[i] = some x := by
     cases hg : ZCQ (ZB4 prs) ns[i] with
     | none => exact absurd hmem (ZDq.mp hg)
     | some x => exact ⟨x, rfl⟩
    refine ZH4 (s _ _ (S2 _ _ f1)) hx ?_
    walk_at "w"
    refine ZBk (by show 2 ≤ sizeLine; decide) fun t H4 n4 f4 S4 => ?_
    have f34 := S4 _ _ f3
    refine ⟨vs, f34, ?_, ⟨_, rfl⟩, ?_, ?_⟩
    ·have e := hPc.length
     rw [e, List.length_take]
     exact Nat.lt_of_le_of_lt (Nat.min_le_left _ _) (Nat.lt_of_lt_of_le hi (by rw [hnl]; exact Nat.le_of_lt (Nat.lt_of_le_of_lt hm (Nat.lt_of_lt_of_le hlen (by decide)))))
    ·exact (s.trans S4).kpN (l := l3) n3 Kp.upd
    ·refine ⟨_, ZBg, ?_⟩
     have e3 : (ZCB (ZB4 prs) ns).take (i + 1) = (ZCB (ZB4 prs) ns).take i ++ [(ns[i], x)] := by
      rw [List.take_succ]
      congr 1
      simp [ZCB, List.getElem?_eq_getElem hi, hx]
     rw [e3]
     exact ZBe.kpL Kp.upd f34 ((hPc.same S4).snoc f4)
end
section
variable {P : Program} {w : World} {K : W.Frag} {mg : Str → Option Value} {base : Heap} {a : Ad}
def ZIX : Sp := fun vs H Q _ => ∃ (c : Addr) (x y : Int), vs = [.ref c] ∧ H c = some (.tup [.int x, .int y]) ∧ Q (.int y) H
theorem ZIY : ZBl ["sample"] ["sample"] (ZBc ZEM) := ZCM
theorem ZCs (T : Txt K mg a) : ZBh P w K mg base CX0 1 a.Yu a.Yr ["sample"] ZIX := by
 refine T.Zy.ok ZIY (by walk_at "l") (fun cdv A outer s H vs Q E hr h => ?_)
 ·obtain ⟨c, x, y, rfl, hc, q⟩ := h
  refine ⟨_, QB.h (ZBb (ZBo (ZCC (ZCP K rfl) (qv 0) ZBW))), ?_⟩
  walk_at "s"
  walk_at "w"
  exact q
end
section
variable {P : Program} {w : World} {K : W.Frag} {mg : Str → Option Value} {base : Heap} {a : Ad}
def ZMp (K : W.Frag) : Sp := fun vs H Q _ => ∃ (v1 v2 : V) (o1 o2 : Option (PL)) (c1 c2 : PL), vs = [v1, v2] ∧ ZBs H v1 o1 ∧ Is4 c1 o1 ∧ ZBs H v2 o2 ∧ Is4 c2 o2 ∧ (∀ p ∈ c1, ∀ q ∈ c2, p.1 < q.1) ∧
 ∀ (v : V) (o : Option (PL)) (H' : Hp), ZBs H' v o → Is4 (c1 ++ c2) o → ZBd H H' → Q v H'
theorem ZG9 {H : Hp} {v : V} {c : PL} {qs : PL} (h : ZBs H v (some qs)) (g : Is4 c (some qs)) : ∃ (l : Addr) (q0 q1 q2 q3 : Int × Int) (a0 a1 a2 a3 : Addr), v = .ref l ∧ qs = [q0, q1, q2, q3] ∧ H l = some (.tup [.ref a0, .ref a1, .ref a2, .ref a3]) ∧
  H a0 = some (.tup [.int q0.1, .int q0.2]) ∧ H a1 = some (.tup [.int q1.1, .int q1.2]) ∧ H a2 = some (.tup [.int q2.1, .int q2.2]) ∧ H a3 = some (.tup [.int q3.1, .int q3.2]) := by
 cases h with
 | @pr l qs h hl =>
  obtain ⟨us, f, hP⟩ := h
  rcases g with ⟨e, _⟩ | ⟨q0, q1, q2, q3, e, _⟩
  ·cases e
  ·cases e
   cases hP with
   | cons h0 t => cases t with
    | cons h1 t => cases t with
     | cons h2 t => cases t with
      | cons h3 t =>
       cases t
       obtain ⟨a0, rfl, e0⟩ := h0
       obtain ⟨a1, rfl, e1⟩ := h1
       obtain ⟨a2, rfl, e2⟩ := h2
       obtain ⟨a3, rfl, e3⟩ := h3
       exact ⟨l, q0, q1, q2, q3, a0, a1, a2, a3, rfl, rfl, f, e0, e1, e2, e3⟩
theorem ZFL : ZBl ["one", "other", "lowest", "highest"] ["one", "other"] (ZBc ZF5) := ZCM
theorem ZHA (T : Txt K mg a) : ZBh P w K mg base CX0 2 a.Jq a.Ji ["one", "other"] (ZMp K) := by
 refine T.Jn.ok ZFL (by walk_at "l") (fun cdv A outer s H vs Q E hr h => ?_)
 ·obtain ⟨v1, v2, o1, o2, c1, c2, rfl, h1, g1, h2, g2, hlt, k⟩ := h
  refine ⟨_, QB.h (ZBZ (ZCI (ZBr (ZKf) (qv 0) ZDm (ZBv _)) (ZBb (ZBo (qv 1))) ZB5) (ZBZ (ZCI (ZBr (ZKf) (qv 1) ZDm (ZBv _)) (ZBb (ZBo (qv 0))) ZB5) (ZBZ (qsS (i := 2) ZFL.nd (ZFt (ZBr (ZGF) (qcS (ZCs T) hr T.Zf T.Zy.kp T.Zi (ZBX (ZCC (ZCP K rfl) (qv 0) ZBW) ZBY)) (qcS (ZCs T) hr T.Zf T.Zy.kp T.Zi (ZBX (ZCC (ZCP K rfl) (qv 1) ZBW) ZBY)) (ZBv _)) (ZCC (ZCP K rfl) (qv 0) ZBW) (ZCC (ZCP K rfl) (qv 1) ZBW))) (ZBZ (qsS (i := 3) ZFL.nd (ZFt (ZBr (ZM3) (qcS (ZCs T) hr T.Zf T.Zy.kp T.Zi (ZBX (ZCC (ZCP K rfl) (qv 0) ZBW) ZBY)) (qcS (ZCs T) hr T.Zf T.Zy.kp T.Zi (ZBX (ZCC (ZCP K rfl) (qv 1) ZBW) ZBY)) (ZBv _)) (ZCC (ZCP K rfl) (qv 0) ZBW) (ZCC (ZCP K rfl) (qv 1) ZBW))) (ZBb (ZBo (ZBq (ZBX (ZCC (ZCP K rfl) (qv 0) ZBW) (ZBX (ZCC (ZCP K rfl) (qv 1) ZBW) (ZBX (qv 2) (ZBX (qv 3) ZBY))))))))))), ?_⟩
  walk_at "s"
  walk_at "w"
  cases o1 with
  | none =>
   cases h1
   refine ZCU (fun _ => ?_) (fun h => absurd rfl h)
   walk_at "w"
   refine k v2 o2 H h2 ?_ (ZBd.refl H)
   rw [g1.of_none, List.nil_append]
   exact g2
  | some qs1 =>
   obtain ⟨l1, q0, q1, q2, q3, a0, a1, a2, a3, rfl, rfl, f1, e0, e1, e2, e3⟩ := ZG9 h1 g1
   refine ZCU (fun h => by cases h) (fun _ => ?_)
   walk_at "w"
   cases o2 with
   | none =>
    cases h2
    refine ZCU (fun _ => ?_) (fun h => absurd rfl h)
    walk_at "w"
    refine k (.ref l1) _ H h1 ?_ (ZBd.refl H)
    rw [g2.of_none, List.append_nil]
    exact g1
   | some qs2 =>
    obtain ⟨l2, r0, r1, r2, r3, b0, b1, b2, b3, rfl, rfl, f2, d0, d1, d2, d3⟩ := ZG9 h2 g2
    refine ZCU (fun h => by cases h) (fun _ => ?_)
    walk_at "w"
    refine ⟨a2, _, _, rfl, e2, ?_⟩
    walk_at "w"
    refine ⟨b2, _, _, rfl, d2, ?_⟩
    walk_at "w"
    have J := g1.join g2 hlt
    have fin : ∀ (x y : Addr) (p2 p3 : Int × Int), H x = some (.tup [.int p2.1, .int p2.2]) → H y = some (.tup [.int p3.1, .int p3.2]) → Is4 (c1 ++ c2) (some [q0, r1, p2, p3]) → ∀ l H', H l = none → H' l = some (.tup [.ref a0, .ref b1, .ref x, .ref y]) → ZBd H H' → Q (.ref l) H' := fun x y p2 p3 hx hy J l H' n' f' S' =>
     k (.ref l) _ H' (.pr ⟨_, f', .cons ⟨a0, rfl, S' _ _ e0⟩ (.cons ⟨b1, rfl, S' _ _ d1⟩ (.cons ⟨x, rfl, S' _ _ hx⟩ (.cons ⟨y, rfl, S' _ _ hy⟩ .nil)))⟩ rfl) J S'
    have part2 : ∀ (x : Addr) (p2 : Int × Int), True := fun _ _ => trivial
    refine ZCU (fun hl => ?_) (fun hl => ?_)
    ·walk_at "w"
     refine ⟨a3, _, _, rfl, e3, ?_⟩
     walk_at "w"
     refine ⟨b3, _, _, rfl, d3, ?_⟩
     walk_at "w"
     refine ZCU (fun hh => ?_) (fun hh => ?_)
     ·walk_at "w"
      rw [if_pos hl, if_pos hh] at J
      exact ZBk (by show 4 ≤ sizeLine; decide) fun l H' n' f' S' => fin _ _ _ _ e2 e3 J l H' n' f' S'
     ·walk_at "w"
      rw [if_pos hl, if_neg hh] at J
      exact ZBk (by show 4 ≤ sizeLine; decide) fun l H' n' f' S' => fin _ _ _ _ e2 d3 J l H' n' f' S'
    ·walk_at "w"
     refine ⟨a3, _, _, rfl, e3, ?_⟩
     walk_at "w"
     refine ⟨b3, _, _, rfl, d3, ?_⟩
     walk_at "w"
     refine ZCU (fun hh => ?_) (fun hh => ?_)
     ·walk_at "w"
      rw [if_neg hl, if_pos hh] at J
      exact ZBk (by show 4 ≤ sizeLine; decide) fun l H' n' f' S' => fin _ _ _ _ d2 e3 J l H' n' f' S'
     ·walk_at "w"
      rw [if_neg hl, if_neg hh] at J
      exact ZBk (by show 4 ≤ sizeLine; decide) fun l H' n' f' S' => fin _ _ _ _ d2 d3 J l H' n' f' S'
end
section
variable {P : Program} {w : World} {K : W.Frag} {mg : Str → Option Value} {base : Heap} {a : Ad}
theorem ZOV {xs : List V} {v : V} (h : xs[xs.length - 1]? = some v) : atI xs (-1) = some v := by
 have hlt := (List.getElem?_eq_some_iff.mp h).1
 unfold atI ixN
 rw [if_neg (by decide), if_pos (by omega)]
 have : ((-1 : Int) + (xs.length : Int)).toNat = xs.length - 1 := by omega
 rw [this]
 exact h
def ZMq (K : W.Frag) : Sp := fun vs H Q _ => ∃ (l : Addr) (cv : PL), vs = [.ref l] ∧ PrT H l cv ∧ Asc cv ∧
 ∀ (v : V) (o : Option (PL)) (H' : Hp), ZBs H' v o → Is4 cv o → ZBd H H' → Q v H'
theorem ZJ7 : ZBl ["curve"] ["curve"] (ZBc ZFJ) := ZCM
theorem ZJ8 (T : Txt K mg a) : ZBh P w K mg base CX0 3 a.JM a.JW ["curve"] (ZMq K) := by
 refine T.ZAC.ok ZJ7 (by walk_at "l") (fun cdv A outer s H vs Q E hr h => ?_)
 ·obtain ⟨l, cv, rfl, ⟨us, gL, pL⟩, hasc, k⟩ := h
  have hul : us.length = cv.length := pL.length
  refine ⟨_, QB.h (ZBZ (ZCI (ZBr (ZC8) (ZBz (ZFD K rfl) rfl T.JD ZE8 (ZBX (qv 0) ZBY)) ZBW (ZBv _)) (ZBb (ZBo ZDm)) ZB5) (ZBb (ZBo (ZBq (ZBX (ZCC (ZCP K rfl) (qv 0) ZBW) (ZBX (ZCC (ZCP K rfl) (qv 0) (ZDA ZCn ZBW)) (ZBX (ZJu K rfl rfl (ZCs T) hr rfl T.JX rfl T.Zf T.Zi (ZBX (qv 0) ZBY)) (ZBX (ZJw K rfl rfl (ZCs T) hr rfl T.ZAH rfl T.Zf T.Zi (ZBX (qv 0) ZBY)) ZBY)))))))), ?_⟩
  walk_at "s"
  walk_at "w"
  refine ZCU (fun h => ?_) (fun h => ?_)
  ·walk_at "w"
   have : cv = [] := List.length_eq_zero_iff.mp (by have h := V.int.inj h; omega)
   exact k _ none H .non (.inl ⟨rfl, this⟩) (ZBd.refl H)
  ·have hpos : 0 < us.length := by
    rcases Nat.eq_zero_or_pos us.length with z | z
    ·exact absurd (by rw [z]; rfl) h
    ·exact z
   have hne : us ≠ [] := List.length_pos_iff.mp hpos
   obtain ⟨c0, q0, ec0, hq0, hc0⟩ := pL.at (List.getElem?_eq_getElem hpos)
   obtain ⟨c1, q1, ec1, hq1, hc1⟩ := pL.at (List.getElem?_eq_getElem (show us.length - 1 < us.length by omega))
   have hx0 : us[0]? = some (.ref c0) := by rw [List.getElem?_eq_getElem hpos, ec0]
   have hx1 : us[us.length - 1]? = some (.ref c1) := by rw [List.getElem?_eq_getElem (show us.length - 1 < us.length by omega), ec1]
   have turn : ∀ i v, us[i]? = some v → ∀ Q : VK, Q (.int (cv.getD i (0, 0)).2) H → ZIX [v] H Q E0 := fun i v hv Q q => by
    obtain ⟨c, p, rfl, hp, hc⟩ := pL.at hv
    have e : cv.getD i (0, 0) = p := by simp [hp]
    rw [e] at q
    exact ⟨c, p.1, p.2, rfl, hc, q⟩
   walk_at "w"
   refine ZFA (SqT.of gL) (ZFU (j := 0) hx0) ?_
   walk_at "w"
   refine ZFA (SqT.of gL) (ZOV hx1) ?_
   walk_at "w"
   refine ZJv (fun i => (cv.getD i (0, 0)).2) (SqT.of gL) hne turn fun i2 v2 hv2 hb2 => ?_
   walk_at "w"
   refine ZJx (fun i => (cv.getD i (0, 0)).2) (SqT.of gL) hne turn fun i3 v3 hv3 hb3 => ?_
   obtain ⟨c2, q2, rfl, hq2, hc2⟩ := pL.at hv2
   obtain ⟨c3, q3, rfl, hq3, hc3⟩ := pL.at hv3
   walk_at "w"
   refine ZBk (by show 4 ≤ sizeLine; decide) fun c4 H4 n4 f4 S4 => ?_
   have hP4 : ZBe H4 [.ref c0, .ref c1, .ref c2, .ref c3] [q0, q1, q2, q3] := .cons ⟨c0, rfl, S4 _ _ hc0⟩ (.cons ⟨c1, rfl, S4 _ _ hc1⟩ (.cons ⟨c2, rfl, S4 _ _ hc2⟩ (.cons ⟨c3, rfl, S4 _ _ hc3⟩ .nil)))
   rw [hul] at hq1 hb2 hb3
   exact k _ (some [q0, q1, q2, q3]) H4 (.pr ⟨_, f4, hP4⟩ rfl) (Is4.minmax hasc hq0 hq1 hq2 hq3 hb2 hb3) S4
end
section
variable {P : Program} {w : World} {K : W.Frag} {mg : Str → Option Value} {base : Heap} {a : Ad}
def InT (x : Int) : Prop := -1099511627776 ≤ x ∧ x ≤ 1099511627776
inductive ZEU (H : Hp) : V → Prop where
 | non : ZEU H .non
 | str (x : Str) : ZEU H (.str x)
 | tup {p : Addr} {xs : List V} (e : H p = some (.tup xs)) : ZEU H (.ref p)
theorem ZEU.same {H H' : Hp} {v : V} (s : ZBd H H') : ZEU H v → ZEU H' v
 | .non => .non
 | .str x => .str x
 | .tup e => .tup (s _ _ e)
def Off (H : Hp) (v : V) : Prop := (∃ i, v = .int i ∧ ¬ InT i) ∨ ZEU H v
theorem Off.same {H H' : Hp} {v : V} (s : ZBd H H') (h : Off H v) : Off H' v := h.imp id (ZEU.same s)
theorem ZLI (K : W.Frag) : W.kitOne K (.type "str") (.type "int") = some false := by kernel_rfl
theorem ZLJ (K : W.Frag) : W.kitOne K (.type "tuple") (.type "int") = some false := by kernel_rfl
def ZOW : Sp := fun vs H Q _ => ∃ v, vs = [v] ∧ ((∃ i : Int, v = .int i ∧ Q (.bl true) H) ∨ (ZEU H v ∧ Q (.bl false) H))
theorem ZIu : ZBl ["thing"] ["thing"] (ZBc ZEt) := ZCM
theorem ZFm (T : Txt K mg a) : ZBh P w K mg base CX0 1 a.Y9 a.JJ ["thing"] ZOW := by
 refine T.Y8.ok ZIu (by walk_at "l") (fun cdv A outer s H vs Q E hr h => ?_)
 ·obtain ⟨v, rfl, h⟩ := h
  refine ⟨_, QB.h (ZBb (ZBo (ZHq (ZBz (ZKk K rfl) rfl T.ZY ZDG (ZBX (qv 0) (ZBX (ZJA (v := .ty "int") rfl T.Jv ZHj rfl) ZBY))) (ZHp (ZKh (ZBz (ZKk K rfl) rfl T.ZY ZDG (ZBX (qv 0) (ZBX (ZJA (v := .ty "bool") rfl T.ZAP ZNi rfl) ZBY)))))))), ?_⟩
  walk_at "s"
  walk_at "w"
  rcases h with ⟨i, rfl, q⟩ | ⟨hv, q⟩
  ·refine ZFB (.int i) (ZLF _) (ZGf (ZDR ?_))
   walk_at "w"
   refine ZFB (.int i) (ZJ6 _) ?_
   walk_at "w"
   exact q
  ·cases hv with
   | non => exact ZFB .non (ZLG _) (ZGf (ZCg q))
   | str x => exact ZFB (.str x) (ZLI _) (ZGf (ZCg q))
   | tup e => exact ZFB (.tup e) (ZLJ _) (ZGf (ZCg q))
def ZMr : Sp := fun vs H Q _ => ∃ v, vs = [v] ∧ ((∃ i : Int, v = .int i ∧ InT i ∧ Q (.bl true) H) ∨ (Off H v ∧ Q (.bl false) H))
theorem ZIZ : ZBl ["thing"] ["thing"] (ZBc ZEN) := ZCM
theorem ZCt (T : Txt K mg a) : ZBh P w K mg base CX0 2 a.Y4 a.Yy ["thing"] ZMr := by
 refine T.ZT.ok ZIZ (by walk_at "l") (fun cdv A outer s H vs Q E hr h => ?_)
 ·obtain ⟨v, rfl, h⟩ := h
  have g : (∃ i : Int, v = .int i ∧ ((InT i ∧ Q (.bl true) H) ∨ (¬ InT i ∧ Q (.bl false) H))) ∨ (ZEU H v ∧ Q (.bl false) H) := by
   rcases h with ⟨i, e, h, q⟩ | ⟨⟨i, e, h⟩ | h, q⟩
   ·exact .inl ⟨i, e, .inl ⟨h, q⟩⟩
   ·exact .inl ⟨i, e, .inr ⟨h, q⟩⟩
   ·exact .inr ⟨h, q⟩
  clear h
  refine ⟨_, QB.h (ZBb (ZBo (ZHq (qcS (ZFm T) hr T.J5 T.Y8.kp T.Jt (ZBX (qv 0) ZBY)) (ZHp (ZMI ZGF ZGF (ZDA ZCn (ZCi (v := .int 1099511627776) rfl T.YU ⟨_, rfl⟩)) (qv 0) (ZCi (v := .int 1099511627776) rfl T.YU ⟨_, rfl⟩)))))), ?_⟩
  walk_at "s"
  walk_at "w"
  rcases g with ⟨i, rfl, h⟩ | ⟨hv, q⟩
  ·refine ⟨_, rfl, .inl ⟨i, rfl, ?_⟩⟩
   walk_at "w"
   refine ZDR ?_
   walk_at "w"
   unfold InT at h
   refine ZCU (fun h1 => ?_) (fun h1 => ?_)
   ·walk_at "w"
    rcases h with ⟨hi, q⟩ | ⟨hi, q⟩
    ·rw [decide_eq_true hi.2]
     exact q
    ·rw [decide_eq_false fun z => hi ⟨by omega, z⟩]
     exact q
   ·rcases h with ⟨hi, q⟩ | ⟨hi, q⟩
    ·exact absurd hi.1 (by omega)
    ·walk_at "w"
     exact q
  ·refine ⟨_, rfl, .inr ⟨hv, ?_⟩⟩
   walk_at "w"
   refine ZCg ?_
   walk_at "w"
   exact q
def ZOX : Sp := fun vs H Q _ => ∃ b e : Int, vs = [.int b, .int e] ∧ InT b ∧ InT e ∧ Q .non H
theorem ZEC : ZBl ["begin", "end"] ["begin", "end"] (ZBc ZDZ) := ZCM
theorem ZED (T : Txt K mg a) : ZBh P w K mg base CX0 3 a.Zm a.Zp ["begin", "end"] ZOX := by
 refine T.ZP.ok ZEC (by walk_at "l") (fun cdv A outer s H vs Q E hr h => ?_)
 ·obtain ⟨b, e, rfl, hb, he, q⟩ := h
  refine ⟨_, QB.h (ZBb (ZCI (QW.pt (ZDi (ZCp (ZCx (qcS (ZCt T) hr T.Zg T.ZT.kp T.Ze (ZBX (qv 0) ZBY)))) (ZDT (ZCp (ZCx (qcS (ZCt T) hr T.Zg T.ZT.kp T.Ze (ZBX (qv 1) ZBY))))))) (ZBb ZCV) ZB5)), ?_⟩
  walk_at "s"
  walk_at "w"
  refine ⟨_, rfl, .inl ⟨b, rfl, hb, ?_⟩⟩
  walk_at "w"
  refine ZCg ?_
  walk_at "w"
  refine ⟨_, rfl, .inl ⟨e, rfl, he, ?_⟩⟩
  walk_at "w"
  refine ZCg ?_
  walk_at "w"
  exact q
def ZLK : Sp := fun vs H Q _ => ∃ x e : Int, vs = [.int x, .int e] ∧ InT x ∧ InT e ∧ x < e ∧
 ∀ (t : Addr) (L : Nat) (H' : Hp), H' t = some (.tup [.int L, .int (2 ^ L)]) → (2 : Int) ^ L ∣ x → x + 2 ^ L ≤ e → ((2 : Int) ^ (L + 1) ∣ x → x + 2 ^ (L + 1) ≤ e → False) → ZBd H H' → Q (.ref t) H'
theorem ZDb : ZBl ["first", "end", "level", "size"] ["first", "end"] (ZBc ZFK) := ZCM
theorem ZJ9 (T : Txt K mg a) : ZBh P w K mg base CX0 1 a.JT a.JL ["first", "end"] ZLK := by
 refine T.ZAE.ok ZDb (by walk_at "l") (fun cdv A outer s H vs Q E hr h => ?_)
 ·obtain ⟨x, e, rfl, hx, he, hxe, k⟩ := h
  unfold InT at hx he
  refine ⟨_, QB.h (ZBZ (qsS (i := 2) ZDb.nd ZBW) (ZBZ (qsS (i := 3) ZDb.nd ZBW) (ZBZ (ZHr PassesOwn.never (QW.pt (ZPt (ZBr (ZC8) (ZBa ZEV (qv 0) (ZBa ZB0 ZBW (qv 3))) ZBW (ZBv _)) (ZN4 (ZBr (ZGF) (ZBa ZB6 (qv 0) (ZBa ZB0 ZBW (qv 3))) (qv 1) (ZBv _))))) (ZBZ (ZH8 (i := 2) ZDb.nd rfl (by walk_at "o") ZIy ZBW) (ZBb (ZH8 (i := 3) ZDb.nd rfl (by walk_at "o") ZNU ZBW)))) (ZBb (ZBo (ZBq (ZBX (qv 2) (ZBX (qv 3) ZBY)))))))), ?_⟩
  walk_at "s"
  walk_at "w"
  refine ZH9 (fun σ H' => H' = H ∧ ∃ L : Nat, ∃ z : Int, z = 2 ^ L ∧ σ = [some (.int x), some (.int e), some (.int L), some (.int z)] ∧ z ∣ x ∧ x + z ≤ e) (fun σ H' => match σ with | [_, _, some (.int l), some (.int z)] => (2199023255552 - z).toNat | _ => 0) ?_ ?_
  ·exact ⟨rfl, 0, 1, rfl, rfl, Int.one_dvd _, by omega⟩
  ·rintro σ H' ⟨rfl, L, z, hz, rfl, hd, hle⟩
   have hp : 0 < z := by rw [hz]; exact ZCr L
   have hz2 : z ≤ 2199023255552 := by omega
   walk_at "w"
   rw [ZDH]
   refine ZCU (fun h1 => ?_) (fun h1 => ?_)
   ·walk_at "w"
    refine ZCU (fun h2 => ?_) (fun h2 => ?_)
    ·refine ZJD ?_
     walk_at "w"
     refine ⟨⟨rfl, L + 1, z * 2, ?_, ?_, ?_, by omega⟩, ?_⟩
     ·rw [hz, Int.pow_succ]
     ·show [some (V.int x), some (V.int e), some (V.int ((L : Int) + 1)), some (V.int (z * 2))] = _
      rfl
     ·rw [Int.mul_comm]; exact Int.dvd_of_emod_eq_zero h1
     ·show (2199023255552 - z * 2).toNat < (2199023255552 - z).toNat
      omega
    ·walk_at "w"
     refine ZBk (by show 2 ≤ sizeLine; decide) fun t H2 n2 f2 S2 => ?_
     subst hz
     refine k t L H2 f2 hd hle (fun _ h4 => h2 ?_) S2
     rw [ZEq]; exact h4
   ·refine ZCg ?_
    walk_at "w"
    refine ZBk (by show 2 ≤ sizeLine; decide) fun t H2 n2 f2 S2 => ?_
    subst hz
    refine k t L H2 f2 hd hle (fun h3 _ => h1 ?_) S2
    rw [ZEq]; exact Int.emod_eq_zero_of_dvd h3
def ZFM (b e : Int) : Int := if e > b then e else b
def ZIv : Sp := fun vs H Q _ => ∃ b e : Int, vs = [.int b, .int e] ∧ InT b ∧ InT e ∧
 ∀ (t : Addr) (prs : PL) (H' : Hp), PrT H' t prs → Ch e b prs (ZFM b e) → prs.length ≤ 80 → ZBd H H' → Q (.ref t) H'
theorem ZCk : ZBl ["begin", "end", "found", "first", "level", "size"] ["begin", "end"] (ZBc ZEO) := ZCM
theorem ZIa (T : Txt K mg a) : ZBh P w K mg base CX0 4 a.YV a.YW ["begin", "end"] ZIv := by
 refine T.Zw.ok ZCk (by walk_at "l") (fun cdv A outer s H vs Q E hr h => ?_)
 ·obtain ⟨b, e, rfl, hb, he, k⟩ := h
  refine ⟨_, QB.h (ZBZ (ZB1 (qcS (ZED T) hr T.Zn T.ZP.kp T.Zo (ZBX (qv 0) (ZBX (qv 1) ZBY)))) (ZBZ (qsS (i := 2) ZCk.nd (ZDn ZBY)) (ZBZ (qsS (i := 3) ZCk.nd (qv 0)) (ZBZ (ZHr PassesOwn.never (ZBr (ZGE) (qv 3) (qv 1) (ZBv _)) (ZBZ (ZEY (qcS (ZJ9 T) hr.m T.ZAw T.ZAE.kp T.ZAy (ZBX (qv 3) (ZBX (qv 1) ZBY))) (ZDo (n := 2) K rfl rfl (ZB3 (qgN (i := 4) ZCk.nd) (ZB3 (qgN (i := 5) ZCk.nd) ZDO)))) (ZBZ (ZB1 (ZNA PySem.F.plainAttrs_list PySem.F.slot_list_append PySem.F.type_list_append ZE7 (qv 2) (ZBX (ZBq (ZBX (qv 4) (ZBX (ZBa ZEf (qv 3) (qv 5)) ZBY))) ZBY))) (ZBb (ZH8 (i := 3) ZCk.nd rfl (by walk_at "o") ZIy (qv 5)))))) (ZBb (ZBo (ZCh (ZD7 K rfl) rfl T.YT ZD5 (ZBX (qv 2) ZBY)))))))), ?_⟩
  walk_at "s"
  walk_at "w"
  refine ⟨b, e, rfl, hb, he, ?_⟩
  unfold InT at hb he
  walk_at "w"
  refine ZBk (by show 0 ≤ sizeLine; decide) fun l H1 n1 f1 S1 => ?_
  walk_at "w"
  have e40 : (2 : Int) ^ 40 = 1099511627776 := by decide
  refine ZH9 (fun σ H' => ZBd H H' ∧ ∃ (x : Int) (prs : PL), (∃ v4 v5, σ = [some (.int b), some (.int e), some (.ref l), some (.int x), v4, v5]) ∧ PrL H' l prs ∧ Ch e b prs x ∧ Few e prs.length x ∧ x ≤ ZFM b e ∧ b ≤ x) (fun σ H' => match σ with | [_, _, _, some (.int x), _, _] => (e - x).toNat | _ => 0) ?_ ?_
  ·exact ⟨S1, b, [], ⟨_, _, rfl⟩, ⟨[], f1, .nil⟩, rfl, Few.start (by rw [e40]; omega), by unfold ZFM; split <;> omega, Int.le_refl _⟩
  ·rintro σ H' ⟨S', x, prs, ⟨v4, v5, rfl⟩, ⟨vs, f', hP⟩, hch, hfew, hmx, hbx⟩
   walk_at "w"
   refine ZCU (fun hxe => ?_) (fun hxe => ?_)
   ·refine ZJD ?_
    walk_at "w"
    refine ⟨x, e, rfl, ⟨by omega, by omega⟩, he, hxe, fun t L H2 f2 hd hle hmax S2 => ?_⟩
    have hL : L ≤ 40 := ZIS (by rw [e40]; omega) (by rw [e40]; omega) hd hle
    have hp := ZCr L
    have hL2 := ZEp hL
    rw [e40] at hL2
    have hfs := Few.step (by rw [e40]; omega) (by rw [e40]; omega) hfew hd hle hmax
    generalize hz : (2 : Int) ^ L = z at *
    walk_at "w"
    refine ⟨tyL (S2 _ _ f'), ?_⟩
    walk_at "w"
    refine ZBk (by show 2 ≤ sizeLine; decide) fun t3 H3 n3 f3 S3 => ?_
    have fl := S3 _ _ (S2 _ _ f')
    walk_at "w"
    refine ZG2 fl ?_ fun H4 f4 K4 => ?_
    ·rw [hP.length]
     exact Nat.lt_of_le_of_lt hfew.len (by decide)
    walk_at "w"
    have hxz : x / z * z = x := Int.ediv_mul_cancel hd
    refine ⟨⟨((S'.trans S2).trans S3).kpN n1 K4, x + z, prs ++ [((L : Int), x / z)], ⟨_, _, rfl⟩, ⟨_, f4, ?_⟩, ?_, ?_, ?_, by omega⟩, ?_⟩
    ·exact ZBe.kpL K4 fl ((hP.same (S2.trans S3)).snoc f3)
    ·have := Ch.snoc (p := ((L : Int), x / z)) hch ⟨by simp, by simp; omega⟩ (by rw [show ((L : Int), x / z).1.toNat = L from Int.toNat_natCast L, hz]; exact hxz) (by rw [show ((L : Int), x / z).1.toNat = L from Int.toNat_natCast L, hz]; exact hle) (by
      rw [show ((L : Int), x / z).1.toNat = L from Int.toNat_natCast L, hz]
      intro _ h5 h6
      have ez : (2 : Int) ^ (L + 1) = 2 * z := by rw [← ZEq, hz]
      refine hmax ?_ ?_
      ·rw [ez]; exact Int.dvd_of_emod_eq_zero h5
      ·rw [ez]; exact h6)
     rw [show ((L : Int), x / z).1.toNat = L from Int.toNat_natCast L, hz] at this
     exact this
    ·rw [List.length_append]; exact hfs
    ·unfold ZFM; split <;> omega
    ·show (e - (x + z)).toNat < (e - x).toNat
     omega
   ·walk_at "w"
    refine ZEX (SqL.of f') fun t H2 n2 f2 S2 => ?_
    have ex : x = ZFM b e := by
     unfold ZFM at hmx ⊢
     split <;> rename_i hh
     ·rw [if_pos hh] at hmx; omega
     ·rw [if_neg hh] at hmx; omega
    rw [ex] at hch
    exact k t prs H2 ⟨vs, f2, hP.same S2⟩ hch hfew.len (S'.trans S2)
def ZKA (H : Hp) (x y : V) : Prop := Off H x ∨ ((∃ i, x = .int i ∧ InT i) ∧ Off H y)
theorem ZMs {H : Hp} {b e : Int} (h : ¬ (InT b ∧ InT e)) : ZKA H (.int b) (.int e) := by
 by_cases hb : InT b
 ·exact .inr ⟨⟨b, rfl, hb⟩, .inl ⟨e, rfl, fun he => h ⟨hb, he⟩⟩⟩
 ·exact .inl (.inl ⟨b, rfl, hb⟩)
def ZIb (C : Addr) : Sp := fun vs H _ E => ∃ x y : V, vs = [x, y] ∧ ZKA H x y ∧ E (.ref C) none H
theorem ZDu (T : Txt K mg a) : ZBh P w K mg base (CX1 P w) 3 a.Zm a.Zp ["begin", "end"] (ZIb a.ZA) := by
 refine T.ZP.okx ZEC (by walk_at "l") (fun cdv A outer s H vs Q E hr h => ?_)
 ·obtain ⟨b, e, rfl, hn, q⟩ := h
  refine ⟨_, QB.h (ZBb (ZCI (QW.pt (ZDi (ZCp (ZCx (qcS (ZCt T) hr T.Zg T.ZT.kp T.Ze (ZBX (qv 0) ZBY)))) (ZDT (ZCp (ZCx (qcS (ZCt T) hr T.Zg T.ZT.kp T.Ze (ZBX (qv 1) ZBY))))))) (ZBb (ZIR T.YD rfl T.Yh (ZBX ZKg ZBY))) ZB5)), ?_⟩
  walk_at "s"
  walk_at "w"
  rcases hn with hb | ⟨⟨i, rfl, hi⟩, he⟩
  ·refine ⟨_, rfl, .inr ⟨hb, ?_⟩⟩
   walk_at "w"
   refine ZDR ?_
   walk_at "w"
   exact ZEo (by decide) q
  ·refine ⟨_, rfl, .inl ⟨i, rfl, hi, ?_⟩⟩
   walk_at "w"
   refine ZCg ?_
   walk_at "w"
   refine ⟨_, rfl, .inr ⟨he, ?_⟩⟩
   walk_at "w"
   refine ZDR ?_
   walk_at "w"
   exact ZEo (by decide) q
theorem ZEy (T : Txt K mg a) : ZBh P w K mg base (CX1 P w) 4 a.YV a.YW ["begin", "end"] (ZIb a.ZA) := by
 refine T.Zw.okx ZCk (by walk_at "l") (fun cdv A outer s H vs Q E hr h => ?_)
 ·obtain ⟨b, e, rfl, hn, q⟩ := h
  refine ⟨_, QB.h (ZBZ (ZB1 (ZDJ (ZDu T) hr rfl T.Zn T.ZP.kp T.Zo .nil ZDX (ZBX (qv 0) (ZBX (qv 1) ZBY)))) (ZBZ ZCV (ZBZ ZCV (ZBZ ZCV (ZBb ZCV))))), ?_⟩
  walk_at "s"
  walk_at "w"
  exact ⟨b, e, rfl, hn, q⟩
end
section
variable {P : Program} {w : World} {K : W.Frag} {mg : Str → Option Value} {base : Heap} {a : Ad}
def ZOY (K : W.Frag) : Sp := fun vs H Q _ => ∃ (p : Addr) (b y m k : Int), vs = [.ref p, .int k] ∧ H p = some (.tup [.int b, .int y, .int m]) ∧ 0 ≤ k ∧ k < m ∧ m ≤ 1000 ∧
 ∀ (u : Addr) (H' : Hp), H u = none → H' u = some (.tup [.int (b + k * y), .int (b + k * y + y)]) → ZBd H H' → Q (.ref u) H'
theorem ZDE : ZBl ["window", "k", "begin", "wide", "many", "first"] ["window", "k"] (ZBc ZEu) := ZCM
theorem ZIw (T : Txt K mg a) : ZBh P w K mg base CX0 2 a.JH a.JA ["window", "k"] (ZOY K) := by
 refine T.Js.ok ZDE (by walk_at "l") (fun cdv A outer s H vs Q E hr h => ?_)
 ·obtain ⟨p, b, y, m, n, rfl, hT, h0, h1, h2, k⟩ := h
  refine ⟨_, QB.h (ZBZ (ZEY (qv 0) (ZDo (n := 3) K rfl rfl (ZB3 (qgN (i := 2) ZDE.nd) (ZB3 (qgN (i := 3) ZDE.nd) (ZB3 (qgN (i := 4) ZDE.nd) ZDO))))) (ZBZ (ZCI (QW.pt (ZDi (ZCp (ZCx (qcS (ZFm T) hr T.J5 T.Y8.kp T.Jt (ZBX (qv 1) ZBY)))) (ZDT (ZCp (ZMJ ZGF ZGE ZBW (qv 1) (qv 4)))))) (ZBb ZCV) ZB5) (ZBZ (qsS (i := 5) ZDE.nd (ZBa ZB6 (qv 2) (ZBa ZB0 (qv 1) (qv 3)))) (ZBb (ZBo (ZBq (ZBX (qv 5) (ZBX (ZBa ZB6 (qv 5) (qv 3)) ZBY)))))))), ?_⟩
  walk_at "s"
  walk_at "w"
  refine ⟨_, rfl, .inl ⟨n, rfl, ?_⟩⟩
  walk_at "w"
  refine ZCg ?_
  walk_at "w"
  refine ZCU (fun _ => ?_) (fun h => absurd h0 h)
  walk_at "w"
  rw [decide_eq_true h1]
  refine ZCg ?_
  walk_at "w"
  exact ZBk (by show 2 ≤ sizeLine; decide) fun u H2 n2 f2 S2 => k u H2 n2 f2 S2
def ZDx (b y : Int) (n : Nat) : PL := (List.range n).map fun (i : Nat) => (b + (i : Int) * y, b + (i : Int) * y + y)
theorem ZFN (b y : Int) (n : Nat) : (ZDx b y n).length = n := by rw [ZDx, List.length_map, List.length_range]
theorem ZKB (b y : Int) (n : Nat) : ZDx b y (n + 1) = ZDx b y n ++ [(b + (n : Int) * y, b + (n : Int) * y + y)] := by rw [ZDx, List.range_succ, List.map_append]; rfl
theorem ZMt {b y : Int} {n i : Nat} {p : Int × Int} (h : (ZDx b y n)[i]? = some p) : p = (b + (i : Int) * y, b + (i : Int) * y + y) := by
 rw [ZDx, List.getElem?_map] at h
 obtain ⟨j, hj, rfl⟩ := Option.map_eq_some_iff.mp h
 rw [List.getElem?_range (by have := (List.getElem?_eq_some_iff.mp hj).1; rwa [List.length_range] at this)] at hj
 rw [← Option.some.inj hj]
def ZLL (K : W.Frag) : Sp := fun vs H Q _ => ∃ (p : Addr) (b y m : Int), vs = [.ref p] ∧ H p = some (.tup [.int b, .int y, .int m]) ∧ 1 ≤ m ∧ m ≤ 1000 ∧
 ∀ (l : Addr) (us : List V) (H' : Hp), H l = none → H' l = some (.lst us) → ZBe H' us (ZDx b y m.toNat) → ZBd H H' → Q (.ref l) H'
theorem ZHM : ZBl ["window"] ["window"] (ZBc ZDY) := ZCM
theorem ZHN (T : Txt K mg a) : ZBh P w K mg base CX0 3 a.Yi a.Yk ["window"] (ZLL K) := by
 refine T.JS.ok ZHM (by walk_at "l") (fun cdv A outer s H vs Q E hr h => ?_)
 ·obtain ⟨p, b, y, m, rfl, hT, h1, h2, k⟩ := h
  refine ⟨_, QB.h (ZBb (ZBo (ZD0 (N := ["window"]) (sc := ZBc ZDY) (own := ["k"]) (caps := ["window"]) (ks := [0]) rfl rfl rfl ⟨rfl, by decide +kernel, by decide +kernel, by decide +kernel, by decide +kernel, rfl, by decide +kernel⟩ (ZFC rfl T.Y7 (ZBX (ZCC (ZCP K rfl) (qv 0) ZBW) ZBY)) (fun _ _ _ _ _ => ZDN (i := 0) (show List.Nodup (α := Str) ["k", "window"] from by decide +kernel) rfl (by walk_at "o") (.inr rfl)) (fun _ _ _ _ _ => ZD6) (fun _ _ _ _ _ => qcS (ZIw T) hr T.ZAt T.Js.kp T.ZAl (ZBX (qv 1) (ZBX (qv 0) ZBY)))))), ?_⟩
  walk_at "s"
  walk_at "w"
  refine ZHn (by omega) (by omega) ?_
  intro l n1
  refine ZDz m.toNat (fun i σ' H' => (∃ o, σ' = [o, some (.ref p)]) ∧ ZBd H H' ∧ ∃ vs, H' l = some (.lst vs) ∧ ZBe H' vs (ZDx b y i)) ?_ ?_ ?_
  ·exact ⟨⟨none, rfl⟩, ZBd.new n1, [], ZBg, .nil⟩
  ·rintro σ H2 ⟨_, S2, vs, f2, hP⟩
   refine ⟨Nat.le_refl _, ?_⟩
   walk_at "w"
   exact k l vs H2 n1 f2 hP S2
  ·rintro i σ H2 hi ⟨⟨o, rfl⟩, S2, vs, f2, hP⟩
   refine ⟨hi, ?_⟩
   rintro x H'' ⟨rfl, rfl⟩
   walk_at "w"
   refine ZDR ?_
   walk_at "w"
   refine ⟨p, b, y, m, _, rfl, S2 _ _ hT, by omega, by omega, by omega, fun u H3 n3 f3 S3 => ?_⟩
   have e0 : (0 + (i : Int)) = (i : Int) := by omega
   rw [e0] at f3
   refine ⟨vs, S3 _ _ f2, ?_, ⟨_, rfl⟩, (S2.trans S3).kpN n1 Kp.upd, vs ++ [.ref u], ZBg, ?_⟩
   ·rw [hP.length, ZFN]
    exact Nat.lt_of_lt_of_le hi (Nat.le_trans (show m.toNat ≤ 1000 by omega) (by decide))
   ·rw [ZKB]
    exact ZBe.kpL Kp.upd (S3 _ _ f2) ((hP.same S3).snoc (p := (b + (i : Int) * y, b + (i : Int) * y + y)) f3)
end
def tfl (n : Int) (d1 d2 : Addr) : List (Str × V) := [("looks", V.int n), ("samples", V.ref d1), ("kept_fours", V.ref d2)]
theorem sn1 : (("samples" : Str) == "looks") = false := by decide +kernel
theorem sn2 : (("kept_fours" : Str) == "looks") = false := by decide +kernel
theorem sn3 : (("kept_fours" : Str) == "samples") = false := by decide +kernel
theorem ZDs {n : Int} {d1 d2 : Addr} : (tfl n d1 d2).lookup ("looks" : Str) = some (.int n) := by
 unfold tfl
 rw [List.lookup_cons, beq_self_eq_true]
theorem ZFn {n : Int} {d1 d2 : Addr} : (tfl n d1 d2).lookup ("samples" : Str) = some (.ref d1) := by
 unfold tfl
 rw [List.lookup_cons, sn1, List.lookup_cons, beq_self_eq_true]
theorem ZIc {n : Int} {d1 d2 : Addr} : (tfl n d1 d2).lookup ("kept_fours" : Str) = some (.ref d2) := by
 unfold tfl
 rw [List.lookup_cons, sn2, List.lookup_cons, sn3, List.lookup_cons, beq_self_eq_true]
theorem ZCf {n : Int} {d1 d2 : Addr} {m : Str} (h1 : (m == ("looks" : Str)) = false := by decide +kernel) (h2 : (m == ("samples" : Str)) = false := by decide +kernel) (h3 : (m == ("kept_fours" : Str)) = false := by decide +kernel) : (tfl n d1 d2).lookup m = none := by
 unfold tfl
 rw [List.lookup_cons, h1, List.lookup_cons, h2, List.lookup_cons, h3]
 rfl
theorem ZOZ {n n' : Int} {d1 d2 : Addr} : ZCO "looks" (.int n') (tfl n d1 d2) = tfl n' d1 d2 := by
 show (if ("looks" : Str) = "looks" then [(("looks" : Str), V.int n')] ++ _ else _) = _
 rw [if_pos rfl]
 rfl
theorem ZJM {d1 d2 : Addr} : ZCO "kept_fours" (.ref d2) (ZCO "samples" (.ref d1) (ZCO "looks" (.int 0) [])) = tfl 0 d1 d2 := by
 have e1 : ¬ ("looks" : Str) = "samples" := by decide +kernel
 have e2 : ¬ ("looks" : Str) = "kept_fours" := by decide +kernel
 have e3 : ¬ ("samples" : Str) = "kept_fours" := by decide +kernel
 show ZCO "kept_fours" (.ref d2) (ZCO "samples" (.ref d1) [(("looks" : Str), V.int 0)]) = _
 rw [show ZCO "samples" (.ref d1) [(("looks" : Str), V.int 0)] = (if ("looks" : Str) = "samples" then [(("looks" : Str), V.ref d1)] else (("looks" : Str), V.int 0) :: ZCO "samples" (.ref d1) []) from rfl, if_neg e1]
 show (if ("looks" : Str) = "kept_fours" then _ else (("looks" : Str), V.int 0) :: (if ("samples" : Str) = "kept_fours" then _ else (("samples" : Str), V.ref d1) :: ZCO "kept_fours" (.ref d2) [])) = _
 rw [if_neg e2, if_neg e3]
 rfl
def ZBp (C : Addr) (H : Hp) (p : Addr) (n : Int) (d1 d2 : Addr) (sm : PL) (c : Nat) : Prop :=
 ∃ dx kvs, H p = some (.ins C dx (tfl n d1 d2)) ∧ H d1 = some (.dK (ZB8 sm)) ∧ H d2 = some (.dT kvs) ∧ (sm.map (·.1)).Nodup ∧ ZCm H kvs sm (fun _ _ => True) ∧ kvs.length ≤ 41 * c
theorem ZBp.same {C : Addr} {H H' : Hp} {p d1 d2 : Addr} {n : Int} {sm : PL} {c : Nat} (h : ZBp C H p n d1 d2 sm c) (s : ZBd H H') : ZBp C H' p n d1 d2 sm c := by
 obtain ⟨dx, kvs, h1, h2, h3, h4, h5, h6⟩ := h
 exact ⟨dx, kvs, s _ _ h1, s _ _ h2, s _ _ h3, h4, h5.same s, h6⟩
def Fr3 (p d1 d2 : Addr) (H H' : Hp) : Prop := ∀ b o, H b = some o → b ≠ p → b ≠ d1 → b ≠ d2 → H' b = some o
section
variable {P : Program} {w : World} {K : W.Frag} {mg : Str → Option Value} {base : Heap} {a : Ad}
local macro_rules | `(tactic| walk_at "rd") => `(tactic| first
 | with_reducible first | refine ZDr (by assumption) (‹Txt _ _ _›).ZE (‹Txt _ _ _›).ZR ZDs ?_ | refine ZDr (by assumption) (‹Txt _ _ _›).ZE (‹Txt _ _ _›).Zt ZFn ?_ | refine ZDr (by assumption) (‹Txt _ _ _›).ZE (‹Txt _ _ _›).ZU ZIc ?_)
def Tm (t : Int) : Prop := -1099511627776 ≤ t ∧ t < 1099511627776
def ZMu : Sp := fun vs H Q _ => ∃ t : Int, vs = [.int t] ∧ Tm t ∧ Q .non H
theorem ZEz : ZBl ["t"] ["t"] (ZBc ZEA) := ZCM
theorem ZHO (T : Txt K mg a) : ZBh P w K mg base CX0 3 a.YE a.Z6 ["t"] ZMu := by
 refine T.YG.ok ZEz (by walk_at "l") (fun cdv A outer s H vs Q E hr h => ?_)
 ·obtain ⟨t, rfl, ht, q⟩ := h
  unfold Tm at ht
  refine ⟨_, QB.h (ZBb (ZCI (QW.pt (ZDi (ZCp (ZCx (qcS (ZCt T) hr T.Zg T.ZT.kp T.Ze (ZBX (qv 0) ZBY)))) (ZDT (ZBr (ZC8) (qv 0) (ZCi (v := .int 1099511627776) rfl T.YU ⟨_, rfl⟩) (ZBv _))))) (ZBb ZCV) ZB5)), ?_⟩
  walk_at "s"
  walk_at "w"
  refine ⟨_, rfl, .inl ⟨t, rfl, ⟨by omega, by omega⟩, ?_⟩⟩
  walk_at "w"
  refine ZCg ?_
  walk_at "w"
  rw [ZDH]
  refine ZCU (fun h => ?_) (fun h => ?_)
  ·exfalso
   omega
  ·walk_at "w"
   exact q
def ZMv : Sp := fun vs H Q _ => ∃ (p : Addr) (b y m : Int), vs = [.ref p] ∧ H p = some (.tup [.int b, .int y, .int m]) ∧ 0 ≤ m ∧ m ≤ 1000 ∧ InT b ∧ InT (b + m * y) ∧ Q .non H
theorem ZCF : ZBl ["window", "begin", "wide", "many"] ["window"] (ZBc ZDh) := ZCM
theorem ZGb (T : Txt K mg a) : ZBh P w K mg base CX0 4 a.Zs a.Zr ["window"] ZMv := by
 refine T.Zq.ok ZCF (by walk_at "l") (fun cdv A outer s H vs Q E hr h => ?_)
 ·obtain ⟨p, b, y, m, rfl, hp, h0, h1, hb, he, q⟩ := h
  refine ⟨_, QB.h (ZBZ (ZEY (qv 0) (ZDo (n := 3) K rfl rfl (ZB3 (qgN (i := 1) ZCF.nd) (ZB3 (qgN (i := 2) ZCF.nd) (ZB3 (qgN (i := 3) ZCF.nd) ZDO))))) (ZBb (ZB1 (qcS (ZED T) hr T.Zn T.ZP.kp T.Zo (ZBX (qv 1) (ZBX (ZBa ZB6 (qv 1) (ZBa ZB0 (qv 3) (qv 2))) ZBY)))))), ?_⟩
  walk_at "s"
  walk_at "w"
  refine ⟨b, b + m * y, rfl, hb, he, ?_⟩
  walk_at "w"
  exact q
def ZOa (C : Addr) : Sp := fun vs H Q _ => ∃ (p d1 d2 dx : Addr) (n t : Int) (v : V) (o : Option (PL)) (sm : PL) (kvs : List (List Key × V)) (c : Nat), vs = [.ref p, .int t, v] ∧ H p = some (.ins C dx (tfl n d1 d2)) ∧ H d1 = some (.dK (ZB8 sm)) ∧ H d2 = some (.dT kvs) ∧ (sm.map (·.1)).Nodup ∧
 ZCm H kvs sm (fun l s => s ≠ t / 2 ^ l) ∧ kvs.length ≤ 41 * c ∧ c ≤ 1000 ∧ ZBs H v o ∧ Is4 (inS sm 0 t) o ∧ ∀ H', ZBp C H' p n d1 d2 sm (c + 1) → Kp d2 H H' → Q .non H'
theorem ZCy : ZBl ["self", "t", "four", "s", "level", "halves"] ["self", "t", "four"] (ZBc ZEB) := ZCM
theorem ZHP (T : Txt K mg a) : ZBh P w K mg base CX0 3 a.Yn a.Yl ["self", "t", "four"] (ZOa a.ZC) := by
 refine T.ZAI.ok ZCy (by walk_at "l") (fun cdv A outer s H vs Q E hr h => ?_)
 ·obtain ⟨p, d1, d2, dx, n, t, v, o, sm, kvs, c, rfl, hp, h1, h2, hnd, hkf, hlen, hc, hv, ho, k⟩ := h
  have hu := ZFV hr
  have np2 : p ≠ d2 := fun z => by subst z; rw [hp] at h2; cases h2
  have n12 : d1 ≠ d2 := fun z => by subst z; rw [h1] at h2; cases h2
  refine ⟨_, QB.h (ZBZ (ZFZ hu (qv 2) (ZDW K rfl (qv 0)) (ZBq (ZBX ZBW (ZBX (qv 1) ZBY)))) (ZBZ (qsS (i := 3) ZCy.nd (qv 1)) (ZBb (ZDU PassesOwn.never rfl (ZFC rfl T.Y7 (ZBX (ZCi (v := .int 40) rfl T.ZAX ⟨_, rfl⟩) ZBY)) (qgN (i := 4) ZCy.nd) (ZBZ (qsS (i := 3) ZCy.nd (ZBa ZEf (qv 3) ZBW)) (ZBZ (qsS (i := 5) ZCy.nd (ZBq (ZBX (ZF3 hu (ZDW K rfl (qv 0)) (ZBq (ZBX (qv 4) (ZBX (ZBa ZB0 ZBW (qv 3)) ZBY)))) (ZBX (ZF3 hu (ZDW K rfl (qv 0)) (ZBq (ZBX (qv 4) (ZBX (ZBa ZB6 (ZBa ZB0 ZBW (qv 3)) ZBW) ZBY)))) ZBY)))) (ZBb (ZFZ hu (qcS (ZHA T) hr T.ZAM T.Jn.kp T.ZAJ (ZBX (ZCC (ZCP K rfl) (qv 5) ZBW) (ZBX (ZCC (ZCP K rfl) (qv 5) ZBW) ZBY))) (ZDW K rfl (qv 0)) (ZBq (ZBX (ZBa ZB6 (qv 4) ZBW) (ZBX (qv 3) ZBY))))))))))), ?_⟩
  walk_at "s"
  walk_at "w"
  refine ZBk (by show 2 ≤ sizeLine; decide) fun b3 H3 n3 f3 S3 => ?_
  walk_at "w"
  refine ZIG (k := kOf 0 t) (S3 _ _ h2) f3 (Nat.lt_of_le_of_lt (show kvs.length ≤ 41000 by omega) (by decide)) fun H4 f4 K4 => ?_
  have K04 : Kp d2 H H4 := (Kp.same S3).trans K4
  have nt : ∀ (l : List (List Key × V)) (xs : List V), HO.dT l ≠ .tup xs := fun l xs z => by cases z
  have e0 : t / 2 ^ 0 = t := by simp
  have hk4 : ZCm H4 (ZCH kvs (kOf 0 t) v) sm (fun l s => s ≠ t / 2 ^ l ∨ l ≤ 0) := by
   have h := ((hkf.same S3).put (i := 0) (t := t) (hv.same S3) (by rw [e0]; exact ho)).kpX K4 (S3 _ _ h2) (nt _)
   rw [e0] at h
   refine h.mono fun l s hl g => ?_
   rcases g with g | g
   ·exact .inl g
   ·have : l = 0 := by omega
    subst this
    by_cases e : s = t / 2 ^ 0
    ·exact .inr ⟨rfl, e⟩
    ·exact .inl e
  have hl4 : (ZCH kvs (kOf 0 t) v).length ≤ 41 * c + 1 := Nat.le_trans (ZDD _ _ _) (by omega)
  walk_at "w"
  refine ZHn (by decide) (by decide) (ZI8 (fun i σ H' => (∃ v4 v5, σ = [some (.ref p), some (.int t), some v, some (.int (t / 2 ^ i)), v4, v5]) ∧ Kp d2 H H' ∧ ∃ kvs', H' d2 = some (.dT kvs') ∧ ZCm H' kvs' sm (fun l s => s ≠ t / 2 ^ l ∨ l ≤ i) ∧ kvs'.length ≤ 41 * c + 1 + i) ?_ ?_ ?_)
  ·exact ⟨⟨none, none, by rw [e0]; rfl⟩, K04, _, f4, hk4, hl4⟩
  ·rintro i σ H5 hi ⟨⟨v4, v5, rfl⟩, K5, kv5, f5, hk5, hl5⟩
   have hi40 : i < 40 := hi
   have hp5 := K5 _ _ hp np2
   have ez : (0 + (i : Int)) = (i : Int) := by omega
   rw [ez]
   walk_at "w"
   generalize hs : t / 2 ^ i / 2 = s
   have hs1 : t / 2 ^ (i + 1) = s := by rw [ZIT, hs]
   refine ZFI f5 ?_
   walk_at "w"
   refine ZBk (by show 2 ≤ sizeLine; decide) fun b6 H6 n6 f6 S6 => ?_
   refine ZF2 (k := kOf i (2 * s)) (S6 _ _ f5) f6 ?_
   have hp6 := S6 _ _ hp5
   have f56 := S6 _ _ f5
   walk_at "w"
   refine ZFI f56 ?_
   walk_at "w"
   refine ZBk (by show 2 ≤ sizeLine; decide) fun b7 H7 n7 f7 S7 => ?_
   refine ZF2 (k := kOf i (2 * s + 1)) (S7 _ _ f56) f7 ?_
   have S57 := S6.trans S7
   walk_at "w"
   refine ZBk (by show 2 ≤ sizeLine; decide) fun b8 H8 n8 f8 S8 => ?_
   have S58 := S57.trans S8
   have hk8 := hk5.same S58
   obtain ⟨oa, ha1, ha2⟩ := hk8 i (2 * s) (by omega) (.inr (Nat.le_refl _))
   obtain ⟨ob, hb1, hb2⟩ := hk8 i (2 * s + 1) (by omega) (.inr (Nat.le_refl _))
   walk_at "w"
   refine ⟨_, _, oa, ob, _, _, rfl, ha1, ha2, hb1, hb2, ZQB (by omega), fun v9 o9 H9 h9 g9 S9 => ?_⟩
   have g9 : Is4 (inS sm (i + 1) s) o9 := g9.congr fun q => ZMl
   have S59 := S58.trans S9
   have hp9 := S59 _ _ hp5
   walk_at "w"
   refine ZBk (by show 2 ≤ sizeLine; decide) fun b10 H10 n10 f10 S10 => ?_
   have S510 := S59.trans S10
   have f510 := S510 _ _ f5
   refine ZIG (k := kOf (i + 1) s) f510 ?_ (Nat.lt_of_le_of_lt (show kv5.length ≤ 42000 by omega) (by decide)) fun H11 f11 K11 => ?_
   ·rw [f10]
    show some (HO.tup [V.int ((i : Int) + 1), V.int s]) = some (HO.tup [V.int ((i + 1 : Nat) : Int), V.int s])
    rw [show ((i + 1 : Nat) : Int) = (i : Int) + 1 by omega]
   walk_at "w"
   refine ⟨⟨some (.int i), some (.ref b8), by rw [hs1]; rfl⟩, (K5.then S510).trans K11, _, f11, ?_, Nat.le_trans (ZDD _ _ _) (by omega)⟩
   have h := ((hk5.same S510).put (i := i + 1) (t := t) (h9.same S10) (by rw [hs1]; exact g9)).kpX K11 f510 (nt _)
   rw [hs1] at h
   refine h.mono fun l s' hl g => ?_
   rcases g with g | g
   ·exact .inl (.inl g)
   ·by_cases e : l = i + 1
    ·by_cases e2 : s' = t / 2 ^ l
     ·exact .inr ⟨e, e2⟩
     ·exact .inl (.inl e2)
    ·exact .inl (.inr (by omega))
  ·rintro σ H5 ⟨⟨v4, v5, rfl⟩, K5, kv5, f5, hk5, hl5⟩
   walk_at "w"
   refine k H5 ⟨dx, kv5, K5 _ _ hp np2, K5 _ _ h1 n12, f5, hnd, hk5.mono fun l s hl _ => .inr hl, ?_⟩ K5
   have : kv5.length ≤ 41 * c + 1 + 40 := hl5
   omega
def ZLM (C : Addr) : Sp := fun vs H Q _ => ∃ (p d1 d2 : Addr) (n t h : Int) (sm : PL) (c : Nat), vs = [.ref p, .int t, .int h] ∧ ZBp C H p n d1 d2 sm c ∧ Tm t ∧ c ≤ 1000 ∧ sm.length ≤ 1000 ∧
 ∀ H', ZBp C H' p n d1 d2 (ZCL sm t h) (c + 1) → Fr3 p d1 d2 H H' → Q .non H'
theorem ZFo : ZBl ["self", "t", "h"] ["self", "t", "h"] (ZBc ZEv) := ZCM
theorem ZDk (T : Txt K mg a) : ZBh P w K mg base CX0 4 a.YF a.Z9 ["self", "t", "h"] (ZLM a.ZC) := by
 refine T.Jy.ok ZFo (by walk_at "l") (fun cdv A outer s H vs Q E hr h => ?_)
 ·obtain ⟨p, d1, d2, n, t, x, sm, c, rfl, ⟨dx, kvs, hp, h1, h2, hnd, hkf, hlen⟩, ht, hc, hsl, k⟩ := h
  have hu := ZFV hr
  have np1 : p ≠ d1 := fun z => by subst z; rw [hp] at h1; cases h1
  have n21 : d2 ≠ d1 := fun z => by subst z; rw [h1] at h2; cases h2
  refine ⟨_, QB.h (ZBZ (ZB1 (qcS (ZHO T) hr T.JQ T.YG.kp T.JK (ZBX (qv 1) ZBY))) (ZBZ (ZFZ hu (qv 2) (ZDW K rfl (qv 0)) (qv 1)) (ZBb (ZB1 (ZCa (qv 0) T.ZE T.ZAN (ZHP T) hr T.ZAR .nil ZC3 (ZBX (qv 1) (ZBX (qcS (ZJ8 T) hr T.ZAz T.ZAC.kp T.ZAx (ZBX (ZBq (ZBX (ZBq (ZBX (qv 1) (ZBX (qv 2) ZBY))) ZBY)) ZBY)) ZBY))))))), ?_⟩
  walk_at "s"
  walk_at "w"
  refine ⟨t, rfl, ht, ?_⟩
  walk_at "w"
  refine ZH5 h1 (Nat.lt_of_le_of_lt hsl (by decide)) fun H3 f3 K3 => ?_
  have hp3 := K3 _ _ hp np1
  have h23 := K3 _ _ h2 n21
  have hk3 : ZCm H3 kvs (ZCL sm t x) (fun l s => s ≠ t / 2 ^ l) := (ZCm.other hkf fun q hq => by
   rw [ZCl hnd]
   constructor
   ·exact fun z => .inl ⟨hq, z⟩
   ·rintro (z | z)
    ·exact z.2
    ·exact absurd (by rw [z]) hq).kpX K3 h1 (fun xs z => by cases z)
  walk_at "w"
  refine ZCD hp3 ZCf ?_
  walk_at "w"
  refine ZBk (by show 2 ≤ sizeLine; decide) fun b4 H4 n4 f4 S4 => ?_
  walk_at "w"
  refine ZBk (by show 1 ≤ sizeLine; decide) fun b5 H5 n5 f5 S5 => ?_
  walk_at "w"
  refine ⟨b5, [(t, x)], rfl, ⟨_, f5, .cons ⟨b4, rfl, S5 _ _ f4⟩ .nil⟩, List.pairwise_singleton _ _, fun v6 o6 H6 h6 g6 S6 => ?_⟩
  have S36 := S4.trans (S5.trans S6)
  walk_at "w"
  refine ⟨p, d1, d2, dx, n, t, v6, o6, ZCL sm t x, kvs, c, rfl, S36 _ _ hp3, S36 _ _ f3, S36 _ _ h23, ZDV hnd, hk3.same S36, hlen, hc, h6, g6.congr fun q => ?_, fun H7 hT7 K7 => ?_⟩
  ·rw [List.mem_singleton, ZDP, ZCl hnd]
   simp only [Int.pow_zero, Int.ediv_one]
   constructor
   ·rintro rfl
    exact ⟨.inr rfl, rfl⟩
   ·rintro ⟨h1 | h1, h2⟩
    ·exact absurd h2 h1.1
    ·exact h1
  ·walk_at "w"
   exact k H7 hT7 fun b o e e1 e2 e3 => K7 _ _ (S36 _ _ (K3 _ _ e e2)) e3
def ZOb (C : Addr) : Sp := fun vs H Q _ => ∃ (p dx : Addr) (x : V) (cv : PL), vs = [.ref p, x] ∧ H p = some (.ins C dx []) ∧ ((x = .non ∧ cv = []) ∨ ∃ t, x = .ref t ∧ PrT H t cv) ∧ (cv.map (·.1)).Nodup ∧ (∀ q ∈ cv, Tm q.1) ∧ cv.length ≤ 100 ∧
 ∀ (d1 d2 : Addr) (sm : PL) (H' : Hp), H d1 = none → H d2 = none → ZBp C H' p 0 d1 d2 sm cv.length → (∀ q, q ∈ sm ↔ q ∈ cv) → sm.length ≤ cv.length → Kp p H H' → Q .non H'
theorem ZCX : ZBl ["self", "curve", "t", "h"] ["self", "curve"] (ZBc ZB7) := ZCM
theorem ZF9 (T : Txt K mg a) : ZBh P w K mg base CX0 5 a.Zl a.ZQ ["self", "curve"] (ZOb a.ZC) := by
 refine T.Yq.ok ZCX (by walk_at "l") (fun cdv A outer s H vs Q E hr h => ?_)
 ·obtain ⟨p, dx, x, cv, rfl, hp, hx, hnd, htm, hlen, k⟩ := h
  refine ⟨_, QB.h (ZBZ (ZEb K rfl (qv 0) ZBW) (ZBZ (ZEb K rfl (qv 0) ZFw) (ZBZ (ZEb K rfl (qv 0) ZIH) (ZBb (ZCI (ZBr (ZI6) (qv 1) ZDm (ZBv _)) (ZBb (ZDU PassesOwn.never rfl (ZEa K rfl (qv 1)) (ZDo (n := 2) K rfl rfl (ZB3 (qgN (i := 2) ZCX.nd) (ZB3 (qgN (i := 3) ZCX.nd) ZDO))) (ZBb (ZB1 (ZCa (qv 0) T.ZE T.YC (ZDk T) hr T.YI .nil ZC3 (ZBX (qv 2) (ZBX (qv 3) ZBY))))))) ZB5))))), ?_⟩
  walk_at "s"
  walk_at "w"
  refine ZD1 hp T.ZE T.ZR (by show 0 < 1000; decide) fun H1 f1 K1 => ?_
  walk_at "w"
  refine ZFx fun d1 H2 n2 f2 S2 => ?_
  have hp2 := S2 _ _ f1
  have nd1 : d1 ≠ p := fun z => by rw [z, f1] at n2; cases n2
  walk_at "w"
  refine ZD1 hp2 T.ZE T.Zt (by show 1 < 1000; decide) fun H3 f3 K3 => ?_
  have f23 := K3 _ _ f2 nd1
  walk_at "w"
  refine ZII fun d2 H4 n4 f4 S4 => ?_
  have hp4 := S4 _ _ f3
  have nd2 : d2 ≠ p := fun z => by rw [z, f3] at n4; cases n4
  walk_at "w"
  refine ZD1 hp4 T.ZE T.ZU (by show 2 < 1000; decide) fun H5 f5 K5 => ?_
  have f5 : H5 p = some (.ins a.ZC dx (tfl 0 d1 d2)) := by rw [f5, ZJM]
  have K05 : Kp p H H5 := (((K1.then S2).trans K3).then S4).trans K5
  have f25 := K5 _ _ (S4 _ _ f23) nd1
  have f45 := K5 _ _ f4 nd2
  have hn1 : H d1 = none := by
   cases e : H d1 with
   | none => rfl
   | some o =>
    have := K1 _ _ e nd1
    rw [n2] at this
    cases this
  have hn2 : H d2 = none := by
   cases e : H d2 with
   | none => rfl
   | some o =>
    have := ((K1.then S2).trans K3) _ _ e nd2
    rw [n4] at this
    cases this
  have hT5 : ZBp a.ZC H5 p 0 d1 d2 [] 0 := ⟨dx, [], f5, f25, f45, List.nodup_nil, fun l s hl _ => ⟨none, .non, .inl ⟨rfl, rfl⟩⟩, Nat.le_refl _⟩
  walk_at "w"
  rcases hx with ⟨rfl, rfl⟩ | ⟨t, rfl, hT⟩
  ·refine ZJk (fun h => absurd rfl h) (fun _ => ?_)
   walk_at "w"
   exact k d1 d2 [] H5 hn1 hn2 hT5 (fun q => Iff.rfl) (Nat.le_refl _) K05
  ·refine ZJk (fun _ => ?_) (fun h => by cases h)
   obtain ⟨us, g, hP⟩ := hT
   have ntp : ∀ {b : Addr} {xs : List V}, H b = some (.tup xs) → b ≠ p := fun e z => by rw [z, hp] at e; cases e
   have g5 := K05 _ _ g (ntp g)
   walk_at "w"
   refine ZDy (xs := us) (fun i σ H' => (∃ v2 v3, σ = [some (.ref p), some (.ref t), v2, v3]) ∧ Kp p H H' ∧ ∃ sm, ZBp a.ZC H' p 0 d1 d2 sm i ∧ (∀ q, q ∈ sm ↔ q ∈ cv.take i) ∧ sm.length ≤ i) ?_ ?_ ?_ ?_
   ·exact ⟨⟨_, _, rfl⟩, K05, [], hT5, fun q => by rw [List.take_zero], Nat.le_refl _⟩
   ·rintro i σ H6 _ ⟨_, K6, _⟩
    exact SqT.of (K6 _ _ g (ntp g))
   ·rintro i x σ H6 hx ⟨⟨v2, v3, rfl⟩, K6, sm, hT6, hm6, hl6⟩
    obtain ⟨cc, q, rfl, hq, hc⟩ := hP.at hx
    have hc6 := K6 _ _ hc (ntp hc)
    obtain ⟨dx6, kv6, hp6, h16, h26, hnd6, hkf6, hlen6⟩ := id hT6
    have hi : i < cv.length := (List.getElem?_eq_some_iff.mp hq).1
    walk_at "w"
    refine ZCD hp6 ZCf ?_
    walk_at "w"
    refine ⟨p, d1, d2, 0, q.1, q.2, sm, i, rfl, hT6, htm q (List.mem_of_getElem? hq), by omega, by omega, fun H7 hT7 Fr7 => ?_⟩
    walk_at "w"
    refine ⟨⟨_, _, rfl⟩, fun b o e nb => Fr7 _ _ (K6 _ _ e nb) nb (fun z => by rw [z, hn1] at e; cases e) (fun z => by rw [z, hn2] at e; cases e), ZCL sm q.1 q.2, hT7, fun r => ?_, Nat.le_trans (ZD8 _ _ _) (by omega)⟩
    rw [ZCl hnd6, List.take_succ, hq, List.mem_append, hm6]
    have hne : ∀ r ∈ cv.take i, r.1 ≠ q.1 := fun r hr e => by
     obtain ⟨j, hj, rfl⟩ := List.getElem_of_mem hr
     rw [List.length_take] at hj
     rw [List.getElem_take] at e
     obtain ⟨z2, y2⟩ := List.getElem?_eq_some_iff.mp hq
     have : (cv.map (·.1))[j]'(by rw [List.length_map]; omega) = (cv.map (·.1))[i]'(by rw [List.length_map]; omega) := by
      rw [List.getElem_map, List.getElem_map, y2]
      exact e
     have := (List.getElem_inj hnd).mp this
     omega
    constructor
    ·rintro (h | h)
     ·exact .inl h.2
     ·exact .inr (by rw [h]; exact List.mem_cons_self)
    ·rintro (h | h)
     ·exact .inl ⟨hne r h, h⟩
     ·exact .inr (by simpa using h)
   ·rintro σ H6 ⟨⟨v2, v3, rfl⟩, K6, sm, hT6, hm6, hl6⟩
    rw [hP.length] at hT6 hm6 hl6
    rw [List.take_length] at hm6
    walk_at "w"
    exact k d1 d2 sm H6 hn1 hn2 hT6 hm6 hl6 K6
def ZOc (C : Addr) : Sp := fun vs H Q _ => ∃ (p d1 d2 : Addr) (n b e : Int) (sm : PL) (c : Nat), vs = [.ref p, .int b, .int e] ∧ ZBp C H p n d1 d2 sm c ∧ InT b ∧ InT e ∧
 ∀ (v : V) (o : Option (PL)) (prs : PL) (H' : Hp), ZBs H' v o → Is4 (ZCS sm b e) o → Ch e b prs (ZFM b e) → ZBp C H' p (n + prs.length) d1 d2 sm c → Kp p H H' → Q v H'
theorem Ch.cut {e : Int} : ∀ {prs : PL} {x y : Int}, Ch e x prs y → ∀ {i : Nat} {q : Int × Int}, prs[i]? = some q → ∃ z, Ch e x (prs.take i) z ∧ (0 ≤ q.1 ∧ q.1 ≤ 40) ∧ q.2 * 2 ^ q.1.toNat = z ∧ Ch e x (prs.take (i + 1)) (z + 2 ^ q.1.toNat)
 | [], _, _, _, i, q, h => by simp at h
 | p :: r, x, y, hc, 0, q, h => by
  have : p = q := by simpa using h
  subst this
  obtain ⟨h1, h2, h3, h4, h5⟩ := hc
  exact ⟨x, rfl, h1, h2, h1, h2, h3, h4, rfl⟩
 | p :: r, x, y, hc, i + 1, q, h => by
  obtain ⟨h1, h2, h3, h4, h5⟩ := hc
  obtain ⟨z, g1, g2, g3, g4⟩ := Ch.cut h5 (i := i) (q := q) (by simpa using h)
  exact ⟨z, ⟨h1, h2, h3, h4, g1⟩, g2, g3, h1, h2, h3, h4, g4⟩
theorem Ch.fun {e : Int} : ∀ {prs : PL} {x y z : Int}, Ch e x prs y → Ch e x prs z → y = z
 | [], _, _, _, h, g => h.symm.trans g
 | p :: r, x, y, z, h, g => Ch.fun h.2.2.2.2 g.2.2.2.2
theorem ZCZ : ZBl ["self", "begin", "end", "four", "parts", "stretch"] ["self", "begin", "end"] (ZBc ZEP) := ZCM
theorem ZDc (T : Txt K mg a) : ZBh P w K mg base CX0 5 a.YX a.YY ["self", "begin", "end"] (ZOc a.ZC) := by
 refine T.Ja.ok ZCZ (by walk_at "l") (fun cdv A outer s H vs Q E hr h => ?_)
 ·obtain ⟨p, d1, d2, n, b, e, sm, c, rfl, hTr, hb, he, k⟩ := h
  have hu := ZFV hr
  obtain ⟨dx, kvs, hp, h1, h2, hnd, hkf, hlen⟩ := id hTr
  refine ⟨_, QB.h (ZBZ (qsS (i := 3) ZCZ.nd ZDm) (ZBZ (qsS (i := 4) ZCZ.nd (qcS (ZIa T) hr T.Yz T.Zw.kp T.Yv (ZBX (qv 1) (ZBX (qv 2) ZBY)))) (ZBZ (ZDU PassesOwn.never rfl (ZEa K rfl (qv 4)) (qgN (i := 5) ZCZ.nd) (ZBb (qsS (i := 3) ZCZ.nd (qcS (ZHA T) hr.m T.ZAM T.Jn.kp T.ZAJ (ZBX (qv 3) (ZBX (ZF3 hu (ZDW K rfl (qv 0)) (qv 5)) ZBY)))))) (ZBZ (ZKt K rfl (qv 0) (ZBz (ZFD K rfl) rfl T.JD ZE8 (ZBX (qv 4) ZBY))) (ZBb (ZBo (qv 3))))))), ?_⟩
  walk_at "s"
  walk_at "w"
  refine ⟨b, e, rfl, hb, he, fun t prs H1 hT1 hch hpl S1 => ?_⟩
  obtain ⟨us, g1, hP1⟩ := hT1
  have hp1 := S1 _ _ hp
  walk_at "w"
  refine ZDy (xs := us) (fun i σ H' => (∃ v v5, σ = [some (.ref p), some (.int b), some (.int e), some v, some (.ref t), v5] ∧ ∃ o z, ZBs H' v o ∧ Ch e b (prs.take i) z ∧ Is4 (ZCS sm b z) o) ∧ ZBd H1 H') ?_ ?_ ?_ ?_
  ·refine ⟨⟨_, _, rfl, none, b, .non, rfl, .inl ⟨rfl, ?_⟩⟩, ZBd.refl _⟩
   cases e0 : ZCS sm b b with
   | nil => rfl
   | cons q qs =>
    have := (ZCE.mp (show q ∈ ZCS sm b b by rw [e0]; exact List.mem_cons_self)).2
    omega
  ·rintro i σ H' _ ⟨_, S'⟩
   exact SqT.of (S' _ _ g1)
  ·rintro i x σ H2 hx ⟨⟨v, v5, rfl, o, z, hv, hz, ho⟩, S2⟩
   obtain ⟨cc, q, rfl, hq, hc⟩ := (hP1.same S2).at hx
   obtain ⟨z', hz', hq1, hq2, hz2⟩ := Ch.cut hch hq
   obtain rfl := Ch.fun hz hz'
   have S02 := S1.trans S2
   obtain ⟨l, hl⟩ : ∃ l : Nat, q.1 = (l : Int) := ⟨q.1.toNat, by omega⟩
   have hln : q.1.toNat = l := by omega
   rw [hln] at hq2 hz2
   have hp2 := S02 _ _ hp
   have h22 := S02 _ _ h2
   obtain ⟨o2, hf2, hi2⟩ := (hkf.same S02) l q.2 (by omega) trivial
   have e4 : inS sm l q.2 = ZCS sm z (z + 2 ^ l) := by unfold inS; rw [hq2]
   rw [e4] at hi2
   walk_at "w"
   refine ZFI h22 ?_
   walk_at "w"
   refine ZF2 (k := kOf l q.2) h22 (by rw [hc, hl]; rfl) ?_
   refine ⟨v, _, o, o2, _, _, rfl, hv, ho, hf2, hi2, ZMm, fun v3 o3 H3 h3 g3 S3 => ?_⟩
   walk_at "w"
   refine ⟨⟨_, _, rfl, o3, z + 2 ^ l, h3, hz2, g3.congr fun r => ZJ4 hz.le (by have := ZCr l; omega) r⟩, S2.trans S3⟩
  ·rintro σ H2 ⟨⟨v, v5, rfl, o, z, hv, hz, ho⟩, S2⟩
   rw [hP1.length, List.take_length] at hz
   obtain rfl := Ch.fun hz hch
   have S02 := S1.trans S2
   have hp2 := S02 _ _ hp
   have g2 := S2 _ _ g1
   have hul : us.length = prs.length := hP1.length
   walk_at "w"
   refine ZJz hp2 T.ZE T.ZR ZDs ?_
   walk_at "w"
   refine ⟨n, _, rfl, rfl, dx, _, hp2, by show 3 < 1000; decide, ?_⟩
   rw [ZOZ]
   have f3 : (upd H2 p (.ins a.ZC dx (tfl (n + (us.length : Int)) d1 d2))) p = some (.ins a.ZC dx (tfl (n + (us.length : Int)) d1 d2)) := ZBg
   have K3 : Kp p H2 (upd H2 p (.ins a.ZC dx (tfl (n + (us.length : Int)) d1 d2))) := Kp.upd
   generalize upd H2 p (.ins a.ZC dx (tfl (n + (us.length : Int)) d1 d2)) = H3 at f3 K3
   have ntp : ∀ (xs : List V), HO.ins a.ZC dx (tfl n d1 d2) ≠ .tup xs := fun xs z => by cases z
   walk_at "w"
   refine k v o prs H3 (hv.kpX K3 hp2 ntp) (ho.congr fun r => ?_) hch ⟨dx, kvs, by rw [← hul]; exact f3, K3 _ _ (S02 _ _ h1) (fun z => by rw [z, hp] at h1; cases h1), K3 _ _ (S02 _ _ h2) (fun z => by rw [z, hp] at h2; cases h2), hnd, (hkf.same S02).kpX K3 hp2 ntp, hlen⟩ ((Kp.same S02).trans K3)
   rw [ZCE, ZCE]
   unfold ZFM
   split
   ·exact Iff.rfl
   ·constructor
    ·rintro ⟨_, g1, g2⟩
     omega
    ·rintro ⟨_, g1, g2⟩
     omega
end
theorem ZBp.kpX {C : Addr} {H H' : Hp} {p d1 d2 l : Addr} {n : Int} {sm : PL} {c : Nat} {xs : List V} (h : ZBp C H p n d1 d2 sm c) (k : Kp l H H') (hl : H l = some (.lst xs)) : ZBp C H' p n d1 d2 sm c := by
 obtain ⟨dx, kvs, h1, h2, h3, h4, h5, h6⟩ := h
 exact ⟨dx, kvs, k _ _ h1 (fun z => by rw [z, hl] at h1; cases h1), k _ _ h2 (fun z => by rw [z, hl] at h2; cases h2), k _ _ h3 (fun z => by rw [z, hl] at h3; cases h3), h4, h5.kpX k hl (fun _ z => by cases z), h6⟩
theorem ZFO {p d1 d2 : Addr} {H H' : Hp} (h : Kp p H H') : Fr3 p d1 d2 H H' := fun b o e e1 _ _ => h b o e e1
theorem ZBp.keepT {C : Addr} {H H' : Hp} {p d1 d2 : Addr} {n : Int} {sm : PL} {c : Nat} (g : ZBp C H p n d1 d2 sm c) (f : Fr3 p d1 d2 H H') {b : Addr} {xs : List V} (e : H b = some (.tup xs)) : H' b = some (.tup xs) := by
 obtain ⟨dy, kws, g1, g2, g3, _⟩ := g
 exact f _ _ e (fun z => by rw [z, g1] at e; cases e) (fun z => by rw [z, g2] at e; cases e) (fun z => by rw [z, g3] at e; cases e)
theorem ZBp.keepL {C : Addr} {H H' : Hp} {p d1 d2 : Addr} {n : Int} {sm : PL} {c : Nat} (g : ZBp C H p n d1 d2 sm c) (f : Fr3 p d1 d2 H H') {b : Addr} {xs : List V} (e : H b = some (.lst xs)) : H' b = some (.lst xs) := by
 obtain ⟨dy, kws, g1, g2, g3, _⟩ := g
 exact f _ _ e (fun z => by rw [z, g1] at e; cases e) (fun z => by rw [z, g2] at e; cases e) (fun z => by rw [z, g3] at e; cases e)
theorem ZBp.keepP {C : Addr} {H H' : Hp} {p d1 d2 : Addr} {n : Int} {sm : PL} {c : Nat} (g : ZBp C H p n d1 d2 sm c) (f : Fr3 p d1 d2 H H') {b : Addr} {cv : PL} (e : PrT H b cv) : PrT H' b cv := by
 obtain ⟨us, h1, h2⟩ := e
 exact ⟨us, g.keepT f h1, Paired.mapP h2 fun _ _ ⟨a, e, z⟩ => ⟨a, e, g.keepT f z⟩⟩
theorem ZBp.nd {C : Addr} {H : Hp} {p d1 d2 : Addr} {n : Int} {sm : PL} {c : Nat} (g : ZBp C H p n d1 d2 sm c) : (sm.map (·.1)).Nodup := by
 obtain ⟨dy, kws, g1, g2, g3, g4, _⟩ := g
 exact g4
theorem ZMw {m : PL} (hn : (m.map (·.1)).Nodup) : ∀ q, q ∈ ZB4 m ↔ q ∈ m := by
 have main : ∀ i : Nat, i ≤ m.length → ∀ q, q ∈ ZB4 (m.take i) ↔ q ∈ m.take i := by
  intro i
  induction i with
  | zero => intro _ q; rw [List.take_zero]; exact Iff.rfl
  | succ i ih =>
   intro hi q
   have hp : m[i]? = some m[i] := List.getElem?_eq_getElem (by omega)
   have e : m.take (i + 1) = m.take i ++ [m[i]] := by rw [List.take_succ, hp]; rfl
   rw [e, ZEJ, ZCl (ZCw _), ih (by omega), List.mem_append, List.mem_singleton]
   have hne : ∀ r ∈ m.take i, r.1 ≠ m[i].1 := fun r hr z => by
    obtain ⟨j, hj, rfl⟩ := List.getElem_of_mem hr
    rw [List.length_take] at hj
    rw [List.getElem_take] at z
    have : (m.map (·.1))[j]'(by rw [List.length_map]; omega) = (m.map (·.1))[i]'(by rw [List.length_map]; omega) := by
     rw [List.getElem_map, List.getElem_map]
     exact z
    have := (List.getElem_inj hn).mp this
    omega
   constructor
   ·rintro (h | h)
    ·exact .inl h.2
    ·exact .inr h
   ·rintro (h | h)
    ·exact .inl ⟨hne q h, h⟩
    ·exact .inr h
 intro q
 have := main m.length (Nat.le_refl _) q
 rwa [List.take_length] at this
section
variable {P : Program} {w : World} {K : W.Frag} {mg : Str → Option Value} {base : Heap} {a : Ad}
local macro_rules | `(tactic| walk_at "rd") => `(tactic| first
 | with_reducible first | refine ZDr (by assumption) (‹Txt _ _ _›).ZE (‹Txt _ _ _›).ZR ZDs ?_ | refine ZDr (by assumption) (‹Txt _ _ _›).ZE (‹Txt _ _ _›).Zt ZFn ?_ | refine ZDr (by assumption) (‹Txt _ _ _›).ZE (‹Txt _ _ _›).ZU ZIc ?_)
def ZMx (H : Hp) (q : Addr) (b y m : Int) : Prop := H q = some (.tup [.int b, .int y, .int m]) ∧ 0 < y ∧ 1 ≤ m ∧ m ≤ 100 ∧ InT b ∧ InT (b + m * y)
theorem ZMx.col {H : Hp} {q : Addr} {b y m : Int} (h : ZMx H q b y m) {k : Int} (h0 : 0 ≤ k) (h1 : k < m) : InT (b + k * y) ∧ InT (b + k * y + y) := by
 obtain ⟨_, hy, _, _, hb, he⟩ := h
 have g1 : 0 ≤ k * y := Int.mul_nonneg h0 (by omega)
 have g2 : (k + 1) * y ≤ m * y := Int.mul_le_mul_of_nonneg_right (by omega) (by omega)
 rw [Int.add_mul, Int.one_mul] at g2
 unfold InT at *
 constructor <;> constructor <;> omega
def ZMy (C : Addr) : Sp := fun vs H Q _ => ∃ (p q d1 d2 : Addr) (n b y m : Int) (sm : PL) (c : Nat), vs = [.ref p, .ref q] ∧ ZBp C H p n d1 d2 sm c ∧ ZMx H q b y m ∧
 ∀ (u : Addr) (us : List V) (fs : List (Option (PL))) (n' : Int) (H' : Hp), H' u = some (.tup us) → ZCR H' us fs → ZQA sm b y m.toNat fs → ZBp C H' p n' d1 d2 sm c → Kp p H H' → Q (.ref u) H'
theorem ZE0 : ZBl ["self", "window"] ["self", "window"] (ZBc ZDa) := ZCM
theorem ZE1 (T : Txt K mg a) : ZBh P w K mg base CX0 6 a.YJ a.YB ["self", "window"] (ZMy a.ZC) := by
 refine T.JU.ok ZE0 (by walk_at "l") (fun cdv A outer s H vs Q E hr h => ?_)
 ·obtain ⟨p, q, d1, d2, n, b, y, m, sm, c, rfl, hTr, hW, k⟩ := h
  obtain ⟨hq, hy, hm1, hm2, hb, he⟩ := id hW
  refine ⟨_, QB.h (ZBZ (ZB1 (qcS (ZGb T) hr.m T.Y6 T.Zq.kp T.Y5 (ZBX (qv 1) ZBY))) (ZBb (ZBo (ZCh (ZD7 K rfl) rfl T.YT ZD5 (ZBX (ZD0 (N := ["self", "window"]) (sc := ZBc ZDa) (own := ["first", "behind"]) (caps := ["self"]) (ks := [0]) rfl rfl rfl ⟨rfl, by decide +kernel, by decide +kernel, by decide +kernel, by decide +kernel, rfl, by decide +kernel⟩ (ZEZ K rfl (qcS (ZHN T) hr.m T.ZAL T.JS.kp T.ZAO (ZBX (qv 1) ZBY))) (fun _ _ _ _ _ => ZDo (n := 2) K rfl rfl (ZB3 (ZDN (i := 0) (show List.Nodup (α := Str) ["first", "behind", "self"] from by decide +kernel) rfl (by walk_at "o") (.inr rfl)) (ZB3 (ZDN (i := 1) (show List.Nodup (α := Str) ["first", "behind", "self"] from by decide +kernel) rfl (by walk_at "o") (.inr rfl)) ZDO))) (fun _ _ _ _ _ => ZD6) (fun _ _ _ _ _ => ZCa (qv 2) T.ZE T.Z0 (ZDc T) hr T.Zz .nil ZC3 (ZBX (qv 0) (ZBX (qv 1) ZBY)))) ZBY))))), ?_⟩
  walk_at "s"
  walk_at "w"
  refine ⟨q, b, y, m, rfl, hq, by omega, by omega, hb, he, ?_⟩
  walk_at "w"
  refine ⟨q, b, y, m, rfl, hq, hm1, by omega, fun l0 us0 H1 n1 f1 hP1 S1 => ?_⟩
  have hT1 := hTr.same S1
  have np1 : ∀ {b : Addr} {xs : List V}, H1 b = some (.tup xs) → b ≠ p := fun e z => by
   obtain ⟨dy, kws, g1, _⟩ := hT1
   rw [z, g1] at e; cases e
  have nl1 : l0 ≠ p := fun z => by
   obtain ⟨dy, kws, g1, _⟩ := hT1
   rw [z, g1] at f1; cases f1
  walk_at "w"
  intro l n2
  have nlp : l ≠ p := fun z => by
   obtain ⟨dy, kws, g1, _⟩ := hT1
   rw [z, g1] at n2; cases n2
  refine ZDz m.toNat (fun i σ' H' => (∃ o1 o2, σ' = [o1, o2, some (.ref p)]) ∧ Kp p H1 H' ∧ (∃ n', ZBp a.ZC H' p n' d1 d2 sm c) ∧ ∃ vs fs, H' l = some (.lst vs) ∧ ZCR H' vs fs ∧ fs.length = i ∧ ∀ (k : Nat) o, fs[k]? = some o → Is4 (ZCS sm (b + (k : Int) * y) (b + (k : Int) * y + y)) o) ?_ ?_ ?_
  ·exact ⟨⟨none, none, rfl⟩, Kp.same (ZBd.new n2), ⟨n, hT1.same (ZBd.new n2)⟩, [], [], ZBg, .nil, rfl, fun k o h => by simp at h⟩
  ·rintro σ' H2 ⟨_, K2, ⟨n', hT2⟩, vs, fs, f2, hF2, hfl, hO2⟩
   refine ⟨⟨_, SqL.of (K2 _ _ f1 nl1), by rw [hP1.length, ZFN]; exact Nat.le_refl _⟩, ?_⟩
   walk_at "w"
   refine ZEX (SqL.of f2) fun u H3 n3 f3 S3 => ?_
   exact k u vs fs n' H3 f3 (hF2.same S3) ⟨hfl, hO2⟩ (hT2.same S3) (((Kp.same S1).trans K2).then S3)
  ·rintro i σ' H2 hi ⟨⟨o1, o2, rfl⟩, K2, ⟨n', hT2⟩, vs, fs, f2, hF2, hfl, hO2⟩
   have hi2 : i < us0.length := by rw [hP1.length, ZFN]; exact hi
   have f12 := K2 _ _ f1 nl1
   refine ⟨⟨_, _, SqL.of f12, List.getElem?_eq_getElem hi2⟩, ?_⟩
   rintro x H'' ⟨rfl, hx⟩
   have hx := hx _ (SqL.of f12)
   obtain ⟨u, pr, rfl, hpr, f3⟩ := hP1.at hx
   have hpr := ZMt hpr
   subst hpr
   have f32 := K2 _ _ f3 (np1 f3)
   obtain ⟨w1, w2⟩ := hW.col (k := (i : Int)) (by omega) (by omega)
   obtain ⟨dx, kvs, hp2, _⟩ := id hT2
   walk_at "w"
   refine ZDR ?_
   walk_at "w"
   refine ZCD hp2 ZCf ?_
   walk_at "w"
   refine ⟨p, d1, d2, n', _, _, sm, c, rfl, hT2, w1, w2, fun v o3 prs H3 h3 g3 _ hT3 K3 => ?_⟩
   have fl3 := K3 _ _ f2 nlp
   have hF3 : ZCR H3 vs fs := hF2.mapP fun _ _ d => d.kpX K3 hp2 (fun _ z => by cases z)
   refine ⟨vs, fl3, ?_, ⟨_, _, rfl⟩, ?_, ⟨_, hT3.kpX Kp.upd fl3⟩, vs ++ [v], fs ++ [o3], ZBg, (hF3.snoc h3).mapP fun _ _ d => d.kpL Kp.upd fl3, by simp [hfl], ?_⟩
   ·rw [hF2.len, hfl]
    exact Nat.lt_of_lt_of_le (show i < 100 by omega) (by decide)
   ·intro b' o' e nb
    rw [ZBn (fun z => by rw [z, n2] at e; cases e)]
    exact (K2.trans K3) b' o' e nb
   ·intro k' o' h'
    rw [List.getElem?_append] at h'
    split at h'
    ·exact hO2 k' o' h'
    ·have : k' = i := by
      have := (List.getElem?_eq_some_iff.mp h').1
      simp at this
      omega
     subst this
     rw [hfl, Nat.sub_self] at h'
     have : o3 = o' := by simpa using h'
     subst this
     exact g3
def ZOd (C : Addr) : Sp := fun vs H Q _ => ∃ (p d1 d2 : Addr) (n : Int) (sm : PL) (c : Nat), vs = [.ref p] ∧ ZBp C H p n d1 d2 sm c ∧ sm.length < 64 ∧
 ∀ (t : Addr) (cv : PL) (H' : Hp), PrT H' t cv → Asc cv → (∀ q, q ∈ cv ↔ q ∈ sm) → ZBd H H' → Q (.ref t) H'
theorem ZId : ZBl ["self"] ["self"] (ZBc ZEQ) := ZCM
theorem ZFP (T : Txt K mg a) : ZBh P w K mg base CX0 2 a.Yt a.Y2 ["self"] (ZOd a.ZC) := by
 refine T.ZAV.ok ZId (by walk_at "l") (fun cdv A outer s H vs Q E hr h => ?_)
 ·obtain ⟨p, d1, d2, n, sm, c, rfl, hTr, hl, k⟩ := h
  obtain ⟨dx, kvs, hp, h1, h2, hnd, hkf, hlen⟩ := id hTr
  refine ⟨_, QB.h (ZBb (ZBo (qcS (ZIt T) hr T.ZAs T.Jz.kp T.ZAu (ZBX (ZKz rfl rfl T.ZAQ (ZDW K rfl (qv 0))) ZBY)))), ?_⟩
  walk_at "s"
  walk_at "w"
  refine ZK0 h1 (by omega) fun l H1 n1 hL1 S1 => ?_
  obtain ⟨vs, f1, hP1⟩ := hL1
  walk_at "w"
  refine ⟨true, l, vs, sm, rfl, f1, hP1, hl, fun t cv H2 hT2 hC _ S2 => ?_⟩
  refine k t cv H2 hT2 hC.1 (fun q => ?_) (S1.trans S2)
  obtain ⟨x, y⟩ := q
  rw [hC.2, ZDL (ZCw _), ZMw hnd]
end
section
variable {P : Program} {w : World} {K : W.Frag} {mg : Str → Option Value} {base : Heap} {a : Ad}
def ZOe (C D : Addr) : Sp := fun vs H _ E => ∃ (p d1 d2 : Addr) (n : Int) (b e : V) (sm : PL) (c : Nat), vs = [.ref p, b, e] ∧ ZBp C H p n d1 d2 sm c ∧ ZKA H b e ∧ E (.ref D) none H
theorem ZHQ (T : Txt K mg a) : ZBh P w K mg base (CX1 P w) 5 a.YX a.YY ["self", "begin", "end"] (ZOe a.ZC a.ZA) := by
 refine T.Ja.okx ZCZ (by walk_at "l") (fun cdv A outer s H vs Q E hr h => ?_)
 ·obtain ⟨p, d1, d2, n, b, e, sm, c, rfl, hTr, hn, q⟩ := h
  refine ⟨_, QB.h (ZBZ (qsS (i := 3) ZCZ.nd ZDm) (ZBZ (qsS (i := 4) ZCZ.nd (ZDJ (ZEy T) hr rfl T.Yz T.Zw.kp T.Yv .nil ZDX (ZBX (qv 1) (ZBX (qv 2) ZBY)))) (ZBZ ZCV (ZBZ ZCV (ZBb ZCV))))), ?_⟩
  walk_at "s"
  walk_at "w"
  exact ⟨b, e, rfl, hn, q⟩
def ZQC (D : Addr) : Sp := fun vs H _ E => ∃ (p : Addr) (b y m : Int), vs = [.ref p] ∧ H p = some (.tup [.int b, .int y, .int m]) ∧ 0 ≤ m ∧ m ≤ 1000 ∧ ¬ (InT b ∧ InT (b + m * y)) ∧ E (.ref D) none H
theorem ZGA (T : Txt K mg a) : ZBh P w K mg base (CX1 P w) 4 a.Zs a.Zr ["window"] (ZQC a.ZA) := by
 refine T.Zq.okx ZCF (by walk_at "l") (fun cdv A outer s H vs Q E hr h => ?_)
 ·obtain ⟨p, b, y, m, rfl, hp, h0, h1, hn, q⟩ := h
  refine ⟨_, QB.h (ZBZ (ZEY (qv 0) (ZDo (n := 3) K rfl rfl (ZB3 (qgN (i := 1) ZCF.nd) (ZB3 (qgN (i := 2) ZCF.nd) (ZB3 (qgN (i := 3) ZCF.nd) ZDO))))) (ZBb (ZB1 (ZDJ (ZDu T) hr rfl T.Zn T.ZP.kp T.Zo .nil ZDX (ZBX (qv 1) (ZBX (ZBa ZB6 (qv 1) (ZBa ZB0 (qv 3) (qv 2))) ZBY)))))), ?_⟩
  walk_at "s"
  walk_at "w"
  exact ⟨_, _, rfl, ZMs hn, q⟩
def ZMz (C D : Addr) : Sp := fun vs H _ E => ∃ (p q d1 d2 : Addr) (n b y m : Int) (sm : PL) (c : Nat), vs = [.ref p, .ref q] ∧ ZBp C H p n d1 d2 sm c ∧ H q = some (.tup [.int b, .int y, .int m]) ∧ 0 ≤ m ∧ m ≤ 1000 ∧ ¬ (InT b ∧ InT (b + m * y)) ∧ E (.ref D) none H
theorem ZGt (T : Txt K mg a) : ZBh P w K mg base (CX1 P w) 6 a.YJ a.YB ["self", "window"] (ZMz a.ZC a.ZA) := by
 refine T.JU.okx ZE0 (by walk_at "l") (fun cdv A outer s H vs Q E hr h => ?_)
 ·obtain ⟨p, q, d1, d2, n, b, y, m, sm, c, rfl, hTr, hq, h0, h1, hn, k⟩ := h
  refine ⟨_, QB.h (ZBZ (ZB1 (ZDJ (ZGA T) hr.m rfl T.Y6 T.Zq.kp T.Y5 .nil ZDX (ZBX (qv 1) ZBY))) (ZBb ZCV)), ?_⟩
  walk_at "s"
  walk_at "w"
  exact ⟨q, b, y, m, rfl, hq, h0, h1, hn, k⟩
def ZLN (C : Addr) : Sp := fun vs H _ E => ∃ t : Int, vs = [.int t] ∧ ¬ Tm t ∧ E (.ref C) none H
theorem ZGu (T : Txt K mg a) : ZBh P w K mg base (CX1 P w) 3 a.YE a.Z6 ["t"] (ZLN a.ZA) := by
 refine T.YG.okx ZEz (by walk_at "l") (fun cdv A outer s H vs Q E hr h => ?_)
 ·obtain ⟨t, rfl, hn, q⟩ := h
  unfold Tm at hn
  refine ⟨_, QB.h (ZBb (ZCI (QW.pt (ZDi (ZCp (ZCx (qcS (ZCt T) hr T.Zg T.ZT.kp T.Ze (ZBX (qv 0) ZBY)))) (ZDT (ZBr (ZC8) (qv 0) (ZCi (v := .int 1099511627776) rfl T.YU ⟨_, rfl⟩) (ZBv _))))) (ZBb (ZIR T.YD rfl T.Yh (ZBX ZKg ZBY))) ZB5)), ?_⟩
  walk_at "s"
  walk_at "w"
  by_cases hb : InT t
  ·refine ⟨_, rfl, .inl ⟨t, rfl, hb, ?_⟩⟩
   unfold InT at hb
   walk_at "w"
   refine ZCg ?_
   walk_at "w"
   rw [ZDH]
   refine ZCU (fun h => ?_) (fun h => ?_)
   ·walk_at "w"
    exact ZEo (by decide) q
   ·exfalso
    omega
  ·refine ⟨_, rfl, .inr ⟨.inl ⟨t, rfl, hb⟩, ?_⟩⟩
   walk_at "w"
   refine ZDR ?_
   walk_at "w"
   exact ZEo (by decide) q
def ZLO (C D : Addr) : Sp := fun vs H _ E => ∃ (p d1 d2 : Addr) (n t : Int) (h : V) (sm : PL) (c : Nat), vs = [.ref p, .int t, h] ∧ ZBp C H p n d1 d2 sm c ∧ ¬ Tm t ∧ E (.ref D) none H
theorem ZIe (T : Txt K mg a) : ZBh P w K mg base (CX1 P w) 4 a.YF a.Z9 ["self", "t", "h"] (ZLO a.ZC a.ZA) := by
 refine T.Jy.okx ZFo (by walk_at "l") (fun cdv A outer s H vs Q E hr h => ?_)
 ·obtain ⟨p, d1, d2, n, t, x, sm, c, rfl, hTr, hn, q⟩ := h
  refine ⟨_, QB.h (ZBZ (ZB1 (ZDJ (ZGu T) hr rfl T.JQ T.YG.kp T.JK .nil ZDX (ZBX (qv 1) ZBY))) (ZBZ ZCV (ZBb ZCV))), ?_⟩
  walk_at "s"
  walk_at "w"
  exact ⟨t, rfl, hn, q⟩
theorem ZFQ (T : Txt K mg a) : ZBh P w K mg base (CX1 P w) 4 a.YF a.Z9 ["self", "t", "h"] (fun vs H Q E => ZLM a.ZC vs H Q E ∨ ZLO a.ZC a.ZA vs H Q E) := (ZDk T).lift.or (ZIe T)
end
section
variable {P : Program} {w : World} {K : W.Frag} {mg : Str → Option Value} {base : Heap} {a : Ad}
local macro_rules | `(tactic| walk_at "rd") => `(tactic| first
 | with_reducible refine ZDr (by assumption) (‹Txt _ _ _›).ZE (‹Txt _ _ _›).ZR ZDs ?_)
def ZOf (C D : Addr) : Sp := fun vs H _ E => ∃ (p dx t : Addr) (cv : PL), vs = [.ref p, .ref t] ∧ H p = some (.ins C dx []) ∧ PrT H t cv ∧ (cv.map (·.1)).Nodup ∧ (∃ q ∈ cv, ¬ Tm q.1) ∧ cv.length ≤ 100 ∧ ∀ H', Kp p H H' → E (.ref D) none H'
theorem ZFf (T : Txt K mg a) : ZBh P w K mg base (CX1 P w) 5 a.Zl a.ZQ ["self", "curve"] (ZOf a.ZC a.ZA) := by
 refine T.Yq.okx ZCX (by walk_at "l") (fun cdv A outer s H vs Q E hr h => ?_)
 ·obtain ⟨p, dx, t, cv, rfl, hp, hT, hnd, hbad, hlen, k⟩ := h
  refine ⟨_, QB.h (ZBZ (ZEb K rfl (qv 0) ZBW) (ZBZ (ZEb K rfl (qv 0) ZFw) (ZBZ (ZEb K rfl (qv 0) ZIH) (ZBb (ZCI (ZBr (ZI6) (qv 1) ZDm (ZBv _)) (ZBb (ZDU PassesOwn.leaving rfl (ZEa K rfl (qv 1)) (ZDo (n := 2) K rfl rfl (ZB3 (qgN (i := 2) ZCX.nd) (ZB3 (qgN (i := 3) ZCX.nd) ZDO))) (ZBb (ZB1 (ZCa (qv 0) T.ZE T.YC (ZFQ T) hr T.YI .nil ZDX (ZBX (qv 2) (ZBX (qv 3) ZBY))))))) ZB5))))), ?_⟩
  walk_at "s"
  walk_at "w"
  refine ZD1 hp T.ZE T.ZR (by show 0 < 1000; decide) fun H1 f1 K1 => ?_
  walk_at "w"
  refine ZFx fun d1 H2 n2 f2 S2 => ?_
  have hp2 := S2 _ _ f1
  have nd1 : d1 ≠ p := fun z => by rw [z, f1] at n2; cases n2
  walk_at "w"
  refine ZD1 hp2 T.ZE T.Zt (by show 1 < 1000; decide) fun H3 f3 K3 => ?_
  have f23 := K3 _ _ f2 nd1
  walk_at "w"
  refine ZII fun d2 H4 n4 f4 S4 => ?_
  have hp4 := S4 _ _ f3
  have nd2 : d2 ≠ p := fun z => by rw [z, f3] at n4; cases n4
  walk_at "w"
  refine ZD1 hp4 T.ZE T.ZU (by show 2 < 1000; decide) fun H5 f5 K5 => ?_
  have f5 : H5 p = some (.ins a.ZC dx (tfl 0 d1 d2)) := by rw [f5, ZJM]
  have K05 : Kp p H H5 := (((K1.then S2).trans K3).then S4).trans K5
  have f25 := K5 _ _ (S4 _ _ f23) nd1
  have f45 := K5 _ _ f4 nd2
  have hn1 : H d1 = none := by
   cases e : H d1 with
   | none => rfl
   | some o =>
    have := K1 _ _ e nd1
    rw [n2] at this
    cases this
  have hn2 : H d2 = none := by
   cases e : H d2 with
   | none => rfl
   | some o =>
    have := ((K1.then S2).trans K3) _ _ e nd2
    rw [n4] at this
    cases this
  have hT5 : ZBp a.ZC H5 p 0 d1 d2 [] 0 := ⟨dx, [], f5, f25, f45, List.nodup_nil, fun l s hl _ => ⟨none, .non, .inl ⟨rfl, rfl⟩⟩, Nat.le_refl _⟩
  walk_at "w"
  ·refine ZJk (fun _ => ?_) (fun h => by cases h)
   obtain ⟨us, g, hP⟩ := hT
   have ntp : ∀ {b : Addr} {xs : List V}, H b = some (.tup xs) → b ≠ p := fun e z => by rw [z, hp] at e; cases e
   have g5 := K05 _ _ g (ntp g)
   walk_at "w"
   refine ZDy (xs := us) (fun i σ H' => (∃ v2 v3, σ = [some (.ref p), some (.ref t), v2, v3]) ∧ Kp p H H' ∧ (∀ q ∈ cv.take i, Tm q.1) ∧ ∃ sm, ZBp a.ZC H' p 0 d1 d2 sm i ∧ sm.length ≤ i) ?_ ?_ ?_ ?_
   ·exact ⟨⟨_, _, rfl⟩, K05, (fun q hq => by rw [List.take_zero] at hq; cases hq), [], hT5, Nat.le_refl _⟩
   ·rintro i σ H6 _ ⟨_, K6, _⟩
    exact SqT.of (K6 _ _ g (ntp g))
   ·rintro i x σ H6 hx ⟨⟨v2, v3, rfl⟩, K6, hm6, sm, hT6, hl6⟩
    obtain ⟨cc, q, rfl, hq, hc⟩ := hP.at hx
    have hc6 := K6 _ _ hc (ntp hc)
    obtain ⟨dx6, kv6, hp6, h16, h26, hnd6, hkf6, hlen6⟩ := id hT6
    have hi : i < cv.length := (List.getElem?_eq_some_iff.mp hq).1
    walk_at "w"
    refine ZCD hp6 ZCf ?_
    walk_at "w"
    by_cases hq6 : Tm q.1
    ·refine .inl ⟨p, d1, d2, 0, q.1, q.2, sm, i, rfl, hT6, hq6, by omega, by omega, fun H7 hT7 Fr7 => ?_⟩
     walk_at "w"
     refine ⟨⟨_, _, rfl⟩, fun b o e nb => Fr7 _ _ (K6 _ _ e nb) nb (fun z => by rw [z, hn1] at e; cases e) (fun z => by rw [z, hn2] at e; cases e), fun r hr => ?_, ZCL sm q.1 q.2, hT7, Nat.le_trans (ZD8 _ _ _) (by omega)⟩
     rw [List.take_succ, hq, List.mem_append] at hr
     rcases hr with hr | hr
     ·exact hm6 r hr
     ·have : r = q := by simpa using hr
      rw [this]; exact hq6
    ·exact .inr ⟨p, d1, d2, 0, q.1, .int q.2, sm, i, rfl, hT6, hq6, k H6 K6⟩
   ·rintro σ H6 ⟨⟨v2, v3, rfl⟩, K6, hm6, sm, hT6, hl6⟩
    rw [hP.length, List.take_length] at hm6
    obtain ⟨q, hq, hb⟩ := hbad
    exact absurd (hm6 q hq) hb
end
def ZQD (K : W.Frag) : Sp := fun vs H Q _ => ∃ (s : Addr) (ns : List Int) (k : Int), vs = [.ref s, .int k] ∧ SqL K H s (ns.map V.int) ∧ 0 ≤ k ∧ Q (.int (ns.getD k.toNat 0)) H
def ZQb : Sp := fun vs H Q _ => ∃ c : Int, vs = [.int c] ∧ ∀ (p : Addr) (H' : Hp), H p = none → Pot H' p → ZBd H H' → Q (.ref p) H'
def ZQE : Sp := fun vs H Q _ => ∃ (p : Addr) (n : Int), vs = [.ref p, .int n] ∧ Pot H p ∧ 0 < n ∧ n < 2 ^ 250 ∧ ∀ (d : Int) (H' : Hp), 0 ≤ d → d < n → Pot H' p → Kp p H H' → Q (.int d) H'
section
variable {P : Program} {w : World} {K : W.Frag} {mg : Str → Option Value} {base : Heap} {a : Ad}
theorem ZLP : ZBl ["_law_script", "_law_k"] ["_law_script", "_law_k"] (ZBc ZF6) := ZCM
theorem ZFR (T : Txt K mg a) : ZBh P w K mg base CX0 1 a.Jl a.Jr ["_law_script", "_law_k"] (ZQD K) := by
 refine T.JE.ok ZLP (by walk_at "l") (fun cdv A outer s H vs Q E hr h => ?_)
 ·obtain ⟨p, ns, k, rfl, hS, hk, q⟩ := h
  refine ⟨_, QB.h (ZBb (ZBo (ZFt (ZBr (ZGE) (qv 1) (ZBz (ZFD K rfl) rfl T.JD ZE8 (ZBX (qv 0) ZBY)) (ZBv _)) (ZCC (ZDB K rfl) (qv 0) (qv 1)) ZBW))), ?_⟩
  walk_at "s"
  walk_at "w"
  rw [List.length_map]
  refine ZCU (fun h => ?_) (fun h => ?_)
  ·walk_at "w"
   obtain ⟨n, rfl⟩ : ∃ n : Nat, k = (n : Int) := ⟨k.toNat, by omega⟩
   have hk2 : n < ns.length := by omega
   refine ZE9 (v := .int (ns.getD n 0)) hS (ZFU ?_) q
   rw [List.getElem?_map, List.getElem?_eq_getElem hk2]
   simp [List.getD, hk2]
  ·walk_at "w"
   have e : ns.getD k.toNat 0 = 0 := by
    rw [List.getD, List.getElem?_eq_none (by omega)]
    rfl
   rw [e] at q
   exact q
theorem ZM0 : ZBl ["_law_cell_here"] ["_law_cell_here"] (ZBc ZGr) := ZCM
theorem ZIf (T : Txt K mg a) : ZBh P w K mg base CX0 1 a.J9 a.J8 ["_law_cell_here"] ZQb := by
 refine T.J6.ok ZM0 (by walk_at "l") (fun cdv A outer s H vs Q E hr h => ?_)
 ·obtain ⟨c, rfl, k⟩ := h
  refine ⟨_, QB.h (ZBb (ZBo (ZDn (ZBX (ZBa ZB0 (qv 0) (ZCh ZKd rfl T.Jv ZHj (ZBX (ZGg (ZM3) (qv 0) (ZBa ZBm ZBW ZBW) (ZBv _)) ZBY))) (ZBX (ZBa ZEV (ZBa ZB6 (ZBa ZB0 (qv 0) ZBW) ZBW) ZBW) ZBY))))), ?_⟩
  walk_at "s"
  walk_at "w"
  refine ZBk (by show 2 ≤ sizeLine; decide) fun p H2 hp f2 S2 => ?_
  refine k p H2 hp ⟨_, _, f2, ?_, Int.emod_nonneg _ (by decide), ?_⟩ S2
  ·split
   ·rename_i h
    have := of_decide_eq_true h
    omega
   ·omega
  ·exact Int.lt_of_lt_of_le (Int.emod_lt_of_pos _ (by decide)) (by decide)
theorem ZHB : ZBl ["_law_pot_here", "_law_many", "_law_digit"] ["_law_pot_here", "_law_many"] (ZBc ZF7) := ZCM
theorem ZBx (T : Txt K mg a) : ZBh P w K mg base CX0 1 a.Jh a.Jo ["_law_pot_here", "_law_many"] ZQE := by
 refine T.ZF.ok ZHB (by walk_at "l") (fun cdv A outer s H vs Q E hr h => ?_)
 ·obtain ⟨p, n, rfl, ⟨x, y, hp, hx, hy, hy2⟩, hn, hn2, k⟩ := h
  have hdiv : ∀ i : Int, ZFW i n := fun i => ZFW.of (k := 250) hn hn2 (by decide)
  refine ⟨_, QB.h (ZBZ (ZCI (ZBr (ZQO) (ZCC (ZDB K rfl) (qv 0) ZBW) ZBW (ZBv _)) (ZBZ (qsS (i := 2) ZHB.nd (ZBa ZEV (ZCC (ZDB K rfl) (qv 0) ZBW) (qv 1))) (ZBZ (ZEY (ZBa ZEf (ZCC (ZDB K rfl) (qv 0) ZBW) (qv 1)) (ZKj (qv 0) ZBW ZHh)) (ZBb (ZBo (qv 2))))) ZB5) (ZBZ (ZEY (ZBa ZEV (ZBa ZB6 (ZBa ZB0 (ZCC (ZDB K rfl) (qv 0) ZBW) ZBW) ZBW) ZBW) (ZKj (qv 0) ZBW ZHh)) (ZBb (ZBo (ZBa ZEV (ZBa ZEf (ZBa ZEV (ZBa ZB0 (ZCC (ZDB K rfl) (qv 0) ZBW) (ZCC (ZDB K rfl) (qv 0) ZBW)) ZBW) ZBW) (qv 1)))))), ?_⟩
  walk_at "s"
  walk_at "w"
  refine ZCU (fun h => ?_) (fun h => ?_)
  ·walk_at "w"
   refine ZI7 hp (by rfl) ?_
   walk_at "w"
   exact k _ _ (Int.emod_nonneg _ (by omega)) (Int.emod_lt_of_pos _ hn) ⟨_, _, ZBg, Int.ediv_nonneg hx (by omega), hy, hy2⟩ Kp.upd
  ·walk_at "w"
   refine ZI7 hp (by rfl) ?_
   have hs : upd H p (.lst [V.int x, V.int ((y * 39373 + 7919) % 2147483629)]) p = some (.lst [V.int x, V.int ((y * 39373 + 7919) % 2147483629)]) := ZBg
   have h0 : 0 ≤ (y * 39373 + 7919) % 2147483629 := Int.emod_nonneg _ (by decide)
   have h1 : (y * 39373 + 7919) % 2147483629 < 2147483629 := Int.emod_lt_of_pos _ (by decide)
   walk_at "w"
   exact k _ _ (Int.emod_nonneg _ (by omega)) (Int.emod_lt_of_pos _ hn) ⟨_, _, ZBg, hx, h0, Int.lt_of_lt_of_le h1 (by decide)⟩ Kp.upd
end
def ZQc : Sp := fun vs H Q _ => ∃ p, vs = [.ref p] ∧ Pot H p ∧ ∀ (x : Int) (H' : Hp), -(10 ^ 60) < x → x < 10 ^ 60 → Pot H' p → Kp p H H' → Q (.int x) H'
section
variable {P : Program} {w : World} {K : W.Frag} {mg : Str → Option Value} {base : Heap} {a : Ad}
theorem ZFp : ZBl ["_law_pot_here", "_law_way"] ["_law_pot_here"] (ZBc ZEw) := ZCM
theorem ZIx (T : Txt K mg a) : ZBh P w K mg base CX0 2 a.JB a.JG ["_law_pot_here"] ZQc := by
 refine T.Ju.ok ZFp (by walk_at "l") (fun cdv A outer s H vs Q E hr h => ?_)
 ·obtain ⟨p, rfl, hp, k⟩ := h
  refine ⟨_, QB.h (ZBZ (qsS (i := 1) ZFp.nd (qcS (ZBx T) hr T.ZI T.ZF.kp T.ZJ (ZBX (qv 0) (ZBX ZBW ZBY)))) (ZBZ (ZCI (ZBr (ZC8) (qv 1) ZBW (ZBv _)) (ZBb (ZBo (ZBa ZB0 (ZBa ZB6 (ZBa ZB0 (qcS (ZBx T) hr T.ZI T.ZF.kp T.ZJ (ZBX (qv 0) (ZBX (ZBa ZBm ZBW ZBW) ZBY))) (ZBa ZBm ZBW ZBW)) (qcS (ZBx T) hr T.ZI T.ZF.kp T.ZJ (ZBX (qv 0) (ZBX (ZBa ZBm ZBW ZBW) ZBY)))) (ZBa ZCN ZBW (ZBa ZB0 ZBW (qcS (ZBx T) hr T.ZI T.ZF.kp T.ZJ (ZBX (qv 0) (ZBX ZBW ZBY)))))))) ZB5) (ZBZ (ZCI (ZBr (ZC8) (qv 1) ZBW (ZBv _)) (ZBb (ZBo (ZBa ZCN (qcS (ZBx T) hr T.ZI T.ZF.kp T.ZJ (ZBX (qv 0) (ZBX (ZBa ZB0 ZBW (ZBa ZBm ZBW ZBW)) ZBY))) (ZBa ZBm ZBW ZBW)))) ZB5) (ZBb (ZBo (ZBa ZCN (qcS (ZBx T) hr T.ZI T.ZF.kp T.ZJ (ZBX (qv 0) (ZBX ZBW ZBY))) ZBW)))))), ?_⟩
  walk_at "s"
  walk_at "w"
  refine ⟨p, _, rfl, hp, by decide, by decide, fun d1 H1 h1 h1' P1 K1 => ?_⟩
  walk_at "w"
  rw [ZDH]
  refine ZCU (fun _ => ?_) (fun _ => ?_)
  ·walk_at "w"
   refine ⟨p, _, rfl, P1, by decide, by decide, fun d2 H2 h2 h2' P2 K2 => ?_⟩
   walk_at "w"
   refine ⟨p, _, rfl, P2, by decide, by decide, fun d3 H3 h3 h3' P3 K3 => ?_⟩
   walk_at "w"
   refine ⟨p, _, rfl, P3, by decide, by decide, fun d4 H4 h4 h4' P4 K4 => ?_⟩
   walk_at "w"
   have : d4 = 0 ∨ d4 = 1 := by omega
   refine k _ H4 ?_ ?_ P4 (((K1.trans K2).trans K3).trans K4)
   ·rcases this with rfl | rfl <;> omega
   ·rcases this with rfl | rfl <;> omega
  walk_at "w"
  rw [ZDH]
  refine ZCU (fun _ => ?_) (fun _ => ?_)
  ·walk_at "w"
   refine ⟨p, _, rfl, P1, by decide, by decide, fun d2 H2 h2 h2' P2 K2 => ?_⟩
   walk_at "w"
   exact k _ H2 (by omega) (by omega) P2 (K1.trans K2)
  walk_at "w"
  refine ⟨p, _, rfl, P1, by decide, by decide, fun d2 H2 h2 h2' P2 K2 => ?_⟩
  walk_at "w"
  exact k _ H2 (by omega) (by omega) P2 (K1.trans K2)
end
section
variable {P : Program} {w : World} {K : W.Frag} {mg : Str → Option Value} {base : Heap} {a : Ad}
def ZQd : Sp := fun vs H Q _ => ∃ p, vs = [.ref p] ∧ Pot H p ∧ ∀ (x : Int) (H' : Hp), InT x → Pot H' p → Kp p H H' → Q (.int x) H'
theorem ZGB : ZBl ["_law_pot_here", "_law_way", "_law_found"] ["_law_pot_here"] (ZBc ZGs) := ZCM
theorem ZIg (T : Txt K mg a) : ZBh P w K mg base CX0 2 a.ZAA a.J7 ["_law_pot_here"] ZQd := by
 refine T.ZAB.ok ZGB (by walk_at "l") (fun cdv A outer s H vs Q E hr h => ?_)
 ·obtain ⟨p, rfl, hp, k⟩ := h
  refine ⟨_, QB.h (ZBZ (qsS (i := 1) ZGB.nd (qcS (ZBx T) hr T.ZI T.ZF.kp T.ZJ (ZBX (qv 0) (ZBX ZBW ZBY)))) (ZBZ (ZCI (ZBr (ZC8) (qv 1) ZBW (ZBv _)) (ZBb (ZBo (ZBa ZCN (qcS (ZBx T) hr T.ZI T.ZF.kp T.ZJ (ZBX (qv 0) (ZBX (ZBa ZB6 (ZBa ZBm ZBW ZBW) ZBW) ZBY))) (ZBa ZBm ZBW ZBW)))) ZB5) (ZBZ (ZCI (ZBr (ZC8) (qv 1) ZBW (ZBv _)) (ZBb (ZBo (ZCC (ZDB K rfl) (ZDn (ZBX (ZBa ZCN (ZBa ZBm ZBW ZBW) (qcS (ZBx T) hr T.ZI T.ZF.kp T.ZJ (ZBX (qv 0) (ZBX ZBW ZBY)))) (ZBX (ZBa ZCN (qcS (ZBx T) hr T.ZI T.ZF.kp T.ZJ (ZBX (qv 0) (ZBX ZBW ZBY))) (ZBa ZBm ZBW ZBW)) ZBY))) (qcS (ZBx T) hr T.ZI T.ZF.kp T.ZJ (ZBX (qv 0) (ZBX ZBW ZBY)))))) ZB5) (ZBZ (ZCI (ZBr (ZC8) (qv 1) ZBW (ZBv _)) (ZBZ (qsS (i := 2) ZGB.nd (ZBa ZCN (ZBa ZB6 (ZBa ZB0 (ZBa ZO7 ZBW (qcS (ZBx T) hr T.ZI T.ZF.kp T.ZJ (ZBX (qv 0) (ZBX ZBW ZBY)))) (ZBa ZCN ZBW (ZBa ZB0 ZBW (qcS (ZBx T) hr T.ZI T.ZF.kp T.ZJ (ZBX (qv 0) (ZBX ZBW ZBY)))))) (qcS (ZBx T) hr T.ZI T.ZF.kp T.ZJ (ZBX (qv 0) (ZBX ZBW ZBY)))) ZBW)) (ZBb (ZBo (ZBz (ZPS rfl) rfl T.ZAH ZKb (ZBX (ZDA ZCn (ZBa ZBm ZBW ZBW)) (ZBX (ZBz (ZHl rfl) rfl T.JX ZGP (ZBX (ZBa ZBm ZBW ZBW) (ZBX (qv 2) ZBY))) ZBY)))))) ZB5) (ZBb (ZBo (ZBa ZCN (qcS (ZBx T) hr T.ZI T.ZF.kp T.ZJ (ZBX (qv 0) (ZBX ZBW ZBY))) ZBW))))))), ?_⟩
  walk_at "s"
  walk_at "w"
  refine ⟨p, _, rfl, hp, by decide, by decide, fun d1 H1 h1 h1' P1 K1 => ?_⟩
  walk_at "w"
  rw [ZDH]
  refine ZCU (fun _ => ?_) (fun _ => ?_)
  ·walk_at "w"
   refine ⟨p, _, rfl, P1, by decide, by decide, fun d2 H2 h2 h2' P2 K2 => ?_⟩
   walk_at "w"
   exact k _ H2 ⟨by omega, by omega⟩ P2 (K1.trans K2)
  walk_at "w"
  rw [ZDH]
  refine ZCU (fun _ => ?_) (fun _ => ?_)
  ·walk_at "w"
   refine ⟨p, _, rfl, P1, by decide, by decide, fun d2 H2 h2 h2' P2 K2 => ?_⟩
   walk_at "w"
   refine ⟨p, _, rfl, P2, by decide, by decide, fun d3 H3 h3 h3' P3 K3 => ?_⟩
   walk_at "w"
   refine ZBk (by show 2 ≤ sizeLine; decide) fun l4 H4 n4 f4 S4 => ?_
   walk_at "w"
   refine ⟨p, _, rfl, P3.same S4, by decide, by decide, fun d5 H5 h5 h5' P5 K5 => ?_⟩
   have f5 := K5 _ _ f4 (P3.neN n4)
   have hd5 : d5 = 0 ∨ d5 = 1 := by omega
   have KA := (((K1.trans K2).trans K3).then S4).trans K5
   rcases hd5 with rfl | rfl
   ·exact ZE9 (SqL.of f5) rfl (k _ H5 ⟨by omega, by omega⟩ P5 KA)
   ·exact ZE9 (SqL.of f5) rfl (k _ H5 ⟨by omega, by omega⟩ P5 KA)
  walk_at "w"
  rw [ZDH]
  refine ZCU (fun _ => ?_) (fun _ => ?_)
  ·walk_at "w"
   refine ⟨p, _, rfl, P1, by decide, by decide, fun d2 H2 h2 h2' P2 K2 => ?_⟩
   walk_at "w"
   refine ⟨p, _, rfl, P2, by decide, by decide, fun d3 H3 h3 h3' P3 K3 => ?_⟩
   walk_at "w"
   refine ⟨p, _, rfl, P3, by decide, by decide, fun d4 H4 h4 h4' P4 K4 => ?_⟩
   walk_at "w"
   refine k _ H4 ⟨?_, ?_⟩ P4 (((K1.trans K2).trans K3).trans K4)
   ·split <;> (try split) <;> omega
   ·split <;> (try split) <;> omega
  walk_at "w"
  refine ⟨p, _, rfl, P1, by decide, by decide, fun d2 H2 h2 h2' P2 K2 => ?_⟩
  walk_at "w"
  exact k _ H2 ⟨by omega, by omega⟩ P2 (K1.trans K2)
end
section
variable {P : Program} {w : World} {K : W.Frag} {mg : Str → Option Value} {base : Heap} {a : Ad}
def ZLQ (K : W.Frag) : Sp := fun vs H Q _ => ∃ (s : Addr) (ns : List Int), vs = [.ref s] ∧ SqL K H s (ns.map V.int) ∧ ns.length ≤ 63 ∧
 ∀ (l : Addr) (prs : PL) (H' : Hp), H l = none → PrL H' l prs → prs.length ≤ 24 → (∀ q ∈ prs, Tm q.1) → ZBd H H' → Q (.ref l) H'
theorem ZDd : ZBl ["_law_script", "_law_found", "_law_k", "_law_pot_here"] ["_law_script"] (ZBc ZER) := ZCM
theorem ZIh (T : Txt K mg a) : ZBh P w K mg base CX0 3 a.Yw a.Y3 ["_law_script"] (ZLQ K) := by
 refine T.Jb.ok ZDd (by walk_at "l") (fun cdv A outer s H vs Q E hr h => ?_)
 ·obtain ⟨s, ns, rfl, hS, hn, k⟩ := h
  refine ⟨_, QB.h (ZBZ (qsS (i := 1) ZDd.nd (ZDn ZBY)) (ZBZ (ZDU PassesOwn.never rfl (ZFC rfl T.Y7 (ZBX (ZBz (ZHl rfl) rfl T.JX ZGP (ZBX ZBW (ZBX (ZBz (ZFD K rfl) rfl T.JD ZE8 (ZBX (qv 0) ZBY)) ZBY))) ZBY)) (qgN (i := 2) ZDd.nd) (ZBZ (qsS (i := 3) ZDd.nd (qcS (ZIf T) hr.m T.ZAe T.J6.kp T.ZAh (ZBX (ZBa ZB6 (qcS (ZFR T) hr.m T.Jm T.JE.kp T.Jp (ZBX (qv 0) (ZBX (qv 2) ZBY))) (ZBa ZB0 (ZBa ZB0 ZBW (qv 2)) (ZCh ZKd rfl T.Jv ZHj (ZBX (ZGg (ZGE) (ZBz ZKe rfl T.ZAG ZKa (ZBX (qcS (ZFR T) hr.m T.Jm T.JE.kp T.Jp (ZBX (qv 0) (ZBX (qv 2) ZBY))) ZBY)) (ZBa ZBm ZBW ZBW) (ZBv _)) ZBY)))) ZBY))) (ZBb (ZB1 (ZNA PySem.F.plainAttrs_list PySem.F.slot_list_append PySem.F.type_list_append ZE7 (qv 1) (ZBX (ZBq (ZBX (ZBz (ZHl rfl) rfl T.JX ZGP (ZBX (ZBa ZCN (ZBa ZBm ZBW ZBW) ZBW) (ZBX (qcS (ZIg T) hr T.ZAc T.ZAB.kp T.ZAb (ZBX (qv 3) ZBY)) ZBY))) (ZBX (qcS (ZIx T) hr T.ZAo T.Ju.kp T.ZAj (ZBX (qv 3) ZBY)) ZBY))) ZBY)))))) (ZBb (ZBo (qv 1))))), ?_⟩
  walk_at "s"
  walk_at "w"
  refine ZBk (by show 0 ≤ sizeLine; decide) fun l H0 hl f0 S0 => ?_
  have hS0 := S0.seq hS
  walk_at "w"
  rw [List.length_map]
  generalize hj : (if (ns.length : Int) < 24 then (ns.length : Int) else 24) = j
  have hj1 : 0 ≤ j := by rw [← hj]; split <;> omega
  have hj2 : j ≤ 24 := by rw [← hj]; split <;> omega
  refine ZHn (by omega) (by omega) (ZI8 (fun i σ H2 => (∃ v1 v2, σ = [some (.ref s), some (.ref l), v1, v2]) ∧ ZBd H H2 ∧ ∃ prs, PrL H2 l prs ∧ prs.length = i ∧ ∀ q ∈ prs, Tm q.1) ?_ ?_ ?_)
  ·exact ⟨⟨_, _, rfl⟩, S0, [], ⟨[], f0, .nil⟩, rfl, fun p hp => by simp at hp⟩
  ·rintro i σ H2 hi ⟨⟨v1, v2, rfl⟩, S2, prs, hL2, hlen, hB⟩
   have hi2 : (i : Int) < 24 := by omega
   walk_at "w"
   refine ⟨s, ns, _, rfl, S2.seq hS, by omega, ?_⟩
   walk_at "w"
   refine ⟨s, ns, _, rfl, S2.seq hS, by omega, ?_⟩
   walk_at "w"
   refine ⟨_, rfl, fun p H3 n3 P3 S3 => ?_⟩
   obtain ⟨vs3, g3, hP3⟩ := hL2.same S3
   have nlp : l ≠ p := fun z => by
    obtain ⟨vs, f2, _⟩ := hL2
    rw [z, n3] at f2; cases f2
   walk_at "w"
   refine ⟨tyL g3, ?_⟩
   walk_at "w"
   refine ⟨p, rfl, P3, fun x H4 hx P4 K4 => ?_⟩
   unfold InT at hx
   have ht : Tm (if x < 1099511627776 - 1 then x else 1099511627776 - 1) := by unfold Tm; split <;> omega
   walk_at "w"
   refine ⟨p, rfl, P4, fun y H5 hy hy' P5 K5 => ?_⟩
   walk_at "w"
   refine ZBk (by show 2 ≤ sizeLine; decide) fun b6 H6 n6 f6 S6 => ?_
   have hL5 : PrL H5 l prs := ((hL2.same S3).pot P3 nlp K4).pot P4 nlp K5
   obtain ⟨vs6, g6, hP6⟩ := hL5.same S6
   walk_at "w"
   refine ZG2 g6 (by rw [hP6.length]; exact Nat.lt_of_lt_of_le (show _ < 100 by omega) (by decide)) fun H7 f7 K7 => ?_
   walk_at "w"
   have S26 : ZBd H2 H6 := (((Kp.same S3).trans K4).trans K5 |>.then S6).fresh n3
   refine ⟨⟨_, _, rfl⟩, (S2.trans S26).kpN hl K7, prs ++ [(_, y)], ⟨_, f7, ZBe.kpL K7 g6 (hP6.snoc (p := (_, y)) f6)⟩, by simp [hlen], fun q hq => ?_⟩
   rcases List.mem_append.mp hq with hq | hq
   ·exact hB q hq
   ·rw [List.mem_singleton.mp hq]; exact ht
  ·rintro σ H2 ⟨⟨v1, v2, rfl⟩, S2, prs, hL2, hlen, hB⟩
   walk_at "w"
   exact k l prs H2 hl hL2 (by omega) hB S2
end
section
variable {P : Program} {w : World} {K : W.Frag} {mg : Str → Option Value} {base : Heap} {a : Ad}
theorem ZM1 {K : W.Frag} {H : Hp} {Q : VK} {p : Addr} {us : List V} {prs : PL} (h1 : SqL K H p us ∨ H p = some (.tup us)) (h2 : ZBe H us prs) (hz : prs.length < sizeLine) (h : ∀ l H2, H l = none → H2 l = some (.dK (ZB8 (ZB4 prs))) → ZBd H H2 → Q (.ref l) H2) : ZLE K [.ref p] H Q :=
 h1.elim (fun z => .inl (ZMW z h2 hz h)) fun z => .inr (ZKs ⟨us, z, h2⟩ hz h)
def ZOg (K : W.Frag) : Sp := fun vs H Q _ => ∃ (l : Addr) (us : List V) (prs : PL), vs = [.ref l] ∧ (SqL K H l us ∨ H l = some (.tup us)) ∧ ZBe H us prs ∧ prs.length < 64 ∧
 ∀ (t : Addr) (vs : List V) (cv : PL) (H' : Hp), H t = none → H' t = some (.tup vs) → ZBe H' vs cv → ZFa (ZB4 prs) cv → cv.length ≤ prs.length → cv.length = (ZB4 prs).length → ZBd H H' → Q (.ref t) H'
theorem ZGc : ZBl ["_law_samples_here", "_law_held"] ["_law_samples_here"] (ZBc ZEI) := ZCM
theorem ZGd (T : Txt K mg a) : ZBh P w K mg base CX0 1 a.JV a.JR ["_law_samples_here"] (ZOg K) := by
 refine T.JN.ok ZGc (by walk_at "l") (fun cdv A outer s H vs Q E hr h => ?_)
 ·obtain ⟨l, us, prs, rfl, hL, hP, hlen, k⟩ := h
  have hu := ZFV hr
  have hm := ZFy prs
  refine ⟨_, QB.h (ZBZ (qsS (i := 1) ZGc.nd (ZCh (ZMo K rfl rfl) rfl T.ZAS ZOC (ZBX (qv 0) ZBY))) (ZBb (ZBo (ZCh (ZD7 K rfl) rfl T.YT ZD5 (ZBX (ZD0 (N := ["_law_samples_here", "_law_held"]) (sc := ZBc ZEI) (own := ["_law_t"]) (caps := ["_law_held"]) (ks := [1]) rfl rfl rfl ⟨rfl, by decide +kernel, by decide +kernel, by decide +kernel, by decide +kernel, rfl, by decide +kernel⟩ (ZEZ K rfl (ZBz (ZGU rfl) rfl T.JC ZG1 (ZBX (qv 1) ZBY))) (fun _ _ _ _ _ => ZDN (i := 0) (show List.Nodup (α := Str) ["_law_t", "_law_held"] from by decide +kernel) rfl (by walk_at "o") (.inr rfl)) (fun _ _ _ _ _ => ZD6) (fun _ _ _ _ _ => ZBq (ZBX (qv 0) (ZBX (ZJC hu (qv 1) (qv 0)) ZBY)))) ZBY))))), ?_⟩
  walk_at "s"
  walk_at "w"
  refine ZM1 hL hP (Nat.lt_of_lt_of_le hlen (by decide)) fun d H1 n1 f1 S1 => ?_
  walk_at "w"
  refine ZGW f1 (by omega) fun l2 H2 ns n2 f2 hp hs S2 => ?_
  have hnl : ns.length = (ZB4 prs).length := by have := hp.length_eq; simpa using this
  walk_at "w"
  intro l3 n3
  have S23 : ZBd H2 (upd H2 l3 (.lst [])) := ZBd.new n3
  refine ZDz ns.length (fun i σ' H' => (∃ o, σ' = [o, some (.ref d)]) ∧ ZBd H2 H' ∧ ∃ vs, H' l3 = some (.lst vs) ∧ ZBe H' vs ((ZCB (ZB4 prs) ns).take i)) ?_ ?_ ?_
  ·exact ⟨⟨none, rfl⟩, S23, [], ZBg, .nil⟩
  ·rintro σ H' ⟨_, s, vs, f3, hPc⟩
   refine ⟨⟨_, SqL.of (s _ _ f2), by simp⟩, ?_⟩
   walk_at "w"
   refine ZEX (SqL.of f3) fun t H4 n4 f4 S4 => ?_
   have ecv : (ZCB (ZB4 prs) ns).take ns.length = ZCB (ZB4 prs) ns := List.take_of_length_le (by simp [ZCB])
   rw [ecv] at hPc
   have SA : ZBd H H4 := ((S1.trans S2).trans s).trans S4
   refine k t vs _ H4 (((S1.trans S2).trans s).free n4) f4 (hPc.same S4) (ZGX (ZCw prs) hp hs) ?_ (ZFk hp) SA
   rw [ZFk hp]
   exact hm
  ·rintro i σ H' hi ⟨⟨o, rfl⟩, s, vs, f3, hPc⟩
   have hi2 : i < (ns.map V.int).length := by simpa using hi
   refine ⟨⟨_, _, SqL.of (s _ _ f2), List.getElem?_eq_getElem hi2⟩, ?_⟩
   rintro u H'' ⟨rfl, hu'⟩
   have hu' := hu' _ (SqL.of (s _ _ f2))
   have eu : u = .int ns[i] := by
    rw [List.getElem?_map, List.getElem?_eq_getElem hi] at hu'
    simpa using hu'.symm
   subst eu
   walk_at "w"
   refine ZDR ?_
   walk_at "w"
   have hmem : ns[i] ∈ (ZB4 prs).map (·.1) := hp.mem_iff.mp (List.getElem_mem hi)
   obtain ⟨x, hx⟩ : ∃ x, ZCQ (ZB4 prs) ns[i] = some x := by
    cases hg : ZCQ (ZB4 prs) ns[i] with
    | none => exact absurd hmem (ZDq.mp hg)
    | some x => exact ⟨x, rfl⟩
   refine ZH4 (s _ _ (S2 _ _ f1)) hx ?_
   walk_at "w"
   refine ZBk (by show 2 ≤ sizeLine; decide) fun t H4 n4 f4 S4 => ?_
   have f34 := S4 _ _ f3
   refine ⟨vs, f34, ?_, ⟨_, rfl⟩, ?_, ?_⟩
   ·have e := hPc.length
    rw [e, List.length_take]
    exact Nat.lt_of_le_of_lt (Nat.min_le_left _ _) (Nat.lt_of_lt_of_le hi (by rw [hnl]; exact Nat.le_of_lt (Nat.lt_of_le_of_lt hm (Nat.lt_of_lt_of_le hlen (by decide)))))
   ·exact (s.trans S4).kpN (l := l3) n3 Kp.upd
   ·refine ⟨_, ZBg, ?_⟩
    have e3 : (ZCB (ZB4 prs) ns).take (i + 1) = (ZCB (ZB4 prs) ns).take i ++ [(ns[i], x)] := by
     rw [List.take_succ]
     congr 1
     simp [ZCB, List.getElem?_eq_getElem hi, hx]
    rw [e3]
    exact ZBe.kpL Kp.upd f34 ((hPc.same S4).snoc f4)
end
section
variable {P : Program} {w : World} {K : W.Frag} {mg : Str → Option Value} {base : Heap} {a : Ad}
def ZNH (H : Hp) (way : Int) (one other : V) : Prop :=
 ((way = 0 ∨ way = 1) ∧ ZKA H one other) ∨ (way = 2 ∧ ∃ t : Int, one = .int t ∧ ¬ Tm t) ∨
 (way = 3 ∧ ∃ (q : Addr) (b y m : Int), one = .ref q ∧ H q = some (.tup [.int b, .int y, .int m]) ∧ 0 ≤ m ∧ m ≤ 1000 ∧ ¬ (InT b ∧ InT (b + m * y))) ∨
 (way = 4 ∧ ∃ (t : Addr) (cv : PL), one = .ref t ∧ PrT H t cv ∧ (cv.map (·.1)).Nodup ∧ (∃ q ∈ cv, ¬ Tm q.1) ∧ cv.length ≤ 100)
def ZOh (C D : Addr) : Sp := fun vs H _ E => ∃ (p d1 d2 : Addr) (n : Int) (sm : PL) (c : Nat) (way : Int) (one other : V), vs = [.ref p, .int way, one, other] ∧ ZBp C H p n d1 d2 sm c ∧ ZNH H way one other ∧ ∀ H', ZBd H H' → E (.ref D) none H'
theorem ZLR : ZBl ["_law_tree", "_law_way", "_law_one", "_law_other"] ["_law_tree", "_law_way", "_law_one", "_law_other"] (ZBc ZF8) := ZCM
theorem ZKC (T : Txt K mg a) : ZBh P w K mg base (CX1 P w) 7 a.Jj a.Jk ["_law_tree", "_law_way", "_law_one", "_law_other"] (ZOh a.ZC a.ZA) := by
 refine T.ZAK.okx ZLR (by walk_at "l") (fun cdv A outer s H vs Q E hr h => ?_)
 ·obtain ⟨p, d1, d2, n, sm, c, way, one, other, rfl, hT, hW, k⟩ := h
  obtain ⟨dx, kvs, hp, _⟩ := id hT
  refine ⟨_, QB.h (ZBb (ZCI (ZBr (ZC8) (qv 1) ZBW (ZBv _)) (ZBb (ZB1 (ZDJ (ZEy T) hr.m rfl T.Yz T.Zw.kp T.Yv .nil ZDX (ZBX (qv 2) (ZBX (qv 3) ZBY))))) (ZBb (ZCI (ZBr (ZC8) (qv 1) ZBW (ZBv _)) (ZBb (ZB1 (ZCa (qv 0) T.ZE T.Z0 (ZHQ T) hr.m T.Zz .nil ZDX (ZBX (qv 2) (ZBX (qv 3) ZBY))))) (ZBb (ZCI (ZBr (ZC8) (qv 1) ZBW (ZBv _)) (ZBb (ZB1 (ZCa (qv 0) T.ZE T.YC (ZFQ T) hr.m T.YI .nil ZDX (ZBX (qv 2) (ZBX (qv 3) ZBY))))) (ZBb (ZCI (ZBr (ZC8) (qv 1) ZBW (ZBv _)) (ZBb (ZB1 (ZCa (qv 0) T.ZE T.Yj (ZGt T) hr T.Ym .nil ZDX (ZBX (qv 2) ZBY)))) (ZBb (ZB1 (ZJF T.ZAf (ZFf T) hr rfl T.ZA1 T.Yo .nil ZDX (ZBX (qv 2) ZBY)))))))))))), ?_⟩
  walk_at "s"
  walk_at "w"
  rw [ZDH]
  refine ZCU (fun w0 => ?_) (fun w0 => ?_)
  ·walk_at "w"
   rcases hW with ⟨_, h⟩ | ⟨h, _⟩ | ⟨h, _⟩ | ⟨h, _⟩
   ·exact ⟨one, other, rfl, h, k H (ZBd.refl _)⟩
   all_goals (exfalso; omega)
  walk_at "w"
  rw [ZDH]
  refine ZCU (fun w1 => ?_) (fun w1 => ?_)
  ·walk_at "w"
   refine ZCD hp ZCf ?_
   walk_at "w"
   rcases hW with ⟨_, h⟩ | ⟨h, _⟩ | ⟨h, _⟩ | ⟨h, _⟩
   ·exact ⟨p, d1, d2, n, one, other, sm, c, rfl, hT, h, k H (ZBd.refl _)⟩
   all_goals (exfalso; omega)
  walk_at "w"
  rw [ZDH]
  refine ZCU (fun w2 => ?_) (fun w2 => ?_)
  ·walk_at "w"
   refine ZCD hp ZCf ?_
   walk_at "w"
   rcases hW with ⟨h, _⟩ | ⟨_, t, rfl, ht⟩ | ⟨h, _⟩ | ⟨h, _⟩
   ·exfalso; omega
   ·exact .inr ⟨p, d1, d2, n, t, other, sm, c, rfl, hT, ht, k H (ZBd.refl _)⟩
   all_goals (exfalso; omega)
  walk_at "w"
  rw [ZDH]
  refine ZCU (fun w3 => ?_) (fun w3 => ?_)
  ·walk_at "w"
   refine ZCD hp ZCf ?_
   walk_at "w"
   rcases hW with ⟨h, _⟩ | ⟨h, _⟩ | ⟨_, q, b, y, m, rfl, hq, h0, h1, hn⟩ | ⟨h, _⟩
   ·exfalso; omega
   ·exfalso; omega
   ·exact ⟨p, q, d1, d2, n, b, y, m, sm, c, rfl, hT, hq, h0, h1, hn, k H (ZBd.refl _)⟩
   ·exfalso; omega
  ·walk_at "w"
   rcases hW with ⟨h, _⟩ | ⟨h, _⟩ | ⟨h, _⟩ | ⟨_, t, cv, rfl, hP, hnd, hb, hl⟩
   ·exfalso; omega
   ·exfalso; omega
   ·exfalso; omega
   ·refine ZJH fun x dx1 H1 n1 f1 S1 => ?_
    exact ⟨x, dx1, t, cv, rfl, f1, hP.same S1, hnd, hb, hl, fun H2 K2 => k H2 (S1.kpN n1 K2)⟩
def ZLS (C : Addr) : Sp := fun vs H Q _ => ∃ (p d1 d2 : Addr) (n : Int) (sm : PL) (c : Nat) (way : Int) (one other : V), vs = [.ref p, .int way, one, other] ∧ ZBp C H p n d1 d2 sm c ∧ ZNH H way one other ∧ ∀ H', ZBd H H' → Q (.bl true) H'
theorem ZC6 : ZBl ["_law_tree", "_law_way", "_law_one", "_law_other", "_law_found", "e", "_law_others"] ["_law_tree", "_law_way", "_law_one", "_law_other"] (ZBc ZES) := ZCM
theorem ZC7 (T : Txt K mg a) : ZBh P w K mg base CX0 8 a.Yx a.Ys ["_law_tree", "_law_way", "_law_one", "_law_other"] (ZLS a.ZC) := by
 refine T.Zh.ok ZC6 (by walk_at "l") (fun cdv A outer s H vs Q E hr h => ?_)
 ·obtain ⟨p, d1, d2, n, sm, c, way, one, other, rfl, hT, hW, k⟩ := h
  have hka : W.kitAny K (.ref a.ZA) [.ref a.ZB, .ref a.ZL, .ref a.ZM, .ref a.ZG, .ref a.ZK, .ref a.ZN, .ref a.ZH] = some false := by
   simp only [W.kitAny, T.ZX, T.Za, T.Zk, T.ZW, T.Zb, T.Zj, T.ZV]
  refine ⟨_, QB.h (ZBZ (qsS (i := 4) ZC6.nd ZFX) (ZBZ (ZP8 rfl rfl (ZMg (ZOM (ZKC T) hr.m rfl T.ZA8 T.ZAK.kp T.ZA6 .nil (ZBX (qv 0) (ZBX (qv 1) (ZBX (qv 2) (ZBX (qv 3) ZBY)))))) (ZMh (i := 5) K rfl rfl rfl rfl ZC6.nd rfl rfl rfl T.JZ T.JY (fun _ => ZBZ (qsS (i := 6) ZC6.nd (ZBz (ZOO K rfl) rfl T.ZY ZDG (ZBX (qv 5) (ZBX (ZBq (ZBX (ZCi (v := V.ref a.ZB) rfl T.ZAr rfl) (ZBX (ZCi (v := V.ref a.ZL) rfl T.ZAv rfl) (ZBX (ZCi (v := V.ref a.ZM) rfl T.ZA4 rfl) (ZBX (ZCi (v := V.ref a.ZG) rfl T.ZAm rfl) (ZBX (ZCi (v := V.ref a.ZK) rfl T.ZA0 rfl) (ZBX (ZCi (v := V.ref a.ZN) rfl T.ZA5 rfl) (ZBX (ZCi (v := V.ref a.ZH) rfl T.ZAn rfl) ZBY)))))))) ZBY)))) (ZBb (qsS (i := 4) ZC6.nd (ZHq (ZBz (ZON K rfl) rfl T.ZY ZDG (ZBX (qv 5) (ZBX (ZCi (v := V.ref a.ZA) rfl T.Yh rfl) ZBY))) (ZHp (ZKh (qv 6))))))) ZP6)) (ZBb (ZBo (qv 4))))), ?_⟩
  walk_at "s"
  walk_at "w"
  refine ⟨p, d1, d2, n, sm, c, way, one, other, rfl, hT, hW, fun H1 S1 => ?_⟩
  walk_at "w"
  refine ZK8 T.ZO (ZDR ?_)
  refine ZMk fun e2 H2 n2 f2 S2 => ?_
  walk_at "w"
  refine ZBk (by show 7 ≤ sizeLine; decide) fun t3 H3 n3 f3 S3 => ?_
  have f23 := S3 _ _ f2
  walk_at "w"
  refine ZOQ f23 T.YD T.JP f3 (.cons rfl (.cons rfl (.cons rfl (.cons rfl (.cons rfl (.cons rfl (.cons rfl .nil))))))) hka ?_
  walk_at "w"
  refine ZOP f23 T.YD T.JP rfl T.ZS (ZGf (ZDR ?_))
  walk_at "w"
  exact k H3 (S1.trans (S2.trans S3))
end
section
variable {P : Program} {w : World} {K : W.Frag} {mg : Str → Option Value} {base : Heap} {a : Ad}
theorem ZBp.potP {C : Addr} {H H' : Hp} {x d1 d2 p : Addr} {n : Int} {sm : PL} {c : Nat} (h : ZBp C H x n d1 d2 sm c) (hp : Pot H p) (k : Kp p H H') : ZBp C H' x n d1 d2 sm c := by
 obtain ⟨u, v, e, _⟩ := hp
 exact h.kpX k e
theorem ZQF {C : Addr} {H H' : Hp} {x d1 d2 p : Addr} {n : Int} {sm : PL} {c : Nat} (hp : Pot H p) (g : ZBp C H x n d1 d2 sm c) (f : Fr3 x d1 d2 H H') : Pot H' p := by
 obtain ⟨u, v, e, h⟩ := hp
 exact ⟨u, v, g.keepL f e, h⟩
def ZDF (H : Hp) (v : V) : Prop := ∃ (u : Addr) (b y m : Int), v = .ref u ∧ H u = some (.tup [.int b, .int y, .int m]) ∧ 0 ≤ m ∧ m ≤ 1000 ∧ ¬ (InT b ∧ InT (b + m * y))
theorem ZDF.same {H H' : Hp} {v : V} (h : ZDF H v) (s : ZBd H H') : ZDF H' v := by
 obtain ⟨u, b, y, m, e, g, r⟩ := h
 exact ⟨u, b, y, m, e, s _ _ g, r⟩
def ZLT : Sp := fun vs H Q _ => ∃ (q : Addr) (far : Int), vs = [.ref q, .int far] ∧ Pot H q ∧ 1 ≤ far ∧ far ≤ 10 ^ 40 ∧
 ∀ (l : Addr) (us : List V) (H' : Hp), H' l = some (.lst us) → (∀ v ∈ us, ZDF H' v) → us.length = 6 → Pot H' q → Kp q H H' → Q (.ref l) H'
theorem ZDe : ZBl ["_law_pot_here", "_law_far", "_law_wide", "_law_many", "_law_found"] ["_law_pot_here", "_law_far"] (ZBc ZET) := ZCM
theorem ZIi (T : Txt K mg a) : ZBh P w K mg base CX0 2 a.Y1 a.Y0 ["_law_pot_here", "_law_far"] ZLT := by
 refine T.Je.ok ZDe (by walk_at "l") (fun cdv A outer s H vs Q E hr h => ?_)
 ·obtain ⟨q, far, rfl, hq, hf1, hf2, k⟩ := h
  refine ⟨_, QB.h (ZBZ (qsS (i := 2) ZDe.nd (ZBa ZB6 ZBW (qcS (ZBx T) hr T.ZI T.ZF.kp T.ZJ (ZBX (qv 0) (ZBX (ZBa ZBm ZBW ZBW) ZBY))))) (ZBZ (qsS (i := 3) ZDe.nd (ZBa ZB6 ZBW (qcS (ZBx T) hr T.ZI T.ZF.kp T.ZJ (ZBX (qv 0) (ZBX ZBW ZBY))))) (ZBZ (qsS (i := 4) ZDe.nd (ZDn (ZBX (ZBq (ZBX (ZBa ZCN (ZBa ZB6 (ZBa ZBm ZBW ZBW) (qv 1)) (ZBa ZB0 (qv 2) (qv 3))) (ZBX (qv 2) (ZBX (qv 3) ZBY)))) (ZBX (ZBq (ZBX (ZBa ZCN (ZDA ZCn (ZBa ZBm ZBW ZBW)) (qv 1)) (ZBX (qv 2) (ZBX (qv 3) ZBY)))) ZBY)))) (ZBb (ZBo (ZBa ZPK (qv 4) (ZDn (ZBX (ZBq (ZBX ZBW (ZBX (ZBa ZB6 (ZBa ZBm ZBW ZBW) (qv 1)) (ZBX ZBW ZBY)))) (ZBX (ZBq (ZBX (ZDA ZCn (ZBa ZBm ZBW ZBW)) (ZBX (ZBa ZB6 (ZBa ZBm ZBW ZBW) ZBW) (ZBX ZBW ZBY)))) (ZBX (ZBq (ZBX (ZBa ZBm ZBW ZBW) (ZBX ZBW (ZBX ZBW ZBY)))) (ZBX (ZBq (ZBX (ZBa ZB6 (ZBa ZBm ZBW ZBW) (qv 1)) (ZBX (qv 2) (ZBX (qv 3) ZBY)))) ZBY))))))))))), ?_⟩
  walk_at "s"
  walk_at "w"
  refine ⟨q, _, rfl, hq, by decide, by decide, fun d1 H1 h1 h1' P1 K1 => ?_⟩
  walk_at "w"
  refine ⟨q, _, rfl, P1, by decide, by decide, fun d2 H2 h2 h2' P2 K2 => ?_⟩
  have hm : (1 + d2) * (1 + d1) = (1 + d1) * (1 + d2) := Int.mul_comm _ _
  walk_at "w"
  refine ZBk (by show 3 ≤ sizeLine; decide) fun t3 H3 n3 f3 S3 => ?_
  walk_at "w"
  refine ZBk (by show 3 ≤ sizeLine; decide) fun t4 H4 n4 f4 S4 => ?_
  walk_at "w"
  refine ZBk (by show 2 ≤ sizeLine; decide) fun l5 H5 n5 f5 S5 => ?_
  walk_at "w"
  refine ZBk (by show 3 ≤ sizeLine; decide) fun t6 H6 n6 f6 S6 => ?_
  walk_at "w"
  refine ZBk (by show 3 ≤ sizeLine; decide) fun t7 H7 n7 f7 S7 => ?_
  walk_at "w"
  refine ZBk (by show 3 ≤ sizeLine; decide) fun t8 H8 n8 f8 S8 => ?_
  walk_at "w"
  refine ZBk (by show 3 ≤ sizeLine; decide) fun t9 H9 n9 f9 S9 => ?_
  walk_at "w"
  refine ZBk (by show 4 ≤ sizeLine; decide) fun l10 H10 n10 f10 S10 => ?_
  have S49 := S5.trans (S6.trans (S7.trans (S8.trans S9)))
  walk_at "w"
  refine ZPn (S10 _ _ (S9 _ _ (S8 _ _ (S7 _ _ (S6 _ _ f5))))) f10 (by show 6 ≤ sizeLine; decide) fun l11 H11 n11 f11 S11 => ?_
  have SA := S10.trans S11
  have b3 : ZDF H11 (.ref t3) := ⟨t3, _, _, _, rfl, SA _ _ (S49 _ _ (S4 _ _ f3)), by omega, by omega, fun z => by unfold InT at z; omega⟩
  have b4 : ZDF H11 (.ref t4) := ⟨t4, _, _, _, rfl, SA _ _ (S49 _ _ f4), by omega, by omega, fun z => by unfold InT at z; omega⟩
  have b6 : ZDF H11 (.ref t6) := ⟨t6, _, _, _, rfl, SA _ _ (S9 _ _ (S8 _ _ (S7 _ _ f6))), by omega, by omega, fun z => by unfold InT at z; omega⟩
  have b7 : ZDF H11 (.ref t7) := ⟨t7, _, _, _, rfl, SA _ _ (S9 _ _ (S8 _ _ f7)), by omega, by omega, fun z => by unfold InT at z; omega⟩
  have b8 : ZDF H11 (.ref t8) := ⟨t8, _, _, _, rfl, SA _ _ (S9 _ _ f8), by omega, by omega, fun z => by unfold InT at z; omega⟩
  have b9 : ZDF H11 (.ref t9) := ⟨t9, _, _, _, rfl, SA _ _ f9, by omega, by omega, fun z => by unfold InT at z; omega⟩
  have ST := S3.trans (S4.trans (S49.trans SA))
  refine k l11 _ H11 f11 (fun v hv => ?_) rfl (P2.same ST) ((K1.trans K2).then ST)
  simp only [List.cons_append, List.nil_append, List.mem_cons, List.not_mem_nil, or_false] at hv
  rcases hv with rfl | rfl | rfl | rfl | rfl | rfl <;> assumption
theorem rd_catH {K : W.Frag} {H : Hp} {Q : VK} {a b : Addr} {xs ys : List V} (h1 : H a = some (.tup xs)) (h2 : H b = some (.tup ys)) (hz : xs.length + ys.length ≤ sizeLine) (h : ∀ p H2, H2 p = some (.tup (xs ++ ys)) → ZBd H H2 → Q (.ref p) H2) : ZHX K (.ref a) (.ref b) H Q :=
 ⟨a, b, xs, ys, rfl, rfl, SqT.of h1, SqT.of h2, hz, fun e => h b H (by rw [e]; exact h2) (ZBd.refl H), fun _ e => h a H (by rw [e, List.append_nil]; exact h1) (ZBd.refl H), fun _ _ p hp => h p _ ZBg (ZBd.new hp)⟩
theorem ZOi {i : Int} (h : InT i) : i.natAbs.log2 < 1920 := by
 unfold InT at h
 by_cases z : i.natAbs = 0
 ·rw [z]; decide
 ·exact Nat.lt_of_lt_of_le ((Nat.log2_lt z).mpr (show i.natAbs < 2 ^ 41 by omega)) (by decide)
theorem ZHC {m cv : PL} (h : ZFa (ZB4 m) cv) (r : Int × Int) : r ∈ cv ↔ r ∈ ZB4 m := by
 obtain ⟨x, y⟩ := r
 rw [h.2, ZDL (ZCw _)]
theorem ZM2 {m : PL} : ∀ r ∈ ZB4 m, r ∈ m := by
 have main : ∀ i : Nat, i ≤ m.length → ∀ q ∈ ZB4 (m.take i), q ∈ m := by
  intro i
  induction i with
  | zero => intro _ q hq; rw [List.take_zero] at hq; cases hq
  | succ i ih =>
   intro hi q hq
   have hp : m[i]? = some m[i] := List.getElem?_eq_getElem (by omega)
   have e : m.take (i + 1) = m.take i ++ [m[i]] := by rw [List.take_succ, hp]; rfl
   rw [e, ZEJ, ZCl (ZCw _)] at hq
   rcases hq with h | h
   ·exact ih (by omega) q h.2
   ·rw [h]; exact List.getElem_mem _
 intro r hr
 have := main m.length (Nat.le_refl _) r
 rw [List.take_length] at this
 exact this hr
theorem ZIj {cv : PL} (h : Asc cv) : (cv.map (·.1)).Nodup := by
 rw [List.nodup_iff_pairwise_ne, List.pairwise_map]
 exact h.imp fun {a b} hab e => by omega
def ZQe (C : Addr) : Sp := fun vs H Q _ => ∃ (p t q d1 d2 : Addr) (n : Int) (sm cv : PL) (c : Nat), vs = [.ref p, .ref t, .ref q] ∧ ZBp C H p n d1 d2 sm c ∧ Pot H q ∧ PrT H t cv ∧ cv.length ≤ 24 ∧
 ∀ H', Pot H' q → Kp q H H' → Q (.bl true) H'
theorem ZCY : ZBl ["_law_tree", "_law_curve_here", "_law_pot_here", "_law_far", "_law_good", "_law_bad", "_law_way", "_law_t"] ["_law_tree", "_law_curve_here", "_law_pot_here"] (ZBc ZC4) := ZCM
theorem ZGC (T : Txt K mg a) : ZBh P w K mg base CX0 9 a.YA a.Z7 ["_law_tree", "_law_curve_here", "_law_pot_here"] (ZQe a.ZC) := by
 refine T.Yp.ok ZCY (by walk_at "l") (fun cdv A outer s H vs Q E hr h => ?_)
 ·obtain ⟨p, t, q, d1, d2, n, sm, cv, c, rfl, hT, hq, hcv, hlen, k⟩ := h
  refine ⟨_, QB.h (ZBZ (qsS (i := 3) ZCY.nd (ZBa ZB6 ZBW (ZCC (ZDB K rfl) (ZDn (ZBX (qcS (ZBx T) hr.m T.ZI T.ZF.kp T.ZJ (ZBX (qv 2) (ZBX ZBW ZBY))) (ZBX (ZBa ZB0 (qcS (ZBx T) hr.m T.ZI T.ZF.kp T.ZJ (ZBX (qv 2) (ZBX (ZBa ZBm ZBW ZBW) ZBY))) (ZBa ZBm ZBW ZBW)) ZBY))) (qcS (ZBx T) hr.m T.ZI T.ZF.kp T.ZJ (ZBX (qv 2) (ZBX ZBW ZBY)))))) (ZBZ (qsS (i := 4) ZCY.nd (qcS (ZIg T) hr.m T.ZAc T.ZAB.kp T.ZAb (ZBX (qv 2) ZBY))) (ZBZ (ZDU PassesOwn.never rfl (ZEZ K rfl (ZDn (ZBX (ZBa ZB6 (ZBa ZBm ZBW ZBW) (qv 3)) (ZBX (ZBa ZCN (ZDA ZCn (ZBa ZBm ZBW ZBW)) (qv 3)) (ZBX ZDm (ZBX (ZCh ZHc rfl T.ZAq ZPL (ZBX (qv 4) ZBY)) (ZBX (ZBq (ZBX (qv 4) ZBY)) ZBY))))))) (qgN (i := 5) ZCY.nd) (ZBb (ZDU PassesOwn.never rfl (ZEa K rfl (ZBq (ZBX ZBW (ZBX ZBW ZBY)))) (qgN (i := 6) ZCY.nd) (ZBb (ZCI (QW.pt (ZDi (ZCp (ZCx (qcS (ZC7 T) hr T.Zv T.Zh.kp T.Zx (ZBX (qv 0) (ZBX (qv 6) (ZBX (qv 4) (ZBX (qv 5) ZBY))))))) (ZDT (ZCp (ZCx (qcS (ZC7 T) hr T.Zv T.Zh.kp T.Zx (ZBX (qv 0) (ZBX (qv 6) (ZBX (qv 5) (ZBX (qv 4) ZBY)))))))))) (ZBb (ZBo ZFX)) ZB5))))) (ZBZ (ZDU PassesOwn.never rfl (ZEa K rfl (ZBq (ZBX (ZBa ZB6 (ZBa ZCN (ZBa ZBm ZBW ZBW) ZBW) (qv 3)) (ZBX (ZBa ZCN (ZDA ZCn (ZBa ZBm ZBW ZBW)) (qv 3)) (ZBX (ZBa ZBm ZBW ZBW) ZBY))))) (qgN (i := 7) ZCY.nd) (ZBb (ZCI (QW.pt (ZDi (ZCp (ZCx (qcS (ZC7 T) hr T.Zv T.Zh.kp T.Zx (ZBX (qv 0) (ZBX ZBW (ZBX (qv 7) (ZBX (qv 3) ZBY))))))) (ZDT (ZCp (ZCx (qcS (ZC7 T) hr T.Zv T.Zh.kp T.Zx (ZBX (qv 0) (ZBX ZBW (ZBX (qcS (ZGd T) hr.m T.ZAF T.JN.kp T.ZAD (ZBX (ZBa (ZGj K rfl) (qv 1) (ZBq (ZBX (ZBq (ZBX (qv 7) (ZBX (qv 3) ZBY))) ZBY))) ZBY)) (ZBX ZBW ZBY)))))))))) (ZBb (ZBo ZFX)) ZB5))) (ZBb (ZBo (ZBz (ZPw K rfl rfl) rfl T.ZAi ZPM (ZBX (ZD0 (N := ["_law_tree", "_law_curve_here", "_law_pot_here", "_law_far", "_law_good", "_law_bad", "_law_way", "_law_t"]) (sc := ZBc ZC4) (own := ["_law_window"]) (caps := ["_law_tree"]) (ks := [0]) rfl rfl rfl ⟨rfl, by decide +kernel, by decide +kernel, by decide +kernel, by decide +kernel, rfl, by decide +kernel⟩ (ZEZ K rfl (qcS (ZIi T) hr.m T.ZAU T.Je.kp T.ZAY (ZBX (qv 2) (ZBX (qv 3) ZBY)))) (fun _ _ _ _ _ => ZDN (i := 0) (show List.Nodup (α := Str) ["_law_window", "_law_tree"] from by decide +kernel) rfl (by walk_at "o") (.inr rfl)) (fun _ _ _ _ _ => ZD6) (fun _ _ _ _ _ => qcS (ZC7 T) hr T.Zv T.Zh.kp T.Zx (ZBX (qv 1) (ZBX ZBW (ZBX (qv 0) (ZBX ZBW ZBY)))))) ZBY)))))))), ?_⟩
  walk_at "s"
  walk_at "w"
  refine ⟨q, _, rfl, hq, by decide, by decide, fun e0 H0 h0 h0' P0 K0 => ?_⟩
  walk_at "w"
  refine ⟨q, _, rfl, P0, by decide, by decide, fun e1 H1 h1 h1' P1 K1 => ?_⟩
  walk_at "w"
  refine ZBk (by show 2 ≤ sizeLine; decide) fun l2 H2 n2 f2 S2 => ?_
  walk_at "w"
  refine ⟨q, _, rfl, P1.same S2, by decide, by decide, fun e3 H3 h3 h3' P3 K3 => ?_⟩
  have f3 := K3 _ _ f2 (P1.neN n2)
  have K03 := (((K0.trans K1).then S2).trans K3)
  obtain ⟨y, hy, hy0, hy1⟩ : ∃ y : Int, atI [V.int e0, V.int (e1 * 1000000000000000000000000000000)] e3 = some (.int y) ∧ 0 ≤ y ∧ y < 10 ^ 39 + 10 := by
   have : e3 = 0 ∨ e3 = 1 := by omega
   rcases this with h | h <;> rw [h]
   ·exact ⟨_, rfl, by omega, by omega⟩
   ·exact ⟨_, rfl, by omega, by omega⟩
  walk_at "w"
  refine ZE9 (SqL.of f3) hy ?_
  walk_at "w"
  obtain ⟨far, hfar⟩ : ∃ far : Int, 1 + y = far := ⟨_, rfl⟩
  rw [hfar]
  have hf1 : 1 ≤ far := by omega
  have hf2 : far ≤ 10 ^ 40 := by omega
  clear hfar hy hy0 hy1
  refine ⟨q, rfl, P3, fun good H4 hg P4 K4 => ?_⟩
  have K04 := K03.trans K4
  have hT4 := hT.potP hq K04
  have hcv4 := hcv.pot hq K04
  walk_at "w"
  refine ⟨good, rfl, ZOi hg, ?_⟩
  walk_at "w"
  refine ZBk (by show 1 ≤ sizeLine; decide) fun t5 H5 n5 f5 S5 => ?_
  walk_at "w"
  refine ZBk (by show 5 ≤ sizeLine; decide) fun l6 H6 n6 f6 S6 => ?_
  have S46 := S5.trans S6
  walk_at "w"
  refine ZI9 (xs := _) (fun i σ H' => (∃ v5 v6 v7, σ = [some (.ref p), some (.ref t), some (.ref q), some (.int far), some (.int good), v5, v6, v7]) ∧ ZBd H6 H') ⟨⟨_, _, _, rfl⟩, ZBd.refl _⟩ (fun i σ H' _ h => SqL.of (h.2 _ _ f6)) ?_ ?_
  ·rintro i x σ H7 hx ⟨⟨v5, v6, v7, rfl⟩, S7⟩
   have hoff : Off H7 x := by
    match i, hx with
    | 0, hx => cases hx; exact .inl ⟨_, rfl, fun z => by unfold InT at z; omega⟩
    | 1, hx => cases hx; exact .inl ⟨_, rfl, fun z => by unfold InT at z; omega⟩
    | 2, hx => cases hx; exact .inr .non
    | 3, hx => cases hx; exact .inr (.str _)
    | 4, hx => cases hx; exact .inr (.tup (S7 _ _ (S6 _ _ f5)))
    | n + 5, hx => simp at hx
   walk_at "w"
   refine ZBk (by show 2 ≤ sizeLine; decide) fun t8 H8 n8 f8 S8 => ?_
   walk_at "w"
   refine ZDy (xs := [.int 0, .int 1]) (fun i σ H' => (∃ v6 v7, σ = [some (.ref p), some (.ref t), some (.ref q), some (.int far), some (.int good), some x, v6, v7]) ∧ ZBd H8 H') ⟨⟨_, _, rfl⟩, ZBd.refl _⟩ (fun i σ H' _ h => SqT.of (h.2 _ _ f8)) ?_ ?_
   ·rintro j v σ H9 hv ⟨⟨v6, v7, rfl⟩, S9⟩
    have hoff9 := (hoff.same S8).same S9
    have hT9 := (((hT4.same S46).same S7).same S8).same S9
    obtain ⟨wy, rfl, hwy⟩ : ∃ w : Int, v = .int w ∧ (w = 0 ∨ w = 1) := by
     match j, hv with
     | 0, hv => cases hv; exact ⟨0, rfl, .inl rfl⟩
     | 1, hv => cases hv; exact ⟨1, rfl, .inr rfl⟩
     | n + 2, hv => simp at hv
    walk_at "w"
    refine ⟨p, d1, d2, n, sm, c, wy, .int good, x, rfl, hT9, .inl ⟨hwy, .inr ⟨⟨good, rfl, hg⟩, hoff9⟩⟩, fun H10 S10 => ?_⟩
    walk_at "w"
    refine ZCg ?_
    walk_at "w"
    refine ⟨p, d1, d2, n, sm, c, wy, x, .int good, rfl, hT9.same S10, .inl ⟨hwy, .inl (hoff9.same S10)⟩, fun H11 S11 => ?_⟩
    walk_at "w"
    refine ZCg ?_
    walk_at "w"
    exact ⟨⟨_, _, rfl⟩, S9.trans (S10.trans S11)⟩
   ·rintro σ H9 ⟨⟨v6, v7, rfl⟩, S9⟩
    walk_at "w"
    exact ⟨⟨_, _, _, rfl⟩, S7.trans (S8.trans S9)⟩
  ·rintro σ H7 ⟨⟨v5, v6, v7, rfl⟩, S7⟩
   have hT7 := (hT4.same S46).same S7
   walk_at "w"
   refine ZBk (by show 3 ≤ sizeLine; decide) fun t8 H8 n8 f8 S8 => ?_
   walk_at "w"
   refine ZDy (xs := _) (fun i σ H' => (∃ v5 v6 v7, σ = [some (.ref p), some (.ref t), some (.ref q), some (.int far), some (.int good), v5, v6, v7]) ∧ ZBd H8 H') ⟨⟨_, _, _, rfl⟩, ZBd.refl _⟩ (fun i σ H' _ h => SqT.of (h.2 _ _ f8)) ?_ ?_
   ·rintro i x σ H9 hx ⟨⟨v5, v6, v7, rfl⟩, S9⟩
    obtain ⟨tt, rfl, htt⟩ : ∃ w : Int, x = .int w ∧ ¬ Tm w := by
     match i, hx with
     | 0, hx => cases hx; exact ⟨_, rfl, fun z => by unfold Tm at z; omega⟩
     | 1, hx => cases hx; exact ⟨_, rfl, fun z => by unfold Tm at z; omega⟩
     | 2, hx => cases hx; exact ⟨_, rfl, fun z => by unfold Tm at z; omega⟩
     | n + 3, hx => simp at hx
    have S69 := S7.trans (S8.trans S9)
    have hT9 := (hT7.same S8).same S9
    walk_at "w"
    refine ⟨p, d1, d2, n, sm, c, 2, .int tt, .int far, rfl, hT9, .inr (.inl ⟨rfl, tt, rfl, htt⟩), fun H10 S10 => ?_⟩
    walk_at "w"
    refine ZCg ?_
    walk_at "w"
    refine ZBk (by show 2 ≤ sizeLine; decide) fun t11 H11 n11 f11 S11 => ?_
    walk_at "w"
    refine ZBk (by show 1 ≤ sizeLine; decide) fun t12 H12 n12 f12 S12 => ?_
    have S4_12 := S46.trans (S69.trans (S10.trans (S11.trans S12)))
    obtain ⟨vs, gv, pv⟩ := hcv4.same S4_12
    walk_at "w"
    refine rd_catH gv f12 (by rw [pv.length]; exact Nat.le_trans (show cv.length + 1 ≤ 25 by omega) (by decide)) fun t13 H13 f13 S13 => ?_
    walk_at "w"
    refine ⟨t13, _, cv ++ [(tt, far)], rfl, .inr f13, (pv.same S13).snoc (p := (tt, far)) (S13 _ _ (S12 _ _ f11)), by simp; omega, fun t14 vs14 cv14 H14 n14 f14 hP14 hC14 hc14 _ S14 => ?_⟩
    walk_at "w"
    refine ⟨p, d1, d2, n, sm, c, 4, .ref t14, .int 0, rfl, (hT4.same S4_12).same (S13.trans S14), .inr (.inr (.inr ⟨rfl, t14, cv14, rfl, ⟨vs14, f14, hP14⟩, ZIj hC14.1, ⟨(tt, far), ?_, htt⟩, ?_⟩)), fun H15 S15 => ?_⟩
    ·rw [ZHC hC14, ZEJ, ZCl (ZCw _)]
     exact .inr rfl
    ·rw [List.length_append] at hc14
     simp at hc14
     omega
    walk_at "w"
    refine ZCg ?_
    walk_at "w"
    exact ⟨⟨_, _, _, rfl⟩, S9.trans (S10.trans (S11.trans (S12.trans (S13.trans (S14.trans S15)))))⟩
   ·rintro σ H9 ⟨⟨v5, v6, v7, rfl⟩, S9⟩
    have S49 := S46.trans (S7.trans (S8.trans S9))
    walk_at "w"
    refine ⟨q, far, rfl, P4.same S49, hf1, hf2, fun l10 us H10 f10 hB hl P10 K10 => ?_⟩
    have hT10 := (hT4.same S49).potP (P4.same S49) K10
    walk_at "w"
    intro l11 n11
    refine ZDz us.length (fun i σ' H' => (∃ o, σ' = [o, some (.ref p)]) ∧ ZBd H10 H' ∧ H' l11 = some (.lst ((List.replicate i true).map V.bl))) ?_ ?_ ?_
    ·exact ⟨⟨none, rfl⟩, ZBd.new n11, ZBg⟩
    ·rintro σ' H11 ⟨_, S11, f11⟩
     refine ⟨⟨_, SqL.of (S11 _ _ f10), Nat.le_refl _⟩, ?_⟩
     walk_at "w"
     refine ZPl (SqL.of f11) ?_
     rw [show (List.replicate us.length true).all id = true by simp]
     exact k H11 (P10.same S11) (((K04.then S49).trans K10).then S11)
    ·rintro i σ' H11 hi ⟨⟨o, rfl⟩, S11, f11⟩
     refine ⟨⟨_, _, SqL.of (S11 _ _ f10), List.getElem?_eq_getElem hi⟩, ?_⟩
     rintro v H'' ⟨rfl, hv⟩
     have hv := hv _ (SqL.of (S11 _ _ f10))
     obtain ⟨u, b, y, m, rfl, hu, r⟩ := (hB v (List.mem_of_getElem? hv)).same S11
     walk_at "w"
     refine ZDR ?_
     walk_at "w"
     refine ⟨p, d1, d2, n, sm, c, 3, .ref u, .int 0, rfl, hT10.same S11, .inr (.inr (.inl ⟨rfl, u, b, y, m, rfl, hu, r⟩)), fun H12 S12 => ?_⟩
     refine ⟨_, S12 _ _ f11, ?_, ⟨_, rfl⟩, (S11.trans S12).kpN n11 Kp.upd, ?_⟩
     ·rw [List.length_map, List.length_replicate]
      exact Nat.lt_of_lt_of_le (show i < 6 by omega) (by decide)
     ·rw [ZBg, List.replicate_succ', List.map_append]
      rfl
end
section
variable {P : Program} {w : World} {K : W.Frag} {mg : Str → Option Value} {base : Heap} {a : Ad}
local macro_rules | `(tactic| walk_at "rd") => `(tactic| first
 | with_reducible refine ZDr (by assumption) (‹Txt _ _ _›).ZE (‹Txt _ _ _›).ZR ZDs ?_)
def ZDI (cv : PL) : PL := cv.filter fun r => decide ((if 2 * r.1 + 1 < 0 then -(2 * r.1 + 1) else 2 * r.1 + 1) < 2199023255551)
theorem ZFS {cv : PL} {r : Int × Int} : r ∈ ZDI cv ↔ r ∈ cv ∧ -1099511627776 < r.1 ∧ r.1 < 1099511627775 := by
 unfold ZDI
 rw [List.mem_filter, decide_eq_true_iff]
 constructor
 ·rintro ⟨h1, h2⟩
  refine ⟨h1, ?_, ?_⟩ <;> (split at h2 <;> omega)
 ·rintro ⟨h1, h2, h3⟩
  refine ⟨h1, ?_⟩
  split <;> omega
theorem ZOj {cv : PL} (h : Asc cv) : Asc ([(-1099511627776, 6)] ++ ZDI cv ++ [(1099511627775, 5)]) := by
 refine List.pairwise_append.mpr ⟨List.pairwise_append.mpr ⟨List.pairwise_singleton _ _, List.Pairwise.filter _ h, ?_⟩, List.pairwise_singleton _ _, ?_⟩
 ·intro x hx y hy
  rw [List.mem_singleton.mp hx]
  exact (ZFS.mp hy).2.1
 ·intro x hx y hy
  rw [List.mem_singleton.mp hy]
  rcases List.mem_append.mp hx with hx | hx
  ·rw [List.mem_singleton.mp hx]; decide
  ·exact (ZFS.mp hx).2.2
theorem ZOk {cv sm : PL} (hnd : (sm.map (·.1)).Nodup) (hm : ∀ r, r ∈ sm ↔ r ∈ cv) (ht : ∀ r ∈ cv, Tm r.1) (r : Int × Int) : r ∈ [((-1099511627776 : Int), (6 : Int))] ++ ZDI cv ++ [(1099511627775, 5)] ↔ r ∈ ZCL (ZCL sm 1099511627775 5) (-1099511627776) 6 := by
 rw [ZCl (ZDV hnd), ZCl hnd, List.mem_append, List.mem_append, List.mem_singleton, List.mem_singleton, ZFS, hm]
 constructor
 ·rintro ((h | h) | h)
  ·exact .inr h
  ·exact .inl ⟨by omega, .inl ⟨by omega, h.1⟩⟩
  ·exact .inl ⟨by rw [h]; decide, .inr h⟩
 ·rintro (⟨h1, ⟨h2, h3⟩ | h2⟩ | h)
  ·have := ht r h3
   unfold Tm at this
   exact .inl (.inr ⟨h3, by omega, by omega⟩)
  ·exact .inr h2
  ·exact .inl (.inl h)
def ZHY (K : W.Frag) : Sp := fun vs H Q _ => ∃ (s : Addr) (ns : List Int), vs = [.ref s] ∧ SqL K H s (ns.map V.int) ∧ ns.length ≤ 63 ∧ ∀ H', Q (.bl true) H'
theorem ZEE : ZBl ["_law_script", "_law_curve_here", "_law_tree", "_law_pot_here", "_law_whole", "_law_looks", "_law_due"] ["_law_script"] (ZBc ZDC) := ZCM
theorem ZQG (T : Txt K mg a) : ZBh P w K mg base CX0 10 a.ZAp a.ZAk ["_law_script"] (ZHY K) := by
 refine T.ZBH.ok ZEE (by walk_at "l") (fun cdv A outer s H vs Q E hr h => ?_)
 ·obtain ⟨s, ns, rfl, hS, hn, k⟩ := h
  have hu := ZFV hr
  have hu64 := hr.units
  refine ⟨_, QB.h (ZBZ (qsS (i := 1) ZEE.nd (qcS (ZGd T) hr.m T.ZAF T.JN.kp T.ZAD (ZBX (qcS (ZIh T) hr.m T.ZAW T.Jb.kp T.ZAZ (ZBX (qv 0) ZBY)) ZBY))) (ZBZ (qsS (i := 2) ZEE.nd (ZJF T.ZAf (ZF9 T) hr.m rfl T.ZA1 T.Yo .nil ZC3 (ZBX (qv 1) ZBY))) (ZBZ (qsS (i := 3) ZEE.nd (qcS (ZIf T) hr.m T.ZAe T.J6.kp T.ZAh (ZBX (ZBa ZB6 (qcS (ZFR T) hr.m T.Jm T.JE.kp T.Jp (ZBX (qv 0) (ZBX ZBW ZBY))) (ZBa ZB0 ZBW (ZBz (ZFD K rfl) rfl T.JD ZE8 (ZBX (qv 0) ZBY)))) ZBY))) (ZBZ (qsS (i := 4) ZEE.nd (ZCa (qv 2) T.ZE T.Z0 (ZDc T) hr.m T.Zz .nil ZC3 (ZBX (ZDA ZCn (ZBa ZBm ZBW ZBW)) (ZBX (ZBa ZBm ZBW ZBW) ZBY)))) (ZBZ (qsS (i := 5) ZEE.nd (ZDW K rfl (qv 2))) (ZBZ (ZCI (QW.pt (ZDi (ZCp (ZCx (qcS (ZGC T) hr T.Jw T.Yp.kp T.Jx (ZBX (qv 2) (ZBX (qv 1) (ZBX (qv 3) ZBY)))))) (ZDi (ZBr (ZQN) (ZDW K rfl (qv 2)) (qv 5) (ZBv _)) (ZDT (ZBr (ZGQ K rfl hu64) (ZIE (qv 2) T.ZE T.Jg (ZFP T) hr.m T.Jf .nil ZC3) (qv 1) (ZBv _)))))) (ZBb (ZBo ZFX)) ZB5) (ZBZ (ZCI (QW.pt (ZDi (ZBr (ZGQ K rfl hu64) (ZCa (qv 2) T.ZE T.Z0 (ZDc T) hr.m T.Zz .nil ZC3 (ZBX (ZDA ZCn (ZBa ZBm ZBW ZBW)) (ZBX (ZBa ZBm ZBW ZBW) ZBY))) (qv 4) (ZBv _)) (ZDT (ZBr (ZGQ K rfl hu64) (ZCC (ZCP K rfl) (ZCa (qv 2) T.ZE T.Yj (ZE1 T) hr.m T.Ym .nil ZC3 (ZBX (ZBq (ZBX (ZDA ZCn (ZBa ZBm ZBW ZBW)) (ZBX (ZBa ZBm ZBW ZBW) (ZBX ZBW ZBY)))) ZBY)) ZBW) (ZCa (qv 2) T.ZE T.Z0 (ZDc T) hr.m T.Zz .nil ZC3 (ZBX (ZDA ZCn (ZBa ZBm ZBW ZBW)) (ZBX ZBW ZBY))) (ZBv _))))) (ZBb (ZBo ZFX)) ZB5) (ZBZ (ZB1 (ZCa (qv 2) T.ZE T.YC (ZDk T) hr.m T.YI .nil ZC3 (ZBX (ZBa ZCN (ZBa ZBm ZBW ZBW) ZBW) (ZBX ZBW ZBY)))) (ZBZ (ZB1 (ZCa (qv 2) T.ZE T.YC (ZDk T) hr.m T.YI .nil ZC3 (ZBX (ZDA ZCn (ZBa ZBm ZBW ZBW)) (ZBX ZBW ZBY)))) (ZBZ (qsS (i := 6) ZEE.nd (ZCh (ZD7 K rfl) rfl T.YT ZD5 (ZBX (ZD0 (N := ["_law_script", "_law_curve_here", "_law_tree", "_law_pot_here", "_law_whole", "_law_looks", "_law_due"]) (sc := ZBc ZDC) (own := ["_law_one"]) (caps := []) (ks := []) rfl rfl rfl ⟨rfl, by decide +kernel, by decide +kernel, by decide +kernel, by decide +kernel, rfl, by decide +kernel⟩ (ZEa K rfl (qv 1)) (fun _ _ _ _ _ => ZDN (i := 0) (show List.Nodup (α := Str) ["_law_one"] from by decide +kernel) rfl (by walk_at "o") (.inr rfl)) (fun _ _ _ _ _ => ZMK (ZBr (ZGE) (ZBz ZKe rfl T.ZAG ZKa (ZBX (ZBa ZB6 (ZBa ZB0 ZBW (ZCC (ZCP K rfl) (qv 0) ZBW)) ZBW) ZBY)) (ZBa ZCN (ZBa ZBm ZBW ZBW) ZBW) (ZBv _))) (fun _ _ _ _ _ => qv 0)) ZBY))) (ZBZ (ZCI (ZBr (ZGQ K rfl hu64) (ZIE (qv 2) T.ZE T.Jg (ZFP T) hr.m T.Jf .nil ZC3) (ZBa (ZGj K rfl) (ZBa (ZGj K rfl) (ZBq (ZBX (ZBq (ZBX (ZDA ZCn (ZBa ZBm ZBW ZBW)) (ZBX ZBW ZBY))) ZBY)) (qv 6)) (ZBq (ZBX (ZBq (ZBX (ZBa ZCN (ZBa ZBm ZBW ZBW) ZBW) (ZBX ZBW ZBY))) ZBY))) (ZBv _)) (ZBb (ZBo ZFX)) ZB5) (ZBb (ZBo (ZGg (ZPx K rfl hu64) (ZCC (ZCP K rfl) (ZCa (qv 2) T.ZE T.Yj (ZE1 T) hr.m T.Ym .nil ZC3 (ZBX (ZBq (ZBX (ZBa ZCN (ZBa ZBm ZBW ZBW) ZBW) (ZBX ZBW (ZBX ZBW ZBY)))) ZBY)) ZBW) (ZBa ZOT (ZBq (ZBX (ZBq (ZBX (ZBa ZCN (ZBa ZBm ZBW ZBW) ZBW) (ZBX ZBW ZBY))) ZBY)) ZBW) (ZBv _))))))))))))))), ?_⟩
  walk_at "s"
  walk_at "w"
  refine ⟨s, ns, rfl, hS, hn, fun l prs H1 n1 hL1 hl1 hB1 S1 => ?_⟩
  obtain ⟨us1, f1, hP1⟩ := hL1
  walk_at "w"
  refine ⟨l, us1, prs, rfl, .inl (SqL.of f1), hP1, by omega, fun t vs3 cv H3 n3 f3 hP3 hC3 hc3 _ S3 => ?_⟩
  have hcv : PrT H3 t cv := ⟨vs3, f3, hP3⟩
  have htm : ∀ r ∈ cv, Tm r.1 := fun r hr => hB1 r (ZM2 r ((ZHC hC3 r).mp hr))
  walk_at "w"
  refine ZJH fun p dx1 H4 n4 f4 S4 => ?_
  refine ⟨p, dx1, .ref t, cv, rfl, f4, .inr ⟨t, rfl, hcv.same S4⟩, ZIj hC3.1, htm, by omega, fun d1 d2 sm H5 m1 m2 hT5 hm5 hl5 K5 => ⟨rfl, ?_⟩⟩
  have S35 : ZBd H3 H5 := S4.kpN n4 K5
  have hcv5 := hcv.same S35
  have hS5 := (S1.trans (S3.trans S35)).seq hS
  walk_at "w"
  refine ⟨s, ns, _, rfl, hS5, by decide, ?_⟩
  walk_at "w"
  refine ⟨_, rfl, fun q H6 n6 P6 S6 => ?_⟩
  have hT6 := hT5.same S6
  have hcv6 := hcv5.same S6
  obtain ⟨dx6, kv6, hp6, _⟩ := id hT6
  walk_at "w"
  refine ZCD hp6 ZCf ?_
  walk_at "w"
  refine ⟨p, d1, d2, _, _, _, sm, _, rfl, hT6, by unfold InT; omega, by unfold InT; omega, fun v7 o7 prs7 H7 h7 g7 _ hT7 K7 => ?_⟩
  have hcv7 := hT6.keepP (ZFO K7) hcv6
  have P7 := ZQF P6 hT6 (ZFO K7)
  obtain ⟨dx7, kv7, hp7, _⟩ := id hT7
  walk_at "w"
  refine ⟨p, t, q, d1, d2, _, sm, cv, _, rfl, hT7, P7, hcv7, by omega, fun H8 P8 K8 => ?_⟩
  have hT8 := hT7.potP P7 K8
  have hcv8 := hcv7.pot P7 K8
  have h8 : ZBs H8 v7 o7 := by
   obtain ⟨x, y, e, _⟩ := P7
   exact h7.kpL K8 e
  obtain ⟨dx8, kv8, hp8, _⟩ := id hT8
  walk_at "w"
  refine ZCg ?_
  walk_at "w"
  rw [decide_eq_true rfl]
  walk_at "w"
  refine ZCg ?_
  walk_at "w"
  refine ZCD hp8 ZCf ?_
  walk_at "w"
  refine ⟨p, d1, d2, _, sm, _, rfl, hT8, by omega, fun t9 cv9 H9 hP9 hA9 hm9 S9 => ?_⟩
  obtain rfl : cv = cv9 := (ZGi hA9 hC3.1 fun r => (hm9 r).trans (hm5 r)).symm
  have hT9 := hT8.same S9
  have h9 := h8.same S9
  walk_at "w"
  refine ZJE hP9 (hcv8.same S9) ?_
  rw [decide_eq_true rfl]
  walk_at "w"
  refine ZCg ?_
  obtain ⟨dx9, kv9, hp9, _⟩ := id hT9
  walk_at "w"
  refine ZCD hp9 ZCf ?_
  walk_at "w"
  refine ⟨p, d1, d2, _, _, _, sm, _, rfl, hT9, by unfold InT; omega, by unfold InT; omega, fun v10 o10 prs10 H10 h10 g10 _ hT10 K10 => ?_⟩
  have h910 := h9.kpX K10 hp9 (fun _ z => by cases z)
  have hcv10 := hT9.keepP (ZFO K10) (hcv8.same S9)
  have hnd := hT10.nd
  have uq : ∀ {b e : Int} {o o' : Option (PL)}, Is4 (ZCS sm b e) o → Is4 (ZCS sm b e) o' → o = o' := fun h g => ZMn (fun r => Iff.rfl) hnd h g
  obtain rfl := uq g10 g7
  walk_at "w"
  refine ZG8 h10 h910 ?_
  rw [decide_eq_true rfl]
  walk_at "w"
  refine ZCg ?_
  obtain ⟨dx10, kv10, hp10, _⟩ := id hT10
  walk_at "w"
  refine ZCD hp10 ZCf ?_
  walk_at "w"
  refine ZBk (by show 3 ≤ sizeLine; decide) fun t11 H11 n11 f11 S11 => ?_
  walk_at "w"
  refine ⟨p, t11, d1, d2, _, _, _, _, sm, _, rfl, hT10.same S11, ⟨f11, by decide, by decide, by decide, by unfold InT; decide, by unfold InT; decide⟩, fun u12 us12 fs12 n12 H12 f12 hF12 h412 hT12 K12 => ?_⟩
  have hcv12 := (hT10.same S11).keepP (ZFO K12) (hcv10.same S11)
  obtain ⟨v12, hv12⟩ : ∃ v, us12[0]? = some v := ⟨_, List.getElem?_eq_getElem (by rw [hF12.len, h412.1]; decide)⟩
  obtain ⟨o12, ho12, h12⟩ := hF12.at hv12
  have g12 := h412.2 0 o12 ho12
  walk_at "w"
  refine ZFA (SqT.of f12) (ZFU (j := 0) hv12) ?_
  obtain ⟨dx12, kv12, hp12, _⟩ := id hT12
  walk_at "w"
  refine ZCD hp12 ZCf ?_
  walk_at "w"
  refine ⟨p, d1, d2, _, _, _, sm, _, rfl, hT12, by unfold InT; omega, by unfold InT; omega, fun v13 o13 prs13 H13 h13 g13 _ hT13 K13 => ?_⟩
  have h1213 := h12.kpX K13 hp12 (fun _ z => by cases z)
  have hcv13 := hT12.keepP (ZFO K13) hcv12
  obtain rfl := uq g13 (show Is4 (ZCS sm _ _) o12 from g12)
  walk_at "w"
  refine ZG8 h1213 h13 ?_
  rw [decide_eq_true rfl]
  walk_at "w"
  refine ZCg ?_
  obtain ⟨dx13, kv13, hp13, _⟩ := id hT13
  walk_at "w"
  refine ZCD hp13 ZCf ?_
  walk_at "w"
  refine ⟨p, d1, d2, _, _, _, sm, _, rfl, hT13, by unfold Tm; omega, by omega, by omega, fun H14 hT14 F14 => ?_⟩
  have hcv14 := hT13.keepP F14 hcv13
  have hl14 := ZD8 sm (1099511627776 - 1) 5
  obtain ⟨dx14, kv14, hp14, _⟩ := id hT14
  walk_at "w"
  refine ZCD hp14 ZCf ?_
  walk_at "w"
  refine ⟨p, d1, d2, _, _, _, _, _, rfl, hT14, by unfold Tm; omega, by omega, by omega, fun H15 hT15 F15 => ?_⟩
  have hcv15 := hT14.keepP F15 hcv14
  have hl15 := ZD8 (ZCL sm (1099511627776 - 1) 5) (-1099511627776) 6
  obtain ⟨us15, e15, hP15⟩ := hcv15
  have hul : us15.length = cv.length := hP15.length
  walk_at "w"
  intro l16 n16
  refine ZDz cv.length (fun i σ' H' => (∃ o, σ' = [o]) ∧ ZBd H15 H' ∧ ∃ vs, H' l16 = some (.lst vs) ∧ ZBe H' vs (ZDI (cv.take i))) ?_ ?_ ?_
  ·exact ⟨⟨none, rfl⟩, ZBd.new n16, [], ZBg, .nil⟩
  ·rintro σ' H16 ⟨_, S16, vs16, f16, hP16⟩
   refine ⟨⟨_, SqT.of (S16 _ _ e15), by rw [hul]; exact Nat.le_refl _⟩, ?_⟩
   rw [List.take_length] at hP16
   walk_at "w"
   refine ZEX (SqL.of f16) fun t17 H17 n17 f17 S17 => ?_
   have hD17 : PrT H17 t17 (ZDI cv) := ⟨vs16, f17, hP16.same S17⟩
   have hT17 := hT15.same (S16.trans S17)
   obtain ⟨dx17, kv17, hp17, _⟩ := id hT17
   walk_at "w"
   refine ZCD hp17 ZCf ?_
   walk_at "w"
   refine ⟨p, d1, d2, _, _, _, rfl, hT17, by omega, fun t18 cv18 H18 hP18 hA18 hm18 S18 => ?_⟩
   walk_at "w"
   refine ZBk (by show 2 ≤ sizeLine; decide) fun t19 H19 n19 f19 S19 => ?_
   walk_at "w"
   refine ZBk (by show 1 ≤ sizeLine; decide) fun t20 H20 n20 f20 S20 => ?_
   have p20 : PrT H20 t20 [(-1099511627776, 6)] := ⟨_, f20, .cons ⟨t19, rfl, S20 _ _ f19⟩ .nil⟩
   have hdl : (ZDI cv).length ≤ 24 := Nat.le_trans (List.length_filter_le _ _) (by omega)
   walk_at "w"
   refine PrT.cat p20 (hD17.same (S18.trans (S19.trans S20))) (Nat.le_trans (show 1 + (ZDI cv).length ≤ 25 by omega) (by decide)) fun t21 H21 p21 S21 => ?_
   walk_at "w"
   refine ZBk (by show 2 ≤ sizeLine; decide) fun t22 H22 n22 f22 S22 => ?_
   walk_at "w"
   refine ZBk (by show 1 ≤ sizeLine; decide) fun t23 H23 n23 f23 S23 => ?_
   have p23 : PrT H23 t23 [(1099511627776 - 1, 5)] := ⟨_, f23, .cons ⟨t22, rfl, S23 _ _ f22⟩ .nil⟩
   walk_at "w"
   refine PrT.cat (p21.same (S22.trans S23)) p23 (Nat.le_trans (show _ ≤ 26 by rw [List.length_append]; simp; omega) (by decide)) fun t24 H24 p24 S24 => ?_
   have S18_24 := S19.trans (S20.trans (S21.trans (S22.trans (S23.trans S24))))
   have ecv : cv18 = [((-1099511627776 : Int), (6 : Int))] ++ ZDI cv ++ [(1099511627776 - 1, 5)] := ZGi hA18 (ZOj hC3.1) fun r => (hm18 r).trans (ZOk hnd hm5 htm r).symm
   walk_at "w"
   refine ZJE (hP18.same S18_24) p24 ?_
   rw [decide_eq_true ecv]
   walk_at "w"
   refine ZCg ?_
   have hT24 := hT17.same (S18.trans S18_24)
   obtain ⟨dx24, kv24, hp24, _⟩ := id hT24
   walk_at "w"
   refine ZCD hp24 ZCf ?_
   walk_at "w"
   refine ZBk (by show 3 ≤ sizeLine; decide) fun t25 H25 n25 f25 S25 => ?_
   walk_at "w"
   refine ⟨p, t25, d1, d2, _, _, _, _, _, _, rfl, hT24.same S25, ⟨f25, by decide, by decide, by decide, by unfold InT; decide, by unfold InT; decide⟩, fun u26 us26 fs26 n26 H26 f26 hF26 h426 hT26 K26 => ?_⟩
   obtain ⟨v26, hv26⟩ : ∃ v, us26[0]? = some v := ⟨_, List.getElem?_eq_getElem (by rw [hF26.len, h426.1]; decide)⟩
   obtain ⟨o26, ho26, h26⟩ := hF26.at hv26
   have g26 := h426.2 0 o26 ho26
   walk_at "w"
   refine ZFA (SqT.of f26) (ZFU (j := 0) hv26) ?_
   walk_at "w"
   refine ZBk (by show 2 ≤ sizeLine; decide) fun t27 H27 n27 f27 S27 => ?_
   walk_at "w"
   refine ZBk (by show 1 ≤ sizeLine; decide) fun t28 H28 n28 f28 S28 => ?_
   walk_at "w"
   refine ZOU f28 fun t29 H29 n29 f29 S29 => ?_
   have f279 := S29 _ _ (S28 _ _ f27)
   have p29 : ZBs H29 (.ref t29) (some [(1099511627776 - 1, 5), (1099511627776 - 1, 5), (1099511627776 - 1, 5), (1099511627776 - 1, 5)]) := .pr ⟨_, f29, .cons ⟨t27, rfl, f279⟩ (.cons ⟨t27, rfl, f279⟩ (.cons ⟨t27, rfl, f279⟩ (.cons ⟨t27, rfl, f279⟩ .nil)))⟩ rfl
   walk_at "w"
   refine ZLB (h26.same (S27.trans (S28.trans S29))) p29 ?_
   have hone : ∀ r, r ∈ ZCS (ZCL (ZCL sm (1099511627776 - 1) 5) (-1099511627776) 6) (1099511627776 - 1 + ((0 : Nat) : Int) * 1) (1099511627776 - 1 + ((0 : Nat) : Int) * 1 + 1) ↔ r ∈ [((1099511627776 - 1 : Int), (5 : Int))] := fun r => by
    rw [ZCE, ZCl (ZDV hnd), ZCl hnd, List.mem_singleton]
    constructor
    ·rintro ⟨(⟨g1, ⟨g2, g3⟩ | g2⟩ | g2), g4, g5⟩
     ·exfalso; omega
     ·exact g2
     ·rw [g2] at g4; exfalso; revert g4; decide
    ·rintro rfl
     exact ⟨.inl ⟨by decide, .inr rfl⟩, by decide, by decide⟩
   have e26 := Is4.uniqueD (fun x hx y hy _ => by rw [List.mem_singleton.mp hx, List.mem_singleton.mp hy]) (g26.congr hone) (Is4.one (1099511627776 - 1, 5))
   rw [decide_eq_true e26]
   walk_at "w"
   exact k H29
  ·rintro i σ' H16 hi ⟨⟨o, rfl⟩, S16, vs16, f16, hP16⟩
   have hi2 : i < us15.length := by rw [hul]; exact hi
   refine ⟨⟨_, _, SqT.of (S16 _ _ e15), List.getElem?_eq_getElem hi2⟩, ?_⟩
   rintro v H'' ⟨rfl, hv⟩
   have hv := hv _ (SqT.of (S16 _ _ e15))
   obtain ⟨c1, q1, rfl, hq1, hc1⟩ := (hP15.same S16).at hv
   have e3 : cv.take (i + 1) = cv.take i ++ [q1] := by rw [List.take_succ, hq1]; rfl
   have e4 : ZDI (cv.take (i + 1)) = ZDI (cv.take i) ++ (if decide ((if 2 * q1.1 + 1 < 0 then -(2 * q1.1 + 1) else 2 * q1.1 + 1) < 2199023255551) = true then [q1] else []) := by
    rw [e3, ZDI, List.filter_append]
    congr 1
    simp only [List.filter_cons, List.filter_nil]
   walk_at "w"
   refine ZCU (fun h1 => ?_) (fun h1 => ?_)
   ·walk_at "w"
    refine ⟨vs16, f16, ?_, ⟨_, rfl⟩, S16.kpN n16 Kp.upd, _, ZBg, ?_⟩
    ·rw [hP16.length]
     refine Nat.lt_of_le_of_lt (List.length_filter_le _ _) ?_
     rw [List.length_take]
     exact Nat.lt_of_le_of_lt (Nat.min_le_left _ _) (Nat.lt_of_lt_of_le (show i < 100 by omega) (by decide))
    ·rw [e4, decide_eq_true (by omega), if_pos rfl]
     exact ZBe.kpL Kp.upd f16 (hP16.snoc hc1)
   ·refine ⟨⟨_, rfl⟩, S16, vs16, f16, ?_⟩
    rw [e4, decide_eq_false (by omega), if_neg (by decide), List.append_nil]
    exact hP16
end
structure FnH (K : W.Frag) (x : Str) (st : Stmt) (f : Addr) (d : FuncData) : Prop where
 a : W.nsIn K mainGlobals x = some (some (.ref f))
 F : Fun K x x st f d
structure MtH (K : W.Frag) (C : Addr) (x q : Str) (st : Stmt) (f : Addr) (d : FuncData) : Prop where
 a : W.findIn K (.ref C) x = some (some (.ref f))
 i : W.isFn K (.ref f) = true
 F : Fun K x q st f d
open PySem.W in
theorem all_mk {l : OpenLaw} {w : World} {K : Frag} {h : Heap} {mg : Str → Option Value} {fa : Addr} (X : K.In h) (G : h.Ns mainGlobals mg) (hfa : mg "law" = some (.ref fa))
 {ZC ZD ZM ZB ZL ZA ZG ZK ZN ZH : Addr}
 {f0 f1 f2 f3 f4 f5 f6 f7 f8 f9 f10 f11 f12 f13 f14 f15 f16 f17 f18 f19 f20 f21 f22 f23 f24 f25 f26 f27 f28 f29 f30 f31 f32 : Addr} {d0 d1 d2 d3 d4 d5 d6 d7 d8 d9 d10 d11 d12 d13 d15 d16 d17 d18 d19 d20 d21 d22 d23 d24 d25 d26 d27 d28 d29 d30 d31 : FuncData}
 {od14 an14 : Option Addr} {sl14 : Array (Option Value)} {oc14 kV14 dc14 pm14 cd14 ct14 : Value}
 {dt14 : Addr} {dod14 : Option Addr} {dsl14 : Array (Option Value)} {doc14 : Value} {dn14 : Nat}
 {od32 an32 : Option Addr} {sl32 : Array (Option Value)} {oc32 kV32 dc32 pm32 cd32 ct32 : Value}
 {tk_TOP_LEVEL : Tok}
 {tk_TIMES_END : Tok}
 (e_FourPointsError : ZEs K "FourPointsError" ZD)
 (e_NoText : ZEs K "NoText" ZM)
 (e_NoColumn : ZEs K "NoColumn" ZB)
 (e_NotHalf : ZEs K "NotHalf" ZL)
 (e_OutOfTimes : ZEs K "OutOfTimes" ZA)
 (e_NoSample : ZEs K "NoSample" ZG)
 (e_NoWatch : ZEs K "NoWatch" ZK)
 (e_NoName : ZEs K "NoName" ZN)
 (e_NotApart : ZEs K "NotApart" ZH)
 (Zd : subIn K (.ref ZB) (.ref ZD) = some true) (Zc : kitOne K (.ref ZB) (.ref ZD) = some true)
 (Yf : subIn K (.ref ZB) (.ref ZM) = some false) (Yg : kitOne K (.ref ZB) (.ref ZM) = some false)
 (YK : subIn K (.ref ZB) (.ref ZB) = some true) (YO : kitOne K (.ref ZB) (.ref ZB) = some true)
 (Yb : subIn K (.ref ZB) (.ref ZL) = some false) (Ya : kitOne K (.ref ZB) (.ref ZL) = some false)
 (Z2 : subIn K (.ref ZB) (.ref ZA) = some false) (Z3 : kitOne K (.ref ZB) (.ref ZA) = some false)
 (YQ : subIn K (.ref ZB) (.ref ZG) = some false) (YN : kitOne K (.ref ZB) (.ref ZG) = some false)
 (Yc : subIn K (.ref ZB) (.ref ZK) = some false) (YZ : kitOne K (.ref ZB) (.ref ZK) = some false)
 (Yd : subIn K (.ref ZB) (.ref ZN) = some false) (Ye : kitOne K (.ref ZB) (.ref ZN) = some false)
 (YM : subIn K (.ref ZB) (.ref ZH) = some false) (YL : kitOne K (.ref ZB) (.ref ZH) = some false)
 (ZO : subIn K (.ref ZA) (.ref ZD) = some true) (ZZ : kitOne K (.ref ZA) (.ref ZD) = some true)
 (YR : subIn K (.ref ZA) (.ref ZM) = some false) (Zk : kitOne K (.ref ZA) (.ref ZM) = some false)
 (Z4 : subIn K (.ref ZA) (.ref ZB) = some false) (ZX : kitOne K (.ref ZA) (.ref ZB) = some false)
 (YH : subIn K (.ref ZA) (.ref ZL) = some false) (Za : kitOne K (.ref ZA) (.ref ZL) = some false)
 (Zu : subIn K (.ref ZA) (.ref ZA) = some true) (ZS : kitOne K (.ref ZA) (.ref ZA) = some true)
 (Z1 : subIn K (.ref ZA) (.ref ZG) = some false) (ZW : kitOne K (.ref ZA) (.ref ZG) = some false)
 (Z8 : subIn K (.ref ZA) (.ref ZK) = some false) (Zb : kitOne K (.ref ZA) (.ref ZK) = some false)
 (YS : subIn K (.ref ZA) (.ref ZN) = some false) (Zj : kitOne K (.ref ZA) (.ref ZN) = some false)
 (Z5 : subIn K (.ref ZA) (.ref ZH) = some false) (ZV : kitOne K (.ref ZA) (.ref ZH) = some false)
 (e_Tree : ZQr K "Tree" ZC)
 (na_Tree_looks : findIn K (.ref ZC) "looks" = some none)
 (na_Tree_samples : findIn K (.ref ZC) "samples" = some none)
 (na_Tree_kept_fours : findIn K (.ref ZC) "kept_fours" = some none)
 (F0 : FnH K "_wall" ZJL f0 d0)
 (F1 : FnH K "is_whole" ZEt f1 d1)
 (F2 : FnH K "curve_of" ZDw f2 d2)
 (F3 : FnH K "times_of" ZEu f3 d3)
 (F4 : FnH K "columns_of" ZDY f4 d4)
 (F5 : FnH K "height_of" ZEM f5 d5)
 (F6 : FnH K "four_of" ZFJ f6 d6)
 (F7 : FnH K "joined" ZF5 f7 d7)
 (F8 : FnH K "is_border" ZEN f8 d8)
 (F9 : FnH K "check_borders" ZDZ f9 d9)
 (F10 : FnH K "check_time" ZEA f10 d10)
 (F11 : FnH K "check_window" ZDh f11 d11)
 (F12 : FnH K "stretches" ZEO f12 d12)
 (F13 : FnH K "longest" ZFK f13 d13)
 (a14 : findIn K (.ref ZC) "__init__" = some (some (.ref f14))) (i14 : isFn K (.ref f14) = true)
 (l14 : K.lookup f14 = some ⟨oc14, od14, .func (fnOf "__init__" "Tree.__init__" (ZCT ZB7) (ZB9 ZB7) (ZBc ZB7) (.ref dt14) kV14 dc14 pm14 an14 cd14 ct14), sl14⟩) (c14 : codeIn K cd14 "Tree.__init__" = true) (k14 : keepIn K (.ref f14) = true)
 (dl14 : K.lookup dt14 = some ⟨doc14, dod14, .seq #[.none] dn14, dsl14⟩)
 (F15 : MtH K ZC "put" "Tree.put" ZEv f15 d15)
 (F16 : MtH K ZC "take" "Tree.take" ZFl f16 d16)
 (F17 : MtH K ZC "renew" "Tree.renew" ZEB f17 d17)
 (F18 : MtH K ZC "four" "Tree.four" ZEP f18 d18)
 (F19 : MtH K ZC "fours" "Tree.fours" ZDa f19 d19)
 (F20 : MtH K ZC "told" "Tree.told" ZEQ f20 d20)
 (F21 : FnH K "_law_cell" ZF6 f21 d21)
 (F22 : FnH K "_law_pot" ZGr f22 d22)
 (F23 : FnH K "_law_take" ZF7 f23 d23)
 (F24 : FnH K "_law_number" ZEw f24 d24)
 (F25 : FnH K "_law_end" ZGs f25 d25)
 (F26 : FnH K "_law_samples" ZER f26 d26)
 (F27 : FnH K "_law_curve" ZEI f27 d27)
 (F28 : FnH K "_law_deed" ZF8 f28 d28)
 (F29 : FnH K "_law_refused" ZES f29 d29)
 (F30 : FnH K "_law_windows" ZET f30 d30)
 (F31 : FnH K "_law_all_refused" ZC4 f31 d31)
 (a32 : nsIn K mainGlobals "law" = some (some (.ref f32)))
 (l32 : K.lookup f32 = some ⟨oc32, od32, .func (fnOf "law" "law" (ZCT ZDC) (ZB9 ZDC) (ZBc ZDC) .none kV32 dc32 pm32 an32 cd32 ct32), sl32⟩) (c32 : codeIn K cd32 "law" = true) (k32 : keepIn K (.ref f32) = true)
 (ac_TOP_LEVEL : nsIn K mainGlobals "TOP_LEVEL" = some (some (.int 40 tk_TOP_LEVEL)))
 (ac_TIMES_END : nsIn K mainGlobals "TIMES_END" = some (some (.int 1099511627776 tk_TIMES_END)))
 (JO : nsIn K mainGlobals "ValueError" = some none)
 (ZAG : nsIn K mainGlobals "abs" = some none)
 (ZAi : nsIn K mainGlobals "all" = some none)
 (ZAP : nsIn K mainGlobals "bool" = some none)
 (ZAS : nsIn K mainGlobals "dict" = some none)
 (Jv : nsIn K mainGlobals "int" = some none)
 (ZY : nsIn K mainGlobals "isinstance" = some none)
 (JD : nsIn K mainGlobals "len" = some none)
 (ZAQ : nsIn K mainGlobals "list" = some none)
 (ZAH : nsIn K mainGlobals "max" = some none)
 (JX : nsIn K mainGlobals "min" = some none)
 (Y7 : nsIn K mainGlobals "range" = some none)
 (JC : nsIn K mainGlobals "sorted" = some none)
 (ZAq : nsIn K mainGlobals "str" = some none)
 (YT : nsIn K mainGlobals "tuple" = some none)
   : ∃ fd : FuncData, (∀ (s : Shared) (v : Value), BindsTo s fd ⟨[v], []⟩ [("_law_script", v)]) ∧ ∀ base : Heap, K.In base → base.Ns mainGlobals mg → ZBh l.prog w K mg base CX0 10 fa fd ["_law_script"] (ZHY K) := by
  have e := hfa.symm.trans (mg_of X G a32)
  cases e
  have F14 := ZOI (st := ZB7) l14 c14 k14
  have F32 := fun_mk (st := ZDC) l32 c32 k32
  have T : Txt K mg ⟨f0, d0, f1, d1, f2, d2, f3, d3, f4, d4, f5, d5, f6, d6, f7, d7, f8, d8, f9, d9, f10, d10, f11, d11, f12, d12, f13, d13, f14, fnOf "__init__" "Tree.__init__" (ZCT ZB7) (ZB9 ZB7) (ZBc ZB7) (.ref dt14) kV14 dc14 pm14 an14 cd14 ct14, f15, d15, f16, d16, f17, d17, f18, d18, f19, d19, f20, d20, f21, d21, f22, d22, f23, d23, f24, d24, f25, d25, f26, d26, f27, d27, f28, d28, f29, d29, f30, d30, f31, d31, fa, fnOf "law" "law" (ZCT ZDC) (ZB9 ZDC) (ZBc ZDC) .none kV32 dc32 pm32 an32 cd32 ct32, ZC, ZD, ZM, ZB, ZL, ZA, ZG, ZK, ZN, ZH, tk_TOP_LEVEL, tk_TIMES_END⟩ := ⟨F0.F, (F0.F.b1 fun _ _ _ _ _ _ _ => rfl), (mg_of X G F0.a), F1.F, (F1.F.b1 fun _ _ _ _ _ _ _ => rfl), (mg_of X G F1.a), F2.F, (F2.F.b1 fun _ _ _ _ _ _ _ => rfl), (mg_of X G F2.a), F3.F, (F3.F.b2 fun _ _ _ _ _ _ _ _ => rfl), (mg_of X G F3.a), F4.F, (F4.F.b1 fun _ _ _ _ _ _ _ => rfl), (mg_of X G F4.a), F5.F, (F5.F.b1 fun _ _ _ _ _ _ _ => rfl), (mg_of X G F5.a), F6.F, (F6.F.b1 fun _ _ _ _ _ _ _ => rfl), (mg_of X G F6.a), F7.F, (F7.F.b2 fun _ _ _ _ _ _ _ _ => rfl), (mg_of X G F7.a), F8.F, (F8.F.b1 fun _ _ _ _ _ _ _ => rfl), (mg_of X G F8.a), F9.F, (F9.F.b2 fun _ _ _ _ _ _ _ _ => rfl), (mg_of X G F9.a), F10.F, (F10.F.b1 fun _ _ _ _ _ _ _ => rfl), (mg_of X G F10.a), F11.F, (F11.F.b1 fun _ _ _ _ _ _ _ => rfl), (mg_of X G F11.a), F12.F, (F12.F.b2 fun _ _ _ _ _ _ _ _ => rfl), (mg_of X G F12.a), F13.F, (F13.F.b2 fun _ _ _ _ _ _ _ _ => rfl), (mg_of X G F13.a), F14, (fun s us hI hl => by match us, hl with | [_, _], _ => exact binds_K hI rfl dl14 rfl rfl rfl), (fun s us hI hl => have hl2 : us.length = 1 := (by simpa using hl); match us, hl2 with | [_], _ => binds_K hI rfl dl14 rfl rfl rfl), (fun s u v hI => binds_K hI rfl dl14 rfl rfl rfl), F15.F, (F15.F.b3 fun _ _ _ _ _ _ _ _ _ => rfl), ⟨F15.a, F15.i, F15.F.kp⟩, F16.F, (F16.F.b2 fun _ _ _ _ _ _ _ _ => rfl), ⟨F16.a, F16.i, F16.F.kp⟩, F17.F, (F17.F.b3 fun _ _ _ _ _ _ _ _ _ => rfl), ⟨F17.a, F17.i, F17.F.kp⟩, F18.F, (F18.F.b3 fun _ _ _ _ _ _ _ _ _ => rfl), ⟨F18.a, F18.i, F18.F.kp⟩, F19.F, (F19.F.b2 fun _ _ _ _ _ _ _ _ => rfl), ⟨F19.a, F19.i, F19.F.kp⟩, F20.F, (F20.F.b1 fun _ _ _ _ _ _ _ => rfl), ⟨F20.a, F20.i, F20.F.kp⟩, F21.F, (F21.F.b2 fun _ _ _ _ _ _ _ _ => rfl), (mg_of X G F21.a), F22.F, (F22.F.b1 fun _ _ _ _ _ _ _ => rfl), (mg_of X G F22.a), F23.F, (F23.F.b2 fun _ _ _ _ _ _ _ _ => rfl), (mg_of X G F23.a), F24.F, (F24.F.b1 fun _ _ _ _ _ _ _ => rfl), (mg_of X G F24.a), F25.F, (F25.F.b1 fun _ _ _ _ _ _ _ => rfl), (mg_of X G F25.a), F26.F, (F26.F.b1 fun _ _ _ _ _ _ _ => rfl), (mg_of X G F26.a), F27.F, (F27.F.b1 fun _ _ _ _ _ _ _ => rfl), (mg_of X G F27.a), F28.F, (F28.F.b4 fun _ _ _ _ _ _ _ _ _ _ => rfl), (mg_of X G F28.a), F29.F, (F29.F.b4 fun _ _ _ _ _ _ _ _ _ _ => rfl), (mg_of X G F29.a), F30.F, (F30.F.b2 fun _ _ _ _ _ _ _ _ => rfl), (mg_of X G F30.a), F31.F, (F31.F.b3 fun _ _ _ _ _ _ _ _ _ => rfl), (mg_of X G F31.a), F32, (F32.b1 fun _ _ _ _ _ _ _ => rfl), (mg_of X G a32), ⟨e_Tree.pg, e_Tree.hd, e_Tree.po, e_Tree.sa⟩, (mg_of X G e_Tree.a), ⟨e_Tree.mi, a14, i14, e_Tree.kc⟩, na_Tree_looks, na_Tree_samples, na_Tree_kept_fours, e_FourPointsError.ex, ⟨e_FourPointsError.ga, e_FourPointsError.gt, e_FourPointsError.cl, e_FourPointsError.ob, e_FourPointsError.be⟩, (mg_of X G e_FourPointsError.a), e_NoText.ex, ⟨e_NoText.ga, e_NoText.gt, e_NoText.cl, e_NoText.ob, e_NoText.be⟩, (mg_of X G e_NoText.a), e_NoColumn.ex, ⟨e_NoColumn.ga, e_NoColumn.gt, e_NoColumn.cl, e_NoColumn.ob, e_NoColumn.be⟩, (mg_of X G e_NoColumn.a), e_NotHalf.ex, ⟨e_NotHalf.ga, e_NotHalf.gt, e_NotHalf.cl, e_NotHalf.ob, e_NotHalf.be⟩, (mg_of X G e_NotHalf.a), e_OutOfTimes.ex, ⟨e_OutOfTimes.ga, e_OutOfTimes.gt, e_OutOfTimes.cl, e_OutOfTimes.ob, e_OutOfTimes.be⟩, (mg_of X G e_OutOfTimes.a), e_NoSample.ex, ⟨e_NoSample.ga, e_NoSample.gt, e_NoSample.cl, e_NoSample.ob, e_NoSample.be⟩, (mg_of X G e_NoSample.a), e_NoWatch.ex, ⟨e_NoWatch.ga, e_NoWatch.gt, e_NoWatch.cl, e_NoWatch.ob, e_NoWatch.be⟩, (mg_of X G e_NoWatch.a), e_NoName.ex, ⟨e_NoName.ga, e_NoName.gt, e_NoName.cl, e_NoName.ob, e_NoName.be⟩, (mg_of X G e_NoName.a), e_NotApart.ex, ⟨e_NotApart.ga, e_NotApart.gt, e_NotApart.cl, e_NotApart.ob, e_NotApart.be⟩, (mg_of X G e_NotApart.a), Zd, Zc, Yf, Yg, YK, YO, Yb, Ya, Z2, Z3, YQ, YN, Yc, YZ, Yd, Ye, YM, YL, ZO, ZZ, YR, Zk, Z4, ZX, YH, Za, Zu, ZS, Z1, ZW, Z8, Zb, YS, Zj, Z5, ZV, (mg_of X G ac_TOP_LEVEL), (mg_of X G ac_TIMES_END), (mg_none_of X G JO), (mg_none_of X G ZAG), (mg_none_of X G ZAi), (mg_none_of X G ZAP), (mg_none_of X G ZAS), (mg_none_of X G Jv), (mg_none_of X G ZY), (mg_none_of X G JD), (mg_none_of X G ZAQ), (mg_none_of X G ZAH), (mg_none_of X G JX), (mg_none_of X G Y7), (mg_none_of X G JC), (mg_none_of X G ZAq), (mg_none_of X G YT)⟩
  exact ⟨fnOf "law" "law" (ZCT ZDC) (ZB9 ZDC) (ZBc ZDC) .none kV32 dc32 pm32 an32 cd32 ct32, fun s v => .of_eq rfl, fun base _ _ => ZQG T⟩
theorem walk {l : W.OpenLaw} {q : Program} {loose : List Str} {XP : (Str → Option Value) → Heap → Prop} {YP : World → Heap → Prop} {d : DefRec} {K : Params → W.Frag} (hn : l.most = some 63) (hdf : d.params.defaults = [])
  (hY : ∀ (w : World) (h : Heap), YP w h → (K w.params).In h)
  (F : ∀ (w : World) (mg : Str → Option Value) (fa : Addr) (h : Heap), (K w.params).In h → h.Ns mainGlobals mg → mg d.name = some (.ref fa) →
   ∃ fd : FuncData, (∀ (s : Shared) (u : Value), BindsTo s fd ⟨[u], []⟩ [("_law_script", u)]) ∧ ∀ base : Heap, (K w.params).In base → base.Ns mainGlobals mg → ZBh l.prog w (K w.params) mg base CX0 10 fa fd ["_law_script"] (ZHY (K w.params))) :
  W.WalkO q loose XP YP l.row.toRowW d [] (fun f vs => PySem.call f vs) :=
 L2.walk_of (n := 63) (k := 10) (x := "_law_script") (CX := fun _ => CX0) (sp := fun w => ZHY (K w.params)) hn (by decide) hdf ⟨rfl, by decide, by decide, rfl⟩ hY F (fun _ _ a ns hl _ hS => ⟨a, ns, rfl, hS, hl, fun _ => rfl⟩) fun _ _ _ _ _ z => z
end My
local macro_rules | `(tactic| walk_at "e") => `(tactic| (refine' ⟨?a, ?b, ?c, ?d, ?e, ?f, ?g⟩; (case a => k_is); (case b => k_exc); (case c => k_is); (case d => k_is); (case e => k_is); (case f => k_is); (case g => k_is)))
local macro_rules | `(tactic| walk_at "c") => `(tactic| (refine' ⟨?a, ?b, ?c, ?d, ?e, ?f, ?g⟩; (case a => k_is); (case b => k_is); (case c => k_is); (case d => k_is); (case e => k_is); (case f => k_is); (case g => k_is)))
local macro_rules | `(tactic| walk_at "f") => `(tactic| (refine' ⟨?a, L2.fun_mk ?b ?c ?d⟩; (case a => k_is); (case b => k_is); (case c => k_is); (case d => k_is)))
local macro_rules | `(tactic| walk_at "m") => `(tactic| (refine' ⟨?a, ?b, L2.fun_mk ?c ?d ?e⟩; (case a => k_is); (case b => k_is); (case c => k_is); (case d => k_is); (case e => k_is)))
namespace PySem.W.Fast
def tw2353129182518603204:=()
def tw8141828673161440293:=()
def tw7452741160779168389:=()
def tw16921194443994807015:=()
def tw7004402498573789256:=()
def tw1401363044759805832:=()
def tw11837368899187885868:=()
def tw15834371856482471469:=()
def tw2546630576628417646:=()
def tw12120868428437408721:=()
def tw12728217733387317907:=()
def tw17946268482410275415:=()
def tw1208008834690642617:=()
def tw9194687679840801531:=()
def tw12393267320948147612:=()
def tw7259371800029837597:=()
def tw1648567142398830216:=()
def tw1770318383700167427:=()
def tw1008572848490074310:=()
def tw1050786038167379549:=()
def tw16308870870906521655:=()
def tw11870125210485414241:=()
def tw12557843691763033895:=()
def tw3260519238961480200:=()
def tw10563810346675610844:=()
def tw18286955579978320264:=()
def tw10343796938615879296:=()
def tw11265491760060291822:=()
def tw14911726734145561862:=()
def tw6622885060142090825:=()
def tw1723406152992088870:=()
def tw11804983909634564844:=()
def tw6593984691140628342:=()
def tw9245316949320544079:=()
def tw14161260926326337692:=()
def tw6364428230726011457:=()
def tw3181074151425978193:=()
def tw9680874934472079353:=()
def tw3829324710914387702:=()
def tw8300083972373284177:=()
def tw3647709061296185009:=()
def tw15275718962520193916:=()
def tw5731753528783504448:=()
def tw15534226754269962675:=()
def tw6503537127182157562:=()
def tw3364660703958910634:=()
def tw402838783219467620:=()
def tw2740624805983930689:=()
def tw14329639626743080580:=()
def tw4267778612553851606:=()
def tw8519381610758129331:=()
def tw16250454981520366076:=()
def tw5452613493330770439:=()
def tw3789626177493094344:=()
def tw17543279448860537114:=()
def tw6846240856466398875:=()
def tw8859683764270891832:=()
def tw4227970084039084869:=()
def tw7825138948442602262:=()
def tw8062065603235838583:=()
def tw1919420268156487433:=()
def tw8753212364187431553:=()
def tw14312520138334953755:=()
def tw14819109175485377380:=()
def tw14909488297448447445:=()
def tw6038855862780832905:=()
def tw19635206883604927:=()
def tw18325771840356691165:=()
def tw3850888571084404091:=()
def tw12833169364120194978:=()
def tw7361170307370005992:=()
def tw1351977275707836450:=()
def tw7662670799547904342:=()
def tw15993293732579360136:=()
def tw8936049018669529405:=()
def tw16344257977489133828:=()
def tw4072605758061813474:=()
def tw12613423305962836392:=()
def tw17812245082599200984:=()
def tw3417541473291957936:=()
def tw8987119572842380052:=()
def tw12339295382368974990:=()
def tw15742928815697672828:=()
def tw3464991432920015381:=()
def tw8148089763461749558:=()
def tw11735739210682717505:=()
def tw16127604373075258563:=()
def tw11542323662172722070:=()
def tw12488734487147585592:=()
def tw13027805549437948493:=()
def tw9340064178024573702:=()
def tw17097343626308208569:=()
def tw18236318169794195579:=()
def tw13469875944138121516:=()
def tw12580609638399797034:=()
def tw12867990403757878739:=()
def tw13094995528387552598:=()
def tw189469726715213832:=()
def tw5632664013132443802:=()
def tw13206933347695516160:=()
end PySem.W.Fast
open PySem PySem.W PyProof.Rows
set_option maxRecDepth 100000 in
set_option maxHeartbeats 0 in
theorem PySem.Challenge.cw_fourpoints_k54_beyond_tree_times_holds : PySem.Challenge.rw_fourpoints_k54_beyond_tree_times.Holds := by
 w_on; o_law; k_head; (case hw => w_witness2)
 k_fill
 refine My.walk (l := PySem.Challenge.rw_fourpoints_k54_beyond_tree_times) rfl rfl (fun w h Y => PySem.W.kIn_of Y) ?F
 case F =>
  intro w mg fa h KX G hmg
  refine' My.all_mk KX G hmg ?taa ?tab ?tac ?tad ?tae ?taf ?tag ?tah ?tai ?taj ?tak ?tal ?tam ?tan ?tao ?tap ?taq ?tar ?tas ?tat ?tau ?tav ?taw ?tax ?tay ?taz ?tba ?tbb ?tbc ?tbd ?tbe ?tbf ?tbg ?tbh ?tbi ?tbj ?tbk ?tbl ?tbm ?tbn ?tbo ?tbp ?tbq ?tbr ?tbs ?tbt ?tbu ?tbv ?tbw ?tbx ?tby ?tbz ?tca ?tcb ?tcc ?tcd ?tce ?tcf ?tcg ?tch ?tci ?tcj ?tck ?tcl ?tcm ?tcn ?tco ?tcp ?tcq ?tcr ?tcs ?tct ?tcu ?tcv ?tcw ?tcx ?tcy ?tcz ?tda ?tdb ?tdc ?tdd ?tde ?tdf ?tdg ?tdh ?tdi ?tdj ?tdk ?tdl ?tdm ?tdn ?tdo ?tdp ?tdq ?tdr ?tds ?tdt ?tdu ?tdv ?tdw ?tdx ?tdy ?tdz ?tea ?teb ?tec
  (case taa | tab | tac | tad | tae | taf | tag | tah | tai => walk_at "e")
  (case taj => k_is)
  (case tak => kit_is)
  (case tal => k_is)
  (case tam => kit_is)
  (case tan => k_is)
  (case tao => kit_is)
  (case tap => k_is)
  (case taq => kit_is)
  (case tar => k_is)
  (case tas => kit_is)
  (case tat => k_is)
  (case tau => kit_is)
  (case tav => k_is)
  (case taw => kit_is)
  (case tax => k_is)
  (case tay => kit_is)
  (case taz => k_is)
  (case tba => kit_is)
  (case tbb => k_is)
  (case tbc => kit_is)
  (case tbd => k_is)
  (case tbe => kit_is)
  (case tbf => k_is)
  (case tbg => kit_is)
  (case tbh => k_is)
  (case tbi => kit_is)
  (case tbj => k_is)
  (case tbk => kit_is)
  (case tbl => k_is)
  (case tbm => kit_is)
  (case tbn => k_is)
  (case tbo => kit_is)
  (case tbp => k_is)
  (case tbq => kit_is)
  (case tbr => k_is)
  (case tbs => kit_is)
  (case tbt => walk_at "c")
  (case tbu | tbv | tbw => k_is)
  (case tbx | tby | tbz | tca | tcb | tcc | tcd | tce | tcf | tcg | tch | tci | tcj | tck => walk_at "f")
  (case tcl | tcm | tcn | tco | tcp | tcq => k_is)
  (case tcr | tcs | tct | tcu | tcv | tcw => walk_at "m")
  (case tcx | tcy | tcz | tda | tdb | tdc | tdd | tde | tdf | tdg | tdh => walk_at "f")
  (case tdi | tdj | tdk | tdl | tdm | tdn | tdo | tdp | tdq | tdr | tds | tdt | tdu | tdv | tdw | tdx | tdy | tdz | tea | teb | tec => k_is)
