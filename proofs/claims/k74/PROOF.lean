import PyProof.Rows.All
import Wide.All
import OpenK.AllK
import Wide.FinOn
import Lean
import PyProof.EqAt
import PyProof.EqKinds
import PyProof.TupleCall
import KE.KSortTup
import PyProof.CollectWalk
import PyProof.DictWalks
import PyProof.Rows.SortWalk
import KE.KItemsList
import PyProof.ReprText
import PyProof.Rows.StrIntSpec
import PyProof.RowDictHeap
import KE.KRevIter
import KE.KMinKey
import PyProof.P3In
import KE.KIntText
import PyProof.StrLawsTight
import PyProof.StrWalks
import PyProof.ListRange
import PySem.Challenge.RW_fourpoints_k74_views_refused
set_option Elab.async false
set_option linter.all false
set_option maxRecDepth 100000
set_option maxHeartbeats 4000000
-- CHANGE: your row's module here, as the last of these rows
abbrev L2.PL := List (Int × Int)
namespace L2
open PySem PySem.Spec PyProof.Rows
abbrev Key := Sum Int Str
def ZIn : Key → Value → Bool
 | .inl k, v => Value.isInt k v
 | .inr x, v => Value.isStrOf x v
def ZXB (w : World) : Key → Int
 | .inl k => hashInt k
 | .inr x => hashStr w x
theorem ZFN : ∀ {k : Key} {v : Value}, ZIn k v = true → (∃ i t, k = Sum.inl i ∧ v = Value.int i t) ∨ (∃ x t, k = Sum.inr x ∧ v = Value.str x t)
 | .inl i, v, h => by
  obtain ⟨t, e⟩ := Value.isInt_shape (k := i) (v := v) h
  exact .inl ⟨i, t, rfl, e⟩
 | .inr x, v, h => by
  obtain ⟨t, e⟩ := Value.isStrOf_shape (x := x) (v := v) h
  exact .inr ⟨x, t, rfl, e⟩
theorem ZPc (i : Int) (t : Tok) : ZIn (.inl i) (.int i t) = true := by simp [ZIn, Value.isInt]
theorem ZPd (x : Str) (t : Tok) : ZIn (.inr x) (.str x t) = true := by simp [ZIn, Value.isStrOf]
theorem ZVD (a b : Int) : decide ((Sum.inl a : Key) = Sum.inl b) = (a == b) := by
 by_cases e : a = b
 ·subst e; simp
 ·have h : ¬ (Sum.inl a : Key) = Sum.inl b := fun q => e (Sum.inl.inj q)
  rw [decide_eq_false h]
  exact (beq_eq_false_iff_ne.mpr e).symm
theorem ZVE (a b : Str) : decide ((Sum.inr a : Key) = Sum.inr b) = decide (a = b) := by
 by_cases e : a = b
 ·subst e; simp
 ·have h : ¬ (Sum.inr a : Key) = Sum.inr b := fun q => e (Sum.inr.inj q)
  rw [decide_eq_false h, decide_eq_false e]
theorem ZVF (a : Int) (b : Str) : decide ((Sum.inl a : Key) = Sum.inr b) = false := decide_eq_false (fun q => nomatch q)
theorem ZVG (a : Str) (b : Int) : decide ((Sum.inr a : Key) = Sum.inl b) = false := decide_eq_false (fun q => nomatch q)
def ZFI (prog : Program) (w : World) : PySem.KeyKind prog w Key where
 is := ZIn
 hash := ZXB w
 inj := fun v a b ha hb => by
  rcases ZFN ha with ⟨i, t, rfl, rfl⟩ | ⟨x, t, rfl, rfl⟩
  ·rcases ZFN hb with ⟨j, u, rfl, e⟩ | ⟨y, u, rfl, e⟩
   ·injection e with e1 _; rw [e1]
   ·exact nomatch e
  ·rcases ZFN hb with ⟨j, u, rfl, e⟩ | ⟨y, u, rfl, e⟩
   ·exact nomatch e
   ·injection e with e1 _; rw [e1]
 byValue := fun k v h => by
  rcases ZFN h with ⟨i, t, rfl, rfl⟩ | ⟨x, t, rfl, rfl⟩ <;> rfl
 pyHash := fun hv h => by
  rcases ZFN hv with ⟨i, t, rfl, rfl⟩ | ⟨x, t, rfl, rfl⟩
  ·exact wpAny_pyHash_int h
  ·exact wpAny_pyHash_str h
 eqBool := fun hu hv h => by
  rcases ZFN hu with ⟨i, t, rfl, rfl⟩ | ⟨x, t, rfl, rfl⟩
  ·rcases ZFN hv with ⟨j, u, rfl, rfl⟩ | ⟨y, u, rfl, rfl⟩
   ·rw [ZVD] at h; exact wpAny_eqBool_int h
   ·rw [ZVF] at h; exact SeqAt.EqAt.int_str i t y u _ _ _ _ h
  ·rcases ZFN hv with ⟨j, u, rfl, rfl⟩ | ⟨y, u, rfl, rfl⟩
   ·rw [ZVG] at h; exact SeqAt.EqAt.str_int x t j u _ _ _ _ h
   ·rw [ZVE] at h; exact wpAny_eqBool_str h
 «strs» := fun k x t v h => by
  rcases ZFN h with ⟨i, u, rfl, e⟩ | ⟨y, u, rfl, e⟩
  ·exact nomatch e
  ·injection e with e1 _
   subst e1
   cases v <;> rfl
theorem ZNq (prog : Program) (w : World) (i : Int) (t : Tok) : (ZFI prog w).is (.inl i) (.int i t) = true := ZPc i t
theorem ZNr (prog : Program) (w : World) (x : Str) (t : Tok) : (ZFI prog w).is (.inr x) (.str x t) = true := ZPd x t
inductive V where
 | non | bl (b : Bool) | int (i : Int) | str (x : Str) | byt (b : Array UInt8) | flt (b : UInt64) | ref (a : Addr) | ty (n : String)
 deriving DecidableEq
def ZEd : V → Value → Prop
 | .non, u => u = Value.none
 | .bl b, u => u = Value.bool b
 | .int i, u => ∃ t, u = Value.int i t
 | .str x, u => ∃ t, u = Value.str x t
 | .byt b, u => ∃ t, u = Value.bytes b t
 | .flt b, u => ∃ t, u = Value.float b t
 | .ref a, u => u = Value.ref a
 | .ty n, u => u = Value.type n
abbrev ZEg : List V → List Value → Prop := Paired ZEd
theorem ZEg.length {xs : List V} {us : List Value} (r : ZEg xs us) : xs.length = us.length := Paired.length r
theorem ZEg.get : ∀ {xs : List V} {us : List Value} {i : Nat} {x : V}, ZEg xs us → xs[i]? = some x → ∃ u, us[i]? = some u ∧ ZEd x u
 | _, _, _, _, .nil, e => by simp at e
 | _, _, 0, _, .cons r _, e => by simp at e; subst e; exact ⟨_, rfl, r⟩
 | _, _, i + 1, x, .cons _ t, e => by
  obtain ⟨u, h1, h2⟩ := ZEg.get (i := i) (x := x) t (by simpa using e)
  exact ⟨u, by simpa using h1, h2⟩
theorem ZEg.set {x : V} {u : Value} (r : ZEd x u) : ∀ {xs : List V} {us : List Value} (i : Nat), ZEg xs us → ZEg (xs.set i x) (us.set i u)
 | _, _, _, .nil => .nil
 | _, _, 0, .cons _ t => .cons r t
 | _, _, i + 1, .cons q t => .cons q (ZEg.set r i t)
theorem ZEg.append : ∀ {xs ys : List V} {us ws : List Value}, ZEg xs us → ZEg ys ws → ZEg (xs ++ ys) (us ++ ws)
 | _, _, _, _, .nil, s => s
 | _, _, _, _, .cons r t, s => .cons r (ZEg.append t s)
theorem ZEg.take : ∀ {xs : List V} {us : List Value} (n : Nat), ZEg xs us → ZEg (xs.take n) (us.take n)
 | _, _, 0, _ => .nil
 | _, _, _ + 1, .nil => .nil
 | _, _, n + 1, .cons r t => .cons r (ZEg.take n t)
theorem ZEg.drop : ∀ {xs : List V} {us : List Value} (n : Nat), ZEg xs us → ZEg (xs.drop n) (us.drop n)
 | _, _, 0, r => r
 | _, _, _ + 1, .nil => .nil
 | _, _, n + 1, .cons _ t => ZEg.drop n t
def ZGT : Option V → Option Value → Prop
 | some v, some u => ZEd v u
 | none, none => True
 | _, _ => False
def KV {κ : Type} : List (κ × V) → List (κ × Value) → Prop := Paired fun (p : κ × V) (q : κ × Value) => p.1 = q.1 ∧ ZEd p.2 q.2
def kV : Key → V
 | .inl i => .int i
 | .inr x => .str x
inductive HO where
 /-- a list -/
 | lst (xs : List V)
 /-- a tuple (never changes) -/
 | tup (xs : List V)
 /-- a dict whose keys are ints and texts; one whose keys are tuples of ints and texts (the empty one is both) -/
 | dK (kvs : List (Key × V)) | dT (kvs : List (List Key × V))
 /-- a set of ints: its members, its size -/
 | set (S : Int → Bool) (n : Nat)
 /-- an instance of the class at C, its dict at dx, its attributes -/
 | ins (C dx : Addr) (fs : List (Str × V))
 /-- the dict of the instance at x -/
 | own (x : Addr)
 /-- the dict of an exception -/
 | xd (fs : List (Str × V))
 /-- a bound method, f of x -/
 | met (f x : Addr)
 /-- a range object lo, lo + 1, .. below hi -/
 | rng (lo hi : Int)
 /-- a thing that is known to the object (the script; a dict while a loop walks it): read, never written while it is so -/
 | frz (o : Obj) (u : HO)
 /-- a code object's table -/
 | tbl (ps : Array Value)
 /-- any other thing, by what is true of its one object (a def of one's own: SetO a S n := HO.ext fun h => ..) -/
 | ext (φ : Heap → Prop)
abbrev Hp := Addr → Option HO
def upd (H : Hp) (a : Addr) (o : HO) : Hp := fun b => if b = a then some o else H b
theorem ZEa {H : Hp} {a : Addr} {o : HO} : upd H a o a = some o := by unfold upd; rw [if_pos rfl]
theorem ZEf {H : Hp} {a b : Addr} {o : HO} (h : b ≠ a) : upd H a o b = H b := by unfold upd; rw [if_neg h]
theorem ZS9 {H : Hp} {a b : Addr} {o u : HO} (h : H a = some o) (h' : H b = some u) (d : o ≠ u) : a ≠ b := by
 intro e; subst e; rw [h] at h'; exact d (Option.some.inj h')
theorem ZEh {H : Hp} {a b : Addr} {o : HO} (h : H a = some o) (h' : H b = none) : a ≠ b := by
 intro e; subst e; rw [h] at h'; cases h'
section
variable (P : Program) (w : World)
def ZE3 (H : Hp) (h : Heap) (a : Addr) : HO → Prop
 | .lst xs => xs.length ≤ sizeLine ∧ ∃ (its : List Value) (n : Nat), ZEg xs its ∧ h.get? a = some { cls := .type "list", data := .seq its.toArray n }
 | .tup xs => (xs.length ≤ sizeLine ∧ ((∀ i : Int, xs.head? ≠ some (.int i)) → ∃ o, h.get? a = some o ∧ o.dict = none ∧ o.slots = #[])) ∧ ∃ its : List Value, ZEg xs its ∧ IsTup h a its.toArray
 | .dK kvs => kvs.length ≤ sizeLine ∧ (a == sysModules) = false ∧ ∃ vs, KV kvs vs ∧ h.DictOf (ZFI P w) a vs
 | .dT kvs => kvs.length ≤ sizeLine ∧ (a == sysModules) = false ∧ ∃ xs : List (List Key × Addr × Value),
  Paired (fun (p : List Key × V) (q : List Key × Addr × Value) => p.1 = q.1 ∧ H q.2.1 = some (.tup (p.1.map kV)) ∧ ZEd p.2 q.2.2) kvs xs ∧
  ∃ o es ep, h.get? a = some o ∧ o.ExactDict ∧ o.data = .dict es ep ∧ es.toList = xs.map (entryOfKey (tupleKind (ZFI P w))) ∧ (xs.map (·.1)).Nodup
 | .set S n => h.SetOf (intKind P w) a S n
 | .ins C dx fs => H dx = some (.own a) ∧ fs.length ≤ 1000 ∧ dx ≠ a ∧ h.get? a = some (PySem.W.instObj C dx) ∧
  ∃ mA, h.Ns1 dx mA ∧ (∀ f, ZGT (fs.lookup f) (mA f)) ∧ PySem.Within mA (fs.map (·.1))
 | .own _ => ∃ o, h.get? a = some o
 | .xd fs => ∃ mA, h.Ns1 a mA ∧ ∀ f, ZGT (fs.lookup f) (mA f)
 | .rng lo hi => ∃ t u v, h.get? a = some { cls := .type "range", data := .fields #[.int lo t, .int hi u, .int 1 v] }
 | .frz o u => h.get? a = some o ∧ ZE3 H h a u
 | .tbl ps => h.get? a = some { cls := .none, data := .fields ps }
 | .met f x => h.get? a = some (PySem.W.methodObj (.ref f) (.ref x))
 | .ext φ => φ h ∧ (∃ o, h.get? a = some o) ∧ ∀ h1 h2 : Heap, φ h1 → (∀ o, h1.get? a = some o → h2.get? a = some o) → φ h2
def HOk (H : Hp) (h : Heap) : Prop := ∀ a o, H a = some o → ZE3 P w H h a o
end
section
variable {P : Program} {w : World} {H H' : Hp} {h h' : Heap} {a : Addr} {o : HO}
theorem ZE3.lt (x : ZE3 P w H h a o) : a < h.objs.size := by
 cases o with
 | lst xs => obtain ⟨_, _, _, _, e⟩ := x; exact Heap.lt_size e
 | tup xs => obtain ⟨_, _, _, p⟩ := x; exact p.lt
 | dK kvs => obtain ⟨_, _, _, _, o, _, _, e, _⟩ := x; exact Heap.lt_size e
 | dT kvs => obtain ⟨_, _, _, _, o, _, _, e, _⟩ := x; exact Heap.lt_size e
 | set S n => obtain ⟨o, _, _, _, e, _⟩ := x; exact Heap.lt_size e
 | ins C dx fs => obtain ⟨_, _, _, e, _⟩ := x; exact Heap.lt_size e
 | own y => obtain ⟨_, e⟩ := x; exact Heap.lt_size e
 | xd fs => obtain ⟨_, ⟨_, _, _, e, _⟩, _⟩ := x; exact Heap.lt_size e
 | rng lo hi => obtain ⟨_, _, _, e⟩ := x; exact Heap.lt_size e
 | frz ob u => obtain ⟨e, _⟩ := x; exact Heap.lt_size e
 | tbl ps => exact Heap.lt_size (show h.get? a = some _ from x)
 | met f y => exact Heap.lt_size (show h.get? a = some _ from x)
 | ext φ => obtain ⟨_, ⟨_, e⟩, _⟩ := x; exact Heap.lt_size e
theorem Paired.mapP {α β : Type} {F G : α → β → Prop} : ∀ {l₁ : List α} {l₂ : List β}, Paired F l₁ l₂ → (∀ a b, F a b → G a b) → Paired G l₁ l₂
 | _, _, .nil, _ => .nil
 | _, _, .cons r t, f => .cons (f _ _ r) (Paired.mapP t f)
theorem ZE3.stay (x : ZE3 P w H h a o) (k : ∀ b u, (b = a ∨ H b = some (.own a)) → h.get? b = some u → h'.get? b = some u)
  (ho : ∀ b, H b = some (.own a) → H' b = some (.own a)) (ht : ∀ b xs, H b = some (.tup xs) → H' b = some (.tup xs)) : ZE3 P w H' h' a o := by
 induction o with
 | lst xs => obtain ⟨z, its, n, r, e⟩ := x; exact ⟨z, its, n, r, k _ _ (.inl rfl) e⟩
 | tup xs =>
  obtain ⟨⟨z, pd⟩, its, r, ob, e, c⟩ := x
  exact ⟨⟨z, fun q => let ⟨od, ed, cd⟩ := pd q; ⟨od, k _ _ (.inl rfl) ed, cd⟩⟩, its, r, ob, k _ _ (.inl rfl) e, c⟩
 | dK kvs => obtain ⟨z, y, vs, r, ob, es, ep, e, c⟩ := x; exact ⟨z, y, vs, r, ob, es, ep, k _ _ (.inl rfl) e, c⟩
 | dT kvs =>
  obtain ⟨z, y, xs, r, ob, es, ep, e, c⟩ := x
  exact ⟨z, y, xs, Paired.mapP r fun p q z => ⟨z.1, ht _ _ z.2.1, z.2.2⟩, ob, es, ep, k _ _ (.inl rfl) e, c⟩
 | set S n => obtain ⟨ob, es, ep, t, e, c⟩ := x; exact ⟨ob, es, ep, t, k _ _ (.inl rfl) e, c⟩
 | ins C dx fs =>
  obtain ⟨d, z, ne, e, mA, ⟨od, es, ep, e2, c⟩, r⟩ := x
  exact ⟨ho _ d, z, ne, k _ _ (.inl rfl) e, mA, ⟨od, es, ep, k _ _ (.inr d) e2, c⟩, r⟩
 | own y => obtain ⟨ob, e⟩ := x; exact ⟨ob, k _ _ (.inl rfl) e⟩
 | xd fs => obtain ⟨mA, ⟨od, es, ep, e, c⟩, r⟩ := x; exact ⟨mA, ⟨od, es, ep, k _ _ (.inl rfl) e, c⟩, r⟩
 | rng lo hi => obtain ⟨t, u, v, e⟩ := x; exact ⟨t, u, v, k _ _ (.inl rfl) e⟩
 | frz ob u ih => obtain ⟨e, q⟩ := x; exact ⟨k _ _ (.inl rfl) e, ih q⟩
 | tbl ps =>
  have e : h.get? a = some { cls := .none, data := .fields ps } := x
  show h'.get? a = some { cls := .none, data := .fields ps }
  exact k a _ (.inl rfl) e
 | met f y =>
  have e : h.get? a = some (PySem.W.methodObj (.ref f) (.ref y)) := x
  show h'.get? a = some (PySem.W.methodObj (.ref f) (.ref y))
  exact k a _ (.inl rfl) e
 | ext φ => obtain ⟨p, ⟨o, e⟩, st⟩ := x; exact ⟨st _ _ p fun o q => k _ _ (.inl rfl) q, ⟨o, k _ _ (.inl rfl) e⟩, st⟩
theorem HOk.lt (x : HOk P w H h) (e : H a = some o) : a < h.objs.size := (x a o e).lt
theorem HOk.fresh (x : HOk P w H h) (e : h.objs.size ≤ a) : H a = none := by
 cases q : H a with
 | none => rfl
 | some u => exact absurd (Nat.lt_of_lt_of_le (x.lt q) e) (Nat.lt_irrefl _)
theorem HOk.kept (x : HOk P w H h) (k : ∀ b u, h.get? b = some u → h'.get? b = some u) : HOk P w H h' := fun a o e =>
 (x a o e).stay (fun b u _ q => k b u q) (fun _ q => q) fun _ _ q => q
theorem HOk.laid (x : HOk P w H h) (k : ∀ b u, h.get? b = some u → h'.get? b = some u) (hp : h.objs.size ≤ a) (new : ZE3 P w (upd H a o) h' a o) : HOk P w (upd H a o) h' := fun b u e => by
 have hn := x.fresh hp
 by_cases hb : b = a
 ·subst hb; rw [ZEa] at e; cases e; exact new
 ·rw [ZEf hb] at e
  exact (x b u e).stay (fun c v _ q => k c v q) (fun c q => by rw [ZEf (ZEh q hn)]; exact q) fun c xs q => by rw [ZEf (ZEh q hn)]; exact q
end
def Rd (H : Hp) (a : Addr) (u : HO) : Prop := H a = some u ∨ ∃ o, H a = some (.frz o u)
theorem Rd.ok {P : Program} {w : World} {H : Hp} {h : Heap} {a : Addr} {u : HO} (r : Rd H a u) (x : HOk P w H h) : ZE3 P w H h a u := by
 rcases r with r | ⟨o, r⟩
 ·exact x a u r
 ·obtain ⟨_, q⟩ := x a _ r
  exact q
def Mut : Option HO → Prop
 | some (.lst _) => True
 | some (.dK _) => True
 | some (.dT _) => True
 | some (.set _ _) => True
 | some (.ins _ _ _) => True
 | some (.ext _) => True
 | _ => False
section
variable {P : Program} {w : World} {H : Hp} {h h' : Heap} {x e : Addr} {o' : HO}
theorem HOk.write (ok : HOk P w H h) (mu : Mut (H x)) (he : e = x ∨ H e = some (.own x)) (k : ∀ b u, b ≠ e → h.get? b = some u → h'.get? b = some u) (heo : ∃ u, h'.get? e = some u)
  (new : ZE3 P w (upd H x o') h' x o') : HOk P w (upd H x o') h' := fun b u q => by
 have nown : ∀ c y, H c = some (.own y) → c ≠ x := fun c y r z => by subst z; rw [r] at mu; exact mu
 have ntup : ∀ c xs, H c = some (.tup xs) → c ≠ x := fun c xs r z => by subst z; rw [r] at mu; exact mu
 by_cases hb : b = x
 ·subst hb; rw [ZEa] at q; cases q; exact new
 ·rw [ZEf hb] at q
  by_cases hbe : b = e
  ·have q' : H b = some (.own x) := by
    rcases he with z | z
    ·exact absurd (hbe.trans z) hb
    ·rw [hbe]; exact z
   rw [q] at q'; cases q'
   obtain ⟨v, hv⟩ := heo
   exact ⟨v, by rw [hbe]; exact hv⟩
  ·refine (ok b u q).stay (fun c v hc r => k c v ?_ r) (fun c r => by rw [ZEf (nown c b r)]; exact r) fun c xs r => by rw [ZEf (ntup c xs r)]; exact r
   rcases hc with rfl | hc
   ·exact hbe
   ·rintro rfl
    rcases he with z | z
    ·exact nown c b hc z
    ·rw [hc] at z; cases z; exact hb rfl
end
structure Un (fs ex : List Addr) (H H' : Hp) (h h' : Heap) : Prop where
 keep : ∀ b o, h.get? b = some o → H b = none → b ∉ fs → b ∉ ex → h'.get? b = some o
 slot : ∀ b o, h.get? b = some o → H b = none → b ∈ fs → b ∉ ex → ∃ sl, h'.get? b = some { o with slots := sl }
 free : ∀ b o, h.get? b = some o → H b = none → b ∉ ex → H' b = none
 there : ∀ b o, h.get? b = some o → b ∉ ex → ∃ o', h'.get? b = some o'
 tups : ∀ b xs, H b = some (.tup xs) → H' b = some (.tup xs)
 frzs : ∀ b o u, H b = some (.frz o u) → H' b = some (.frz o u)
 tbls : ∀ b ps, H b = some (.tbl ps) → ∃ more, H' b = some (.tbl (ps ++ more))
section
variable {fs fs' ex ex' : List Addr} {H H1 H2 : Hp} {h h1 h2 h' : Heap} {a x e : Addr} {o : HO}
theorem Un.any (u : Un fs ex H H1 h h1) {b : Addr} {ob : Obj} (q : h.get? b = some ob) (n : H b = none) (hx : b ∉ ex) : ∃ sl, h1.get? b = some { ob with slots := sl } := by
 by_cases hb : b ∈ fs
 ·exact u.slot b ob q n hb hx
 ·exact ⟨ob.slots, u.keep b ob q n hb hx⟩
theorem Un.kept (k : ∀ b u, h.get? b = some u → h'.get? b = some u) : Un fs ex H H h h' :=
 ⟨fun b ob q _ _ _ => k b ob q, fun b ob q _ _ _ => ⟨ob.slots, k b ob q⟩, fun _ _ _ n _ => n, fun b ob q _ => ⟨ob, k b ob q⟩, fun _ _ q => q, fun _ _ _ q => q, fun _ ps q => ⟨#[], by rw [q]; simp⟩⟩
theorem Un.refl : Un fs ex H H h h := Un.kept fun _ _ q => q
theorem Un.laid (k : ∀ b u, h.get? b = some u → h'.get? b = some u) (hp : h.objs.size ≤ a) (hn : H a = none) : Un fs ex H (upd H a o) h h' where
 keep := fun b u q _ _ _ => k b u q
 slot := fun b u q _ _ _ => ⟨u.slots, k b u q⟩
 free := fun b u q n _ => by rw [ZEf (Nat.ne_of_lt (Nat.lt_of_lt_of_le (Heap.lt_size q) hp))]; exact n
 there := fun b u q _ => ⟨u, k b u q⟩
 tups := fun b xs q => by rw [ZEf (ZEh q hn)]; exact q
 frzs := fun b u xs q => by rw [ZEf (ZEh q hn)]; exact q
 tbls := fun b ps q => ⟨#[], by rw [ZEf (ZEh q hn), q]; simp⟩
theorem Un.write (mu : Mut (H x)) (he : e = x ∨ H e = some (.own x)) (k : ∀ b u, b ≠ e → h.get? b = some u → h'.get? b = some u) (heo : ∃ u, h'.get? e = some u) : Un fs ex H (upd H x o) h h' := by
 have hx : ∀ b, H b = none → b ≠ x := fun b n z => by subst z; rw [n] at mu; exact mu
 have hb : ∀ b, H b = none → b ≠ e := fun b n z => by
  subst z
  rcases he with r | r
  ·exact hx b n r
  ·rw [n] at r; cases r
 have hm : ∀ b u, H b = some u → ¬ Mut (some u) → b ≠ x := fun b u q nm z => by subst z; rw [q] at mu; exact nm mu
 refine ⟨fun b u q n _ _ => k b u (hb b n) q, fun b u q n _ _ => ⟨u.slots, k b u (hb b n) q⟩, fun b u q n _ => by rw [ZEf (hx b n)]; exact n, fun b u q _ => ?_,
  fun b xs q => by rw [ZEf (hm b _ q fun z => z)]; exact q, fun b u xs q => by rw [ZEf (hm b _ q fun z => z)]; exact q, fun b ps q => ⟨#[], by rw [ZEf (hm b _ q fun z => z), q]; simp⟩⟩
 by_cases hbe : b = e
 ·subst hbe; exact heo
 ·exact ⟨u, k b u hbe q⟩
end
def trk (h : Heap) (H : Hp) : List Addr := (List.range h.objs.size).filter fun a => (H a).isSome
def ZIo (h : Heap) (H : Hp) : Heap := PySem.W.hideAll h (trk h H)
theorem ZPe (h : Heap) (H : Hp) : (ZIo h H).objs.size = h.objs.size := PySem.W.hideAll_size _ _
theorem ZQ8 {h : Heap} {H : Hp} {b : Addr} {o : Obj} (e : h.get? b = some o) (n : H b = none) : (ZIo h H).get? b = some o :=
 PySem.W.hideAll_get _ e fun hm => by
  have q : (H b).isSome = true := (List.mem_filter.mp hm).2
  rw [n] at q; simp at q
theorem ZTS {h : Heap} {H : Hp} {b : Addr} {o : Obj} (e : (ZIo h H).get? b = some o) : h.get? b = some o ∧ H b = none := by
 have e' : h.get? b = some o := PySem.W.of_hideAll (trk h H) e
 refine ⟨e', ?_⟩
 cases q : H b with
 | none => rfl
 | some x =>
  have hm : b ∈ trk h H := List.mem_filter.mpr ⟨List.mem_range.mpr (Heap.lt_size e'), by simp [q]⟩
  have z : (ZIo h H).get? b = none := PySem.W.hideAll_none (trk h H) hm
  rw [z] at e; cases e
def ZTT (g h : Heap) (L : Addr) : List (Addr × Obj) := (List.range h.objs.size).filterMap fun a => if a = L ∨ (g.get? a).isSome = true then none else (h.get? a).map fun o => (a, o)
def ZFw (g h : Heap) (L d : Addr) : List (Addr × Obj) := (ZTT g h L).filter fun p => decide (p.1 ≠ d)
structure Mod (K : W.Frag) (mg : Str → Option Value) (base : Heap) : Prop where
 kin : K.In base
 glob : base.Ns mainGlobals mg
 blt : ∃ mb, base.Ns builtinsNs mb ∧ ∀ x : Str, x ≠ "__name__" → mb x = bootBuiltins x
 nolimit : base.NoLimit
structure Cx where
 prog : Program
 w : World
 K : W.Frag
 mg : Str → Option Value
 base : Heap
 A : Around
 N : List Str
 s₀ : Shared
 H₀ : Hp
 env : Env
 outer : List Env
 stack : List Env
 ex : List Addr
 fn : Str → Bool
 calm : Bool
 pn : List (Addr × Obj)
 xe : Value → Shared → Prop
def frs (l : List Env) : List Addr := l.filterMap (·.frame)
abbrev Cx.fs (X : Cx) : List Addr := frs X.outer
def Vis (sc : Scope) (x : Str) : Prop := sc.names.lookup x = some .local ∨ sc.names.lookup x = some .cell ∨ sc.names.lookup x = some .free
def Loc (sc : Scope) (x : Str) : Prop := sc.names.lookup x = some .local ∨ sc.names.lookup x = some .cell
def ZXC (env : Env) (h : Heap) (m : Str → Option Value) (x : Str) (u : Value) : Prop :=
 (env.kindOf x = some .local ∧ m x = some u) ∨ ((env.kindOf x = some .cell ∨ env.kindOf x = some .free) ∧ ∃ c, env.cells.lookup x = some c ∧ h.IsCell c (some u))
structure Cx.Ok (X : Cx) : Prop where
 mod : Mod X.K X.mg X.base
 kind : X.env.scope.kind = .function
 glob : X.env.globals = mainGlobals
 blt : X.env.builtins = builtinsNs
 above : X.s₀.heap.objs.size ≤ X.env.locals
 inj : ∀ x y c, X.env.cells.lookup x = some c → X.env.cells.lookup y = some c → x = y
 has : ∀ x, (X.env.kindOf x = some .cell ∨ X.env.kindOf x = some .free) → ∃ c, X.env.cells.lookup x = some c
 cab : ∀ x c, X.fn x = true → X.env.cells.lookup x = some c → X.s₀.heap.objs.size ≤ c
 hd : X.calm = true → X.A.handled = none
 frames : X.A.frames = some X.stack
 stk : X.stack = X.outer ∨ (X.stack = X.env :: X.outer ∧ X.env.frame = some X.env.locals)
 exf : ∀ b ∈ X.ex, b ≠ X.env.locals ∧ ∀ x c, X.env.cells.lookup x = some c → c ≠ b
 bs : ∀ b o, X.base.get? b = some o → X.s₀.heap.get? b = some o ∧ X.H₀ b = none
 bsz : X.base.objs.size ≤ X.s₀.heap.objs.size
 noex : ∀ b o, X.base.get? b = some o → b ∉ X.ex
 exfs : ∀ b ∈ X.ex, b ∉ X.fs
 funs : X.s₀.heap.FunFrames X.base X.outer
 frf : ∀ b ∈ X.fs, X.H₀ b = none
structure Inv (X : Cx) (pins : List (Addr × Obj)) (σ : List (Option V)) (H : Hp) (s : Shared) : Prop where
 ok : X.Ok
 os : s.os = X.s₀.os
 bare : AllBare s.gens
 base : Un X.fs X.ex X.H₀ H X.s₀.heap s.heap
 loc : ∃ m, s.heap.Ns X.env.locals m ∧ ∀ (i : Nat) (x : Str) (v : V), X.N[i]? = some x → σ[i]? = some (some v) → Vis X.env.scope x → ∃ u, ZEd v u ∧ ZXC X.env s.heap m x u
 cell : ∀ x c, X.env.cells.lookup x = some c → ∃ v, s.heap.IsCell c v
 free : H X.env.locals = none
 freeC : ∀ x c, X.env.cells.lookup x = some c → H c = none
 pin : ∀ p ∈ X.pn ++ pins, s.heap.get? p.1 = some p.2 ∧ H p.1 = none ∧ p.1 ≠ X.env.locals ∧ p.1 ∉ X.fs ∧ ∀ v, p.2.data ≠ .cell v
 hok : HOk X.prog X.w H s.heap
 len : σ.length = X.N.length
section
variable {X : Cx} {pins : List (Addr × Obj)} {σ : List (Option V)} {H H' : Hp} {s : Shared} {h' : Heap}
theorem Cx.Ok.nofr (ok : X.Ok) {b : Addr} {o : Obj} (e : X.base.get? b = some o) : b ∉ X.fs := fun hb => by
 have := (ok.funs.mem hb).1
 rw [e] at this; cases this
theorem Inv.bs (I : Inv X pins σ H s) : ∀ b o, X.base.get? b = some o → s.heap.get? b = some o ∧ H b = none := fun b o e =>
 ⟨I.base.keep b o (I.ok.bs b o e).1 (I.ok.bs b o e).2 (I.ok.nofr e) (I.ok.noex b o e), I.base.free b o (I.ok.bs b o e).1 (I.ok.bs b o e).2 (I.ok.noex b o e)⟩
theorem Inv.bk (I : Inv X pins σ H s) : ∀ b o, X.base.get? b = some o → s.heap.get? b = some o := fun b o e => (I.bs b o e).1
theorem Inv.mod (I : Inv X pins σ H s) : Mod X.K X.mg X.base := I.ok.mod
theorem Inv.kIn (I : Inv X pins σ H s) : X.K.In s.heap := I.ok.mod.kin.keeps I.bk
theorem Inv.lt (I : Inv X pins σ H s) : X.env.locals < s.heap.objs.size := let ⟨_, hn, _⟩ := I.loc; hn.lt
theorem Inv.sz (I : Inv X pins σ H s) : X.s₀.heap.objs.size ≤ s.heap.objs.size := Nat.le_trans I.ok.above (Nat.le_of_lt I.lt)
theorem Inv.nofs (I : Inv X pins σ H s) {a : Addr} (h : s.heap.objs.size ≤ a) : a ∉ X.fs := fun hb => by
 obtain ⟨_, o, ho, _⟩ := I.ok.funs.mem hb
 exact absurd (Nat.lt_of_lt_of_le (Heap.lt_size ho) (Nat.le_trans I.sz h)) (Nat.lt_irrefl _)
theorem Inv.cne (I : Inv X pins σ H s) : ∀ x c, X.env.cells.lookup x = some c → c ≠ X.env.locals := fun x c e z => by
 obtain ⟨v, o, ho, hd⟩ := I.cell x c e
 obtain ⟨m, ⟨o', es, ep, ho', hd', _⟩, _⟩ := I.loc
 rw [z, ho'] at ho; cases ho; rw [hd'] at hd; cases hd
theorem Inv.funs (I : Inv X pins σ H s) : s.heap.FunFrames X.base X.outer := by
 have all : ∀ (l : List Env), (∀ b ∈ frs l, b ∈ X.fs) → X.s₀.heap.FunFrames X.base l → s.heap.FunFrames X.base l := by
  intro l
  induction l with
  | nil => intro _ _; trivial
  | cons env r ih =>
   intro hs hl
   obtain ⟨hk, ⟨L, o, hf, hn, ho, hd⟩, hr⟩ := hl
   have hL : L ∈ X.fs := hs L (by unfold frs; rw [List.filterMap_cons, hf]; exact List.mem_cons_self)
   obtain ⟨sl, e⟩ := I.base.slot L o ho (I.ok.frf L hL) hL fun z => I.ok.exfs L z hL
   exact ⟨hk, ⟨L, _, hf, hn, e, hd⟩, ih (fun b hb => hs b (by unfold frs; rw [List.filterMap_cons, hf]; exact List.mem_cons_of_mem _ hb)) hr⟩
 exact all X.outer (fun _ hb => hb) I.ok.funs
theorem Inv.stack (I : Inv X pins σ H s) : s.heap.FunFrames X.base X.stack := by
 rcases I.ok.stk with e | ⟨e, hf⟩
 ·rw [e]; exact I.funs
 ·rw [e]
  obtain ⟨m, hn, _⟩ := I.loc
  refine .cons (by rw [I.ok.kind]; decide) hf hn ?_ I.funs
  exact Heap.get?_none_of_le (Nat.le_trans I.ok.bsz I.ok.above)
theorem Inv.stkSub (I : Inv X pins σ H s) : ∀ b ∈ frs X.stack, b ∈ X.env.locals :: X.fs := fun b hb => by
 rcases I.ok.stk with e | ⟨e, hf⟩
 ·rw [e] at hb; exact List.mem_cons_of_mem _ hb
 ·rw [e] at hb
  unfold frs at hb
  rw [List.filterMap_cons, hf] at hb
  exact hb
theorem Inv.stkFree (I : Inv X pins σ H s) : ∀ b ∈ frs X.stack, H b = none := fun b hb => by
 rcases List.mem_cons.mp (I.stkSub b hb) with e | hb
 ·rw [e]; exact I.free
 ·obtain ⟨_, o, ho, _⟩ := I.ok.funs.mem hb
  exact I.base.free b o ho (I.ok.frf b hb) fun z => I.ok.exfs b z hb
theorem Inv.step {g' : Array GenState} {t' : Nat} {d' : Drawn} {ch : List Addr} (I : Inv X pins σ H s)
  (hch : ∀ b ∈ ch, (b ∈ X.ex ∨ X.s₀.heap.objs.size ≤ b) ∧ b ≠ X.env.locals ∧ (∀ x c, X.env.cells.lookup x = some c → c ≠ b) ∧ ∀ p ∈ X.pn ++ pins, p.1 ≠ b)
  (keep : ∀ b o, b ≠ X.env.locals → b ∉ X.fs → b ∉ ch → s.heap.get? b = some o → H b = none → h'.get? b = some o)
  (slot : ∀ b o, b ≠ X.env.locals → b ∈ X.fs → b ∉ ch → s.heap.get? b = some o → H b = none → ∃ sl, h'.get? b = some { o with slots := sl }) (free : ∀ b o, b ∉ ch → s.heap.get? b = some o → H b = none → H' b = none)
  (there : ∀ b o, b ∉ ch → s.heap.get? b = some o → ∃ o', h'.get? b = some o')
  (tups : ∀ b xs, H b = some (.tup xs) → H' b = some (.tup xs)) (frzs : ∀ b o u, H b = some (.frz o u) → H' b = some (.frz o u)) (tbls : ∀ b ps, H b = some (.tbl ps) → ∃ more, H' b = some (.tbl (ps ++ more)))
  (ns : ∀ m, s.heap.Ns X.env.locals m → h'.Ns X.env.locals m) (hok : HOk X.prog X.w H' h') (hg : AllBare g') :
  Inv X pins σ H' { s with heap := h', gens := g', drawn := d', toks := t' } := by
 have neL : ∀ b o, X.s₀.heap.get? b = some o → b ≠ X.env.locals := fun b o e => Nat.ne_of_lt (Nat.lt_of_lt_of_le (Heap.lt_size e) I.ok.above)
 have neC : ∀ b o, X.s₀.heap.get? b = some o → b ∉ X.ex → b ∉ ch := fun b o e hx hb => by
  rcases (hch b hb).1 with z | z
  ·exact hx z
  ·exact absurd (Nat.lt_of_lt_of_le (Heap.lt_size e) z) (Nat.lt_irrefl _)
 have cellK : ∀ x c, X.env.cells.lookup x = some c → ∀ v, s.heap.IsCell c v → h'.IsCell c v := fun x c e v ⟨o, ho, hd⟩ => by
  have nch : c ∉ ch := fun z => (hch c z).2.2.1 x c e rfl
  by_cases hc : c ∈ X.fs
  ·obtain ⟨sl, q⟩ := slot c o (I.cne x c e) hc nch ho (I.freeC x c e)
   exact ⟨_, q, hd⟩
  ·exact ⟨o, keep c o (I.cne x c e) hc nch ho (I.freeC x c e), hd⟩
 refine ⟨I.ok, I.os, hg, ⟨fun b o e n hb hx => ?_, fun b o e n hb hx => ?_, fun b o e n hx => ?_, fun b o e hx => ?_, fun b xs e => tups b xs (I.base.tups b xs e), fun b o xs e => frzs b o xs (I.base.frzs b o xs e), fun b ps e => ?_⟩, ?_, fun x c e => ?_, ?_, fun x c e => ?_, fun p hp => ?_, hok, I.len⟩
 ·exact keep b o (neL b o e) hb (neC b o e hx) (I.base.keep b o e n hb hx) (I.base.free b o e n hx)
 ·obtain ⟨sl, e1⟩ := I.base.slot b o e n hb hx
  obtain ⟨sl', e2⟩ := slot b _ (neL b o e) hb (neC b o e hx) e1 (I.base.free b o e n hx)
  exact ⟨sl', e2⟩
 ·obtain ⟨o', e1⟩ := I.base.there b o e hx
  exact free b o' (neC b o e hx) e1 (I.base.free b o e n hx)
 ·obtain ⟨o', e1⟩ := I.base.there b o e hx
  exact there b o' (neC b o e hx) e1
 ·obtain ⟨m1, e1⟩ := I.base.tbls b ps e
  obtain ⟨m2, e2⟩ := tbls b _ e1
  exact ⟨m1 ++ m2, by rw [e2, Array.append_assoc]⟩
 ·obtain ⟨m, hn, hl⟩ := I.loc
  refine ⟨m, ns m hn, fun i x v e1 e2 e3 => ?_⟩
  obtain ⟨u, r, l⟩ := hl i x v e1 e2 e3
  refine ⟨u, r, ?_⟩
  rcases l with l | ⟨k, c, e, z⟩
  ·exact .inl l
  ·exact .inr ⟨k, c, e, cellK x c e _ z⟩
 ·obtain ⟨v, z⟩ := I.cell x c e
  exact ⟨v, cellK x c e v z⟩
 ·obtain ⟨m, ⟨o, _, _, ho, _⟩, _⟩ := I.loc
  exact free _ o (fun z => (hch _ z).2.1 rfl) ho I.free
 ·obtain ⟨v, o, ho, hd⟩ := I.cell x c e
  exact free c o (fun z => (hch c z).2.2.1 x c e rfl) ho (I.freeC x c e)
 ·obtain ⟨e, n, ne, nf, d⟩ := I.pin p hp
  have nch : p.1 ∉ ch := fun z => (hch p.1 z).2.2.2 p hp rfl
  exact ⟨keep p.1 p.2 ne nf nch e n, free p.1 p.2 nch e n, ne, nf, d⟩
theorem Inv.un {t' : Nat} (I : Inv X pins σ H s) (u : Un X.fs [] H H' s.heap h') (hok : HOk X.prog X.w H' h') : Inv X pins σ H' { s with heap := h', toks := t' } := by
 obtain ⟨m, ⟨o, es, ep, ho, r⟩, _⟩ := id I.loc
 obtain ⟨sl, hL⟩ := u.any ho I.free (by simp)
 exact I.step (g' := s.gens) (d' := s.drawn) (ch := []) (fun _ z => nomatch z) (fun b o _ hb _ e n => u.keep b o e n hb (by simp)) (fun b o _ hb _ e n => u.slot b o e n hb (by simp)) (fun b o _ e n => u.free b o e n (by simp)) (fun b o _ e => u.there b o e (by simp)) u.tups u.frzs u.tbls (fun m' hm => by
  obtain ⟨o', es', ep', ho', r'⟩ := hm
  rw [ho] at ho'; cases ho'
  exact ⟨_, es', ep', hL, r'⟩) hok I.bare
theorem Inv.call {g' : Array GenState} {t' : Nat} {d' : Drawn} {ch : List Addr} (I : Inv X pins σ H s) (u : Un (frs X.stack) ch H H' s.heap h') (hok : HOk X.prog X.w H' h') (hg : AllBare g')
  (hch : ∀ b ∈ ch, (b ∈ X.ex ∨ X.s₀.heap.objs.size ≤ b) ∧ b ≠ X.env.locals ∧ (∀ x c, X.env.cells.lookup x = some c → c ≠ b) ∧ ∀ p ∈ X.pn ++ pins, p.1 ≠ b) :
  Inv X pins σ H' { s with heap := h', gens := g', drawn := d', toks := t' } := by
 obtain ⟨m, ⟨o, es, ep, ho, r⟩, _⟩ := id I.loc
 obtain ⟨sl, hL⟩ := u.any ho I.free fun z => (hch _ z).2.1 rfl
 exact I.step (ch := ch) hch (fun b o hL hb hc e n => u.keep b o e n (fun z => (List.mem_cons.mp (I.stkSub b z)).elim hL hb) hc) (fun b o _ _ hc e n => u.any e n hc) (fun b o hc e n => u.free b o e n hc) (fun b o hc e => u.there b o e hc) u.tups u.frzs u.tbls (fun m' hm => by
  obtain ⟨o', es', ep', ho', r'⟩ := hm
  rw [ho] at ho'; cases ho'
  exact ⟨_, es', ep', hL, r'⟩) hok hg
theorem Inv.turned {t' : Nat} {it : Addr} (I : Inv X pins σ H s) (k : ∀ b o, b ≠ it → s.heap.get? b = some o → h'.get? b = some o) (hn : H it = none) (hL : it ≠ X.env.locals)
  (h1 : it ∈ X.ex ∨ X.s₀.heap.objs.size ≤ it) (h2 : ∀ x c, X.env.cells.lookup x = some c → c ≠ it) (h3 : ∀ p ∈ X.pn ++ pins, p.1 ≠ it) : Inv X pins σ H { s with heap := h', toks := t' } := by
 have nit : ∀ b u, H b = some u → b ≠ it := fun b u e z => by rw [z, hn] at e; cases e
 refine I.step (g' := s.gens) (d' := s.drawn) (ch := [it]) (fun b hb => ?_) (fun b o _ _ hc e _ => k b o (fun z => hc (by simp [z])) e) (fun b o _ _ hc e _ => ⟨o.slots, k b o (fun z => hc (by simp [z])) e⟩) (fun _ _ _ _ n => n)
  (fun b o hc e => ⟨o, k b o (fun z => hc (by simp [z])) e⟩) (fun _ _ e => e) (fun _ _ _ e => e) (fun b ps e => ⟨#[], by rw [e]; simp⟩) (fun m hm => ?_) (fun b u e => ?_) I.bare
 ·have e : b = it := by simpa using hb
  subst e
  exact ⟨h1, hL, h2, h3⟩
 ·obtain ⟨o, es, ep, ho, r⟩ := hm
  exact ⟨o, es, ep, k _ o (Ne.symm hL) ho, r⟩
 ·refine (I.hok b u e).stay (fun c v hc q => k c v ?_ q) (fun _ q => q) fun _ _ q => q
  rcases hc with z | z
  ·rw [z]; exact nit b u e
  ·exact nit c _ z
theorem Inv.tok (I : Inv X pins σ H s) (t : Nat) : Inv X pins σ H { s with toks := t } := I.un (h' := s.heap) (t' := t) Un.refl I.hok
theorem Inv.kept {t' : Nat} (I : Inv X pins σ H s) (k : ∀ b u, s.heap.get? b = some u → h'.get? b = some u) : Inv X pins σ H { s with heap := h', toks := t' } := I.un (Un.kept k) (I.hok.kept k)
theorem Inv.laid {a : Addr} {o : HO} {t' : Nat} (I : Inv X pins σ H s) (k : ∀ b u, s.heap.get? b = some u → h'.get? b = some u) (hp : s.heap.objs.size ≤ a) (new : ZE3 X.prog X.w (upd H a o) h' a o) :
 Inv X pins σ (upd H a o) { s with heap := h', toks := t' } := I.un (Un.laid k hp (I.hok.fresh hp)) (I.hok.laid k hp new)
theorem Inv.write {x e : Addr} {o : HO} {t' : Nat} (I : Inv X pins σ H s) (mu : Mut (H x)) (he : e = x ∨ H e = some (.own x)) (k : ∀ b u, b ≠ e → s.heap.get? b = some u → h'.get? b = some u) (heo : ∃ u, h'.get? e = some u)
 (new : ZE3 X.prog X.w (upd H x o) h' x o) : Inv X pins σ (upd H x o) { s with heap := h', toks := t' } := I.un (Un.write mu he k heo) (I.hok.write mu he k heo new)
theorem Inv.pins_of {pins' : List (Addr × Obj)} (I : Inv X pins σ H s) (h : ∀ p ∈ pins', s.heap.get? p.1 = some p.2 ∧ H p.1 = none ∧ p.1 ≠ X.env.locals ∧ p.1 ∉ X.fs ∧ ∀ v, p.2.data ≠ .cell v) : Inv X pins' σ H s :=
 ⟨I.ok, I.os, I.bare, I.base, I.loc, I.cell, I.free, I.freeC, fun p hp => (List.mem_append.mp hp).elim (fun z => I.pin p (List.mem_append_left _ z)) (h p), I.hok, I.len⟩
theorem ZKH {N : List Str} (hN : N.Nodup) {i j : Nat} {x : Str} (a : N[i]? = some x) (b : N[j]? = some x) : i = j := by
 obtain ⟨h1, e1⟩ := List.getElem?_eq_some_iff.mp a
 obtain ⟨h2, e2⟩ := List.getElem?_eq_some_iff.mp b
 exact (List.getElem_inj hN).mp (e1.trans e2.symm)
theorem ZPf {M : Model} {A : Around} {E : Value → Shared → Prop} {i : Nat} {x : Str} {v : V} {u : Value} {Q : Unit → Shared → Prop} (I : Inv X pins σ H s) (hN : X.N.Nodup) (hi : X.N[i]? = some x) (hx : Loc X.env.scope x) (r : ZEd v u)
  (h : ∀ s', Inv X pins (σ.set i (some v)) H s' → (∃ a, Heap.SameBut a s.heap s'.heap ∧ (a = X.env.locals ∨ X.env.cells.lookup x = some a)) → Q () s') (hf : X.fn x = true ∨ X.env.scope.names.lookup x = some .local := by first | exact .inl rfl | exact .inr rfl | assumption) : wpAny M A (storeName X.env x u) Q E s := by
 obtain ⟨m, hn, hl⟩ := id I.loc
 have hcls : (X.env.scope.kind == .class || (X.env.scope.kind == .module && X.env.locals != X.env.globals)) = false := by rw [I.ok.kind]; rfl
 have hiσ : i < σ.length := by rw [I.len]; exact (List.getElem?_eq_some_iff.mp hi).1
 have cne := I.cne
 have tracked : ∀ {a : Addr} {h' : Heap}, (∃ o, s.heap.get? a = some o ∧ H a = none) → Heap.SameBut a s.heap h' → HOk X.prog X.w H h' := fun {a h'} ha hs b ob e => by
  obtain ⟨_, _, hfree⟩ := ha
  refine (I.hok b ob e).stay (fun c w' hc q => (hs.2 c ?_).trans q) (fun _ q => q) fun _ _ q => q
  rintro rfl
  rcases hc with rfl | hc
  ·rw [hfree] at e; cases e
  ·rw [hfree] at hc; cases hc
 rcases hx with hk | hk
 ·refine wpAny_storeName_local hk hn (fun h' hn' hs => ?_) hcls
  obtain ⟨oL, _, _, hoL, _⟩ := id hn
  refine h _ ⟨I.ok, I.os, I.bare, ⟨fun b o e n hb hx => ?_, fun b o e n hb hx => ?_, I.base.free, fun b o e hx => ?_, I.base.tups, I.base.frzs, I.base.tbls⟩, ⟨_, hn', fun j y v' e1 e2 e3 => ?_⟩, fun y c e => ?_, I.free, I.freeC, fun p hp => ?_, tracked ⟨oL, hoL, I.free⟩ hs, by simpa using I.len⟩ ⟨_, hs, .inl rfl⟩
  ·exact (hs.2 b (Nat.ne_of_lt (Nat.lt_of_lt_of_le (Heap.lt_size e) I.ok.above))).trans (I.base.keep b o e n hb hx)
  ·obtain ⟨sl, e1⟩ := I.base.slot b o e n hb hx
   exact ⟨sl, (hs.2 b (Nat.ne_of_lt (Nat.lt_of_lt_of_le (Heap.lt_size e) I.ok.above))).trans e1⟩
  ·obtain ⟨o', e1⟩ := I.base.there b o e hx
   exact ⟨o', (hs.2 b (Nat.ne_of_lt (Nat.lt_of_lt_of_le (Heap.lt_size e) I.ok.above))).trans e1⟩
  ·by_cases hj : j = i
   ·subst hj
    rw [hi] at e1; cases e1
    rw [List.getElem?_set_self hiσ] at e2
    cases e2
    exact ⟨u, r, .inl ⟨hk, by simp⟩⟩
   ·rw [List.getElem?_set_ne (Ne.symm hj)] at e2
    obtain ⟨u', r', q⟩ := hl j y v' e1 e2 e3
    refine ⟨u', r', ?_⟩
    rcases q with ⟨k, e⟩ | ⟨k, c, e, z⟩
    ·refine .inl ⟨k, ?_⟩
     have : y ≠ x := fun e => hj (ZKH hN e1 (e ▸ hi))
     simp [this, e]
    ·exact .inr ⟨k, c, e, z.sameBut hs (cne y c e)⟩
  ·obtain ⟨w', z⟩ := I.cell y c e
   exact ⟨w', z.sameBut hs (cne y c e)⟩
  ·obtain ⟨e, n, ne, nf, d⟩ := I.pin p hp
   exact ⟨(hs.2 p.1 ne).trans e, n, ne, nf, d⟩
 ·have hfn : X.fn x = true := by
   rcases hf with z | z
   ·exact z
   ·rw [z] at hk; cases hk
  obtain ⟨c, hc⟩ := I.ok.has x (.inl hk)
  obtain ⟨w', z⟩ := I.cell x c hc
  refine wpAny_storeName_cell I.ok.kind hk hc z (fun h' hc' hs => ?_)
  obtain ⟨oc, hoc, hocd⟩ := id z
  refine h { s with heap := h' } ⟨I.ok, I.os, I.bare, ⟨fun b o e n hb hx => ?_, fun b o e n hb hx => ?_, I.base.free, fun b o e hx => ?_, I.base.tups, I.base.frzs, I.base.tbls⟩, ⟨m, hn.sameBut hs (Ne.symm (cne x c hc)), fun j y v' e1 e2 e3 => ?_⟩, fun y c' e => ?_, I.free, I.freeC, fun p hp => ?_, tracked ⟨oc, hoc, I.freeC x c hc⟩ hs, by simpa using I.len⟩ ⟨c, hs, .inr hc⟩
  ·exact (hs.2 b (Nat.ne_of_lt (Nat.lt_of_lt_of_le (Heap.lt_size e) (I.ok.cab x c hfn hc)))).trans (I.base.keep b o e n hb hx)
  ·obtain ⟨sl, e1⟩ := I.base.slot b o e n hb hx
   exact ⟨sl, (hs.2 b (Nat.ne_of_lt (Nat.lt_of_lt_of_le (Heap.lt_size e) (I.ok.cab x c hfn hc)))).trans e1⟩
  ·obtain ⟨o', e1⟩ := I.base.there b o e hx
   exact ⟨o', (hs.2 b (Nat.ne_of_lt (Nat.lt_of_lt_of_le (Heap.lt_size e) (I.ok.cab x c hfn hc)))).trans e1⟩
  ·by_cases hj : j = i
   ·subst hj
    rw [hi] at e1; cases e1
    rw [List.getElem?_set_self hiσ] at e2
    cases e2
    exact ⟨u, r, .inr ⟨.inl hk, c, hc, hc'⟩⟩
   ·rw [List.getElem?_set_ne (Ne.symm hj)] at e2
    obtain ⟨u', r', q⟩ := hl j y v' e1 e2 e3
    refine ⟨u', r', ?_⟩
    rcases q with q | ⟨k, c', e, z'⟩
    ·exact .inl q
    ·refine .inr ⟨k, c', e, z'.sameBut hs ?_⟩
     rintro rfl
     exact hj (ZKH hN e1 (I.ok.inj _ _ _ e hc ▸ hi))
  ·by_cases hcc : c' = c
   ·subst hcc; exact ⟨_, hc'⟩
   ·obtain ⟨w2, z2⟩ := I.cell y c' e
    exact ⟨w2, z2.sameBut hs hcc⟩
  ·obtain ⟨e, n, ne, nf, d⟩ := I.pin p hp
   refine ⟨(hs.2 p.1 ?_).trans e, n, ne, nf, d⟩
   intro q
   rw [q, hoc] at e
   have q' : oc = p.2 := Option.some.inj e
   exact d w' (by rw [← q']; exact hocd)
theorem ZIp {M : Model} {A : Around} {E : Value → Shared → Prop} {i : Nat} {x : Str} {v : V} {u : Value} {Q : Unit → Shared → Prop} (I : Inv X pins σ H s) (hN : X.N.Nodup) (hi : X.N[i]? = some x) (hx : Loc X.env.scope x) (r : ZEd v u)
  (h : ∀ s', Inv X pins (σ.set i (some v)) H s' → Q () s') (hf : X.fn x = true ∨ X.env.scope.names.lookup x = some .local := by first | exact .inl rfl | exact .inr rfl | assumption) : wpAny M A (storeName X.env x u) Q E s :=
 ZPf I hN hi hx r (fun s' I' _ => h s' I') hf
theorem Inv.call' {s' : Shared} {ch : List Addr} (I : Inv X pins σ H s) (ho : s'.os = s.os) (u : Un (frs X.stack) ch H H' s.heap s'.heap) (hok : HOk X.prog X.w H' s'.heap) (hg : AllBare s'.gens)
  (hch : ∀ b ∈ ch, (b ∈ X.ex ∨ X.s₀.heap.objs.size ≤ b) ∧ b ≠ X.env.locals ∧ (∀ x c, X.env.cells.lookup x = some c → c ≠ b) ∧ ∀ p ∈ X.pn ++ pins, p.1 ≠ b) : Inv X pins σ H' s' := by
 obtain ⟨h', g', d', t', o'⟩ := s'
 have e : o' = s.os := ho
 subst e
 exact I.call (g' := g') (t' := t') (d' := d') u hok hg hch
end
abbrev XK := Value → Option Addr → Hp → Prop
abbrev St := List (Option V)
abbrev VK := V → Hp → Prop
abbrev TE := St → Hp → VK → Prop
abbrev TT := St → Hp → (Bool → Hp → Prop) → Prop
abbrev TA := St → Hp → (List V → Hp → Prop) → Prop
structure ZFH where
 nx : St → Hp → Prop
 rt : VK
 bk : St → Hp → Prop := fun _ _ => False
 ct : St → Hp → Prop := fun _ _ => False
abbrev TS := ZFH → St → Hp → Prop
def EP (X : Cx) (pins : List (Addr × Obj)) (σ : St) (Q : VK) (u : Value) (s' : Shared) : Prop := ∃ v H', Inv X pins σ H' s' ∧ ZEd v u ∧ Q v H'
def TP (X : Cx) (pins : List (Addr × Obj)) (σ : St) (Q : Bool → Hp → Prop) (b : Bool) (s' : Shared) : Prop := ∃ H', Inv X pins σ H' s' ∧ Q b H'
def AP (X : Cx) (pins : List (Addr × Obj)) (σ : St) (Q : List V → Hp → Prop) (us : List Value) (s' : Shared) : Prop := ∃ vs H', Inv X pins σ H' s' ∧ ZEg vs us ∧ Q vs H'
def SP (X : Cx) (pins : List (Addr × Obj)) (D : ZFH) (f : Flow) (s' : Shared) : Prop :=
 match f with
 | .next => ∃ σ' H', Inv X pins σ' H' s' ∧ D.nx σ' H'
 | .brk => ∃ σ' H', Inv X pins σ' H' s' ∧ D.bk σ' H'
 | .cont => ∃ σ' H', Inv X pins σ' H' s' ∧ D.ct σ' H'
 | .ret u => ∃ v σ' H', Inv X pins σ' H' s' ∧ ZEd v u ∧ D.rt v H'
def PE (X : Cx) (e : Expr) (t : TE) : Prop :=
 ∀ (pins : List (Addr × Obj)) (s : Shared) (σ : St) (H : Hp) (Q : VK), Inv X pins σ H s → t σ H Q → wpAny (model X.prog X.w) X.A (eval e X.env) (EP X pins σ Q) X.xe s
def PT (X : Cx) (e : Expr) (t : TT) : Prop :=
 ∀ (pins : List (Addr × Obj)) (s : Shared) (σ : St) (H : Hp) (Q : Bool → Hp → Prop), Inv X pins σ H s → t σ H Q → wpAny (model X.prog X.w) X.A (isTrue e X.env (eval e X.env)) (TP X pins σ Q) X.xe s
def PW (X : Cx) (e : Expr) (t : TT) : Prop :=
 ∀ (whole : Sem Value) (pins : List (Addr × Obj)) (s : Shared) (σ : St) (H : Hp) (Q : Bool → Hp → Prop), Inv X pins σ H s → t σ H Q → wpAny (model X.prog X.w) X.A (isTrue e X.env whole) (TP X pins σ Q) X.xe s
theorem PW.pt {X : Cx} {e : Expr} {t : TT} (h : PW X e t) : PT X e t := h _
def PA (X : Cx) (es : List Expr) (t : TA) : Prop :=
 ∀ (pos : Pos) (pins : List (Addr × Obj)) (s : Shared) (σ : St) (H : Hp) (Q : List V → Hp → Prop), Inv X pins σ H s → t σ H Q → wpAny (model X.prog X.w) X.A (spliced (backTo pos (starEach es X.env))) (AP X pins σ Q) X.xe s
def PS (X : Cx) (st : Stmt) (t : TS) : Prop :=
 ∀ (pins : List (Addr × Obj)) (s : Shared) (σ : St) (H : Hp) (D : ZFH), Inv X pins σ H s → t D σ H → wpAny (model X.prog X.w) X.A (exec st X.env) (SP X pins D) X.xe s
def PSs (X : Cx) (st : List Stmt) (t : TS) : Prop :=
 ∀ (pins : List (Addr × Obj)) (s : Shared) (σ : St) (H : Hp) (D : ZFH), Inv X pins σ H s → t D σ H → wpAny (model X.prog X.w) X.A (execs st X.env) (SP X pins D) X.xe s
theorem thn {α : Type} {t : Sem α} {Q Q' : α → Shared → Prop} {M : Model} {A : Around} {E : Value → Shared → Prop} {s : Shared} (h : wpAny M A t Q E s) (hQ : ∀ a s, Q a s → Q' a s) : wpAny M A t Q' E s := wpAny_mono h hQ fun _ _ x => x
section
variable {X : Cx}
def ZQ9 (i : Nat) : TE := fun σ H Q => ∃ v, σ[i]? = some (some v) ∧ Q v H
def tC (v : V) : TE := fun _ H Q => Q v H
theorem ZVH {i : Nat} {x : Str} {pos : Pos} (hN : X.N[i]? = some x) (hv : Vis X.env.scope x) (hd : (x == ("__debug__" : Str)) = false := by decide) (hcd : (x == ("__classdict__" : Str)) = false := by decide) : PE X (.Name x pos) (ZQ9 i) := by
 intro pins s σ H Q I h
 obtain ⟨v, e, h⟩ := h
 obtain ⟨m, hn, hl⟩ := I.loc
 obtain ⟨u, r, l⟩ := hl i x v hN e hv
 have fin : EP X pins σ Q u s := ⟨v, H, I, r, h⟩
 rcases l with ⟨hk, hm⟩ | ⟨hk, c, hc, hcell⟩
 ·exact wpAny_Name (wpAny_loadName_local I.ok.kind hk hn hm fin) hd
 ·rcases hk with hk | hk
  ·exact wpAny_Name (wpAny_loadName_cell I.ok.kind hk hc hcell fin) hd
  ·exact wpAny_Name (wpAny_loadName_free I.ok.kind hk hc hcell fin hcd) hd
theorem ZVI {i j pos} : PE X (.Constant (.int i) j pos) (tC (.int i)) := fun _ _ _ H _ I h => wpAny_Constant_int ⟨.int i, H, I.tok _, ⟨_, rfl⟩, h⟩
theorem ZWo {b j pos} : PE X (.Constant (.bool b) j pos) (tC (.bl b)) := fun _ _ _ H _ I h => Constant_bool ⟨.bl b, H, I, rfl, h⟩
theorem ZVJ {j pos} : PE X (.Constant .none j pos) (tC .non) := fun _ _ _ H _ I h => Constant_none ⟨.non, H, I, rfl, h⟩
theorem ZVK {x j pos} : PE X (.Constant (.str x) j pos) (tC (.str x)) := fun _ _ _ H _ I h => Calls.Constant_str ⟨.str x, H, I.tok _, ⟨_, rfl⟩, h⟩
def Gl (X : Cx) (x : Str) : Prop := X.env.kindOf x = some .globalImplicit
theorem ZGb {E : Value → Shared → Prop} {pins : List (Addr × Obj)} {s : Shared} {σ : St} {H : Hp} {x : Str} {u : Value} {pos : Pos} {Q : Value → Shared → Prop} (I : Inv X pins σ H s) (hg : Gl X x) (hm : X.mg x = some u) (h : Q u s)
  (hd : (x == ("__debug__" : Str)) = false := by decide) : wpAny (model X.prog X.w) X.A (eval (.Name x pos) X.env) Q E s :=
 Calls.Name_function_global I.ok.kind hg (Calls.loadGlobal_global (by rw [I.ok.glob]; exact I.mod.glob.keeps I.bk) hm h) hd
theorem ZHT {E : Value → Shared → Prop} {pins : List (Addr × Obj)} {s : Shared} {σ : St} {H : Hp} {x : Str} {u : Value} {pos : Pos} {Q : Value → Shared → Prop} (I : Inv X pins σ H s) (hg : Gl X x) (hm : X.mg x = none) (hv : bootBuiltins x = some u) (h : Q u s)
  (hn : x ≠ "__name__" := by decide) (hd : (x == ("__debug__" : Str)) = false := by decide) : wpAny (model X.prog X.w) X.A (eval (.Name x pos) X.env) Q E s := by
 obtain ⟨mb, h1, h2⟩ := I.mod.blt
 exact Calls.Name_function_global I.ok.kind hg (Calls.loadGlobal_builtin (by rw [I.ok.glob]; exact I.mod.glob.keeps I.bk) hm (by rw [I.ok.blt]; exact h1.keeps I.bk) ((h2 x hn).trans hv) h) hd
theorem ZTU {x : Str} {v : V} {u : Value} {pos : Pos} (hg : Gl X x) (hm : X.mg x = some u) (r : ZEd v u) (hd : (x == ("__debug__" : Str)) = false := by decide) : PE X (.Name x pos) (tC v) :=
 fun _ _ _ H _ I h => ZGb I hg hm ⟨v, H, I, r, h⟩ hd
theorem ZTV {x : Str} {v : V} {u : Value} {pos : Pos} (hg : Gl X x) (hm : X.mg x = none) (hv : bootBuiltins x = some u) (r : ZEd v u) (hn : x ≠ "__name__" := by decide) (hd : (x == ("__debug__" : Str)) = false := by decide) : PE X (.Name x pos) (tC v) :=
 fun _ _ _ H _ I h => ZHT I hg hm hv ⟨v, H, I, r, h⟩ hn hd
variable {a b : Expr} {ta tb : TE} {pos : Pos}
def tB (t : TE) : TT := fun σ H Q => t σ H fun x H1 => ∃ c, x = .bl c ∧ Q c H1
theorem ZVL {e : Expr} {t : TE} (h : PE X e t) (he : ∀ whole, isTrue e X.env whole = (do let v ← whole; standAt e.pos; holding [v] (truthy v)) := by intro _; rfl) : PT X e (tB t) := by
 intro pins s σ H Q I hw
 refine isTrue_plain (thn (h pins s σ H _ I hw) fun v s1 ⟨x, H1, I1, r1, q1⟩ => ?_) (he _)
 obtain ⟨d, rfl, q⟩ := q1
 cases r1
 exact wpAny_truthy_bool ⟨H1, I1, q⟩
variable {tA tB' : TT} {ZFw : List Expr}
def ZRA (t u : TT) : TT := fun σ H Q => t σ H fun c H1 => if c = true then u σ H1 Q else Q false H1
def tOr (t u : TT) : TT := fun σ H Q => t σ H fun c H1 => if c = true then Q true H1 else u σ H1 Q
def ZRB (t : TT) : TT := fun σ H Q => t σ H fun c H1 => Q (!c) H1
theorem ZTW (ha : PT X a tA) : PW X (.BoolOp .And [a] pos) tA := by
 intro wh pins s σ H Q I h
 refine isTrue_and (thn (ha pins s σ H Q I h) fun c s1 e => ?_)
 cases c with
 | true => exact isTrue_and_nil e
 | false => exact e
theorem ZVM (ha : PT X a tA) : PW X (.BoolOp .Or [a] pos) tA := by
 intro wh pins s σ H Q I h
 refine isTrue_or (thn (ha pins s σ H Q I h) fun c s1 e => ?_)
 cases c with
 | false => exact isTrue_or_nil e
 | true => exact e
theorem ZVN (ha : PT X a tA) (hb : PW X (.BoolOp .And (b :: ZFw) pos) tB') : PW X (.BoolOp .And (a :: b :: ZFw) pos) (ZRA tA tB') := by
 intro wh pins s σ H Q I h
 refine isTrue_and (thn (ha pins s σ H _ I h) fun c s1 ⟨H1, I1, q1⟩ => ?_)
 cases c with
 | true => exact hb wh pins s1 σ H1 Q I1 q1
 | false => exact ⟨H1, I1, q1⟩
theorem ZWp (ha : PT X a tA) (hb : PW X (.BoolOp .Or (b :: ZFw) pos) tB') : PW X (.BoolOp .Or (a :: b :: ZFw) pos) (tOr tA tB') := by
 intro wh pins s σ H Q I h
 refine isTrue_or (thn (ha pins s σ H _ I h) fun c s1 ⟨H1, I1, q1⟩ => ?_)
 cases c with
 | true => exact ⟨H1, I1, q1⟩
 | false => exact hb wh pins s1 σ H1 Q I1 q1
theorem ZVO (ha : PT X a tA) : PT X (.UnaryOp .Not a pos) (ZRB tA) := by
 intro pins s σ H Q I h
 exact isTrue_not (ha pins s σ H (fun c H1 => Q (!c) H1) I h)
def ZOb (ta tb : TE) : TE := fun σ H Q => ta σ H fun x H1 => ∃ c, x = .bl c ∧ if c = true then tb σ H1 Q else Q (.bl false) H1
def ZOc (ta : TE) : TE := fun σ H Q => ta σ H fun x H1 => ∃ c, x = .bl c ∧ Q (.bl (!c)) H1
theorem ZVP {op} {t : TE} (h : PE X a t) : PE X (.BoolOp op [a] pos) t := fun pins s σ H Q I hw => BoolOp_one (h pins s σ H Q I hw)
theorem ZVQ (ha : PE X a ta) (hb : PE X (.BoolOp .And (b :: ZFw) pos) tb) : PE X (.BoolOp .And (a :: b :: ZFw) pos) (ZOb ta tb) := by
 intro pins s σ H Q I h
 refine BoolOp_and (thn (ha pins s σ H _ I h) fun v s1 ⟨x, H1, I1, r1, q1⟩ => ?_)
 obtain ⟨c, rfl, q1⟩ := q1
 cases r1
 refine wpAny_truthy_bool ?_
 cases c with
 | true => exact hb pins s1 σ H1 Q I1 q1
 | false => exact ⟨.bl false, H1, I1, rfl, q1⟩
theorem ZVR (ha : PE X a ta) : PE X (.UnaryOp .Not a pos) (ZOc ta) := by
 intro pins s σ H Q I h
 refine UnaryOp_ (thn (ha pins s σ H _ I h) fun v s1 ⟨x, H1, I1, r1, q1⟩ => ?_)
 obtain ⟨c, rfl, q1⟩ := q1
 cases r1
 exact not_of (wpAny_truthy_bool ⟨.bl (!c), H1, I1, rfl, q1⟩)
def tIf (t : TT) (ta tb : TE) : TE := fun σ H Q => t σ H fun c H1 => if c = true then ta σ H1 Q else tb σ H1 Q
theorem ZRC {c : Expr} (hc : PT X c tA) (ha : PE X a ta) (hb : PE X b tb) : PE X (.IfExp c a b pos) (tIf tA ta tb) := by
 intro pins s σ H Q I h
 refine wpAny_IfExp (thn (hc pins s σ H _ I h) fun d s1 ⟨H1, I1, q1⟩ => ?_)
 cases d with
 | true => exact ha pins s1 σ H1 Q I1 q1
 | false => exact hb pins s1 σ H1 Q I1 q1
end
def SqL (K : W.Frag) (H : Hp) (a : Addr) (xs : List V) : Prop :=
 Rd H a (.lst xs) ∨
  ∃ (o : Obj) (its : Array Value) (n : Nat), K.lookup a = some o ∧ o.cls = .type "list" ∧ o.dict = none ∧ o.data = .seq its n ∧ its.size ≤ sizeLine ∧ ZEg xs its.toList
def SqT (K : W.Frag) (H : Hp) (a : Addr) (xs : List V) : Prop :=
 Rd H a (.tup xs) ∨
  ∃ (o : Obj) (its : Array Value) (n : Nat), K.lookup a = some o ∧ o.cls = .type "tuple" ∧ o.data = .seq its n ∧ its.size ≤ sizeLine ∧ ZEg xs its.toList
def ZXD : Value → Option V
 | .none => some .non
 | .bool b => some (.bl b)
 | .int i _ => some (.int i)
 | .str x _ => some (.str x)
 | .bytes b _ => some (.byt b)
 | .float b _ => some (.flt b)
 | .ref a => some (.ref a)
 | .type n => some (.ty n)
 | _ => none
theorem ZEd.abs {x : V} {u : Value} (r : ZEd x u) : ZXD u = some x := by
 cases x with
 | non => cases r; rfl
 | bl _ => cases r; rfl
 | int _ => obtain ⟨t, rfl⟩ := r; rfl
 | str _ => obtain ⟨t, rfl⟩ := r; rfl
 | byt _ => obtain ⟨t, rfl⟩ := r; rfl
 | flt _ => obtain ⟨t, rfl⟩ := r; rfl
 | ref _ => cases r; rfl
 | ty _ => cases r; rfl
theorem ZEd.inj {x y : V} {u : Value} (r : ZEd x u) (q : ZEd y u) : x = y := Option.some.inj (r.abs.symm.trans q.abs)
theorem ZEg.inj : ∀ {xs ys : List V} {us : List Value}, ZEg xs us → ZEg ys us → xs = ys
 | _, _, _, .nil, .nil => rfl
 | _, _, _, .cons r t, .cons r' t' => by rw [r.inj r', ZEg.inj t t']
section
variable {X : Cx} {pins : List (Addr × Obj)} {σ : St} {H : Hp} {s : Shared} {a : Addr} {xs ys : List V}
theorem SqL.of {K : W.Frag} (h : H a = some (.lst xs)) : SqL K H a xs := .inl (.inl h)
theorem SqT.of {K : W.Frag} (h : H a = some (.tup xs)) : SqT K H a xs := .inl (.inl h)
theorem Inv.list (I : Inv X pins σ H s) (h : SqL X.K H a xs) : ∃ its : List Value, ZEg xs its ∧ PlainL s.heap a its.toArray ∧ xs.length ≤ sizeLine := by
 rcases h with h | ⟨o, its, n, hk, hc, hd, hs, hz, r⟩
 ·obtain ⟨z, its, n, r, e⟩ := h.ok I.hok
  exact ⟨its, r, ⟨_, n, e, rfl, rfl, rfl⟩, z⟩
 ·refine ⟨its.toList, r, ⟨o, n, I.kIn a o hk, hc, hd, by simpa using hs⟩, ?_⟩
  have e := r.length
  simp only [Array.length_toList] at e
  omega
theorem Inv.tuple (I : Inv X pins σ H s) (h : SqT X.K H a xs) : ∃ its : List Value, ZEg xs its ∧ IsTup s.heap a its.toArray ∧ xs.length ≤ sizeLine := by
 rcases h with h | ⟨o, its, n, hk, hc, hs, hz, r⟩
 ·obtain ⟨z, its, r, p⟩ := h.ok I.hok
  exact ⟨its, r, p, z.1⟩
 ·refine ⟨its.toList, r, ⟨o, I.kIn a o hk, hc, n, by simpa using hs⟩, ?_⟩
  have e := r.length
  simp only [Array.length_toList] at e
  omega
theorem Inv.list_inj (I : Inv X pins σ H s) (h : SqL X.K H a xs) (h' : SqL X.K H a ys) : xs = ys := by
 obtain ⟨its, r, ⟨o, n, e, _, _, d⟩, _⟩ := I.list h
 obtain ⟨its', r', ⟨o', n', e', _, _, d'⟩, _⟩ := I.list h'
 rw [e] at e'; cases e'
 rw [d] at d'
 injection d' with d1 _
 have : its = its' := by simpa using congrArg Array.toList d1
 subst this
 exact r.inj r'
theorem Inv.tuple_inj (I : Inv X pins σ H s) (h : SqT X.K H a xs) (h' : SqT X.K H a ys) : xs = ys := by
 obtain ⟨its, r, ⟨o, e, _, n, d⟩, _⟩ := I.tuple h
 obtain ⟨its', r', ⟨o', e', _, n', d'⟩, _⟩ := I.tuple h'
 rw [e] at e'; cases e'
 rw [d] at d'
 injection d' with d1 _
 have : its = its' := by simpa using congrArg Array.toList d1
 subst this
 exact r.inj r'
end
abbrev Cx.wish (X : Cx) (E : Value → Shared → Prop) : Cx := { X with xe := E }
abbrev Cx.nox (X : Cx) : Cx := X.wish fun _ _ => False
theorem Cx.Ok.wish {X : Cx} (ok : X.Ok) (E : Value → Shared → Prop) : (X.wish E).Ok :=
 ⟨ok.mod, ok.kind, ok.glob, ok.blt, ok.above, ok.inj, ok.has, ok.cab, ok.hd, ok.frames, ok.stk, ok.exf, ok.bs, ok.bsz, ok.noex, ok.exfs, ok.funs, ok.frf⟩
theorem Cx.Ok.unwish {X : Cx} {E : Value → Shared → Prop} (ok : (X.wish E).Ok) : X.Ok :=
 ⟨ok.mod, ok.kind, ok.glob, ok.blt, ok.above, ok.inj, ok.has, ok.cab, ok.hd, ok.frames, ok.stk, ok.exf, ok.bs, ok.bsz, ok.noex, ok.exfs, ok.funs, ok.frf⟩
section
variable {X : Cx} {pins : List (Addr × Obj)} {σ : St} {H : Hp} {s : Shared} {E : Value → Shared → Prop}
theorem Inv.wish (I : Inv X pins σ H s) (E : Value → Shared → Prop) : Inv (X.wish E) pins σ H s := ⟨I.ok.wish E, I.os, I.bare, I.base, I.loc, I.cell, I.free, I.freeC, I.pin, I.hok, I.len⟩
theorem Inv.unwish (I : Inv (X.wish E) pins σ H s) : Inv X pins σ H s := ⟨I.ok.unwish, I.os, I.bare, I.base, I.loc, I.cell, I.free, I.freeC, I.pin, I.hok, I.len⟩
theorem SP.unwish {D : ZFH} {f : Flow} {s' : Shared} (h : SP (X.wish E) pins D f s') : SP X pins D f s' := by
 cases f with
 | next => obtain ⟨σ', H', I, q⟩ := h; exact ⟨σ', H', I.unwish, q⟩
 | brk => obtain ⟨σ', H', I, q⟩ := h; exact ⟨σ', H', I.unwish, q⟩
 | cont => obtain ⟨σ', H', I, q⟩ := h; exact ⟨σ', H', I.unwish, q⟩
 | ret u => obtain ⟨v, σ', H', I, r, q⟩ := h; exact ⟨v, σ', H', I.unwish, r, q⟩
theorem PSs.nox {st : List Stmt} {t : TS} (h : PSs X.nox st t) : PSs X st t := fun pins s σ H D I hw =>
 wpAny_mono (h pins s σ H D (I.wish _) hw) (fun _ _ q => q.unwish) fun _ _ z => False.elim z
end
section
variable {X : Cx} {st : Stmt} {ZFw : List Stmt} {t u : TS} {e : Expr} {te : TE} {pos : Pos}
def ZOd : TS := fun D σ H => D.nx σ H
def ZIQ (t u : TS) : TS := fun D σ H => t { D with nx := u D } σ H
theorem ZTX : PSs X [] ZOd := fun _ _ σ H _ I h => wpAny_execs_nil ⟨σ, H, I, h⟩
theorem ZRD (h1 : PS X st t) (h2 : PSs X ZFw u) : PSs X (st :: ZFw) (ZIQ t u) := by
 intro pins s σ H D I h
 refine wpAny_execs_cons (thn (h1 pins s σ H { D with nx := u D } I h) fun f s1 q => ?_)
 cases f with
 | next =>
  obtain ⟨σ', H', I', q⟩ := q
  exact h2 pins s1 σ' H' D I' q
 | ret v => exact q
 | brk => exact q
 | cont => exact q
theorem ZTY (h1 : PS X st t) : PSs X [st] t := by
 intro pins s σ H D I h
 refine wpAny_execs_cons (thn (h1 pins s σ H D I h) fun f s1 q => ?_)
 cases f with
 | next => exact wpAny_execs_nil q
 | ret v => exact q
 | brk => exact q
 | cont => exact q
theorem Inv.quiet {pins : List (Addr × Obj)} {σ : St} {H : Hp} {s : Shared} (I : Inv X pins σ H s) : interactive X.env = false := by simp [interactive, I.ok.kind]
def ZMR (te : TE) : TS := fun D σ H => te σ H fun _ H1 => D.nx σ H1
theorem ZTZ (he : PE X e te) (hs : swapsWith e none pos.line X.env = pure false := by rfl) : PS X (.Expr e pos) (ZMR te) := by
 intro pins s σ H D I h
 exact wpAny_Expr_any (thn (he pins s σ H _ I h) fun v s1 ⟨x, H1, I1, r1, q1⟩ => ⟨σ, H1, I1, q1⟩) I.quiet hs
def ZRE (te : TE) : TS := fun D σ H => te σ H D.rt
theorem ZVS (he : PE X e te) : PS X (.Return (some e) pos) (ZRE te) := by
 intro pins s σ H D I h
 exact wpAny_Return_some (thn (he pins s σ H _ I h) fun v s1 ⟨x, H1, I1, r1, q1⟩ => ⟨x, σ, H1, I1, r1, q1⟩)
def ZMb (c : TT) (t u : TS) : TS := fun D σ H => c σ H fun b H1 => if b = true then t D σ H1 else u D σ H1
theorem ZWq {c : Expr} {a b : List Stmt} {tc : TT} (hc : PT X c tc) (ha : PSs X a t) (hb : PSs X b u) : PS X (.If c a b pos) (ZMb tc t u) := by
 intro pins s σ H D I h
 refine wpAny_If (thn (hc pins s σ H _ I h) fun d s1 ⟨H1, I1, q1⟩ => ?_)
 cases d with
 | true => exact ha pins s1 σ H1 D I1 q1
 | false => exact hb pins s1 σ H1 D I1 q1
def ZPg : TS := fun _ _ _ => False
theorem ZRF : PS X st ZPg := fun _ _ _ _ _ _ h => h.elim
end
abbrev TG := V → St → Hp → (St → Hp → Prop) → Prop
abbrev TGs := List V → St → Hp → (St → Hp → Prop) → Prop
def PG (X : Cx) (target : Expr) (t : TG) : Prop :=
 ∀ (pins : List (Addr × Obj)) (s : Shared) (σ : St) (H : Hp) (v : V) (u : Value) (Q : St → Hp → Prop), Inv X pins σ H s → ZEd v u → t v σ H Q →
  wpAny (model X.prog X.w) X.A (assign target X.env u) (fun _ s' => ∃ σ' H', Inv X pins σ' H' s' ∧ Q σ' H') X.xe s
def PGs (X : Cx) (ts : List Expr) (t : TGs) : Prop :=
 ∀ (pins : List (Addr × Obj)) (s : Shared) (σ : St) (H : Hp) (vs : List V) (us : List Value) (Q : St → Hp → Prop), Inv X pins σ H s → ZEg vs us → t vs σ H Q →
  wpAny (model X.prog X.w) X.A (assignInOrder ((assignEach ts X.env).map (·.2)) us) (fun _ s' => ∃ σ' H', Inv X pins σ' H' s' ∧ Q σ' H') X.xe s
abbrev ZMc := V → V → V → Hp → (Hp → Prop) → Prop
def ZRG (X : Cx) (t : ZMc) : Prop :=
 ∀ (pins : List (Addr × Obj)) (s : Shared) (σ : St) (H : Hp) (o i v : V) (ov iv u : Value) (Q : Hp → Prop), Inv X pins σ H s → ZEd o ov → ZEd i iv → ZEd v u → t o i v H Q →
  wpAny (model X.prog X.w) X.A (setItem ov iv u) (fun _ s' => ∃ H', Inv X pins σ H' s' ∧ Q H') X.xe s
abbrev TIp := V → V → Hp → VK → Prop
def PIp (X : Cx) (op : Operator) (t : TIp) : Prop :=
 ∀ (pins : List (Addr × Obj)) (s : Shared) (σ : St) (H : Hp) (x y : V) (v u : Value) (Q : VK), Inv X pins σ H s → ZEd x v → ZEd y u → t x y H Q →
  wpAny (model X.prog X.w) X.A (inplaceOp op v u) (EP X pins σ Q) X.xe s
section
variable {X : Cx} {pos : Pos}
def ZHe (i : Nat) : TG := fun v σ H Q => Q (σ.set i (some v)) H
theorem ZTa {i : Nat} {x : Str} (hN : X.N.Nodup) (hi : X.N[i]? = some x) (hx : Loc X.env.scope x) (hf : X.fn x = true ∨ X.env.scope.names.lookup x = some .local := by first | exact .inl rfl | exact .inr rfl | assumption) : PG X (.Name x pos) (ZHe i) := by
 intro pins s σ H v u Q I r h
 exact wpAny_assign_Name (ZIp I hN hi hx r (fun s' I' => ⟨_, H, I', h⟩) hf)
def ZRH : TGs := fun vs σ H Q => vs = [] ∧ Q σ H
def ZOe (t : TG) (u : TGs) : TGs := fun vs σ H Q => ∃ v r, vs = v :: r ∧ t v σ H fun σ' H' => u r σ' H' Q
theorem ZTb : PGs X [] ZRH := by
 intro pins s σ H vs us Q I r h
 obtain ⟨e, h⟩ := h
 subst e
 cases r
 exact assignInOrder_nil ⟨σ, H, I, h⟩
theorem ZRI {e : Expr} {es : List Expr} {t : TG} {u : TGs} (h1 : PG X e t) (h2 : PGs X es u)
  (hs : (assignEach (e :: es) X.env).map (·.2) = assign e X.env :: (assignEach es X.env).map (·.2) := by rfl) : PGs X (e :: es) (ZOe t u) := by
 intro pins s σ H vs us Q I r h
 obtain ⟨v, vr, e1, h⟩ := h
 subst e1
 cases r with
 | cons r rr =>
  rw [hs]
  refine assignInOrder_cons (thn (h1 pins s σ H _ _ _ I r h) fun _ s1 ⟨σ1, H1, I1, q1⟩ => ?_)
  exact h2 pins s1 σ1 H1 _ _ Q I1 rr q1
def ZOf (K : W.Frag) (n : Nat) (t : TGs) : TG := fun v σ H Q => ∃ a xs, v = .ref a ∧ SqT K H a xs ∧ xs.length = n ∧ t xs σ H Q
theorem ZVT {es : List Expr} {k : Nat} {t : TGs} {n : Nat} (hc : X.calm = true) (h : PGs X es t)
  (hn : (assignEach es X.env).length = n := by rfl) (hst : (assignEach es X.env).findIdx? (·.1) = none := by rfl) : PG X (.Tuple es k pos) (ZOf X.K n t) := by
 intro pins s σ H v u Q I r hw
 obtain ⟨a, xs, e1, hq, hl, hw⟩ := hw
 subst e1
 cases r
 obtain ⟨its, rv, ht, hz⟩ := I.tuple hq
 refine assign_Tuple_tuple (I.ok.hd hc) ht (by simp [hn, ← hl, rv.length]) hst fun h' hx => ?_
 have I1 : Inv X pins σ H { s with heap := h' } := I.kept (t' := s.toks) fun b o e => hx b o (Nat.ne_of_lt (Heap.lt_size e)) e
 exact h pins _ σ H xs _ Q I1 (by simpa using rv) hw
def ZRJ (to ti : TE) (t : ZMc) : TG := fun v σ H Q => to σ H fun o H1 => ti σ H1 fun i H2 => t o i v H2 fun H3 => Q σ H3
theorem ZVU {o i : Expr} {to ti : TE} {t : ZMc} (ho : PE X o to) (hi : PE X i ti) (hs : ZRG X t)
  (ha : ∀ v, assign (.Subscript o i pos) X.env v = (do
   let ov ← holding [v] (eval o X.env)
   let iv ← holding [v, ov] (eval i X.env)
   standAt pos
   holding [v, ov, iv] (setItem ov iv v)
   release [v, ov, iv] []) := by intro _; rfl) : PG X (.Subscript o i pos) (ZRJ to ti t) := by
 intro pins s σ H v u Q I r h
 rw [ha]
 refine wpAny_bind (wpAny_holding (thn (ho pins s σ H _ I h) fun ov s1 ⟨x, H1, I1, r1, q1⟩ => ?_))
 refine wpAny_bind (wpAny_holding (thn (hi pins s1 σ H1 _ I1 q1) fun iv s2 ⟨y, H2, I2, r2, q2⟩ => ?_))
 refine wpAny_bind (wpAny_standAt (wpAny_bind (wpAny_holding (thn (hs pins s2 σ H2 x y v ov iv u _ I2 r1 r2 r q2) fun _ s3 ⟨H3, I3, q3⟩ => ?_))))
 exact wpAny_release ⟨σ, H3, I3, q3⟩
def ZKI (te : TE) (g : TG) : TS := fun D σ H => te σ H fun x H1 => g x σ H1 D.nx
theorem ZVV {tg e : Expr} {te : TE} {g : TG} (he : PE X e te) (hg : PG X tg g) (hs : swapsWithSole [tg] e pos.line X.env = pure false := by rfl) (hw : swappedStores [tg] e X.env = pure none := by rfl)
  (h1 : (assignEach [tg] X.env).map (·.2) = [assign tg X.env] := by rfl) : PS X (.Assign [tg] e pos) (ZKI te g) := by
 intro pins s σ H D I h
 refine wpAny_Assign_stores (thn (he pins s σ H _ I h) fun v s1 ⟨x, H1, I1, r1, q1⟩ => ?_) hs hw
 rw [h1]
 exact thn (hg pins s1 σ H1 x v _ I1 r1 q1) fun _ s2 q => q
theorem ZVW {i : Nat} {x : Str} {e : Expr} {te : TE} {pos' : Pos} (hN : X.N.Nodup) (hi : X.N[i]? = some x) (hx : Loc X.env.scope x) (he : PE X e te) (hs : swapsWith e (some (.Name x pos')) pos.line X.env = pure false := by rfl) (hf : X.fn x = true ∨ X.env.scope.names.lookup x = some .local := by first | exact .inl rfl | exact .inr rfl | assumption) :
  PS X (.Assign [.Name x pos'] e pos) (ZKI te (ZHe i)) := by
 intro pins s σ H D I h
 refine wpAny_Assign_Name (thn (he pins s σ H _ I h) fun v s1 ⟨y, H1, I1, r1, q1⟩ => ?_) hs
 exact ZIp I1 hN hi hx r1 (fun s2 I2 => ⟨_, H1, I2, q1⟩) hf
def ZRK (i : Nat) (te : TE) (ti : TIp) : TS := fun D σ H => ∃ x, σ[i]? = some (some x) ∧ te σ H fun y H1 => ti x y H1 fun z H2 => D.nx (σ.set i (some z)) H2
theorem ZVX {i : Nat} {x : Str} {e : Expr} {te : TE} {op : Operator} {ti : TIp} {pos' : Pos} (hN : X.N.Nodup) (hi : X.N[i]? = some x) (hx : Loc X.env.scope x) (he : PE X e te) (ho : PIp X op ti) (hf : X.fn x = true ∨ X.env.scope.names.lookup x = some .local := by first | exact .inl rfl | exact .inr rfl | assumption) :
  PS X (.AugAssign (.Name x pos') op e pos) (ZRK i te ti) := by
 intro pins s σ H D I h
 obtain ⟨v, e1, h⟩ := h
 obtain ⟨m, hn, hl⟩ := I.loc
 have vis : Vis X.env.scope x := by rcases hx with k | k; exact .inl k; exact .inr (.inl k)
 obtain ⟨u, r, l⟩ := hl i x v hi e1 vis
 refine wpAny_AugAssign_Name ?_
 have go : wpAny (model X.prog X.w) X.A (eval e X.env) (fun w s₂ => wpAny (model X.prog X.w) X.A (inplaceOp op u w) (fun r s₃ => wpAny (model X.prog X.w) X.A (storeName X.env x r) (fun _ => SP X pins D .next) X.xe s₃) X.xe s₂) X.xe s := by
  refine thn (he pins s σ H _ I h) fun w s1 ⟨y, H1, I1, r1, q1⟩ => ?_
  refine thn (ho pins s1 σ H1 v y u w _ I1 r r1 q1) fun z s2 ⟨zv, H2, I2, r2, q2⟩ => ?_
  exact ZIp I2 hN hi hx r2 (fun s3 I3 => ⟨_, H2, I3, q2⟩) hf
 rcases l with ⟨hk, hm⟩ | ⟨hk, c, hc, hcell⟩
 ·exact wpAny_loadName_local I.ok.kind hk hn hm go
 ·rcases hk with hk | hk
  ·exact wpAny_loadName_cell I.ok.kind hk hc hcell go
  ·rcases hx with k | k
   ·have : X.env.scope.names.lookup x = some .free := hk
    rw [k] at this; cases this
   ·have : X.env.scope.names.lookup x = some .free := hk
    rw [k] at this; cases this
end
section
variable {X : Cx} {pos : Pos}
def ZMd (c : TT) (tb : TS) : TS := fun D σ H => ∃ W : Nat → St → Hp → Prop, (∃ m, W m σ H) ∧ ∀ m σ H, W m σ H →
 c σ H fun b H1 => if b = true then ∃ N : St → Hp → Prop, (∀ σ' H', N σ' H' → ∃ m', m' < m ∧ W m' σ' H') ∧ tb { D with nx := N, ct := N, bk := D.nx } σ H1 else D.nx σ H1
theorem ZRL {c : Expr} {body : List Stmt} {tc : TT} {tb : TS} (hp : PassesOwn (model X.prog X.w) X.A X.env X.xe) (hc : PT X c tc) (hb : PSs X body tb) : PS X (.While c body [] pos) (ZMd tc tb) := by
 intro pins s σ H D I h
 obtain ⟨W, ⟨m0, w0⟩, turn⟩ := h
 refine wpAny_While (codeAny_whileLoop (fun n s' => ∃ σ' H', Inv X pins σ' H' s' ∧ W n σ' H') ?_ m0 ⟨σ, H, I, w0⟩)
 rintro n s1 ⟨σ1, H1, I1, w1⟩
 refine wpAny_passesOwn hp (thn (hc pins s1 σ1 H1 _ I1 (turn n σ1 H1 w1)) fun b s2 ⟨H2, I2, q2⟩ => ?_)
 cases b with
 | true =>
  obtain ⟨N, hN, q2⟩ := q2
  rw [if_pos rfl]
  refine wpAny_passesOwn hp (thn (hb pins s2 σ1 H2 _ I2 q2) fun f s3 q3 => ?_)
  cases f with
  | next =>
   obtain ⟨σ3, H3, I3, n3⟩ := q3
   obtain ⟨m', hm, w3⟩ := hN σ3 H3 n3
   exact ⟨m', hm, σ3, H3, I3, w3⟩
  | cont =>
   obtain ⟨σ3, H3, I3, n3⟩ := q3
   obtain ⟨m', hm, w3⟩ := hN σ3 H3 n3
   exact ⟨m', hm, σ3, H3, I3, w3⟩
  | brk => exact q3
  | ret v => exact q3
 | false =>
  rw [if_neg Bool.false_ne_true]
  exact wpAny_execs_nil ⟨σ1, H2, I2, q2⟩
end
structure It where
 go : Nat → Hp → Prop
 yld : Nat → Hp → V → Hp → Prop
 stop : Nat → Hp → Prop
def ZFs (X : Cx) (pins : List (Addr × Obj)) (H : Hp) (b : Addr) : Prop :=
 H b = none ∧ b ≠ X.env.locals ∧ b ∉ X.fs ∧ (b ∈ X.ex ∨ X.s₀.heap.objs.size ≤ b) ∧ (∀ x c, X.env.cells.lookup x = some c → c ≠ b) ∧ ∀ p ∈ X.pn ++ pins, p.1 ≠ b
theorem Inv.fpOk {X : Cx} {pins : List (Addr × Obj)} {σ : St} {H H' : Hp} {s : Shared} {b : Addr} (I : Inv X pins σ H s) (hb : s.heap.objs.size ≤ b) (hn : H' b = none) : ZFs X pins H' b := by
 refine ⟨hn, Nat.ne_of_gt (Nat.lt_of_lt_of_le I.lt hb), I.nofs hb, .inr (Nat.le_trans I.sz hb), fun x c e z => ?_, fun p hp z => ?_⟩
 ·obtain ⟨v, q⟩ := I.cell x c e
  exact absurd (Nat.lt_of_lt_of_le q.lt (by rw [z]; exact hb)) (Nat.lt_irrefl _)
 ·exact absurd (Nat.lt_of_lt_of_le (Heap.lt_size (I.pin p hp).1) (by rw [z]; exact hb)) (Nat.lt_irrefl _)
structure ZMe (P : Program) (w : World) (K : W.Frag) (tg : Expr) (J : It) (fp : List Addr) (it : Addr) (tn : Nat → Heap → Prop) : Prop where
 mem : it ∈ fp
 obj : ∀ i h, tn i h → ∀ b ∈ fp, ∃ o, h.get? b = some o ∧ ∀ v, o.data ≠ .cell v
 keep : ∀ i h h', tn i h → (∀ b ∈ fp, ∀ o, h.get? b = some o → h'.get? b = some o) → tn i h'
 item : ∀ (X : Cx), X.prog = P → X.w = w → X.K = K → X.calm = true → ∀ (i : Nat) (pins : List (Addr × Obj)) (s : Shared) (σ : St) (H : Hp) (E : Value → Shared → Prop), Inv X pins σ H s → (∀ b ∈ fp, ZFs X pins H b) → tn i s.heap → J.go i H →
  wpAny (model P w) X.A (pyNext (.ref it)) (fun r s1 => ∃ u, r = some u ∧
   wpAny (model P w) X.A (letOwnedTupleGo tg (.ref it) u) (fun _ s2 => ∃ x H', Inv X pins σ H' s2 ∧ ZEd x u ∧ J.yld i H x H' ∧ tn (i + 1) s2.heap ∧ ∀ b ∈ fp, H' b = none) E s1) E s
 done : ∀ (X : Cx), X.prog = P → X.w = w → X.K = K → X.calm = true → ∀ (i : Nat) (pins : List (Addr × Obj)) (s : Shared) (σ : St) (H : Hp) (E : Value → Shared → Prop), Inv X pins σ H s → (∀ b ∈ fp, ZFs X pins H b) → tn i s.heap → J.stop i H →
  wpAny (model P w) X.A (pyNext (.ref it)) (fun r s1 => r = none ∧ Inv X pins σ H s1) E s
 self : ∀ (A : Around) (i : Nat) (s : Shared) (Q : Value → Shared → Prop) (E : Value → Shared → Prop), tn i s.heap → Q (.ref it) s → wpAny (model P w) A (pyIter (.ref it)) Q E s
abbrev TI := St → Hp → (It → Hp → Prop) → Prop
def PIE (X : Cx) (pins : List (Addr × Obj)) (σ : St) (tg : Expr) (R : It → Hp → Prop) (itv : Value) (s2 : Shared) : Prop :=
 ∃ (it : Addr) (fp : List Addr) (tn : Nat → Heap → Prop) (J : It) (H' : Hp), itv = .ref it ∧ Inv X pins σ H' s2 ∧ ZMe X.prog X.w X.K tg J fp it tn ∧ tn 0 s2.heap ∧ (∀ b ∈ fp, ZFs X pins H' b) ∧ R J H'
def PI (X : Cx) (tg iter : Expr) (wi : TI) : Prop :=
 ∀ (pins : List (Addr × Obj)) (s : Shared) (σ : St) (H : Hp) (R : It → Hp → Prop), Inv X pins σ H s → wi σ H R →
  wpAny (model X.prog X.w) X.A (eval iter X.env) (fun v s1 => wpAny (model X.prog X.w) X.A (pyIter v) (PIE X pins σ tg R) X.xe s1) X.xe s
theorem ZMS {M : Model} {A : Around} {E : Value → Shared → Prop} {s : Shared} {tg : Expr} {it : Addr} {u : Value} {o : Obj} {n : String} {vs : Array Value} {Q : Unit → Shared → Prop} (ho : s.heap.get? it = some o) (hc : o.cls = .type n) (hd : o.data = .fields vs)
    (hn : ["enumerate", "zip", "dict_itemiterator", "dict_reverseitemiterator", "odict_iterator", "itertools.zip_longest", "itertools.pairwise"].contains n = false) (hQ : Q () s) : wpAny M A (letOwnedTupleGo tg (.ref it) u) Q E s := by
  unfold letOwnedTupleGo
  cases tg <;> first
    | exact wpAny_pure hQ
    | (cases u <;> first
        | exact wpAny_pure hQ
        | (refine wpAny_bind (wpAny_load ho ?_)
           rw [hc, hd]
           show wpAny M A (if (["enumerate", "zip", "dict_itemiterator", "dict_reverseitemiterator", "odict_iterator", "itertools.zip_longest", "itertools.pairwise"].contains n && vs[0]? == some (rawInt _)) = true then _ else _) Q E s
           rw [if_neg (by intro h; rw [hn, Bool.false_and] at h; cases h)]
           exact wpAny_pure hQ))
def Itl (K : W.Frag) (a : Addr) : It :=
 ⟨fun i H => ∃ xs x, SqL K H a xs ∧ xs[i]? = some x, fun i H x H' => H' = H ∧ ∀ xs, SqL K H a xs → xs[i]? = some x, fun i H => ∃ xs, SqL K H a xs ∧ xs.length ≤ i⟩
def Itt (K : W.Frag) (a : Addr) : It :=
 ⟨fun i H => ∃ xs x, SqT K H a xs ∧ xs[i]? = some x, fun i H x H' => H' = H ∧ ∀ xs, SqT K H a xs → xs[i]? = some x, fun i H => ∃ xs, SqT K H a xs ∧ xs.length ≤ i⟩
def Itr (lo : Int) (n : Nat) : It := ⟨fun i _ => i < n, fun i H x H' => H' = H ∧ x = .int (lo + i), fun i _ => n ≤ i⟩
theorem ZPh {P : Program} {w : World} {K : W.Frag} {tg : Expr} (a it : Addr) : ZMe P w K tg (Itl K a) [it] it (fun i h => h.IsListIter it a i) where
 mem := by simp
 obj := fun i h st b hb => by
  have e : b = it := by simpa using hb
  subst e
  obtain ⟨o, e, c, d⟩ := st
  exact ⟨o, e, fun v z => by rw [d] at z; cases z⟩
 keep := fun i h h' st k => st.at fun o e => k it (by simp) o e
 item := by
  intro X hP hw hK hc i pins s σ H E I hf st hg
  subst hP hw hK
  obtain ⟨xs, x, hq, hx⟩ := hg
  obtain ⟨its, rv, p, hz⟩ := I.list hq
  obtain ⟨u, hu, ru⟩ := rv.get hx
  obtain ⟨f0, f1, f2, f3, f4, f5⟩ := hf it (by simp)
  refine wpAny_pyNext_list_item st p.isList (x := u) (by simpa using hu) fun h' st' sb => ?_
  have I1 : Inv X pins σ H { s with heap := h' } := I.turned (t' := s.toks) (fun b o hb e => (sb.2 b hb).trans e) f0 f1 f3 f4 f5
  obtain ⟨o, e, c, d⟩ := id st'
  exact ⟨u, rfl, ZMS (s := { s with heap := h' }) e c d (by decide) ⟨x, H, I1, ru, ⟨rfl, fun ys hy => by rw [I.list_inj hy hq]; exact hx⟩, st', fun b hb => (hf b hb).1⟩⟩
 done := by
  intro X hP hw hK hc i pins s σ H E I hf st hg
  subst hP hw hK
  obtain ⟨xs, hq, hx⟩ := hg
  obtain ⟨its, rv, p, hz⟩ := I.list hq
  obtain ⟨f0, f1, f2, f3, f4, f5⟩ := hf it (by simp)
  have hl := rv.length
  exact wpAny_pyNext_list_end (I.ok.hd hc) st p.isList (by simp; omega) fun h' eb => ⟨rfl, I.turned (t' := s.toks) (fun b o hb e => eb b o hb e) f0 f1 f3 f4 f5⟩
 self := fun _ _ _ _ _ st h => wpAny_pyIter_listiter st h
theorem ZOg {P : Program} {w : World} {K : W.Frag} {tg : Expr} (a it : Addr) : ZMe P w K tg (Itt K a) [it] it (fun i h => h.IsTupleIter it a i) where
 mem := by simp
 obj := fun i h st b hb => by
  have e : b = it := by simpa using hb
  subst e
  obtain ⟨o, e, c, d⟩ := st
  exact ⟨o, e, fun v z => by rw [d] at z; cases z⟩
 keep := fun i h h' st k => st.at fun o e => k it (by simp) o e
 item := by
  intro X hP hw hK hc i pins s σ H E I hf st hg
  subst hP hw hK
  obtain ⟨xs, x, hq, hx⟩ := hg
  obtain ⟨its, rv, p, hz⟩ := I.tuple hq
  obtain ⟨u, hu, ru⟩ := rv.get hx
  obtain ⟨f0, f1, f2, f3, f4, f5⟩ := hf it (by simp)
  refine wpAny_pyNext_tuple_item st (show s.heap.IsTuple a its.toArray from p) (x := u) (by simpa using hu) fun h' st' sb => ?_
  have I1 : Inv X pins σ H { s with heap := h' } := I.turned (t' := s.toks) (fun b o hb e => (sb.2 b hb).trans e) f0 f1 f3 f4 f5
  obtain ⟨o, e, c, d⟩ := id st'
  exact ⟨u, rfl, ZMS (s := { s with heap := h' }) e c d (by decide) ⟨x, H, I1, ru, ⟨rfl, fun ys hy => by rw [I.tuple_inj hy hq]; exact hx⟩, st', fun b hb => (hf b hb).1⟩⟩
 done := by
  intro X hP hw hK hc i pins s σ H E I hf st hg
  subst hP hw hK
  obtain ⟨xs, hq, hx⟩ := hg
  obtain ⟨its, rv, p, hz⟩ := I.tuple hq
  obtain ⟨f0, f1, f2, f3, f4, f5⟩ := hf it (by simp)
  have hl := rv.length
  exact wpAny_pyNext_tuple_end (I.ok.hd hc) st (show s.heap.IsTuple a its.toArray from p) (by simp; omega) fun h' eb => ⟨rfl, I.turned (t' := s.toks) (fun b o hb e => eb b o hb e) f0 f1 f3 f4 f5⟩
 self := fun _ _ _ _ _ st h => wpAny_pyIter_tupleiter st h
theorem ZOh {P : Program} {w : World} {K : W.Frag} {tg : Expr} (it : Addr) (lo : Int) (n : Nat) : ZMe P w K tg (Itr lo n) [it] it (fun i h => IsRangeIter h it (lo + (i : Nat) * 1) ((n : Int) - (i : Nat)) 1) where
 mem := by simp
 obj := fun i h st b hb => by
  have e : b = it := by simpa using hb
  subst e
  exact ⟨_, st, fun v z => by
   have z' : Data.fields _ = Data.cell v := z
   cases z'⟩
 keep := fun i h h' st k => k it (by simp) _ st
 item := by
  intro X hP hw hK hc i pins s σ H E I hf st hg
  subst hP hw hK
  obtain ⟨f0, f1, f2, f3, f4, f5⟩ := hf it (by simp)
  have W := Walks.range (prog := X.prog) (w := X.w) (I.ok.hd hc) it lo 1 n
  refine W.item i s _ _ hg st fun v h' tk hv st' kk => ?_
  obtain ⟨t, rfl⟩ := hv
  have I1 : Inv X pins σ H { s with heap := h', toks := tk } := I.turned (fun b o hb e => kk b o (by simpa using hb) e) f0 f1 f3 f4 f5
  refine ⟨_, rfl, ZMS (s := { s with heap := h', toks := tk }) (n := "range_iterator") st' rfl rfl (by decide) ⟨.int (lo + i), H, I1, ⟨t, ?_⟩, ⟨rfl, rfl⟩, st', fun b hb => (hf b hb).1⟩⟩
  rw [Int.mul_one]
 done := by
  intro X hP hw hK hc i pins s σ H E I hf st hg
  subst hP hw hK
  obtain ⟨f0, f1, f2, f3, f4, f5⟩ := hf it (by simp)
  exact wpAny_pyNext_range_end (I.ok.hd hc) st (by have : n ≤ i := hg; omega) fun h' eb => ⟨rfl, I.turned (t' := s.toks) (fun b o hb e => eb b o hb e) f0 f1 f3 f4 f5⟩
 self := fun _ _ _ _ _ st h => wpAny_pyIter_rangeiter st h
section
variable {X : Cx} {tg : Expr}
def ZMT (K : W.Frag) (tl : TE) : TI := fun σ H R => tl σ H fun x H1 => ∃ a, x = .ref a ∧ (∃ xs, SqL K H1 a xs) ∧ R (Itl K a) H1
def ZOi (K : W.Frag) (tl : TE) : TI := fun σ H R => tl σ H fun x H1 => ∃ a, x = .ref a ∧ (∃ xs, SqT K H1 a xs) ∧ R (Itt K a) H1
theorem ZTc {l : Expr} {tl : TE} (hl : PE X l tl) : PI X tg l (ZMT X.K tl) := by
 intro pins s σ H R I h
 refine thn (hl pins s σ H _ I h) fun v s1 ⟨x, H1, I1, r1, q1⟩ => ?_
 obtain ⟨a, e, ⟨xs, hq⟩, q⟩ := q1
 subst e
 cases r1
 obtain ⟨its, rv, p, hz⟩ := I1.list hq
 refine wpAny_pyIter_list p.isList ?_
 refine ⟨s1.heap.objs.size, [s1.heap.objs.size], _, _, H1, rfl, I1.kept (t' := s1.toks) fun b o e => Heap.get?_push_of_some _ e, ZPh a _, ⟨_, Heap.get?_push_size _ rfl, rfl, rfl⟩, fun b hb => ?_, q⟩
 have e : b = s1.heap.objs.size := by simpa using hb
 subst e
 exact I1.fpOk (Nat.le_refl _) (I1.hok.fresh (Nat.le_refl _))
theorem ZVY {l : Expr} {tl : TE} (hl : PE X l tl) : PI X tg l (ZOi X.K tl) := by
 intro pins s σ H R I h
 refine thn (hl pins s σ H _ I h) fun v s1 ⟨x, H1, I1, r1, q1⟩ => ?_
 obtain ⟨a, e, ⟨xs, hq⟩, q⟩ := q1
 subst e
 cases r1
 obtain ⟨its, rv, p, hz⟩ := I1.tuple hq
 refine wpAny_pyIter_tuple (show s1.heap.IsTuple a its.toArray from p) ?_
 refine ⟨s1.heap.objs.size, [s1.heap.objs.size], _, _, H1, rfl, I1.kept (t' := s1.toks) fun b o e => Heap.get?_push_of_some _ e, ZOg a _, ⟨_, Heap.get?_push_size _ rfl, rfl, rfl⟩, fun b hb => ?_, q⟩
 have e : b = s1.heap.objs.size := by simpa using hb
 subst e
 exact I1.fpOk (Nat.le_refl _) (I1.hok.fresh (Nat.le_refl _))
theorem ZRM {pins : List (Addr × Obj)} {σ : St} {H : Hp} {s : Shared} {R : It → Hp → Prop} {E : Value → Shared → Prop} {lo hi : Int} {t u v : Tok} {tk : Nat} (I : Inv X pins σ H s) (h1 : -(2 ^ 62) ≤ lo) (h2 : lo < 2 ^ 62) (h3 : -(2 ^ 62) ≤ hi) (h4 : hi < 2 ^ 62)
  (q : R (Itr lo (hi - lo).toNat) H) : wpAny (model X.prog X.w) X.A (pyIter (.ref s.heap.objs.size)) (PIE X pins σ tg R) E { s with heap := s.heap.push { cls := .type "range", data := .fields #[.int lo t, .int hi u, .int 1 v] }, toks := tk } := by
 refine wpAny_pyIter_range (IsRange.new ..) (small_one h1 h2 h3 h4) ?_
 have I1 : Inv X pins σ H { s with heap := s.heap.push { cls := .type "range", data := .fields #[.int lo t, .int hi u, .int 1 v] }, toks := tk } := I.kept fun b o e => Heap.get?_push_of_some _ e
 refine ⟨(s.heap.push { cls := .type "range", data := .fields #[.int lo t, .int hi u, .int 1 v] }).objs.size, [(s.heap.push { cls := .type "range", data := .fields #[.int lo t, .int hi u, .int 1 v] }).objs.size], _, _, H, rfl,
  I1.kept (t' := tk) fun b o e => Heap.get?_push_of_some _ e, ZOh _ lo (hi - lo).toNat, ?_, fun b hb => ?_, q⟩
 ·have e1 : lo + ((0 : Nat) : Int) * 1 = lo := by simp
  have e2 : (((hi - lo).toNat : Nat) : Int) - ((0 : Nat) : Int) = Builtin.Range.rangeSize lo hi 1 := by rw [rangeSize_one]; split <;> omega
  show IsRangeIter _ _ (lo + ((0 : Nat) : Int) * 1) ((((hi - lo).toNat : Nat) : Int) - ((0 : Nat) : Int)) 1
  rw [e1, e2]
  exact Heap.get?_push_size _ rfl
 ·have e : b = (s.heap.push { cls := .type "range", data := .fields #[.int lo t, .int hi u, .int 1 v] }).objs.size := by simpa using hb
  subst e
  exact I1.fpOk (Nat.le_refl _) (I1.hok.fresh (Nat.le_refl _))
def ZOj (ta : TA) : TI := fun σ H R => ta σ H fun vs H1 => ∃ j : Int, vs = [.int j] ∧ -(2 ^ 62) ≤ j ∧ j < 2 ^ 62 ∧ R (Itr 0 j.toNat) H1
theorem ZPi {a : Expr} {ta : TA} {p pos : Pos} (hg : Gl X "range") (hm : X.mg "range" = none) (ha : PA X [a] ta) (hs : starEach [a] X.env = [(false, eval a X.env)] := by rfl) : PI X tg (.Call (.Name "range" p) [a] [] pos) (ZOj ta) := by
 intro pins s σ H R I h
 refine Call_ (ZHT I hg hm boot_range (PyProof.Rows.callWith_type1 (thn (ha pos pins s σ H _ I h) fun us s1 ⟨vs, H1, I1, r1, q1⟩ => ?_) hs rfl))
 obtain ⟨j, e, q1, q2, q⟩ := q1
 subst e
 cases r1 with
 | cons r rr =>
  cases rr
  obtain ⟨t, rfl⟩ := r
  exact call_range_1 (ZRM I1 (by omega) (by omega) q1 q2 (by simpa using q))
def ZRN (wi : TI) (g : TG) (tb : TS) : TS := fun D σ H => wi σ H fun J H1 => ∃ W : Nat → Nat → St → Hp → Prop, (∃ m, W 0 m σ H1) ∧ ∀ i m σ H, W i m σ H →
 (J.stop i H ∧ D.nx σ H) ∨ (J.go i H ∧ ∃ N : St → Hp → Prop, (∀ σ' H', N σ' H' → ∃ m', m' < m ∧ W (i + 1) m' σ' H') ∧ ∀ x H', J.yld i H x H' → g x σ H' fun σ2 H2 => tb { D with nx := N, ct := N, bk := D.nx } σ2 H2)
def ZJL (fp : List Addr) (h : Heap) : List (Addr × Obj) := fp.filterMap fun b => (h.get? b).map fun o => (b, o)
theorem ZHf {fp : List Addr} {h : Heap} {b : Addr} {o : Obj} (hb : b ∈ fp) (e : h.get? b = some o) : (b, o) ∈ ZJL fp h := List.mem_filterMap.mpr ⟨b, hb, by rw [e]; rfl⟩
theorem ZPj {fp : List Addr} {h : Heap} {p : Addr × Obj} (hp : p ∈ ZJL fp h) : p.1 ∈ fp ∧ h.get? p.1 = some p.2 := by
 obtain ⟨b, hb, e⟩ := List.mem_filterMap.mp hp
 cases q : h.get? b with
 | none => rw [q] at e; cases e
 | some o =>
  rw [q] at e
  have e' : (b, o) = p := Option.some.inj e
  subst e'
  exact ⟨hb, q⟩
theorem Inv.pinned {pins : List (Addr × Obj)} {σ : St} {H : Hp} {s : Shared} {fp : List Addr} (I : Inv X pins σ H s) (hf : ∀ b ∈ fp, ZFs X pins H b) (ho : ∀ b ∈ fp, ∃ o, s.heap.get? b = some o ∧ ∀ v, o.data ≠ .cell v) : Inv X (pins ++ ZJL fp s.heap) σ H s :=
 I.pins_of fun p hp => (List.mem_append.mp hp).elim (fun z => I.pin p (List.mem_append_right _ z)) fun z => by
  obtain ⟨hb, e⟩ := ZPj z
  obtain ⟨f0, f1, f2, _⟩ := hf p.1 hb
  obtain ⟨o, e', d⟩ := ho p.1 hb
  rw [e] at e'; cases e'
  exact ⟨e, f0, f1, f2, d⟩
theorem Inv.unpinned {pins pl : List (Addr × Obj)} {σ : St} {H : Hp} {s : Shared} (I : Inv X (pins ++ pl) σ H s) : Inv X pins σ H s := I.pins_of fun p hp => I.pin p (List.mem_append_right _ (List.mem_append_left _ hp))
theorem ZVZ {iter : Expr} {body : List Stmt} {wi : TI} {g : TG} {tb : TS} {pos : Pos} (hp : PassesOwn (model X.prog X.w) X.A X.env X.xe) (hc : X.calm = true) (hi : PI X tg iter wi) (hg : PG X tg g) (hb : PSs X body tb)
  (hs : ∀ x, foldedSetIterable iter X.env x = pure x := by intro _; rfl) : PS X (.For tg iter body [] pos) (ZRN wi g tb) := by
 intro pins s σ H D I h
 refine wpAny_For (thn (hi pins s σ H _ I h) fun v s1 h1 => thn h1 fun itv s2 h2 => ?_) hs
 obtain ⟨it, fp, tn, J, H2, e, I2, T, st2, f2, W, ⟨m0, w0⟩, turn⟩ := h2
 subst e
 -- what stays true of the iterator's objects through the loop
 have stat : ∀ {H' : Hp}, (∀ b ∈ fp, H' b = none) → ∀ b ∈ fp, ZFs X pins H' b := fun hn b hb => ⟨hn b hb, (f2 b hb).2⟩
 refine codeAny_forLoop_any (fun n s' => ∃ i σ' H', Inv X pins σ' H' s' ∧ tn i s'.heap ∧ (∀ b ∈ fp, H' b = none) ∧ W i n σ' H') ?_ m0 ⟨0, σ, H2, I2, st2, fun b hb => (f2 b hb).1, w0⟩
 rintro n s3 ⟨i, σ3, H3, I3, st3, fr3, w3⟩
 rcases turn i n σ3 H3 w3 with ⟨stop, qn⟩ | ⟨go, N, hN, step⟩
 ·refine wpAny_passesOwn hp (thn (T.done X rfl rfl rfl hc i pins s3 σ3 H3 X.xe I3 (stat fr3) st3 stop) fun r s4 ⟨hr, I4⟩ => ?_)
  subst hr
  exact wpAny_execs_nil ⟨σ3, H3, I4, qn⟩
 ·refine wpAny_passesOwn hp (thn (T.item X rfl rfl rfl hc i pins s3 σ3 H3 X.xe I3 (stat fr3) st3 go) fun r s4 ⟨u, hr, h4⟩ => ?_)
  subst hr
  refine wpAny_passesOwn hp (thn h4 fun _ s5 ⟨x, H5, I5, r5, y5, st5, fr5⟩ => ?_)
  have I5' := I5.pinned (stat fr5) (T.obj _ _ st5)
  refine wpAny_passesOwn hp (thn (hg _ s5 σ3 H5 x u _ I5' r5 (step x H5 y5)) fun _ s6 ⟨σ6, H6, I6, q6⟩ => ?_)
  refine wpAny_passesOwn hp (thn (hb _ s6 σ6 H6 _ I6 q6) fun f s7 q7 => ?_)
  have again : ∀ {σ7 : St} {H7 : Hp}, Inv X (pins ++ ZJL fp s5.heap) σ7 H7 s7 → N σ7 H7 → ∃ m, m < n ∧ ∃ i σ' H', Inv X pins σ' H' s7 ∧ tn i s7.heap ∧ (∀ b ∈ fp, H' b = none) ∧ W i m σ' H' := fun {σ7 H7} I7 n7 => by
   obtain ⟨m', hm, w7⟩ := hN σ7 H7 n7
   refine ⟨m', hm, i + 1, σ7, H7, I7.unpinned, T.keep _ _ _ st5 fun b hb o e => (I7.pin (b, o) (List.mem_append_right _ (List.mem_append_right _ (ZHf hb e)))).1, fun b hb => ?_, w7⟩
   obtain ⟨o, e, d⟩ := T.obj _ _ st5 b hb
   exact (I7.pin (b, o) (List.mem_append_right _ (List.mem_append_right _ (ZHf hb e)))).2.1
  cases f with
  | next => obtain ⟨σ7, H7, I7, n7⟩ := q7; exact again I7 n7
  | cont => obtain ⟨σ7, H7, I7, n7⟩ := q7; exact again I7 n7
  | brk => obtain ⟨σ7, H7, I7, q7⟩ := q7; exact ⟨σ7, H7, I7.unpinned, q7⟩
  | ret v => obtain ⟨x7, σ7, H7, I7, r7, q7⟩ := q7; exact ⟨x7, σ7, H7, I7.unpinned, r7, q7⟩
end
theorem ZRO {K : W.Frag} {a : Addr} {xs : List V} {g : TG} {tb : TS} {D : ZFH} {σ : St} {H : Hp} (Pv : Nat → St → Hp → Prop) (h0 : Pv 0 σ H) (hl : ∀ i σ H, i ≤ xs.length → Pv i σ H → SqL K H a xs)
  (hs : ∀ i x σ H, xs[i]? = some x → Pv i σ H → g x σ H fun σ2 H2 => tb { D with nx := Pv (i + 1), ct := Pv (i + 1), bk := D.nx } σ2 H2) (hd : ∀ σ H, Pv xs.length σ H → D.nx σ H) :
  ∃ W : Nat → Nat → St → Hp → Prop, (∃ m, W 0 m σ H) ∧ ∀ i m σ H, W i m σ H →
   ((Itl K a).stop i H ∧ D.nx σ H) ∨ ((Itl K a).go i H ∧ ∃ N : St → Hp → Prop, (∀ σ' H', N σ' H' → ∃ m', m' < m ∧ W (i + 1) m' σ' H') ∧ ∀ x H', (Itl K a).yld i H x H' → g x σ H' fun σ2 H2 => tb { D with nx := N, ct := N, bk := D.nx } σ2 H2) := by
 refine ⟨fun i m σ H => m = xs.length - i ∧ i ≤ xs.length ∧ Pv i σ H, ⟨xs.length, by simp, Nat.zero_le _, h0⟩, ?_⟩
 rintro i m σ H ⟨rfl, hi, p⟩
 have q := hl i σ H hi p
 by_cases hlt : i < xs.length
 ·refine .inr ⟨⟨xs, xs[i], q, by simp [hlt]⟩, Pv (i + 1), fun σ' H' p' => ⟨xs.length - (i + 1), by omega, rfl, hlt, p'⟩, fun x H' y => ?_⟩
  obtain ⟨e, y⟩ := y
  subst e
  exact hs i x σ _ (y xs q) p
 ·have e : i = xs.length := by omega
  subst e
  exact .inl ⟨⟨xs, q, Nat.le_refl _⟩, hd σ H p⟩
theorem ZTd {K : W.Frag} {a : Addr} {xs : List V} {g : TG} {tb : TS} {D : ZFH} {σ : St} {H : Hp} (Pv : Nat → St → Hp → Prop) (h0 : Pv 0 σ H) (hl : ∀ i σ H, i ≤ xs.length → Pv i σ H → SqT K H a xs)
  (hs : ∀ i x σ H, xs[i]? = some x → Pv i σ H → g x σ H fun σ2 H2 => tb { D with nx := Pv (i + 1), ct := Pv (i + 1), bk := D.nx } σ2 H2) (hd : ∀ σ H, Pv xs.length σ H → D.nx σ H) :
  ∃ W : Nat → Nat → St → Hp → Prop, (∃ m, W 0 m σ H) ∧ ∀ i m σ H, W i m σ H →
   ((Itt K a).stop i H ∧ D.nx σ H) ∨ ((Itt K a).go i H ∧ ∃ N : St → Hp → Prop, (∀ σ' H', N σ' H' → ∃ m', m' < m ∧ W (i + 1) m' σ' H') ∧ ∀ x H', (Itt K a).yld i H x H' → g x σ H' fun σ2 H2 => tb { D with nx := N, ct := N, bk := D.nx } σ2 H2) := by
 refine ⟨fun i m σ H => m = xs.length - i ∧ i ≤ xs.length ∧ Pv i σ H, ⟨xs.length, by simp, Nat.zero_le _, h0⟩, ?_⟩
 rintro i m σ H ⟨rfl, hi, p⟩
 have q := hl i σ H hi p
 by_cases hlt : i < xs.length
 ·refine .inr ⟨⟨xs, xs[i], q, by simp [hlt]⟩, Pv (i + 1), fun σ' H' p' => ⟨xs.length - (i + 1), by omega, rfl, hlt, p'⟩, fun x H' y => ?_⟩
  obtain ⟨e, y⟩ := y
  subst e
  exact hs i x σ _ (y xs q) p
 ·have e : i = xs.length := by omega
  subst e
  exact .inl ⟨⟨xs, q, Nat.le_refl _⟩, hd σ H p⟩
theorem ZPk {lo : Int} {n : Nat} {g : TG} {tb : TS} {D : ZFH} {σ : St} {H : Hp} (Pv : Nat → St → Hp → Prop) (h0 : Pv 0 σ H)
  (hs : ∀ i σ H, i < n → Pv i σ H → g (.int (lo + i)) σ H fun σ2 H2 => tb { D with nx := Pv (i + 1), ct := Pv (i + 1), bk := D.nx } σ2 H2) (hd : ∀ σ H, Pv n σ H → D.nx σ H) :
  ∃ W : Nat → Nat → St → Hp → Prop, (∃ m, W 0 m σ H) ∧ ∀ i m σ H, W i m σ H →
   ((Itr lo n).stop i H ∧ D.nx σ H) ∨ ((Itr lo n).go i H ∧ ∃ N : St → Hp → Prop, (∀ σ' H', N σ' H' → ∃ m', m' < m ∧ W (i + 1) m' σ' H') ∧ ∀ x H', (Itr lo n).yld i H x H' → g x σ H' fun σ2 H2 => tb { D with nx := N, ct := N, bk := D.nx } σ2 H2) := by
 refine ⟨fun i m σ H => m = n - i ∧ i ≤ n ∧ Pv i σ H, ⟨n, by simp, Nat.zero_le _, h0⟩, ?_⟩
 rintro i m σ H ⟨rfl, hi, p⟩
 by_cases hlt : i < n
 ·refine .inr ⟨hlt, Pv (i + 1), fun σ' H' p' => ⟨n - (i + 1), by omega, rfl, hlt, p'⟩, fun x H' y => ?_⟩
  obtain ⟨e, y⟩ := y
  subst e y
  exact hs i σ _ hlt p
 ·have e : i = n := by omega
  subst e
  exact .inl ⟨Nat.le_refl _, hd σ H p⟩
abbrev R2 := V → V → Hp → VK → Prop
def OpR (X : Cx) (f : Value → Value → Sem Value) (r : R2) : Prop :=
 ∀ (pins : List (Addr × Obj)) (s : Shared) (σ : St) (H : Hp) (x y : V) (v u : Value) (Q : VK), Inv X pins σ H s → ZEd x v → ZEd y u → r x y H Q →
  wpAny (model X.prog X.w) X.A (f v u) (EP X pins σ Q) X.xe s
def UnR (X : Cx) (f : Value → Sem Value) (r : V → Hp → VK → Prop) : Prop :=
 ∀ (pins : List (Addr × Obj)) (s : Shared) (σ : St) (H : Hp) (x : V) (v : Value) (Q : VK), Inv X pins σ H s → ZEd x v → r x H Q →
  wpAny (model X.prog X.w) X.A (f v) (EP X pins σ Q) X.xe s
def ZFK (X : Cx) (f : Value) (r : List V → Hp → VK → Prop) : Prop :=
 ∀ (pins : List (Addr × Obj)) (s : Shared) (σ : St) (H : Hp) (xs : List V) (us : List Value) (Q : VK), Inv X pins σ H s → ZEg xs us → r xs H Q →
  wpAny (model X.prog X.w) X.A (call f us) (EP X pins σ Q) X.xe s
def tOp (r : R2) (ta tb : TE) : TE := fun σ H Q => ta σ H fun x H1 => tb σ H1 fun y H2 => r x y H2 Q
def tUn (r : V → Hp → VK → Prop) (ta : TE) : TE := fun σ H Q => ta σ H fun x H1 => r x H1 Q
def rI (C : Int → Int → Prop) (g : Int → Int → V) : R2 := fun x y H Q => ∃ i j, x = .int i ∧ y = .int j ∧ C i j ∧ Q (g i j) H
def rI0 (g : Int → Int → V) : R2 := fun x y H Q => ∃ i j, x = .int i ∧ y = .int j ∧ Q (g i j) H
def rU (g : Int → V) : V → Hp → VK → Prop := fun x H Q => ∃ i, x = .int i ∧ Q (g i) H
section
variable {X : Cx} {a b c : Expr} {ta tb tc : TE} {pos : Pos}
theorem ZRP (ha : PE X a ta) (hb : PE X b tb) {pins : List (Addr × Obj)} {s : Shared} {σ : St} {H : Hp} {R : V → V → Hp → Prop} (I : Inv X pins σ H s)
  (h : ta σ H fun x H1 => tb σ H1 fun y H2 => R x y H2) {Q : Value → Shared → Prop} {f : Value → Value → Sem Value}
  (hf : ∀ v u s2 x y H2, Inv X pins σ H2 s2 → ZEd x v → ZEd y u → R x y H2 → wpAny (model X.prog X.w) X.A (f v u) Q X.xe s2) :
  wpAny (model X.prog X.w) X.A (eval a X.env) (fun v s₁ => wpAny (model X.prog X.w) X.A (eval b X.env) (fun u s₂ => wpAny (model X.prog X.w) X.A (f v u) Q X.xe s₂) X.xe s₁) X.xe s := by
 refine thn (ha pins s σ H _ I h) fun v s1 ⟨x, H1, I1, r1, q1⟩ => ?_
 refine thn (hb pins s1 σ H1 _ I1 q1) fun u s2 ⟨y, H2, I2, r2, q2⟩ => ?_
 exact hf v u s2 x y H2 I2 r1 r2 q2
theorem ZWr {op : Operator} {r : R2} (ho : OpR X (binaryOp op) r) (ha : PE X a ta) (hb : PE X b tb) : PE X (.BinOp a op b pos) (tOp r ta tb) := by
 intro pins s σ H Q I h
 exact wpAny_BinOp (ZRP ha hb I h fun v u s2 x y H2 I2 rx ry q => ho pins s2 σ H2 x y v u Q I2 rx ry q)
theorem ZWs {op : UnaryOp} {r : V → Hp → VK → Prop} (ho : UnR X (unaryOp op) r) (ha : PE X a ta) : PE X (.UnaryOp op a pos) (tUn r ta) := by
 intro pins s σ H Q I h
 exact UnaryOp_ (thn (ha pins s σ H _ I h) fun v s1 ⟨x, H1, I1, r1, q1⟩ => ho pins s1 σ H1 x v Q I1 r1 q1)
theorem opI {f : Value → Value → Sem Value} {C : Int → Int → Prop} {g : Int → Int → Int}
  (rule : ∀ (i j : Int) (t u : Tok) (s : Shared) (Q : Value → Shared → Prop) (E : Value → Shared → Prop), C i j → Q (.int (g i j) s.toks) { s with toks := s.toks + 1 } → wpAny (model X.prog X.w) X.A (f (.int i t) (.int j u)) Q E s) :
  OpR X f (rI C fun i j => .int (g i j)) := by
 intro pins s σ H x y v u Q I rx ry h
 obtain ⟨i, j, rfl, rfl, hc, q⟩ := h
 obtain ⟨t, rfl⟩ := rx
 obtain ⟨t', rfl⟩ := ry
 exact rule i j t t' s _ _ hc ⟨.int (g i j), H, I.tok _, ⟨_, rfl⟩, q⟩
theorem ZRQ {f : Value → Value → Sem Value} {g : Int → Int → Int}
  (rule : ∀ (i j : Int) (t u : Tok) (s : Shared) (Q : Value → Shared → Prop) (E : Value → Shared → Prop), Q (.int (g i j) s.toks) { s with toks := s.toks + 1 } → wpAny (model X.prog X.w) X.A (f (.int i t) (.int j u)) Q E s) :
  OpR X f (rI0 fun i j => .int (g i j)) := by
 intro pins s σ H x y v u Q I rx ry h
 obtain ⟨i, j, rfl, rfl, q⟩ := h
 obtain ⟨t, rfl⟩ := rx
 obtain ⟨t', rfl⟩ := ry
 exact rule i j t t' s _ _ ⟨.int (g i j), H, I.tok _, ⟨_, rfl⟩, q⟩
theorem ZOk {f : Value → Value → Sem Value} {g : Int → Int → Bool}
  (rule : ∀ (i j : Int) (t u : Tok) (s : Shared) (Q : Value → Shared → Prop) (E : Value → Shared → Prop), Q (.bool (g i j)) s → wpAny (model X.prog X.w) X.A (f (.int i t) (.int j u)) Q E s) :
  OpR X f (rI0 fun i j => .bl (g i j)) := by
 intro pins s σ H x y v u Q I rx ry h
 obtain ⟨i, j, rfl, rfl, q⟩ := h
 obtain ⟨t, rfl⟩ := rx
 obtain ⟨t', rfl⟩ := ry
 exact rule i j t t' s _ _ ⟨.bl (g i j), H, I, rfl, q⟩
def ZRR (i j : Int) : Prop := 0 ≤ j ∧ j ≤ 1000000 ∧ i.natAbs < 2 ^ 64
def ZRS (i j : Int) : Prop := (-(2 ^ 64) < i ∧ i < 2 ^ 64) ∨ (-(2 ^ 64) < j ∧ j < 2 ^ 64)
theorem ZRS.ok {i j : Int} (h : ZRS i j) : IntMulOk i j := by
 rcases h with ⟨h1, h2⟩ | ⟨h1, h2⟩
 ·exact .of_left (intBits_le_64 h1 h2)
 ·exact .of_right (intBits_le_64 h1 h2)
theorem ZEq : OpR X (binaryOp .Add) (rI0 fun i j => .int (i + j)) := ZRQ fun _ _ _ _ _ _ _ q => add_int q
theorem ZFP : OpR X (binaryOp .Sub) (rI0 fun i j => .int (i - j)) := ZRQ fun _ _ _ _ _ _ _ q => sub_int q
theorem ZGg : OpR X (binaryOp .Mod) (rI (fun _ j => 0 < j) fun i j => .int (i % j)) := opI fun i j _ _ _ _ _ hc q => by
 have h1 : (0 : Int) < j := hc
 exact mod_int' (by omega) (by rw [Int.fmod_eq_emod_of_nonneg i (by omega)]; exact q)
theorem ZFT : OpR X (binaryOp .Pow) (rI ZRR fun i j => .int (i ^ j.toNat)) := opI fun _ _ _ _ _ _ _ hc q => pow_int_small hc.1 hc.2.1 hc.2.2 q
theorem ZLQ : OpR X (inplaceOp .Add) (rI0 fun i j => .int (i + j)) := ZRQ fun _ _ _ _ _ _ _ q => iadd_int q
theorem ZTe : OpR X (inplaceOp .Mult) (rI ZRS fun i j => .int (i * j)) := opI fun _ _ _ _ _ _ _ hc q => imul_int q hc.ok
theorem unI {f : Value → Sem Value} {g : Int → Int}
  (rule : ∀ (i : Int) (t : Tok) (s : Shared) (Q : Value → Shared → Prop) (E : Value → Shared → Prop), Q (.int (g i) s.toks) { s with toks := s.toks + 1 } → wpAny (model X.prog X.w) X.A (f (.int i t)) Q E s) :
  UnR X f (rU fun i => .int (g i)) := by
 intro pins s σ H x v Q I rx h
 obtain ⟨i, rfl, q⟩ := h
 obtain ⟨t, rfl⟩ := rx
 exact rule i t s _ _ ⟨.int (g i), H, I.tok _, ⟨_, rfl⟩, q⟩
theorem ZGv : UnR X (unaryOp .USub) (rU fun i => .int (-i)) := unI fun _ _ _ _ _ q => neg_int q
end
def ZVa : V → V → Bool
 | .non, .non => true | .non, .int _ => true | .int _, .non => true | .non, .bl _ => true | .bl _, .non => true | .non, .str _ => true | .str _, .non => true
 | .int _, .int _ => true | .bl _, .bl _ => true | .str _, .str _ => true | .byt _, .byt _ => true
 | .int _, .str _ => true | .str _, .int _ => true | .bl _, .str _ => true | .str _, .bl _ => true
 | _, _ => false
def rEq : R2 := fun x y H Q => ZVa x y = true ∧ Q (.bl (decide (x = y))) H
def rNe : R2 := fun x y H Q => ZVa x y = true ∧ Q (.bl (!decide (x = y))) H
theorem ZOE {i j : Int} : decide (V.int i = V.int j) = (i == j) := by
 rw [Bool.eq_iff_iff]
 simp
theorem ZPl {i j : Bool} : decide (V.bl i = V.bl j) = (i == j) := by
 rw [Bool.eq_iff_iff]
 simp
theorem ZOF {i j : Str} : decide (V.str i = V.str j) = (i == j) := by
 rw [Bool.eq_iff_iff]
 simp
theorem ZOG {i j : Array UInt8} : decide (V.byt i = V.byt j) = (i.toList == j.toList) := by
 rw [Bool.eq_iff_iff]
 cases i
 cases j
 simp
section
variable {X : Cx} {a b c : Expr} {ta tb tc : TE} {pos : Pos}
theorem ZEy {pins : List (Addr × Obj)} {σ : St} {H : Hp} {s : Shared} {Q : VK} {k k' : Bool} (I : Inv X pins σ H s) (q : Q (.bl k) H) (e : k = k') : EP X pins σ Q (.bool k') s := by
 subst e
 exact ⟨.bl k, H, I, rfl, q⟩
theorem ZE7 : OpR X (compareOp .Eq) rEq := by
 intro pins s σ H x y v u Q I rx ry h
 obtain ⟨hs, q⟩ := h
 cases x with
 | non =>
  cases rx
  cases y with
  | non => cases ry; exact PySem.EqNone.eq_none_none (ZEy I q (by simp))
  | bl j => cases ry; exact PySem.EqNone.eq_none_bool (ZEy I q (by simp))
  | int j => obtain ⟨t', rfl⟩ := ry; exact PySem.EqNone.eq_none_int (ZEy I q (by simp))
  | str j => obtain ⟨t', rfl⟩ := ry; exact PySem.EqNone.eq_none_str (ZEy I q (by simp))
  | _ => exact absurd (show false = true from hs) Bool.false_ne_true
 | bl i =>
  cases rx
  cases y with
  | non => cases ry; exact PySem.EqNone.eq_bool_none (ZEy I q (by simp))
  | bl j => cases ry; exact eq_bool (ZEy I q ZPl)
  | str j => obtain ⟨t', rfl⟩ := ry; exact PySem.EqMixed.eq_bool_str (ZEy I q (by simp))
  | _ => exact absurd (show false = true from hs) Bool.false_ne_true
 | int i =>
  obtain ⟨t, rfl⟩ := rx
  cases y with
  | non => cases ry; exact PySem.EqNone.eq_int_none (ZEy I q (by simp))
  | int j => obtain ⟨t', rfl⟩ := ry; exact eq_int (ZEy I q ZOE)
  | str j => obtain ⟨t', rfl⟩ := ry; exact PySem.EqMixed.eq_int_str (ZEy I q (by simp))
  | _ => exact absurd (show false = true from hs) Bool.false_ne_true
 | str i =>
  obtain ⟨t, rfl⟩ := rx
  cases y with
  | non => cases ry; exact PySem.EqNone.eq_str_none (ZEy I q (by simp))
  | bl j => cases ry; exact PySem.EqMixed.eq_str_bool (ZEy I q (by simp))
  | int j => obtain ⟨t', rfl⟩ := ry; exact PySem.EqMixed.eq_str_int (ZEy I q (by simp))
  | str j => obtain ⟨t', rfl⟩ := ry; exact eq_str (ZEy I q ZOF)
  | _ => exact absurd (show false = true from hs) Bool.false_ne_true
 | byt i =>
  obtain ⟨t, rfl⟩ := rx
  cases y with
  | byt j => obtain ⟨t', rfl⟩ := ry; exact PySem.W.eq_bytes (ZEy I q ZOG)
  | _ => exact absurd (show false = true from hs) Bool.false_ne_true
 | _ => cases y <;> exact absurd (show false = true from hs) Bool.false_ne_true
theorem ZJo : OpR X (compareOp .NotEq) rNe := by
 intro pins s σ H x y v u Q I rx ry h
 obtain ⟨hs, q⟩ := h
 cases x with
 | non =>
  cases rx
  cases y with
  | non => cases ry; exact PySem.EqNone.ne_none_none (ZEy I q (by simp))
  | bl j => cases ry; exact PySem.EqNone.ne_none_bool (ZEy I q (by simp))
  | int j => obtain ⟨t', rfl⟩ := ry; exact PySem.EqNone.ne_none_int (ZEy I q (by simp))
  | str j => obtain ⟨t', rfl⟩ := ry; exact PySem.EqNone.ne_none_str (ZEy I q (by simp))
  | _ => exact absurd (show false = true from hs) Bool.false_ne_true
 | bl i =>
  cases rx
  cases y with
  | non => cases ry; exact PySem.EqNone.ne_bool_none (ZEy I q (by simp))
  | bl j => cases ry; exact ne_bool (ZEy I q (congrArg not ZPl))
  | str j => obtain ⟨t', rfl⟩ := ry; exact PySem.EqMixed.ne_bool_str (ZEy I q (by simp))
  | _ => exact absurd (show false = true from hs) Bool.false_ne_true
 | int i =>
  obtain ⟨t, rfl⟩ := rx
  cases y with
  | non => cases ry; exact PySem.EqNone.ne_int_none (ZEy I q (by simp))
  | int j => obtain ⟨t', rfl⟩ := ry; exact ne_int (ZEy I q (congrArg not ZOE))
  | str j => obtain ⟨t', rfl⟩ := ry; exact PySem.EqMixed.ne_int_str (ZEy I q (by simp))
  | _ => exact absurd (show false = true from hs) Bool.false_ne_true
 | str i =>
  obtain ⟨t, rfl⟩ := rx
  cases y with
  | non => cases ry; exact PySem.EqNone.ne_str_none (ZEy I q (by simp))
  | bl j => cases ry; exact PySem.EqMixed.ne_str_bool (ZEy I q (by simp))
  | int j => obtain ⟨t', rfl⟩ := ry; exact PySem.EqMixed.ne_str_int (ZEy I q (by simp))
  | str j => obtain ⟨t', rfl⟩ := ry; exact ne_str (ZEy I q (congrArg not ZOF))
  | _ => exact absurd (show false = true from hs) Bool.false_ne_true
 | byt i =>
  obtain ⟨t, rfl⟩ := rx
  cases y with
  | byt j => obtain ⟨t', rfl⟩ := ry; exact PySem.W.ne_bytes (ZEy I q (congrArg not ZOG))
  | _ => exact absurd (show false = true from hs) Bool.false_ne_true
 | _ => cases y <;> exact absurd (show false = true from hs) Bool.false_ne_true
theorem ZKm : OpR X (compareOp .Lt) (rI0 fun i j => .bl (decide (i < j))) := ZOk fun _ _ _ _ _ _ _ q => lt_int q
theorem ZH8 : OpR X (compareOp .LtE) (rI0 fun i j => .bl (decide (i ≤ j))) := ZOk fun _ _ _ _ _ _ _ q => le_int q
theorem ZTA : OpR X (compareOp .Gt) (rI0 fun i j => .bl (decide (j < i))) := ZOk fun _ _ _ _ _ _ _ q => gt_int q
theorem ZTB : OpR X (compareOp .GtE) (rI0 fun i j => .bl (decide (j ≤ i))) := ZOk fun _ _ _ _ _ _ _ q => ge_int q
theorem ZVb : OpR X (compareOp .Is) (fun x y H Q => y = .non ∧ Q (.bl (decide (x = .non))) H) := by
 intro pins s σ H x y v u Q I rx ry h
 obtain ⟨rfl, q⟩ := h
 cases ry
 refine is_none_gen (ZEy I q ?_)
 cases x <;> first
  | (cases rx; rfl)
  | (obtain ⟨t, rfl⟩ := rx; rfl)
theorem ZTf : OpR X (compareOp .IsNot) (fun x y H Q => y = .non ∧ Q (.bl (!decide (x = .non))) H) := by
 intro pins s σ H x y v u Q I rx ry h
 obtain ⟨rfl, q⟩ := h
 cases ry
 refine isnot_none_gen (ZEy I q ?_)
 cases x <;> first
  | (cases rx; rfl)
  | (obtain ⟨t, rfl⟩ := rx; rfl)
theorem ZEc (b : Expr) {op : CmpOp} (h : op ≠ .In := by decide) (h2 : op ≠ .NotIn := by decide) : behindInMarks op b = false := by
 have e1 : (op == CmpOp.In) = false := by cases op <;> first | rfl | exact absurd rfl h
 have e2 : (op == CmpOp.NotIn) = false := by cases op <;> first | rfl | exact absurd rfl h2
 cases b <;> simp [behindInMarks, e1, e2]
theorem ZTg {op : CmpOp} {r : R2} (ho : OpR X (compareOp op) r) (ha : PE X a ta) (hb : PE X b tb) (hm : behindInMarks op b = false) : PE X (.Compare a [op] [b] pos) (tOp r ta tb) := by
 intro pins s σ H Q I h
 exact wpAny_Compare1 (ZRP ha hb I h fun v u s2 x y H2 I2 rx ry q => ho pins s2 σ H2 x y v u Q I2 rx ry q) hm
def ZKn (t : TE) : TT := fun σ H Q => t σ H fun x H' => ∃ k, x = .bl k ∧ Q k H'
theorem ZTh {op : CmpOp} {r : R2} (ho : OpR X (compareOp op) r) (ha : PE X a ta) (hb : PE X b tb) (hm : behindInMarks op b = false) : PT X (.Compare a [op] [b] pos) (ZKn (tOp r ta tb)) := by
 intro pins s σ H Q I h
 refine wpAny_isTrue_Compare1 (thn (ha pins s σ H _ I h) fun v s1 ⟨x, H1, I1, r1, q1⟩ => thn (hb pins s1 σ H1 _ I1 q1) fun u s2 ⟨y, H2, I2, r2, q2⟩ =>
  thn (ho pins s2 σ H2 x y v u _ I2 r1 r2 q2) fun c s3 ⟨z, H3, I3, r3, k, e, q3⟩ => ?_) hm
 subst e
 cases r3
 exact wpAny_truthy_bool ⟨H3, I3, q3⟩
def ZJM (r r' : R2) (ta tb tc : TE) : TE := fun σ H Q => ta σ H fun x H1 => tb σ H1 fun y H2 => r x y H2 fun z H3 => ∃ k, z = .bl k ∧
 (if k = true then tc σ H3 fun w' H4 => r' y w' H4 Q else Q (.bl false) H3)
theorem ZRT {op op' : CmpOp} {r r' : R2} (ho : OpR X (compareOp op) r) (ho' : OpR X (compareOp op') r') (ha : PE X a ta) (hb : PE X b tb) (hc : PE X c tc)
  (hm : lastMarks [op, op'] [b, c] = false := by with_unfolding_all rfl) : PE X (.Compare a [op, op'] [b, c] pos) (ZJM r r' ta tb tc) := by
 intro pins s σ H Q I h
 refine Compare_chain (thn (ha pins s σ H _ I h) fun v s1 ⟨x, H1, I1, r1, q1⟩ => chain_link (thn (hb pins s1 σ H1 _ I1 q1) fun u s2 ⟨y, H2, I2, r2, q2⟩ =>
  thn (ho pins s2 σ H2 x y v u _ I2 r1 r2 q2) fun d s3 ⟨z, H3, I3, r3, k, e, q3⟩ => ?_)) hm
 subst e
 cases r3
 refine wpAny_truthy_bool ?_
 cases k with
 | false => exact ite_ff ⟨.bl false, H3, I3, rfl, q3⟩
 | true => exact ite_tt (chain_last (thn (hc pins s3 σ H3 _ I3 q3) fun w' s4 ⟨z', H4, I4, r4, q4⟩ => ho' pins s4 σ H4 y z' u w' Q I4 r2 r4 q4))
theorem ZRU {op op' : CmpOp} {r r' : R2} (ho : OpR X (compareOp op) r) (ho' : OpR X (compareOp op') r') (ha : PE X a ta) (hb : PE X b tb) (hc : PE X c tc)
  (hm : lastMarks [op, op'] [b, c] = false := by with_unfolding_all rfl) : PT X (.Compare a [op, op'] [b, c] pos) (ZKn (ZJM r r' ta tb tc)) := by
 intro pins s σ H Q I h
 refine isTrue_chain (thn (ha pins s σ H _ I h) fun v s1 ⟨x, H1, I1, r1, q1⟩ => test_link (thn (hb pins s1 σ H1 _ I1 q1) fun u s2 ⟨y, H2, I2, r2, q2⟩ =>
  thn (ho pins s2 σ H2 x y v u _ I2 r1 r2 q2) fun d s3 ⟨z, H3, I3, r3, k, e, q3⟩ => ?_)) hm
 subst e
 cases r3
 refine wpAny_truthy_bool ?_
 cases k with
 | false =>
  obtain ⟨k', e', q'⟩ := q3
  cases e'
  exact ite_ff ⟨H3, I3, q'⟩
 | true =>
  refine ite_tt (test_last (thn (hc pins s3 σ H3 _ I3 q3) fun w' s4 ⟨z', H4, I4, r4, q4⟩ => thn (ho' pins s4 σ H4 y z' u w' _ I4 r2 r4 q4) fun d' s5 ⟨z2, H5, I5, r5, k2, e2, q5⟩ => ?_))
  subst e2
  cases r5
  exact wpAny_truthy_bool ⟨H5, I5, q5⟩
theorem ZKo : (sizeLine : Nat) < 2 ^ 63 := by rw [sizeLine_eq]; decide
theorem ZOl {x : V} {us : List Value} (r : ZEg [x] us) : ∃ u, us = [u] ∧ ZEd x u := by
 cases r with
 | cons r1 r2 => cases r2; exact ⟨_, rfl, r1⟩
theorem ZOm {x y : V} {us : List Value} (r : ZEg [x, y] us) : ∃ u w', us = [u, w'] ∧ ZEd x u ∧ ZEd y w' := by
 cases r with
 | cons r1 r2 =>
  cases r2 with
  | cons r3 r4 => cases r4; exact ⟨_, _, rfl, r1, r3⟩
theorem ZRV : ZFK X (.builtin "abs") (fun xs H Q => ∃ i, xs = [.int i] ∧ Q (.int (if i < 0 then -i else i)) H) := by
 intro pins s σ H xs us Q I r h
 obtain ⟨i, rfl, q⟩ := h
 obtain ⟨u, rfl, t, rfl⟩ := ZOl r
 exact call_abs_int fun u tk => ⟨.int (if i < 0 then -i else i), H, I.tok _, ⟨_, rfl⟩, q⟩
theorem ZPm (hc : X.calm = true) : ZFK X (.builtin "max") (fun xs H Q => ∃ i j, xs = [.int i, .int j] ∧ Q (.int (if j > i then j else i)) H) := by
 intro pins s σ H xs us Q I r h
 obtain ⟨i, j, rfl, q⟩ := h
 obtain ⟨u, w', rfl, ⟨t, rfl⟩, ⟨t', rfl⟩⟩ := ZOm r
 refine max_two_ints (I.ok.hd hc) fun h' tk k => ⟨_, H, I.kept k, ?_, q⟩
 by_cases hj : j > i
 ·rw [if_pos hj, if_pos hj]; exact ⟨_, rfl⟩
 ·rw [if_neg hj, if_neg hj]; exact ⟨_, rfl⟩
theorem ZPn (hc : X.calm = true) : ZFK X (.builtin "min") (fun xs H Q => ∃ i j, xs = [.int i, .int j] ∧ Q (.int (if j < i then j else i)) H) := by
 intro pins s σ H xs us Q I r h
 obtain ⟨i, j, rfl, q⟩ := h
 obtain ⟨u, w', rfl, ⟨t, rfl⟩, ⟨t', rfl⟩⟩ := ZOm r
 refine min_two_ints (I.ok.hd hc) fun h' tk k => ⟨_, H, I.kept k, ?_, q⟩
 by_cases hj : j < i
 ·rw [if_pos hj, if_pos hj]; exact ⟨_, rfl⟩
 ·rw [if_neg hj, if_neg hj]; exact ⟨_, rfl⟩
end
structure ZKJ (h : Heap) (x dx C : Addr) (mA : Str → Option Value) : Prop where
 obj : h.get? x = some (PySem.W.instObj C dx)
 ns : h.Ns1 dx mA
 ne : dx ≠ x
theorem ZPo {h : Heap} {dx : Addr} {mA : Str → Option Value} (n : h.Ns1 dx mA) : ∃ od, h.get? dx = some od ∧ ∀ name, PySem.W.lookIn name od = some (mA name) := by
 obtain ⟨o, es, ep, ho, hd, hk, _, hm⟩ := n
 refine ⟨o, ho, fun name => ?_⟩
 have e := hm name
 unfold nsFind findBy at e
 rw [← Array.find?_toList] at e
 unfold PySem.W.lookIn
 rw [hd]
 dsimp only
 split
 ·rename_i y q
  rw [q] at e
  exact congrArg some e
 ·rename_i q
  rw [q] at e
  have a : es.toList.any (·.refKey) = false := by
   rw [List.any_eq_false]
   intro y hy
   obtain ⟨z, t, hkey⟩ := hk y (Array.mem_toList_iff.mp hy)
   simp [DictEntry.refKey, hkey]
  have a' : ¬ es.toList.any (·.refKey) = true := by rw [a]; exact Bool.false_ne_true
  rw [if_neg a']
  exact congrArg some e
theorem ZKJ.look {h : Heap} {x dx C : Addr} {mA : Str → Option Value} (I : ZKJ h x dx C mA) : ∃ od, PySem.W.InstAt h x (PySem.W.instObj C dx) C (some od) ∧ ∀ name, PySem.W.lookIn name od = some (mA name) :=
 let ⟨od, ho, hl⟩ := ZPo I.ns
 ⟨od, ⟨I.obj, rfl, rfl, ho⟩, hl⟩
section
variable {prog : Program} {w : World} {A : Around} {E : Value → Shared → Prop} {s : Shared} {K : W.Frag} {x dx C f : Addr} {mA : Str → Option Value} {name : Str} {v : Value}
theorem ZTi {expr : Bool} {Q : Value → Shared → Prop} (X : K.In s.heap) (I : ZKJ s.heap x dx C mA) (hg : PySem.W.plainGet K C name = true) (hh : PySem.W.hasDictIn K C = true)
  (ha : W.findIn K (.ref C) name = some none) (hv : mA name = some v) (hv' : PySem.W.handedIn v = true) (h : Q v { s with toks := s.toks + 1 }) :
  wpAny (model prog w) A (getAttr (.ref x) name expr) Q E s := by
 obtain ⟨od, J, hl⟩ := I.look
 exact PySem.W.get_value X J (PySem.W.plainGet_of hg).1 (PySem.W.findObj_own hh ha rfl (by rw [hl, hv])) hv' h
theorem ZRW {pl : Sem Bool} {Q : Value × List Value → Shared → Prop} (X : K.In s.heap) (I : ZKJ s.heap x dx C mA) (hg : PySem.W.plainGet K C name = true)
  (hf : W.findIn K (.ref C) name = some (some (.ref f))) (ht : PySem.W.isFn K (.ref f) = true) (hv : mA name = none) (h : Q (.ref f, [.ref x]) s) :
  wpAny (model prog w) A (getMethod (.ref x) name pl) Q E s := by
 obtain ⟨od, J, hl⟩ := I.look
 exact PySem.W.method_fn X J (PySem.W.plainGet_of hg).1 (PySem.W.plainGet_of hg).2 hf (beq_iff_eq.mp ht) (by show (PySem.W.lookIn name od).map (·.isSome) = some false; rw [hl, hv]; rfl) h
theorem ZTj {ns : List Str} {Q : Unit → Shared → Prop} (X : K.In s.heap) (I : ZKJ s.heap x dx C mA)
  (hs : W.findIn K (.ref C) "__setattr__" = some (some (.builtin "object.__setattr__"))) (hp : PySem.W.plainOver K C = true) (ht : PySem.W.takerIn K C name = some none) (hh : PySem.W.hasDictIn K C = true)
  (hw : PySem.Within mA ns) (hsz : ns.length ≤ sizeLine)
  (h : ∀ h', ZKJ h' x dx C (fun y => if y = name then some v else mA y) → Heap.SameBut dx s.heap h' → Q () { s with heap := h', toks := s.toks + 2 }) :
  wpAny (model prog w) A (setAttr (.ref x) name v) Q E s := by
 obtain ⟨od, J, hl⟩ := I.look
 refine PySem.W.set_plain X J hs (PySem.W.osa_open (s := { s with toks := s.toks + 1 }) (r := none) X J hp ht fun b => ?_)
 obtain ⟨cd, hc, hd'⟩ := PySem.W.any_some hh
 have hx : s.heap.get? x = some ⟨.ref C, some dx, .plain, #[]⟩ := I.obj
 refine wpAny_bind (wpAny_pure (wpAny_bind (wpAny_bind (wpAny_loadPart hx (wpAny_bind (PySem.W.Looks.here (s := { s with toks := s.toks + 1 }) (PySem.W.looks_clsIn X hc) ?_))))))
 rw [hd']
 refine wpAny_pure (a := some dx) (wpAny_bind (wpAny_pure (wpAny_bind ?_)))
 refine wpAny_nsSet1 (s := { s with toks := s.toks + 1 }) I.ns fun h' hn2 hs2 => ?_
 obtain ⟨oD, esD, epD, hoD, hdD, hcD⟩ := hn2.count (PySem.Within.cons name v hw)
 refine wpAny_bind (wpAny_lookBehind hoD (by rw [hdD]; exact pastItsLine_dict (Nat.le_trans hcD (by rw [List.length_cons]; omega))) ?_)
 exact wpAny_pure (h _ ⟨(hs2.2 _ (Ne.symm I.ne)).trans I.obj, hn2, I.ne⟩ hs2)
theorem ZMf {R : Result → Shared → Prop} {vs : List Value} {kw : List (Str × Value)} (X : K.In s.heap) (hm : PySem.W.makesIn K C = true)
  (hi : W.findIn K (.ref C) "__init__" = some (some (.ref f))) (hf : PySem.W.typeIn K (.ref f) = some (.type "function"))
  (h : codeAny (model prog w) (A.under (.builtin "type.__call__" ⟨.ref C :: vs, kw⟩)) (.call (.ref f) ⟨.ref (s.heap.objs.size + 1) :: vs, kw⟩) (PySem.W.InitBack (s.heap.objs.size + 1) R)
   { s with heap := (s.heap.push PySem.W.emptyDict).push (PySem.W.instObj C s.heap.objs.size) }) :
  codeAny (model prog w) A (.call (.ref C) ⟨vs, kw⟩) R s := by
 obtain ⟨hh, g, d, t, os⟩ := s
 exact PySem.W.make_core (PySem.W.makes_of X hm) (PySem.W.looks_findIn X hi) (fun self => PySem.W.bind_fn X self hf) (.inl rfl) h
end
def ZEr (f : Str) (v : V) : List (Str × V) → List (Str × V)
 | [] => [(f, v)]
 | (g, x) :: r => if g = f then (g, v) :: r else (g, x) :: ZEr f v r
theorem ZJ5 (f g : Str) (v : V) : ∀ fs : List (Str × V), (ZEr f v fs).lookup g = if g = f then some v else fs.lookup g
 | [] => by
  show List.lookup g [(f, v)] = _
  by_cases h : g = f
  ·have hb : (g == f) = true := beq_iff_eq.mpr h
   simp only [List.lookup, hb, if_pos h]
  ·have hb : (g == f) = false := beq_eq_false_iff_ne.mpr h
   simp only [List.lookup, hb, if_neg h]
 | (k, x) :: r => by
  have ih := ZJ5 f g v r
  rw [show ZEr f v ((k, x) :: r) = (if k = f then (k, v) :: r else (k, x) :: ZEr f v r) from rfl]
  by_cases hk : k = f
  ·rw [if_pos hk]
   by_cases h : g = k
   ·have hb : (g == k) = true := beq_iff_eq.mpr h
    simp only [List.lookup, hb, if_pos (h.trans hk)]
   ·have hb : (g == k) = false := beq_eq_false_iff_ne.mpr h
    simp only [List.lookup, hb, if_neg (fun e : g = f => h (e.trans hk.symm))]
  ·rw [if_neg hk]
   by_cases h : g = k
   ·have hb : (g == k) = true := beq_iff_eq.mpr h
    simp only [List.lookup, hb, if_neg (fun e : g = f => hk (h.symm.trans e))]
   ·have hb : (g == k) = false := beq_eq_false_iff_ne.mpr h
    simp only [List.lookup, hb]
    exact ih
theorem ZJN (f : Str) (v : V) : ∀ fs : List (Str × V), f ∈ (ZEr f v fs).map (·.1) ∧ ∀ g, g ∈ fs.map (·.1) → g ∈ (ZEr f v fs).map (·.1)
 | [] => ⟨by simp [ZEr], fun g h => by simp at h⟩
 | (k, x) :: r => by
  obtain ⟨i1, i2⟩ := ZJN f v r
  rw [show ZEr f v ((k, x) :: r) = (if k = f then (k, v) :: r else (k, x) :: ZEr f v r) from rfl]
  by_cases hk : k = f
  ·rw [if_pos hk]
   subst hk
   exact ⟨by simp, fun g h => by simpa using h⟩
  ·rw [if_neg hk]
   refine ⟨?_, fun g h => ?_⟩
   ·rw [List.map_cons]
    exact List.mem_cons_of_mem _ i1
   ·rw [List.map_cons] at h ⊢
    rcases List.mem_cons.mp h with e | e
    ·exact List.mem_cons.mpr (.inl e)
    ·exact List.mem_cons_of_mem _ (i2 g e)
theorem ZJ6 (f : Str) (v : V) : ∀ fs : List (Str × V), (ZEr f v fs).length ≤ fs.length + 1
 | [] => by simp [ZEr]
 | (k, x) :: r => by
  have ih := ZJ6 f v r
  rw [show ZEr f v ((k, x) :: r) = (if k = f then (k, v) :: r else (k, x) :: ZEr f v r) from rfl]
  by_cases hk : k = f
  ·rw [if_pos hk, List.length_cons, List.length_cons]; omega
  ·rw [if_neg hk, List.length_cons, List.length_cons]; omega
theorem ZGT.some_of {v : V} {o : Option Value} (r : ZGT (some v) o) : ∃ u, o = some u ∧ ZEd v u := by
 cases o with
 | none => exact (show False from r).elim
 | some u => exact ⟨u, rfl, r⟩
theorem ZGT.none_of {o : Option Value} (r : ZGT none o) : o = none := by
 cases o with
 | none => rfl
 | some u => exact (show False from r).elim
theorem ZPp {v : V} {u : Value} (r : ZEd v u) : PySem.W.handedIn u = true := by
 cases v with
 | non => cases (show u = Value.none from r); rfl
 | bl b => cases (show u = Value.bool b from r); rfl
 | int i => obtain ⟨t, e⟩ := (show ∃ t, u = Value.int i t from r); cases e; rfl
 | str x => obtain ⟨t, e⟩ := (show ∃ t, u = Value.str x t from r); cases e; rfl
 | byt b => obtain ⟨t, e⟩ := (show ∃ t, u = Value.bytes b t from r); cases e; rfl
 | flt b => obtain ⟨t, e⟩ := (show ∃ t, u = Value.float b t from r); cases e; rfl
 | ref a => cases (show u = Value.ref a from r); rfl
 | ty n => cases (show u = Value.type n from r); rfl
section
variable {P : Program} {w : World} {H H' : Hp} {h h' : Heap} {a C dx : Addr} {fs fs' : List (Str × V)}
theorem ZJp (hok : HOk P w H h) (e : H a = some (.ins C dx fs)) : ∃ mA, ZKJ h a dx C mA ∧ (∀ f, ZGT (fs.lookup f) (mA f)) ∧ PySem.Within mA (fs.map (·.1)) ∧ fs.length ≤ 1000 ∧ H dx = some (.own a) := by
 obtain ⟨d, z, ne, ob, mA, n, r, q⟩ := (show ZE3 P w H h a (.ins C dx fs) from hok a _ e)
 exact ⟨mA, ⟨ob, n, ne⟩, r, q, z, d⟩
end
structure Cls (K : W.Frag) (C : Addr) : Prop where
 pg : PySem.W.plainGet K C Str.empty = true
 hd : PySem.W.hasDictIn K C = true
 po : PySem.W.plainOver K C = true
 sa : W.findIn K (.ref C) "__setattr__" = some (some (.builtin "object.__setattr__"))
theorem Cls.get {K : W.Frag} {C : Addr} (c : Cls K C) (f : Str) : PySem.W.plainGet K C f = true := c.pg
def ZFB (K : W.Frag) (C : Addr) (f : Str) : Prop := W.findIn K (.ref C) f = some none
theorem ZFB.taker {K : W.Frag} {C : Addr} {f : Str} (n : ZFB K C f) : PySem.W.takerIn K C f = some none := by
 unfold PySem.W.takerIn
 rw [show W.findIn K (.ref C) f = some none from n]
 rfl
structure ZFX (K : W.Frag) (C : Addr) (m : Str) (f : Addr) : Prop where
 at_ : W.findIn K (.ref C) m = some (some (.ref f))
 fn : PySem.W.isFn K (.ref f) = true
 kp : W.keepIn K (.ref f) = true
section
variable {X : Cx} {pins : List (Addr × Obj)} {σ : St} {H : Hp} {s : Shared} {a C dx : Addr} {fs : List (Str × V)} {f : Str} {v : V} {A : Around} {E : Value → Shared → Prop}
theorem ZKp {b : Bool} {Q : Value → Shared → Prop} (I : Inv X pins σ H s) (e : H a = some (.ins C dx fs)) (c : Cls X.K C) (n : ZFB X.K C f) (l : fs.lookup f = some v)
  (h : ∀ u s', Inv X pins σ H s' → ZEd v u → Q u s') : wpAny (model X.prog X.w) A (getAttr (.ref a) f b) Q E s := by
 obtain ⟨mA, O, r, _, _, _⟩ := ZJp I.hok e
 obtain ⟨u, hu, ru⟩ := ZGT.some_of (v := v) (o := mA f) (by rw [← l]; exact r f)
 exact ZTi I.kIn O (c.get f) c.hd n hu (ZPp ru) (h u _ (I.tok _) ru)
theorem ZKq {m : Str} {g : Addr} {pl : Sem Bool} {Q : Value × List Value → Shared → Prop} (I : Inv X pins σ H s) (e : H a = some (.ins C dx fs)) (c : Cls X.K C) (k : ZFX X.K C m g) (l : fs.lookup m = none)
  (h : Q (.ref g, [.ref a]) s) : wpAny (model X.prog X.w) A (getMethod (.ref a) m pl) Q E s := by
 obtain ⟨mA, O, r, _, _, _⟩ := ZJp I.hok e
 have hn : mA m = none := ZGT.none_of (by rw [← l]; exact r m)
 exact ZRW I.kIn O (c.get m) k.at_ k.fn hn h
theorem ZKr {y : V} {u : Value} {Q : Unit → Shared → Prop} (I : Inv X pins σ H s) (e : H a = some (.ins C dx fs)) (c : Cls X.K C) (n : ZFB X.K C f) (hl : fs.length < 1000) (ry : ZEd y u)
  (h : ∀ s', Inv X pins σ (upd H a (.ins C dx (ZEr f y fs))) s' → Q () s') : wpAny (model X.prog X.w) A (setAttr (.ref a) f u) Q E s := by
 obtain ⟨mA, O, r, wi, _, ho⟩ := ZJp I.hok e
 have hz : (fs.map (·.1)).length ≤ sizeLine := by rw [List.length_map, sizeLine_eq]; omega
 refine ZTj I.kIn O c.sa c.po n.taker c.hd wi hz fun h' O' sb => h _ ?_
 have hd : ∃ o, h'.get? dx = some o := let ⟨o, _, _, e', _⟩ := O'.ns; ⟨o, e'⟩
 refine I.write (x := a) (e := dx) (by rw [e]; exact True.intro) (.inr ho) (fun b q hb z => (sb.2 b hb).trans z) hd ?_
 refine ⟨by rw [ZEf O.ne]; exact ho, ?_, O.ne, O'.obj, _, O'.ns, fun g => ?_, fun g hg => ?_⟩
 ·have := ZJ6 f y fs; omega
 ·show ZGT ((ZEr f y fs).lookup g) (if g = f then some u else mA g)
  rw [ZJ5]
  by_cases q : g = f
  ·rw [if_pos q, if_pos q]; exact ry
  ·rw [if_neg q, if_neg q]; exact r g
 ·by_cases q : g = f
  ·rw [q]; exact (ZJN f y fs).1
  ·refine (ZJN f y fs).2 g (wi g fun z => hg ?_)
   show (if g = f then some u else mA g) = none
   rw [if_neg q]; exact z
theorem Inv.made (I : Inv X pins σ H s) : Inv X pins σ (upd (upd H s.heap.objs.size (.own (s.heap.objs.size + 1))) (s.heap.objs.size + 1) (.ins C s.heap.objs.size []))
  { s with heap := (s.heap.push PySem.W.emptyDict).push (PySem.W.instObj C s.heap.objs.size) } := by
 have e1 : (s.heap.push PySem.W.emptyDict).get? s.heap.objs.size = some PySem.W.emptyDict := Heap.get?_push_size s.heap rfl
 have e2 : ((s.heap.push PySem.W.emptyDict).push (PySem.W.instObj C s.heap.objs.size)).get? (s.heap.objs.size + 1) = some (PySem.W.instObj C s.heap.objs.size) := by
  have := Heap.get?_push_size (s.heap.push PySem.W.emptyDict) (o := PySem.W.instObj C s.heap.objs.size) rfl
  rwa [Heap.size_push] at this
 have e3 : (s.heap.push PySem.W.emptyDict).Ns s.heap.objs.size (fun _ => none) := ⟨PySem.W.emptyDict, #[], _, e1, rfl, (fun e he => absurd he (by simp)), fun _ => rfl⟩
 have I1 := I.laid (a := s.heap.objs.size) (o := .own (s.heap.objs.size + 1)) (h' := s.heap.push PySem.W.emptyDict) (t' := s.toks) (fun b u q => Heap.get?_push_of_some _ q) (Nat.le_refl _) ⟨_, e1⟩
 refine I1.laid (a := s.heap.objs.size + 1) (o := .ins C s.heap.objs.size []) (t' := s.toks) (fun b u q => Heap.get?_push_of_some _ q) (Nat.le_of_eq (Heap.size_push _ _)) ?_
 have ne : s.heap.objs.size ≠ s.heap.objs.size + 1 := Nat.ne_of_lt (Nat.lt_succ_self _)
 refine ⟨by rw [ZEf ne, ZEa], Nat.zero_le _, ne, e2, fun _ => none, (Heap.Ns1.of_empty e3).at fun o q => Heap.get?_push_of_some _ q, fun _ => True.intro, fun y hy => absurd rfl hy⟩
theorem ZTk {prog : Program} {w : World} {env : Env} {e : Expr} {f : Str} {pos : Pos} {s : Shared} {Q : Value → Shared → Prop} (hb : attributeBase e f env (eval e env) = eval e env)
  (h : wpAny (model prog w) A (eval e env) (fun o s₁ => wpAny (model prog w) A (getAttr o f true) Q E s₁) E s) : wpAny (model prog w) A (eval (.Attribute e f pos) env) Q E s :=
 Attribute_any_ h (by rw [arm_eval_Attribute, hb])
end
def ZRX (K : W.Frag) (ta : TE) (f : Str) : TE := fun σ H Q => ta σ H fun x H1 => ∃ a C dx fs v, x = .ref a ∧ H1 a = some (.ins C dx fs) ∧ Cls K C ∧ ZFB K C f ∧ fs.lookup f = some v ∧ Q v H1
def ZRY (K : W.Frag) (ta tv : TE) (f : Str) : TS := fun D σ H => tv σ H fun y H1 => ta σ H1 fun x H2 => ∃ a C dx fs, x = .ref a ∧ H2 a = some (.ins C dx fs) ∧ Cls K C ∧ ZFB K C f ∧ fs.length < 1000 ∧
 D.nx σ (upd H2 a (.ins C dx (ZEr f y fs)))
def ZVc (X : Cx) (op : Operator) (rd : V → V → Hp → VK → Prop) : Prop :=
 ∀ (pins : List (Addr × Obj)) (s : Shared) (σ : St) (H : Hp) (x y : V) (u v : Value) (Q : VK), Inv X pins σ H s → ZEd x u → ZEd y v → rd x y H Q → wpAny (model X.prog X.w) X.A (inplaceOp op u v) (EP X pins σ Q) X.xe s
def ZLR (K : W.Frag) (ta tv : TE) (rd : V → V → Hp → VK → Prop) (f : Str) : TS := fun D σ H => ta σ H fun x H1 => ∃ a C dx fs v, x = .ref a ∧ H1 a = some (.ins C dx fs) ∧ Cls K C ∧ ZFB K C f ∧ fs.lookup f = some v ∧
 tv σ H1 fun y H2 => rd v y H2 fun z H3 => ∃ dx' fs', H3 a = some (.ins C dx' fs') ∧ fs'.length < 1000 ∧ D.nx σ (upd H3 a (.ins C dx' (ZEr f z fs')))
section
variable {X : Cx} {o e value : Expr} {f : Str} {pos pos' tpos : Pos} {ta tv : TE}
theorem ZVd (he : PE X e ta) (hb : attributeBase e f X.env (eval e X.env) = eval e X.env) : PE X (.Attribute e f pos) (ZRX X.K ta f) := by
 intro pins s σ H Q I h
 refine ZTk hb (thn (he pins s σ H _ I h) fun u s1 ⟨x, H1, I1, rx, a, C, dx, fs, v, ex, ea, c, n, l, q⟩ => ?_)
 subst ex
 obtain rfl : u = Value.ref a := rx
 exact ZKp I1 ea c n l fun u' s2 I2 ru => ⟨v, H1, I2, ru, q⟩
theorem ZVe (ha : PE X o ta) (hv : PE X value tv) (hs : swapsWith value (some (.Attribute o f pos')) pos.line X.env = pure false) : PS X (.Assign [.Attribute o f pos'] value pos) (ZRY X.K ta tv f) := by
 intro pins s σ H D I h
 refine plainObj_wpAny_Assign_Attribute (thn (hv pins s σ H _ I h) fun u s1 ⟨y, H1, I1, ry, q⟩ => thn (ha pins s1 σ H1 _ I1 q) fun ov s2 ⟨x, H2, I2, rx, a, C, dx, fs, ex, ea, c, n, l, q2⟩ => ?_) hs
 subst ex
 obtain rfl : ov = Value.ref a := rx
 exact ZKr I2 ea c n l ry fun s3 I3 => ⟨σ, _, I3, q2⟩
theorem ZPq {op : Operator} {rd : V → V → Hp → VK → Prop} (ha : PE X o ta) (hv : PE X value tv) (hop : ZVc X op rd) : PS X (.AugAssign (.Attribute o f tpos) op value pos) (ZLR X.K ta tv rd f) := by
 intro pins s σ H D I h
 refine wpAny_AugAssign_AttributeAny (thn (ha pins s σ H _ I h) fun ov s1 ⟨x, H1, I1, rx, a, C, dx, fs, v, ex, ea, c, n, l, q⟩ => ?_)
 subst ex
 obtain rfl : ov = Value.ref a := rx
 refine ZKp I1 ea c n l fun u s2 I2 ru => thn (hv pins s2 σ H1 _ I2 q) fun w3 s3 ⟨y, H2, I3, ry, q3⟩ => thn (hop pins s3 σ H2 v y u w3 _ I3 ru ry q3) fun w4 s4 ⟨z, H3, I4, rz, dx', fs', ea', l', q4⟩ => ?_
 exact ZKr I4 ea' c n l' rz fun s5 I5 => ⟨σ, _, I5, q4⟩
def ZMg : V → V → Hp → VK → Prop := fun x y H Q => ∃ i j, x = .int i ∧ y = .int j ∧ Q (.int (i + j)) H
theorem ZVf : ZVc X .Add ZMg := by
 rintro pins s σ H x y u v Q I rx ry ⟨i, j, rfl, rfl, q⟩
 obtain ⟨t, rfl⟩ := (show ∃ t, u = Value.int i t from rx)
 obtain ⟨t', rfl⟩ := (show ∃ t', v = Value.int j t' from ry)
 exact PyProof.Rows.iadd_int ⟨.int (i + j), H, I.tok _, ⟨_, rfl⟩, q⟩
end
section
variable {X : Cx} {pins : List (Addr × Obj)} {σ : St} {H : Hp} {s : Shared} {A : Around} {E : Value → Shared → Prop} {Q : Value → Shared → Prop} {c : Value} {b : Bool}
inductive ZGw (K : W.Frag) (H : Hp) : V → Value → Prop where
 | non : ZGw K H .non (.type "NoneType")
 | bl (x : Bool) : ZGw K H (.bl x) (.type "bool")
 | int (i : Int) : ZGw K H (.int i) (.type "int")
 | str (x : Str) : ZGw K H (.str x) (.type "str")
 | flt (x : UInt64) : ZGw K H (.flt x) (.type "float")
 | lst {a : Addr} {xs : List V} (e : H a = some (.lst xs)) : ZGw K H (.ref a) (.type "list")
 | frz {a : Addr} {o : Obj} {xs : List V} (e : H a = some (.frz o (.lst xs))) : ZGw K H (.ref a) (.type "list")
 | tup {a : Addr} {xs : List V} (e : H a = some (.tup xs)) : ZGw K H (.ref a) (.type "tuple")
 | dK {a : Addr} {kvs : List (Key × V)} (e : H a = some (.dK kvs)) : ZGw K H (.ref a) (.type "dict")
 | dT {a : Addr} {kvs : List (List Key × V)} (e : H a = some (.dT kvs)) : ZGw K H (.ref a) (.type "dict")
 | ins {a C dx : Addr} {fs : List (Str × V)} (e : H a = some (.ins C dx fs)) (cl : Cls K C) (ha : W.findIn K (.ref C) "__class__" = some (some (.builtin "object.__class__")))
  (hn : PySem.W.specialIn K (.builtin "object.__class__") "__get__" = some (some (.builtin "getset_descriptor.__get__"))) (htk : PySem.W.takesIn K (.builtin "object.__class__") = some true)
  (hm : PySem.W.mroIn K C (.type "object") = some true) : ZGw K H (.ref a) (.ref C)
theorem ZPr {x : V} {u t : Value} (I : Inv X pins σ H s) (rx : ZEd x u) (ty : ZGw X.K H x t) (e : W.kitOne X.K t c = some b) (h : ∀ tk, Q (.bool b) { s with toks := tk }) :
  wpAny (model X.prog X.w) A (call (.builtin "isinstance") [u, c]) Q E s := by
 cases ty with
 | non => cases (show u = Value.none from rx); exact PySem.W.kia_one PySem.W.kitx_none I.kIn True.intro e (fun z => nomatch z) h
 | bl y => cases (show u = Value.bool y from rx); exact PySem.W.kia_one PySem.W.kitx_bool I.kIn True.intro e (fun z => nomatch z) h
 | int i => obtain ⟨t, q⟩ := (show ∃ t, u = Value.int i t from rx); cases q; exact PySem.W.kia_one PySem.W.kitx_int I.kIn True.intro e (fun z => nomatch z) h
 | str y => obtain ⟨t, q⟩ := (show ∃ t, u = Value.str y t from rx); cases q; exact PySem.W.kia_one PySem.W.kitx_str I.kIn True.intro e (fun z => nomatch z) h
 | flt y => obtain ⟨t, q⟩ := (show ∃ t, u = Value.float y t from rx); cases q; exact PySem.W.kia_one PySem.W.kitx_float I.kIn True.intro e (fun z => nomatch z) h
 | @lst a xs ea =>
  cases (show u = Value.ref a from rx)
  obtain ⟨_, _, n, _, h1⟩ := (show ZE3 X.prog X.w H s.heap a (.lst xs) from I.hok a _ ea)
  exact PySem.W.kia_one PySem.W.kitx_list I.kIn ⟨_, h1, rfl⟩ e (fun z => nomatch z) h
 | @frz a ob xs ea =>
  cases (show u = Value.ref a from rx)
  obtain ⟨_, _, _, n, _, h1⟩ := (show ZE3 X.prog X.w H s.heap a (.frz ob (.lst xs)) from I.hok a _ ea)
  exact PySem.W.kia_one PySem.W.kitx_list I.kIn ⟨_, h1, rfl⟩ e (fun z => nomatch z) h
 | @tup a xs ea =>
  cases (show u = Value.ref a from rx)
  obtain ⟨_, _, _, p⟩ := (show ZE3 X.prog X.w H s.heap a (.tup xs) from I.hok a _ ea)
  obtain ⟨o, h1, h2, _⟩ := p
  exact PySem.W.kia_one PySem.W.kitx_tuple I.kIn ⟨o, h1, h2⟩ e (fun z => nomatch z) h
 | @dK a kvs ea =>
  cases (show u = Value.ref a from rx)
  obtain ⟨_, _, vs, _, p⟩ := (show ZE3 X.prog X.w H s.heap a (.dK kvs) from I.hok a _ ea)
  obtain ⟨o, es, ep, h1, h2, _⟩ := p
  exact PySem.W.kia_one PySem.W.kitx_dict I.kIn ⟨o, h1, h2.1⟩ e (fun z => nomatch z) h
 | @dT a kvs ea =>
  cases (show u = Value.ref a from rx)
  obtain ⟨_, _, xs, _, o, es, ep, h1, h2, _⟩ := (show ZE3 X.prog X.w H s.heap a (.dT kvs) from I.hok a _ ea)
  exact PySem.W.kia_one PySem.W.kitx_dict I.kIn ⟨o, h1, h2.1⟩ e (fun z => nomatch z) h
 | @ins a C dx fs ea cl ha hn htk hm =>
  cases (show u = Value.ref a from rx)
  obtain ⟨mA, O, _⟩ := ZJp I.hok ea
  obtain ⟨od, J, _⟩ := O.look
  exact PySem.W.kia_one (PySem.W.kitx_own (cl.get _) cl.hd ha hn htk hm) I.kIn J e (fun z => nomatch z) h
end
structure Room (k : Nat) (A : Around) : Prop where
 hd : A.handled = none
 dp : A.depth + 3 * k + 5 < recursionLimit
 un : A.units + 16 * k + 200 < cLine
 gd : A.guards = some []
theorem Room.mono {j k : Nat} {A : Around} (r : Room k A) (h : j ≤ k) : Room j A := ⟨r.hd, by have := r.dp; omega, by have := r.un; omega, r.gd⟩
theorem Room.deeper {k : Nat} {A : Around} (r : Room (k + 1) A) (env : Env) : Room k (A.deeper env) :=
 ⟨r.hd, by have := r.dp; show A.depth + 1 + 3 * k + 5 < _; omega, by have := r.un; show A.units + 3 + 16 * k + 200 < _; omega, r.gd⟩
theorem Room.in1 {k : Nat} {A : Around} (r : Room (k + 1) A) : Room k A.in1 :=
 ⟨r.hd, by have := r.dp; show A.depth + 3 * k + 5 < _; omega, by have := r.un; show A.units + 1 + 16 * k + 200 < _; omega, r.gd⟩
theorem ZOn {A : Around} {C : Addr} {us : List Value} {kw : List (Str × Value)} : (A.under (.builtin "type.__call__" ⟨.ref C :: us, kw⟩)).depth = A.depth + 1 := by
 first | rfl | simp [Around.under, Code.weight, Code.isCreation, Code.isGuard, Code.isCaller, Code.frames, Code.isFrame, guardIds]
theorem ZOo {A : Around} {C : Addr} {us : List Value} {kw : List (Str × Value)} : (A.under (.builtin "type.__call__" ⟨.ref C :: us, kw⟩)).units = A.units + 1 := by
 first | rfl | simp [Around.under, Code.cUnits, Code.frames, Code.isFrame]
theorem ZNs {A : Around} {C : Addr} {us : List Value} {kw : List (Str × Value)} : (A.under (.builtin "type.__call__" ⟨.ref C :: us, kw⟩)).guards = A.guards := by
 have e : pushGuards [] A.guards = A.guards := by cases A.guards <;> rfl
 first | exact e | rfl | simp [Around.under, Code.guards, Code.isGuard, guardIds, pushGuards]
theorem Room.make {k : Nat} {A : Around} (r : Room (k + 1) A) (C : Addr) (us : List Value) (kw : List (Str × Value)) : Room k (A.under (.builtin "type.__call__" ⟨.ref C :: us, kw⟩)) :=
 ⟨r.hd, by have := r.dp; rw [ZOn]; omega, by have := r.un; rw [ZOo]; omega, (ZNs).trans r.gd⟩
theorem Room.depth {k : Nat} {A : Around} (r : Room k A) : A.depth < recursionLimit := by have := r.dp; omega
theorem Room.units {k : Nat} {A : Around} (r : Room k A) : A.units + 64 < cLine := by have := r.un; omega
def ZMh : TA := fun _ H Q => Q [] H
def ZMU (ta : TE) (tr : TA) : TA := fun σ H Q => ta σ H fun x H1 => tr σ H1 fun xs H2 => Q (x :: xs) H2
section
variable {X : Cx} {e : Expr} {es : List Expr} {te : TE} {t : TA} {pos : Pos}
theorem ZVg : PA X [] ZMh := fun _ _ _ _ H Q I h => Calls.spliced_nil ⟨[], H, I, .nil, h⟩
theorem ZTl (ha : PE X e te) (hr : PA X es t) (hs : starEach (e :: es) X.env = (false, eval e X.env) :: starEach es X.env := by rfl) : PA X (e :: es) (ZMU te t) := by
 intro pos pins s σ H Q I h
 rw [hs]
 show wpAny _ _ (spliced ((false, eval e X.env) :: backTo pos (starEach es X.env))) _ _ s
 refine Calls.spliced_cons (thn (ha pins s σ H _ I h) fun u s1 ⟨x, H1, I1, r1, q1⟩ => ?_)
 exact thn (hr pos pins s1 σ H1 _ I1 q1) fun us s2 ⟨xs, H2, I2, r2, q2⟩ => ⟨x :: xs, H2, I2, .cons r1 r2, q2⟩
def ZRZ (t : TA) : TE := fun σ H Q => t σ H fun xs H1 => xs.length ≤ sizeLine ∧ ∀ p, H1 p = none → Q (.ref p) (upd H1 p (.tup xs))
def ZRa (t : TA) : TE := fun σ H Q => t σ H fun xs H1 => xs.length ≤ sizeLine ∧ ∀ p, H1 p = none → Q (.ref p) (upd H1 p (.lst xs))
theorem ZVh {x1} (h : PA X es t) : PE X (.Tuple es x1 pos) (ZRZ t) := by
 intro pins s σ H Q I hq
 refine wpAny_Tuple_spliced (thn (h pos pins s σ H _ I hq) fun us s1 ⟨xs, H1, I1, r, z, q⟩ => ⟨by rw [← r.length]; exact z, ?_⟩)
 have hf : H1 s1.heap.objs.size = none := I1.hok.fresh (Nat.le_refl _)
 refine ⟨.ref s1.heap.objs.size, upd H1 s1.heap.objs.size (.tup xs), I1.laid (t' := s1.toks) (fun b u e => Heap.get?_push_of_some _ e) (Nat.le_refl _) ?_, rfl, q _ hf⟩
 exact ⟨⟨z, fun _ => ⟨_, Heap.get?_push_size _ rfl, rfl, rfl⟩⟩, us, r, ⟨_, Heap.get?_push_size _ rfl, rfl, _, rfl⟩⟩
theorem ZVi (h : PA X es t) : PE X (.List es pos) (ZRa t) := by
 intro pins s σ H Q I hq
 refine wpAny_List_spliced (thn (h pos pins s σ H _ I hq) fun us s1 ⟨xs, H1, I1, r, z, q⟩ => ⟨by rw [← r.length]; exact z, ?_⟩)
 have hf : H1 s1.heap.objs.size = none := I1.hok.fresh (Nat.le_refl _)
 refine ⟨.ref s1.heap.objs.size, upd H1 s1.heap.objs.size (.lst xs), I1.laid (t' := s1.toks) (fun b u e => Heap.get?_push_of_some _ e) (Nat.le_refl _) ?_, rfl, q _ hf⟩
 exact ⟨z, us, 0, r, Heap.get?_push_size _ rfl⟩
end
abbrev Sp := List V → Hp → VK → XK → Prop
abbrev CXT := List Env → Hp → Shared → XK → Value → Shared → Prop
structure ZIR (P : Program) (w : World) (K : W.Frag) (mg : Str → Option Value) (base : Heap) (A : Around) (outer : List Env) (s : Shared) (H : Hp) : Prop where
 frames : A.frames = some outer
 mod : Mod K mg base
 bs : ∀ b o, base.get? b = some o → s.heap.get? b = some o ∧ H b = none
 bsz : base.objs.size ≤ s.heap.objs.size
 funs : s.heap.FunFrames base outer
 frf : ∀ b ∈ frs outer, H b = none
 hok : HOk P w H s.heap
 bare : AllBare s.gens
def CE (outer : List Env) (P : Program) (w : World) (H : Hp) (s : Shared) (Q : VK) (u : Value) (s' : Shared) : Prop :=
 ∃ v H', s'.os = s.os ∧ AllBare s'.gens ∧ Un (frs outer) [] H H' s.heap s'.heap ∧ HOk P w H' s'.heap ∧ ZEd v u ∧ Q v H'
def CR (CX : CXT) (outer : List Env) (P : Program) (w : World) (H : Hp) (s : Shared) (Q : VK) (E : XK) (r : Result) (s' : Shared) : Prop :=
 match r with
 | .ok (.ret u) => CE outer P w H s Q u s'
 | .ok _ => False
 | .error e => CX outer H s E e s'
structure ZEW (P : Program) (w : World) (K : W.Frag) (mg : Str → Option Value) (base : Heap) (CX : CXT) (k : Nat) (f : Addr) (fd : FuncData) (ps : List Str) (sp : Sp) : Prop where
 len : ∀ vs H Q E, sp vs H Q E → vs.length = ps.length
 run : ∀ (A : Around) (outer : List Env) (s : Shared) (H : Hp) (args : Args) (us : List Value) (vs : List V) (Q : VK) (E : XK), Room k A → ZIR P w K mg base A outer s H → BindsTo s fd args (ps.zip us) → ZEg vs us → sp vs H Q E →
  codeAny (model P w) A (.call (.ref f) args) (CR CX outer P w H s Q E) s
theorem ZIR.make {P : Program} {w : World} {K : W.Frag} {mg : Str → Option Value} {base : Heap} {A : Around} {outer : List Env} {s : Shared} {H : Hp} (e : ZIR P w K mg base A outer s H) (C : Addr) (us : List Value) (kw : List (Str × Value)) :
 ZIR P w K mg base (A.under (.builtin "type.__call__" ⟨.ref C :: us, kw⟩)) outer s H := ⟨by first | exact e.frames | (simpa [Around.under, Code.envs, Code.isFrame, pushEnvs] using e.frames), e.mod, e.bs, e.bsz, e.funs, e.frf, e.hok, e.bare⟩
theorem ZIR.in1 {P : Program} {w : World} {K : W.Frag} {mg : Str → Option Value} {base : Heap} {A : Around} {outer : List Env} {s : Shared} {H : Hp} (e : ZIR P w K mg base A outer s H) :
 ZIR P w K mg base A.in1 outer s H := ⟨e.frames, e.mod, e.bs, e.bsz, e.funs, e.frf, e.hok, e.bare⟩
section
variable {X : Cx} {pins : List (Addr × Obj)} {σ : St} {H : Hp} {s s' : Shared}
theorem Inv.env0 (I : Inv X pins σ H s) : ZIR X.prog X.w X.K X.mg X.base X.A X.stack s H :=
 ⟨I.ok.frames, I.ok.mod, I.bs, Nat.le_trans I.ok.bsz I.sz, I.stack, I.stkFree, I.hok, I.bare⟩
theorem Inv.after {Q : VK} {u : Value} (I : Inv X pins σ H s) (h : CE X.stack X.prog X.w H s Q u s') : EP X pins σ Q u s' := by
 obtain ⟨v, H', os, bare, un, hok, r, q⟩ := h
 obtain ⟨hh, g, d, t, os'⟩ := s'
 obtain rfl : os' = s.os := os
 exact ⟨v, H', I.call (h' := hh) (g' := g) (d' := d) (t' := t) (ch := []) un hok bare (fun b z => absurd z (by simp)), r, q⟩
end
def ZKs (sp : Sp) (dvs : List V) (E : XK) (t : TA) : TE := fun σ H Q => t σ H fun vs H1 => sp (vs ++ dvs) H1 Q E
def ZKt (C : Addr) (m : Str) (sp : Sp) (dvs : List V) (E : XK) (ta : TE) (t : TA) : TE := fun σ H Q => ta σ H fun x H1 => ∃ a dx fs, x = .ref a ∧ H1 a = some (.ins C dx fs) ∧ fs.lookup m = none ∧
 t σ H1 fun vs H2 => sp (x :: (vs ++ dvs)) H2 Q E
def ZOp (C : Addr) (sp : Sp) (dvs : List V) (E : XK) (t : TA) : TE := fun σ H Q => t σ H fun vs H1 => ∀ x dx, H1 x = none → H1 dx = none → dx ≠ x →
 sp (.ref x :: (vs ++ dvs)) (upd (upd H1 dx (.own x)) x (.ins C dx [])) (fun v H2 => v = .non ∧ Q (.ref x) H2) E
def ZER (K : W.Frag) (fd : FuncData) (ps : List Str) (ds : List Value) : Prop :=
 ∀ (s : Shared) (us : List Value), K.In s.heap → (us ++ ds).length = ps.length → BindsTo s fd ⟨us, []⟩ (ps.zip (us ++ ds))
theorem ZER.all {K : W.Frag} {fd : FuncData} {ps : List Str} (h : ∀ us : List Value, us.length = ps.length → bindArgs fd ⟨us, []⟩ = pure (ps.zip us)) : ZER K fd ps [] := fun s us _ hl => by
 rw [List.append_nil] at hl ⊢
 exact .of_eq (h us hl)
def ZF7 (CX : CXT) (X : Cx) (E : XK) : Prop := ∀ (pins : List (Addr × Obj)) (σ : St) (H : Hp) (s : Shared) (e : Value) (s' : Shared), Inv X pins σ H s → CX X.stack H s E e s' → X.xe e s'
section
variable {X : Cx} {CX : CXT} {k : Nat} {f C : Addr} {fd : FuncData} {ps : List Str} {sp : Sp} {dvs : List V} {ds : List Value} {E : XK} {x m : Str} {p pos apos : Pos} {e o : Expr} {es : List Expr} {ta : TE} {t : TA}
theorem ZMi {pins : List (Addr × Obj)} {σ : St} {H : Hp} {s : Shared} {Q : VK} {us : List Value} {vs : List V} (F : ZEW X.prog X.w X.K X.mg X.base CX k f fd ps sp) (hr : Room k X.A) (hb : ZER X.K fd ps ds) (hd : ZEg dvs ds) (hx : ZF7 CX X E)
  (I : Inv X pins σ H s) (r : ZEg vs us) (h : sp (vs ++ dvs) H Q E) : wpAny (model X.prog X.w) X.A (call (.ref f) us) (EP X pins σ Q) X.xe s := by
 have r2 : ZEg (vs ++ dvs) (us ++ ds) := r.append hd
 have hl : (us ++ ds).length = ps.length := by rw [← r2.length]; exact F.len _ _ _ _ h
 refine wpAny_call (codeAny_mono (F.run X.A X.stack s H ⟨us, []⟩ (us ++ ds) (vs ++ dvs) Q E hr I.env0 (hb s us I.kIn hl) r2 h) fun r s' hq => ?_)
 cases r with
 | error e => exact hx pins σ H s e s' I hq
 | ok fl =>
  cases fl with
  | ret u => exact I.after hq
  | next => exact False.elim hq
  | brk => exact False.elim hq
  | cont => exact False.elim hq
theorem ZTm (F : ZEW X.prog X.w X.K X.mg X.base CX k f fd ps sp) (hr : Room k X.A) (hg : Gl X x) (hm : X.mg x = some (.ref f)) (hk : W.keepIn X.K (.ref f) = true) (hb : ZER X.K fd ps ds) (hd : ZEg dvs ds) (hx : ZF7 CX X E)
  (ha : PA X (e :: es) t) (hdb : (x == ("__debug__" : Str)) = false := by decide) (he : starEach (e :: es) X.env = (false, eval e X.env) :: starEach es X.env := by rfl) (hpl : (backTo pos (starEach es X.env)).any (·.1) = false := by rfl) :
  PE X (.Call (.Name x p) (e :: es) [] pos) (ZKs sp dvs E t) := by
 intro pins s σ H Q I h
 refine wpAny_Call_Name_kw (ZGb I hg hm ?_ hdb)
 refine PySem.W.callWith_K (h₀ := X.base) I.ok.mod.kin hk (thn (ha pos pins s σ H _ I h) fun us s1 ⟨vs, H1, I1, r, q⟩ => ⟨I1.kIn, ?_⟩) he hpl
 exact ZMi F hr hb hd hx I1 r q
theorem ZTn {pl : Sem Bool} (he : PE X o ta) (c : Cls X.K C) (hm : ZFX X.K C m f) (F : ZEW X.prog X.w X.K X.mg X.base CX k f fd ps sp) (hr : Room k X.A) (hb : ZER X.K fd ps ds) (hd : ZEg dvs ds) (hx : ZF7 CX X E) (ha : PA X (e :: es) t)
  (hst : starEach (e :: es) X.env = (false, eval e X.env) :: starEach es X.env := by rfl) (hpl : (backTo pos (starEach es X.env)).any (·.1) = false := by rfl)
  (ht : eval (.Call (.Attribute o m apos) (e :: es) [] pos) X.env = (do
   let ov ← eval o X.env
   standAt apos.atName
   let (f, first) ← holding [ov] (getMethod ov m pl)
   callWith pos f first (backTo pos (starEach (e :: es) X.env)) (backToKw pos (keywordEach [] X.env))) := by rfl) :
  PE X (.Call (.Attribute o m apos) (e :: es) [] pos) (ZKt C m sp dvs E ta t) := by
 intro pins s σ H Q I h
 refine PySem.W.methodCall_KW (pl := pl) (thn (he pins s σ H _ I h) fun u s1 ⟨x, H1, I1, rx, a, dx, fs, ex, ea, l, q⟩ => ?_) ht
 subst ex
 obtain rfl : u = Value.ref a := rx
 refine ZKq I1 ea c hm l ?_
 refine PySem.W.callWith_K (first := [.ref a]) (h₀ := X.base) I.ok.mod.kin hm.kp (thn (ha pos pins s1 σ H1 _ I1 q) fun us s2 ⟨vs, H2, I2, r, q2⟩ => ⟨I2.kIn, ?_⟩) hst hpl
 exact ZMi (us := .ref a :: us) (vs := .ref a :: vs) F hr hb hd hx I2 (.cons rfl r) q2
theorem ZRb {pl : Sem Bool} (he : PE X o ta) (c : Cls X.K C) (hm : ZFX X.K C m f) (F : ZEW X.prog X.w X.K X.mg X.base CX k f fd ps sp) (hr : Room k X.A) (hb : ZER X.K fd ps ds) (hd : ZEg dvs ds) (hx : ZF7 CX X E)
  (ht : eval (.Call (.Attribute o m apos) [] [] pos) X.env = (do
   let ov ← eval o X.env
   standAt apos.atName
   let (f, first) ← holding [ov] (getMethod ov m pl)
   callWith pos f first (backTo pos (starEach [] X.env)) (backToKw pos (keywordEach [] X.env))) := by rfl) :
  PE X (.Call (.Attribute o m apos) [] [] pos) (ZKt C m sp dvs E ta ZMh) := by
 intro pins s σ H Q I h
 refine PySem.W.methodCall_KW (pl := pl) (thn (he pins s σ H _ I h) fun u s1 ⟨x, H1, I1, rx, a, dx, fs, ex, ea, l, q⟩ => ?_) ht
 subst ex
 obtain rfl : u = Value.ref a := rx
 refine ZKq I1 ea c hm l ?_
 exact PySem.W.callWith_K0 (first := [.ref a]) I1.kIn hm.kp (ZMi (us := [.ref a]) (vs := [.ref a]) F hr hb hd hx I1 (.cons rfl .nil) q)
structure Mk (K : W.Frag) (C f : Addr) : Prop where
 makes : PySem.W.makesIn K C = true
 init : W.findIn K (.ref C) "__init__" = some (some (.ref f))
 fn : PySem.W.isFn K (.ref f) = true
 kp : W.keepIn K (.ref C) = true
theorem ZRc {pins : List (Addr × Obj)} {σ : St} {H : Hp} {s : Shared} {Q : VK} {us : List Value} {vs : List V} (M : Mk X.K C f) (F : ZEW X.prog X.w X.K X.mg X.base CX k f fd ps sp) (hr : Room (k + 1) X.A) (hb : ZER X.K fd ps ds) (hd : ZEg dvs ds)
  (hx : ZF7 CX X E) (I : Inv X pins σ H s) (r : ZEg vs us)
  (h : ∀ x dx, H x = none → H dx = none → dx ≠ x → sp (.ref x :: (vs ++ dvs)) (upd (upd H dx (.own x)) x (.ins C dx [])) (fun v H2 => v = .non ∧ Q (.ref x) H2) E) :
  wpAny (model X.prog X.w) X.A (call (.ref C) us) (EP X pins σ Q) X.xe s := by
 have hq := h (s.heap.objs.size + 1) s.heap.objs.size (I.hok.fresh (Nat.le_succ _)) (I.hok.fresh (Nat.le_refl _)) (Nat.ne_of_lt (Nat.lt_succ_self _))
 have I2 := Inv.made (C := C) I
 have r2 : ZEg (V.ref (s.heap.objs.size + 1) :: (vs ++ dvs)) (Value.ref (s.heap.objs.size + 1) :: (us ++ ds)) := .cons rfl (r.append hd)
 have hl : (Value.ref (s.heap.objs.size + 1) :: us ++ ds).length = ps.length := by
  have e := r2.length
  rw [F.len _ _ _ _ hq] at e
  exact e.symm
 refine wpAny_call (ZMf (f := f) I.kIn M.makes M.init (beq_iff_eq.mp M.fn) (codeAny_mono (F.run _ X.stack _ _ ⟨Value.ref (s.heap.objs.size + 1) :: us, []⟩ (Value.ref (s.heap.objs.size + 1) :: (us ++ ds)) _ _ E (hr.make C us [])
  (I2.env0.make C us []) (hb _ (Value.ref (s.heap.objs.size + 1) :: us) I2.kIn hl) r2 hq) fun r s' hq' => ?_))
 cases r with
 | error e => exact hx pins σ _ _ e s' I2 hq'
 | ok fl =>
  cases fl with
  | ret u =>
   obtain ⟨v, H', I3, rv, ev, q3⟩ := I2.after hq'
   subst ev
   exact ⟨rv, ⟨V.ref (s.heap.objs.size + 1), H', I3, rfl, q3⟩⟩
  | next => exact False.elim hq'
  | brk => exact False.elim hq'
  | cont => exact False.elim hq'
theorem ZTo (M : Mk X.K C f) (F : ZEW X.prog X.w X.K X.mg X.base CX k f fd ps sp) (hr : Room (k + 1) X.A) (hg : Gl X x) (hm : X.mg x = some (.ref C)) (hb : ZER X.K fd ps ds) (hd : ZEg dvs ds) (hx : ZF7 CX X E)
  (ha : PA X (e :: es) t) (hdb : (x == ("__debug__" : Str)) = false := by decide) (he : starEach (e :: es) X.env = (false, eval e X.env) :: starEach es X.env := by rfl) (hpl : (backTo pos (starEach es X.env)).any (·.1) = false := by rfl) :
  PE X (.Call (.Name x p) (e :: es) [] pos) (ZOp C sp dvs E t) := by
 intro pins s σ H Q I h
 refine wpAny_Call_Name_kw (ZGb I hg hm ?_ hdb)
 refine PySem.W.callWith_K (h₀ := X.base) I.ok.mod.kin M.kp (thn (ha pos pins s σ H _ I h) fun us s1 ⟨vs, H1, I1, r, q⟩ => ⟨I1.kIn, ?_⟩) he hpl
 exact ZRc M F hr hb hd hx I1 r q
end
section
variable {X : Cx} {CX : CXT} {k : Nat} {f C : Addr} {fd : FuncData} {ps ks : List Str} {sp : Sp} {E : XK} {x m : Str} {p pos apos kpos : Pos} {e o : Expr} {es : List Expr} {kws : List Keyword} {te ta : TE} {t tk : TA} {nm : Option Str}
variable {g : List Value → List Value → List Value} {gV : List V → List V → List V}
end
structure ZEV (N P : List Str) (sc : Scope) : Prop where
 kind : sc.kind = .function
 co : sc.isCoroutine = false
 gen : sc.isGenerator = false
 nd : N.Nodup
 pre : N.take P.length = P
 par : ∀ x ∈ P, sc.names.lookup x = some .local ∨ sc.names.lookup x = some .cell
 nofree : ∀ y ∈ sc.names, y.2 ≠ .free
theorem ZLq {kindOf : Str → Option NameKind} {x : Str} : ∀ {binds : List (Str × Value)} {m : Str → Option Value}, (∀ v, (x, v) ∉ binds) → bindL kindOf binds m x = m x
 | [], _, _ => rfl
 | (n, v) :: r, m, h => by
  unfold bindL
  rw [ZLq fun w hw => h w (List.mem_cons_of_mem _ hw)]
  split
  ·have : x ≠ n := by rintro rfl; exact h v List.mem_cons_self
   simp [this]
  ·rfl
theorem ZLr {kindOf : Str → Option NameKind} {x : Str} : ∀ {binds : List (Str × Value)} {m : Str → Option Value}, (∀ v, (x, v) ∉ binds) → bindC kindOf binds m x = m x
 | [], _, _ => rfl
 | (n, v) :: r, m, h => by
  unfold bindC
  rw [ZLr fun w hw => h w (List.mem_cons_of_mem _ hw)]
  split
  ·rfl
  ·have : x ≠ n := by rintro rfl; exact h v List.mem_cons_self
   simp [this]
theorem ZLs {kindOf : Str → Option NameKind} {x : Str} {v : Value} : ∀ {P : List Str} {vs : List Value} {i : Nat} {m : Str → Option Value}, P.Nodup → P[i]? = some x → vs[i]? = some v → kindOf x = some .local →
  bindL kindOf (P.zip vs) m x = some v
 | [], _, _, _, _, h, _, _ => by simp at h
 | _ :: _, [], _, _, _, _, h, _ => by simp at h
 | p :: P, w :: vs, 0, m, nd, h1, h2, hk => by
  simp at h1 h2; subst h1; subst h2
  show bindL kindOf ((p, w) :: P.zip vs) m p = _
  unfold bindL
  rw [ZLq fun v hv => (List.nodup_cons.mp nd).1 (List.of_mem_zip hv).1, if_pos hk]
  simp
 | p :: P, w :: vs, i + 1, m, nd, h1, h2, hk => by
  show bindL kindOf ((p, w) :: P.zip vs) m x = _
  unfold bindL
  exact ZLs (i := i) (List.nodup_cons.mp nd).2 (by simpa using h1) (by simpa using h2) hk
theorem ZLt {kindOf : Str → Option NameKind} {x : Str} {v : Value} : ∀ {P : List Str} {vs : List Value} {i : Nat} {m : Str → Option Value}, P.Nodup → P[i]? = some x → vs[i]? = some v → kindOf x ≠ some .local →
  bindC kindOf (P.zip vs) m x = some v
 | [], _, _, _, _, h, _, _ => by simp at h
 | _ :: _, [], _, _, _, _, h, _ => by simp at h
 | p :: P, w :: vs, 0, m, nd, h1, h2, hk => by
  simp at h1 h2; subst h1; subst h2
  show bindC kindOf ((p, w) :: P.zip vs) m p = _
  unfold bindC
  rw [ZLr fun v hv => (List.nodup_cons.mp nd).1 (List.of_mem_zip hv).1, if_neg hk]
  simp
 | p :: P, w :: vs, i + 1, m, nd, h1, h2, hk => by
  show bindC kindOf ((p, w) :: P.zip vs) m x = _
  unfold bindC
  exact ZLt (i := i) (List.nodup_cons.mp nd).2 (by simpa using h1) (by simpa using h2) hk
def start (N : List Str) (vs : List V) : St := vs.map some ++ List.replicate (N.length - vs.length) none
def ZJO (CX : CXT) (P : Program) (w : World) (K : W.Frag) (mg : Str → Option Value) (base : Heap) (N : List Str) (qual : Str) (scope : Scope) (f : Addr) (cd : Value) (A : Around) (outer : List Env) (s : Shared) (H : Hp) (E : XK) : Cx where
 prog := P
 w := w
 K := K
 mg := mg
 base := base
 A := A.deeper (envOfC qual scope s.heap.objs.size f cd)
 N := N
 s₀ := s
 H₀ := H
 env := envOfC qual scope s.heap.objs.size f cd
 outer := outer
 stack := envOfC qual scope s.heap.objs.size f cd :: outer
 ex := []
 calm := true
 fn := fun _ => true
 pn := []
 xe := fun e s' => wpAny (model P w) (A.deeper (envOfC qual scope s.heap.objs.size f cd)) (leaving (envOfC qual scope s.heap.objs.size f cd) e) (fun _ s'' => CX outer H s E e s'') (fun e' s'' => CX outer H s E e' s'') s'
theorem ZMj {sc : Scope} {n : Nat} {x : Str} (h : sc.names.lookup x = some .cell) : ∃ c, (cellsFrom n sc.names []).lookup x = some c := by
 have q := PySem.W.cellsFrom_some sc.names n [] (.inl h)
 exact Option.isSome_iff_exists.mp q
theorem ZPs {CX : CXT} {P : Program} {w : World} {K : W.Frag} {mg : Str → Option Value} {base : Heap} {N ps : List Str} {qual : Str} {scope : Scope} {f : Addr} {cd : Value} {A : Around} {outer : List Env} {s s1 : Shared} {H : Hp} {E : XK} {us : List Value} {vs : List V}
  (S : ZEV N ps scope) (hd : A.handled = none) (e0 : ZIR P w K mg base A outer s H) (hl : vs.length = ps.length) (r : ZEg vs us)
  (x : InCallC s s.heap.objs.size (bindL (envOfC qual scope s.heap.objs.size f cd).kindOf (ps.zip us) fun _ => none) (cellsFrom (s.heap.objs.size + 1) scope.names []) (bindC (envOfC qual scope s.heap.objs.size f cd).kindOf (ps.zip us) fun _ => none) s1) :
  Inv (ZJO CX P w K mg base N qual scope f cd A outer s H E) [] (start N vs) H s1 := by
 have hpl : ps.length ≤ N.length := by have := congrArg List.length S.pre; rw [List.length_take] at this; omega
 obtain ⟨h1, tk, rfl, hk⟩ := x.done
 have noA : ∀ b : Addr, b ∉ (ZJO CX P w K mg base N qual scope f cd A outer s H E).ex := fun b z => absurd (show b ∈ ([] : List Addr) from z) (by simp)
 refine ⟨⟨e0.mod, S.kind, rfl, rfl, Nat.le_refl _, fun y z c h1 h2 => ?_, fun y hy => ?_, fun y c _ h => ?_, fun _ => hd, Around.frames_deeper e0.frames, .inr ⟨rfl, rfl⟩, fun b z => absurd z (noA b), e0.bs, e0.bsz, fun b _ _ => noA b, fun b z => absurd z (noA b), e0.funs, e0.frf⟩,
  rfl, e0.bare, Un.kept hk, ⟨_, x.toInCall.ns, fun i y v h1 h2 h3 => ?_⟩, fun y c h => ⟨_, x.cell y c h⟩, e0.hok.fresh (Nat.le_refl _), fun y c h => ?_, fun p hp => absurd (show p ∈ ([] : List (Addr × Obj)) from hp) (by simp), e0.hok.kept hk, ?_⟩
 ·exact name_of_addr x.apart (PySem.mem_of_lookup h1) (PySem.mem_of_lookup h2)
 ·have hy : scope.names.lookup y = some .cell ∨ scope.names.lookup y = some .free := hy
  rcases hy with hy | hy
  ·exact ZMj hy
  ·exact absurd rfl (S.nofree _ (PySem.mem_of_lookup hy))
 ·exact Nat.le_of_lt (x.above y c (PySem.mem_of_lookup h))
 ·have hi : i < vs.length := by
   unfold start at h2
   by_cases hi : i < vs.length
   ·exact hi
   ·rw [List.getElem?_append_right (by simpa using hi)] at h2
    rw [List.getElem?_replicate] at h2
    split at h2 <;> cases h2
  have ha : vs[i]? = some v := by
   unfold start at h2
   rw [List.getElem?_append_left (by simpa using hi), List.getElem?_map] at h2
   cases e : vs[i]? with
   | none => rw [e] at h2; cases h2
   | some a => rw [e] at h2; cases h2; rfl
  obtain ⟨u, hu, rv⟩ := r.get ha
  have hp : ps[i]? = some y := by
   rw [← S.pre, List.getElem?_take_of_lt (by omega)]; exact h1
  have ndP : ps.Nodup := by rw [← S.pre]; exact S.nd.sublist (List.take_sublist _ _)
  refine ⟨u, rv, ?_⟩
  rcases S.par y (List.mem_of_getElem? hp) with k | k
  ·exact .inl ⟨k, ZLs ndP hp hu k⟩
  ·obtain ⟨c, e⟩ := ZMj (n := s.heap.objs.size + 1) k
   refine .inr ⟨.inl k, c, e, ?_⟩
   have q := x.cell y c e
   rw [ZLt ndP hp hu (by show scope.names.lookup y ≠ _; rw [k]; decide)] at q
   exact q
 ·exact e0.hok.fresh (Nat.le_of_lt (x.above y c (PySem.mem_of_lookup h)))
 ·unfold start
  show _ = N.length
  rw [List.length_append, List.length_map, List.length_replicate]
  omega
theorem ZOq {CX : CXT} {P : Program} {w : World} {K : W.Frag} {mg : Str → Option Value} {base : Heap} {k : Nat} {f : Addr} {name qual : Str} {params : Arguments} {body : List Stmt} {scope : Scope} {dV kV doc pm cdv ct oc : Value} {an od : Option Addr}
  {osl : Array (Option Value)} {N ps : List Str} {sp : Sp} (lk : K.lookup f = some ⟨oc, od, .func (W.fnOf name qual params body scope dV kV doc pm an cdv ct), osl⟩) (hcd : W.codeIn K cdv qual = true) (S : ZEV N ps scope)
  (len : ∀ vs H Q E, sp vs H Q E → vs.length = ps.length)
  (hbody : ∀ (A : Around) (outer : List Env) (s : Shared) (H : Hp) (vs : List V) (Q : VK) (E : XK), Room k (A.deeper (envOfC qual scope s.heap.objs.size f cdv)) → sp vs H Q E →
   ∃ t, PSs (ZJO CX P w K mg base N qual scope f cdv A outer s H E) body t ∧ t { nx := fun _ H' => Q .non H', rt := Q } (start N vs) H) :
  ZEW P w K mg base CX (k + 1) f (W.fnOf name qual params body scope dV kV doc pm an cdv ct) ps sp := by
 refine ⟨len, fun A outer s H args us vs Q E hr e0 hb r hsp => ?_⟩
 have hl := len _ _ _ _ hsp
 have KX : K.In s.heap := e0.mod.kin.keeps fun b o e => (e0.bs b o e).1
 have lim : s.heap.NoLimit := e0.mod.nolimit.keeps fun b o e => (e0.bs b o e).1
 have hkind : ∀ y ∈ ps.zip us, scope.names.lookup y.1 = some .local ∨ (scope.names.lookup y.1 = some .cell ∧ ((cellsFrom (s.heap.objs.size + 1) scope.names []).lookup y.1).isSome = true) := fun ⟨n, v⟩ hy => by
  rcases S.par n (List.of_mem_zip hy).1 with q | q
  ·exact .inl q
  ·exact .inr ⟨q, PySem.W.cellsFrom_some _ _ _ (.inl q)⟩
 refine codeAny_call_function hr.depth (KX _ _ lk) rfl S.co S.gen rfl (PySem.W.codeRec_of KX hcd) (hb _ _ _ _ ?_)
 refine wpAny_newFunctionEnv_cells S.kind hkind fun env he s1 x => ?_
 subst he
 refine ⟨lim.keeps x.toInCall.keep, codeAny_func ?_⟩
 obtain ⟨t, ht, hq⟩ := hbody A outer s H vs Q E (hr.deeper _) hsp
 have I : Inv (ZJO CX P w K mg base N qual scope f cdv A outer s H E) [] (start N vs) H s1 := ZPs S hr.hd e0 hl r x
 refine wpAny_mono (ht [] s1 (start N vs) H _ I hq) (fun fl s' hs => ?_) fun e s' hs => hs
 have fin : ∀ {σ' : St} {H' : Hp} {v : V} {u : Value}, Inv (ZJO CX P w K mg base N qual scope f cdv A outer s H E) [] σ' H' s' → ZEd v u → Q v H' → CE outer P w H s Q u s' :=
  fun {σ' H' v u} J rv q => ⟨v, H', J.os, J.bare, J.base, J.hok, rv, q⟩
 cases fl with
 | ret u =>
  obtain ⟨v, σ', H', J, rv, q⟩ := hs
  exact fin J rv q
 | next =>
  obtain ⟨σ', H', J, q⟩ := hs
  exact fin (v := V.non) (u := Value.none) J rfl q
 | brk =>
  obtain ⟨_, _, _, q⟩ := hs
  exact False.elim q
 | cont =>
  obtain ⟨_, _, _, q⟩ := hs
  exact False.elim q
section
variable {X : Cx} {x : Str} {p pos : Pos} {e : Expr} {es : List Expr} {t : TA} {id T : String} {r : List V → Hp → VK → Prop}
def tCB (r : List V → Hp → VK → Prop) (t : TA) : TE := fun σ H Q => t σ H fun vs H1 => r vs H1 Q
theorem ZRd (hc : ZFK X (.builtin id) r) (hg : Gl X x) (hm : X.mg x = none) (hv : bootBuiltins x = some (.builtin id)) (ha : PA X (e :: es) t) (hn : x ≠ "__name__" := by decide) (hdb : (x == ("__debug__" : Str)) = false := by decide)
  (he : starEach (e :: es) X.env = (false, eval e X.env) :: starEach es X.env := by rfl) (hpl : (backTo pos (starEach es X.env)).any (·.1) = false := by rfl) : PE X (.Call (.Name x p) (e :: es) [] pos) (tCB r t) := by
 intro pins s σ H Q I h
 refine wpAny_Call_Name_kw (ZHT I hg hm hv ?_ hn hdb)
 exact PyProof.Rows.callWith_builtin1 (thn (ha pos pins s σ H _ I h) fun us s1 ⟨vs, H1, I1, r1, q1⟩ => hc pins s1 σ H1 vs us Q I1 r1 q1) he hpl
theorem ZPt (hc : ZFK X (.type T) r) (hg : Gl X x) (hm : X.mg x = none) (hv : bootBuiltins x = some (.type T)) (ha : PA X (e :: es) t) (hn : x ≠ "__name__" := by decide) (hdb : (x == ("__debug__" : Str)) = false := by decide)
  (he : starEach (e :: es) X.env = (false, eval e X.env) :: starEach es X.env := by rfl) (hpl : (backTo pos (starEach es X.env)).any (·.1) = false := by rfl) : PE X (.Call (.Name x p) (e :: es) [] pos) (tCB r t) := by
 intro pins s σ H Q I h
 refine wpAny_Call_Name_kw (ZHT I hg hm hv ?_ hn hdb)
 exact PyProof.Rows.callWith_type1 (thn (ha pos pins s σ H _ I h) fun us s1 ⟨vs, H1, I1, r1, q1⟩ => hc pins s1 σ H1 vs us Q I1 r1 q1) he hpl
end
end L2
namespace HT
open PySem PyProof.Rows
section
open PySem.SeqAt
open PySem.AutoSeq1 (wpAny_loadPart')
open PySem.MeetsSeq PySem.MeetsSeq2 PySem.MeetsSeq3
end
section
variable {prog : Program} {w : World} {A : Around} {E : Value → Shared → Prop} {s : Shared}
def sIx (n d : Nat) : Option Int → Nat
 | none => d
 | some v => if v < 0 then (v + (n : Int)).toNat else min v.toNat n
theorem sIx_none (n d : Nat) : sIx n d none = d := rfl
theorem sIx_nat (n d k : Nat) : sIx n d (some (k : Int)) = min k n := by
 show (if (k : Int) < 0 then ((k : Int) + (n : Int)).toNat else min (k : Int).toNat n) = min k n
 rw [if_neg (by omega), Int.toNat_natCast]
theorem ZVj (n d : Nat) (hd : d ≤ n) (o : Option Int) : sIx n d o ≤ n := by
 cases o with
 | none => exact hd
 | some v =>
  show (if v < 0 then (v + (n : Int)).toNat else min v.toNat n) ≤ n
  by_cases hv : v < 0
  ·rw [if_pos hv]; omega
  ·rw [if_neg hv]; exact Nat.min_le_right _ _
theorem ZOH (v : Int) (n d : Nat) : (if v < 0 then max (v + (n : Int)) 0 else min v (n : Int)) = ((sIx n d (some v) : Nat) : Int) := by
 show (if v < 0 then max (v + (n : Int)) 0 else min v (n : Int)) = (((if v < 0 then (v + (n : Int)).toNat else min v.toNat n) : Nat) : Int)
 by_cases hv : v < 0
 ·simp only [if_pos hv]; omega
 ·simp only [if_neg hv]; omega
theorem ZOr (lo hi : Option Int) (n : Nat) : Builtin.Slice.sliceAdjust lo hi 1 (n : Int) = (((sIx n 0 lo : Nat) : Int), ((sIx n n hi : Nat) : Int)) := by
 have h1 : ¬ ((1 : Int) < 0) := by omega
 unfold Builtin.Slice.sliceAdjust
 simp only [h1, if_false]
 refine Prod.ext ?_ ?_
 ·cases lo with
  | none => rfl
  | some v => exact ZOH v n 0
 ·cases hi with
  | none => rfl
  | some v => exact ZOH v n n
theorem ZOs (i j : Nat) : Builtin.Slice.slicePlaces (i : Int) (j : Int) 1 = j - i := by
 unfold Builtin.Slice.slicePlaces
 have h1 : (1 : Int) > 0 := by omega
 simp only [h1, if_true, Int.ediv_one]
 split <;> omega
theorem ZKu {v : Value} {o : Option Int} {Q : Option Int → Shared → Prop} (p : IsPart v o) (h : Q o s) : wpAny (model prog w) A (Builtin.Slice.slicePartIndex v) Q E s := by
 cases p with
 | none => exact slicePart_none h
 | int i t => exact slicePart_int h
theorem sliceApplied_gen {sl : Addr} {vl vu : Value} {lo hi : Option Int} {n : Nat} {Q : Int × Int × Nat → Shared → Prop} (hs : s.heap.IsSliceOf sl vl vu .none) (pl : IsPart vl lo) (pu : IsPart vu hi)
  (h : Q (((sIx n 0 lo : Nat) : Int), 1, sIx n n hi - sIx n 0 lo) s) : wpAny (model prog w) A (Builtin.Slice.sliceApplied (.ref sl) (pure (n : Int))) Q E s := by
 obtain ⟨os, hos, hcs, hds⟩ := id hs
 unfold Builtin.Slice.sliceApplied Builtin.Slice.sliceFields
 refine wpAny_bind (wpAny_bind (wpAny_field hos hds (x := vl) rfl (wpAny_bind (wpAny_field hos hds (x := vu) rfl (wpAny_bind (wpAny_field hos hds (x := .none) rfl (wpAny_pure ?_)))))))
 refine wpAny_bind (slicePart_none ?_)
 show wpAny _ _ (if ((1 : Int) == 0) = true then _ else _) _ _ s
 rw [if_neg (by decide)]
 refine wpAny_bind (ZKu pl (wpAny_bind (ZKu pu (wpAny_bind (wpAny_pure ?_)))))
 show wpAny _ _ (match Builtin.Slice.sliceAdjust lo hi 1 (n : Int) with | (lo, hi) => pure (lo, (1 : Int), Builtin.Slice.slicePlaces lo hi 1)) _ _ s
 rw [ZOr lo hi n]
 show wpAny _ _ (pure (((sIx n 0 lo : Nat) : Int), (1 : Int), Builtin.Slice.slicePlaces ((sIx n 0 lo : Nat) : Int) ((sIx n n hi : Nat) : Int) 1)) _ _ s
 rw [ZOs]
 exact wpAny_pure h
theorem ZRe (xs : Array Value) (i k : Nat) : ((List.range k).filterMap fun (m : Nat) => xs[((i : Int) + (m : Int) * 1).toNat]?).toArray = ((xs.toList.drop i).take k).toArray := by
 have e : (fun (m : Nat) => xs[((i : Int) + (m : Int) * 1).toNat]?) = fun m => xs[i + m]? := by
  funext m
  have : ((i : Int) + (m : Int) * 1).toNat = i + m := by omega
  rw [this]
 rw [e]
 have := pick_run xs i k
 rw [List.filterMap_map] at this
 have e2 : ((fun x => xs[x]?) ∘ fun x => i + x) = fun m => xs[i + m]? := rfl
 rw [e2] at this
 rw [this]
theorem getItem_tuple_cut {t sl : Addr} {items : Array Value} {vl vu : Value} {lo hi : Option Int} {Q : Value → Shared → Prop} (ht : IsTup s.heap t items) (hs : s.heap.IsSliceOf sl vl vu .none) (pl : IsPart vl lo) (pu : IsPart vu hi)
  (hw : ¬ (sIx items.size 0 lo = 0 ∧ sIx items.size items.size hi = items.size))
  (h : Q (.ref s.heap.objs.size) { s with heap := s.heap.push { cls := .type "tuple", data := .seq ((items.toList.drop (sIx items.size 0 lo)).take (sIx items.size items.size hi - sIx items.size 0 lo)).toArray } })
  (hsz : items.size ≤ sizeLine) : wpAny (model prog w) A (getItem (.ref t) (.ref sl)) Q E s := by
 have htake : sizeOk (.seq ((items.toList.drop (sIx items.size 0 lo)).take (sIx items.size items.size hi - sIx items.size 0 lo)).toArray) := by
  show ((items.toList.drop (sIx items.size 0 lo)).take (sIx items.size items.size hi - sIx items.size 0 lo)).toArray.size ≤ sizeLine
  rw [List.size_toArray, List.length_take, List.length_drop, Array.length_toList]
  omega
 have hj : sIx items.size items.size hi ≤ items.size := ZVj _ _ (Nat.le_refl _) hi
 obtain ⟨os, hos, hcs, hds⟩ := id hs
 have hTs : s.TypeIs (.ref sl) "slice" := ⟨os, hos, hcs⟩
 unfold getItem
 try with_reducible refine wpAny_holding ?_
 first | refine wpAny_bind (wpAny_pure ?_) | skip
 refine wpAny_bind (wpAny_sequenceKey ht.typeIs (by decide) ?_)
 refine wpAny_bind (wpAny_callSpecial?_slot (name := Str.ofString "__getitem__") ht.typeIs PyProof.Rows.slot_tuple_getitem
  (wpAny_call_entry PyProof.Rows.slot_tuple_getitem ht.typeIs entry_tuple_getitem ?_ (args_tuple_getitem _ _)))
 show wpAny _ _ (Builtin.Tuple.tupleItemsOf (.ref t) >>= _) _ _ s
 refine wpAny_bind (tupleItemsOf_ ht ?_)
 refine wpAny_bind (wpAny_typeOf hTs ?_)
 rw [if_pos (by decide)]
 refine wpAny_bind (sliceApplied_gen hs pl pu ?_)
 have hno : ¬ ((((sIx items.size 0 lo : Nat) : Int) == 0 && (1 : Int) == 1 && (sIx items.size items.size hi - sIx items.size 0 lo) == items.size) = true) := by
  intro q
  rw [Bool.and_eq_true, Bool.and_eq_true] at q
  have q1 : ((sIx items.size 0 lo : Nat) : Int) = 0 := eq_of_beq q.1.1
  have q2 : sIx items.size items.size hi - sIx items.size 0 lo = items.size := eq_of_beq q.2
  exact hw ⟨by omega, by omega⟩
 show wpAny _ _ (if (((sIx items.size 0 lo : Nat) : Int) == 0 && (1 : Int) == 1 && (sIx items.size items.size hi - sIx items.size 0 lo) == items.size) = true then _ else _) _ _ s
 rw [if_neg hno, ZRe]
 first
  | exact wpAny_bind (m := Builtin.Tuple.tupleExact _) (wpAny_newObj_type (wpAny_pure ⟨_, rfl, wpAny_pure h⟩) htake)
  | exact wpAny_bind (m := Builtin.Tuple.tupleExact _) (wpAny_newObj_type (wpAny_bind (wpAny_pure (wpAny_pure ⟨_, rfl, wpAny_pure h⟩))) htake)
  | exact wpAny_bind (wpAny_bind (m := Builtin.Tuple.tupleExact _) (wpAny_newObj_type (wpAny_pure (wpAny_pure ⟨_, rfl, wpAny_pure h⟩)) htake))
  | exact wpAny_bind (wpAny_bind (m := Builtin.Tuple.tupleExact _) (wpAny_newObj_type (wpAny_pure ⟨_, rfl, wpAny_pure h⟩) htake))
end
end HT
namespace L2
open PySem PySem.Spec PyProof.Rows
abbrev TO := St → Hp → (Option Int → Hp → Prop) → Prop
def PO (X : Cx) (e : Option Expr) (t : TO) : Prop :=
 ∀ (pins : List (Addr × Obj)) (s : Shared) (σ : St) (H : Hp) (Q : Option Int → Hp → Prop), Inv X pins σ H s → t σ H Q →
  wpAny (model X.prog X.w) X.A (evalPart e X.env) (fun u s' => ∃ o H', Inv X pins σ H' s' ∧ IsPart u o ∧ Q o H') X.xe s
def ZLS : TO := fun _ H Q => Q none H
def ZOt (t : TE) : TO := fun σ H Q => t σ H fun x H1 => ∃ i, x = .int i ∧ Q (some i) H1
section
variable {X : Cx} {e : Expr} {te : TE} {lo hi : Option Expr} {tl th : TO} {pos p2 : Pos}
theorem ZTp : PO X none ZLS := by
 intro pins s σ H Q I h
 rw [evalPart_none]
 exact wpAny_pure ⟨none, H, I, .none, h⟩
theorem ZTq (h : PE X e te) : PO X (some e) (ZOt te) := by
 intro pins s σ H Q I hw
 rw [evalPart_some]
 refine thn (h pins s σ H _ I hw) fun u s1 ⟨x, H1, I1, r1, q1⟩ => ?_
 obtain ⟨i, rfl, q⟩ := q1
 obtain ⟨t, rfl⟩ := r1
 exact ⟨some i, H1, I1, .int i t, q⟩
def SlR (X : Cx) (r : V → Option Int → Option Int → Hp → VK → Prop) : Prop :=
 ∀ (pins : List (Addr × Obj)) (s : Shared) (σ : St) (H : Hp) (x : V) (v vl vu : Value) (lo hi : Option Int) (sl : Addr) (Q : VK), Inv X pins σ H s → ZEd x v → s.heap.IsSliceOf sl vl vu .none → IsPart vl lo → IsPart vu hi → r x lo hi H Q →
  ∃ T id, typeLookup (.type T) "__getitem__" = pure (some (.builtin id)) ∧ s.TypeIs v T ∧ wpAny (model X.prog X.w) X.A (getItem v (.ref sl)) (EP X pins σ Q) X.xe s
def tSl (r : V → Option Int → Option Int → Hp → VK → Prop) (te : TE) (tl th : TO) : TE := fun σ H Q => te σ H fun x H1 => tl σ H1 fun l H2 => th σ H2 fun u H3 => r x l u H3 Q
theorem ZRf {r : V → Option Int → Option Int → Hp → VK → Prop} (hr : SlR X r) (he : PE X e te) (hl : PO X lo tl) (hu : PO X hi th) : PE X (.Subscript e (.Slice lo hi none p2) pos) (tSl r te tl th) := by
 intro pins s σ H Q I h
 refine Subscript_ (thn (he pins s σ H _ I h) fun v s1 ⟨x, H1, I1, r1, q1⟩ => ?_)
 refine wpAny_Slice (thn (hl pins s1 σ H1 _ I1 q1) fun vl s2 ⟨l, H2, I2, pl, q2⟩ => thn (hu pins s2 σ H2 _ I2 q2) fun vu s3 ⟨u, H3, I3, pu, q3⟩ => ?_)
 rw [evalPart_none]
 refine wpAny_pure ?_
 have I4 : Inv X pins σ H3 { s3 with heap := s3.heap.push { cls := .type "slice", data := .fields #[vl, vu, .none] } } := I3.kept (t' := s3.toks) fun b ob q => Heap.get?_push_of_some _ q
 obtain ⟨T, id, hT, ht, hg⟩ := hr pins { s3 with heap := s3.heap.push { cls := .type "slice", data := .fields #[vl, vu, .none] } } σ H3 x v vl vu l u s3.heap.objs.size Q I4 r1 (Heap.IsSliceOf.new ..) pl pu q3
 show wpAny (model X.prog X.w) X.A (subscriptTail e (.Slice lo hi none p2) v (.ref s3.heap.objs.size)) (EP X pins σ Q) X.xe { s3 with heap := s3.heap.push { cls := .type "slice", data := .fields #[vl, vu, .none] } }
 exact tail_any (ops := [.ref s3.heap.objs.size, v]) ht hT hg (by with_unfolding_all rfl)
def ZGx (xs : List V) (lo hi : Option Int) : List V := (xs.drop (HT.sIx xs.length 0 lo)).take (HT.sIx xs.length xs.length hi - HT.sIx xs.length 0 lo)
theorem ZIS (xs : List V) (lo hi : Option Int) : (ZGx xs lo hi).length ≤ xs.length := by
 unfold ZGx
 rw [List.length_take, List.length_drop]
 omega
def ZXE (K : W.Frag) : V → Option Int → Option Int → Hp → VK → Prop := fun x lo hi H Q => ∃ a xs, x = .ref a ∧ SqT K H a xs ∧
 ¬ (HT.sIx xs.length 0 lo = 0 ∧ HT.sIx xs.length xs.length hi = xs.length) ∧ ∀ p, H p = none → Q (.ref p) (upd H p (.tup (ZGx xs lo hi)))
theorem ZVk : SlR X (ZXE X.K) := by
 intro pins s σ H x v vl vu lo hi sl Q I rx hs pl pu h
 obtain ⟨a, xs, rfl, hx, hw, q⟩ := h
 cases rx
 obtain ⟨its, r, ht, hz⟩ := I.tuple hx
 have hlen : its.toArray.size = xs.length := by rw [List.size_toArray]; exact r.length.symm
 refine ⟨"tuple", _, PyProof.Rows.slot_tuple_getitem.lookup, ht.typeIs, ?_⟩
 refine HT.getItem_tuple_cut ht hs pl pu (by rw [hlen]; exact hw) ?_ (by rw [hlen]; exact hz)
 rw [hlen]
 refine ⟨.ref s.heap.objs.size, _, I.laid (t' := s.toks) (o := .tup (ZGx xs lo hi)) (fun b ob q => Heap.get?_push_of_some _ q) (Nat.le_refl _) ?_, rfl, q _ (I.hok.fresh (Nat.le_refl _))⟩
 exact ⟨⟨Nat.le_trans (ZIS xs lo hi) hz, fun _ => ⟨_, Heap.get?_push_size _ rfl, rfl, rfl⟩⟩, _, (r.drop (HT.sIx xs.length 0 lo)).take (HT.sIx xs.length xs.length hi - HT.sIx xs.length 0 lo), IsTup.new _ _⟩
end
def ixN (n : Nat) (i : Int) : Option Nat := if 0 ≤ i then (if i < n then some i.toNat else none) else if -(n : Int) ≤ i then some (i + n).toNat else none
def atI {α : Type} (xs : List α) (i : Int) : Option α := (ixN xs.length i).bind fun j => xs[j]?
theorem ZOI {n : Nat} {i : Int} {j : Nat} (h : ixN n i = some j) : seqIndex? i n = some j ∧ j < n ∧ -(n : Int) ≤ i ∧ i < n := by
 unfold ixN at h
 by_cases h0 : 0 ≤ i
 ·rw [if_pos h0] at h
  by_cases h1 : i < n
  ·rw [if_pos h1] at h
   have e : i.toNat = j := Option.some.inj h
   exact ⟨by rw [seqIndex_of h0 h1, e], by omega, by omega, h1⟩
  ·rw [if_neg h1] at h; cases h
 ·rw [if_neg h0] at h
  by_cases h1 : -(n : Int) ≤ i
  ·rw [if_pos h1] at h
   have e : (i + n).toNat = j := Option.some.inj h
   exact ⟨by rw [seqIndex_neg (by omega) h1, e], by omega, h1, by omega⟩
  ·rw [if_neg h1] at h; cases h
theorem ZOJ {α : Type} {xs : List α} {i : Int} {v : α} (h : atI xs i = some v) : ∃ j, seqIndex? i xs.length = some j ∧ xs[j]? = some v ∧ j < xs.length ∧ -(xs.length : Int) ≤ i ∧ i < xs.length := by
 unfold atI at h
 cases e : ixN xs.length i with
 | none => rw [e] at h; cases h
 | some j =>
  rw [e] at h
  obtain ⟨h1, h2, h3, h4⟩ := ZOI e
  exact ⟨j, h1, h, h2, h3, h4⟩
theorem ZIb {α : Type} {xs : List α} {j : Nat} {v : α} (h : xs[j]? = some v) : atI xs (j : Int) = some v := by
 have hj : j < xs.length := (List.getElem?_eq_some_iff.mp h).1
 have e : ixN xs.length (j : Int) = some j := by
  unfold ixN
  rw [if_pos (by omega), if_pos (by omega)]; simp
 unfold atI; rw [e]; exact h
def ZOK (b : Expr) : Prop := ∀ o i, subscripted b false o i = operate [o, i] (getItem o i)
def IxR (X : Cx) (r : R2) : Prop :=
 ∀ (value slice : Expr) (pins : List (Addr × Obj)) (s : Shared) (σ : St) (H : Hp) (x y : V) (v u : Value) (Q : VK), Inv X pins σ H s → ZEd x v → ZEd y u → r x y H Q →
  subscripted slice false v u = operate [v, u] (getItem v u) → wpAny (model X.prog X.w) X.A (subscriptTail value slice v u) (EP X pins σ Q) X.xe s
def MtR (X : Cx) (id : String) (r : V → List V → Hp → VK → Prop) : Prop :=
 ∀ (pins : List (Addr × Obj)) (s : Shared) (σ : St) (H : Hp) (x : V) (xs : List V) (v : Value) (us : List Value) (Q : VK), Inv X pins σ H s → ZEd x v → ZEg xs us → r x xs H Q →
  wpAny (model X.prog X.w) X.A (call (.builtin id) (v :: us)) (EP X pins σ Q) X.xe s
section
variable {X : Cx} {a b : Expr} {ta tb : TE} {pos : Pos}
theorem ZWt {r : R2} (hr : IxR X r) (ha : PE X a ta) (hb : PE X b tb) (hs : ZOK b) : PE X (.Subscript a b pos) (tOp r ta tb) := by
 intro pins s σ H Q I h
 exact Subscript_ (ZRP ha hb I h fun v u s2 x y H2 I2 rx ry q => hr a b pins s2 σ H2 x y v u Q I2 rx ry q (hs _ _))
def ZOu (K : W.Frag) : R2 := fun x y H Q => ∃ p xs i v, x = .ref p ∧ y = .int i ∧ SqL K H p xs ∧ atI xs i = some v ∧ Q v H
def ZRg (K : W.Frag) : R2 := fun x y H Q => ∃ p xs i v, x = .ref p ∧ y = .int i ∧ SqT K H p xs ∧ atI xs i = some v ∧ Q v H
theorem ZTr : IxR X (ZOu X.K) := by
 intro value slice pins s σ H x y v u Q I rx ry h hs
 obtain ⟨p, xs, i, z, rfl, rfl, hq, he, q⟩ := h
 cases rx
 obtain ⟨t, rfl⟩ := ry
 obtain ⟨its, r, pl, hz⟩ := I.list hq
 obtain ⟨j, h1, h2, h3, h4, h5⟩ := ZOJ he
 obtain ⟨w, ew, rw'⟩ := r.get h2
 have hl := r.length
 have hn := ZKo
 have fin : EP X pins σ Q w s := ⟨z, H, I, rw', q⟩
 by_cases h0 : 0 ≤ i
 ·have hj : i.toNat = j := by
   rw [seqIndex_of h0 h5] at h1
   exact Option.some.inj h1
  exact item_listR pl.isList h0 (by omega) (by rw [hj]; simpa using ew) fin hs
 ·have hj : (i + (its.toArray.size : Int)).toNat = j := by
   rw [seqIndex_neg (by omega) h4] at h1
   rw [List.size_toArray, ← hl]
   exact Option.some.inj h1
  exact subscriptTail_builtinR (x := w) pl.isList.typeIs slot_list_getitem.lookup
   (wpAny_getItem_list_neg (Q := fun r s' => r = w ∧ EP X pins σ Q r s') pl.isList (by omega) (by rw [List.size_toArray] <;> omega) (by omega) (by rw [hj]; simpa using ew) ⟨rfl, fin⟩) hs
theorem ZVl : IxR X (ZRg X.K) := by
 intro value slice pins s σ H x y v u Q I rx ry h hs
 obtain ⟨p, xs, i, z, rfl, rfl, hq, he, q⟩ := h
 cases rx
 obtain ⟨t, rfl⟩ := ry
 obtain ⟨its, r, pl, hz⟩ := I.tuple hq
 obtain ⟨j, h1, h2, h3, h4, h5⟩ := ZOJ he
 obtain ⟨w, ew, rw'⟩ := r.get h2
 have hl := r.length
 have hn := ZKo
 have fin : EP X pins σ Q w s := ⟨z, H, I, rw', q⟩
 exact subscriptTail_builtinR (x := w) pl.typeIs slot_tuple_getitem.lookup
  (getItem_tuple (j := j) (Q := fun r s' => r = w ∧ EP X pins σ Q r s') pl (by omega) (by omega) (by rw [List.size_toArray, ← hl]; exact h1) (by simpa using ew) ⟨rfl, fin⟩) hs
theorem ZOv (its : List Value) (n j : Nat) (u : Value) : Obj.mapSeq (·.setIfInBounds j u) { cls := .type "list", data := .seq its.toArray n } = { cls := .type "list", data := .seq (its.set j u).toArray n } := by
 simp [Obj.mapSeq]
theorem Inv.lst {pins : List (Addr × Obj)} {σ : St} {H : Hp} {s : Shared} {p : Addr} {xs : List V} (I : Inv X pins σ H s) (h : H p = some (.lst xs)) :
  ∃ (its : List Value) (n : Nat), ZEg xs its ∧ s.heap.get? p = some { cls := .type "list", data := .seq its.toArray n } ∧ xs.length ≤ sizeLine := by
 obtain ⟨z, its, n, r, e⟩ := I.hok p _ h
 exact ⟨its, n, r, e, z⟩
theorem Inv.lstUpd {pins : List (Addr × Obj)} {σ : St} {H : Hp} {s : Shared} {p : Addr} {xs ys : List V} {its its' : List Value} {n n' : Nat} {f : Obj → Obj} (I : Inv X pins σ H s) (h : H p = some (.lst xs))
  (ho : s.heap.get? p = some { cls := .type "list", data := .seq its.toArray n }) (hf : f { cls := .type "list", data := .seq its.toArray n } = { cls := .type "list", data := .seq its'.toArray n' }) (r : ZEg ys its') (hz : ys.length ≤ sizeLine) (t : Nat) :
  Inv X pins σ (upd H p (.lst ys)) { s with heap := s.heap.update p f, toks := t } := by
 have e : (s.heap.update p f).get? p = some { cls := .type "list", data := .seq its'.toArray n' } := by
  rw [Heap.get?_update_self f ho (by rw [hf] <;> rfl), hf]
 refine I.write (x := p) (e := p) (by rw [h]; trivial) (.inl rfl) (fun b u hb q => (Heap.get?_update_other _ _ (Ne.symm hb)).trans q) ⟨_, e⟩ ?_
 exact ⟨hz, its', n', r, e⟩
def ZTC : V → V → V → Hp → (Hp → Prop) → Prop := fun o i v H Q => ∃ p xs k j, o = .ref p ∧ i = .int k ∧ H p = some (.lst xs) ∧ ixN xs.length k = some j ∧ Q (upd H p (.lst (xs.set j v)))
theorem ZMk : ZRG X ZTC := by
 intro pins s σ H o i v ov iv u Q I ro ri rv h
 obtain ⟨p, xs, k, j, rfl, rfl, hp, hj, q⟩ := h
 cases ro
 obtain ⟨t, rfl⟩ := ri
 obtain ⟨its, n, r, ho, hz⟩ := I.lst hp
 obtain ⟨h1, h2, h3, h4⟩ := ZOI hj
 have hl := r.length
 have hn := ZKo
 have I' : Inv X pins σ (upd H p (.lst (xs.set j v))) { s with heap := s.heap.update p (Obj.mapSeq (·.setIfInBounds j u)) } :=
  I.lstUpd hp ho (ZOv its n j u) (r.set rv j) (by rw [List.length_set]; exact hz) s.toks
 by_cases h0 : 0 ≤ k
 ·have hk : k.toNat = j := by
   rw [seqIndex_of h0 h4] at h1
   exact Option.some.inj h1
  exact PySem.W.ki_setAt ho h0 (by omega) (by rw [List.size_toArray, ← hl]; exact h4) (by rw [hk]; exact ⟨_, I', q⟩)
 ·have hk : (k + (its.toArray.size : Int)).toNat = j := by
   rw [seqIndex_neg (by omega) h3] at h1
   rw [List.size_toArray, ← hl]
   exact Option.some.inj h1
  exact PySem.W.ki_setBack ho (by omega) (by rw [List.size_toArray, ← hl]; exact h3) (by omega) (by rw [hk]; exact ⟨_, I', q⟩)
theorem ZMl (lo hi : Option Int) (n : Nat) : (sliceBounds lo hi none n).1 = ((HT.sIx n 0 lo : Nat) : Int) ∧ (sliceBounds lo hi none n).2.1 = ((HT.sIx n n hi : Nat) : Int) ∧ (sliceBounds lo hi none n).2.2 = 1 := by
 refine ⟨?_, ?_, rfl⟩
 ·cases lo with
  | none => simp [sliceBounds, HT.sIx]
  | some i =>
   simp only [sliceBounds, HT.sIx, Option.getD_none, show (1 : Int) > 0 by decide, if_true]
   by_cases h : i < 0
   ·simp only [h, if_true] <;> omega
   ·simp only [h, if_false] <;> omega
 ·cases hi with
  | none => simp [sliceBounds, HT.sIx]
  | some i =>
   simp only [sliceBounds, HT.sIx, Option.getD_none, show (1 : Int) > 0 by decide, if_true]
   by_cases h : i < 0
   ·simp only [h, if_true] <;> omega
   ·simp only [h, if_false] <;> omega
theorem ZL9 (its : List Value) (lo hi : Option Int) : slicePick its.toArray lo hi none = ((its.drop (HT.sIx its.length 0 lo)).take (HT.sIx its.length its.length hi - HT.sIx its.length 0 lo)).toArray := by
 obtain ⟨h1, h2, h3⟩ := ZMl lo hi its.toArray.size
 unfold slicePick
 rw [h1, h2, h3]
 simp only [sliceRange_one, pick_run, List.size_toArray] <;> rfl
def ZRh (K : W.Frag) : V → Option Int → Option Int → Hp → VK → Prop := fun x lo hi H Q => ∃ a xs, x = .ref a ∧ SqL K H a xs ∧ ∀ p, H p = none → Q (.ref p) (upd H p (.lst (ZGx xs lo hi)))
theorem ZTs : SlR X (ZRh X.K) := by
 intro pins s σ H x v vl vu lo hi sl Q I rx hs pl pu h
 obtain ⟨a, xs, rfl, hx, q⟩ := h
 cases rx
 obtain ⟨its, r, ht, hz⟩ := I.list hx
 have hlen := r.length
 refine ⟨"list", _, slot_list_getitem.lookup, ht.isList.typeIs, ?_⟩
 refine wpAny_getItem_list_slice ht.isList hs pl pu .none (by simp) ?_ (by rw [List.size_toArray] <;> omega)
 rw [ZL9, ← hlen]
 refine ⟨.ref s.heap.objs.size, _, I.laid (t' := s.toks) (o := .lst (ZGx xs lo hi)) (fun b ob q => Heap.get?_push_of_some _ q) (Nat.le_refl _) ?_, rfl, q _ (I.hok.fresh (Nat.le_refl _))⟩
 exact ⟨Nat.le_trans (ZIS xs lo hi) hz, _, 0, (r.drop (HT.sIx xs.length 0 lo)).take (HT.sIx xs.length xs.length hi - HT.sIx xs.length 0 lo), Heap.get?_push_size _ rfl⟩
def ZHM : V → Bool
 | .non => true
 | .bl _ => true
 | .int _ => true
 | .str _ => true
 | _ => false
def eqV : V → V → Bool
 | .non, .non => true
 | .bl a, .bl b => a == b
 | .bl a, .int b => (if a then 1 else 0) == b
 | .int a, .bl b => a == (if b then 1 else 0)
 | .int a, .int b => a == b
 | .str a, .str b => a == b
 | _, _ => false
theorem ZVm {A : Around} {s : Shared} {y x : V} {u v : Value} (ry : ZEd y u) (rx : ZEd x v) (fy : ZHM y = true) (fx : ZHM x = true) : SeqAt.EqAt A s u v (eqV y x) := by
 cases y with
 | non =>
  cases ry
  cases x with
  | non => cases rx; exact SeqAt.EqAt.same _
  | bl b => cases rx; exact SeqAt.EqAt.none_bool b
  | int b => obtain ⟨t, rfl⟩ := rx; exact SeqAt.EqAt.none_int b t
  | str b => obtain ⟨t, rfl⟩ := rx; exact SeqAt.EqAt.none_str b t
  | _ => exact absurd (show false = true from fx) Bool.false_ne_true
 | bl a =>
  cases ry
  cases x with
  | non => cases rx; exact SeqAt.EqAt.bool_none a
  | bl b => cases rx; exact SeqAt.EqAt.bool_bool a b
  | int b => obtain ⟨t, rfl⟩ := rx; exact SeqAt.EqAt.bool_int a b t
  | str b => obtain ⟨t, rfl⟩ := rx; exact SeqAt.EqAt.bool_str a b t
  | _ => exact absurd (show false = true from fx) Bool.false_ne_true
 | int a =>
  obtain ⟨t', rfl⟩ := ry
  cases x with
  | non => cases rx; exact SeqAt.EqAt.int_none a t'
  | bl b => cases rx; exact SeqAt.EqAt.int_bool a t' b
  | int b => obtain ⟨t, rfl⟩ := rx; exact SeqAt.EqAt.int_int a t' b t
  | str b => obtain ⟨t, rfl⟩ := rx; exact SeqAt.EqAt.int_str a t' b t
  | _ => exact absurd (show false = true from fx) Bool.false_ne_true
 | str a =>
  obtain ⟨t', rfl⟩ := ry
  cases x with
  | non => cases rx; exact SeqAt.EqAt.str_none a t'
  | bl b => cases rx; exact SeqAt.EqAt.str_bool a t' b
  | int b => obtain ⟨t, rfl⟩ := rx; exact SeqAt.EqAt.str_int a t' b t
  | str b => obtain ⟨t, rfl⟩ := rx; exact SeqAt.EqAt.str_str a t' b t
  | _ => exact absurd (show false = true from fx) Bool.false_ne_true
 | _ => exact absurd (show false = true from fy) Bool.false_ne_true
def eqU (x : V) (u : Value) : Bool := match u with
 | .none => eqV .non x
 | .bool b => eqV (.bl b) x
 | .int i _ => eqV (.int i) x
 | .str z _ => eqV (.str z) x
 | _ => false
theorem ZPu {x y : V} {u : Value} (r : ZEd y u) (f : ZHM y = true) : eqU x u = eqV y x := by
 cases y with
 | non => cases r; rfl
 | bl b => cases r; rfl
 | int i => obtain ⟨t, rfl⟩ := r; rfl
 | str z => obtain ⟨t, rfl⟩ := r; rfl
 | _ => exact absurd (show false = true from f) Bool.false_ne_true
theorem ZLT {x : V} : ∀ {xs : List V} {us : List Value}, ZEg xs us → xs.all ZHM = true → us.any (eqU x) = xs.any fun y => eqV y x
 | _, _, .nil, _ => rfl
 | y :: xs, u :: us, .cons r t, f => by
  rw [List.all_cons, Bool.and_eq_true] at f
  rw [List.any_cons, List.any_cons, ZPu r f.1, ZLT t f.2]
theorem ZKK {A : Around} {s : Shared} {x : V} {v : Value} (rx : ZEd x v) (fx : ZHM x = true) : ∀ {xs : List V} {us : List Value}, ZEg xs us → xs.all ZHM = true → ∀ u ∈ us, SeqAt.EqAt A s u v (eqU x u)
 | _, _, .nil, _ => fun u hu => by cases hu
 | y :: xs, u :: us, .cons r t, f => fun u' hu => by
  rw [List.all_cons, Bool.and_eq_true] at f
  rcases List.mem_cons.mp hu with rfl | hu
  ·rw [ZPu r f.1]; exact ZVm r rx f.1 fx
  ·exact ZKK rx fx t f.2 u' hu
def inV (x : V) (xs : List V) : Bool := xs.any fun y => eqV y x
def rIn (K : W.Frag) (neg : Bool) : R2 := fun x y H Q => ∃ p xs, y = .ref p ∧ (SqL K H p xs ∨ SqT K H p xs) ∧ ZHM x = true ∧ xs.all ZHM = true ∧ Q (.bl (if neg then !inV x xs else inV x xs)) H
theorem ZPv : OpR X (compareOp .In) (rIn X.K false) := by
 intro pins s σ H x y v u Q I rx ry h
 obtain ⟨p, xs, rfl, hq, fx, fs, q⟩ := h
 cases ry
 rcases hq with hq | hq
 ·obtain ⟨its, r, pl, hz⟩ := I.list hq
  refine SeqAt.in_listAt (eqU x) pl.isList (fun w hw => ZKK rx fx r fs w (by simpa using hw)) ⟨.bl _, H, I, rfl, ?_⟩
  rw [show its.toArray.any (eqU x) = its.any (eqU x) by simp, ZLT r fs]
  exact q
 ·obtain ⟨its, r, pl, hz⟩ := I.tuple hq
  refine SeqAt.in_tupleAt (eqU x) pl (fun w hw => ZKK rx fx r fs w (by simpa using hw)) ⟨.bl _, H, I, rfl, ?_⟩
  rw [show its.toArray.any (eqU x) = its.any (eqU x) by simp, ZLT r fs]
  exact q
theorem ZMm : ZFK X (.builtin "len") (fun xs H Q => ∃ p ys, xs = [.ref p] ∧ (SqL X.K H p ys ∨ SqT X.K H p ys) ∧ Q (.int ys.length) H) := by
 intro pins s σ H xs us Q I r h
 obtain ⟨p, ys, rfl, hq, q⟩ := h
 obtain ⟨u, rfl, rx⟩ := ZOl r
 cases rx
 have hn := ZKo
 rcases hq with hq | hq
 ·obtain ⟨its, r', pl, hz⟩ := I.list hq
  have hlen := r'.length
  exact Calls.call_len_list pl.isList (by simp only [List.size_toArray] <;> omega) ⟨.int ys.length, H, I.tok _, ⟨s.toks + 1, by rw [List.size_toArray, hlen]⟩, q⟩
 ·obtain ⟨its, r', pl, hz⟩ := I.tuple hq
  have hlen := r'.length
  exact len_tuple pl (by simp only [List.size_toArray] <;> omega) ⟨.int ys.length, H, I.tok _, ⟨s.toks + 1, by rw [List.size_toArray, hlen]⟩, q⟩
theorem ZMA : ZFK X (.type "tuple") (fun xs H Q => ∃ p ys, xs = [.ref p] ∧ ((SqL X.K H p ys ∧ ∀ l, H l = none → Q (.ref l) (upd H l (.tup ys))) ∨ (SqT X.K H p ys ∧ Q (.ref p) H))) := by
 intro pins s σ H xs us Q I r h
 obtain ⟨p, ys, rfl, h⟩ := h
 obtain ⟨u, rfl, rx⟩ := ZOl r
 cases rx
 rcases h with ⟨hq, q⟩ | ⟨hq, q⟩
 ·obtain ⟨its, r', pl, hz⟩ := I.list hq
  have hlen := r'.length
  refine call_tuple_list pl.isList (fun h' kp => ?_) (by simp only [List.size_toArray] <;> omega)
  have I1 : Inv X pins σ H { s with heap := h' } := I.kept (t' := s.toks) kp
  have I2 : Inv X pins σ (upd H h'.objs.size (.tup ys)) { s with heap := h'.push { cls := .type "tuple", data := .seq its.toArray } } :=
   I1.laid (t' := s.toks) (fun b o e => Heap.get?_push_of_some _ e) (Nat.le_refl _) (show ZE3 X.prog X.w _ _ _ (.tup ys) from ⟨⟨hz, fun _ => ⟨_, Heap.get?_push_size _ rfl, rfl, rfl⟩⟩, its, r', IsTup.new _ _⟩)
  exact ⟨.ref h'.objs.size, _, I2, rfl, q _ (I1.hok.fresh (Nat.le_refl _))⟩
 ·obtain ⟨its, r', pl, hz⟩ := I.tuple hq
  exact call_tuple_same pl ⟨.ref p, H, I, rfl, q⟩
def tyV (K : W.Frag) (T : String) (x : V) (H : Hp) : Prop := match x with
 | .str _ => T = "str"
 | .int _ => T = "int"
 | .ref p => (T = "list" ∧ ∃ xs, SqL K H p xs) ∨ (T = "tuple" ∧ ∃ o, K.lookup p = some o ∧ o.cls = .type "tuple" ∧ o.dict = none) ∨
  (T = "dict" ∧ ((∃ kvs, H p = some (.dK kvs)) ∨ ∃ kvs, H p = some (.dT kvs))) ∨ (T = "set" ∧ ∃ S n, H p = some (.set S n))
 | _ => False
theorem ZVn {pins : List (Addr × Obj)} {σ : St} {H : Hp} {s : Shared} {T : String} {x : V} {v : Value} (I : Inv X pins σ H s) (r : ZEd x v) (ty : tyV X.K T x H) :
  s.TypeIs v T ∧ ∀ a, v = .ref a → ∃ ob, s.heap.get? a = some ob ∧ ob.dict = none := by
 cases x with
 | str z =>
  obtain ⟨t, rfl⟩ := r
  cases (show T = "str" from ty)
  exact ⟨typeIs_str s z t, fun _ e => nomatch e⟩
 | int i =>
  obtain ⟨t, rfl⟩ := r
  cases (show T = "int" from ty)
  exact ⟨typeIs_int s i t, fun _ e => nomatch e⟩
 | ref p =>
  cases r
  rcases ty with ⟨rfl, xs, hq⟩ | ⟨rfl, o, hk, hc, hd⟩ | ⟨rfl, hk⟩ | ⟨rfl, S, n, hk⟩
  ·obtain ⟨its, _, pl, _⟩ := I.list hq
   refine ⟨pl.isList.typeIs, fun a e => ?_⟩
   cases e
   obtain ⟨o, n, e, c, hd, _⟩ := pl
   exact ⟨o, e, hd⟩
  ·refine ⟨⟨o, I.kIn p o hk, hc⟩, fun a e => ?_⟩
   cases e
   exact ⟨o, I.kIn _ o hk, hd⟩
  ·have z : ∃ o, s.heap.get? p = some o ∧ o.ExactDict := by
    rcases hk with ⟨kvs, hk⟩ | ⟨kvs, hk⟩
    ·obtain ⟨_, _, _, _, o, _, _, e, ex, _⟩ := I.hok p _ hk
     exact ⟨o, e, ex⟩
    ·obtain ⟨_, _, _, _, o, _, _, e, ex, _⟩ := I.hok p _ hk
     exact ⟨o, e, ex⟩
   obtain ⟨o, e, ex⟩ := z
   refine ⟨⟨o, e, ex.1⟩, fun a e2 => ?_⟩
   cases e2
   exact ⟨o, e, ex.2.1⟩
  ·obtain ⟨o, _, _, _, e, ex, _⟩ := I.hok p _ hk
   refine ⟨⟨o, e, ex.1⟩, fun a e2 => ?_⟩
   cases e2
   exact ⟨o, e, ex.2.1⟩
 | _ => exact False.elim ty
def tBM (K : W.Frag) (T : String) (r : V → List V → Hp → VK → Prop) (to : TE) (t : TA) : TE := fun σ H Q => to σ H fun x H1 => tyV K T x H1 ∧ t σ H1 fun xs H2 => r x xs H2 Q
variable {o e : Expr} {es : List Expr} {to : TE} {t : TA} {name : Str} {apos cpos : Pos} {T id : String} {r : V → List V → Hp → VK → Prop}
theorem ZWu (pa : PlainAttrs T) (slot : Slot T name id) (hty : typeOf (.builtin id) = pure (.type "method_descriptor")) (hm : MtR X id r) (ho : PE X o to) (ha : PA X (e :: es) t)
  (hbase : attributeBase o name X.env (eval o X.env) = eval o X.env := by rfl)
  (hfew : ((backTo cpos (starEach (e :: es) X.env)).all (fun x => !x.1) && (backToKw cpos (keywordEach [] X.env)).all (fun x => x.1.isSome)
   && decide ((e :: es).length + ([] : List Keyword).length + (if ([] : List Keyword).isEmpty then 0 else 1) < 30)) = true := by rfl)
  (hline : (apos.endLine == cpos.line) = true := by rfl) (hs : starEach (e :: es) X.env = (false, eval e X.env) :: starEach es X.env := by rfl) (hplain : (backTo cpos (starEach es X.env)).any (·.1) = false := by rfl) :
  PE X (.Call (.Attribute o name apos) (e :: es) [] cpos) (tBM X.K T r to t) := by
 intro pins s σ H Q I h
 refine wpAny_Call_method_late hbase hfew hline rfl (thn (ho pins s σ H _ I h) fun v s1 ⟨x, H1, I1, r1, ty, q1⟩ => ?_)
 obtain ⟨h1, h2⟩ := ZVn I1 r1 ty
 refine ⟨T, id, pa, slot, hty, h1, h2, ?_⟩
 have hA := ha cpos pins s1 σ H1 _ I1 q1
 rw [hs] at hA ⊢
 refine Calls.callWith_builtin (by show (false || (backTo cpos (starEach es X.env)).any (·.1)) = false; rw [hplain] <;> rfl) (Calls.evalArgs_plain ?_)
 exact thn hA fun us s2 ⟨vs, H2, I2, r2, q2⟩ => hm pins s2 σ H2 x vs v us Q I2 r1 r2 q2
/- xs.append(e), list.index on a module's tuple .. are MtR facts of 06m -/
end
def MtM (X : Cx) (id : String) (r : V → List V → Hp → VK → Prop) : Prop :=
 ∀ (pins : List (Addr × Obj)) (s : Shared) (σ : St) (H : Hp) (x : V) (xs : List V) (v : Value) (us : List Value) (Q : VK), Inv X pins σ H s → ZEd x v → ZEg xs us → r x xs H Q →
  wpAny (model X.prog X.w) X.A (call (.builtin id) (v :: us)) (EP X pins σ Q) X.xe s
theorem ZEg.one : ∀ {x : V} {us : List Value}, ZEg [x] us → ∃ u, us = [u] ∧ ZEd x u
 | _, _, .cons r .nil => ⟨_, rfl, r⟩
theorem ZEg.two : ∀ {x y : V} {us : List Value}, ZEg [x, y] us → ∃ u v, us = [u, v] ∧ ZEd x u ∧ ZEd y v
 | _, _, _, .cons r (.cons q .nil) => ⟨_, _, rfl, r, q⟩
section
variable {X : Cx} {pins : List (Addr × Obj)} {σ : St} {H : Hp} {s : Shared} {l b : Addr} {xs ys zs : List V}
theorem Inv.lset {its its' : List Value} {n : Nat} {f : Array Value → Array Value} {t' : Nat} (I : Inv X pins σ H s) (hH : H l = some (.lst xs))
  (e : s.heap.get? l = some { cls := .type "list", data := .seq its.toArray n }) (hf : f its.toArray = its'.toArray) (hv : ZEg ys its') (hz : ys.length ≤ sizeLine) :
  Inv X pins σ (upd H l (.lst ys)) { s with heap := s.heap.update l (Obj.mapSeq f), toks := t' } := by
 have q := PySem.IsL.update e f
 rw [hf] at q
 refine I.write (x := l) (e := l) (by rw [hH]; exact trivial) (.inl rfl) (fun b' u hb hu => (Heap.get?_update_other s.heap (Obj.mapSeq f) (Ne.symm hb)).trans hu) ⟨_, q⟩ ?_
 exact ⟨hz, its', _, hv, q⟩
theorem Inv.lnew {its : List Value} {t' : Nat} (I : Inv X pins σ H s) (hv : ZEg ys its) (hz : ys.length ≤ sizeLine) :
  Inv X pins σ (upd H s.heap.objs.size (.lst ys)) { s with heap := s.heap.push { cls := .type "list", data := .seq its.toArray }, toks := t' } :=
 I.laid (fun _ _ q => Heap.get?_push_of_some _ q) (Nat.le_refl _) ⟨hz, its, 0, hv, Heap.get?_push_size _ rfl⟩
theorem Inv.fresh (I : Inv X pins σ H s) : H s.heap.objs.size = none := I.hok.fresh (Nat.le_refl _)
theorem Inv.lstM (I : Inv X pins σ H s) (hH : H l = some (.lst xs)) : xs.length ≤ sizeLine ∧ ∃ (its : List Value) (n : Nat), ZEg xs its ∧ xs.length = its.length ∧ s.heap.get? l = some { cls := .type "list", data := .seq its.toArray n } := by
 obtain ⟨z, its, n, r, e⟩ := I.hok l _ hH
 exact ⟨z, its, n, r, r.length, e⟩
end
section
variable {X : Cx}
def ZOL : V → List V → Hp → VK → Prop := fun x vs H Q => ∃ l xs y, x = .ref l ∧ vs = [y] ∧ H l = some (.lst xs) ∧ xs.length < sizeLine ∧ Q .non (upd H l (.lst (xs ++ [y])))
theorem ZH9 : MtM X "list.append" ZOL := by
 intro pins s σ H x vs v us Q I rx rv h
 obtain ⟨l, xs, y, rfl, rfl, hH, hz, q⟩ := h
 cases rx
 obtain ⟨u, rfl, ru⟩ := rv.one
 obtain ⟨z, its, n, r, hl, e⟩ := I.lstM hH
 refine call_meets F.slot_list_append ⟨_, e, rfl⟩ F.entry_list_append (F.args_list_append_2 _ _) (PySem.list_append l its.toArray n u (by rw [List.size_toArray]; omega)) ⟨e, ?_⟩
 refine ⟨.non, _, I.lset (its' := its ++ [u]) hH e (by simp) (r.append (.cons ru .nil)) ?_, rfl, q⟩
 rw [List.length_append, List.length_singleton]
 omega
def ZVo : R2 := fun x y H Q => ∃ l b xs zs, x = .ref l ∧ y = .ref b ∧ H l = some (.lst xs) ∧ H b = some (.lst zs) ∧ xs.length + zs.length ≤ sizeLine ∧ ∀ p, H p = none → Q (.ref p) (upd H p (.lst (xs ++ zs)))
theorem ZVp : OpR X (binaryOp .Add) ZVo := by
 intro pins s σ H x y v u Q I rx ry h
 obtain ⟨l, b, xs, zs, rfl, rfl, hH, hB, hz, q⟩ := h
 cases rx
 cases ry
 obtain ⟨z, its, n, r, hl, e⟩ := I.lstM hH
 obtain ⟨z2, its2, n2, r2, hl2, e2⟩ := I.lstM hB
 refine PySem.P.add_list e e2 ?_ (by rw [List.size_toArray, List.size_toArray]; omega)
 have ea : its.toArray ++ its2.toArray = (its ++ its2).toArray := by simp
 rw [ea]
 exact ⟨.ref _, _, I.lnew (t' := s.toks) (r.append r2) (by rw [List.length_append]; omega), rfl, q _ I.fresh⟩
end
section
variable {prog : Program} {w : World} {A : Around} {E : Value → Shared → Prop} {s : Shared}
end
section
variable {X : Cx}
end
end L2
namespace Att
open PySem PySem.W PySem.Calls PyProof.Rows
theorem ZKv {P : Params} {h : Heap} : ∀ (ns : List Int) (vs : List Value), WellAll P h vs (ns.map WData.int) → IntsAre vs ns := by
 intro ns
 induction ns with
 | nil =>
  intro vs w
  rw [List.map_nil] at w
  cases w
  exact .nil
 | cons n ns ih =>
  intro vs w
  rw [List.map_cons] at w
  cases w with
  | cons a b =>
   cases a
   exact .cons _ _ (ih _ b)
theorem ZPw {l : OpenLaw} {n : Nat} (hn : l.most = some n) {P : Params} {h : Heap} {args : List WData} {vals : List Value}
  (hpre : l.row.toRowW.claim.pre args = true) (hwl : WellAll P h vals args) :
  ∃ a vs ns, vals = [Value.ref a] ∧ args = [WData.list (ns.map WData.int)] ∧ h.get? a = some { cls := .type "list", data := .seq vs.toArray } ∧ IntsAre vs ns ∧ ns.length ≤ n := by
 have hsh : WShape.hasAll [] args [.list .int] = true := (pre_splitW hpre).1
 have hc : l.pre.holds [] { args := args } = true := (pre_splitW hpre).2
 obtain ⟨d, r, rfl, h1, h2⟩ := hasAllW_cons hsh
 obtain rfl := hasAllW_nil h2
 obtain ⟨xs, rfl, h3⟩ := hasW_list h1
 obtain ⟨ns, rfl⟩ := items_int h3
 have hlen : ns.length ≤ n := by
  unfold OpenLaw.pre at hc
  have h4 : (WTm.not (.lt (.lit (.int (n : Int))) (.len (.arg 0)))).holds [] { args := [.list (ns.map .int)] } = true := by
   have h4 := (holds_andW hc).1
   rw [hn] at h4
   exact h4
  have h5 := condW_of h4 (w_not (w_lt w_lit (w_len_list (w_arg rfl))))
  rw [List.length_map] at h5
  refine Nat.le_of_not_lt fun q => ?_
  have q' : (n : Int) < ((ns.length : Nat) : Int) := by omega
  first
   | (rw [decide_eq_true q'] at h5; exact absurd h5 (by decide))
   | (simp at h5; omega)
 cases hwl with
 | cons w1 w2 =>
  cases w2
  cases w1 with
  | list ho hall => exact ⟨_, _, ns, rfl, rfl, ho, ZKv ns _ hall, hlen⟩
theorem ZPx (l : OpenLaw) (args : List WData) : l.row.toRowW.claim.post args (.bool true) args = true :=
 postW_of (r := l.row.toRowW) (X := (true == true))
  (show WShape.has [] (.bool true) .bool = true by first | rfl | decide | simp [WShape.has, WShape.arms, WShape.armsAll])
  (show (WTm.eq .res (.lit (.bool true))).value [] { args := args, res := some (.bool true), after := args } = some (.bool (true == true)) from w_eq_bool (w_res rfl) w_lit) rfl
theorem attach_call {l : OpenLaw} {n : Nat} {q : Program} {loose : List Str} {XP : (Str → Option Value) → Heap → Prop} {YP : World → Heap → Prop} {d : DefRec}
  (hn : l.most = some n) (hdf : d.params.defaults = [])
  (call : ∀ (w : World) (s₀ s₁ : Shared) (mg mb : Str → Option Value) (fa : Addr) (o : Obj) (pm cd doc : Value) (a : Addr) (vs : List Value) (ns : List Int),
   Ground q loose [] XP w s₀ mg mb s₁.heap → YP w s₁.heap →
   s₁.heap.get? fa = some o → o.data = .func (docDef d.name d.params d.body d.scope pm cd doc) → s₁.heap.CodeRec cd d.name → mg d.name = some (.ref fa) →
   s₁.heap.get? a = some { cls := .type "list", data := .seq vs.toArray } → IntsAre vs ns → ns.length ≤ n → s₁.gens = #[] →
   codeAny (model l.prog w) callerA (.call (.ref fa) ⟨[.ref a], []⟩) (fun r s' => r = .ok (.ret (.bool true)) ∧ OldK s₁.heap s'.heap ∧ s'.os = s₁.os ∧ AllBare s'.gens) s₁) :
  WalkO q loose XP YP l.row.toRowW d [] (fun f vs => PySem.call f vs) := by
 intro w s₀ s₁ mg mb G Y fa o pm cd doc dV kV ho hd hcd hD hmg hg args vals as hpre hlay hrd hwl hlo
 obtain rfl : dV = .none := Dflts.none hD hdf
 obtain rfl : kV = .none := Dflts.noKw hD
 obtain ⟨a, vs, ns, rfl, rfl, hobj, hints, hlen⟩ := ZPw hn hpre hwl
 refine enter_call (codeAny_mono (call w s₀ s₁ mg mb fa o pm cd doc a vs ns G Y ho (fd_plain hd) hcd hmg hobj hints hlen hg) fun r s' hq => ?_)
 obtain ⟨rfl, h2, h3, h4⟩ := hq
 exact ⟨.inl ⟨.bool true, .bool true, [], rfl, fun _ => rfl, .bool true, ZPx l _, fun _ => ⟨List.Pairwise.nil, fun _ hm => (nomatch hm)⟩⟩, h2, h3, h4⟩
section
variable {prog : Program} {w : World} {A : Around} {E : Value → Shared → Prop} {s : Shared} {K : Frag}
def ZXT (h : Heap) (L d : Addr) : List (Addr × Obj) := (List.range h.objs.size).filterMap fun a => if a = L ∨ a = d then none else (h.get? a).map fun o => (a, o)
end
end Att
namespace L2
open PySem PySem.Spec PyProof.Rows
theorem ZLu : ∀ {vs : List Value} {ns : List Int}, IntsAre vs ns → ZEg (ns.map V.int) vs
 | _, _, .nil => .nil
 | _, _, .cons n t h => .cons ⟨t, rfl⟩ (ZLu h)
def ZRi (H : Hp) : Prop := ∀ b, H b = none ∨ ∃ o xs, H b = some (.frz o (.lst xs))
theorem ZRj {P : Program} {w : World} {K : W.Frag} {mg mb : Str → Option Value} {CX : CXT} {k : Nat} {fa a : Addr} {fd : FuncData} {x : Str} {sp : Sp} {s₁ : Shared} {vs : List Value} {ns : List Int}
  (KX : K.In s₁.heap) (hns : s₁.heap.Ns mainGlobals mg) (hb : s₁.heap.Ns builtinsNs mb) (hbb : ∀ x : Str, x ≠ "__name__" → mb x = bootBuiltins x) (hlim : s₁.heap.NoLimit) (hg : s₁.gens = #[])
  (ha : s₁.heap.get? a = some { cls := .type "list", data := .seq vs.toArray }) (hi : IntsAre vs ns) (hl : ns.length ≤ sizeLine) (hr : Room k callerA)
  (F : ∀ base : Heap, K.In base → base.Ns mainGlobals mg → ZEW P w K mg base CX k fa fd [x] sp) (hbind : ∀ (s : Shared) (u : Value), BindsTo s fd ⟨[u], []⟩ [(x, u)])
  (hsp : ∀ H : Hp, ZRi H → SqL K H a (ns.map V.int) → sp [.ref a] H (fun v _ => v = .bl true) fun _ _ _ => False)
  (hCX : ∀ H e s', CX [] H s₁ (fun _ _ _ => False) e s' → False) :
  codeAny (model P w) callerA (.call (.ref fa) ⟨[.ref a], []⟩) (fun r s' => r = .ok (.ret (.bool true)) ∧ OldK s₁.heap s'.heap ∧ s'.os = s₁.os ∧ AllBare s'.gens) s₁ := by
 have rv := ZLu hi
 have lenV := hi.length
 -- from an abstract heap in which nothing but the script may be tracked
 have core : ∀ H : Hp, ZRi H → SqL K H a (ns.map V.int) → HOk P w H s₁.heap → (∀ b, H b ≠ none → b = a) → (H a ≠ none → K.lookup a = none) →
   codeAny (model P w) callerA (.call (.ref fa) ⟨[.ref a], []⟩) (fun r s' => r = .ok (.ret (.bool true)) ∧ OldK s₁.heap s'.heap ∧ s'.os = s₁.os ∧ AllBare s'.gens) s₁ := by
  intro H hO hS hok hA hK
  have base_of : ∀ {b : Addr} {o : Obj}, s₁.heap.get? b = some o → H b = none → (ZIo s₁.heap H).get? b = some o := fun e n => ZQ8 e n
  have noA : ∀ {b : Addr} {o : Obj} {es : Array DictEntry} {ep : Nat}, s₁.heap.get? b = some o → o.data = .dict es ep → H b = none := fun {b o es ep} e d => by
   cases q : H b with
   | none => rfl
   | some u =>
    have e' : b = a := hA b (by rw [q]; simp)
    subst e'
    rw [ha] at e; cases e
    have d' : Data.seq vs.toArray _ = Data.dict es ep := d
    cases d'
  have nsK : ∀ {b : Addr} {m : Str → Option Value}, s₁.heap.Ns b m → (ZIo s₁.heap H).Ns b m := fun {b m} ⟨o, es, ep, e, d, r⟩ => ⟨o, es, ep, base_of e (noA e d), d, r⟩
  have hKb : K.In (ZIo s₁.heap H) := fun b o e => base_of (KX b o e) (by
   cases q : H b with
   | none => rfl
   | some u =>
    have e' : b = a := hA b (by rw [q]; simp)
    subst e'
    rw [hK (by rw [q]; simp)] at e; cases e)
  have hM : Mod K mg (ZIo s₁.heap H) := ⟨hKb, nsK hns, ⟨mb, nsK hb, hbb⟩, let ⟨mc, h1, h2⟩ := hlim; ⟨mc, nsK h1, h2⟩⟩
  have e0 : ZIR P w K mg (ZIo s₁.heap H) callerA [] s₁ H := ⟨rfl, hM, fun b o e => ZTS e, Nat.le_of_eq (ZPe _ _), trivial, fun b hb => absurd (show b ∈ ([] : List Addr) from hb) (by simp), hok, .of_eq hg⟩
  refine codeAny_mono ((F _ hKb (nsK hns)).run callerA [] s₁ H ⟨[.ref a], []⟩ [.ref a] [.ref a] _ _ hr e0 (hbind s₁ (.ref a)) (.cons rfl .nil) (hsp H hO hS)) fun r s' h => ?_
  cases r with
  | error e => exact (hCX H e s' h).elim
  | ok fl =>
   cases fl with
   | next => exact False.elim h
   | brk => exact False.elim h
   | cont => exact False.elim h
   | ret u =>
    obtain ⟨v, H', os, bare, un, hok', r', q⟩ := h
    have q' : v = .bl true := q
    subst q'
    obtain rfl : u = Value.bool true := r'
    refine ⟨rfl, OldK.of_keep fun b o e => ?_, os, bare⟩
    cases q : H b with
    | none => exact un.keep b o e q (by intro z; exact absurd (show b ∈ ([] : List Addr) from z) (by simp)) (by simp)
    | some u =>
     rcases hO b with z | ⟨ob, xs, z⟩
     ·rw [q] at z; cases z
     ·have z2 := un.frzs b ob _ z
      obtain ⟨e1, _⟩ := hok b _ z
      obtain ⟨e2, _⟩ := hok' b _ z2
      rw [e] at e1; cases e1
      exact e2
 cases hk : K.lookup a with
 | some o =>
  -- the script is one of the module's own objects
  have e := KX a o hk
  rw [ha] at e
  cases e
  refine core (fun _ => none) (fun _ => .inl rfl) (.inr ⟨_, vs.toArray, _, hk, rfl, rfl, rfl, by rw [List.size_toArray, lenV]; exact hl, by simpa using rv⟩) (fun b u z => by have z' : (none : Option HO) = some u := z; cases z') (fun b z => absurd rfl z) fun z => absurd rfl z
 | none =>
  refine core (fun b => if b = a then some (.frz { cls := .type "list", data := .seq vs.toArray } (.lst (ns.map V.int))) else none) (fun b => ?_) (.inl (.inr ⟨{ cls := .type "list", data := .seq vs.toArray }, if_pos rfl⟩)) (fun b u z => ?_) (fun b z => ?_) fun _ => hk
  ·by_cases hb : b = a
   ·exact .inr ⟨_, _, if_pos hb⟩
   ·exact .inl (if_neg hb)
  ·by_cases hb : b = a
   ·have z' := (if_pos hb).symm.trans z
    cases z'
    subst hb
    exact ⟨ha, by rw [List.length_map]; exact hl, vs, _, rv, ha⟩
   ·have z' := (if_neg hb).symm.trans z
    cases z'
  ·by_cases hb : b = a
   ·exact hb
   ·exact absurd (if_neg hb) z
theorem walk_of {l : PySem.W.OpenLaw} {n k : Nat} {q : Program} {loose : List Str} {XP : (Str → Option Value) → Heap → Prop} {YP : World → Heap → Prop} {d : DefRec} {K : Params → W.Frag} {CX : World → CXT} {sp : World → Sp} {x : Str}
  (hn : l.most = some n) (hn2 : n ≤ sizeLine) (hdf : d.params.defaults = []) (hr : Room k callerA)
  (hY : ∀ (w : World) (h : Heap), YP w h → (K w.params).In h)
  (F : ∀ (w : World) (mg : Str → Option Value) (fa : Addr) (h : Heap), (K w.params).In h → h.Ns mainGlobals mg → mg d.name = some (.ref fa) →
   ∃ fd : FuncData, (∀ (s : Shared) (u : Value), BindsTo s fd ⟨[u], []⟩ [(x, u)]) ∧
    ∀ base : Heap, (K w.params).In base → base.Ns mainGlobals mg → ZEW l.prog w (K w.params) mg base (CX w) k fa fd [x] (sp w))
  (hsp : ∀ (w : World) (H : Hp) (a : Addr) (ns : List Int), ns.length ≤ n → ZRi H → SqL (K w.params) H a (ns.map V.int) → sp w [.ref a] H (fun v _ => v = .bl true) fun _ _ _ => False)
  (hCX : ∀ (w : World) (H : Hp) (s : Shared) (e : Value) (s' : Shared), CX w [] H s (fun _ _ _ => False) e s' → False) :
  PySem.W.WalkO q loose XP YP l.row.toRowW d [] (fun f vs => PySem.call f vs) := by
 refine Att.attach_call hn hdf fun w s₀ s₁ mg mb fa o pm cd doc a vs ns G Y ho hd hcd hmg hobj hints hlen hg => ?_
 have KX := hY w _ Y
 obtain ⟨fd, hb, hF⟩ := F w mg fa _ KX G.T.g hmg
 exact ZRj KX G.T.g G.T.b G.T.builtins G.T.nolimit hg hobj hints (Nat.le_trans hlen hn2) hr hF hb (fun H hO hS => hsp w H a ns hlen hO hS) fun H e s' => hCX w H s₁ e s'
end L2
/- THE LAST THEOREM (shape; LID, My.* are yours):
 My.Adr: a structure of the addresses that your layer names (classes, functions); My.Txt K t: a structure (Prop) of the equations over K;
 My.txt_mk : {K} {implicit addresses ..} (e1 : nsIn K mainGlobals "law" = some (some (.ref f))) (e2 : K.lookup f = some ⟨oc, od, .func (fnOf "law" "law" params body scope dV kV doc pm an cdv ct), sl⟩) (e3 : codeIn K cdv "law" = true) .. : ∃ t, My.Txt K t
(the tactic k_is has no namespace: write k_is) -/
namespace L2
open PySem PySem.Spec PyProof.Rows
def ZEw (s : Stmt) (j : Nat) : Stmt := match s with
 | .ClassDef _ _ _ body _ _ _ _ _ _ _ => body.getD j (.Pass ⟨0, 0, 0, 0⟩)
 | _ => .Pass ⟨0, 0, 0, 0⟩
def ZFa (s : Stmt) : Arguments := match s with
 | .FunctionDef _ a _ _ _ _ _ _ _ _ => a
 | _ => { posonlyargs := [], args := [], vararg := none, kwonlyargs := [], kw_defaults := [], kwarg := none, defaults := [] }
def ZFJ (s : Stmt) : List Stmt := match s with
 | .FunctionDef _ _ b _ _ _ _ _ _ _ => b
 | _ => []
def ZEP (s : Stmt) : Scope := match s with
 | .FunctionDef _ _ _ _ _ _ sc _ _ _ => sc
 | _ => { kind := .function, names := [], isGenerator := false, isCoroutine := false }
abbrev CX0 : CXT := fun _ _ _ _ _ _ => False
abbrev E0 : XK := fun _ _ _ => False
theorem ZFc {X : Cx} : ZF7 CX0 X E0 := fun _ _ _ _ _ _ _ h => h.elim
structure Fun (K : W.Frag) (x qual : Str) (st : Stmt) (f : Addr) (fd : FuncData) : Prop where
 ex : ∃ (oc : Value) (od : Option Addr) (kV doc pm : Value) (an : Option Addr) (cdv ct : Value) (osl : Array (Option Value)),
  fd = W.fnOf x qual (ZFa st) (ZFJ st) (ZEP st) .none kV doc pm an cdv ct ∧ K.lookup f = some ⟨oc, od, .func fd, osl⟩ ∧ W.codeIn K cdv qual = true
 kp : W.keepIn K (.ref f) = true
section
variable {P : Program} {w : World} {K : W.Frag} {mg : Str → Option Value} {base : Heap}
theorem Fun.ok {x qual : Str} {st : Stmt} {f : Addr} {fd : FuncData} {N ps : List Str} {k : Nat} {sp : Sp} (F : Fun K x qual st f fd) (S : ZEV N ps (ZEP st)) (len : ∀ vs H Q E, sp vs H Q E → vs.length = ps.length)
  (hbody : ∀ (cdv : Value) (A : Around) (outer : List Env) (s : Shared) (H : Hp) (vs : List V) (Q : VK) (E : XK), Room k (A.deeper (envOfC qual (ZEP st) s.heap.objs.size f cdv)) → sp vs H Q E →
   ∃ t, PSs (ZJO CX0 P w K mg base N qual (ZEP st) f cdv A outer s H E).nox (ZFJ st) t ∧ t { nx := fun _ H' => Q .non H', rt := Q } (start N vs) H) : ZEW P w K mg base CX0 (k + 1) f fd ps sp := by
 obtain ⟨oc, od, kV, doc, pm, an, cdv, ct, osl, rfl, lk, hcd⟩ := F.ex
 refine ZOq lk hcd S len fun A outer s H vs Q E hr hsp => ?_
 obtain ⟨t, h, q⟩ := hbody cdv A outer s H vs Q E hr hsp
 exact ⟨t, h.nox, q⟩
theorem Fun.binds {x qual : Str} {st : Stmt} {f : Addr} {fd : FuncData} {ps : List Str} (F : Fun K x qual st f fd)
  (h : ∀ (kV doc pm : Value) (an : Option Addr) (cdv ct : Value) (us : List Value), us.length = ps.length → bindArgs (W.fnOf x qual (ZFa st) (ZFJ st) (ZEP st) .none kV doc pm an cdv ct) ⟨us, []⟩ = pure (ps.zip us)) : ZER K fd ps [] := by
 obtain ⟨oc, od, kV, doc, pm, an, cdv, ct, osl, rfl, lk, hcd⟩ := F.ex
 exact .all (h kV doc pm an cdv ct)
theorem fun_mk {x qual : Str} {st : Stmt} {f : Addr} {oc : Value} {od an : Option Addr} {osl : Array (Option Value)} {kV doc pm cdv ct : Value} (l : K.lookup f = some ⟨oc, od, .func (W.fnOf x qual (ZFa st) (ZFJ st) (ZEP st) .none kV doc pm an cdv ct), osl⟩)
 (c : W.codeIn K cdv qual = true) (k : W.keepIn K (.ref f) = true) : Fun K x qual st f (W.fnOf x qual (ZFa st) (ZFJ st) (ZEP st) .none kV doc pm an cdv ct) := ⟨⟨oc, od, kV, doc, pm, an, cdv, ct, osl, rfl, l, c⟩, k⟩
end
theorem ZHN {A : Around} {k : Nat} (hr : Room k A) : A.units + 1 < cLine := Nat.lt_of_le_of_lt (Nat.add_le_add_left (by decide : 1 ≤ 64) _) hr.units
section
variable {X : Cx}
end
theorem ZE9 {A B : Prop} (h : B) : if false = true then A else B := by
 rw [if_neg Bool.false_ne_true]
 exact h
theorem ZFY {A B : Prop} (h : A) : if true = true then A else B := by
 rw [if_pos rfl]
 exact h
def ZEU (H H' : Hp) : Prop := ∀ b o, H b = some o → H' b = some o
theorem ZEU.refl (H : Hp) : ZEU H H := fun _ _ h => h
theorem ZEU.trans {H H1 H2 : Hp} (a : ZEU H H1) (b : ZEU H1 H2) : ZEU H H2 := fun c o h => b c o (a c o h)
theorem ZEU.seq {K : W.Frag} {H H' : Hp} {a : Addr} {xs : List V} (e : ZEU H H') (h : SqL K H a xs) : SqL K H' a xs := by
 rcases h with (h | ⟨o, h⟩) | h
 ·exact .inl (.inl (e _ _ h))
 ·exact .inl (.inr ⟨o, e _ _ h⟩)
 ·exact .inr h
end L2
namespace L2
open PySem PySem.Spec PyProof.Rows PySem.W
def evT (c : Nat → Nat → Bool) {α : Type} : KasT α → α
 | .ret a => a
 | .ask i j k => evT c (k (c i j))
theorem ZG8 (c : Nat → Nat → Bool) {α β : Type} (f : α → KasT β) : ∀ t : KasT α, evT c (t.bind f) = evT c (f (evT c t))
 | .ret _ => rfl
 | .ask i j k => ZG8 c f (k (c i j))
abbrev gt0 (p : Array Nat) (i : Nat) : Nat := p.getD i 0
section
variable {c : Nat → Nat → Bool} {n : Nat}
structure Ord (c : Nat → Nat → Bool) (n : Nat) : Prop where
 tr : ∀ i j k, c i j = true → c j k = true → c i k = true
 asy : ∀ i j, c i j = true → c j i = false
 tot : ∀ i j, i < n → j < n → i ≠ j → c i j = false → c j i = true
structure Ixs (p : Array Nat) (n : Nat) : Prop where
 size : p.size = n
 lt : ∀ i, i < n → gt0 p i < n
 inj : ∀ i j, i < n → j < n → gt0 p i = gt0 p j → i = j
theorem ZKw {p : Array Nat} {i v : Nat} (h : p[i]? = some v) : gt0 p i = v := by
 simp [gt0, h]
theorem ZGp {p : Array Nat} {i : Nat} (h : i < p.size) : p[i]? = some (gt0 p i) := by
 simp [gt0, h]
theorem Ixs.of_perm {p : Array Nat} (h : p.toList.Perm (List.range n)) : Ixs p n := by
 have hs : p.size = n := by have := h.length_eq; simpa using this
 refine ⟨hs, fun i hi => ?_, fun i j hi hj e => ?_⟩
 ·have hm : gt0 p i ∈ p.toList := by
   have := ZGp (p := p) (i := i) (by omega)
   exact Array.mem_toList_iff.mpr (Array.mem_of_getElem? this)
  exact List.mem_range.mp (h.mem_iff.mp hm)
 ·have hn : p.toList.Nodup := h.nodup_iff.mpr List.nodup_range
  have h1 : p.toList[i]? = some (gt0 p i) := by rw [Array.getElem?_toList]; exact ZGp (by omega)
  have h2 : p.toList[j]? = some (gt0 p i) := by rw [Array.getElem?_toList, e]; exact ZGp (by omega)
  have hi' : i < p.toList.length := by simp; omega
  have hj' : j < p.toList.length := by simp; omega
  rw [List.getElem?_eq_getElem hi'] at h1
  rw [List.getElem?_eq_getElem hj'] at h2
  have hpw := List.pairwise_iff_getElem.mp (List.nodup_iff_pairwise_ne.mp hn)
  have ee : p.toList[i] = p.toList[j] := by rw [Option.some.inj h1, Option.some.inj h2]
  rcases Nat.lt_trichotomy i j with z | z | z
  ·exact absurd ee (hpw i j hi' hj' z)
  ·exact z
  ·exact absurd ee.symm (hpw j i hj' hi' z)
def Up (c : Nat → Nat → Bool) (p : Array Nat) (m : Nat) : Prop := ∀ a b, a < b → b < m → c (gt0 p a) (gt0 p b) = true
theorem ZJ7 (O : Ord c n) {p : Array Nat} {m : Nat} (h : ∀ i, 1 ≤ i → i < m → c (gt0 p (i - 1)) (gt0 p i) = true) : Up c p m := by
 intro a b hab hb
 obtain ⟨d, rfl⟩ := Nat.exists_eq_add_of_lt hab
 induction d with
 | zero => have := h (a + 1) (by omega) hb; simpa using this
 | succ d ih =>
  have h1 := ih (by omega) (by omega)
  have h2 := h (a + (d + 1) + 1) (by omega) hb
  have e : a + (d + 1) + 1 - 1 = a + d + 1 := by omega
  rw [e] at h2
  exact O.tr _ _ _ h1 h2
theorem ZKx (p : Array Nat) : ∀ (f a : Nat), a ≤ evT c (kas_asc p f a) ∧ evT c (kas_asc p f a) ≤ a + f ∧ (∀ i, a ≤ i → i < evT c (kas_asc p f a) → c (gt0 p i) (gt0 p (i - 1)) = false) ∧
  (evT c (kas_asc p f a) = a + f ∨ c (gt0 p (evT c (kas_asc p f a))) (gt0 p (evT c (kas_asc p f a) - 1)) = true)
 | 0, a => ⟨Nat.le_refl _, Nat.le_refl _, fun i h1 h2 => absurd h2 (by show ¬ i < a; omega), .inl rfl⟩
 | f + 1, a => by
  have e : evT c (kas_asc p (f + 1) a) = evT c (if c (gt0 p a) (gt0 p (a - 1)) = true then KasT.ret a else kas_asc p f (a + 1)) := rfl
  rw [e]
  cases hc : c (gt0 p a) (gt0 p (a - 1)) with
  | true =>
   rw [if_pos rfl]
   exact ⟨Nat.le_refl _, Nat.le_add_right _ _, fun i h1 h2 => absurd h2 (by show ¬ i < a; omega), .inr hc⟩
  | false =>
   rw [if_neg (by decide)]
   obtain ⟨h1, h2, h3, h4⟩ := ZKx p f (a + 1)
   refine ⟨by omega, by omega, fun i g1 g2 => ?_, ?_⟩
   ·by_cases z : i = a
    ·rw [z]; exact hc
    ·exact h3 i (by omega) g2
   ·rcases h4 with h4 | h4
    ·left; omega
    ·right; exact h4
theorem ZOM (O : Ord c n) {p : Array Nat} (P : Ixs p n) : ∀ (f a : Nat), 1 ≤ a → a + f ≤ n → ∃ m, evT c (kas_desc f p a 0) = (p, m, 0) ∧ a ≤ m ∧ m ≤ a + f ∧ ∀ i, a ≤ i → i < m → c (gt0 p i) (gt0 p (i - 1)) = true
 | 0, a, _, _ => ⟨a, rfl, Nat.le_refl _, Nat.le_refl _, fun i h1 h2 => absurd h2 (by omega)⟩
 | f + 1, a, h1, h2 => by
  have e : evT c (kas_desc (f + 1) p a 0) = evT c (if c (gt0 p a) (gt0 p (a - 1)) = true then (if 0 > 0 then kas_desc f (kas_rev p (a - (0 + 1)) a) (a + 1) 0 else kas_desc f p (a + 1) 0)
   else .ask (p.getD (a - 1) 0) (p.getD a 0) fun d => if d = true then .ret (p, a, 0) else kas_desc f p (a + 1) (0 + 1)) := rfl
  rw [e]
  cases hc : c (gt0 p a) (gt0 p (a - 1)) with
  | true =>
   rw [if_pos rfl, if_neg (by decide)]
   obtain ⟨m, g1, g2, g3, g4⟩ := ZOM O P f (a + 1) (by omega) (by omega)
   refine ⟨m, g1, by omega, by omega, fun i k1 k2 => ?_⟩
   by_cases z : i = a
   ·rw [z]; exact hc
   ·exact g4 i (by omega) k2
  | false =>
   rw [if_neg (by decide)]
   have hd : c (gt0 p (a - 1)) (gt0 p a) = true := O.tot _ _ (P.lt _ (by omega)) (P.lt _ (by omega)) (fun z => by have := P.inj _ _ (by omega) (by omega) z; omega) hc
   have e2 : evT c (KasT.ask (p.getD (a - 1) 0) (p.getD a 0) fun d => if d = true then KasT.ret (p, a, 0) else kas_desc f p (a + 1) (0 + 1)) = evT c (if c (gt0 p (a - 1)) (gt0 p a) = true then KasT.ret (p, a, 0) else kas_desc f p (a + 1) (0 + 1)) := rfl
   rw [e2, hd, if_pos rfl]
   exact ⟨a, rfl, Nat.le_refl _, by omega, fun i k1 k2 => absurd k2 (by omega)⟩
theorem ZMn (p : Array Nat) (i j : Nat) : (kas_rev p i j).toList.Perm p.toList := Array.perm_iff_toList_perm.mp (mirror_perm p i j _)
theorem ZON {p : Array Nat} {m : Nat} (hm : m ≤ p.size) (k : Nat) (hk : k < m) : gt0 (kas_rev p 0 m) k = gt0 p (m - 1 - k) := by
 refine ZKw ?_
 have e : (kas_rev p 0 m)[k]? = if 0 ≤ k ∧ k < m then p[0 + m - 1 - k]? else p[k]? := getElem?_mirror_all (i := 0) hm k
 rw [e, if_pos ⟨by omega, hk⟩]
 have e2 : 0 + m - 1 - k = m - 1 - k := by omega
 rw [e2]
 exact ZGp (by omega)
theorem ZOO (O : Ord c n) {p : Array Nat} (P : Ixs p n) {m f : Nat} (h1 : 1 ≤ m) (h : Up c p m) (hf : m + f ≤ n) : Up c p (evT c (kas_asc p f m)) := by
 obtain ⟨g1, g2, g3, _⟩ := ZKx (c := c) p f m
 refine ZJ7 O fun i hi1 hi2 => ?_
 by_cases z : i < m
 ·exact h (i - 1) i (by omega) z
 ·have := g3 i (by omega) hi2
  exact O.tot _ _ (P.lt _ (by omega)) (P.lt _ (by omega)) (fun e => by have := P.inj _ _ (by omega) (by omega) e; omega) this
theorem ZRk (O : Ord c n) {p : Array Nat} (hp : p.toList.Perm (List.range n)) (hn : 1 ≤ n) : (evT c (kas_count n p)).2.toList.Perm (List.range n) ∧ 1 ≤ (evT c (kas_count n p)).1 ∧ (evT c (kas_count n p)).1 ≤ n ∧ Up c (evT c (kas_count n p)).2 (evT c (kas_count n p)).1 := by
 have P := Ixs.of_perm hp
 unfold kas_count
 rw [ZG8]
 obtain ⟨g1, g2, g3, g4⟩ := ZKx (c := c) p (n - 1) 1
 have hup := ZOO O P (m := 1) (f := n - 1) (Nat.le_refl _) (fun a b h1 h2 => by omega) (by omega)
 generalize hm : evT c (kas_asc p (n - 1) 1) = m at *
 by_cases h1 : (m == n) = true
 ·rw [if_pos h1]
  exact ⟨hp, g1, by show m ≤ n; omega, hup⟩
 ·rw [if_neg h1]
  have hmn : m < n := by
   have : m ≠ n := fun z => h1 (by simp [z])
   omega
  by_cases h2 : m > 1
  ·rw [if_pos h2]
   have hc : c (gt0 p 0) (gt0 p (m - 1)) = true := hup 0 (m - 1) (by omega) (by omega)
   have e : evT c (KasT.ask (p.getD 0 0) (p.getD (m - 1) 0) fun c => if c = true then KasT.ret (m, p) else kas_descPart m n (kas_rev p 0 m)) = evT c (if c (gt0 p 0) (gt0 p (m - 1)) = true then KasT.ret (m, p) else kas_descPart m n (kas_rev p 0 m)) := rfl
   rw [e, hc, if_pos rfl]
   exact ⟨hp, by show 1 ≤ m; omega, by show m ≤ n; omega, hup⟩
  ·rw [if_neg h2]
   have hm1 : m = 1 := by omega
   subst hm1
   have h10 : c (gt0 p 1) (gt0 p 0) = true := by
    rcases g4 with g4 | g4
    ·omega
    ·exact g4
   unfold kas_descPart
   rw [ZG8]
   obtain ⟨m, k1, k2, k3, k4⟩ := ZOM O P (n - (1 + 1)) (1 + 1) (by omega) (by omega)
   rw [k1]
   rw [if_neg (show ¬ ((p, m, 0) : Array Nat × Nat × Nat).2.2 > 0 by show ¬ 0 > 0; omega)]
   show (evT c (kas_tail3 m n p)).2.toList.Perm (List.range n) ∧ _
   unfold kas_tail3
   rw [ZG8]
   have hrp : (kas_rev p 0 m).toList.Perm (List.range n) := (ZMn p 0 m).trans hp
   have R := Ixs.of_perm hrp
   have hupr : Up c (kas_rev p 0 m) m := by
    refine ZJ7 O fun i hi1 hi2 => ?_
    rw [ZON (by rw [P.size]; omega) _ (by omega), ZON (by rw [P.size]; omega) _ hi2]
    have e : m - 1 - (i - 1) = m - i := by omega
    have e2 : m - 1 - i = m - i - 1 := by omega
    rw [e, e2]
    by_cases z : m - i = 1
    ·rw [z]; exact h10
    ·exact k4 (m - i) (by omega) (by omega)
   have hfin := ZOO O R (m := m) (f := n - m) (by omega) hupr (by omega)
   obtain ⟨q1, q2, _, _⟩ := ZKx (c := c) (kas_rev p 0 m) (n - m) m
   exact ⟨hrp, by show 1 ≤ evT c _; omega, by show evT c _ ≤ n; omega, hfin⟩
theorem ZKL (O : Ord c n) {p : Array Nat} (P : Ixs p n) {k : Nat} (hk : k < n) (h : Up c p k) : ∀ (f l r : Nat), l ≤ r → r ≤ k → r - l ≤ f → (∀ i, i < l → c (gt0 p i) (gt0 p k) = true) → (∀ i, r ≤ i → i < k → c (gt0 p k) (gt0 p i) = true) →
  ∃ m, evT c (kas_place p k f l r) = m ∧ m ≤ k ∧ (∀ i, i < m → c (gt0 p i) (gt0 p k) = true) ∧ (∀ i, m ≤ i → i < k → c (gt0 p k) (gt0 p i) = true)
 | 0, l, r, h1, h2, h3, h4, h5 => ⟨l, rfl, by omega, h4, fun i g1 g2 => h5 i (by omega) g2⟩
 | f + 1, l, r, h1, h2, h3, h4, h5 => by
  by_cases hlr : l ≥ r
  ·have e : evT c (kas_place p k (f + 1) l r) = l := by
    show evT c (if l ≥ r then KasT.ret l else _) = l
    rw [if_pos hlr]
    rfl
   exact ⟨l, e, by omega, h4, fun i g1 g2 => h5 i (by omega) g2⟩
  ·have e : evT c (kas_place p k (f + 1) l r) = evT c (if c (gt0 p k) (gt0 p ((l + r) / 2)) = true then kas_place p k f l ((l + r) / 2) else kas_place p k f ((l + r) / 2 + 1) r) := by
    show evT c (if l ≥ r then KasT.ret l else _) = _
    rw [if_neg hlr]
    rfl
   rw [e]
   cases hc : c (gt0 p k) (gt0 p ((l + r) / 2)) with
   | true =>
    rw [if_pos rfl]
    refine ZKL O P hk h f l ((l + r) / 2) (by omega) (by omega) (by omega) h4 fun i g1 g2 => ?_
    by_cases z : i = (l + r) / 2
    ·rw [z]; exact hc
    ·exact O.tr _ _ _ hc (h ((l + r) / 2) i (by omega) g2)
   | false =>
    rw [if_neg (by decide)]
    have hd : c (gt0 p ((l + r) / 2)) (gt0 p k) = true := O.tot _ _ (P.lt _ hk) (P.lt _ (by omega)) (fun z => by have := P.inj _ _ hk (by omega) z; omega) hc
    refine ZKL O P hk h f ((l + r) / 2 + 1) r (by omega) h2 (by omega) (fun i g1 => ?_) h5
    by_cases z : i = (l + r) / 2
    ·rw [z]; exact hd
    ·exact O.tr _ _ _ (h i ((l + r) / 2) (by omega) (by omega)) hd
theorem ZOP {p : Array Nat} {k l : Nat} (hk : k < p.size) (hl : l ≤ k) (i : Nat) (hi : i < p.size) : gt0 (bubble p k (k - l)) i = if i = l then gt0 p k else if l < i ∧ i ≤ k then gt0 p (i - 1) else gt0 p i := by
 refine ZKw ?_
 rw [getElem?_bubble hk (k - l) (by omega)]
 have e : k - (k - l) = l := by omega
 rw [e]
 by_cases h1 : i = l
 ·rw [if_pos h1, if_pos h1]; exact ZGp hk
 ·rw [if_neg h1, if_neg h1]
  by_cases h2 : l < i ∧ i ≤ k
  ·rw [if_pos h2, if_pos h2]; exact ZGp (by omega)
  ·rw [if_neg h2, if_neg h2]; exact ZGp hi
theorem ZPy (O : Ord c n) : ∀ (f : Nat) (p : Array Nat) (k : Nat), p.toList.Perm (List.range n) → k + f = n → Up c p k → (evT c (kas_bin f p k)).toList.Perm (List.range n) ∧ Up c (evT c (kas_bin f p k)) n
 | 0, p, k, hp, hk, h => by
  have e : k = n := by omega
  refine ⟨hp, ?_⟩
  show Up c p n
  rw [← e]
  exact h
 | f + 1, p, k, hp, hk, h => by
  have P := Ixs.of_perm hp
  show (evT c ((kas_place p k k 0 k).bind fun l => kas_bin f (bubble p k (k - l)) (k + 1))).toList.Perm (List.range n) ∧ Up c (evT c ((kas_place p k k 0 k).bind fun l => kas_bin f (bubble p k (k - l)) (k + 1))) n
  rw [ZG8]
  obtain ⟨m, e, g1, g2, g3⟩ := ZKL O P (k := k) (by omega) h k 0 k (by omega) (Nat.le_refl _) (by omega) (fun i hi => by omega) (fun i h1 h2 => by omega)
  rw [e]
  refine ZPy O f (bubble p k (k - m)) (k + 1) ((Array.perm_iff_toList_perm.mp (bubble_perm p k _)).trans hp) (by omega) fun a b hab hb => ?_
  rw [ZOP (by rw [P.size]; omega) g1 a (by rw [P.size]; omega), ZOP (by rw [P.size]; omega) g1 b (by rw [P.size]; omega)]
  by_cases ha : a = m
  ·rw [if_pos ha, if_neg (by omega), if_pos ⟨by omega, by omega⟩]
   exact g3 (b - 1) (by omega) (by omega)
  ·rw [if_neg ha]
   by_cases hb2 : b = m
   ·rw [if_pos hb2, if_neg (by omega)]
    exact g2 a (by omega)
   ·rw [if_neg hb2]
    by_cases ha3 : m < a ∧ a ≤ k
    ·rw [if_pos ha3, if_pos ⟨by omega, by omega⟩]
     exact h (a - 1) (b - 1) (by omega) (by omega)
    ·rw [if_neg ha3]
     by_cases hb3 : m < b ∧ b ≤ k
     ·rw [if_pos hb3]
      by_cases z : a = b - 1
      ·omega
      ·exact h a (b - 1) (by omega) (by omega)
     ·rw [if_neg hb3]
      exact h a b hab (by omega)
theorem ZTt (O : Ord c n) (hn : 1 ≤ n) : (evT c (kas_sort n)).toList.Perm (List.range n) ∧ Up c (evT c (kas_sort n)) n := by
 unfold kas_sort
 rw [ZG8]
 obtain ⟨h1, h2, h3, h4⟩ := ZRk O (p := List.toArray (List.range n)) (List.Perm.refl _) hn
 generalize evT c (kas_count n (List.toArray (List.range n))) = r at *
 by_cases h : r.1 < n
 ·rw [if_pos h]
  have e : max r.1 1 = r.1 := by omega
  rw [e]
  exact ZPy O (n - r.1) r.2 r.1 h1 (by omega) h4
 ·rw [if_neg h]
  refine ⟨h1, ?_⟩
  have e : r.1 = n := by omega
  rw [e] at h4
  exact h4
end
section
variable {X : Cx}
theorem ZEs : OpR X (binaryOp .Mult) (rI IntMulOk fun i j => .int (i * j)) := opI fun _ _ _ _ _ _ _ hc q => mul_int q hc
def ZIA (_ j : Int) : Prop := 0 < j ∧ j.natAbs.log2 < 9000
theorem ZF3 : OpR X (binaryOp .FloorDiv) (rI ZIA fun i j => .int (i / j)) := opI fun i j _ _ _ _ _ hc q => by
 have h1 : (0 : Int) < j := hc.1
 exact floordiv_int (by omega) (by rw [Int.fdiv_eq_ediv_of_nonneg i (by omega)]; exact q) (.inl (PyProof.noPylong_of_log2 hc.2))
theorem ZIA.of {i j : Int} (h : 0 < j) {k : Nat} (h2 : j < 2 ^ k) (hk : k ≤ 9000) : ZIA i j := by
 refine ⟨h, ?_⟩
 have h3 : j.natAbs < 2 ^ k := by
  have e : ((j.natAbs : Nat) : Int) = j := by omega
  have e2 : ((2 ^ k : Nat) : Int) = (2 : Int) ^ k := by simp
  have : ((j.natAbs : Nat) : Int) < ((2 ^ k : Nat) : Int) := by rw [e, e2]; exact h2
  exact Int.ofNat_lt.mp this
 have h4 : j.natAbs.log2 < k := (Nat.log2_lt (by omega)).mpr h3
 omega
theorem ZXF {i j : Int} (h1 : -(2 ^ 64) < i) (h2 : i < 2 ^ 64) : IntMulOk i j := .of_left (intBits_le_64 h1 h2)
theorem ZXG {i j : Int} (h1 : -(2 ^ 64) < j) (h2 : j < 2 ^ 64) : IntMulOk i j := .of_right (intBits_le_64 h1 h2)
end
section
variable {X : Cx}
end
section
variable {X : Cx}
end
section
variable {X : Cx}
def ZRl (K : W.Frag) : List V → Hp → VK → Prop := fun xs H Q => ∃ x n t b, xs = [x, .ty n] ∧ ZGw K H x t ∧ W.kitOne K t (.type n) = some b ∧ Q (.bl b) H
theorem ZRm : ZFK X (.builtin "isinstance") (ZRl X.K) := by
 intro pins s σ H xs us Q I r h
 obtain ⟨x, n, t, b, rfl, ty, e, q⟩ := h
 obtain ⟨u, v, rfl, ru, rv⟩ := r.two
 obtain rfl : v = Value.type n := rv
 exact ZPr I ru ty e fun tk => ⟨.bl b, H, I.tok _, rfl, q⟩
end
section
variable {X : Cx}
end
theorem ZMB {l : List (Str × Addr)} {x : Str} {c : Addr} (h : (x, c) ∈ l) : ∃ d, l.lookup x = some d := by
 induction l with
 | nil => cases h
 | cons p r ih =>
  obtain ⟨y, d⟩ := p
  cases hx : x == y with
  | true => exact ⟨d, by simp [List.lookup_cons, hx]⟩
  | false =>
   have hr : (x, c) ∈ r := by
    rcases List.mem_cons.mp h with e | e
    ·cases e
     simp at hx
    ·exact e
   obtain ⟨d', e⟩ := ih hr
   exact ⟨d', by simp only [List.lookup_cons, hx]; exact e⟩
theorem ZHr {env : Env} : ∀ (names : List (Str × NameKind)) (acc : List (Str × Addr)), (∀ y ∈ names, y.2 = NameKind.free → ∃ c, env.cells.lookup y.1 = some c) → (∀ p ∈ acc, env.cells.lookup p.1 = some p.2) →
  ∃ cl : List (Str × Addr), (forIn names acc fun (x : Str × NameKind) (r : List (Str × Addr)) => (match x with | (name, kind) => if (kind == NameKind.free) = true then (do let a ← cellOf env name; pure (ForInStep.yield ((name, a) :: r))) else pure (ForInStep.yield r) : Sem (ForInStep (List (Str × Addr))))) = pure cl
   ∧ (∀ p ∈ cl, env.cells.lookup p.1 = some p.2) ∧ (∀ p ∈ acc, p ∈ cl) ∧ ∀ y ∈ names, y.2 = NameKind.free → ∃ c, (y.1, c) ∈ cl
 | [], acc, _, ha => ⟨acc, by simp, ha, fun _ h => h, fun y h => by cases h⟩
 | (n, k) :: r, acc, h, ha => by
  by_cases hk : k = NameKind.free
  ·subst hk
   obtain ⟨c, hc⟩ := h (n, .free) List.mem_cons_self rfl
   obtain ⟨cl, e, h1, h2, h3⟩ := ZHr r ((n, c) :: acc) (fun y hy => h y (List.mem_cons_of_mem _ hy)) (fun p hp => by
    rcases List.mem_cons.mp hp with rfl | hp
    ·exact hc
    ·exact ha p hp)
   refine ⟨cl, ?_, h1, fun p hp => h2 p (List.mem_cons_of_mem _ hp), fun y hy hf => ?_⟩
   ·rw [List.forIn_cons]
    simp only [beq_self_eq_true, if_true, cellOf, hc, pure_bind]
    exact e
   ·rcases List.mem_cons.mp hy with rfl | hy
    ·exact ⟨c, h2 _ List.mem_cons_self⟩
    ·exact h3 y hy hf
  ·obtain ⟨cl, e, h1, h2, h3⟩ := ZHr r acc (fun y hy => h y (List.mem_cons_of_mem _ hy)) ha
   have hb : (k == NameKind.free) = false := by simpa using hk
   refine ⟨cl, ?_, h1, h2, fun y hy hf => ?_⟩
   ·rw [List.forIn_cons]
    simp only [hb, Bool.false_eq_true, if_false, pure_bind]
    exact e
   ·rcases List.mem_cons.mp hy with rfl | hy
    ·exact absurd hf hk
    ·exact h3 y hy hf
theorem ZOw {scope : Scope} {env : Env} (h : ∀ y ∈ scope.names, y.2 = NameKind.free → ∃ c, env.cells.lookup y.1 = some c) :
  ∃ cl, closureFor scope env = pure cl ∧ (∀ x c, cl.lookup x = some c → env.cells.lookup x = some c) ∧ ∀ y ∈ scope.names, y.2 = .free → ∃ c, cl.lookup y.1 = some c := by
 obtain ⟨cl, e, h1, _, h3⟩ := ZHr scope.names [] h (fun p hp => by cases hp)
 refine ⟨cl, ?_, fun x c hx => h1 (x, c) (PySem.mem_of_lookup hx), fun y hy hf => ?_⟩
 ·simp only [closureFor]
  rw [e]
  rfl
 ·obtain ⟨c, hc⟩ := h3 y hy hf
  exact ZMB hc
theorem ZIc {env : Env} : ∀ (names : List (Str × NameKind)) (x : Str),
  (names.map fun (n, k) => if (k == NameKind.free && env.scope.kind == .function && env.kindOf n == some .cell) then (n, NameKind.cell) else (n, k)).lookup x =
   (names.lookup x).map fun k => if (k == NameKind.free && env.scope.kind == .function && env.kindOf x == some .cell) then NameKind.cell else k
 | [], _ => rfl
 | (n, k) :: r, x => by
  have ih := ZIc (env := env) r x
  show List.lookup x ((if (k == NameKind.free && env.scope.kind == .function && env.kindOf n == some .cell) = true then (n, NameKind.cell) else (n, k)) :: _) = _
  cases hx : x == n with
  | true =>
   have e : x = n := eq_of_beq hx
   subst e
   by_cases hc : (k == NameKind.free && env.scope.kind == .function && env.kindOf x == some .cell) = true
   ·rw [if_pos hc]
    simp only [List.lookup_cons, beq_self_eq_true, Option.map_some]
    rw [if_pos hc]
   ·rw [if_neg hc]
    simp only [List.lookup_cons, beq_self_eq_true, Option.map_some]
    rw [if_neg hc]
  | false =>
   by_cases hc : (k == NameKind.free && env.scope.kind == .function && env.kindOf n == some .cell) = true
   ·rw [if_pos hc]; simp only [List.lookup_cons, hx]; exact ih
   ·rw [if_neg hc]; simp only [List.lookup_cons, hx]; exact ih
structure ZPz (N : List Str) (sc : Scope) (own caps : List Str) (ks : List Nat) (scope : Scope) : Prop where
 kind : scope.kind = .function
 nocell : ∀ y ∈ scope.names, y.2 ≠ .cell
 names : ∀ y ∈ scope.names, y.2 = .local → scope.names.lookup y.1 = some .local
 free : ∀ y ∈ scope.names, y.2 = .free → sc.names.lookup y.1 = some .cell
 nd : (own ++ caps).Nodup
 cap : ks.map (fun k => N[k]?) = caps.map some
 fr : ∀ x ∈ caps, scope.names.lookup x = some .free
def ZFq (X : Cx) (N' : List Str) (scope : Scope) (cl : List (Str × Addr)) (C : Addr) (s₂ : Shared) (H₂ : Hp) (fp : List Addr) : Cx :=
 { X with N := N', s₀ := s₂, H₀ := H₂, env := compEnvC scope cl C X.env, outer := X.stack, stack := X.stack, ex := fp, fn := fun _ => false, pn := [], xe := fun _ _ => False }
def ZIq (own : Nat) (ks : List Nat) (σ : St) : St := List.replicate own none ++ ks.map fun k => (σ[k]?).join
section
variable {prog : Program} {w : World} {A : Around} {R : Result → Shared → Prop} {s : Shared}
theorem ZIr {elt target iter : Expr} {ifs : List Expr} {scope : Scope} {pos : Pos} {it acc : Value} {env : Env} (I : Nat → Shared → Prop)
  (turn : ∀ n s, I n s → wpAny (model prog w) A (pyNext it) (fun r s₁ => match r with
   | none => R (.ok .next) s₁
   | some v => wpAny (model prog w) A (letOwnedTupleGo target it v) (fun _ s₁' => wpAny (model prog w) A (assign target env v) (fun _ s₂ =>
    wpAny (model prog w) A (forIn ifs true fun c r => if r = true then do let ok ← isTrue c env (eval c env); pure (ForInStep.yield ok) else pure (ForInStep.yield r)) (fun ok s₃ =>
     if ok = true then wpAny (model prog w) A (eval elt env) (fun x s₄ =>
      wpAny (model prog w) A (call (.builtin "list.append") [acc, x]) (fun _ s₅ => ∃ m, m < n ∧ I m s₅) (notedBy (model prog w) A env fun e s' => R (.error e) s') s₄) (notedBy (model prog w) A env fun e s' => R (.error e) s') s₃
     else ∃ m, m < n ∧ I m s₃) (notedBy (model prog w) A env fun e s' => R (.error e) s') s₂) (notedBy (model prog w) A env fun e s' => R (.error e) s') s₁') (notedBy (model prog w) A env fun e s' => R (.error e) s') s₁) (notedBy (model prog w) A env fun e s' => R (.error e) s') s)
  (n : Nat) (h : I n s) :
  codeAny (model prog w) A (.compLoop (.ListComp elt [⟨target, iter, ifs, 0⟩] scope pos) 0 it acc env) R s := by
 refine codeAny_loop rfl I (fun n s hI => ?_) n h
 show wpAny _ A ((compTurn (.ListComp elt [⟨target, iter, ifs, 0⟩] scope pos) 0 it acc env).onRaise (fun x => do noteFrame x env; theTreesLotGoes x)) _ _ s
 refine wpAny_noted ?_
 rw [compTurn_list]
 refine wpAny_bind (wpAny_standAt (wpAny_bind (wpAny_mono (turn n s hI) (fun r s₁ h₁ => ?_) fun _ _ h' => h')))
 cases r with
 | none => exact wpAny_pure h₁
 | some v =>
  refine wpAny_bind (wpAny_mono h₁ (fun _ s₁' h₁' => ?_) fun _ _ h' => h')
  refine wpAny_bind (wpAny_mono h₁' (fun _ s₂ h₂ => wpAny_bind (wpAny_mono h₂ (fun ok s₃ h₃ => ?_) fun _ _ h' => h')) fun _ _ h' => h')
  cases ok with
  | false => exact wpAny_pure ⟨rfl, h₃⟩
  | true =>
   exact wpAny_bind (wpAny_bind (wpAny_mono h₃ (fun x s₄ h₄ => wpAny_bind (wpAny_mono h₄ (fun _ s₅ h₅ => wpAny_pure (wpAny_pure ⟨rfl, h₅⟩)) fun _ _ h' => h')) fun _ _ h' => h'))
end
def ZOx (X : Cx) (ifs : List Expr) (t : TT) : Prop :=
 ∀ (pins : List (Addr × Obj)) (s : Shared) (σ : St) (H : Hp) (Q : Bool → Hp → Prop), Inv X pins σ H s → t σ H Q →
  wpAny (model X.prog X.w) X.A (forIn ifs true fun c r => if r = true then do let ok ← isTrue c X.env (eval c X.env); pure (ForInStep.yield ok) else pure (ForInStep.yield r)) (TP X pins σ Q) X.xe s
def ZOy : TT := fun _ H Q => Q true H
section
variable {X : Cx}
theorem ZRn : ZOx X [] ZOy := fun _ _ _ H _ I h => wpAny_tests_nil ⟨H, I, h⟩
theorem ZRo {c : Expr} {t : TT} (hc : PT X c t) : ZOx X [c] t := fun pins s σ H Q I h => wpAny_tests_one (hc pins s σ H Q I h)
def ZOz (own : Nat) (ks : List Nat) (wi : TI) (g : TG) (tt : TT) (te : TE) : TE := fun σ H Q => wi σ H fun J H1 => ∀ l, H1 l = none →
 ∃ W : Nat → Nat → St → Hp → Prop, (∃ m, W 0 m (ZIq own ks σ) (upd H1 l (.lst []))) ∧ ∀ i m σ' H', W i m σ' H' →
  (J.stop i H' ∧ Q (.ref l) H') ∨ (J.go i H' ∧ ∃ N : St → Hp → Prop, (∀ σ2 H2, N σ2 H2 → ∃ m', m' < m ∧ W (i + 1) m' σ2 H2) ∧
   ∀ x H'', J.yld i H' x H'' → g x σ' H'' fun σ2 H2 => tt σ2 H2 fun b H3 =>
    if b = true then te σ2 H3 fun v H4 => ∃ xs, H4 l = some (.lst xs) ∧ xs.length < sizeLine ∧ N σ2 (upd H4 l (.lst (xs ++ [v]))) else N σ2 H3)
theorem ZP0 {α : Type} {o : Option (Option α)} {v : α} (h : o.join = some v) : o = some (some v) := by
 cases o with
 | none => cases h
 | some x => exact congrArg some h
theorem ZTu {N : List Str} {sc : Scope} {own caps : List Str} {ks : List Nat} {elt tg iter : Expr} {ifs : List Expr} {scope : Scope} {pos : Pos} {wi : TI} {g : TG} {tt : TT} {te : TE}
  (hN : X.N = N) (hsc : X.env.scope = sc) (hc : X.calm = true) (S : ZPz N sc own caps ks scope) (hi : PI X tg iter wi)
  (hg : ∀ cl C s₂ H₂ fp, PG (ZFq X (own ++ caps) scope cl C s₂ H₂ fp) tg g)
  (ht : ∀ cl C s₂ H₂ fp, ZOx (ZFq X (own ++ caps) scope cl C s₂ H₂ fp) ifs tt)
  (he : ∀ cl C s₂ H₂ fp, PE (ZFq X (own ++ caps) scope cl C s₂ H₂ fp) elt te)
  (hs : ∀ x, foldedSetIterable iter X.env x = pure x := by intro _; rfl) :
  PE X (.ListComp elt [⟨tg, iter, ifs, 0⟩] scope pos) (ZOz own.length ks wi g tt te) := by
 intro pins s σ H Q I h
 subst hN hsc
 rw [eval_ListComp]
 obtain ⟨cl, hclos, hcl, hclf⟩ := ZOw (scope := scope) (env := X.env) fun y hy hf => I.ok.has y.1 (.inl (S.free y hy hf))
 refine wpAny_comprehension_free (use := none) rfl hs hclos S.kind S.names (wpAny_mono (hi pins s σ H _ I h) (fun xv s₁ h₁ => wpAny_mono h₁ (fun it s₂ h₂ => ?_) fun _ _ e => e) fun _ _ e => e)
 obtain ⟨it, fp, tn, J, H2, e, I2, T, st2, f2, q⟩ := h₂
 subst e
 refine wpAny_newObj_type (wpAny_newFunctionEnv S.nocell (by intro y hy; simp at hy) (fun h₁ hns₁ hsb₁ => ?_) S.kind)
 dsimp only at hns₁ hsb₁ ⊢
 generalize hH2 : s₂.heap.push { cls := .type "list", dict := none, data := .seq ([] : List Value).toArray } = HP at hns₁ hsb₁ ⊢
 have hC : HP.objs.size = s₂.heap.objs.size + 1 := by rw [← hH2, Heap.size_push]
 have hDC : s₂.heap.objs.size ≠ HP.objs.size := by rw [hC]; exact Nat.ne_of_lt (Nat.lt_succ_self _)
 have hCle : s₂.heap.objs.size ≤ HP.objs.size := by rw [hC]; exact Nat.le_succ _
 have old : ∀ b o, s₂.heap.get? b = some o → h₁.get? b = some o := fun b o e => by
  have hb : b < s₂.heap.objs.size := Heap.lt_size e
  exact hsb₁.extBut b o (by rw [hC]; exact Nat.ne_of_lt (Nat.lt_succ_of_lt hb)) (Heap.get?_push_of_some _ (hH2 ▸ Heap.get?_push_of_some _ e))
 have hacc : h₁.get? s₂.heap.objs.size = some { cls := .type "list", dict := none, data := .seq ([] : List Value).toArray } := hsb₁.extBut _ _ hDC (Heap.get?_push_of_some _ (hH2 ▸ Heap.get?_push_size _ rfl))
 have fpl : ∀ b ∈ fp, b < s₂.heap.objs.size := fun b hb => by
  obtain ⟨o, e, _⟩ := T.obj _ _ st2 b hb
  exact Heap.lt_size e
 have hfD : H2 s₂.heap.objs.size = none := I2.hok.fresh (Nat.le_refl _)
 obtain ⟨W, ⟨m0, w0⟩, turn⟩ := q s₂.heap.objs.size hfD
 have hkr : ∀ x, (compEnvC scope cl HP.objs.size X.env).kindOf x = (scope.names.lookup x).map fun k => if (k == NameKind.free && X.env.scope.kind == .function && X.env.kindOf x == some .cell) then NameKind.cell else k := fun x => ZIc (env := X.env) scope.names x
 have cellOfN : ∀ x, scope.names.lookup x = some .free → X.env.kindOf x = some .cell := fun x e => S.free (x, .free) (PySem.mem_of_lookup e) rfl
 -- the context within
 have ok : (ZFq X (own ++ caps) scope cl HP.objs.size s₂ H2 fp).Ok := by
  refine ⟨I2.ok.mod, S.kind, I2.ok.glob, I2.ok.blt, hCle, fun x y c e1 e2 => I2.ok.inj x y c (hcl x c e1) (hcl y c e2), fun x hx => ?_, fun x c z => (by cases z), I2.ok.hd, I2.ok.frames, .inl rfl, fun b hb => ⟨?_, fun x c e => (f2 b hb).2.2.2.2.1 x c (hcl x c e)⟩,
   I2.bs, Nat.le_trans I2.ok.bsz I2.sz, fun b o e hb => ?_, fun b hb z => ?_, I2.stack, I2.stkFree⟩
  ·have hx' : (scope.names.lookup x).map (fun k => if (k == NameKind.free && X.env.scope.kind == .function && X.env.kindOf x == some .cell) then NameKind.cell else k) = some .cell ∨
     (scope.names.lookup x).map (fun k => if (k == NameKind.free && X.env.scope.kind == .function && X.env.kindOf x == some .cell) then NameKind.cell else k) = some .free := by rw [← hkr x]; exact hx
   cases e : scope.names.lookup x with
   | none => rw [e] at hx'; rcases hx' with z | z <;> cases z
   | some k =>
    have hm := PySem.mem_of_lookup e
    have hk : k = .free := by
     by_cases hkf : k = .free
     ·exact hkf
     ·have hb : (k == NameKind.free) = false := by simpa using hkf
      rw [e] at hx'
      simp only [Option.map_some, hb, Bool.false_and, Bool.false_eq_true, if_false, Option.some.injEq] at hx'
      rcases hx' with z | z
      ·exact absurd z (S.nocell _ hm)
      ·exact z
    exact hclf _ hm hk
  ·exact Nat.ne_of_lt (Nat.lt_of_lt_of_le (fpl b hb) hCle)
  ·rcases (f2 b hb).2.2.2.1 with z | z
   ·exact I2.ok.noex b o e z
   ·exact absurd (Nat.lt_of_lt_of_le (Heap.lt_size e) (Nat.le_trans I2.ok.bsz z)) (Nat.lt_irrefl _)
  ·rcases List.mem_cons.mp (I2.stkSub b z) with r | r
   ·exact (f2 b hb).2.1 r
   ·exact (f2 b hb).2.2.1 r
 have hlen : (ZIq own.length ks σ).length = (own ++ caps).length := by
  have := congrArg List.length S.cap
  simp only [List.length_map] at this
  simp [ZIq, this]
 have I4 : Inv (ZFq X (own ++ caps) scope cl HP.objs.size s₂ H2 fp) [] (ZIq own.length ks σ) (upd H2 s₂.heap.objs.size (.lst [])) { s₂ with heap := h₁, toks := s₂.toks + ([] : List (Str × Value)).length } := by
  obtain ⟨mX, hnX, hlX⟩ := I2.loc
  refine ⟨ok, rfl, I2.bare, Un.laid old (Nat.le_refl _) hfD, ⟨_, hns₁, fun i x v e1 e2 e3 => ?_⟩, fun x c e => ?_, ?_, fun x c e => ?_, fun p hp => (by cases hp), I2.hok.laid old (Nat.le_refl _) ⟨Nat.zero_le _, [], 0, .nil, hacc⟩, hlen⟩
  ·have e1 : (own ++ caps)[i]? = some x := e1
   by_cases hio : i < own.length
   ·unfold ZIq at e2
    rw [List.getElem?_append_left (by simpa using hio), List.getElem?_replicate] at e2
    rw [if_pos hio] at e2
    cases e2
   ·unfold ZIq at e2
    rw [List.getElem?_append_right (by simpa using hio), List.length_replicate, List.getElem?_map] at e2
    rw [List.getElem?_append_right (by simpa using hio)] at e1
    cases ek : ks[i - own.length]? with
    | none => rw [ek] at e2; cases e2
    | some k =>
     rw [ek] at e2
     have e2' := ZP0 (Option.some.inj e2)
     have hcap := congrArg (fun l => l[i - own.length]?) S.cap
     simp only [List.getElem?_map, ek, e1, Option.map_some] at hcap
     have hNk : X.N[k]? = some x := Option.some.inj hcap
     have hfx := S.fr x (List.mem_of_getElem? e1)
     have hkX := cellOfN x hfx
     obtain ⟨u, ru, lk⟩ := hlX k x v hNk e2' (.inr (.inl hkX))
     refine ⟨u, ru, .inr ⟨.inl ?_, ?_⟩⟩
     ·show (compEnvC scope cl HP.objs.size X.env).kindOf x = some .cell
      rw [hkr x, hfx]
      simp [I2.ok.kind, hkX]
     ·rcases lk with ⟨z, _⟩ | ⟨_, c, ec, o, ho, hd⟩
      ·rw [hkX] at z; cases z
      ·obtain ⟨c', ec'⟩ := hclf (x, .free) (PySem.mem_of_lookup hfx) rfl
       have := hcl _ _ ec'
       rw [ec] at this
       cases this
       exact ⟨c, ec', o, old _ _ ho, hd⟩
  ·obtain ⟨v, o, ho, hd⟩ := I2.cell x c (hcl x c e)
   exact ⟨v, o, old _ _ ho, hd⟩
  ·show upd H2 s₂.heap.objs.size (.lst []) HP.objs.size = none
   rw [ZEf (Ne.symm hDC)]
   exact I2.hok.fresh hCle
  ·obtain ⟨v, o, ho, hd⟩ := I2.cell x c (hcl x c e)
   show upd H2 s₂.heap.objs.size (.lst []) c = none
   rw [ZEf (Nat.ne_of_lt (Heap.lt_size ho))]
   exact I2.freeC x c (hcl x c e)
 -- the way out
 have out : ∀ {σ' : St} {H' : Hp} {s' : Shared}, Inv (ZFq X (own ++ caps) scope cl HP.objs.size s₂ H2 fp) [] σ' H' s' → Q (.ref s₂.heap.objs.size) H' →
   ∃ m, s'.heap.Ns HP.objs.size m ∧ ∀ h', Heap.SameBut HP.objs.size s'.heap h' → EP X pins σ Q (.ref s₂.heap.objs.size) { s' with heap := h' } := fun {σ' H' s'} I' q' => by
  obtain ⟨m, hn, _⟩ := I'.loc
  refine ⟨m, hn, fun h' hs' => ⟨.ref s₂.heap.objs.size, H', ?_, rfl, q'⟩⟩
  have hfree : H' HP.objs.size = none := I'.free
  have neC : ∀ {b : Addr} {o : Obj}, s₂.heap.get? b = some o → b ≠ HP.objs.size := fun e => Nat.ne_of_lt (Nat.lt_of_lt_of_le (Heap.lt_size e) hCle)
  refine I2.call' (ch := fp) (s' := { s' with heap := h' }) I'.os ⟨fun b o e n hb hx => ?_, fun b o e n hb hx => ?_, I'.base.free, fun b o e hx => ?_, I'.base.tups, I'.base.frzs, I'.base.tbls⟩ (fun b ob e => ?_) I'.bare fun b hb => ⟨(f2 b hb).2.2.2.1, (f2 b hb).2.1, (f2 b hb).2.2.2.2.1, (f2 b hb).2.2.2.2.2⟩
  ·exact (hs'.2 b (neC e)).trans (I'.base.keep b o e n hb hx)
  ·obtain ⟨sl, e1⟩ := I'.base.slot b o e n hb hx
   exact ⟨sl, (hs'.2 b (neC e)).trans e1⟩
  ·obtain ⟨o', e1⟩ := I'.base.there b o e hx
   exact ⟨o', (hs'.2 b (neC e)).trans e1⟩
  ·refine (I'.hok b ob e).stay (fun c w' hc q => (hs'.2 c ?_).trans q) (fun _ q => q) fun _ _ q => q
   rintro rfl
   rcases hc with rfl | hc
   ·rw [hfree] at e; cases e
   ·rw [hfree] at hc; cases hc
 have stat : ∀ {H' : Hp}, (∀ b ∈ fp, H' b = none) → ∀ b ∈ fp, ZFs (ZFq X (own ++ caps) scope cl HP.objs.size s₂ H2 fp) [] H' b := fun hn b hb =>
  ⟨hn b hb, Nat.ne_of_lt (Nat.lt_of_lt_of_le (fpl b hb) hCle), ok.exfs b hb, .inl hb, (ok.exf b hb).2, fun p hp => by cases hp⟩
 have fr4 : ∀ b ∈ fp, upd H2 s₂.heap.objs.size (.lst []) b = none := fun b hb => by
  rw [ZEf (Nat.ne_of_lt (fpl b hb))]
  exact (f2 b hb).1
 have tn4 : tn 0 h₁ := T.keep _ _ _ st2 fun b _ o e => old b o e
 have loop : ∀ s4 : Shared, s4 = { s₂ with heap := h₁, toks := s₂.toks + ([] : List (Str × Value)).length } →
   codeAny (model X.prog X.w) X.A (.compLoop (.ListComp elt [⟨tg, iter, ifs, 0⟩] scope pos) 0 (.ref it) (.ref s₂.heap.objs.size) (compEnvC scope cl HP.objs.size X.env))
    (compPost (model X.prog X.w) X.A X.xe none (EP X pins σ Q) (.ref s₂.heap.objs.size) HP.objs.size) s4 := by
  rintro s4 rfl
  refine ZIr (fun n s' => ∃ i σ' H', Inv (ZFq X (own ++ caps) scope cl HP.objs.size s₂ H2 fp) [] σ' H' s' ∧ tn i s'.heap ∧ (∀ b ∈ fp, H' b = none) ∧ W i n σ' H') ?_ m0 ⟨0, _, _, I4, tn4, fr4, w0⟩
  rintro n s3 ⟨i, σ3, H3, I3, st3, fr3, w3⟩
  rcases turn i n σ3 H3 w3 with ⟨stop, qn⟩ | ⟨go, N, hN, step⟩
  ·refine wpAny_mono (T.done (ZFq X (own ++ caps) scope cl HP.objs.size s₂ H2 fp) rfl rfl rfl hc i [] s3 σ3 H3 (fun _ _ => False) I3 (stat fr3) st3 stop) (fun r s4 ⟨hr, I4'⟩ => ?_) fun _ _ z => False.elim z
   subst hr
   exact out I4' qn
  ·refine wpAny_mono (T.item (ZFq X (own ++ caps) scope cl HP.objs.size s₂ H2 fp) rfl rfl rfl hc i [] s3 σ3 H3 (fun _ _ => False) I3 (stat fr3) st3 go) (fun r s4 ⟨u, hr, h4⟩ => ?_) fun _ _ z => False.elim z
   subst hr
   refine wpAny_mono h4 (fun _ s5 ⟨x, H5, I5, r5, y5, st5, fr5⟩ => ?_) fun _ _ z => False.elim z
   have I5' := I5.pinned (stat fr5) (T.obj _ _ st5)
   have back : ∀ {s7 : Shared} {σ7 : St} {H7 : Hp}, Inv (ZFq X (own ++ caps) scope cl HP.objs.size s₂ H2 fp) ([] ++ ZJL fp s5.heap) σ7 H7 s7 → N σ7 H7 →
     ∃ m, m < n ∧ ∃ i σ' H', Inv (ZFq X (own ++ caps) scope cl HP.objs.size s₂ H2 fp) [] σ' H' s7 ∧ tn i s7.heap ∧ (∀ b ∈ fp, H' b = none) ∧ W i m σ' H' := fun {s7 σ7 H7} I7 n7 => by
    obtain ⟨m', hm, w7⟩ := hN σ7 H7 n7
    refine ⟨m', hm, i + 1, σ7, H7, I7.unpinned, T.keep _ _ _ st5 fun b hb o e => (I7.pin (b, o) (List.mem_append_right _ (List.mem_append_right _ (ZHf hb e)))).1, fun b hb => ?_, w7⟩
    obtain ⟨o, e, d⟩ := T.obj _ _ st5 b hb
    exact (I7.pin (b, o) (List.mem_append_right _ (List.mem_append_right _ (ZHf hb e)))).2.1
   refine wpAny_mono (hg _ _ _ _ _ _ s5 σ3 H5 x u _ I5' r5 (step x H5 y5)) (fun _ s6 ⟨σ6, H6, I6, q6⟩ => ?_) fun _ _ z => False.elim z
   refine wpAny_mono (ht _ _ _ _ _ _ s6 σ6 H6 _ I6 q6) (fun b s7 ⟨H7, I7, q7⟩ => ?_) fun _ _ z => False.elim z
   cases b with
   | false =>
    rw [if_neg Bool.false_ne_true]
    rw [if_neg Bool.false_ne_true] at q7
    exact back I7 q7
   | true =>
    rw [if_pos rfl]
    rw [if_pos rfl] at q7
    refine wpAny_mono (he _ _ _ _ _ _ s7 σ6 H7 _ I7 q7) (fun y s8 ⟨v, H8, I8, r8, xs, hx8, hz8, n8⟩ => ?_) fun _ _ z => False.elim z
    refine wpAny_mono (ZH9 (X := ZFq X (own ++ caps) scope cl HP.objs.size s₂ H2 fp) _ s8 σ6 H8 (.ref s₂.heap.objs.size) [v] (.ref s₂.heap.objs.size) [y] (fun _ H' => N σ6 H') I8 rfl (.cons r8 .nil) ⟨_, xs, v, rfl, rfl, hx8, hz8, n8⟩) (fun _ s9 ⟨_, H9, I9, _, n9⟩ => ?_) fun _ _ z => False.elim z
    exact back I9 n9
 exact codeAny_compStart_list (loop _ rfl) (T.self _ 0 _ _ _ tn4 (loop _ rfl))
end
theorem ZVq : bootBuiltins "int" = some (.type "int") := by decide +kernel
theorem ZTv : bootBuiltins "bool" = some (.type "bool") := by decide +kernel
theorem ZG9 : bootBuiltins "tuple" = some (.type "tuple") := by decide +kernel
theorem ZTw : bootBuiltins "list" = some (.type "list") := by decide +kernel
theorem ZId : bootBuiltins "len" = some (.builtin "len") := by decide +kernel
theorem ZP1 : bootBuiltins "abs" = some (.builtin "abs") := by decide +kernel
theorem ZKy : bootBuiltins "max" = some (.builtin "max") := by decide +kernel
theorem ZJP : bootBuiltins "min" = some (.builtin "min") := by decide +kernel
theorem ZJQ : bootBuiltins "sorted" = some (.builtin "sorted") := by decide +kernel
theorem ZE5 : bootBuiltins "isinstance" = some (.builtin "isinstance") := by decide +kernel
def ZGh : Expr → Bool
 | .Starred _ _ => true
 | _ => false
def ZFC (es : List Expr) : Bool := es.all fun e => !ZGh e
theorem ZGq {e : Expr} {es : List Expr} {env : Env} (h : ZGh e = false) : starEach (e :: es) env = (false, eval e env) :: starEach es env := by
 cases e <;> first | rfl | cases h
theorem ZGP {e : Expr} {es : List Expr} {env : Env} (h : ZFC (e :: es) = true) : starEach (e :: es) env = (false, eval e env) :: starEach es env := by
 refine ZGq ?_
 unfold ZFC at h
 rw [List.all_cons, Bool.and_eq_true] at h
 simpa using h.1
theorem ZF4 {pos : Pos} {env : Env} : ∀ {es : List Expr}, ZFC es = true → (backTo pos (starEach es env)).any (·.1) = false
 | [], _ => rfl
 | e :: es, h => by
  rw [ZGP h]
  have h2 : ZFC es = true := by
   unfold ZFC at h ⊢
   rw [List.all_cons, Bool.and_eq_true] at h
   exact h.2
  exact ZF4 h2
theorem ZF1 {e : Expr} {es : List Expr} (h : ZFC (e :: es) = true) : ZFC es = true := by
 unfold ZFC at h ⊢
 rw [List.all_cons, Bool.and_eq_true] at h
 exact h.2
section
variable {X : Cx} {CX : CXT} {k : Nat} {f : Addr} {fd : FuncData} {ps : List Str} {sp : Sp} {dvs : List V} {ds : List Value} {E : XK} {x : Str} {p pos : Pos} {e : Expr} {es : List Expr} {te : TE} {t : TA} {id T : String} {r : List V → Hp → VK → Prop}
theorem ZXH (ha : PE X e te) (hr : PA X es t) (hs : ZGh e = false := by rfl) : PA X (e :: es) (ZMU te t) := ZTl ha hr (ZGq hs)
theorem ZRp (F : ZEW X.prog X.w X.K X.mg X.base CX k f fd ps sp) (hr : Room k X.A) (hg : Gl X x) (hm : X.mg x = some (.ref f)) (hk : W.keepIn X.K (.ref f) = true) (hb : ZER X.K fd ps ds) (hd : ZEg dvs ds) (hx : ZF7 CX X E)
  (ha : PA X (e :: es) t) (hns : ZFC (e :: es) = true := by rfl) (hdb : (x == ("__debug__" : Str)) = false := by decide) : PE X (.Call (.Name x p) (e :: es) [] pos) (ZKs sp dvs E t) :=
 ZTm F hr hg hm hk hb hd hx ha hdb (ZGP hns) (ZF4 (ZF1 hns))
theorem ZP2 (hc : ZFK X (.builtin id) r) (hg : Gl X x) (hm : X.mg x = none) (hv : bootBuiltins x = some (.builtin id)) (ha : PA X (e :: es) t) (hns : ZFC (e :: es) = true := by rfl) (hn : x ≠ "__name__" := by decide) (hdb : (x == ("__debug__" : Str)) = false := by decide) :
 PE X (.Call (.Name x p) (e :: es) [] pos) (tCB r t) := ZRd hc hg hm hv ha hn hdb (ZGP hns) (ZF4 (ZF1 hns))
theorem ZO0 (hc : ZFK X (.type T) r) (hg : Gl X x) (hm : X.mg x = none) (hv : bootBuiltins x = some (.type T)) (ha : PA X (e :: es) t) (hns : ZFC (e :: es) = true := by rfl) (hn : x ≠ "__name__" := by decide) (hdb : (x == ("__debug__" : Str)) = false := by decide) :
 PE X (.Call (.Name x p) (e :: es) [] pos) (tCB r t) := ZPt hc hg hm hv ha hn hdb (ZGP hns) (ZF4 (ZF1 hns))
end
def ZGQ : Expr → Bool
 | .ListComp _ _ _ _ => true
 | .SetComp _ _ _ _ => true
 | .DictComp _ _ _ _ _ => true
 | _ => false
theorem ZHA {e : Expr} {tg : Option Expr} {n : Nat} {env : Env} (h : ZGQ e = false) : swapsWith e tg n env = pure false := by
 cases e <;> first | rfl | cases h
section
variable {X : Cx} {e : Expr} {te : TE} {pos : Pos}
theorem ZRq (he : PE X e te) (hs : ZGQ e = false := by rfl) : PS X (.Expr e pos) (ZMR te) := ZTZ he (ZHA hs)
theorem ZTx {i : Nat} {x : Str} {pos' : Pos} (hN : X.N.Nodup) (hi : X.N[i]? = some x) (hx : Loc X.env.scope x) (he : PE X e te) (hs : ZGQ e = false := by rfl) (hf : X.fn x = true ∨ X.env.scope.names.lookup x = some .local := by first | exact .inl rfl | exact .inr rfl | assumption) :
 PS X (.Assign [.Name x pos'] e pos) (ZKI te (ZHe i)) := ZVW hN hi hx he (ZHA hs) hf
end
def ZO1 (K : W.Frag) : List V → Hp → VK → Prop := fun xs H Q => ∃ p ys, xs = [.ref p] ∧ (SqL K H p ys ∨ SqT K H p ys) ∧ Q (.int ys.length) H
def ZVr : List V → Hp → VK → Prop := fun xs H Q => ∃ i, xs = [.int i] ∧ Q (.int (if i < 0 then -i else i)) H
def ZVs : List V → Hp → VK → Prop := fun xs H Q => ∃ i j, xs = [.int i, .int j] ∧ Q (.int (if j > i then j else i)) H
def ZVt : List V → Hp → VK → Prop := fun xs H Q => ∃ i j, xs = [.int i, .int j] ∧ Q (.int (if j < i then j else i)) H
def ZMo (K : W.Frag) : List V → Hp → VK → Prop := fun xs H Q => ∃ p ys, xs = [.ref p] ∧ ((SqL K H p ys ∧ ∀ l, H l = none → Q (.ref l) (upd H l (.tup ys))) ∨ (SqT K H p ys ∧ Q (.ref p) H))
def ZVu : R2 := fun x y H Q => y = .non ∧ Q (.bl (decide (x = .non))) H
def ZTD : R2 := fun x y H Q => y = .non ∧ Q (.bl (!decide (x = .non))) H
section
variable {X : Cx}
theorem ZVv : ZFK X (.builtin "len") (ZO1 X.K) := ZMm
theorem ZP3 : ZFK X (.builtin "abs") ZVr := ZRV
theorem ZP4 (hc : X.calm = true) : ZFK X (.builtin "max") ZVs := ZPm hc
theorem ZMp (hc : X.calm = true) : ZFK X (.builtin "min") ZVt := ZPn hc
theorem ZRr : ZFK X (.type "tuple") (ZMo X.K) := ZMA
theorem ZJR : OpR X (compareOp .Is) ZVu := ZVb
theorem ZLU : OpR X (compareOp .IsNot) ZTD := ZTf
end
section
variable {K : W.Frag} {σ : St} {H : Hp} {Q : VK} {D : ZFH}
theorem ZVw {t u : TS} (h : t { D with nx := u D } σ H) : ZIQ t u D σ H := h
theorem ZVx {te : TE} (h : te σ H D.rt) : ZRE te D σ H := h
theorem ZTy {te : TE} (h : te σ H fun _ H1 => D.nx σ H1) : ZMR te D σ H := h
theorem ZTz (h : D.nx σ H) : ZOd D σ H := h
theorem ZVy {te : TE} {g : TG} (h : te σ H fun x H1 => g x σ H1 D.nx) : ZKI te g D σ H := h
theorem ZRs {i : Nat} {v : V} {R : St → Hp → Prop} (h : R (σ.set i (some v)) H) : ZHe i v σ H R := h
theorem ZT0 {R : St → Hp → Prop} (h : R σ H) : ZRH [] σ H R := ⟨rfl, h⟩
theorem ZRt {t : TG} {u : TGs} {v : V} {r : List V} {R : St → Hp → Prop} (h : t v σ H fun σ' H' => u r σ' H' R) : ZOe t u (v :: r) σ H R := ⟨v, r, rfl, h⟩
theorem ZT1 {to ti : TE} {t : ZMc} {v : V} {R : St → Hp → Prop} (h : to σ H fun o H1 => ti σ H1 fun i H2 => t o i v H2 fun H3 => R σ H3) : ZRJ to ti t v σ H R := h
theorem ZVz {c : TT} {t u : TS} (h : c σ H fun b H1 => if b = true then t D σ H1 else u D σ H1) : ZMb c t u D σ H := h
theorem ZT2 {t : TE} {R : Bool → Hp → Prop} (h : t σ H fun x H' => ∃ k, x = .bl k ∧ R k H') : ZKn t σ H R := h
theorem ZXI {t : TE} {R : Bool → Hp → Prop} (h : t σ H fun x H' => ∃ k, x = .bl k ∧ R k H') : tB t σ H R := h
theorem ZV0 {b : Bool} {R : Bool → Prop} (h : R b) : ∃ k, V.bl b = .bl k ∧ R k := ⟨b, rfl, h⟩
theorem ZV1 {t u : TT} {R : Bool → Hp → Prop} (h : t σ H fun c H1 => if c = true then u σ H1 R else R false H1) : ZRA t u σ H R := h
theorem ZWv {t u : TT} {R : Bool → Hp → Prop} (h : t σ H fun c H1 => if c = true then R true H1 else u σ H1 R) : tOr t u σ H R := h
theorem ZV2 {t : TT} {R : Bool → Hp → Prop} (h : t σ H fun c H1 => R (!c) H1) : ZRB t σ H R := h
theorem ZT3 {t u : TE} (h : t σ H fun x H1 => ∃ c, x = .bl c ∧ if c = true then u σ H1 Q else Q (.bl false) H1) : ZOb t u σ H Q := h
theorem ZT4 {t : TE} (h : t σ H fun x H1 => ∃ c, x = .bl c ∧ Q (.bl (!c)) H1) : ZOc t σ H Q := h
theorem ZWw {t : TT} {ta tb : TE} (h : t σ H fun c H1 => if c = true then ta σ H1 Q else tb σ H1 Q) : tIf t ta tb σ H Q := h
theorem ZV3 {i : Nat} {v : V} (e : σ[i]? = some (some v)) (h : Q v H) : ZQ9 i σ H Q := ⟨v, e, h⟩
theorem ZMq {i j : Int} (h1 : 0 ≤ j) (h2 : j ≤ 1000000) (h3 : i.natAbs < 2 ^ 64) : ZRR i j := ⟨h1, h2, h3⟩
theorem ZXJ {v : V} (h : Q v H) : tC v σ H Q := h
theorem ZWx {r : R2} {ta tb : TE} (h : ta σ H fun x H1 => tb σ H1 fun y H2 => r x y H2 Q) : tOp r ta tb σ H Q := h
theorem ZWy {r : V → Hp → VK → Prop} {ta : TE} (h : ta σ H fun x H1 => r x H1 Q) : tUn r ta σ H Q := h
theorem ZWz {g : Int → Int → V} {i j : Int} (h : Q (g i j) H) : rI0 g (.int i) (.int j) H Q := ⟨i, j, rfl, rfl, h⟩
theorem ZMr {C : Int → Int → Prop} {g : Int → Int → V} {i j : Int} (c : C i j) (h : Q (g i j) H) : rI C g (.int i) (.int j) H Q := ⟨i, j, rfl, rfl, c, h⟩
theorem ZXK {g : Int → V} {i : Int} (h : Q (g i) H) : rU g (.int i) H Q := ⟨i, rfl, h⟩
theorem ZV4 {i j : Int} (h : Q (.bl (decide (V.int i = V.int j))) H) : rEq (.int i) (.int j) H Q := ⟨rfl, h⟩
theorem ZV5 {i j : Int} (h : Q (.bl (!decide (V.int i = V.int j))) H) : rNe (.int i) (.int j) H Q := ⟨rfl, h⟩
theorem ZW0 {r : List V → Hp → VK → Prop} {t : TA} (h : t σ H fun vs H1 => r vs H1 Q) : tCB r t σ H Q := h
theorem ZT5 {sp : Sp} {dvs : List V} {E : XK} {t : TA} (h : t σ H fun vs H1 => sp (vs ++ dvs) H1 Q E) : ZKs sp dvs E t σ H Q := h
theorem ZT6 {ta : TE} {tr : TA} {R : List V → Hp → Prop} (h : ta σ H fun x H1 => tr σ H1 fun xs H2 => R (x :: xs) H2) : ZMU ta tr σ H R := h
theorem ZV6 {R : List V → Hp → Prop} (h : R [] H) : ZMh σ H R := h
def ZRu (n : Nat) (o : HO) (H : Hp) (Q : VK) : Prop := n ≤ sizeLine ∧ ∀ p, H p = none → Q (.ref p) (upd H p o)
theorem ZV7 {t : TA} (h : t σ H fun xs H1 => ZRu xs.length (.tup xs) H1 Q) : ZRZ t σ H Q := h
theorem ZV8 {t : TA} (h : t σ H fun xs H1 => ZRu xs.length (.lst xs) H1 Q) : ZRa t σ H Q := h
theorem ZES {n : Nat} {o : HO} (hz : n ≤ sizeLine) (h : ∀ p H2, H p = none → H2 p = some o → ZEU H H2 → Q (.ref p) H2) : ZRu n o H Q :=
 ⟨hz, fun p hp => h p _ hp ZEa (fun b u e => by rw [ZEf (ZEh e hp)]; exact e)⟩
theorem ZRv {r r' : R2} {ta tb tc : TE} (h : ta σ H fun x H1 => tb σ H1 fun y H2 => r x y H2 fun z H3 => ∃ k, z = .bl k ∧ (if k = true then tc σ H3 fun w' H4 => r' y w' H4 Q else Q (.bl false) H3)) : ZJM r r' ta tb tc σ H Q := h
theorem ZJS {p : Addr} {xs : List V} {i : Int} {v : V} (h1 : SqL K H p xs) (h2 : atI xs i = some v) (h : Q v H) : ZOu K (.ref p) (.int i) H Q := ⟨p, xs, i, v, rfl, rfl, h1, h2, h⟩
theorem ZMs {p : Addr} {xs : List V} {i : Int} {v : V} (h1 : SqT K H p xs) (h2 : atI xs i = some v) (h : Q v H) : ZRg K (.ref p) (.int i) H Q := ⟨p, xs, i, v, rfl, rfl, h1, h2, h⟩
theorem ZOQ {p : Addr} {xs : List V} {k : Int} {j : Nat} {v : V} {R : Hp → Prop} (h1 : H p = some (.lst xs)) (h2 : ixN xs.length k = some j)
  (h : ∀ H2, H2 p = some (.lst (xs.set j v)) → (∀ q o, H q = some o → q ≠ p → H2 q = some o) → R H2) : ZTC (.ref p) (.int k) v H R :=
 ⟨p, xs, k, j, rfl, rfl, h1, h2, h _ ZEa fun q o e n => by rw [ZEf n]; exact e⟩
def rFor (J : It) (g : TG) (tb : TS) (D : ZFH) (σ : St) (H : Hp) : Prop := ∃ W : Nat → Nat → St → Hp → Prop, (∃ m, W 0 m σ H) ∧ ∀ i m σ H, W i m σ H →
 (J.stop i H ∧ D.nx σ H) ∨ (J.go i H ∧ ∃ N : St → Hp → Prop, (∀ σ' H', N σ' H' → ∃ m', m' < m ∧ W (i + 1) m' σ' H') ∧ ∀ x H', J.yld i H x H' → g x σ H' fun σ2 H2 => tb { D with nx := N, ct := N, bk := D.nx } σ2 H2)
theorem ZV9 {wi : TI} {g : TG} {tb : TS} (h : wi σ H fun J H1 => rFor J g tb D σ H1) : ZRN wi g tb D σ H := h
def ZTE (vs : List V) (H : Hp) (R : It → Hp → Prop) : Prop := ∃ j : Int, vs = [.int j] ∧ -(2 ^ 62) ≤ j ∧ j < 2 ^ 62 ∧ R (Itr 0 j.toNat) H
theorem ZT7 {ta : TA} {R : It → Hp → Prop} (h : ta σ H fun vs H1 => ZTE vs H1 R) : ZOj ta σ H R := h
theorem ZIe {j : Int} {R : It → Hp → Prop} (h1 : -(2 ^ 62) ≤ j) (h2 : j < 2 ^ 62) (h : R (Itr 0 j.toNat) H) : ZTE [.int j] H R := ⟨j, rfl, h1, h2, h⟩
theorem ZWA {i : Int} (h : Q (.int (if i < 0 then -i else i)) H) : ZVr [.int i] H Q := ⟨i, rfl, h⟩
theorem ZWB {i j : Int} (h : Q (.int (if j > i then j else i)) H) : ZVs [.int i, .int j] H Q := ⟨i, j, rfl, h⟩
theorem ZWC {i j : Int} (h : Q (.int (if j < i then j else i)) H) : ZVt [.int i, .int j] H Q := ⟨i, j, rfl, h⟩
theorem ZT8 {p : Addr} {ys : List V} (h1 : SqL K H p ys) (h : Q (.int ys.length) H) : ZO1 K [.ref p] H Q := ⟨p, ys, rfl, .inl h1, h⟩
theorem ZT9 {p : Addr} {ys : List V} (h1 : SqT K H p ys) (h : Q (.int ys.length) H) : ZO1 K [.ref p] H Q := ⟨p, ys, rfl, .inr h1, h⟩
theorem ZP5 {x : V} {n : String} {t : Value} {b : Bool} (ty : ZGw K H x t) (e : W.kitOne K t (.type n) = some b) (h : Q (.bl b) H) : ZRl K [x, .ty n] H Q := ⟨x, n, t, b, rfl, ty, e, h⟩
theorem ZWD {x : V} (h : Q (.bl (decide (x = .non))) H) : ZVu x .non H Q := ⟨rfl, h⟩
theorem ZUA {x : V} (h : Q (.bl (!decide (x = .non))) H) : ZTD x .non H Q := ⟨rfl, h⟩
theorem ZUB {n : Nat} {t : TGs} {p : Addr} {xs : List V} {R : St → Hp → Prop} (h1 : SqT K H p xs) (h2 : xs.length = n) (h : t xs σ H R) : ZOf K n t (.ref p) σ H R := ⟨p, xs, rfl, h1, h2, h⟩
theorem ZHm {p : Addr} {ys : List V} (h1 : SqL K H p ys) (h : ∀ l H2, H l = none → H2 l = some (.tup ys) → ZEU H H2 → Q (.ref l) H2) :
  ZMo K [.ref p] H Q :=
 ⟨p, ys, rfl, .inl ⟨h1, fun l hl => h l _ hl ZEa (fun b u e => by rw [ZEf (ZEh e hl)]; exact e)⟩⟩
theorem ZWE {p : Addr} {xs : List V} {lo hi : Option Int} (h1 : SqL K H p xs) (h : ∀ l H2, H l = none → H2 l = some (.lst (ZGx xs lo hi)) → ZEU H H2 → Q (.ref l) H2) : ZRh K (.ref p) lo hi H Q :=
 ⟨p, xs, rfl, h1, fun l hl => h l _ hl ZEa (fun b u e => by rw [ZEf (ZEh e hl)]; exact e)⟩
theorem ZWF {p q : Addr} {xs zs : List V} (h1 : H p = some (.lst xs)) (h2 : H q = some (.lst zs)) (hz : xs.length + zs.length ≤ sizeLine) (h : ∀ l H2, H l = none → H2 l = some (.lst (xs ++ zs)) → ZEU H H2 → Q (.ref l) H2) : ZVo (.ref p) (.ref q) H Q :=
 ⟨p, q, xs, zs, rfl, rfl, h1, h2, hz, fun l hl => h l _ hl ZEa (fun b u e => by rw [ZEf (ZEh e hl)]; exact e)⟩
theorem ZW1 {r : V → Option Int → Option Int → Hp → VK → Prop} {te : TE} {tl th : TO} (h : te σ H fun x H1 => tl σ H1 fun l H2 => th σ H2 fun u H3 => r x l u H3 Q) : tSl r te tl th σ H Q := h
theorem ZP6 {R : Option Int → Hp → Prop} (h : R none H) : ZLS σ H R := h
theorem ZUC {t : TE} {R : Option Int → Hp → Prop} (h : t σ H fun x H1 => ∃ i, x = .int i ∧ R (some i) H1) : ZOt t σ H R := h
theorem ZXL {i : Int} {R : Int → Prop} (h : R i) : ∃ j, V.int i = .int j ∧ R j := ⟨i, rfl, h⟩
theorem ZE4 {c A B : Prop} [Decidable c] (h1 : c → A) (h2 : ¬ c → B) : if decide c = true then A else B := by
 by_cases h : c
 ·rw [decide_eq_true h]; exact ZFY (h1 h)
 ·rw [decide_eq_false h]; exact ZE9 (h2 h)
theorem ZMV {c A B : Prop} [Decidable c] (h1 : ¬ c → A) (h2 : c → B) : if (!decide c) = true then A else B := by
 by_cases h : c
 ·rw [decide_eq_true h]; exact ZE9 (h2 h)
 ·rw [decide_eq_false h]; exact ZFY (h1 h)
theorem ZFk {i j : Int} : decide (V.int i = V.int j) = decide (i = j) := by
 by_cases h : i = j
 ·subst h; simp
 ·rw [decide_eq_false h, decide_eq_false (fun z => h (V.int.inj z))]
theorem ZJq {lo : Int} {n : Nat} {g : TG} {tb : TS} (Pv : Nat → St → Hp → Prop) (h0 : Pv 0 σ H)
 (hs : ∀ i σ H, i < n → Pv i σ H → g (.int (lo + i)) σ H fun σ2 H2 => tb { D with nx := Pv (i + 1), ct := Pv (i + 1), bk := D.nx } σ2 H2) (hd : ∀ σ H, Pv n σ H → D.nx σ H) :
 rFor (Itr lo n) g tb D σ H := ZPk Pv h0 hs hd
theorem ZIf {a : Addr} {xs : List V} {g : TG} {tb : TS} (Pv : Nat → St → Hp → Prop) (h0 : Pv 0 σ H) (hl : ∀ i σ H, i ≤ xs.length → Pv i σ H → SqL K H a xs)
 (hs : ∀ i x σ H, xs[i]? = some x → Pv i σ H → g x σ H fun σ2 H2 => tb { D with nx := Pv (i + 1), ct := Pv (i + 1), bk := D.nx } σ2 H2) (hd : ∀ σ H, Pv xs.length σ H → D.nx σ H) :
 rFor (Itl K a) g tb D σ H := ZRO Pv h0 hl hs hd
theorem ZLV {a : Addr} {xs : List V} {g : TG} {tb : TS} (Pv : Nat → St → Hp → Prop) (h0 : Pv 0 σ H) (hl : ∀ i σ H, i ≤ xs.length → Pv i σ H → SqT K H a xs)
 (hs : ∀ i x σ H, xs[i]? = some x → Pv i σ H → g x σ H fun σ2 H2 => tb { D with nx := Pv (i + 1), ct := Pv (i + 1), bk := D.nx } σ2 H2) (hd : ∀ σ H, Pv xs.length σ H → D.nx σ H) :
 rFor (Itt K a) g tb D σ H := ZTd Pv h0 hl hs hd
def ZTF (J : It) (g : TG) (tt : TT) (te : TE) (l : Addr) (σ0 : St) (H : Hp) (Q : VK) : Prop :=
 ∃ W : Nat → Nat → St → Hp → Prop, (∃ m, W 0 m σ0 (upd H l (.lst []))) ∧ ∀ i m σ' H', W i m σ' H' →
  (J.stop i H' ∧ Q (.ref l) H') ∨ (J.go i H' ∧ ∃ N : St → Hp → Prop, (∀ σ2 H2, N σ2 H2 → ∃ m', m' < m ∧ W (i + 1) m' σ2 H2) ∧
   ∀ x H'', J.yld i H' x H'' → g x σ' H'' fun σ2 H2 => tt σ2 H2 fun b H3 =>
    if b = true then te σ2 H3 fun v H4 => ∃ xs, H4 l = some (.lst xs) ∧ xs.length < sizeLine ∧ N σ2 (upd H4 l (.lst (xs ++ [v]))) else N σ2 H3)
theorem ZGr {J : It} {g : TG} {tt : TT} {te : TE} {σ0 : St} {l : Addr} (n : Nat) (Pv : Nat → St → Hp → Prop) (h0 : Pv 0 σ0 (upd H l (.lst [])))
  (stop : ∀ σ H, Pv n σ H → J.stop n H ∧ Q (.ref l) H)
  (go : ∀ i σ H, i < n → Pv i σ H → J.go i H ∧ ∀ x H', J.yld i H x H' → g x σ H' fun σ2 H2 => tt σ2 H2 fun b H3 =>
   if b = true then te σ2 H3 fun v H4 => ∃ xs, H4 l = some (.lst xs) ∧ xs.length < sizeLine ∧ Pv (i + 1) σ2 (upd H4 l (.lst (xs ++ [v]))) else Pv (i + 1) σ2 H3) :
  ZTF J g tt te l σ0 H Q := by
 refine ⟨fun i m σ H => m = n - i ∧ i ≤ n ∧ Pv i σ H, ⟨n, by simp, Nat.zero_le _, h0⟩, ?_⟩
 rintro i m σ H ⟨rfl, hi, p⟩
 by_cases hlt : i < n
 ·obtain ⟨hgo, h⟩ := go i σ H hlt p
  exact .inr ⟨hgo, Pv (i + 1), fun σ' H' p' => ⟨n - (i + 1), by omega, rfl, hlt, p'⟩, h⟩
 ·have e : i = n := by omega
  subst e
  exact .inl (stop σ H p)
theorem ZUD {own : Nat} {ks : List Nat} {wi : TI} {g : TG} {tt : TT} {te : TE} (h : wi σ H fun J H1 => ∀ l, H1 l = none → ZTF J g tt te l (ZIq own ks σ) H1 Q) : ZOz own ks wi g tt te σ H Q := h
def ZWG (K : W.Frag) (x : V) (H : Hp) (R : It → Hp → Prop) : Prop := ∃ a, x = .ref a ∧ (∃ xs, SqT K H a xs) ∧ R (Itt K a) H
def ZWH (K : W.Frag) (x : V) (H : Hp) (R : It → Hp → Prop) : Prop := ∃ a, x = .ref a ∧ (∃ xs, SqL K H a xs) ∧ R (Itl K a) H
theorem ZUE {tl : TE} {R : It → Hp → Prop} (h : tl σ H fun x H1 => ZWG K x H1 R) : ZOi K tl σ H R := h
theorem ZRw {tl : TE} {R : It → Hp → Prop} (h : tl σ H fun x H1 => ZWH K x H1 R) : ZMT K tl σ H R := h
theorem ZWI {p : Addr} {xs : List V} {R : It → Hp → Prop} (h1 : SqT K H p xs) (h : R (Itt K p) H) : ZWG K (.ref p) H R := ⟨p, rfl, ⟨xs, h1⟩, h⟩
theorem ZP7 {p : Addr} {xs : List V} {R : It → Hp → Prop} (h1 : SqL K H p xs) (h : R (Itl K p) H) : ZWH K (.ref p) H R := ⟨p, rfl, ⟨xs, h1⟩, h⟩
theorem ZUF {R : Bool → Hp → Prop} (h : R true H) : ZOy σ H R := h
end
theorem ZEU.seqT {K : W.Frag} {H H' : Hp} {a : Addr} {xs : List V} (e : ZEU H H') (h : SqT K H a xs) : SqT K H' a xs := by
 rcases h with (h | ⟨o, h⟩) | h
 ·exact .inl (.inl (e _ _ h))
 ·exact .inl (.inr ⟨o, e _ _ h⟩)
 ·exact .inr h
def Kp (p : Addr) (H H' : Hp) : Prop := ∀ q o, H q = some o → q ≠ p → H' q = some o
theorem Kp.trans {p : Addr} {H H1 H2 : Hp} (a : Kp p H H1) (b : Kp p H1 H2) : Kp p H H2 := fun q o h n => b q o (a q o h n) n
theorem Kp.upd {p : Addr} {H : Hp} {o : HO} : Kp p H (upd H p o) := fun q u h n => by rw [ZEf n]; exact h
theorem Kp.same {p : Addr} {H H' : Hp} (a : ZEU H H') : Kp p H H' := fun q o h _ => a q o h
theorem ZEU.new {H : Hp} {l : Addr} {o : HO} (h : H l = none) : ZEU H (upd H l o) := fun b u e => by rw [ZEf (ZEh e h)]; exact e
def Pot (H : Hp) (p : Addr) : Prop := ∃ a b : Int, H p = some (.lst [.int a, .int b]) ∧ 0 ≤ a ∧ 0 ≤ b ∧ b < 2147483648
theorem Pot.same {H H' : Hp} {p : Addr} (h : Pot H p) (s : ZEU H H') : Pot H' p := by
 obtain ⟨x, y, h, r⟩ := h
 exact ⟨x, y, s _ _ h, r⟩
theorem Pot.neN {H : Hp} {p l : Addr} (h : Pot H p) (hl : H l = none) : l ≠ p := by
 obtain ⟨x, y, h, r⟩ := h
 exact (ZEh h hl).symm
theorem Kp.then {H H1 H2 : Hp} {p : Addr} (h : Kp p H H1) (s : ZEU H1 H2) : Kp p H H2 := h.trans (Kp.same s)
structure QE (X : Cx) (e : Expr) (t : TE) : Prop where
 h : PE X e t
structure QT (X : Cx) (e : Expr) (t : TT) : Prop where
 h : PT X e t
structure QW (X : Cx) (e : Expr) (t : TT) : Prop where
 h : PW X e t
structure QA (X : Cx) (es : List Expr) (t : TA) : Prop where
 h : PA X es t
structure QS (X : Cx) (st : Stmt) (t : TS) : Prop where
 h : PS X st t
structure QB (X : Cx) (st : List Stmt) (t : TS) : Prop where
 h : PSs X st t
structure QG (X : Cx) (e : Expr) (t : TG) : Prop where
 h : PG X e t
structure QGs (X : Cx) (es : List Expr) (t : TGs) : Prop where
 h : PGs X es t
structure QI (X : Cx) (tg e : Expr) (t : TI) : Prop where
 h : PI X tg e t
structure QF (X : Cx) (es : List Expr) (t : TT) : Prop where
 h : ZOx X es t
structure QO (X : Cx) (e : Option Expr) (t : TO) : Prop where
 h : PO X e t
def ZMW : Expr → Bool
 | .Slice _ _ _ _ => true
 | _ => false
theorem ZUG {b : Expr} (h : ZMW b = false) : ZOK b := by
 intro o i
 cases b <;> first | rfl | cases h
def ZMt : Expr → Bool
 | .UnaryOp _ _ _ => false
 | .BoolOp _ _ _ => false
 | .IfExp _ _ _ _ => false
 | .Compare _ _ _ _ => false
 | _ => true
theorem ZWJ {e : Expr} {env : Env} (h : ZMt e = true) : ∀ whole, isTrue e env whole = (do let v ← whole; standAt e.pos; holding [v] (truthy v)) := by
 intro whole
 cases e <;> first | rfl | cases h
section
variable {X : Cx} {a b c e o : Expr} {es ZFw : List Expr} {ta tb tc te to ti : TE} {tA tB' : TT} {t tr : TA} {pos p p2 pos' : Pos} {x : Str}
theorem qv (i : Nat) {x : Str} {pos : Pos} (hN : X.N[i]? = some x := by rfl) (hv : Vis X.env.scope x := by first | exact Or.inl rfl | exact Or.inr (Or.inl rfl) | exact Or.inr (Or.inr rfl)) (hd : (x == ("__debug__" : Str)) = false := by decide)
 (hcd : (x == ("__classdict__" : Str)) = false := by decide) : QE X (.Name x pos) (ZQ9 i) := ⟨ZVH hN hv hd hcd⟩
theorem ZEM {i j pos} : QE X (.Constant (.int i) j pos) (tC (.int i)) := ⟨ZVI⟩
theorem ZMX {b j pos} : QE X (.Constant (.bool b) j pos) (tC (.bl b)) := ⟨ZWo⟩
theorem ZFl {j pos} : QE X (.Constant .none j pos) (tC .non) := ⟨ZVJ⟩
theorem ZEn {x j pos} : QE X (.Constant (.str x) j pos) (tC (.str x)) := ⟨ZVK⟩
theorem ZFh {v : V} {u : Value} (hg : Gl X x) (hm : X.mg x = some u) (r : ZEd v u) (hd : (x == ("__debug__" : Str)) = false := by decide) : QE X (.Name x pos) (tC v) := ⟨ZTU hg hm r hd⟩
theorem ZOR {v : V} {u : Value} (hg : Gl X x) (hm : X.mg x = none) (hv : bootBuiltins x = some u) (r : ZEd v u) (hn : x ≠ "__name__" := by decide) (hd : (x == ("__debug__" : Str)) = false := by decide) : QE X (.Name x pos) (tC v) := ⟨ZTV hg hm hv r hn hd⟩
theorem ZEQ {op : Operator} {r : R2} (ho : OpR X (binaryOp op) r) (ha : QE X a ta) (hb : QE X b tb) : QE X (.BinOp a op b pos) (tOp r ta tb) := ⟨ZWr ho ha.h hb.h⟩
theorem ZHg {op : UnaryOp} {r : V → Hp → VK → Prop} (ho : UnR X (unaryOp op) r) (ha : QE X a ta) : QE X (.UnaryOp op a pos) (tUn r ta) := ⟨ZWs ho ha.h⟩
theorem ZWK (ha : QE X a ta) : QE X (.UnaryOp .Not a pos) (ZOc ta) := ⟨ZVR ha.h⟩
theorem ZKz {op} (h : QE X a ta) : QE X (.BoolOp op [a] pos) ta := ⟨ZVP h.h⟩
theorem ZK0 (ha : QE X a ta) (hb : QE X (.BoolOp .And (b :: ZFw) pos) tb) : QE X (.BoolOp .And (a :: b :: ZFw) pos) (ZOb ta tb) := ⟨ZVQ ha.h hb.h⟩
theorem ZIs (hc : QT X c tA) (ha : QE X a ta) (hb : QE X b tb) : QE X (.IfExp c a b pos) (tIf tA ta tb) := ⟨ZRC hc.h ha.h hb.h⟩
theorem ZHB {op : CmpOp} {r : R2} (ho : OpR X (compareOp op) r) (ha : QE X a ta) (hb : QE X b tb) (hm : behindInMarks op b = false) : QE X (.Compare a [op] [b] pos) (tOp r ta tb) := ⟨ZTg ho ha.h hb.h hm⟩
theorem ZEX {op : CmpOp} {r : R2} (ho : OpR X (compareOp op) r) (ha : QE X a ta) (hb : QE X b tb) (hm : behindInMarks op b = false) : QT X (.Compare a [op] [b] pos) (ZKn (tOp r ta tb)) := ⟨ZTh ho ha.h hb.h hm⟩
theorem ZRx {op op' : CmpOp} {r r' : R2} (ho : OpR X (compareOp op) r) (ho' : OpR X (compareOp op') r') (ha : QE X a ta) (hb : QE X b tb) (hc : QE X c tc)
 (hm : lastMarks [op, op'] [b, c] = false := by with_unfolding_all rfl) : QE X (.Compare a [op, op'] [b, c] pos) (ZJM r r' ta tb tc) := ⟨ZRT ho ho' ha.h hb.h hc.h hm⟩
theorem ZKM {op op' : CmpOp} {r r' : R2} (ho : OpR X (compareOp op) r) (ho' : OpR X (compareOp op') r') (ha : QE X a ta) (hb : QE X b tb) (hc : QE X c tc)
 (hm : lastMarks [op, op'] [b, c] = false := by with_unfolding_all rfl) : QT X (.Compare a [op, op'] [b, c] pos) (ZKn (ZJM r r' ta tb tc)) := ⟨ZRU ho ho' ha.h hb.h hc.h hm⟩
theorem ZFg (h : QE X e te) (he : ZMt e = true := by rfl) : QT X e (tB te) := ⟨ZVL h.h (ZWJ he)⟩
theorem QW.pt (h : QW X e tA) : QT X e tA := ⟨h.h.pt⟩
theorem ZHn (ha : QT X a tA) : QW X (.BoolOp .And [a] pos) tA := ⟨ZTW ha.h⟩
theorem ZGi (ha : QT X a tA) : QW X (.BoolOp .Or [a] pos) tA := ⟨ZVM ha.h⟩
theorem ZIg (ha : QT X a tA) (hb : QW X (.BoolOp .And (b :: ZFw) pos) tB') : QW X (.BoolOp .And (a :: b :: ZFw) pos) (ZRA tA tB') := ⟨ZVN ha.h hb.h⟩
theorem ZHO (ha : QT X a tA) (hb : QW X (.BoolOp .Or (b :: ZFw) pos) tB') : QW X (.BoolOp .Or (a :: b :: ZFw) pos) (tOr tA tB') := ⟨ZWp ha.h hb.h⟩
theorem ZF2 (ha : QT X a tA) : QT X (.UnaryOp .Not a pos) (ZRB tA) := ⟨ZVO ha.h⟩
theorem ZEL : QA X [] ZMh := ⟨ZVg⟩
theorem ZEK (ha : QE X e te) (hr : QA X es t) (hs : ZGh e = false := by rfl) : QA X (e :: es) (ZMU te t) := ⟨ZXH ha.h hr.h hs⟩
theorem ZEk {x1} (h : QA X es t) : QE X (.Tuple es x1 pos) (ZRZ t) := ⟨ZVh h.h⟩
theorem ZF8 (h : QA X es t) : QE X (.List es pos) (ZRa t) := ⟨ZVi h.h⟩
theorem ZEi {r : R2} (hr : IxR X r) (ha : QE X a ta) (hb : QE X b tb) (hs : ZMW b = false := by rfl) : QE X (.Subscript a b pos) (tOp r ta tb) := ⟨ZWt hr ha.h hb.h (ZUG hs)⟩
theorem ZUH : QO X none ZLS := ⟨ZTp⟩
theorem ZLW (h : QE X e te) : QO X (some e) (ZOt te) := ⟨ZTq h.h⟩
theorem ZMu {lo hi : Option Expr} {tl th : TO} {r : V → Option Int → Option Int → Hp → VK → Prop} (hr : SlR X r) (he : QE X e te) (hl : QO X lo tl) (hu : QO X hi th) : QE X (.Subscript e (.Slice lo hi none p2) pos) (tSl r te tl th) := ⟨ZRf hr he.h hl.h hu.h⟩
theorem ZHs {CX : CXT} {k : Nat} {f : Addr} {fd : FuncData} {ps : List Str} {sp : Sp} {dvs : List V} {ds : List Value} {E : XK} (F : ZEW X.prog X.w X.K X.mg X.base CX k f fd ps sp) (hr : Room k X.A) (hg : Gl X x) (hm : X.mg x = some (.ref f)) (hk : W.keepIn X.K (.ref f) = true) (hb : ZER X.K fd ps ds) (hd : ZEg dvs ds) (hx : ZF7 CX X E)
 (ha : QA X (e :: es) t) (hns : ZFC (e :: es) = true := by rfl) (hdb : (x == ("__debug__" : Str)) = false := by decide) : QE X (.Call (.Name x p) (e :: es) [] pos) (ZKs sp dvs E t) := ⟨ZRp F hr hg hm hk hb hd hx ha.h hns hdb⟩
theorem ZEe {id : String} {r : List V → Hp → VK → Prop} (hc : ZFK X (.builtin id) r) (hg : Gl X x) (hm : X.mg x = none) (hv : bootBuiltins x = some (.builtin id)) (ha : QA X (e :: es) t) (hns : ZFC (e :: es) = true := by rfl) (hn : x ≠ "__name__" := by decide) (hdb : (x == ("__debug__" : Str)) = false := by decide) :
 QE X (.Call (.Name x p) (e :: es) [] pos) (tCB r t) := ⟨ZP2 hc hg hm hv ha.h hns hn hdb⟩
theorem ZGc {T : String} {r : List V → Hp → VK → Prop} (hc : ZFK X (.type T) r) (hg : Gl X x) (hm : X.mg x = none) (hv : bootBuiltins x = some (.type T)) (ha : QA X (e :: es) t) (hns : ZFC (e :: es) = true := by rfl) (hn : x ≠ "__name__" := by decide) (hdb : (x == ("__debug__" : Str)) = false := by decide) :
 QE X (.Call (.Name x p) (e :: es) [] pos) (tCB r t) := ⟨ZO0 hc hg hm hv ha.h hns hn hdb⟩
theorem ZHC : QF X [] ZOy := ⟨ZRn⟩
theorem ZMv (hc : QT X c tA) : QF X [c] tA := ⟨ZRo hc.h⟩
theorem ZUI {tg : Expr} (hl : QE X e te) : QI X tg e (ZMT X.K te) := ⟨ZTc hl.h⟩
theorem ZWL {tg : Expr} (hl : QE X e te) : QI X tg e (ZOi X.K te) := ⟨ZVY hl.h⟩
theorem ZGs {tg : Expr} (hg : Gl X "range") (hm : X.mg "range" = none) (ha : QA X [a] t) (hs : ZGh a = false := by rfl) : QI X tg (.Call (.Name "range" p) [a] [] pos) (ZOj t) := ⟨ZPi hg hm ha.h (ZGq hs)⟩
theorem ZF0 {i : Nat} (hN : X.N.Nodup) (hi : X.N[i]? = some x) (hx : Loc X.env.scope x) (hf : X.fn x = true ∨ X.env.scope.names.lookup x = some .local := by first | exact .inl rfl | exact .inr rfl | assumption) : QG X (.Name x pos) (ZHe i) := ⟨ZTa hN hi hx hf⟩
theorem ZFD : QGs X [] ZRH := ⟨ZTb⟩
theorem ZP8 {e : Expr} {es : List Expr} {env : Env} (h : ZGh e = false) : (assignEach (e :: es) env).map (·.2) = assign e env :: (assignEach es env).map (·.2) := by
 cases e <;> first | rfl | cases h
theorem ZET {g : TG} {u : TGs} (h1 : QG X e g) (h2 : QGs X es u) (hs : ZGh e = false := by rfl) : QGs X (e :: es) (ZOe g u) := ⟨ZRI h1.h h2.h (ZP8 hs)⟩
theorem ZWM {k : Nat} {u : TGs} {n : Nat} (hc : X.calm = true) (h : QGs X es u) (hn : (assignEach es X.env).length = n := by rfl) (hst : (assignEach es X.env).findIdx? (·.1) = none := by rfl) : QG X (.Tuple es k pos) (ZOf X.K n u) := ⟨ZVT hc h.h hn hst⟩
theorem ZP9 {s : ZMc} (ho : QE X o to) (hi : QE X e ti) (hs : ZRG X s)
 (ha : ∀ v, assign (.Subscript o e pos) X.env v = (do
  let ov ← holding [v] (eval o X.env)
  let iv ← holding [v, ov] (eval e X.env)
  standAt pos
  holding [v, ov, iv] (setItem ov iv v)
  release [v, ov, iv] []) := by intro _; rfl) : QG X (.Subscript o e pos) (ZRJ to ti s) := ⟨ZVU ho.h hi.h hs ha⟩
theorem ZGt {N : List Str} {sc : Scope} {own caps : List Str} {ks : List Nat} {elt tg iter : Expr} {ifs : List Expr} {scope : Scope} {wi : TI} {g : TG} {tt : TT}
  (hN : X.N = N) (hsc : X.env.scope = sc) (hc : X.calm = true) (S : ZPz N sc own caps ks scope) (hi : QI X tg iter wi)
  (hg : ∀ cl C s₂ H₂ fp, QG (ZFq X (own ++ caps) scope cl C s₂ H₂ fp) tg g)
  (ht : ∀ cl C s₂ H₂ fp, QF (ZFq X (own ++ caps) scope cl C s₂ H₂ fp) ifs tt)
  (he : ∀ cl C s₂ H₂ fp, QE (ZFq X (own ++ caps) scope cl C s₂ H₂ fp) elt te)
  (hs : ∀ x, foldedSetIterable iter X.env x = pure x := by intro _; rfl) :
  QE X (.ListComp elt [⟨tg, iter, ifs, 0⟩] scope pos) (ZOz own.length ks wi g tt te) :=
 ⟨ZTu hN hsc hc S hi.h (fun cl C s₂ H₂ fp => (hg cl C s₂ H₂ fp).h) (fun cl C s₂ H₂ fp => (ht cl C s₂ H₂ fp).h) (fun cl C s₂ H₂ fp => (he cl C s₂ H₂ fp).h) hs⟩
theorem ZO2 {T : String} {name : Str} {id : String} {r : V → List V → Hp → VK → Prop} {apos cpos : Pos} (pa : PlainAttrs T) (slot : Slot T name id) (hty : typeOf (.builtin id) = pure (.type "method_descriptor")) (hm : MtR X id r) (ho : QE X o to) (ha : QA X (e :: es) t)
  (hst : ZFC (e :: es) = true := by rfl) (hbase : attributeBase o name X.env (eval o X.env) = eval o X.env := by rfl)
  (hfew : ((backTo cpos (starEach (e :: es) X.env)).all (fun x => !x.1) && (backToKw cpos (keywordEach [] X.env)).all (fun x => x.1.isSome)
   && decide ((e :: es).length + ([] : List Keyword).length + (if ([] : List Keyword).isEmpty then 0 else 1) < 30)) = true := by rfl)
  (hline : (apos.endLine == cpos.line) = true := by rfl) : QE X (.Call (.Attribute o name apos) (e :: es) [] cpos) (tBM X.K T r to t) :=
 ⟨ZWu pa slot hty hm ho.h ha.h hbase hfew hline (ZGP hst) (ZF4 (ZF1 hst))⟩
end
section
variable {X : Cx} {st : Stmt} {ZFw sa sb : List Stmt} {t u : TS} {e c : Expr} {te : TE} {tA : TT} {pos pos' : Pos} {x : Str}
theorem ZEl : QB X [] ZOd := ⟨ZTX⟩
theorem ZEN (h1 : QS X st t) (h2 : QB X ZFw u) : QB X (st :: ZFw) (ZIQ t u) := ⟨ZRD h1.h h2.h⟩
theorem ZEO (h1 : QS X st t) : QB X [st] t := ⟨ZTY h1.h⟩
theorem ZEu (he : QE X e te) (hs : ZGQ e = false := by rfl) : QS X (.Expr e pos) (ZMR te) := ⟨ZRq he.h hs⟩
theorem ZEZ (he : QE X e te) : QS X (.Return (some e) pos) (ZRE te) := ⟨ZVS he.h⟩
theorem ZEm (hc : QT X c tA) (ha : QB X sa t) (hb : QB X sb u) : QS X (.If c sa sb pos) (ZMb tA t u) := ⟨ZWq hc.h ha.h hb.h⟩
theorem ZFi : QS X st ZPg := ⟨ZRF⟩
theorem ZUJ {i : Nat} (hN : X.N.Nodup) (hi : X.N[i]? = some x) (hx : Loc X.env.scope x) (he : QE X e te) (hs : ZGQ e = false := by rfl) (hf : X.fn x = true ∨ X.env.scope.names.lookup x = some .local := by first | exact .inl rfl | exact .inr rfl | assumption) :
 QS X (.Assign [.Name x pos'] e pos) (ZKI te (ZHe i)) := ⟨ZTx hN hi hx he.h hs hf⟩
theorem ZFr {tg : Expr} {g : TG} (he : QE X e te) (hg : QG X tg g) (hs : ZGQ e = false := by rfl) (hw : swappedStores [tg] e X.env = pure none := by rfl)
 (h1 : (assignEach [tg] X.env).map (·.2) = [assign tg X.env] := by rfl) : QS X (.Assign [tg] e pos) (ZKI te g) := ⟨ZVV he.h hg.h (ZHA hs) hw h1⟩
theorem ZGN {tg iter : Expr} {wi : TI} {g : TG} (hp : PassesOwn (model X.prog X.w) X.A X.env X.xe) (hc : X.calm = true) (hi : QI X tg iter wi) (hg : QG X tg g) (hb : QB X sa t)
 (hs : ∀ x, foldedSetIterable iter X.env x = pure x := by intro _; rfl) : QS X (.For tg iter sa [] pos) (ZRN wi g t) := ⟨ZVZ hp hc hi.h hg.h hb.h hs⟩
theorem ZMw (hp : PassesOwn (model X.prog X.w) X.A X.env X.xe) (hc : QT X c tA) (hb : QB X sa t) : QS X (.While c sa [] pos) (ZMd tA t) := ⟨ZRL hp hc.h hb.h⟩
end
section
variable {X : Cx} {e : Expr} {es : List Expr} {te : TE} {pos : Pos} (K : W.Frag) (h : X.K = K)
include h
theorem ZIh : ZFK X (.builtin "len") (ZO1 K) := h ▸ ZVv
theorem ZHD : ZFK X (.type "tuple") (ZMo K) := h ▸ ZRr
theorem ZQA : ZFK X (.builtin "isinstance") (ZRl K) := h ▸ ZRm
theorem ZF9 : IxR X (ZOu K) := h ▸ ZTr
theorem ZEj : IxR X (ZRg K) := h ▸ ZVl
theorem ZUK : SlR X (ZRh K) := h ▸ ZTs
theorem ZGR {tg : Expr} (hl : QE X e te) : QI X tg e (ZMT K te) := h ▸ ZUI hl
theorem ZMx {tg : Expr} (hl : QE X e te) : QI X tg e (ZOi K te) := h ▸ ZWL hl
theorem ZFU {k : Nat} {u : TGs} {n : Nat} (hc : X.calm = true) (hg : QGs X es u) (hn : (assignEach es X.env).length = n := by rfl) (hst : (assignEach es X.env).findIdx? (·.1) = none := by rfl) : QG X (.Tuple es k pos) (ZOf K n u) := h ▸ ZWM hc hg hn hst
end
section
variable {X : Cx} {tg : Expr}
end
section
variable {σ : St} {H : Hp}
end
mutual
inductive Dat (K : W.Frag) (H : Hp) : V → PyData → Prop
 | non : Dat K H .non .none
 | bl (b : Bool) : Dat K H (.bl b) (.bool b)
 | int (i : Int) : Dat K H (.int i) (.int i)
 | str (x : Str) : Dat K H (.str x) (.str x)
 | tup {a : Addr} {xs : List V} {ds : List PyData} (h : SqT K H a xs) (r : ZGU K H xs ds) : Dat K H (.ref a) (.tuple ds)
 | lst {a : Addr} {xs : List V} {ds : List PyData} (h : SqL K H a xs) (r : ZGU K H xs ds) : Dat K H (.ref a) (.list ds)
inductive ZGU (K : W.Frag) (H : Hp) : List V → List PyData → Prop
 | nil : ZGU K H [] []
 | cons {x : V} {d : PyData} {xs : List V} {ds : List PyData} (h : Dat K H x d) (r : ZGU K H xs ds) : ZGU K H (x :: xs) (d :: ds)
end
section
variable {X : Cx} {pins : List (Addr × Obj)} {σ : St} {H : Hp} {s : Shared}
mutual
theorem Dat.reads (I : Inv X pins σ H s) : ∀ {x : V} {d : PyData} {u : Value}, Dat X.K H x d → ZEd x u → ∃ as, Reads s.heap u d as
 | _, _, u, .non, r => by cases (show u = Value.none from r); exact ⟨_, .none⟩
 | _, _, u, .bl b, r => by cases (show u = Value.bool b from r); exact ⟨_, .bool b⟩
 | _, _, u, .int i, r => by obtain ⟨t, rfl⟩ := (show ∃ t, u = Value.int i t from r); exact ⟨_, .int i t⟩
 | _, _, u, .str x, r => by obtain ⟨t, rfl⟩ := (show ∃ t, u = Value.str x t from r); exact ⟨_, .str x t⟩
 | _, _, u, @Dat.tup _ _ a xs ds h rs, r => by
  cases (show u = Value.ref a from r)
  obtain ⟨its, rv, ⟨o, ho, hc, n, hd⟩, _⟩ := I.tuple h
  obtain ⟨as, ra⟩ := ZGU.reads I rs rv
  exact ⟨_, .tuple ho hc hd (by simpa using ra)⟩
 | _, _, u, @Dat.lst _ _ a xs ds h rs, r => by
  cases (show u = Value.ref a from r)
  obtain ⟨its, rv, ⟨o, n, ho, hc, _, hd⟩, _⟩ := I.list h
  obtain ⟨as, ra⟩ := ZGU.reads I rs rv
  exact ⟨_, .list ho hc hd (by simpa using ra)⟩
theorem ZGU.reads (I : Inv X pins σ H s) : ∀ {xs : List V} {ds : List PyData} {us : List Value}, ZGU X.K H xs ds → ZEg xs us → ∃ as, ReadsAll s.heap us ds as
 | _, _, _, .nil, .nil => ⟨_, .nil⟩
 | _, _, _, .cons h r, .cons r1 r2 => by
  obtain ⟨as, ra⟩ := Dat.reads I h r1
  obtain ⟨bs, rb⟩ := ZGU.reads I r r2
  exact ⟨_, .cons ra rb⟩
end
end
section
variable {X : Cx}
theorem ZW2 {K : W.Frag} {T : String} {r : V → List V → Hp → VK → Prop} {to : TE} {t : TA} {σ : St} {H : Hp} {Q : VK} (h : to σ H fun x H1 => tyV K T x H1 ∧ t σ H1 fun xs H2 => r x xs H2 Q) : tBM K T r to t σ H Q := h
theorem tyL {K : W.Frag} {H : Hp} {p : Addr} {xs : List V} (h : H p = some (.lst xs)) : tyV K "list" (.ref p) H := .inl ⟨rfl, xs, SqL.of h⟩
theorem ZJT {H : Hp} {Q : VK} {p : Addr} {xs : List V} {y : V} (h1 : H p = some (.lst xs)) (hz : xs.length < sizeLine) (h : ∀ H2, H2 p = some (.lst (xs ++ [y])) → Kp p H H2 → Q .non H2) : ZOL (.ref p) [y] H Q :=
 ⟨p, xs, y, rfl, rfl, h1, hz, h _ ZEa Kp.upd⟩
end
def ZTG (p : Int × Int) : PyData := .tuple [.int p.1, .int p.2]
def ZEY (H : Hp) (vs : List V) (l : PL) : Prop := Paired (fun v (p : Int × Int) => ∃ a, v = V.ref a ∧ H a = some (.tup [.int p.1, .int p.2])) vs l
theorem ZEY.same {H H' : Hp} {vs : List V} {l : PL} (h : ZEY H vs l) (s : ZEU H H') : ZEY H' vs l := Paired.mapP h fun _ _ ⟨a, e, z⟩ => ⟨a, e, s _ _ z⟩
theorem ZEY.dats {K : W.Frag} {H : Hp} : ∀ {vs : List V} {l : PL}, ZEY H vs l → ZGU K H vs (l.map ZTG)
 | _, _, .nil => .nil
 | _, _, .cons ⟨a, e, z⟩ t => by
  subst e
  exact .cons (.tup (SqT.of z) (.cons (.int _) (.cons (.int _) .nil))) (ZEY.dats t)
section
variable {κ : Type} [DecidableEq κ]
def ZEp (kvs : List (κ × V)) (k : κ) : Option V := (kvs.find? fun kv => decide (kv.1 = k)).map (·.2)
def ZFo (kvs : List (κ × V)) (k : κ) (v : V) : List (κ × V) :=
 if (kvs.any fun kv => decide (kv.1 = k)) = true then kvs.map (fun kv => if kv.1 = k then (kv.1, v) else kv) else kvs ++ [(k, v)]
def ZHP (kvs : List (κ × V)) (k : κ) : List (κ × V) := kvs.filter fun kv => decide (kv.1 ≠ k)
theorem ZRy {k : κ} : ZEp ([] : List (κ × V)) k = none := rfl
theorem ZFd {p : κ × V} {r : List (κ × V)} {k : κ} (e : p.1 = k) : ZEp (p :: r) k = some p.2 := by simp [ZEp, List.find?_cons, e]
theorem ZFZ {p : κ × V} {r : List (κ × V)} {k : κ} (e : ¬ p.1 = k) : ZEp (p :: r) k = ZEp r k := by simp [ZEp, List.find?_cons, e]
theorem ZIt (k : κ) : ∀ kvs : List (κ × V), (kvs.any fun kv => decide (kv.1 = k)) = (ZEp kvs k).isSome
 | [] => rfl
 | p :: r => by
  rw [List.any_cons]
  by_cases e : p.1 = k
  ·simp only [ZFd e, decide_eq_true e, Bool.true_or, Option.isSome_some]
  ·rw [ZFZ e, decide_eq_false e, Bool.false_or]; exact ZIt k r
theorem ZMy (k j : κ) (y : V) : ∀ kvs : List (κ × V), ZEp (kvs.map fun kv => if kv.1 = k then (kv.1, y) else kv) j = (ZEp kvs j).map fun x => if j = k then y else x
 | [] => rfl
 | p :: r => by
  have ih := ZMy k j y r
  rw [List.map_cons]
  by_cases h : p.1 = k
  ·rw [if_pos h]
   by_cases e : p.1 = j
   ·rw [ZFd (p := (p.1, y)) e, ZFd e, Option.map_some, if_pos (e.symm.trans h)]
   ·rw [ZFZ (p := (p.1, y)) e, ZFZ e, ih]
  ·rw [if_neg h]
   by_cases e : p.1 = j
   ·rw [ZFd (p := p) e, ZFd e, Option.map_some, if_neg (fun z => h (e.trans z))]
   ·rw [ZFZ (p := p) e, ZFZ e, ih]
theorem ZLv (k j : κ) (y : V) : ∀ kvs : List (κ × V), ZEp kvs k = none → ZEp (kvs ++ [(k, y)]) j = if j = k then some y else ZEp kvs j
 | [], _ => by
  by_cases e : k = j
  ·rw [if_pos e.symm]; exact ZFd (p := (k, y)) e
  ·rw [if_neg (fun z => e z.symm)]; exact ZFZ (p := (k, y)) e
 | p :: r, hn => by
  rw [List.cons_append]
  have hk : ¬ p.1 = k := fun z => by rw [ZFd z] at hn; cases hn
  rw [ZFZ hk] at hn
  have ih := ZLv k j y r hn
  by_cases e : p.1 = j
  ·rw [ZFd e, ZFd e, if_neg (fun z => hk (e.trans z))]
  ·rw [ZFZ e, ZFZ e, ih]
theorem ZHE (kvs : List (κ × V)) (k j : κ) (y : V) : ZEp (ZFo kvs k y) j = if j = k then some y else ZEp kvs j := by
 unfold ZFo
 by_cases a : (kvs.any fun kv => decide (kv.1 = k)) = true
 ·rw [if_pos a, ZMy]
  rw [ZIt] at a
  by_cases e : j = k
  ·obtain ⟨x, hx⟩ := Option.isSome_iff_exists.mp a
   rw [if_pos e, e, hx, Option.map_some, if_pos rfl]
  ·rw [if_neg e]
   cases ZEp kvs j with
   | none => rfl
   | some x => rw [Option.map_some, if_neg e]
 ·rw [if_neg a]
  refine ZLv k j y kvs ?_
  rw [ZIt] at a
  cases q : ZEp kvs k with
  | none => rfl
  | some x => rw [q] at a; exact (a rfl).elim
theorem ZGS (kvs : List (κ × V)) (k : κ) (v : V) : (ZFo kvs k v).length ≤ kvs.length + 1 := by
 unfold ZFo
 split
 ·rw [List.length_map]; omega
 ·rw [List.length_append, List.length_cons, List.length_nil]; omega
theorem ZGT.isSome_eq {o : Option V} {u : Option Value} (r : ZGT o u) : o.isSome = u.isSome := by
 cases o with
 | none => cases u with
  | none => rfl
  | some _ => exact (show False from r).elim
 | some _ => cases u with
  | none => exact (show False from r).elim
  | some _ => rfl
theorem ZGT.getD {o : Option V} {u : Option Value} {d : V} {d' : Value} (r : ZGT o u) (rd : ZEd d d') : ZEd (o.getD d) (u.getD d') := by
 cases o with
 | none => cases u with
  | none => exact rd
  | some _ => exact (show False from r).elim
 | some _ => cases u with
  | none => exact (show False from r).elim
  | some _ => exact r
theorem KV.val {kvs : List (κ × V)} {vs : List (κ × Value)} (r : KV kvs vs) (k : κ) : ZGT (ZEp kvs k) (valueAt vs k) := by
 unfold KV at r
 induction r with
 | nil => exact True.intro
 | @cons p q ps qs h t ih =>
  obtain ⟨h1, h2⟩ := h
  by_cases e : p.1 = k
  ·have e' : q.1 = k := h1.symm.trans e
   have b : valueAt (q :: qs) k = some q.2 := by simp [valueAt, List.find?_cons, e']
   rw [ZFd e, b]; exact h2
  ·have e' : ¬ q.1 = k := fun z => e (h1.trans z)
   have b : valueAt (q :: qs) k = valueAt qs k := by simp [valueAt, List.find?_cons, e']
   rw [ZFZ e, b]; exact ih
theorem KV.any {kvs : List (κ × V)} {vs : List (κ × Value)} (r : KV kvs vs) (k : κ) : (kvs.any fun kv => decide (kv.1 = k)) = vs.any fun kv => decide (kv.1 = k) := by
 unfold KV at r
 induction r with
 | nil => rfl
 | cons h t ih => rw [List.any_cons, List.any_cons, ih, h.1]
theorem KV.repl {kvs : List (κ × V)} {vs : List (κ × Value)} (r : KV kvs vs) (k : κ) {y : V} {u : Value} (ry : ZEd y u) :
  KV (kvs.map fun kv => if kv.1 = k then (kv.1, y) else kv) (vs.map fun kv => if kv.1 = k then (kv.1, u) else kv) := by
 unfold KV at r ⊢
 induction r with
 | nil => exact .nil
 | @cons p q ps qs h t ih =>
  rw [List.map_cons, List.map_cons]
  refine .cons ?_ ih
  obtain ⟨h1, h2⟩ := h
  by_cases e : p.1 = k
  ·rw [if_pos e, if_pos (h1.symm.trans e)]; exact ⟨h1, ry⟩
  ·rw [if_neg e, if_neg (fun z => e (h1.trans z))]; exact ⟨h1, h2⟩
theorem KV.put {kvs : List (κ × V)} {vs : List (κ × Value)} (r : KV kvs vs) (k : κ) {y : V} {u : Value} (ry : ZEd y u) : KV (ZFo kvs k y) (stored vs k u) := by
 unfold ZFo stored
 rw [r.any k]
 by_cases e : (vs.any fun kv => decide (kv.1 = k)) = true
 ·rw [if_pos e, if_pos e]; exact r.repl k ry
 ·rw [if_neg e, if_neg e]; exact Paired.snoc r ⟨rfl, ry⟩
theorem KV.length {kvs : List (κ × V)} {vs : List (κ × Value)} (r : KV kvs vs) : kvs.length = vs.length := Paired.length r
end
theorem ZJr {P : Program} {w : World} {k : Key} {u : Value} (r : ZEd (kV k) u) : (ZFI P w).is k u = true := by
 cases k with
 | inl i => obtain ⟨t, e⟩ := (show ∃ t, u = Value.int i t from r); subst e; exact ZNq P w i t
 | inr x => obtain ⟨t, e⟩ := (show ∃ t, u = Value.str x t from r); subst e; exact ZNr P w x t
theorem ZLw {P : Program} {w : World} : ∀ {ks : List Key} {us : List Value}, ZEg (ks.map kV) us → ItemsAre (ZFI P w) ks us
 | [], _, r => by rw [List.map_nil] at r; cases r; exact .nil
 | k :: ks, _, r => by
  rw [List.map_cons] at r
  cases r with
  | cons h t => exact .cons (ZJr h) (ZLw t)
abbrev KT (H : Hp) : List (List Key × V) → List (List Key × Addr × Value) → Prop := Paired fun p q => p.1 = q.1 ∧ H q.2.1 = some (.tup (p.1.map kV)) ∧ ZEd p.2 q.2.2
theorem KT.val {H : Hp} {kvs : List (List Key × V)} {xs : List (List Key × Addr × Value)} (r : KT H kvs xs) (k : List Key) : ZGT (ZEp kvs k) ((atKey xs k).map (·.2)) := by
 induction r with
 | nil => exact True.intro
 | @cons p q ps qs h t ih =>
  obtain ⟨h1, _, h2⟩ := h
  by_cases e : p.1 = k
  ·have e' : q.1 = k := h1.symm.trans e
   have b : atKey (q :: qs) k = some q.2 := by simp [atKey, List.find?_cons, e']
   rw [ZFd e, b]; exact h2
  ·have e' : ¬ q.1 = k := fun z => e (h1.trans z)
   have b : atKey (q :: qs) k = atKey qs k := by simp [atKey, List.find?_cons, e']
   rw [ZFZ e, b]; exact ih
theorem KT.repl {H : Hp} {kvs : List (List Key × V)} {xs : List (List Key × Addr × Value)} (r : KT H kvs xs) (k : List Key) {y : V} {u : Value} (ry : ZEd y u) :
  KT H (kvs.map fun kv => if kv.1 = k then (kv.1, y) else kv) (xs.map (putAt k u)) := by
 induction r with
 | nil => exact .nil
 | @cons p q ps qs h t ih =>
  rw [List.map_cons, List.map_cons]
  refine .cons ?_ ih
  obtain ⟨h1, h2, h3⟩ := h
  unfold putAt
  by_cases e : p.1 = k
  ·rw [if_pos e, if_pos (h1.symm.trans e)]; exact ⟨h1, h2, ry⟩
  ·rw [if_neg e, if_neg (fun z => e (h1.trans z))]; exact ⟨h1, h2, h3⟩
theorem KT.put {H : Hp} {kvs : List (List Key × V)} {xs : List (List Key × Addr × Value)} (r : KT H kvs xs) (k : List Key) {b : Addr} {y : V} {u : Value} (hb : H b = some (.tup (k.map kV))) (ry : ZEd y u) :
  KT H (ZFo kvs k y) (storedH xs k b u) := by
 have e : (kvs.any fun kv => decide (kv.1 = k)) = (atKey xs k).isSome := by
  rw [ZIt, (r.val k).isSome_eq, Option.isSome_map]
 unfold ZFo storedH
 rw [e]
 by_cases q : (atKey xs k).isSome = true
 ·rw [if_pos q, if_pos q]; exact r.repl k ry
 ·rw [if_neg q, if_neg q]; exact Paired.snoc r ⟨rfl, hb, ry⟩
theorem KT.keeps {H H' : Hp} {kvs : List (List Key × V)} {xs : List (List Key × Addr × Value)} (r : KT H kvs xs) (ht : ∀ b ys, H b = some (.tup ys) → H' b = some (.tup ys)) : KT H' kvs xs :=
 Paired.mapP r fun _ _ z => ⟨z.1, ht _ _ z.2.1, z.2.2⟩
section
variable {P : Program} {w : World} {H : Hp} {h : Heap} {a : Addr}
theorem ZTH {u : HO} (ok : HOk P w H h) (e : Rd H a u) : ZE3 P w H h a u := e.ok ok
theorem ZIB {kvs : List (Key × V)} (ok : HOk P w H h) (e : Rd H a (.dK kvs)) : kvs.length ≤ sizeLine ∧ (a == sysModules) = false ∧ ∃ vs, KV kvs vs ∧ h.DictOf (ZFI P w) a vs :=
 show ZE3 P w H h a (.dK kvs) from ZTH ok e
theorem ZO3 {kvs : List (Key × V)} (ok : HOk P w H h) (e : H a = some (.dK kvs)) : kvs.length ≤ sizeLine ∧ (a == sysModules) = false ∧ ∃ vs, KV kvs vs ∧ h.DictOf (ZFI P w) a vs := ZIB ok (.inl e)
theorem ZHt {ks : List Key} (ok : HOk P w H h) (e : H a = some (.tup (ks.map kV))) : (tupleKind (ZFI P w)).is h ks a := by
 obtain ⟨_, its, r, o, h1, h2, n, h3⟩ := (show ZE3 P w H h a (.tup (ks.map kV)) from ok a _ e)
 exact ⟨o, its.toArray, n, h1, h2, h3, by simpa using ZLw r⟩
theorem ZIu {kvs : List (List Key × V)} (ok : HOk P w H h) (e : Rd H a (.dT kvs)) : kvs.length ≤ sizeLine ∧ (a == sysModules) = false ∧
  ∃ xs, KT H kvs xs ∧ h.DictOfH (tupleKind (ZFI P w)) a xs := by
 obtain ⟨z, y, xs, r, o, es, ep, h1, h2, h3, h4, h5⟩ := (show ZE3 P w H h a (.dT kvs) from ZTH ok e)
 refine ⟨z, y, xs, r, o, es, ep, h1, h2, h3, h4, fun x hx => ?_, h5⟩
 have all : ∀ {l : List (List Key × V)} {m : List (List Key × Addr × Value)}, KT H l m → ∀ x ∈ m, (tupleKind (ZFI P w)).is h x.1 x.2.1 := by
  intro l m q
  induction q with
  | nil => intro x hx; exact nomatch hx
  | @cons p q ps qs hq t ih =>
   intro x hx
   rcases List.mem_cons.mp hx with e | hx
   ·subst e
    exact ZHt ok (by rw [← hq.1]; exact hq.2.1)
   ·exact ih x hx
 exact all r x hx
theorem ZTI {kvs : List (List Key × V)} (ok : HOk P w H h) (e : H a = some (.dT kvs)) : kvs.length ≤ sizeLine ∧ (a == sysModules) = false ∧
 ∃ xs, KT H kvs xs ∧ h.DictOfH (tupleKind (ZFI P w)) a xs := ZIu ok (.inl e)
end
def ZFx (H : Hp) (a : Addr) (y : V) (r : Option V) : Prop :=
 (∃ kvs k, Rd H a (.dK kvs) ∧ y = kV k ∧ r = ZEp kvs k) ∨ ∃ kvs k b, Rd H a (.dT kvs) ∧ y = .ref b ∧ H b = some (.tup (k.map kV)) ∧ r = ZEp kvs k
def ZIv (H : Hp) (a : Addr) (y v : V) (H' : Hp) : Prop :=
 (∃ kvs k, H a = some (.dK kvs) ∧ y = kV k ∧ kvs.length < sizeLine ∧ H' = upd H a (.dK (ZFo kvs k v))) ∨
 ∃ kvs k b, H a = some (.dT kvs) ∧ y = .ref b ∧ H b = some (.tup (k.map kV)) ∧ kvs.length < sizeLine ∧ H' = upd H a (.dT (ZFo kvs k v))
theorem ZFx.k {H : Hp} {a : Addr} {kvs : List (Key × V)} {k : Key} (e : H a = some (.dK kvs)) : ZFx H a (kV k) (ZEp kvs k) := .inl ⟨kvs, k, .inl e, rfl, rfl⟩
theorem ZFx.t {H : Hp} {a b : Addr} {kvs : List (List Key × V)} {k : List Key} (e : H a = some (.dT kvs)) (eb : H b = some (.tup (k.map kV))) : ZFx H a (.ref b) (ZEp kvs k) := .inr ⟨kvs, k, b, .inl e, rfl, eb, rfl⟩
theorem ZIv.k {H : Hp} {a : Addr} {kvs : List (Key × V)} {k : Key} {v : V} (e : H a = some (.dK kvs)) (hl : kvs.length < sizeLine) : ZIv H a (kV k) v (upd H a (.dK (ZFo kvs k v))) := .inl ⟨kvs, k, e, rfl, hl, rfl⟩
theorem ZIv.t {H : Hp} {a b : Addr} {kvs : List (List Key × V)} {k : List Key} {v : V} (e : H a = some (.dT kvs)) (eb : H b = some (.tup (k.map kV))) (hl : kvs.length < sizeLine) :
 ZIv H a (.ref b) v (upd H a (.dT (ZFo kvs k v))) := .inr ⟨kvs, k, b, e, rfl, eb, hl, rfl⟩
section
variable {X : Cx} {pins : List (Addr × Obj)} {σ : St} {H : Hp} {s : Shared} {a : Addr} {y v : V} {u r : Value} {o : Option V} {A : Around} {E : Value → Shared → Prop}
theorem Inv.big (I : Inv X pins σ H s) : sysModules < s.heap.objs.size := by
 have h : mainGlobals < s.heap.objs.size := (I.mod.glob.keeps I.bk).lt
 exact Nat.lt_trans (by decide) h
theorem ZQB {Q : Value → Shared → Prop} (hu : A.units + 1 < cLine) (I : Inv X pins σ H s) (g : ZFx H a y (some v)) (ry : ZEd y u) (h : ∀ w' s', Inv X pins σ H s' → ZEd v w' → Q w' s') :
  wpAny (model X.prog X.w) A (getItem (.ref a) u) Q E s := by
 rcases g with ⟨kvs, k, e, ey, l⟩ | ⟨kvs, k, b, e, ey, eb, l⟩
 ·subst ey
  obtain ⟨z, hd, vs, rel, dd⟩ := ZIB I.hok e
  obtain ⟨w', hw, rw'⟩ := ZGT.some_of (v := v) (o := valueAt vs k) (by rw [l]; exact rel.val k)
  exact wpAny_getItem_of (ZJr ry) dd.mapOf hw (h w' _ (I.tok _) rw')
 ·subst ey
  cases (show u = Value.ref b from ry)
  obtain ⟨z, hd, xs, rel, dd⟩ := ZIu I.hok e
  obtain ⟨w', hw, rw'⟩ := ZGT.some_of (v := v) (o := (atKey xs k).map (·.2)) (by rw [l]; exact rel.val k)
  obtain ⟨p, hp, hp2⟩ := Option.map_eq_some_iff.mp hw
  refine wpAny_getItem_heap (tupleKind_room_in1 hu) (ZHt I.hok eb) dd hp ?_
  rw [hp2]
  exact h w' _ (I.tok _) rw'
theorem ZXM {Q : Value → Shared → Prop} (hu : A.units + 1 < cLine) (I : Inv X pins σ H s) (g : ZFx H a y o) (ry : ZEd y u) (h : ∀ s', Inv X pins σ H s' → Q (.bool o.isSome) s') :
  wpAny (model X.prog X.w) A (compareOp .In u (.ref a)) Q E s := by
 rcases g with ⟨kvs, k, e, ey, l⟩ | ⟨kvs, k, b, e, ey, eb, l⟩
 ·subst ey
  obtain ⟨z, hd, vs, rel, dd⟩ := ZIB I.hok e
  refine wpAny_in_of (ZJr ry) hd dd.mapOf ?_
  rw [← (rel.val k).isSome_eq, ← l]
  exact h _ (I.tok _)
 ·subst ey
  cases (show u = Value.ref b from ry)
  obtain ⟨z, hd, xs, rel, dd⟩ := ZIu I.hok e
  refine wpAny_in_heap (tupleKind_room_in1 hu) (ZHt I.hok eb) hd dd ?_
  have q := (rel.val k).isSome_eq
  rw [Option.isSome_map] at q
  rw [← q, ← l]
  exact h _ (I.tok _)
theorem ZUL {Q : Value → Shared → Prop} (hu : A.units + 1 < cLine) (I : Inv X pins σ H s) (g : ZFx H a y o) (ry : ZEd y u) (h : ∀ s', Inv X pins σ H s' → Q (.bool (!o.isSome)) s') :
  wpAny (model X.prog X.w) A (compareOp .NotIn u (.ref a)) Q E s := by
 rcases g with ⟨kvs, k, e, ey, l⟩ | ⟨kvs, k, b, e, ey, eb, l⟩
 ·subst ey
  obtain ⟨z, hd, vs, rel, dd⟩ := ZIB I.hok e
  refine wpAny_notIn_of (ZJr ry) hd dd.mapOf ?_
  rw [← (rel.val k).isSome_eq, ← l]
  exact h _ (I.tok _)
 ·subst ey
  cases (show u = Value.ref b from ry)
  obtain ⟨z, hd, xs, rel, dd⟩ := ZIu I.hok e
  refine wpAny_notIn_heap (tupleKind_room_in1 hu) (ZHt I.hok eb) hd dd ?_
  have q := (rel.val k).isSome_eq
  rw [Option.isSome_map] at q
  rw [← q, ← l]
  exact h _ (I.tok _)
theorem ZJs {h' : Heap} {t' : Nat} {ob : HO} (I : Inv X pins σ H s) (mu : Mut (H a)) (hs : Heap.SameBut a s.heap h') (he : ∃ q, h'.get? a = some q) (new : ZE3 X.prog X.w (upd H a ob) h' a ob) :
  Inv X pins σ (upd H a ob) { s with heap := h', toks := t' } :=
 I.write (x := a) (e := a) mu (.inl rfl) (fun b q hb z => (hs.2 b hb).trans z) he new
theorem ZQC {P : Program} {w : World} {H' : Hp} {h' : Heap} {kvs : List (Key × V)} {vs : List (Key × Value)} (z : kvs.length ≤ sizeLine) (hd : (a == sysModules) = false) (rel : KV kvs vs) (dd : h'.DictOf (ZFI P w) a vs) :
 ZE3 P w H' h' a (.dK kvs) := ⟨z, hd, vs, rel, dd⟩
theorem ZQD {H' : Hp} {Q : Unit → Shared → Prop} (hu : A.units + 1 < cLine) (I : Inv X pins σ H s) (g : ZIv H a y v H') (ry : ZEd y u) (rv : ZEd v r) (h : ∀ s', Inv X pins σ H' s' → Q () s') :
  wpAny (model X.prog X.w) A (setItem (.ref a) u r) Q E s := by
 rcases g with ⟨kvs, k, e, ey, l, eH⟩ | ⟨kvs, k, b, e, ey, eb, l, eH⟩
 ·subst ey eH
  obtain ⟨z, hd, vs, rel, dd⟩ := ZO3 I.hok e
  have hz : vs.length ≤ sizeLine := by rw [← rel.length]; exact z
  have hl : (ZFo kvs k v).length ≤ sizeLine := by have := ZGS kvs k v; omega
  refine wpAny_setItem_pairs (hsz := hz) (ZJr ry) dd fun h' dd' hs => h _ ?_
  have he : ∃ q, h'.get? a = some q := let ⟨q, _, _, hq, _⟩ := dd'; ⟨q, hq⟩
  exact ZJs I (by rw [e]; exact True.intro) hs he (ZQC hl hd (rel.put k rv) dd')
 ·subst ey eH
  cases (show u = Value.ref b from ry)
  obtain ⟨z, hd, xs, rel, dd⟩ := ZTI I.hok e
  have hz : xs.length ≤ sizeLine := by rw [← Paired.length rel]; exact z
  have hl : (ZFo kvs k v).length ≤ sizeLine := by have := ZGS kvs k v; omega
  refine wpAny_setItem_heap (hsz := hz) (tupleKind_room_in1 hu) (ZHt I.hok eb) dd fun h' dd' hs => h _ ?_
  obtain ⟨q, es, ep, hq, h2, h3, h4, _, h5⟩ := dd'
  refine ZJs I (by rw [e]; exact True.intro) hs ⟨q, hq⟩ ⟨hl, hd, _, (rel.put k eb rv).keeps fun c ys ec => ?_, q, es, ep, hq, h2, h3, h4, h5⟩
  rw [ZEf (ZS9 ec e (fun z => nomatch z))]
  exact ec
end
section
variable {X : Cx} {pins : List (Addr × Obj)} {σ : St} {H : Hp} {s : Shared} {a : Addr} {kvs : List (Key × V)} {k : Key} {u : Value} {A : Around} {E : Value → Shared → Prop}
end
def ZRz (i : Expr) : Prop := ∀ ov iv, subscripted i false ov iv = operate [ov, iv] (getItem ov iv)
theorem ZUM {prog : Program} {w : World} {A : Around} {E : Value → Shared → Prop} {s : Shared} {env : Env} {value slice : Expr} {pos : Pos} {T id : String} {Q : Value → Shared → Prop}
  (hl : typeLookup (.type T) "__getitem__" = pure (some (.builtin id))) (hs : ZRz slice)
  (h : wpAny (model prog w) A (eval value env) (fun o s₁ => wpAny (model prog w) A (eval slice env) (fun i s₂ => s₂.TypeIs o T ∧ wpAny (model prog w) A (getItem o i) Q E s₂) E s₁) E s) :
  wpAny (model prog w) A (eval (.Subscript value slice pos) env) Q E s := by
 refine Subscript_ (wpAny_mono h (fun o s₁ h₁ => wpAny_mono h₁ (fun i s₂ h₂ => ?_) fun _ _ x => x) fun _ _ x => x)
 obtain ⟨hT, h₂⟩ := h₂
 unfold subscriptTail
 refine wpAny_bind ?_
 rw [getitemInPython_of_ne hT.not_modules]
 refine wpAny_bind (wpAny_specialOf hT hl ?_)
 have fin : wpAny (model prog w) A (subscripted slice false o i) (fun r s₃ => wpAny (model prog w) A (letTemporaryGo value o r >>= fun _ => pure r) Q E s₃) E s₂ := by
  rw [hs o i]
  exact wpAny_operating (wpAny_mono h₂ (fun r s₃ h₃ => wpAny_bind (wpAny_letTemporaryGo (wpAny_pure h₃))) fun _ _ x => x)
 first
  | exact wpAny_pure (wpAny_bind fin)
  | exact wpAny_bind (wpAny_pure (wpAny_bind fin))
  | exact wpAny_bind fin
theorem ZNt {X : Cx} {pins : List (Addr × Obj)} {σ : St} {H : Hp} {s : Shared} {a : Addr} {y : V} {o : Option V} (I : Inv X pins σ H s) (g : ZFx H a y o) : s.TypeIs (.ref a) "dict" := by
 rcases g with ⟨kvs, k, e, _, _⟩ | ⟨kvs, k, b, e, _, _, _⟩
 ·obtain ⟨_, _, vs, _, dd⟩ := ZIB I.hok e
  exact dd.typeIs
 ·obtain ⟨_, _, xs, _, dd⟩ := ZIu I.hok e
  exact dd.typeIs
def ZO4 (td ty : TE) : TE := fun σ H Q => td σ H fun x H1 => ty σ H1 fun y H2 => ∃ a v, x = .ref a ∧ ZFx H2 a y (some v) ∧ Q v H2
def ZO5 (td ty tv : TE) : TS := fun D σ H => tv σ H fun v H1 => td σ H1 fun x H2 => ty σ H2 fun y H3 => ∃ a H4, x = .ref a ∧ ZIv H3 a y v H4 ∧ D.nx σ H4
section
variable {X : Cx} {o i e value : Expr} {pos pos' tpos : Pos} {td ty tv : TE}
theorem ZUN (hu : X.A.units + 1 < cLine) (ho : PE X o td) (hi : PE X i ty) (hs : ZRz i) : PE X (.Subscript o i pos) (ZO4 td ty) := by
 intro pins s σ H Q I h
 refine ZUM PySem.F.slot_dict_getitem.lookup hs (thn (ho pins s σ H _ I h) fun u s1 ⟨x, H1, I1, rx, q1⟩ => thn (hi pins s1 σ H1 _ I1 q1) fun iv s2 ⟨y, H2, I2, ry, a, v, ex, g, q2⟩ => ?_)
 subst ex
 obtain rfl : u = Value.ref a := rx
 exact ⟨ZNt I2 g, ZQB hu I2 g ry fun w' s3 I3 rw' => ⟨v, H2, I3, rw', q2⟩⟩
theorem ZUO (hu : X.A.units + 1 < cLine) (ho : PE X o td) (hi : PE X i ty) (hv : PE X value tv) (hs : swapsWith value (some (.Subscript o i pos')) pos.line X.env = pure false) :
  PS X (.Assign [.Subscript o i pos'] value pos) (ZO5 td ty tv) := by
 intro pins s σ H D I h
 refine wpAny_Assign_Subscript (thn (hv pins s σ H _ I h) fun r s1 ⟨v, H1, I1, rv, q1⟩ => thn (ho pins s1 σ H1 _ I1 q1) fun u s2 ⟨x, H2, I2, rx, q2⟩ => thn (hi pins s2 σ H2 _ I2 q2) fun iv s3 ⟨y, H3, I3, ry, a, H4, ex, g, q3⟩ => ?_) hs
 subst ex
 obtain rfl : u = Value.ref a := rx
 exact ZQD hu I3 g ry rv fun s4 I4 => ⟨σ, H4, I4, q3⟩
end
theorem ZR0 {P : Program} {w : World} {H : Hp} (h : Heap) (hb : sysModules < h.objs.size) : ZE3 P w H (h.push { cls := .type "dict", data := .dict #[] }) h.objs.size (.dK []) :=
 ⟨Nat.zero_le _, beq_eq_false_iff_ne.mpr (Ne.symm (Nat.ne_of_lt hb)), [], .nil, Heap.DictOf.new h⟩
theorem ZR1 {P : Program} {w : World} {H : Hp} (h : Heap) (hb : sysModules < h.objs.size) : ZE3 P w H (h.push { cls := .type "dict", data := .dict #[] }) h.objs.size (.dT []) :=
 ⟨Nat.zero_le _, beq_eq_false_iff_ne.mpr (Ne.symm (Nat.ne_of_lt hb)), [], .nil, _, #[], 0, Heap.get?_push_size _ rfl, ⟨rfl, rfl, rfl⟩, rfl, rfl, List.nodup_nil⟩
def ZMz : TE := fun _ H Q => ∀ p, H p = none → Q (.ref p) (upd H p (.dK []))
def ZM0 : TE := fun _ H Q => ∀ p, H p = none → Q (.ref p) (upd H p (.dT []))
section
variable {X : Cx} {pos : Pos}
theorem ZR2 : PE X (.Dict [] [] pos) ZMz := fun pins s σ H Q I h =>
 wpAny_Dict_empty ⟨.ref s.heap.objs.size, _, I.laid (a := s.heap.objs.size) (o := .dK []) (t' := s.toks) (fun _ _ q => Heap.get?_push_of_some _ q) (Nat.le_refl _) (ZR0 s.heap I.big), rfl, h _ (I.hok.fresh (Nat.le_refl _))⟩
theorem ZR3 : PE X (.Dict [] [] pos) ZM0 := fun pins s σ H Q I h =>
 wpAny_Dict_empty ⟨.ref s.heap.objs.size, _, I.laid (a := s.heap.objs.size) (o := .dT []) (t' := s.toks) (fun _ _ q => Heap.get?_push_of_some _ q) (Nat.le_refl _) (ZR1 s.heap I.big), rfl, h _ (I.hok.fresh (Nat.le_refl _))⟩
end
structure M1 (X : Cx) (o : Expr) (m : Str) (apos : Pos) (e : Expr) (cpos : Pos) : Prop where
 base : attributeBase o m X.env (eval o X.env) = eval o X.env
 few : ((backTo cpos (starEach [e] X.env)).all (fun x => !x.1) && (backToKw cpos (keywordEach [] X.env)).all (fun x => x.1.isSome)
  && decide (([e] : List Expr).length + ([] : List Keyword).length + (if ([] : List Keyword).isEmpty then 0 else 1) < 30)) = true
 line : (apos.endLine == cpos.line) = true
 trees : backTo cpos (starEach [e] X.env) = [(false, eval e X.env)]
structure M2 (X : Cx) (o : Expr) (m : Str) (apos : Pos) (e f : Expr) (cpos : Pos) : Prop where
 base : attributeBase o m X.env (eval o X.env) = eval o X.env
 few : ((backTo cpos (starEach [e, f] X.env)).all (fun x => !x.1) && (backToKw cpos (keywordEach [] X.env)).all (fun x => x.1.isSome)
  && decide (([e, f] : List Expr).length + ([] : List Keyword).length + (if ([] : List Keyword).isEmpty then 0 else 1) < 30)) = true
 line : (apos.endLine == cpos.line) = true
 trees : backTo cpos (starEach [e, f] X.env) = [(false, eval e X.env), (false, eval f X.env)]
def IsD (H : Hp) (a : Addr) : Prop := (∃ kvs, Rd H a (.dK kvs)) ∨ ∃ kvs, Rd H a (.dT kvs)
theorem ZQE {X : Cx} {pins : List (Addr × Obj)} {σ : St} {H : Hp} {s : Shared} {a : Addr} (I : Inv X pins σ H s) (d : IsD H a) :
  s.TypeIs (.ref a) "dict" ∧ (∀ b, Value.ref a = .ref b → ∃ ob, s.heap.get? b = some ob ∧ ob.dict = none) ∧ (a == sysModules) = false := by
 rcases d with ⟨kvs, e⟩ | ⟨kvs, e⟩
 ·obtain ⟨_, hd, vs, _, dd⟩ := ZIB I.hok e
  refine ⟨dd.typeIs, fun b q => ?_, hd⟩
  cases q
  obtain ⟨ob, _, _, h1, h2, _⟩ := dd
  exact ⟨ob, h1, h2.2.1⟩
 ·obtain ⟨_, hd, xs, _, dd⟩ := ZIu I.hok e
  refine ⟨dd.typeIs, fun b q => ?_, hd⟩
  cases q
  obtain ⟨ob, _, _, h1, h2, _⟩ := dd
  exact ⟨ob, h1, h2.2.1⟩
section
variable {X : Cx} {pins : List (Addr × Obj)} {σ : St} {H : Hp} {s : Shared} {a : Addr} {y d : V} {u r : Value} {o : Option V} {A : Around} {E : Value → Shared → Prop}
theorem ZWN {Q : Value → Shared → Prop} (hu : A.units + 1 < cLine) (I : Inv X pins σ H s) (g : ZFx H a y o) (ry : ZEd y u) (h : ∀ w' s', Inv X pins σ H s' → ZEd (o.getD .non) w' → Q w' s') :
  wpAny (model X.prog X.w) A (call (.builtin "dict.get") [.ref a, u]) Q E s := by
 rcases g with ⟨kvs, k, e, ey, l⟩ | ⟨kvs, k, b, e, ey, eb, l⟩
 ·subst ey
  obtain ⟨z, hd, vs, rel, dd⟩ := ZIB I.hok e
  refine call_meetsIn PySem.F.slot_dict_get dd.typeIs PySem.F.entry_dict_get (PySem.F.args_dict_get_2 _ _) (meets_dict_get (ZFI X.prog X.w) a (ZJr ry) hd) ⟨_, dd.mapOf, h _ _ (I.tok _) ?_⟩
  rw [l]
  exact (rel.val k).getD rfl
 ·subst ey
  cases (show u = Value.ref b from ry)
  obtain ⟨z, hd, xs, rel, dd⟩ := ZIu I.hok e
  refine call_meetsIn PySem.F.slot_dict_get dd.typeIs PySem.F.entry_dict_get (PySem.F.args_dict_get_2 _ _) (meetsH_dict_get (tupleKind (ZFI X.prog X.w)) a b hd) ⟨tupleKind_room_in1 hu, k, xs, ZHt I.hok eb, dd, h _ _ (I.tok _) ?_⟩
  rw [l]
  exact (rel.val k).getD rfl
end
def ZM1 (td ty : TE) : TE := fun σ H Q => td σ H fun x H1 => ∃ a, x = .ref a ∧ IsD H1 a ∧ ty σ H1 fun y H2 => ∃ o, ZFx H2 a y o ∧ Q (o.getD .non) H2
section
variable {X : Cx} {o e f : Expr} {apos cpos : Pos} {td ty tx : TE}
theorem ZR4 (hu : X.A.units + 1 < cLine) (ho : PE X o td) (he : PE X e ty) (m : M1 X o "get" apos e cpos) : PE X (.Call (.Attribute o "get" apos) [e] [] cpos) (ZM1 td ty) := by
 intro pins s σ H Q I h
 refine wpAny_Call_method m.base m.few m.line PySem.F.plainAttrs_dict PySem.F.slot_dict_get PySem.F.type_dict_get (thn (ho pins s σ H _ I h) fun u s1 ⟨x, H1, I1, rx, a, ex, d, q1⟩ => ?_)
 subst ex
 obtain rfl : u = Value.ref a := rx
 obtain ⟨t1, t2, _⟩ := ZQE I1 d
 refine ⟨t1, t2, ?_⟩
 rw [m.trees]
 refine Calls.callWith_builtin rfl (Calls.evalArgs_plain (Calls.spliced_cons (thn (he pins s1 σ H1 _ I1 q1) fun iv s2 ⟨y, H2, I2, ry, ov, g, q2⟩ => Calls.spliced_nil ?_)))
 exact ZWN hu I2 g ry fun w' s3 I3 rw' => ⟨_, H2, I3, rw', q2⟩
end
section
variable {X : Cx} {pins : List (Addr × Obj)} {σ : St} {H : Hp} {s : Shared} {a : Addr} {kvs : List (Key × V)} {A : Around} {E : Value → Shared → Prop}
end
section
variable {X : Cx} {pins : List (Addr × Obj)} {σ : St} {H : Hp} {s : Shared} {a : Addr} {y : V} {u : Value} {A : Around} {E : Value → Shared → Prop}
end
section
variable {prog : Program} {w : World} {A : Around} {R : Result → Shared → Prop} {I : Addr} {fp wr : List Addr} {n : Nat} {P : Nat → Value → Prop} {St : Nat → Heap → Prop} {κ : Type} [DecidableEq κ] {knd : KeyKind prog w κ}
end
def ZXN (H : Hp) (vs : List V) (prs : List (Key × V)) : Prop := Paired (fun v (p : Key × V) => ∃ a, v = V.ref a ∧ H a = some (.tup [kV p.1, p.2])) vs prs
section
variable {prog : Program} {w : World} {A : Around} {E : Value → Shared → Prop} {s : Shared} {κ : Type} [DecidableEq κ] {knd : KeyKind prog w κ}
theorem ZM2 {d : Addr} {kvs : List (κ × Value)} {ep : Nat} {Q : List Value → Shared → Prop} (hh : A.handled = none) (hd : (d == sysModules) = false) (hm : s.heap.DictAt knd d kvs ep) (hn : kvs.length ≤ sizeLine)
  (hQ : ∀ s' acc, (∀ b o, s.heap.get? b = some o → s'.heap.get? b = some o) → s'.gens = s.gens → s'.drawn = s.drawn → s'.os = s.os → s.heap.objs.size < s'.heap.objs.size → ItemsOf (fun i v => ∃ k x, kvs[i]? = some (k, x) ∧ knd.is k v = true) acc kvs.length → Q acc.toList s') :
  wpAny (model prog w) A (collect (.ref d)) Q E s := by
 have hdl : d < s.heap.objs.size := let ⟨_, _, ho, _⟩ := hm; Heap.lt_size ho
 unfold collect
 refine wpAny_bind (wpAny_runValue (codeAny_builtin F.entry_proto_collect ?_))
 rw [Around.under_plainId F.plain_proto_collect _]
 show wpAny _ A.in1 (newList [] >>= fun l => again (.builtin "list.__iadd__" ⟨[l, .ref d], []⟩)) _ _ s
 refine wpAny_bind (wpAny_newObj_type ?_)
 refine wpAny_pure ⟨plainId_quiet F.plain_list_iadd _, codeAny_builtin F.entry_list_iadd ?_⟩
 rw [Around.under_plainId F.plain_list_iadd _]
 generalize hH : s.heap.push { cls := .type "list", data := .seq ([] : List Value).toArray } = H
 have hHs : H.objs.size = s.heap.objs.size + 1 := by rw [← hH, Heap.size_push]
 have hm1 : H.DictAt knd d kvs ep := hm.at' fun o e => hH ▸ Heap.get?_push_of_some _ e
 have hT1 : (⟨H, s.gens, s.drawn, s.toks, s.os⟩ : Shared).TypeIs (.ref d) "dict" := hm1.dictOf.typeIs
 show wpAny _ A.in1 (Builtin.List.listExtendWith (.ref s.heap.objs.size) (.ref d) (.ref s.heap.objs.size)) _ _ (⟨H, s.gens, s.drawn, s.toks, s.os⟩ : Shared)
 unfold Builtin.List.listExtendWith
 refine wpAny_bind (wpAny_typeOf hT1 ?_)
 have h1 : Builtin.List.listSameRef (.ref s.heap.objs.size) (.ref d) = false := by
  simp only [Builtin.List.listSameRef]
  exact beq_eq_false_iff_ne.mpr (Nat.ne_of_gt hdl)
 have h2 : (Value.type "dict" == Value.type "list") = false := by decide
 have h3 : (Value.type "dict" == Value.type "tuple") = false := by decide
 simp only [h1, h2, h3, Bool.or_false, Bool.false_eq_true, if_false]
 refine wpAny_bind (wpAny_pyIter_dict hd hm1 ?_)
 generalize hO : ({ cls := .type "dict_keyiterator", data := .fields #[.ref d, .int 0 0, .int kvs.length 0, .int ep 0] } : Obj) = O
 have hm2 : (H.push O).DictAt knd d kvs ep := hm1.at' fun o e => Heap.get?_push_of_some _ e
 have hT2 : (⟨H.push O, s.gens, s.drawn, s.toks, s.os⟩ : Shared).TypeIs (.ref d) "dict" := hm2.dictOf.typeIs
 refine wpAny_bind (wpAny_holding ?_)
 unfold Builtin.List.listLengthHint
 refine wpAny_bind (wpAny_specialOf hT2 PySem.F.slot_dict_len.lookup ?_)
 wp_delta
 refine wpAny_bind (wpAny_isInstance (b := true) hT2 (by rw [isSubtype_type]; kernel_rfl) ?_)
 show wpAny _ A.in1 (typeOf (Value.ref d) >>= _) _ _ _
 refine wpAny_bind (wpAny_typeOf hT2 ?_)
 refine wpAny_pure ?_
 show wpAny _ A.in1 (rule "list.extend.makes-room" >>= fun _ => Builtin.List.listTouch (.ref s.heap.objs.size) >>= fun _ =>
  again (.builtin "list.extend.loop" ⟨[.ref s.heap.objs.size, .ref H.objs.size, .ref s.heap.objs.size], []⟩)) _ _ _
 refine wpAny_bind (wpAny_rule ?_)
 have hS₁ : (H.push O).get? s.heap.objs.size = some { cls := .type "list", data := .seq ([] : List Value).toArray } := Heap.get?_push_of_some _ (hH ▸ Heap.get?_push_size _ rfl)
 refine wpAny_bind ?_
 show wpAny _ A.in1 (updateSeq s.heap.objs.size (·.push .none) >>= fun _ => updateSeq s.heap.objs.size (·.pop)) _ _ _
 refine wpAny_bind (wpAny_updateSeq hS₁ rfl ?_)
 have hS₂ := Heap.get?_update_self (Obj.mapSeq (·.push Value.none)) hS₁ rfl
 refine wpAny_updateSeq hS₂ rfl ?_
 have hS₃ := Heap.get?_update_self (Obj.mapSeq (·.pop)) hS₂ rfl
 have oth : ∀ b o, b ≠ s.heap.objs.size → (H.push O).get? b = some o → (((H.push O).update s.heap.objs.size (Obj.mapSeq (·.push Value.none))).update s.heap.objs.size (Obj.mapSeq (·.pop))).get? b = some o :=
  fun b o hb e => (Heap.get?_update_other _ _ (Ne.symm hb)).trans ((Heap.get?_update_other _ _ (Ne.symm hb)).trans e)
 have hdH : d < H.objs.size := by rw [hHs]; exact Nat.lt_succ_of_lt hdl
 have hHne : H.objs.size ≠ s.heap.objs.size := by rw [hHs]; exact Nat.succ_ne_self _
 have hSf : s.heap.objs.size ∉ [H.objs.size, d] := fun z => by
  simp only [List.mem_cons, List.not_mem_nil, or_false] at z
  rcases z with z | z
  ·exact hHne z.symm
  ·exact Nat.ne_of_gt hdl z
 have W := (Walks.dictKeys (knd := knd) (A := A.in1) hh H.objs.size d (Nat.ne_of_lt hdH) kvs ep).toS
 refine wpAny_pure ⟨plainId_quiet F.plain_extend_loop _, codeAny_extend_loopS (A := A) W hn _ hSf _ kvs.length 0 _ _ _ rfl (Nat.zero_le _) ⟨?_, ?_⟩ hS₃ (ItemsOf.nil _) fun s' acc' c' hmv hS' hacc => ?_⟩
 ·exact ⟨_, oth _ _ hHne (Heap.get?_push_size _ (by rw [← hO]; rfl)), by rw [← hO], by rw [← hO]; rfl⟩
 ·exact hm2.at' fun o e => oth _ _ (Nat.ne_of_lt hdl) e
 ·show wpAny _ A (load s.heap.objs.size >>= _) _ _ s'
  refine wpAny_bind (wpAny_load hS' ?_)
  refine wpAny_pure (hQ s' acc' (fun b ob e => hmv.heap b ob (fun hb => ?_) (oth _ _ (Nat.ne_of_lt (Heap.lt_size e)) (Heap.get?_push_of_some _ (hH ▸ Heap.get?_push_of_some _ e)))) hmv.gens hmv.drawn hmv.os (Heap.lt_size hS') hacc)
  have hlt := Heap.lt_size e
  simp only [List.mem_cons, List.not_mem_nil, or_false] at hb
  rcases hb with h | h
  ·exact Nat.ne_of_lt hlt h
  ·rw [h, hHs] at hlt; exact absurd hlt (Nat.not_lt.mpr (Nat.le_succ _))
theorem ZNu {d : Addr} {kvs : List (κ × Value)} {ep : Nat} {Q : Value → Shared → Prop} (hh : A.handled = none) (hd : (d == sysModules) = false) (hm : s.heap.DictAt knd d kvs ep) (h64 : kvs.length < 64)
  (hI : ∀ acc : Array Value, ItemsOf (fun i v => ∃ k x, kvs[i]? = some (k, x) ∧ knd.is k v = true) acc kvs.length → ∃ ns, IntsAre acc.toList ns ∧ ∀ (s' : Shared) (l : Addr) (out : Array Value) (ns' : List Int) (e : Nat), s.heap.objs.size ≤ l → (∀ b o, s.heap.get? b = some o → s'.heap.get? b = some o) → s'.gens = s.gens → s'.drawn = s.drawn → s'.os = s.os →
   s'.heap.get? l = some (seqObj "list" out e) → out.size = kvs.length → IntsAre out.toList ns' → ns'.Perm ns → ns'.Pairwise (· ≤ ·) → Q (.ref l) s') :
  wpAny (model prog w) A (call (.builtin "sorted") [.ref d]) Q E s := by
 refine Calls.call_function_entry kind_sorted plain_sorted entry_sorted (args_sorted1 _) ?_
 unfold Builtin.«sorted»
 refine wpAny_bind (m := checkCount "sorted" 1 1 _) (wpAny_pure ?_)
 refine wpAny_bind (ZM2 (knd := knd) hh hd hm (by rw [sizeLine_eq]; omega) fun s1 acc hk e1 e2 e3 hlt hacc => ?_)
 obtain ⟨ns, hns, hQ⟩ := hI acc hacc
 refine wpAny_bind (wpAny_newList (hsz := by rw [Array.length_toList, hacc.1, sizeLine_eq]; omega) ?_)
 have hoL : (s1.heap.push (seqObj "list" acc.toList.toArray 0)).get? s1.heap.objs.size = some (seqObj "list" acc.toList.toArray 0) := Heap.get?_push_size _ rfl
 show wpAny _ _ _ _ _ { s1 with heap := s1.heap.push (seqObj "list" acc.toList.toArray 0) }
 refine wpAny_bind (wpAny_holding (wpAny_call_entry slot_list_sort ⟨_, hoL, rfl⟩ entry_list_sort (list_sort_tree hoL hns (by rw [Array.length_toList, hacc.1]; exact h64) fun out ns' a1 a2 a3 => ⟨_, rfl, ?_⟩) (args_list_sort _)))
 refine wpAny_pure ⟨_, rfl, ?_⟩
 obtain ⟨e, he⟩ := sortedHeap_at (out := out) hoL
 have hle : s.heap.objs.size ≤ s1.heap.objs.size := Nat.le_of_lt hlt
 refine hQ _ _ out ns' e hle (fun b o eb => ?_) e1 e2 e3 he ?_ a1 a2 a3
 ·have hb := Heap.lt_size (hk _ _ eb)
  exact (sortedHeap_old (Nat.ne_of_lt hb) (by rw [Heap.size_push]; exact Nat.lt_succ_of_lt hb)).trans (Heap.get?_push_of_some _ (hk _ _ eb))
 ·have l1 := IntsAre.length a1
  have l2 := IntsAre.length hns
  have l3 := a2.length_eq
  have l4 := hacc.1
  simp only [Array.length_toList] at l1 l2
  omega
end
theorem ZLx : ∀ (vs : List (Key × Value)) (ns : List Int) (l : List Value), vs.map (·.1) = ns.map Sum.inl → l.length = vs.length → (∀ (j : Nat) (v : Value), l[j]? = some v → ∃ k x, vs[j]? = some (k, x) ∧ ZIn k v = true) → IntsAre l ns
 | [], [], [], _, _, _ => .nil
 | [], [], _ :: _, _, h, _ => by simp at h
 | [], _ :: _, _, h, _, _ => by simp at h
 | _ :: _, [], _, h, _, _ => by simp at h
 | _ :: _, _ :: _, [], _, h, _ => by simp at h
 | (k, x) :: vs, n :: ns, v :: l, h1, h2, h3 => by
  simp only [List.map_cons, List.cons.injEq] at h1
  obtain ⟨rfl, h1⟩ := h1
  obtain ⟨k', x', e, hk⟩ := h3 0 v rfl
  simp only [List.getElem?_cons_zero, Option.some.injEq, Prod.mk.injEq] at e
  obtain ⟨rfl, rfl⟩ := e
  rcases ZFN hk with ⟨i, t, e1, e2⟩ | ⟨y, t, e1, e2⟩
  ·cases e1; cases e2
   refine .cons _ _ (ZLx vs ns l h1 (by simpa using h2) fun j v e => ?_)
   have := h3 (j + 1) v (by simpa using e)
   simpa using this
  ·cases e1
theorem KV.keysEq {κ : Type} : ∀ {kvs : List (κ × V)} {us : List (κ × Value)}, KV kvs us → us.map (·.1) = kvs.map (·.1)
 | _, _, .nil => rfl
 | _, _, .cons h t => by rw [List.map_cons, List.map_cons, h.1, KV.keysEq t]
theorem IntsAre.vals : ∀ {vs : List Value} {ns : List Int}, IntsAre vs ns → ZEg (ns.map V.int) vs
 | _, _, .nil => .nil
 | _, _, .cons _ t h => .cons ⟨t, rfl⟩ (IntsAre.vals h)
def ZM3 : List V → Hp → VK → Prop := fun xs H Q => ∃ (p : Addr) (kvs : List (Key × V)) (ns : List Int), xs = [.ref p] ∧ Rd H p (.dK kvs) ∧ kvs.map (·.1) = ns.map Sum.inl ∧ kvs.length < 64 ∧ ∀ (l : Addr) (ns' : List Int), H l = none → ns'.Perm ns → ns'.Pairwise (· ≤ ·) → Q (.ref l) (upd H l (.lst (ns'.map V.int)))
theorem ZO6 {X : Cx} (hc : X.calm = true) : ZFK X (.builtin "sorted") ZM3 := by
 intro pins s σ H xs us Q I r h
 obtain ⟨p, kvs, ns, rfl, hd, hns, h64, q⟩ := h
 obtain ⟨u, rfl, ru⟩ := r.one
 cases ru
 obtain ⟨z, hd, vs, rel, dd⟩ := ZIB I.hok hd
 obtain ⟨ep, dd⟩ := dd.dictAt
 have hlen : vs.length = kvs.length := rel.length.symm
 refine ZNu (I.ok.hd hc) hd dd (by rw [hlen]; exact h64) fun acc hacc => ⟨ns, ?_, fun s' l out ns' e hl hk e1 e2 e3 he ho a1 a2 a3 => ?_⟩
 ·exact ZLx vs ns acc.toList (by rw [KV.keysEq rel]; exact hns) (by rw [Array.length_toList]; exact hacc.1) fun j v e => hacc.2 j v (by simpa using e)
 ·obtain ⟨h', g', d', tk, os'⟩ := s'
  simp only at e1 e2 e3
  subst e1 e2 e3
  refine ⟨.ref l, upd H l (.lst (ns'.map V.int)), I.laid (t' := tk) hk hl ?_, rfl, q l ns' (I.hok.fresh hl) a2 a3⟩
  refine ⟨?_, out.toList, e, IntsAre.vals a1, he⟩
  have l1 := a2.length_eq
  have l2 := congrArg List.length hns
  simp only [List.length_map] at l2 ⊢
  rw [sizeLine_eq]
  omega
section
variable {prog : Program} {w : World} {A : Around} {E : Value → Shared → Prop} {I : Addr} {fp wr : List Addr} {n : Nat} {P : Nat → Value → Prop} {St : Nat → Heap → Prop}
end
section
variable {X : Cx} {pos : Pos}
end
section
variable {X : Cx} {o i value : Expr} {pos pos' : Pos} {td ty tv : TE}
theorem ZXO {b : Expr} (h : ZMW b = false) : ZRz b := by
 intro ov iv
 cases b <;> first | rfl | cases h
theorem ZHo (hu : X.A.units + 1 < cLine) (ho : QE X o td) (hi : QE X i ty) (hs : ZMW i = false := by rfl) : QE X (.Subscript o i pos) (ZO4 td ty) := ⟨ZUN hu ho.h hi.h (ZXO hs)⟩
theorem ZHF (hu : X.A.units + 1 < cLine) (hv : QE X value tv) (ho : QE X o td) (hi : QE X i ty) (hs : ZGQ value = false := by rfl) : QS X (.Assign [.Subscript o i pos'] value pos) (ZO5 td ty tv) := ⟨ZUO hu ho.h hi.h hv.h (ZHA hs)⟩
theorem ZM4 : QE X (.Dict [] [] pos) ZMz := ⟨ZR2⟩
end
section
variable {σ : St} {H : Hp} {Q : VK} {D : ZFH}
def ZO7 (x y : V) (H : Hp) (Q : VK) : Prop := ∃ a v, x = .ref a ∧ ZFx H a y (some v) ∧ Q v H
theorem ZR5 {td ty : TE} (h : td σ H fun x H1 => ty σ H1 fun y H2 => ZO7 x y H2 Q) : ZO4 td ty σ H Q := h
def ZO8 (v x y : V) (H : Hp) (R : Hp → Prop) : Prop := ∃ a H4, x = .ref a ∧ ZIv H a y v H4 ∧ R H4
theorem ZR6 {td ty tv : TE} (h : tv σ H fun v H1 => td σ H1 fun x H2 => ty σ H2 fun y H3 => ZO8 v x y H3 (D.nx σ)) : ZO5 td ty tv D σ H := h
def ZO9 (H : Hp) (Q : VK) : Prop := ∀ p, H p = none → Q (.ref p) (upd H p (.dK []))
theorem ZR7 (h : ZO9 H Q) : ZMz σ H Q := h
theorem ZUP (h : ∀ p H2, H p = none → H2 p = some (.dK []) → ZEU H H2 → Q (.ref p) H2) : ZO9 H Q := fun p hp => h p _ hp ZEa (ZEU.new hp)
end
def ZFe (m : PL) (t : Int) : Option Int := (m.find? fun kv => decide (kv.1 = t)).map (·.2)
def ZGG (m : PL) (t h : Int) : PL := if (m.any fun kv => decide (kv.1 = t)) = true then m.map fun kv => if kv.1 = t then (kv.1, h) else kv else m ++ [(t, h)]
def dkE (p : Int × Int) : Key × V := (.inl p.1, .int p.2)
def ZFL (m : PL) : List (Key × V) := m.map dkE
theorem ZM5 {a b : Int} : ((Sum.inl a : Key) = Sum.inl b) ↔ a = b := ⟨fun h => Sum.inl.inj h, fun h => h ▸ rfl⟩
theorem ZWO (m : PL) (t : Int) : ((ZFL m).any fun kv => decide (kv.1 = Sum.inl t)) = m.any fun kv => decide (kv.1 = t) := by
 unfold ZFL
 rw [List.any_map]
 congr 1
 funext p
 simp only [Function.comp, dkE, ZM5]
theorem ZQF (m : PL) (t h : Int) : ZFo (ZFL m) (.inl t) (.int h) = ZFL (ZGG m t h) := by
 unfold ZFo ZGG
 rw [ZWO]
 by_cases c : (m.any fun kv => decide (kv.1 = t)) = true
 ·rw [if_pos c, if_pos c]
  unfold ZFL
  rw [List.map_map, List.map_map]
  refine List.map_congr_left fun p _ => ?_
  simp only [Function.comp, dkE, ZM5]
  split <;> simp
 ·rw [if_neg c, if_neg c]
  simp [ZFL, dkE]
theorem ZJU (t : Int) : ∀ m : PL, ZEp (ZFL m) (.inl t) = (ZFe m t).map V.int
 | [] => rfl
 | p :: m => by
  have ih := ZJU t m
  by_cases e : p.1 = t
  ·have : ZEp (ZFL (p :: m)) (.inl t) = some (.int p.2) := ZFd (p := dkE p) (by simp [dkE, e])
   rw [this]
   simp [ZFe, List.find?_cons, e]
  ·have : ZEp (ZFL (p :: m)) (.inl t) = ZEp (ZFL m) (.inl t) := ZFZ (p := dkE p) (by simp [dkE, e])
   rw [this, ih]
   simp [ZFe, List.find?_cons, e]
theorem ZR8 {H : Hp} {Q : VK} {p : Addr} {m : PL} {t v : Int} (h1 : H p = some (.dK (ZFL m))) (h2 : ZFe m t = some v) (h : Q (.int v) H) : ZO7 (.ref p) (.int t) H Q :=
 ⟨p, .int v, rfl, by
  have := ZFx.k (k := Sum.inl t) h1
  rw [ZJU, h2] at this
  exact this, h⟩
theorem ZM6 {H : Hp} {R : Hp → Prop} {p : Addr} {m : PL} {t v : Int} (h1 : H p = some (.dK (ZFL m))) (hz : m.length < sizeLine) (h : ∀ H2, H2 p = some (.dK (ZFL (ZGG m t v))) → Kp p H H2 → R H2) : ZO8 (.int v) (.ref p) (.int t) H R :=
 ⟨p, _, rfl, ZIv.k (k := Sum.inl t) h1 (by simpa [ZFL] using hz), by
  rw [ZQF]
  exact h _ ZEa Kp.upd⟩
theorem ZM7 {H : Hp} {Q : VK} (h : ∀ p H2, H p = none → H2 p = some (.dK (ZFL [])) → ZEU H H2 → Q (.ref p) H2) : ZO9 H Q := ZUP h
theorem ZR9 (m : PL) (t h j : Int) : ZFe (ZGG m t h) j = if j = t then some h else ZFe m j := by
 have e1 := ZJU j (ZGG m t h)
 rw [← ZQF, ZHE] at e1
 have e2 := ZJU j m
 rw [e2] at e1
 simp only [ZM5] at e1
 by_cases e : j = t
 ·rw [if_pos e] at e1 ⊢
  cases hg : ZFe (ZGG m t h) j with
  | none => rw [hg] at e1; cases e1
  | some x => rw [hg] at e1; simp at e1; rw [e1]
 ·rw [if_neg e] at e1 ⊢
  cases hg : ZFe (ZGG m t h) j <;> cases hm : ZFe m j <;> rw [hg, hm] at e1 <;> simp_all
theorem ZM8 (m : PL) (t h : Int) : (ZGG m t h).length ≤ m.length + 1 := by
 unfold ZGG
 split <;> simp
theorem ZIC {t : Int} : ∀ {m : PL}, ZFe m t = none ↔ t ∉ m.map (·.1)
 | [] => by simp [ZFe]
 | p :: m => by
  have ih := ZIC (t := t) (m := m)
  by_cases e : p.1 = t
  ·simp [ZFe, List.find?_cons, e]
  ·have e' : ¬ t = p.1 := fun z => e z.symm
   have : ZFe (p :: m) t = ZFe m t := by simp [ZFe, List.find?_cons, e]
   rw [this, ih]
   simp [e']
theorem ZQG (m : PL) (t h : Int) : (ZGG m t h).map (·.1) = if t ∈ m.map (·.1) then m.map (·.1) else m.map (·.1) ++ [t] := by
 have ha : (m.any fun kv => decide (kv.1 = t)) = true ↔ t ∈ m.map (·.1) := by simp
 unfold ZGG
 by_cases c : (m.any fun kv => decide (kv.1 = t)) = true
 ·rw [if_pos c, if_pos (ha.mp c), List.map_map]
  refine List.map_congr_left fun p _ => ?_
  simp only [Function.comp]
  split <;> rfl
 ·rw [if_neg c, if_neg (fun z => c (ha.mpr z))]
  simp
theorem ZIw {m : PL} {t h : Int} (n : (m.map (·.1)).Nodup) : ((ZGG m t h).map (·.1)).Nodup := by
 rw [ZQG]
 split
 ·exact n
 ·rename_i c
  rw [List.nodup_append]
  exact ⟨n, by simp, fun a ha b hb e => c (by simp at hb; subst hb; subst e; exact ha)⟩
theorem ZGW {t h : Int} : ∀ {m : PL}, (m.map (·.1)).Nodup → (ZFe m t = some h ↔ (t, h) ∈ m)
 | [], _ => by simp [ZFe]
 | p :: m, n => by
  simp only [List.map_cons, List.nodup_cons] at n
  have ih := ZGW (t := t) (h := h) n.2
  by_cases e : p.1 = t
  ·have : ZFe (p :: m) t = some p.2 := by simp [ZFe, List.find?_cons, e]
   rw [this]
   constructor
   ·intro z; cases z; rw [← e]; exact List.mem_cons_self
   ·intro z
    rcases List.mem_cons.mp z with z | z
    ·rw [← z]
    ·exact absurd (List.mem_map.mpr ⟨_, z, rfl⟩) (by rw [← e] at *; exact n.1)
  ·have : ZFe (p :: m) t = ZFe m t := by simp [ZFe, List.find?_cons, e]
   rw [this, ih]
   constructor
   ·exact fun z => List.mem_cons_of_mem _ z
   ·intro z
    rcases List.mem_cons.mp z with z | z
    ·exact absurd (by rw [← z]) e
    ·exact z
theorem ZEY.prs {H : Hp} : ∀ {vs : List V} {l : PL}, ZEY H vs l → ZXN H vs (l.map dkE)
 | _, _, .nil => .nil
 | _, _, .cons ⟨a, e, z⟩ t => .cons ⟨a, e, z⟩ (ZEY.prs t)
theorem ZEY.length {H : Hp} {vs : List V} {l : PL} (h : ZEY H vs l) : vs.length = l.length := Paired.length h
theorem ZEY.snoc {H : Hp} : ∀ {vs : List V} {l : PL}, ZEY H vs l → ∀ {a : Addr} {p : Int × Int}, H a = some (.tup [.int p.1, .int p.2]) → ZEY H (vs ++ [.ref a]) (l ++ [p])
 | _, _, .nil, a, p, z => .cons ⟨a, rfl, z⟩ .nil
 | _, _, .cons h t, a, p, z => .cons h (ZEY.snoc t z)
theorem ZEY.at {H : Hp} : ∀ {vs : List V} {l : PL}, ZEY H vs l → ∀ {i : Nat} {v : V}, vs[i]? = some v → ∃ a p, v = .ref a ∧ l[i]? = some p ∧ H a = some (.tup [.int p.1, .int p.2])
 | _, _, .nil, i, v, e => by simp at e
 | _, _, @Paired.cons _ _ _ _ p _ _ ⟨a, e1, z⟩ t, 0, v, e => by
  simp at e; subst e
  exact ⟨a, p, e1, rfl, z⟩
 | _, _, .cons _ t, i + 1, v, e => by
  obtain ⟨a, p, h1, h2, h3⟩ := ZEY.at t (by simpa using e)
  exact ⟨a, p, h1, by simpa using h2, h3⟩
theorem ZEY.kp {p : Addr} {H H' : Hp} (k : Kp p H H') {n : Nat} {xs : List V} (hp : H p = some (.lst xs)) : ∀ {vs : List V} {l : PL}, ZEY H vs l → ZEY H' vs l
 | _, _, .nil => .nil
 | _, _, .cons ⟨a, e, z⟩ t => .cons ⟨a, e, k _ _ z (fun c => by subst c; rw [hp] at z; cases z)⟩ (ZEY.kp k (n := n) hp t)
theorem ZPA {H : Hp} {Q : VK} {p : Addr} {m : PL} (h1 : H p = some (.dK (ZFL m))) (hz : m.length < 64) (h : ∀ l H2 (ns : List Int), H l = none → H2 l = some (.lst (ns.map V.int)) → ns.Perm (m.map (·.1)) → ns.Pairwise (· ≤ ·) → ZEU H H2 → Q (.ref l) H2) : ZM3 [.ref p] H Q :=
 ⟨p, _, m.map (·.1), rfl, .inl h1, by simp [ZFL, dkE], by simpa [ZFL] using hz, fun l ns hl hp hs => h l _ ns hl ZEa hp hs (ZEU.new hl)⟩
def Asc (cv : PL) : Prop := cv.Pairwise fun a b => a.1 < b.1
def ZUQ (m cv : PL) : Prop := Asc cv ∧ ∀ t h, (t, h) ∈ cv ↔ ZFe m t = some h
def ZFm (m : PL) (ns : List Int) : PL := ns.map fun t => (t, (ZFe m t).getD 0)
theorem ZPB {m : PL} {ns : List Int} (nd : (m.map (·.1)).Nodup) (hp : ns.Perm (m.map (·.1))) (hs : ns.Pairwise (· ≤ ·)) : ZUQ m (ZFm m ns) := by
 have hn : ns.Nodup := hp.nodup_iff.mpr nd
 refine ⟨?_, fun t h => ?_⟩
 ·unfold Asc ZFm
  rw [List.pairwise_map]
  exact (hs.and hn).imp fun ⟨a, b⟩ => by
   show _ < _
   omega
 ·unfold ZFm
  rw [List.mem_map]
  constructor
  ·rintro ⟨u, hu, e⟩
   have hu' := hp.mem_iff.mp hu
   cases hg : ZFe m u with
   | none => exact absurd hu' (ZIC.mp hg)
   | some x =>
    rw [hg] at e
    cases e
    exact hg
  ·intro hg
   refine ⟨t, hp.mem_iff.mpr ?_, by rw [hg]; rfl⟩
   by_cases c : t ∈ m.map (·.1)
   ·exact c
   ·rw [ZIC.mpr c] at hg; cases hg
theorem ZHp : bootBuiltins "repr" = some (.builtin "repr") := by decide +kernel
theorem ZQH : bootBuiltins "divmod" = some (.builtin "divmod") := by decide +kernel
theorem ZJ0 {prog : Program} {w : World} {A : Around} {E : Value → Shared → Prop} {s : Shared} {t sl : Addr} {items : Array Value} {vl vu : Value} {lo hi : Option Int} {Q : Value → Shared → Prop} (ht : IsTup s.heap t items) (hs : s.heap.IsSliceOf sl vl vu .none) (pl : IsPart vl lo) (pu : IsPart vu hi)
  (hw : HT.sIx items.size 0 lo = 0 ∧ HT.sIx items.size items.size hi = items.size) (h : Q (.ref t) s) : wpAny (model prog w) A (getItem (.ref t) (.ref sl)) Q E s := by
 obtain ⟨os, hos, hcs, hds⟩ := id hs
 have hTs : s.TypeIs (.ref sl) "slice" := ⟨os, hos, hcs⟩
 unfold getItem
 try with_reducible refine wpAny_holding ?_
 first | refine wpAny_bind (wpAny_pure ?_) | skip
 refine wpAny_bind (wpAny_sequenceKey ht.typeIs (by decide) ?_)
 refine wpAny_bind (wpAny_callSpecial?_slot (name := Str.ofString "__getitem__") ht.typeIs PyProof.Rows.slot_tuple_getitem
  (wpAny_call_entry PyProof.Rows.slot_tuple_getitem ht.typeIs entry_tuple_getitem ?_ (args_tuple_getitem _ _)))
 show wpAny _ _ (Builtin.Tuple.tupleItemsOf (.ref t) >>= _) _ _ s
 refine wpAny_bind (tupleItemsOf_ ht ?_)
 refine wpAny_bind (wpAny_typeOf hTs ?_)
 rw [if_pos (by decide)]
 refine wpAny_bind (HT.sliceApplied_gen hs pl pu ?_)
 rw [hw.1, hw.2]
 have hyes : ((((0 : Nat) : Int) == 0 && (1 : Int) == 1 && (items.size - 0) == items.size) = true) := by simp
 show wpAny _ _ (if ((((0 : Nat) : Int) == 0 && (1 : Int) == 1 && (items.size - 0) == items.size) = true) then _ else _) _ _ s
 rw [if_pos hyes]
 unfold Builtin.Tuple.tupleIsExact
 refine wpAny_bind (wpAny_bind (wpAny_typeOf ht.typeIs (wpAny_pure ?_)))
 rw [if_pos (by decide)]
 refine wpAny_bind (wpAny_rule ?_)
 first
  | exact wpAny_pure ⟨_, rfl, wpAny_pure h⟩
  | exact wpAny_bind (wpAny_pure (wpAny_pure ⟨_, rfl, wpAny_pure h⟩))
def ZWP (K : W.Frag) : V → Option Int → Option Int → Hp → VK → Prop := fun x lo hi H Q => ∃ a xs, x = .ref a ∧ SqT K H a xs ∧
 ((HT.sIx xs.length 0 lo = 0 ∧ HT.sIx xs.length xs.length hi = xs.length) → Q (.ref a) H) ∧ (¬ (HT.sIx xs.length 0 lo = 0 ∧ HT.sIx xs.length xs.length hi = xs.length) → ∀ p, H p = none → Q (.ref p) (upd H p (.tup (ZGx xs lo hi))))
theorem ZUR {X : Cx} (K : W.Frag) (hK : X.K = K) : SlR X (ZWP K) := by
 subst hK
 intro pins s σ H x v vl vu lo hi sl Q I rx hs pl pu h
 obtain ⟨a, xs, rfl, hx, q1, q2⟩ := h
 by_cases hw : HT.sIx xs.length 0 lo = 0 ∧ HT.sIx xs.length xs.length hi = xs.length
 ·cases rx
  obtain ⟨its, r, ht, hz⟩ := I.tuple hx
  have hlen : its.toArray.size = xs.length := by rw [List.size_toArray]; exact r.length.symm
  refine ⟨"tuple", _, PyProof.Rows.slot_tuple_getitem.lookup, ht.typeIs, ?_⟩
  exact ZJ0 ht hs pl pu (by rw [hlen]; exact hw) ⟨.ref a, H, I, rfl, q1 hw⟩
 ·exact ZVk pins s σ H (.ref a) v vl vu lo hi sl Q I rx hs pl pu ⟨a, xs, rfl, hx, hw, q2 hw⟩
theorem ZQI {xs : List V} {lo hi : Option Int} (h : HT.sIx xs.length 0 lo = 0 ∧ HT.sIx xs.length xs.length hi = xs.length) : ZGx xs lo hi = xs := by
 unfold ZGx
 rw [h.1, h.2]
 simp
section
variable {X : Cx} {pos pos' : Pos} {e : Expr} {te : TE}
theorem ZXP {op : Operator} {r : R2} (ho : OpR X (inplaceOp op) r) : PIp X op r := ho
theorem ZK1 {i : Nat} {x : Str} {op : Operator} {r : R2} (hN : X.N.Nodup) (hi : X.N[i]? = some x) (hx : Loc X.env.scope x) (ho : OpR X (inplaceOp op) r) (he : QE X e te) (hf : X.fn x = true ∨ X.env.scope.names.lookup x = some .local := by first | exact .inl rfl | exact .inr rfl | assumption) :
 QS X (.AugAssign (.Name x pos') op e pos) (ZRK i te r) := ⟨ZVX hN hi hx he.h (ZXP ho) hf⟩
theorem ZWQ {i : Nat} {r : R2} {D : ZFH} {σ : St} {H : Hp} {x : V} (e1 : σ[i]? = some (some x)) (h : te σ H fun y H1 => r x y H1 fun z H2 => D.nx (σ.set i (some z)) H2) : ZRK i te r D σ H := ⟨x, e1, h⟩
end
def ZTJ (Pv : St → Hp → Prop) (μ : St → Hp → Nat) (tb : TS) (D : ZFH) (n : Nat) (σ : St) (H : Hp) : Prop :=
 ∃ N : St → Hp → Prop, (∀ σ' H', N σ' H' → ∃ m', m' < n ∧ m' = μ σ' H' ∧ Pv σ' H') ∧ tb { D with nx := N, ct := N, bk := D.nx } σ H
theorem ZM9 {c : TT} {tb : TS} {D : ZFH} {σ : St} {H : Hp} (Pv : St → Hp → Prop) (μ : St → Hp → Nat) (h0 : Pv σ H)
  (hs : ∀ σ H, Pv σ H → c σ H fun b H1 => if b = true then ZTJ Pv μ tb D (μ σ H) σ H1 else D.nx σ H1) : ZMd c tb D σ H := by
 refine ⟨fun m σ H => m = μ σ H ∧ Pv σ H, ⟨_, rfl, h0⟩, ?_⟩
 rintro m σ H ⟨rfl, p⟩
 exact hs σ H p
theorem ZOS {Pv : St → Hp → Prop} {μ : St → Hp → Nat} {tb : TS} {D : ZFH} {n : Nat} {σ : St} {H : Hp} (h : tb { D with nx := fun σ' H' => Pv σ' H' ∧ μ σ' H' < n, ct := fun σ' H' => Pv σ' H' ∧ μ σ' H' < n, bk := D.nx } σ H) : ZTJ Pv μ tb D n σ H :=
 ⟨_, fun σ' H' ⟨p, l⟩ => ⟨_, l, rfl, p⟩, h⟩
section
variable {K : W.Frag} {H : Hp} {Q : VK} {a b : Addr} {vs ws : List V} {l m : PL}
end
theorem ZEU.kpN {H H1 H2 : Hp} {l : Addr} (s : ZEU H H1) (hl : H l = none) (k : Kp l H1 H2) : ZEU H H2 := fun q o e => k q o (s q o e) (ZEh e hl)
theorem ZEY.kpL {p : Addr} {H H' : Hp} (k : Kp p H H') {xs : List V} (hp : H p = some (.lst xs)) {vs : List V} {l : PL} (h : ZEY H vs l) : ZEY H' vs l := ZEY.kp k (n := 0) hp h
section
variable {K : W.Frag} {H H' : Hp} {Q : VK} {a b : Addr} {xs ys : List V} {cv l m : PL}
theorem ZWR {lo hi : Option Int} (h1 : H a = some (.tup xs)) (h : ∀ p H2, H2 p = some (.tup (ZGx xs lo hi)) → ZEU H H2 → Q (.ref p) H2) : ZWP K (.ref a) lo hi H Q :=
 ⟨a, xs, rfl, SqT.of h1, fun e => h a H (by rw [ZQI e]; exact h1) (ZEU.refl H), fun _ p hp => h p _ ZEa (ZEU.new hp)⟩
def PrT (H : Hp) (a : Addr) (cv : PL) : Prop := ∃ vs, H a = some (.tup vs) ∧ ZEY H vs cv
def PrL (H : Hp) (a : Addr) (cv : PL) : Prop := ∃ vs, H a = some (.lst vs) ∧ ZEY H vs cv
theorem PrT.same (h : PrT H a cv) (s : ZEU H H') : PrT H' a cv := by
 obtain ⟨vs, h1, h2⟩ := h
 exact ⟨vs, s _ _ h1, h2.same s⟩
end
section
variable {X : Cx}
end
section
variable {K : W.Frag} {H H' : Hp} {a p l : Addr} {cv : PL} {xs : List V}
theorem Pot.kp (h : Pot H p) (k : Kp l H H') (n : p ≠ l) : Pot H' p := by
 obtain ⟨x, y, h, r⟩ := h
 exact ⟨x, y, k _ _ h n, r⟩
theorem PrT.kpL (h : PrT H a cv) (k : Kp l H H') (hl : H l = some (.lst xs)) : PrT H' a cv := by
 obtain ⟨vs, h1, h2⟩ := h
 exact ⟨vs, k _ _ h1 (fun e => by subst e; rw [h1] at hl; cases hl), h2.kpL k hl⟩
end
section
variable {X : Cx} {e st : Expr} {te : TE} {pos p2 : Pos}
end
section
variable {K : W.Frag} {H : Hp} {Q : VK} {a : Addr} {xs : List V} {l : PL}
end
section
variable {X : Cx} {tg : Expr}
end
section
variable {σ : St} {H : Hp}
end
theorem ZHq (a b : Str) : (a ++ b).length = a.length + b.length := by
 show (a.cps ++ b.cps).size = a.cps.size + b.cps.size
 exact Array.size_append
section
variable {X : Cx}
theorem ZFM {H : Hp} {Q : VK} {i j : Str} (h : Q (.bl (decide (i = j))) H) : rEq (.str i) (.str j) H Q := ⟨rfl, by
 have : decide (V.str i = V.str j) = decide (i = j) := by
  by_cases e : i = j
  ·subst e; simp
  ·rw [decide_eq_false e, decide_eq_false (fun z => e (V.str.inj z))]
 rw [this]; exact h⟩
theorem ZIi {H : Hp} {Q : VK} {i j : Str} (h : Q (.bl (!decide (i = j))) H) : rNe (.str i) (.str j) H Q := ⟨rfl, by
 have : decide (V.str i = V.str j) = decide (i = j) := by
  by_cases e : i = j
  ·subst e; simp
  ·rw [decide_eq_false e, decide_eq_false (fun z => e (V.str.inj z))]
 rw [this]; exact h⟩
end
section
variable {K : W.Frag} {σ : St} {H : Hp} {D : ZFH}
end
section
variable {X : Cx} {pos : Pos}
end
def ZFW (n : Nat) {α : Type} : KasT α → (α → Prop) → Prop
 | .ret a, R => R a
 | .ask i j k, R => i < n ∧ j < n ∧ ∀ b, ZFW n (k b) R
theorem ZFW.bind {n : Nat} {α β : Type} {f : α → KasT β} {R : α → Prop} {R' : β → Prop} (h : ∀ a, R a → ZFW n (f a) R') : ∀ t : KasT α, ZFW n t R → ZFW n (t.bind f) R'
 | .ret a, g => h a g
 | .ask i j k, g => ⟨g.1, g.2.1, fun b => ZFW.bind h (k b) (g.2.2 b)⟩
theorem ZQJ {n : Nat} {cmp : Nat → Nat → (Bool → Shared → Prop) → Shared → Prop} {c : Nat → Nat → Bool} {s : Shared} (hc : ∀ i j C, i < n → j < n → C (c i j) s → cmp i j C s) {α : Type} {Q : α → Shared → Prop} {R : α → Prop} : ∀ t : KasT α, ZFW n t R → Q (evT c t) s → t.kasWp cmp Q s
 | .ret _, _, h => h
 | .ask i j k, g, h => hc i j _ g.1 g.2.1 (ZQJ hc (k (c i j)) (g.2.2 _) h)
section
variable {n : Nat}
def Inn (n : Nat) (p : Array Nat) : Prop := 0 < n ∧ ∀ v ∈ p.toList, v < n
theorem Inn.at {p : Array Nat} (h : Inn n p) (i : Nat) : p.getD i 0 < n := by
 by_cases hi : i < p.size
 ·have := ZGp (p := p) hi
  exact h.2 _ (Array.mem_toList_iff.mpr (Array.mem_of_getElem? this))
 ·have : p.getD i 0 = 0 := by simp [Array.getD, hi]
  rw [this]
  exact h.1
theorem Inn.perm {p q : Array Nat} (h : Inn n p) (e : q.toList.Perm p.toList) : Inn n q := ⟨h.1, fun v hv => h.2 v (e.mem_iff.mp hv)⟩
theorem Inn.rev {p : Array Nat} (h : Inn n p) (i j : Nat) : Inn n (kas_rev p i j) := h.perm (ZMn p i j)
theorem ZKN {p : Array Nat} (h : Inn n p) : ∀ f a, ZFW n (kas_asc p f a) (fun _ => True)
 | 0, _ => trivial
 | f + 1, a => ⟨h.at _, h.at _, fun b => by
  cases b with
  | true => exact trivial
  | false => exact ZKN h f (a + 1)⟩
theorem ZID : ∀ (f : Nat) {p : Array Nat} (a q : Nat), Inn n p → ZFW n (kas_desc f p a q) (fun r => Inn n r.1)
 | 0, _, _, _, h => h
 | f + 1, p, a, q, h => ⟨h.at _, h.at _, fun b => by
  cases b with
  | true =>
   show ZFW n (if q > 0 then kas_desc f (kas_rev p (a - (q + 1)) a) (a + 1) 0 else kas_desc f p (a + 1) 0) _
   split
   ·exact ZID f _ _ (h.rev _ _)
   ·exact ZID f _ _ h
  | false =>
   refine ⟨h.at _, h.at _, fun d => ?_⟩
   cases d with
   | true => exact h
   | false => exact ZID f _ _ h⟩
theorem ZLy {p : Array Nat} (h : Inn n p) (m k : Nat) : ZFW n (kas_tail3 m k p) (fun r => Inn n r.2) := by
 unfold kas_tail3
 refine ZFW.bind (R := fun _ => True) (fun a _ => ?_) _ (ZKN (h.rev _ _) _ _)
 exact h.rev _ _
theorem ZK2 {p : Array Nat} (h : Inn n p) (m k : Nat) : ZFW n (kas_descPart m k p) (fun r => Inn n r.2) := by
 refine ZFW.bind (R := fun r => Inn n r.1) (fun r hr => ?_) _ (ZID _ _ _ h)
 show ZFW n (if r.2.2 > 0 then _ else _) _
 split
 ·exact ZLy (hr.rev _ _) _ _
 ·exact ZLy hr _ _
theorem ZPC {p : Array Nat} (h : Inn n p) (k : Nat) : ZFW n (kas_count k p) (fun r => Inn n r.2) := by
 refine ZFW.bind (R := fun _ => True) (fun m _ => ?_) _ (ZKN h _ _)
 show ZFW n (if (m == k) = true then _ else _) _
 split
 ·exact h
 ·split
  ·refine ⟨h.at _, h.at _, fun b => ?_⟩
   cases b with
   | true => exact h
   | false => exact ZK2 (h.rev _ _) _ _
  ·exact ZK2 h _ _
theorem ZIx {p : Array Nat} (h : Inn n p) (k : Nat) : ∀ f l r, ZFW n (kas_place p k f l r) (fun _ => True)
 | 0, _, _ => trivial
 | f + 1, l, r => by
  show ZFW n (if l ≥ r then _ else _) _
  split
  ·exact trivial
  ·refine ⟨h.at _, h.at _, fun b => ?_⟩
   cases b with
   | true => exact ZIx h k f _ _
   | false => exact ZIx h k f _ _
theorem ZNA : ∀ (f : Nat) {p : Array Nat} (k : Nat), Inn n p → ZFW n (kas_bin f p k) (fun _ => True)
 | 0, _, _, _ => trivial
 | f + 1, p, k, h => ZFW.bind (R := fun _ => True) (fun l _ => ZNA f _ (h.perm (Array.perm_iff_toList_perm.mp (bubble_perm p k _)))) _ (ZIx h k _ _ _)
theorem ZQK (hn : 0 < n) : ZFW n (kas_sort n) (fun _ => True) := by
 have h : Inn n (List.toArray (List.range n)) := ⟨hn, fun v hv => by simpa using hv⟩
 refine ZFW.bind (R := fun r => Inn n r.2) (fun r hr => ?_) _ (ZPC h _)
 show ZFW n (if r.1 < n then _ else _) _
 split
 ·exact ZNA _ _ hr
 ·exact trivial
end
def ltP (p q : Int × Int) : Bool := decide (p.1 < q.1) || (decide (p.1 = q.1) && decide (p.2 < q.2))
theorem ZFn {p q : Int × Int} : ltP p q = true ↔ p.1 < q.1 ∨ (p.1 = q.1 ∧ p.2 < q.2) := by simp [ltP]
theorem ZFf {p q : Int × Int} : ltP p q = false ↔ ¬ (p.1 < q.1 ∨ (p.1 = q.1 ∧ p.2 < q.2)) := by
 rw [← ZFn]; simp
def ZMY (h : Heap) (a : Addr) (v : Value) (p : Int × Int) : Prop := ∃ b t u, v = .ref b ∧ b ≠ a ∧ IsTup h b #[.int p.1 t, .int p.2 u]
def ZGj (h : Heap) (a : Addr) (vs : List Value) (l : PL) : Prop := Paired (ZMY h a) vs l
theorem ZGj.get {h : Heap} {a : Addr} : ∀ {vs : List Value} {l : PL}, ZGj h a vs l → ∀ {i : Nat}, i < l.length → ZMY h a (vs.getD i .none) (l.getD i (0, 0))
 | _, _, .nil, i, hi => absurd hi (Nat.not_lt_zero _)
 | _, _, .cons g t, 0, _ => g
 | _, _, .cons g t, i + 1, hi => by
  have := ZGj.get t (i := i) (by simpa using hi)
  simpa using this
theorem ZGj.katT {h : Heap} {a : Addr} : ∀ {vs : List Value} {l : PL}, ZGj h a vs l → ∃ fs, KatTups h vs fs ∧ fs.length = vs.length ∧ ∀ v ∈ fs, ∃ x t, v = .int x t
 | _, _, .nil => ⟨[], .nil, rfl, fun v hv => by cases hv⟩
 | _, _, @Paired.cons _ _ _ v p _ _ ⟨b, t, u, e, _, o, ho, hc, k, hd⟩ r => by
  obtain ⟨fs, h1, h2, h3⟩ := ZGj.katT r
  subst e
  refine ⟨.int p.1 t :: fs, .cons ho hc hd rfl h1, by simp [h2], fun v hv => ?_⟩
  rcases List.mem_cons.mp hv with rfl | hv
  ·exact ⟨_, _, rfl⟩
  ·exact h3 v hv
section
variable {prog : Program} {w : World} {A : Around} {E : Value → Shared → Prop} {s : Shared}
theorem ZNv {a : Addr} {v v' : Value} {p q : Int × Int} {C : Bool → Shared → Prop} (hp : ZMY s.heap a v p) (hq : ZMY s.heap a v' q) (h : C (ltP p q) s) : wpAny (model prog w) A (keyLt' (tuples' true) v v') C E s := by
 obtain ⟨b, t, u, rfl, _, o, ho, hc, k, hd⟩ := hp
 obtain ⟨b', t', u', rfl, _, o', ho', hc', k', hd'⟩ := hq
 refine kat_lt ho hd ho' hd' ?_
 refine kat_cons (wpAny_eqBool_int ?_)
 by_cases e1 : p.1 = q.1
 ·rw [show (p.1 == q.1) = true by simp [e1]]
  refine kat_yes (kat_cons (wpAny_eqBool_int ?_))
  by_cases e2 : p.2 = q.2
  ·rw [show (p.2 == q.2) = true by simp [e2]]
   refine kat_yes (kat_nil ?_)
   have : ltP p q = false := by rw [ZFf]; omega
   rw [this] at h
   exact h
  ·rw [show (p.2 == q.2) = false by simp [e2]]
   refine kat_no (kat_one _ _ (lt_int ?_))
   have : ltP p q = decide (p.2 < q.2) := by simp [ltP, e1]
   rw [this] at h
   exact h
 ·rw [show (p.1 == q.1) = false by simp [e1]]
  refine kat_no (oneLt_int ?_)
  have : ltP p q = decide (p.1 < q.1) := by simp [ltP, e1]
  rw [this] at h
  exact h
theorem ZK3 {a : Addr} {vs : List Value} {l : PL} {n : Nat} {P : Fin → Shared → Prop} (ho : s.heap.get? a = some (seqObj "list" vs.toArray n))
  (hT : ZGj s.heap a vs l) (hd : l.Nodup) (h64 : vs.length < 64)
  (h : ∀ (ix : List Nat), ix.Perm (List.range vs.length) → (ix.map fun i => l.getD i (0, 0)).Pairwise (fun p q => ltP p q = true) → P (.done (.ret .none)) { s with heap := sortedHeap s.heap a vs (ix.map fun i => vs.getD i Value.none).toArray }) :
  wpAny (model prog w) A (Builtin.«list.sort» ⟨[.ref a], []⟩) P E s := by
 have hlen : vs.length = l.length := Paired.length hT
 have ha : a < s.heap.objs.size := Heap.lt_size ho
 rw [list_sort_plain]
 refine wpAny_bind (listItems_at ho rfl ?_)
 refine wpAny_bind (listUpdate_at ho rfl ?_ (by rw [List.size_toArray, sizeLine_eq]; omega) (Nat.zero_le _))
 obtain ⟨e1, ho1⟩ : ∃ e1, (s.heap.update a (Obj.mapSeq fun _ => (#[] : Array Value))).get? a = some (seqObj "list" #[] e1) := ⟨_, get?_update_seq ho fun _ => #[]⟩
 refine wpAny_bind (seqEpoch_at ho1 rfl ?_)
 refine wpAny_bind (wpAny_newTuple ?_ (by show vs.length ≤ _; rw [sizeLine_eq]; omega))
 refine wpAny_bind (wpAny_newList ?_ (Nat.zero_le _))
 refine wpAny_holding ?_
 generalize hh : (((s.heap.update a (Obj.mapSeq fun _ => (#[] : Array Value))).push (seqObj "tuple" vs.toArray 0)).push (seqObj "list" #[] 0)) = h3
 have ho3 : h3.get? a = some (seqObj "list" #[] e1) := by rw [← hh]; exact Heap.get?_push_of_some _ (Heap.get?_push_of_some _ ho1)
 have keep : ∀ b o, b ≠ a → s.heap.get? b = some o → h3.get? b = some o := fun b o hb e => by
  rw [← hh]
  exact Heap.get?_push_of_some _ (Heap.get?_push_of_some _ ((Heap.get?_update_other _ _ (Ne.symm hb)).trans e))
 have hT3 : ZGj h3 a vs l := Paired.mapP hT fun v p ⟨b, t, u, e, hb, o, hx, r⟩ => ⟨b, t, u, e, hb, o, keep b o hb hx, r⟩
 have done : ∀ (ix : List Nat), ix.Perm (List.range vs.length) → (ix.map fun i => l.getD i (0, 0)).Pairwise (fun p q => ltP p q = true) →
   P (.done (.ret .none)) { s with heap := h3.update a (Obj.mapSeq fun _ => (ix.map fun i => vs.getD i Value.none).toArray) } := fun ix hp hs => by
  have := h ix hp hs
  unfold sortedHeap at this
  rw [hh] at this
  exact this
 show wpAny (model prog w) A _ P E { s with heap := h3 }
 dsimp only
 by_cases h2 : vs.toArray.size < 2
 ·rw [if_pos h2, if_pos h2]
  refine wpAny_bind (wpAny_pure ?_)
  have hsmall : (List.range vs.length).map (fun i => vs.getD i Value.none) = vs := by
   rw [List.size_toArray] at h2
   match vs, h2 with
   | [], _ => rfl
   | [v], _ => rfl
  have hpw : ((List.range vs.length).map fun i => l.getD i (0, 0)).Pairwise (fun p q => ltP p q = true) := by
   rw [List.size_toArray] at h2
   match vs, h2 with
   | [], _ => exact List.Pairwise.nil
   | [v], _ => exact List.pairwise_singleton _ _
  have D := done (List.range vs.length) (List.Perm.refl _) hpw
  rw [hsmall] at D
  show wpAny (model prog w) A ((pure () : StateT SortSt Sem Unit).run (SortSt.mk' general' (vs.toArray.zip vs.toArray) #[] 7 none) >>= _) P E { s with heap := h3 }
  rw [StateT.run_pure]
  refine wpAny_bind (wpAny_pure ?_)
  dsimp only
  have hout : ((arrOf (SortSt.mk' general' (vs.toArray.zip vs.toArray) #[] 7 none)).map (·.2)) = vs.toArray := by
   show ((vs.toArray.zip vs.toArray).map (·.2)) = vs.toArray
   apply Array.toList_inj.mp
   rw [Array.toList_map, Array.toList_zip]
   exact List.map_snd_zip (Nat.le_refl _)
  rw [hout]
  refine wpAny_bind (seqEpoch_at (s := { s with heap := h3 }) ho3 rfl ?_)
  refine wpAny_bind (listUpdate_at (s := { s with heap := h3 }) ho3 rfl ?_ (Nat.zero_le _) (by rw [List.size_toArray, sizeLine_eq]; omega))
  simp only [bne_self_eq_false, Bool.false_eq_true, if_false]
  exact wpAny_pure D
 ·rw [if_neg h2, if_neg h2]
  have h2' : 2 ≤ vs.length := by rw [List.size_toArray] at h2; omega
  obtain ⟨fs, k1, k2, k3⟩ := hT3.katT
  refine wpAny_bind (kat_kind (T := .type "int") (s := { s with heap := h3 }) k1 (by omega) (fun v hv => ?_) (by decide) ?_)
  ·obtain ⟨x, t, rfl⟩ := k3 v hv
   exact Looks.of_pure rfl
  have hkk : tuples' (Value.type "int" != Value.type "tuple") = tuples' true := by
   have : (Value.type "int" != Value.type "tuple") = true := by decide
   rw [this]
  rw [hkk]
  let c : Nat → Nat → Bool := fun i j => ltP (l.getD i (0, 0)) (l.getD j (0, 0))
  have O : Ord c vs.length := by
   refine ⟨fun i j k h1 h2 => ?_, fun i j h1 => ?_, fun i j hi hj hne h1 => ?_⟩
   ·have h1 := ZFn.mp h1
    have h2 := ZFn.mp h2
    exact ZFn.mpr (by omega)
   ·have h1 := ZFn.mp h1
    exact ZFf.mpr (by omega)
   ·have h1 := ZFf.mp h1
    refine ZFn.mpr ?_
    have hne2 : l.getD i (0, 0) ≠ l.getD j (0, 0) := by
     intro e
     have hi' : i < l.length := by omega
     have hj' : j < l.length := by omega
     have hpw := List.pairwise_iff_getElem.mp (List.nodup_iff_pairwise_ne.mp hd)
     have e1 : l.getD i (0, 0) = l[i] := by simp [hi']
     have e2 : l.getD j (0, 0) = l[j] := by simp [hj']
     rw [e1, e2] at e
     rcases Nat.lt_trichotomy i j with z | z | z
     ·exact hpw i j hi' hj' z e
     ·exact hne z
     ·exact hpw j i hj' hi' z e.symm
    have hne3 : ¬ ((l.getD i (0, 0)).1 = (l.getD j (0, 0)).1 ∧ (l.getD i (0, 0)).2 = (l.getD j (0, 0)).2) := fun z => hne2 (Prod.ext z.1 z.2)
    omega
  obtain ⟨S1, S2⟩ := ZTt O (by omega)
  refine wpAny_bind (wpAny_mono (kat_run (E := E) (vs := vs) (ks := vs) (Q := fun st' s' => s' = { s with heap := h3 } ∧ arrOf st' = (evT c (kas_sort vs.length)).map (kas_item (vs.toArray.zip vs.toArray)) ∧ failedOf st' = none)
   (G := fun p s' => s' = { s with heap := h3 } ∧ p = evT c (kas_sort vs.length)) rfl h2' h64 (fun p st' s' a1 a2 a3 a4 => ⟨a4.1, by rw [a2, a4.2], a3⟩)
   (ZQJ (c := c) (n := vs.length) (fun i j C hi hj hC => ?_) _ (ZQK (by omega)) ⟨rfl, rfl⟩)) ?_ fun _ _ e => e)
  ·exact ZNv (hT3.get (by omega)) (hT3.get (by omega)) hC
  ·rintro ⟨⟨⟩, st'⟩ s' ⟨rfl, har, hf⟩
   dsimp only
   rw [kat_snds rfl har]
   have hperm : (evT c (kas_sort vs.length)).toList.Perm (List.range vs.length) := S1
   have hsz : (evT c (kas_sort vs.length)).size = vs.length := by have := S1.length_eq; simpa using this
   have hpw : ((evT c (kas_sort vs.length)).toList.map fun i => l.getD i (0, 0)).Pairwise (fun p q => ltP p q = true) := by
    rw [List.pairwise_map, List.pairwise_iff_getElem]
    intro i j hi hj hij
    have := S2 i j hij (by simp at hj; omega)
    have e1 : gt0 (evT c (kas_sort vs.length)) i = (evT c (kas_sort vs.length)).toList[i] := ZKw (by rw [← Array.getElem?_toList, List.getElem?_eq_getElem hi])
    have e2 : gt0 (evT c (kas_sort vs.length)) j = (evT c (kas_sort vs.length)).toList[j] := ZKw (by rw [← Array.getElem?_toList, List.getElem?_eq_getElem hj])
    rw [e1, e2] at this
    exact this
   refine wpAny_bind (seqEpoch_at (s := { s with heap := h3 }) ho3 rfl ?_)
   refine wpAny_bind (listUpdate_at (s := { s with heap := h3 }) ho3 rfl ?_ (Nat.zero_le _) ?_)
   ·rw [hf]
    simp only [bne_self_eq_false, Bool.false_eq_true, if_false]
    exact wpAny_pure (done _ hperm hpw)
   ·show (((evT c (kas_sort vs.length)).toList.map fun i => vs.getD i Value.none).toArray).size ≤ _
    rw [List.size_toArray, List.length_map, Array.length_toList, hsz, sizeLine_eq]
    omega
end
section
variable {X : Cx} {pins : List (Addr × Obj)} {σ : St} {H H' : Hp} {s : Shared} {h' : Heap}
end
section
variable {X : Cx} {o : Expr} {to : TE} {apos cpos : Pos}
end
theorem ZQL {α : Type} {l : List α} {d : α} {ix : List Nat} (h : ix.Perm (List.range l.length)) : (ix.map fun i => l.getD i d).Perm l := by
 have e : (List.range l.length).map (fun i => l.getD i d) = l := by
  apply List.ext_getElem
  ·simp
  ·intro i h1 h2
   simp at h1 ⊢
   rw [List.getElem?_eq_getElem h1]
   rfl
 have := h.map fun i => l.getD i d
 rw [e] at this
 exact this
section
variable {X : Cx} {o : Expr} {to : TE} {apos cpos pos p : Pos}
end
section
variable {σ : St} {H : Hp} {Q : VK} {to : TE}
end
section
variable {prog : Program} {w : World} {A : Around} {E : Value → Shared → Prop} {s : Shared}
end
section
variable {X : Cx} {pins : List (Addr × Obj)} {σ : St} {H H' : Hp} {s : Shared} {h' : Heap}
end
section
variable {X : Cx} {tg : Expr}
end
section
variable {K : W.Frag} {σ : St} {H : Hp} {D : ZFH}
end
section
variable {X : Cx}
end
def Bn (n : Nat) (x : Int) : Prop := x.natAbs < 2 ^ n
theorem Bn.mono {m n : Nat} {x : Int} (h : Bn m x) (hm : m ≤ n) : Bn n x := Nat.lt_of_lt_of_le h (Nat.pow_le_pow_right (by decide) hm)
theorem Bn.of {n : Nat} {x : Int} (h1 : -(2 ^ n) < x) (h2 : x < 2 ^ n) : Bn n x := by
 unfold Bn
 have e : ((2 ^ n : Nat) : Int) = (2 : Int) ^ n := by simp
 have : (x.natAbs : Int) < ((2 ^ n : Nat) : Int) := by rw [e]; omega
 exact Int.ofNat_lt.mp this
theorem ZK4 {m n : Nat} {x y : Int} (h : Bn m x) (g : Bn n y) (hm : m + n ≤ 8000) : IntMulOk x y := by
 have h1 : Builtin.Int.intBits x ≤ m := intBits_le h
 have h2 : Builtin.Int.intBits y ≤ n := intBits_le g
 unfold IntMulOk
 have : Builtin.Int.intTooBig ((Builtin.Int.intBits x : Int) + (Builtin.Int.intBits y : Int)) = false := by
  unfold Builtin.Int.intTooBig
  refine decide_eq_false ?_
  have hb : (8000 : Int) ≤ bitsLine := by decide
  omega
 rw [this]
 simp
section
variable {X : Cx}
end
theorem ZOT : ∀ (ts : List Str) (B : Nat), (∀ t ∈ ts, t.length ≤ B) → (Str.join ", " ts).length ≤ ts.length * (B + 2) := by
 intro ts B hB
 by_cases hne : ts = []
 ·subst hne
  rw [List.length_nil, Nat.zero_mul]
  exact Nat.le_of_eq rfl
 ·have h1 := PySem.join_length_add ts hne
  have h2 : piled ts ≤ ts.length * (B + 2) := by
   clear h1 hne
   induction ts with
   | nil => rw [List.length_nil, Nat.zero_mul, piled_nil]; exact Nat.le_refl _
   | cons t ts ih =>
    have := ih fun x hx => hB x (List.mem_cons_of_mem _ hx)
    have h3 := hB t List.mem_cons_self
    rw [List.length_cons, Nat.succ_mul]
    show piled (t :: ts) ≤ _
    rw [piled_cons]
    omega
  omega
theorem ZLX {i : Int} (h : Bn 1900 i) : ((PyData.int i).shown).length ≤ 1921 ∧ (PyData.int i).showable = true := by
 have hl : i.natAbs.log2 < 1920 := by
  by_cases z : i.natAbs = 0
  ·rw [z]; decide
  ·exact Nat.lt_of_lt_of_le ((Nat.log2_lt z).mpr h) (by decide)
 refine ⟨?_, ?_⟩
 ·rw [PyData.shown_int]
  exact int_text_len_1921 hl
 ·simp only [PyData.showable]
  exact decide_eq_true hl
theorem ZLz {xs : List PyData} {B : Nat} (h : ∀ x ∈ xs, x.shown.length ≤ B) : (PyData.tuple xs).shown.length ≤ xs.length * (B + 2) + 3 := by
 rw [PyData.shown_tuple, ZHq, ZHq]
 have h1 : (Str.join ", " (PyData.shownAll xs)).length ≤ xs.length * (B + 2) := by
  have := ZOT (PyData.shownAll xs) B (fun t ht => by
   have : ∀ ys : List PyData, (∀ y ∈ ys, y.shown.length ≤ B) → ∀ t ∈ PyData.shownAll ys, t.length ≤ B := by
    intro ys
    induction ys with
    | nil => intro _ t ht; rw [PyData.shownAll_nil] at ht; cases ht
    | cons y ys ih =>
     intro hy t ht
     rw [PyData.shownAll_cons] at ht
     rcases List.mem_cons.mp ht with rfl | ht
     ·exact hy y List.mem_cons_self
     ·exact ih (fun z hz => hy z (List.mem_cons_of_mem _ hz)) t ht
   exact this xs h t ht)
  rw [PyData.shownAll_length] at this
  exact this
 have h2 : (((if xs.length == 1 then ",)" else ")" : String)) : Str).length ≤ 2 := by split <;> decide
 have h3 : (("(" : Str)).length = 1 := rfl
 omega
theorem ZOU {xs : List PyData} (h : ∀ x ∈ xs, x.showable = true) : PyData.showableAll xs = true := by
 induction xs with
 | nil => simp only [PyData.showableAll]
 | cons x xs ih =>
  simp only [PyData.showableAll]
  rw [h x List.mem_cons_self, ih fun y hy => h y (List.mem_cons_of_mem _ hy)]
  rfl
theorem ZQM {xs : List PyData} (h : ∀ x ∈ xs, x.canLay0 = true) : PyData.canLayAll0 xs = true := by
 induction xs with
 | nil => rfl
 | cons x xs ih =>
  show (PyData.canLay0 x && PyData.canLayAll0 xs) = true
  rw [h x List.mem_cons_self, ih fun y hy => h y (List.mem_cons_of_mem _ hy)]
  rfl
theorem ZQN {xs : List PyData} {B : Nat} (h : ∀ x ∈ xs, x.depth ≤ B) : PyData.depthAll xs ≤ B := by
 induction xs with
 | nil => exact Nat.zero_le _
 | cons x xs ih =>
  have h1 := h x List.mem_cons_self
  have h2 := ih fun y hy => h y (List.mem_cons_of_mem _ hy)
  simp only [PyData.depthAll]
  omega
inductive ZE0 (H : Hp) : V → Option (PL) → Prop where
 | non : ZE0 H .non Option.none
 | pr {c : Addr} {qs : PL} (h : PrT H c qs) (hl : qs.length = 4) : ZE0 H (.ref c) (Option.some qs)
theorem ZE0.same {H H' : Hp} {v : V} {o : Option (PL)} (h : ZE0 H v o) (s : ZEU H H') : ZE0 H' v o := by
 cases h with
 | non => exact .non
 | pr e hl => exact .pr (e.same s) hl
theorem ZE0.kpL {H H' : Hp} {l : Addr} {xs : List V} {v : V} {o : Option (PL)} (h : ZE0 H v o) (k : Kp l H H') (hl : H l = Option.some (.lst xs)) : ZE0 H' v o := by
 cases h with
 | non => exact .non
 | pr e hn => exact .pr (e.kpL k hl) hn
inductive ZFE (H : Hp) : List V → List (Option (PL)) → Prop where
 | nil : ZFE H [] []
 | cons {v : V} {o : Option (PL)} {vs : List V} {os : List (Option (PL))} (h : ZE0 H v o) (t : ZFE H vs os) : ZFE H (v :: vs) (o :: os)
theorem ZFE.mapP {H H' : Hp} (f : ∀ v o, ZE0 H v o → ZE0 H' v o) : ∀ {vs : List V} {os : List (Option (PL))}, ZFE H vs os → ZFE H' vs os
 | _, _, .nil => .nil
 | _, _, .cons h t => .cons (f _ _ h) (ZFE.mapP f t)
theorem ZFE.same {H H' : Hp} {vs : List V} {os : List (Option (PL))} (h : ZFE H vs os) (s : ZEU H H') : ZFE H' vs os := h.mapP fun _ _ d => d.same s
theorem ZFE.len {H : Hp} : ∀ {vs : List V} {os : List (Option (PL))}, ZFE H vs os → vs.length = os.length
 | _, _, .nil => rfl
 | _, _, .cons _ t => by simp [ZFE.len t]
theorem ZFE.snoc {H : Hp} : ∀ {vs : List V} {os : List (Option (PL))}, ZFE H vs os → ∀ {v : V} {o : Option (PL)}, ZE0 H v o → ZFE H (vs ++ [v]) (os ++ [o])
 | _, _, .nil, _, _, d => .cons d .nil
 | _, _, .cons h t, _, _, d => .cons h (ZFE.snoc t d)
def ZK5 : Option (PL) → PyData
 | none => .none
 | some qs => .tuple (qs.map ZTG)
theorem ZFE.dats {K : W.Frag} {H : Hp} : ∀ {vs : List V} {os : List (Option (PL))}, ZFE H vs os → ZGU K H vs (os.map ZK5)
 | _, _, .nil => .nil
 | _, _, .cons .non t => .cons .non (ZFE.dats t)
 | _, _, .cons (.pr ⟨us, g, p⟩ _) t => .cons (.tup (SqT.of g) p.dats) (ZFE.dats t)
section
variable {X : Cx}
inductive ZGd (K : W.Frag) (H : Hp) : V → Str → Prop where
 | int {i : Int} (h : Bn 1900 i) : ZGd K H (.int i) ((toString i : String) : Str)
 | bl (b : Bool) : ZGd K H (.bl b) (if b then "True" else "False" : Str)
 | non : ZGd K H .non "None"
 | str {x : Str} (h : (reprText x).length ≤ sizeLine) : ZGd K H (.str x) (reprText x)
 | dat {a : Addr} {d : PyData} (h : Dat K H (.ref a) d) (h2 : d.showable = true) (h3 : d.hasDict = false) (h4 : d.depth ≤ 60) (h5 : d.shown.length ≤ sizeLine) : ZGd K H (.ref a) d.shown
 | dct {a : Addr} {k v : Int} (h : H a = Option.some (.dK [(Sum.inl k, .int v)])) (hk : Bn 1900 k) (hv : Bn 1900 v) : ZGd K H (.ref a) (PyData.dict [(.int k, .int v)]).shown
mutual
theorem Dat.same {K : W.Frag} {H H' : Hp} (s : ZEU H H') : ∀ {x : V} {d : PyData}, Dat K H x d → Dat K H' x d
 | _, _, .non => .non
 | _, _, .bl b => .bl b
 | _, _, .int i => .int i
 | _, _, .str x => .str x
 | _, _, .tup h r => .tup (s.seqT h) (ZGU.same s r)
 | _, _, .lst h r => .lst (s.seq h) (ZGU.same s r)
theorem ZGU.same {K : W.Frag} {H H' : Hp} (s : ZEU H H') : ∀ {x : List V} {d : List PyData}, ZGU K H x d → ZGU K H' x d
 | _, _, .nil => .nil
 | _, _, .cons h r => .cons (Dat.same s h) (ZGU.same s r)
end
theorem ZWS {i : Int} (h : Bn 1900 i) : i.natAbs.log2 < 1920 := by
 by_cases z : i.natAbs = 0
 ·rw [z]; decide
 ·exact Nat.lt_of_lt_of_le ((Nat.log2_lt z).mpr h) (by decide)
theorem ZSA {k v : Int} (hk : Bn 1900 k) (hv : Bn 1900 v) : (PyData.dict [(.int k, .int v)]).shown.length ≤ sizeLine ∧ (PyData.dict [(.int k, .int v)]).showable = true ∧ (PyData.dict [(.int k, .int v)]).depth ≤ 10 := by
 have h1 := ZLX hk
 have h2 := ZLX hv
 refine ⟨?_, ?_, ?_⟩
 ·rw [PyData.shown_dict, ZHq, ZHq, PyData.shownKv_cons, PyData.shownKv_nil]
  have hj := ZOT [(PyData.int k).shown ++ ": " ++ (PyData.int v).shown] 3900 (fun t ht => by
   simp only [List.mem_cons, List.not_mem_nil, or_false] at ht
   rw [ht, ZHq, ZHq]
   have : ((": " : Str)).length = 2 := rfl
   omega)
  have e1 : (("{" : Str)).length = 1 := rfl
  have e2 : (("}" : Str)).length = 1 := rfl
  rw [e1, e2]
  refine Nat.le_trans (Nat.add_le_add_right (Nat.add_le_add_left hj 1) 1) ?_
  show 1 + 1 * (3900 + 2) + 1 ≤ sizeLine
  decide
 ·simp only [PyData.showable, PyData.showableKv]
  have a1 := h1.2
  have a2 := h2.2
  simp only [PyData.showable] at a1 a2
  rw [a1, a2]
  rfl
 ·simp only [PyData.depth, PyData.depthKv]
  decide
def ZQO (K : W.Frag) : List V → Hp → VK → Prop := fun xs H Q => ∃ x t, xs = [x] ∧ ZGd K H x t ∧ Q (.str t) H
theorem ZHG (K : W.Frag) (hK : X.K = K) (hg : X.A.guards = some []) (hu : X.A.units + 64 < cLine) : ZFK X (.builtin "repr") (ZQO K) := by
 subst hK
 intro pins s σ H xs us Q I r h
 obtain ⟨x, t, rfl, hS, q⟩ := h
 obtain ⟨u, rfl, ru⟩ := r.one
 cases hS with
 | @int i h =>
  obtain ⟨tk, rfl⟩ := (show ∃ t, u = Value.int i t from ru)
  exact PySem.P.repr_of_int (ZWS h) ⟨.str _, H, I.kept (t' := s.toks + 1) fun _ _ e => e, ⟨_, rfl⟩, q⟩
 | bl b =>
  cases (show u = Value.bool b from ru)
  exact PySem.P.repr_of_bool ⟨.str _, H, I.kept (t' := s.toks + 1) fun _ _ e => e, ⟨_, rfl⟩, q⟩
 | non =>
  cases (show u = Value.none from ru)
  exact PySem.P.repr_of_none ⟨.str _, H, I.kept (t' := s.toks + 1) fun _ _ e => e, ⟨_, rfl⟩, q⟩
 | @str x h =>
  obtain ⟨tk, rfl⟩ := (show ∃ t, u = Value.str x t from ru)
  exact PySem.P.repr_of_str ⟨.str _, H, I.kept (t' := s.toks + 1) fun _ _ e => e, ⟨_, rfl⟩, q⟩ h
 | @dat a d hD hs hnd hd hz =>
  obtain ⟨as, ra⟩ := hD.reads I ru
  cases ru
  exact repr_of_reads' ra hs (PyData.noDict_hsm hnd) hg (by omega) (fun _ _ e => e) (fun h' u tk hk => ⟨.str d.shown, H, I.kept (t' := tk) hk, ⟨u, rfl⟩, q⟩) hz
 | @dct a k v h hk hv =>
  cases ru
  obtain ⟨z, hsm, vs, rel, dd⟩ := ZO3 I.hok h
  obtain ⟨hz, hs, hd⟩ := ZSA hk hv
  cases rel with
  | @cons p q0 ps qs h0 t0 =>
   cases t0
   obtain ⟨e1, t2, e2⟩ := h0
   obtain ⟨qk, qv⟩ := q0
   simp only at e1 e2
   subst e1 e2
   have ra : Reads s.heap (.ref a) (.dict [(.int k, .int v)]) (a :: ([] ++ [])) := PyProof.V.reads_dictOf (enc := fun (k : Key) => match k with | .inl i => PyData.int i | .inr x => PyData.str x) (fun k key e => by
    rcases ZFN e with ⟨i, t, rfl, rfl⟩ | ⟨x, t, rfl, rfl⟩
    ·exact .int i t
    ·exact .str x t) dd (.cons (.int v t2) .nil)
   exact repr_of_reads' ra hs (fun _ z => by simp at z; rw [z] at hsm; simp at hsm) hg (by omega) (fun _ _ e => e) (fun h' u tk hk => ⟨.str _, H, I.kept (t' := tk) hk, ⟨u, rfl⟩, q⟩) hz
theorem ZHH {K : W.Frag} {H : Hp} {Q : VK} {x : V} {t : Str} (h1 : ZGd K H x t) (h : Q (.str t) H) : ZQO K [x] H Q := ⟨x, t, rfl, h1, h⟩
end
def Sm (n k : Nat) (d : PyData) : Prop := d.shown.length ≤ n ∧ d.showable = true ∧ d.canLay0 = true ∧ d.depth ≤ k
theorem Sm.mono {n k m j : Nat} {d : PyData} (h : Sm n k d) (h1 : n ≤ m) (h2 : k ≤ j) : Sm m j d := ⟨Nat.le_trans h.1 h1, h.2.1, h.2.2.1, Nat.le_trans h.2.2.2 h2⟩
theorem Sm.int {i : Int} (h : Bn 1900 i) : Sm 2000 3 (.int i) := by
 have := ZLX h
 exact ⟨Nat.le_trans this.1 (by decide), this.2, rfl, by simp only [PyData.depth]; decide⟩
theorem Sm.non : Sm 2000 3 .none := by
 refine ⟨?_, by simp only [PyData.showable], rfl, by simp only [PyData.depth]; decide⟩
 rw [PyData.shown_none]
 decide
theorem Sm.tup {n k : Nat} {xs : List PyData} (h : ∀ x ∈ xs, Sm n k x) (hl : xs.length ≤ 4) : Sm (4 * (n + 2) + 3) (k + 5) (.tuple xs) := by
 refine ⟨?_, ?_, ?_, ?_⟩
 ·have := ZLz fun x hx => (h x hx).1
  have h2 : xs.length * (n + 2) ≤ 4 * (n + 2) := Nat.mul_le_mul_right _ hl
  omega
 ·simp only [PyData.showable]
  exact ZOU fun x hx => (h x hx).2.1
 ·show PyData.canLayAll0 xs = true
  exact ZQM fun x hx => (h x hx).2.2.1
 ·have := ZQN fun x hx => (h x hx).2.2.2
  simp only [PyData.depth]
  omega
theorem ZGd.of {K : W.Frag} {H : Hp} {a : Addr} {d : PyData} (h : Dat K H (.ref a) d) (hs : Sm 100000 50 d) : ZGd K H (.ref a) d.shown :=
 .dat h hs.2.1 (PyData.hasDict_of_canLay _ hs.2.2.1) (Nat.le_trans hs.2.2.2 (by decide)) (Nat.le_trans hs.1 (by decide))
section
variable {X : Cx} {pins : List (Addr × Obj)} {σ : St} {H : Hp} {s : Shared}
theorem ZL0 {h' : Heap} {a : Addr} (I : Inv X pins σ H s) (k : ∀ b o, s.heap.get? b = some o → h'.get? b = some o) (ha : s.heap.objs.size ≤ a) :
  ∀ {us : List V} {m : PL} {its : List Value}, ZEY H us m → ZEg us its → ZGj h' a its m
 | _, _, _, .nil, .nil => .nil
 | _, _, _, .cons (b := p) ⟨b, e, z⟩ t, .cons r q => by
  subst e
  cases r
  obtain ⟨its, rv, hp, _⟩ := I.tuple (SqT.of z)
  obtain ⟨o, ho, hc, n, hd⟩ := hp
  have hb : b < s.heap.objs.size := Heap.lt_size ho
  obtain ⟨u1, u2, e2, r1, r2⟩ := rv.two
  obtain ⟨t1, rfl⟩ := r1
  obtain ⟨t2, rfl⟩ := r2
  subst e2
  exact .cons ⟨b, t1, t2, rfl, fun z => Nat.lt_irrefl _ (Nat.lt_of_lt_of_le (z ▸ hb) ha), o, k _ _ ho, hc, n, hd⟩ (ZL0 I k ha t q)
end
section
variable {prog : Program} {w : World} {A : Around} {E : Value → Shared → Prop} {s : Shared}
theorem ZMC {l : Addr} {vs : List Value} {m : PL} {Q : Value → Shared → Prop} (hl : s.heap.IsList l vs.toArray)
  (hT : ∀ h' a, (∀ b o, s.heap.get? b = some o → h'.get? b = some o) → s.heap.objs.size ≤ a → ZGj h' a vs m) (hd : m.Nodup) (h64 : vs.length < 64)
  (h : ∀ (ix : List Nat), ix.Perm (List.range vs.length) → (ix.map fun i => m.getD i (0, 0)).Pairwise (fun p q => ltP p q = true) → Q (.ref (s.heap.objs.size + 1)) { s with heap := sortedAll s.heap vs (ix.map fun i => vs.getD i Value.none).toArray }) :
  wpAny (model prog w) A (call (.builtin "sorted") [.ref l]) Q E s := by
 refine Calls.call_function_entry kind_sorted plain_sorted entry_sorted (args_sorted1 _) ?_
 unfold Builtin.«sorted»
 refine wpAny_bind (m := checkCount "sorted" 1 1 _) (wpAny_pure ?_)
 refine wpAny_bind (collect_list hl ?_ (by rw [sizeLine_eq]; omega))
 refine wpAny_bind (wpAny_newList ?_ (by rw [sizeLine_eq]; omega))
 have hsz : ((s.heap.push (seqObj "list" #[] 0)).update s.heap.objs.size (Obj.mapSeq (· ++ vs.toArray))).objs.size = s.heap.objs.size + 1 := by
  rw [Heap.size_update, size_push']
 have hoL : (((s.heap.push (seqObj "list" #[] 0)).update s.heap.objs.size (Obj.mapSeq (· ++ vs.toArray))).push (seqObj "list" vs.toArray 0)).get? (s.heap.objs.size + 1) = some (seqObj "list" vs.toArray 0) := by
  rw [← hsz]; exact Heap.get?_push_size _ rfl
 show wpAny _ _ _ _ _ { s with heap := ((s.heap.push (seqObj "list" #[] 0)).update s.heap.objs.size (Obj.mapSeq (· ++ vs.toArray))).push (seqObj "list" vs.toArray 0) }
 rw [hsz]
 have kp : ∀ b o, s.heap.get? b = some o → (((s.heap.push (seqObj "list" #[] 0)).update s.heap.objs.size (Obj.mapSeq (· ++ vs.toArray))).push (seqObj "list" vs.toArray 0)).get? b = some o := fun b o e =>
  Heap.get?_push_of_some _ ((Heap.get?_update_other _ _ (Ne.symm (Nat.ne_of_lt (Heap.lt_size e)))).trans (Heap.get?_push_of_some _ e))
 refine wpAny_bind (wpAny_holding (wpAny_call_entry slot_list_sort ⟨_, hoL, rfl⟩ entry_list_sort (ZK3 (s := { s with heap := ((s.heap.push (seqObj "list" #[] 0)).update s.heap.objs.size (Obj.mapSeq (· ++ vs.toArray))).push (seqObj "list" vs.toArray 0) }) hoL (hT _ _ kp (Nat.le_succ _)) hd h64 fun ix a1 a2 => ⟨_, rfl, ?_⟩) (args_list_sort _)))
 exact wpAny_pure ⟨_, rfl, h ix a1 a2⟩
end
theorem ZUS : ∀ {us : List V} {its : List Value}, ZEg us its → ∀ (ix : List Nat), (∀ i ∈ ix, i < us.length) → ZEg (ix.map fun i => us.getD i .non) (ix.map fun i => its.getD i Value.none) := by
 intro us its rv ix
 induction ix with
 | nil => intro _; exact .nil
 | cons i ix ih =>
  intro h
  have hi := h i (List.mem_cons_self ..)
  obtain ⟨u, hu, ru⟩ := rv.get (List.getElem?_eq_getElem hi)
  have e1 : us.getD i .non = us[i] := by simp [hi]
  have e2 : its.getD i Value.none = u := by simp [hu]
  refine .cons ?_ (ih fun j hj => h j (List.mem_cons_of_mem _ hj))
  show ZEd (us.getD i .non) (its.getD i Value.none)
  rw [e1, e2]
  exact ru
theorem ZSB {H : Hp} {us : List V} {m : PL} (hP : ZEY H us m) : ∀ (ix : List Nat), (∀ i ∈ ix, i < us.length) → ZEY H (ix.map fun i => us.getD i .non) (ix.map fun i => m.getD i (0, 0)) := by
 intro ix
 induction ix with
 | nil => intro _; exact .nil
 | cons i ix ih =>
  intro h
  have hi := h i (List.mem_cons_self ..)
  obtain ⟨c, p, e, hp, hc⟩ := hP.at (List.getElem?_eq_getElem hi)
  have e1 : us.getD i .non = us[i] := by simp [hi]
  have e2 : m.getD i (0, 0) = p := by simp [hp]
  refine .cons ⟨c, ?_, ?_⟩ (ih fun j hj => h j (List.mem_cons_of_mem _ hj))
  ·show us.getD i .non = _
   rw [e1, e]
  ·show H c = some (.tup [.int (m.getD i (0, 0)).1, .int (m.getD i (0, 0)).2])
   rw [e2]; exact hc
def ZNB (K : W.Frag) : List V → Hp → VK → Prop := fun xs H Q => ∃ (p : Addr) (us : List V) (m : PL), xs = [.ref p] ∧ SqL K H p us ∧ ZEY H us m ∧ m.Nodup ∧ m.length < 64 ∧
 ∀ (l : Addr) (us' : List V) (m' : PL), H l = none → ZEY H us' m' → m'.Perm m → m'.Pairwise (fun p q => ltP p q = true) → Q (.ref l) (upd H l (.lst us'))
theorem ZK6 {X : Cx} (K : W.Frag) (hK : X.K = K) : ZFK X (.builtin "sorted") (ZNB K) := by
 subst hK
 intro pins s σ H xs us Q I r h
 obtain ⟨p, vs, m, rfl, hS, hP, hn, h64, q⟩ := h
 obtain ⟨u, rfl, ru⟩ := r.one
 cases ru
 obtain ⟨its, rv, pl, hz⟩ := I.list hS
 have hlen : vs.length = m.length := hP.length
 have hl2 := rv.length
 refine ZMC (vs := its) pl.isList (fun h' a k ha => ZL0 I k ha hP rv) hn (by omega) fun ix a1 a2 => ?_
 have hix : ∀ i ∈ ix, i < vs.length := fun i hi => by
  have := List.mem_range.mp (a1.mem_iff.mp hi)
  omega
 obtain ⟨e, he⟩ := sortedAll_at s.heap its (ix.map fun i => its.getD i Value.none).toArray
 refine ⟨.ref (s.heap.objs.size + 1), upd H (s.heap.objs.size + 1) (.lst (ix.map fun i => vs.getD i .non)), I.laid (t' := s.toks) (fun b o e => sortedAll_old e) (Nat.le_succ _) ?_, rfl, q _ _ (ix.map fun i => m.getD i (0, 0)) (I.hok.fresh (Nat.le_succ _)) (ZSB hP ix hix) (ZQL (by rw [← hlen, hl2]; exact a1)) a2⟩
 refine ⟨?_, _, e, ZUS rv ix hix, he⟩
 have := a1.length_eq
 rw [List.length_map, this, List.length_range, sizeLine_eq]
 omega
theorem ZK7 {K : W.Frag} {H : Hp} {Q : VK} {p : Addr} {us : List V} {m : PL} (h1 : SqL K H p us) (h2 : ZEY H us m) (h3 : m.Nodup) (h4 : m.length < 64)
  (h : ∀ l us' m' H2, H l = none → H2 l = some (.lst us') → ZEY H2 us' m' → m'.Perm m → m'.Pairwise (fun p q => ltP p q = true) → ZEU H H2 → Q (.ref l) H2) : ZNB K [.ref p] H Q :=
 ⟨p, us, m, rfl, h1, h2, h3, h4, fun l us' m' n hP a1 a2 => h l us' m' _ n ZEa (hP.same (ZEU.new n)) a1 a2 (ZEU.new n)⟩
section
variable {X : Cx} {tg : Expr}
end
section
variable {K : W.Frag} {σ : St} {H : Hp} {D : ZFH}
end
def ZNC : List V → Hp → VK → Prop := fun xs H Q => ∃ i j, xs = [.int i, .int j] ∧ ZIA i j ∧ ∀ p, H p = none → Q (.ref p) (upd H p (.tup [.int (i / j), .int (i % j)]))
theorem ZND {X : Cx} : ZFK X (.builtin "divmod") ZNC := by
 intro pins s σ H xs us Q I r h
 obtain ⟨i, j, rfl, ⟨h1, h2⟩, q⟩ := h
 obtain ⟨u, w', rfl, ⟨t, rfl⟩, ⟨t', rfl⟩⟩ := ZOm r
 refine divmod_int (by omega) ?_ (.inl (PyProof.noPylong_of_log2 h2))
 rw [Int.fdiv_eq_ediv_of_nonneg i (by omega), Int.fmod_eq_emod_of_nonneg i (by omega)]
 have hn : H s.heap.objs.size = none := I.hok.fresh (Nat.le_refl _)
 refine ⟨.ref s.heap.objs.size, _, ?_, rfl, q _ hn⟩
 refine I.laid (fun b o e => Heap.get?_push_of_some _ e) (Nat.le_refl _) ⟨⟨by simp only [List.length_cons, List.length_nil]; rw [sizeLine_eq]; decide, fun z => absurd rfl (z (i / j))⟩, [.int (i / j) s.toks, .int (i % j) (s.toks + 1)], .cons ⟨_, rfl⟩ (.cons ⟨_, rfl⟩ .nil), ?_⟩
 exact ⟨_, Heap.get?_push_size s.heap rfl, rfl, 0, rfl⟩
theorem ZQP {H : Hp} {Q : VK} {i j : Int} (h1 : ZIA i j) (h : ∀ p H2, H p = none → H2 p = some (.tup [.int (i / j), .int (i % j)]) → ZEU H H2 → Q (.ref p) H2) : ZNC [.int i, .int j] H Q :=
 ⟨i, j, rfl, h1, fun p hp => h p _ hp ZEa (ZEU.new hp)⟩
section
variable {X : Cx} {k : Nat} {f : Addr} {fd : FuncData} {ps : List Str} {sp : Sp}
theorem ZJt {pins : List (Addr × Obj)} {σ : St} {H : Hp} {s : Shared} {Q : VK} {us : List Value} {vs : List V} {E1 : Value → Shared → Prop} (F : ZEW X.prog X.w X.K X.mg X.base CX0 k f fd ps sp) (hr : Room k X.A.in1) (hb : ZER X.K fd ps [])
  (I : Inv X pins σ H s) (r : ZEg vs us) (h : sp vs H Q E0) : wpAny (model X.prog X.w) X.A.in1 (call (.ref f) us) (EP X pins σ Q) E1 s := by
 have hl : (us ++ []).length = ps.length := by rw [List.append_nil, ← r.length]; exact F.len _ _ _ _ h
 refine wpAny_call (codeAny_mono (F.run X.A.in1 X.stack s H ⟨us, []⟩ (us ++ []) vs Q E0 hr I.env0.in1 (hb s us I.kIn hl) (by rw [List.append_nil]; exact r) h) fun r s' hq => ?_)
 cases r with
 | error e => exact False.elim hq
 | ok fl =>
  cases fl with
  | ret u => exact I.after hq
  | next => exact False.elim hq
  | brk => exact False.elim hq
  | cont => exact False.elim hq
theorem Inv.pin2 {pins : List (Addr × Obj)} {σ : St} {H : Hp} {s : Shared} {a b : Addr} {oa ob : Obj} (I : Inv X pins σ H s) (fa : ZFs X pins H a) (fb : ZFs X pins H b) (ha : s.heap.get? a = some oa) (hb : s.heap.get? b = some ob) (ca : ∀ v, oa.data ≠ .cell v) (cb : ∀ v, ob.data ≠ .cell v) :
  Inv X ((a, oa) :: (b, ob) :: pins) σ H s := I.pins_of fun p hp => by
 rcases List.mem_cons.mp hp with rfl | hp
 ·exact ⟨ha, fa.1, fa.2.1, fa.2.2.1, ca⟩
 ·rcases List.mem_cons.mp hp with rfl | hp
  ·exact ⟨hb, fb.1, fb.2.1, fb.2.2.1, cb⟩
  ·exact I.pin p (List.mem_append_right _ hp)
theorem Inv.unpin2 {pins : List (Addr × Obj)} {σ : St} {H : Hp} {s : Shared} {a b : Addr} {oa ob : Obj} (I : Inv X ((a, oa) :: (b, ob) :: pins) σ H s) : s.heap.get? a = some oa ∧ s.heap.get? b = some ob ∧ Inv X pins σ H s :=
 ⟨(I.pin (a, oa) (List.mem_append_right _ (.head _))).1, (I.pin (b, ob) (List.mem_append_right _ (.tail _ (.head _)))).1, I.pins_of fun p hp => I.pin p (List.mem_append_right _ (.tail _ (.tail _ hp)))⟩
theorem Inv.turnedAt {pins : List (Addr × Obj)} {σ : St} {H : Hp} {s : Shared} {h' : Heap} {t' : Nat} {it : Addr} (I : Inv X pins σ H s) (fa : ZFs X pins H it) (k : ∀ b o, b ≠ it → s.heap.get? b = some o → h'.get? b = some o) : Inv X pins σ H { s with heap := h', toks := t' } := by
 obtain ⟨f0, f1, f2, f3, f4, f5⟩ := fa
 exact I.turned k f0 f1 f3 f4 f5
theorem ZMD {pins : List (Addr × Obj)} {σ : St} {H : Hp} (hc : X.calm = true) (F : ZEW X.prog X.w X.K X.mg X.base CX0 k f fd ps sp) (hr : Room k X.A.in1) (hb : ZER X.K fd ps []) {l I S : Addr} {us : List V} (kf : Nat → Int) (hSI : S ≠ I) (hS : SqT X.K H l us)
  (fI : ZFs X pins H I) (fS : ZFs X pins H S) (turn : ∀ i v, us[i]? = some v → ∀ Q : VK, Q (.int (kf i)) H → sp [v] H Q E0) {R : Result → Shared → Prop}
  (hR : ∀ i v u s', us[i]? = some v → ZEd v u → (∀ j, j < us.length → kf i ≤ kf j ∧ (j < i → kf i < kf j)) → Inv X pins σ H s' → R (.ok (.ret u)) s') :
  ∀ (r j i : Nat) (s : Shared) (v : V) (vb : Value) (tb : Tok) (c : Nat), us.length - (j + 1) = r → j + 1 ≤ us.length → Inv X pins σ H s → s.heap.get? S = some (seqObj "list" #[vb, .int (kf i) tb] c) → s.heap.IsTupleIter I l (j + 1) →
   us[i]? = some v → ZEd v vb → i ≤ j → (∀ j', j' ≤ j → kf i ≤ kf j' ∧ (j' < i → kf i < kf j')) →
   codeAny (model X.prog X.w) X.A (.builtin "min.loop" ⟨[.ref I, .ref f, .ref S], []⟩) R s := by
 have hname : (toString "min" ++ toString ".loop" : String) = "min.loop" := by decide
 intro r
 induction r with
 | zero =>
  intro j i s v vb tb c hr' hj J nS hit hv rv hij hbest
  have hin : j + 1 = us.length := by omega
  obtain ⟨its, rvs, p, hz⟩ := J.tuple hS
  have hl := rvs.length
  refine codeAny_builtin PySem.F.entry_min_loop ?_
  rw [Around.under_plainId PySem.F.plain_min_loop _]
  show wpAny _ X.A.in1 (seqItems? (.ref S) >>= _) _ _ _
  refine wpAny_bind (wpAny_seqItems nS rfl ?_)
  show wpAny _ X.A.in1 (tryCatch (pyNext (.ref I)) _ >>= _) _ _ _
  refine wpAny_bind (wpAny_tryCatch (wpAny_pyNext_tuple_end (J.ok.hd hc) hit (show s.heap.IsTuple l its.toArray from p) (by simp; omega) fun h' eb => ?_))
  have J1 : Inv X pins σ H { s with heap := h' } := J.turnedAt (t' := s.toks) fI fun b o hb e => eb b o hb e
  have hS' : h'.get? S = some (seqObj "list" #[vb, .int (kf i) tb] c) := eb S _ hSI nS
  show wpAny _ X.A.in1 (updateSeq S (fun _ => #[]) >>= _) _ _ _
  refine wpAny_bind ?_
  refine wpAny_updateSeq hS' rfl (wpAny_bind (wpAny_letGo (wpAny_pure ?_)))
  exact hR i v vb _ hv rv (fun j' hj' => hbest j' (by omega)) (J1.turnedAt (t' := s.toks) fS fun b o hb e => (Heap.get?_update_other _ _ (Ne.symm hb)).trans e)
 | succ r ih =>
  intro j i s v vb tb c hr' hj J nS hit hv rv hij hbest
  have hlt : j + 1 < us.length := by omega
  obtain ⟨its, rvs, p, hz⟩ := J.tuple hS
  have hx : us[j + 1]? = some us[j + 1] := List.getElem?_eq_getElem hlt
  obtain ⟨u, hu, ru⟩ := rvs.get hx
  refine codeAny_builtin PySem.F.entry_min_loop ?_
  rw [Around.under_plainId PySem.F.plain_min_loop _]
  show wpAny _ X.A.in1 (seqItems? (.ref S) >>= _) _ _ _
  refine wpAny_bind (wpAny_seqItems nS rfl ?_)
  show wpAny _ X.A.in1 (tryCatch (pyNext (.ref I)) _ >>= _) _ _ _
  refine wpAny_bind (wpAny_tryCatch (wpAny_pyNext_tuple_item hit (show s.heap.IsTuple l its.toArray from p) (x := u) (by simpa using hu) fun h' st' sb => ?_))
  have J1 : Inv X pins σ H { s with heap := h' } := J.turnedAt (t' := s.toks) fI fun b o hb e => (sb.2 b hb).trans e
  have hS' : h'.get? S = some (seqObj "list" #[vb, .int (kf i) tb] c) := (sb.2 S hSI).trans nS
  obtain ⟨oI, hoI, hoc, hod⟩ := id st'
  have J2 := J1.pin2 (s := { s with heap := h' }) fS fI hS' hoI (fun v z => by cases z) (fun v z => by rw [hod] at z; cases z)
  show wpAny _ X.A.in1 (tryCatch (holding [u] (call (.ref f) [u])) _ >>= _) _ _ _
  refine wpAny_bind (wpAny_tryCatch (wpAny_holding (wpAny_mono (ZJt (E1 := fun _ _ => False) F hr hb J2 (.cons ru .nil) (turn (j + 1) _ hx (fun v H' => v = .int (kf (j + 1)) ∧ H' = H) ⟨rfl, rfl⟩)) (fun x s'' he => ?_) fun _ _ hF => hF.elim)))
  obtain ⟨v2, H2, J3, r2, e2, e3⟩ := he
  subst e2 e3
  obtain ⟨t2, rfl⟩ := r2
  obtain ⟨nS2, nI2, J4⟩ := J3.unpin2
  have hit2 : s''.heap.IsTupleIter I l (j + 1 + 1) := ⟨oI, nI2, hoc, hod⟩
  show wpAny _ X.A.in1 (tryCatch (holding [u, .int (kf (j + 1)) t2] (richCompare .Lt (.int (kf (j + 1)) t2) (.int (kf i) tb) >>= _)) _ >>= _) _ _ _
  refine wpAny_bind (wpAny_tryCatch (wpAny_holding (wpAny_bind (CmpOf.ints_lt (prog := X.prog) (w := X.w) (A := X.A.in1) (P := fun i v => ∃ t, v = .int (kf i) t) kf (fun i v h => h) (j + 1) i _ _ _ _ _ ⟨t2, rfl⟩ ⟨tb, rfl⟩ ?_))))
  refine wpAny_bind (wpAny_holding (wpAny_truthy_bool ?_))
  refine wpAny_bind (wpAny_letGo (wpAny_pure ?_))
  by_cases hb' : kf (j + 1) < kf i
  ·obtain ⟨c2, hc2⟩ : ∃ c2, (s''.heap.update S (Obj.mapSeq fun _ => #[u, .int (kf (j + 1)) t2])).get? S = some (seqObj "list" #[u, .int (kf (j + 1)) t2] c2) := ⟨_, get?_update_seq nS2 fun _ => #[u, .int (kf (j + 1)) t2]⟩
   simp only [hb', decide_true, if_true]
   refine wpAny_bind ?_
   refine wpAny_updateSeq nS2 rfl (wpAny_bind (wpAny_letGo ?_))
   rw [hname]
   refine wpAny_pure ⟨plainId_quiet PySem.F.plain_min_loop _, ih (j + 1) (j + 1) _ _ u t2 c2 (by omega) hlt (J4.turnedAt (t' := s''.toks) fS fun b o hb e => (Heap.get?_update_other _ _ (Ne.symm hb)).trans e) hc2 ⟨oI, (Heap.get?_update_other _ _ hSI).trans nI2, hoc, hod⟩ hx ru (Nat.le_refl _) fun j' hj' => ?_⟩
   by_cases e : j' = j + 1
   ·subst e
    exact ⟨by omega, fun _ => by omega⟩
   ·have hb1 := hbest j' (by omega)
    have hb2 := hb1.1
    exact ⟨by omega, fun _ => by omega⟩
  ·simp only [hb', decide_false, Bool.false_eq_true, if_false]
   refine wpAny_bind (wpAny_letGo ?_)
   rw [hname]
   refine wpAny_pure ⟨plainId_quiet PySem.F.plain_min_loop _, ih (j + 1) i _ v vb tb c (by omega) hlt J4 nS2 hit2 hv rv (by omega) fun j' hj' => ?_⟩
   by_cases e : j' = j + 1
   ·subst e
    exact ⟨by omega, fun _ => by omega⟩
   ·exact hbest j' (by omega)
theorem ZME {pins : List (Addr × Obj)} {σ : St} {H : Hp} {s : Shared} {Q : VK} {E1 : Value → Shared → Prop} (hc : X.calm = true) (F : ZEW X.prog X.w X.K X.mg X.base CX0 k f fd ps sp) (hr : Room k X.A.in1) (hb : ZER X.K fd ps []) {l : Addr} {us : List V} (kf : Nat → Int) (J : Inv X pins σ H s) (hS : SqT X.K H l us) (hne : us ≠ [])
  (turn : ∀ i v, us[i]? = some v → ∀ Q : VK, Q (.int (kf i)) H → sp [v] H Q E0) (hQ : ∀ i v, us[i]? = some v → (∀ j, j < us.length → kf i ≤ kf j ∧ (j < i → kf i < kf j)) → Q v H) :
  wpAny (model X.prog X.w) X.A (call (.builtin "min") [.ref l] [(Str.ofString "key", .ref f)]) (EP X pins σ Q) E1 s := by
 have hname : (toString "min" ++ toString ".loop" : String) = "min.loop" := by decide
 have hpos : 0 < us.length := List.length_pos_iff.mpr hne
 obtain ⟨its, rvs, p, hz⟩ := J.tuple hS
 have hls : s.heap.IsTuple l its.toArray := p
 refine kmk_tree PySem.F.kind_min PySem.F.plain_min PySem.F.entry_min (kmk_min_key _ _) ?_
 show wpAny _ X.A.in1 (Builtin.Builtins.bindParams "min" ["key", "default"] 0 ⟨[], [(Str.ofString "key", .ref f)]⟩ >>= _) _ _ s
 refine wpAny_bind (wpAny_of_eq (show Builtin.Builtins.bindParams "min" ["key", "default"] 0 ⟨[], [(Str.ofString "key", .ref f)]⟩ = pure [some (.ref f), none] from rfl) ?_)
 refine wpAny_bind (wpAny_pure ?_)
 refine wpAny_bind (wpAny_pyIter_tuple hls ?_)
 refine wpAny_bind (wpAny_newList ?_ (Nat.zero_le _))
 rw [hname]
 refine wpAny_pure ⟨plainId_quiet PySem.F.plain_min_loop _, ?_⟩
 generalize hO : ({ cls := .type "tuple_iterator", data := .fields #[.ref l, .int 0 0] } : Obj) = O
 have hSs : (s.heap.push O).objs.size = s.heap.objs.size + 1 := size_push' ..
 have hSI : (s.heap.push O).objs.size ≠ s.heap.objs.size := by rw [hSs]; exact Nat.ne_of_gt (Nat.lt_succ_self _)
 have gI : ((s.heap.push O).push (seqObj "list" #[] 0)).get? s.heap.objs.size = some O := Heap.get?_push_of_some _ (Heap.get?_push_size _ (by rw [← hO]; rfl))
 have gS : ((s.heap.push O).push (seqObj "list" #[] 0)).get? (s.heap.push O).objs.size = some (seqObj "list" #[] 0) := Heap.get?_push_size _ rfl
 have fI : ZFs X pins H s.heap.objs.size := J.fpOk (Nat.le_refl _) (J.hok.fresh (Nat.le_refl _))
 have fS : ZFs X pins H (s.heap.push O).objs.size := J.fpOk (by rw [hSs]; exact Nat.le_succ _) (J.hok.fresh (by rw [hSs]; exact Nat.le_succ _))
 have J0 : Inv X pins σ H { s with heap := (s.heap.push O).push (seqObj "list" #[] 0) } := J.kept (t' := s.toks) fun b o e => Heap.get?_push_of_some _ (Heap.get?_push_of_some _ e)
 obtain ⟨its0, rvs0, p0, hz0⟩ := J0.tuple hS
 have hx : us[0]? = some us[0] := List.getElem?_eq_getElem hpos
 obtain ⟨u, hu, ru⟩ := rvs0.get hx
 refine codeAny_builtin PySem.F.entry_min_loop ?_
 rw [Around.under_plainId PySem.F.plain_min_loop _]
 show wpAny _ X.A.in1 (seqItems? (.ref _) >>= _) _ _ _
 refine wpAny_bind (wpAny_seqItems gS rfl ?_)
 show wpAny _ X.A.in1 (tryCatch (pyNext (.ref s.heap.objs.size)) _ >>= _) _ _ _
 refine wpAny_bind (wpAny_tryCatch (wpAny_pyNext_tuple_item (s := { s with heap := (s.heap.push O).push (seqObj "list" #[] 0) }) (i := 0) ⟨O, gI, by rw [← hO], by rw [← hO]; rfl⟩ (show ((s.heap.push O).push (seqObj "list" #[] 0)).IsTuple l its0.toArray from p0) (x := u) (by simpa using hu) fun h' st' sb => ?_))
 have J1 : Inv X pins σ H { s with heap := h' } := J0.turnedAt (t' := s.toks) fI fun b o hb e => (sb.2 b hb).trans e
 have hS' : h'.get? (s.heap.push O).objs.size = some (seqObj "list" #[] 0) := (sb.2 _ hSI).trans gS
 obtain ⟨oI, hoI, hoc, hod⟩ := id st'
 have J2 := J1.pin2 (s := { s with heap := h' }) fS fI hS' hoI (fun v z => by cases z) (fun v z => by rw [hod] at z; cases z)
 show wpAny _ X.A.in1 (tryCatch (holding [u] (call (.ref f) [u])) _ >>= _) _ _ _
 refine wpAny_bind (wpAny_tryCatch (wpAny_holding (wpAny_mono (ZJt (E1 := fun _ _ => False) F hr hb J2 (.cons ru .nil) (turn 0 _ hx (fun v H' => v = .int (kf 0) ∧ H' = H) ⟨rfl, rfl⟩)) (fun x s'' he => ?_) fun _ _ hF => hF.elim)))
 obtain ⟨v2, H2, J3, r2, e2, e3⟩ := he
 subst e2 e3
 obtain ⟨t2, rfl⟩ := r2
 obtain ⟨nS2, nI2, J4⟩ := J3.unpin2
 obtain ⟨c2, hc2⟩ : ∃ c2, (s''.heap.update (s.heap.push O).objs.size (Obj.mapSeq fun _ => #[u, .int (kf 0) t2])).get? (s.heap.push O).objs.size = some (seqObj "list" #[u, .int (kf 0) t2] c2) := ⟨_, get?_update_seq nS2 fun _ => #[u, .int (kf 0) t2]⟩
 show wpAny _ X.A.in1 (updateSeq (s.heap.push O).objs.size (fun _ => #[u, .int (kf 0) t2]) >>= _) _ _ _
 refine wpAny_bind ?_
 refine wpAny_updateSeq nS2 rfl ?_
 rw [hname]
 refine wpAny_pure ⟨plainId_quiet PySem.F.plain_min_loop _, ZMD hc F hr hb kf hSI hS fI fS turn (fun i v u s' hv rv hbest J' => ⟨v, _, J', rv, hQ i v hv hbest⟩) _ 0 0 _ _ u t2 c2 rfl hpos (J4.turnedAt (t' := s''.toks) fS fun b o hb e => (Heap.get?_update_other _ _ (Ne.symm hb)).trans e) hc2 ⟨oI, (Heap.get?_update_other _ _ hSI).trans nI2, hoc, hod⟩ hx ru (Nat.le_refl _) fun j' hj' => ?_⟩
 have e : j' = 0 := by omega
 subst e
 exact ⟨by omega, fun h => absurd h (Nat.lt_irrefl _)⟩
def ZKO (K : W.Frag) (sp : Sp) (vs : List V) (H : Hp) (Q : VK) : Prop := ∃ (l : Addr) (us : List V) (kf : Nat → Int), vs = [.ref l] ∧ SqT K H l us ∧ us ≠ [] ∧ (∀ i v, us[i]? = some v → ∀ Q : VK, Q (.int (kf i)) H → sp [v] H Q E0) ∧
 ∀ i v, us[i]? = some v → (∀ j, j < us.length → kf i ≤ kf j ∧ (j < i → kf i < kf j)) → Q v H
def ZNE (K : W.Frag) (sp : Sp) (t : TA) : TE := fun σ H Q => t σ H fun vs H1 => ZKO K sp vs H1 Q
theorem ZPD {x : Str} {e : Expr} {t : TA} {p kp kpos pos : Pos} (K : W.Frag) (hK : X.K = K) (hc : X.calm = true) (F : ZEW X.prog X.w X.K X.mg X.base CX0 k f fd ps sp) (hr : Room (k + 1) X.A) (hgm : Gl X "min") (hmm : X.mg "min" = none) (hg : Gl X x) (hm : X.mg x = some (.ref f)) (hb : ZER X.K fd ps []) (ha : QA X [e] t)
  (hs : ZGh e = false := by rfl) (hd : (x == ("__debug__" : Str)) = false := by decide) : QE X (.Call (.Name "min" p) [e] [⟨some "key", .Name x kp, kpos⟩] pos) (ZNE K sp t) := by
 subst hK
 refine ⟨?_⟩
 intro pins s σ H Q I h
 refine wpAny_Call_Name_kw (ZHT I hgm hmm ZJP ?_ (by decide) (by decide))
 have hse := ZGq (e := e) (es := []) (env := X.env) hs
 refine PyProof.Rows.callWith_kw (thn (ha.h pos pins s σ H _ I h) fun us s1 ⟨vs, H1, I1, r1, q1⟩ => PyProof.Rows.kws_cons (ZGb I1 hg hm (PyProof.Rows.kws_nil ?_) hd)) (by rw [hse]; rfl) (by rw [hse]; rfl)
 obtain ⟨l, ws, kf, e1, g1, g2, g3, g4⟩ := q1
 subst e1
 obtain ⟨u, rfl, ru⟩ := r1.one
 cases ru
 exact ZME hc F hr.in1 hb kf I1 g1 g2 g3 g4
theorem ZPE {K : W.Frag} {H : Hp} {Q : VK} {sp : Sp} {l : Addr} {us : List V} (kf : Nat → Int) (h1 : SqT K H l us) (h2 : us ≠ []) (h3 : ∀ i v, us[i]? = some v → ∀ Q : VK, Q (.int (kf i)) H → sp [v] H Q E0)
 (h : ∀ i v, us[i]? = some v → (∀ j, j < us.length → kf i ≤ kf j ∧ (j < i → kf i < kf j)) → Q v H) : ZKO K sp [.ref l] H Q := ⟨l, us, kf, rfl, h1, h2, h3, h⟩
theorem ZNw {K : W.Frag} {sp : Sp} {t : TA} {σ : St} {H : Hp} {Q : VK} (h : t σ H fun vs H1 => ZKO K sp vs H1 Q) : ZNE K sp t σ H Q := h
theorem ZMF {pins : List (Addr × Obj)} {σ : St} {H : Hp} (hc : X.calm = true) (F : ZEW X.prog X.w X.K X.mg X.base CX0 k f fd ps sp) (hr : Room k X.A.in1) (hb : ZER X.K fd ps []) {l I S : Addr} {us : List V} (kf : Nat → Int) (hSI : S ≠ I) (hS : SqT X.K H l us)
  (fI : ZFs X pins H I) (fS : ZFs X pins H S) (turn : ∀ i v, us[i]? = some v → ∀ Q : VK, Q (.int (kf i)) H → sp [v] H Q E0) {R : Result → Shared → Prop}
  (hR : ∀ i v u s', us[i]? = some v → ZEd v u → (∀ j, j < us.length → kf i ≥ kf j ∧ (j < i → kf i > kf j)) → Inv X pins σ H s' → R (.ok (.ret u)) s') :
  ∀ (r j i : Nat) (s : Shared) (v : V) (vb : Value) (tb : Tok) (c : Nat), us.length - (j + 1) = r → j + 1 ≤ us.length → Inv X pins σ H s → s.heap.get? S = some (seqObj "list" #[vb, .int (kf i) tb] c) → s.heap.IsTupleIter I l (j + 1) →
   us[i]? = some v → ZEd v vb → i ≤ j → (∀ j', j' ≤ j → kf i ≥ kf j' ∧ (j' < i → kf i > kf j')) →
   codeAny (model X.prog X.w) X.A (.builtin "max.loop" ⟨[.ref I, .ref f, .ref S], []⟩) R s := by
 have hname : (toString "max" ++ toString ".loop" : String) = "max.loop" := by decide
 intro r
 induction r with
 | zero =>
  intro j i s v vb tb c hr' hj J nS hit hv rv hij hbest
  have hin : j + 1 = us.length := by omega
  obtain ⟨its, rvs, p, hz⟩ := J.tuple hS
  have hl := rvs.length
  refine codeAny_builtin PySem.F.entry_max_loop ?_
  rw [Around.under_plainId PySem.F.plain_max_loop _]
  show wpAny _ X.A.in1 (seqItems? (.ref S) >>= _) _ _ _
  refine wpAny_bind (wpAny_seqItems nS rfl ?_)
  show wpAny _ X.A.in1 (tryCatch (pyNext (.ref I)) _ >>= _) _ _ _
  refine wpAny_bind (wpAny_tryCatch (wpAny_pyNext_tuple_end (J.ok.hd hc) hit (show s.heap.IsTuple l its.toArray from p) (by simp; omega) fun h' eb => ?_))
  have J1 : Inv X pins σ H { s with heap := h' } := J.turnedAt (t' := s.toks) fI fun b o hb e => eb b o hb e
  have hS' : h'.get? S = some (seqObj "list" #[vb, .int (kf i) tb] c) := eb S _ hSI nS
  show wpAny _ X.A.in1 (updateSeq S (fun _ => #[]) >>= _) _ _ _
  refine wpAny_bind ?_
  refine wpAny_updateSeq hS' rfl (wpAny_bind (wpAny_letGo (wpAny_pure ?_)))
  exact hR i v vb _ hv rv (fun j' hj' => hbest j' (by omega)) (J1.turnedAt (t' := s.toks) fS fun b o hb e => (Heap.get?_update_other _ _ (Ne.symm hb)).trans e)
 | succ r ih =>
  intro j i s v vb tb c hr' hj J nS hit hv rv hij hbest
  have hlt : j + 1 < us.length := by omega
  obtain ⟨its, rvs, p, hz⟩ := J.tuple hS
  have hx : us[j + 1]? = some us[j + 1] := List.getElem?_eq_getElem hlt
  obtain ⟨u, hu, ru⟩ := rvs.get hx
  refine codeAny_builtin PySem.F.entry_max_loop ?_
  rw [Around.under_plainId PySem.F.plain_max_loop _]
  show wpAny _ X.A.in1 (seqItems? (.ref S) >>= _) _ _ _
  refine wpAny_bind (wpAny_seqItems nS rfl ?_)
  show wpAny _ X.A.in1 (tryCatch (pyNext (.ref I)) _ >>= _) _ _ _
  refine wpAny_bind (wpAny_tryCatch (wpAny_pyNext_tuple_item hit (show s.heap.IsTuple l its.toArray from p) (x := u) (by simpa using hu) fun h' st' sb => ?_))
  have J1 : Inv X pins σ H { s with heap := h' } := J.turnedAt (t' := s.toks) fI fun b o hb e => (sb.2 b hb).trans e
  have hS' : h'.get? S = some (seqObj "list" #[vb, .int (kf i) tb] c) := (sb.2 S hSI).trans nS
  obtain ⟨oI, hoI, hoc, hod⟩ := id st'
  have J2 := J1.pin2 (s := { s with heap := h' }) fS fI hS' hoI (fun v z => by cases z) (fun v z => by rw [hod] at z; cases z)
  show wpAny _ X.A.in1 (tryCatch (holding [u] (call (.ref f) [u])) _ >>= _) _ _ _
  refine wpAny_bind (wpAny_tryCatch (wpAny_holding (wpAny_mono (ZJt (E1 := fun _ _ => False) F hr hb J2 (.cons ru .nil) (turn (j + 1) _ hx (fun v H' => v = .int (kf (j + 1)) ∧ H' = H) ⟨rfl, rfl⟩)) (fun x s'' he => ?_) fun _ _ hF => hF.elim)))
  obtain ⟨v2, H2, J3, r2, e2, e3⟩ := he
  subst e2 e3
  obtain ⟨t2, rfl⟩ := r2
  obtain ⟨nS2, nI2, J4⟩ := J3.unpin2
  have hit2 : s''.heap.IsTupleIter I l (j + 1 + 1) := ⟨oI, nI2, hoc, hod⟩
  show wpAny _ X.A.in1 (tryCatch (holding [u, .int (kf (j + 1)) t2] (richCompare .Gt (.int (kf (j + 1)) t2) (.int (kf i) tb) >>= _)) _ >>= _) _ _ _
  refine wpAny_bind (wpAny_tryCatch (wpAny_holding (wpAny_bind (CmpOf.ints_gt (prog := X.prog) (w := X.w) (A := X.A.in1) (P := fun i v => ∃ t, v = .int (kf i) t) kf (fun i v h => h) (j + 1) i _ _ _ _ _ ⟨t2, rfl⟩ ⟨tb, rfl⟩ ?_))))
  refine wpAny_bind (wpAny_holding (wpAny_truthy_bool ?_))
  refine wpAny_bind (wpAny_letGo (wpAny_pure ?_))
  by_cases hb' : kf (j + 1) > kf i
  ·obtain ⟨c2, hc2⟩ : ∃ c2, (s''.heap.update S (Obj.mapSeq fun _ => #[u, .int (kf (j + 1)) t2])).get? S = some (seqObj "list" #[u, .int (kf (j + 1)) t2] c2) := ⟨_, get?_update_seq nS2 fun _ => #[u, .int (kf (j + 1)) t2]⟩
   simp only [hb', decide_true, if_true]
   refine wpAny_bind ?_
   refine wpAny_updateSeq nS2 rfl (wpAny_bind (wpAny_letGo ?_))
   rw [hname]
   refine wpAny_pure ⟨plainId_quiet PySem.F.plain_max_loop _, ih (j + 1) (j + 1) _ _ u t2 c2 (by omega) hlt (J4.turnedAt (t' := s''.toks) fS fun b o hb e => (Heap.get?_update_other _ _ (Ne.symm hb)).trans e) hc2 ⟨oI, (Heap.get?_update_other _ _ hSI).trans nI2, hoc, hod⟩ hx ru (Nat.le_refl _) fun j' hj' => ?_⟩
   by_cases e : j' = j + 1
   ·subst e
    exact ⟨by omega, fun _ => by omega⟩
   ·have hb1 := hbest j' (by omega)
    have hb2 := hb1.1
    exact ⟨by omega, fun _ => by omega⟩
  ·simp only [hb', decide_false, Bool.false_eq_true, if_false]
   refine wpAny_bind (wpAny_letGo ?_)
   rw [hname]
   refine wpAny_pure ⟨plainId_quiet PySem.F.plain_max_loop _, ih (j + 1) i _ v vb tb c (by omega) hlt J4 nS2 hit2 hv rv (by omega) fun j' hj' => ?_⟩
   by_cases e : j' = j + 1
   ·subst e
    exact ⟨by omega, fun _ => by omega⟩
   ·exact hbest j' (by omega)
theorem ZMG {pins : List (Addr × Obj)} {σ : St} {H : Hp} {s : Shared} {Q : VK} {E1 : Value → Shared → Prop} (hc : X.calm = true) (F : ZEW X.prog X.w X.K X.mg X.base CX0 k f fd ps sp) (hr : Room k X.A.in1) (hb : ZER X.K fd ps []) {l : Addr} {us : List V} (kf : Nat → Int) (J : Inv X pins σ H s) (hS : SqT X.K H l us) (hne : us ≠ [])
  (turn : ∀ i v, us[i]? = some v → ∀ Q : VK, Q (.int (kf i)) H → sp [v] H Q E0) (hQ : ∀ i v, us[i]? = some v → (∀ j, j < us.length → kf i ≥ kf j ∧ (j < i → kf i > kf j)) → Q v H) :
  wpAny (model X.prog X.w) X.A (call (.builtin "max") [.ref l] [(Str.ofString "key", .ref f)]) (EP X pins σ Q) E1 s := by
 have hname : (toString "max" ++ toString ".loop" : String) = "max.loop" := by decide
 have hpos : 0 < us.length := List.length_pos_iff.mpr hne
 obtain ⟨its, rvs, p, hz⟩ := J.tuple hS
 have hls : s.heap.IsTuple l its.toArray := p
 refine kmk_tree PySem.F.kind_max PySem.F.plain_max PySem.F.entry_max (kmk_max_key _ _) ?_
 show wpAny _ X.A.in1 (Builtin.Builtins.bindParams "max" ["key", "default"] 0 ⟨[], [(Str.ofString "key", .ref f)]⟩ >>= _) _ _ s
 refine wpAny_bind (wpAny_of_eq (show Builtin.Builtins.bindParams "max" ["key", "default"] 0 ⟨[], [(Str.ofString "key", .ref f)]⟩ = pure [some (.ref f), none] from rfl) ?_)
 refine wpAny_bind (wpAny_pure ?_)
 refine wpAny_bind (wpAny_pyIter_tuple hls ?_)
 refine wpAny_bind (wpAny_newList ?_ (Nat.zero_le _))
 rw [hname]
 refine wpAny_pure ⟨plainId_quiet PySem.F.plain_max_loop _, ?_⟩
 generalize hO : ({ cls := .type "tuple_iterator", data := .fields #[.ref l, .int 0 0] } : Obj) = O
 have hSs : (s.heap.push O).objs.size = s.heap.objs.size + 1 := size_push' ..
 have hSI : (s.heap.push O).objs.size ≠ s.heap.objs.size := by rw [hSs]; exact Nat.ne_of_gt (Nat.lt_succ_self _)
 have gI : ((s.heap.push O).push (seqObj "list" #[] 0)).get? s.heap.objs.size = some O := Heap.get?_push_of_some _ (Heap.get?_push_size _ (by rw [← hO]; rfl))
 have gS : ((s.heap.push O).push (seqObj "list" #[] 0)).get? (s.heap.push O).objs.size = some (seqObj "list" #[] 0) := Heap.get?_push_size _ rfl
 have fI : ZFs X pins H s.heap.objs.size := J.fpOk (Nat.le_refl _) (J.hok.fresh (Nat.le_refl _))
 have fS : ZFs X pins H (s.heap.push O).objs.size := J.fpOk (by rw [hSs]; exact Nat.le_succ _) (J.hok.fresh (by rw [hSs]; exact Nat.le_succ _))
 have J0 : Inv X pins σ H { s with heap := (s.heap.push O).push (seqObj "list" #[] 0) } := J.kept (t' := s.toks) fun b o e => Heap.get?_push_of_some _ (Heap.get?_push_of_some _ e)
 obtain ⟨its0, rvs0, p0, hz0⟩ := J0.tuple hS
 have hx : us[0]? = some us[0] := List.getElem?_eq_getElem hpos
 obtain ⟨u, hu, ru⟩ := rvs0.get hx
 refine codeAny_builtin PySem.F.entry_max_loop ?_
 rw [Around.under_plainId PySem.F.plain_max_loop _]
 show wpAny _ X.A.in1 (seqItems? (.ref _) >>= _) _ _ _
 refine wpAny_bind (wpAny_seqItems gS rfl ?_)
 show wpAny _ X.A.in1 (tryCatch (pyNext (.ref s.heap.objs.size)) _ >>= _) _ _ _
 refine wpAny_bind (wpAny_tryCatch (wpAny_pyNext_tuple_item (s := { s with heap := (s.heap.push O).push (seqObj "list" #[] 0) }) (i := 0) ⟨O, gI, by rw [← hO], by rw [← hO]; rfl⟩ (show ((s.heap.push O).push (seqObj "list" #[] 0)).IsTuple l its0.toArray from p0) (x := u) (by simpa using hu) fun h' st' sb => ?_))
 have J1 : Inv X pins σ H { s with heap := h' } := J0.turnedAt (t' := s.toks) fI fun b o hb e => (sb.2 b hb).trans e
 have hS' : h'.get? (s.heap.push O).objs.size = some (seqObj "list" #[] 0) := (sb.2 _ hSI).trans gS
 obtain ⟨oI, hoI, hoc, hod⟩ := id st'
 have J2 := J1.pin2 (s := { s with heap := h' }) fS fI hS' hoI (fun v z => by cases z) (fun v z => by rw [hod] at z; cases z)
 show wpAny _ X.A.in1 (tryCatch (holding [u] (call (.ref f) [u])) _ >>= _) _ _ _
 refine wpAny_bind (wpAny_tryCatch (wpAny_holding (wpAny_mono (ZJt (E1 := fun _ _ => False) F hr hb J2 (.cons ru .nil) (turn 0 _ hx (fun v H' => v = .int (kf 0) ∧ H' = H) ⟨rfl, rfl⟩)) (fun x s'' he => ?_) fun _ _ hF => hF.elim)))
 obtain ⟨v2, H2, J3, r2, e2, e3⟩ := he
 subst e2 e3
 obtain ⟨t2, rfl⟩ := r2
 obtain ⟨nS2, nI2, J4⟩ := J3.unpin2
 obtain ⟨c2, hc2⟩ : ∃ c2, (s''.heap.update (s.heap.push O).objs.size (Obj.mapSeq fun _ => #[u, .int (kf 0) t2])).get? (s.heap.push O).objs.size = some (seqObj "list" #[u, .int (kf 0) t2] c2) := ⟨_, get?_update_seq nS2 fun _ => #[u, .int (kf 0) t2]⟩
 show wpAny _ X.A.in1 (updateSeq (s.heap.push O).objs.size (fun _ => #[u, .int (kf 0) t2]) >>= _) _ _ _
 refine wpAny_bind ?_
 refine wpAny_updateSeq nS2 rfl ?_
 rw [hname]
 refine wpAny_pure ⟨plainId_quiet PySem.F.plain_max_loop _, ZMF hc F hr hb kf hSI hS fI fS turn (fun i v u s' hv rv hbest J' => ⟨v, _, J', rv, hQ i v hv hbest⟩) _ 0 0 _ _ u t2 c2 rfl hpos (J4.turnedAt (t' := s''.toks) fS fun b o hb e => (Heap.get?_update_other _ _ (Ne.symm hb)).trans e) hc2 ⟨oI, (Heap.get?_update_other _ _ hSI).trans nI2, hoc, hod⟩ hx ru (Nat.le_refl _) fun j' hj' => ?_⟩
 have e : j' = 0 := by omega
 subst e
 exact ⟨by omega, fun h => absurd h (Nat.lt_irrefl _)⟩
def ZKP (K : W.Frag) (sp : Sp) (vs : List V) (H : Hp) (Q : VK) : Prop := ∃ (l : Addr) (us : List V) (kf : Nat → Int), vs = [.ref l] ∧ SqT K H l us ∧ us ≠ [] ∧ (∀ i v, us[i]? = some v → ∀ Q : VK, Q (.int (kf i)) H → sp [v] H Q E0) ∧
 ∀ i v, us[i]? = some v → (∀ j, j < us.length → kf i ≥ kf j ∧ (j < i → kf i > kf j)) → Q v H
def ZNF (K : W.Frag) (sp : Sp) (t : TA) : TE := fun σ H Q => t σ H fun vs H1 => ZKP K sp vs H1 Q
theorem ZPF {x : Str} {e : Expr} {t : TA} {p kp kpos pos : Pos} (K : W.Frag) (hK : X.K = K) (hc : X.calm = true) (F : ZEW X.prog X.w X.K X.mg X.base CX0 k f fd ps sp) (hr : Room (k + 1) X.A) (hgm : Gl X "max") (hmm : X.mg "max" = none) (hg : Gl X x) (hm : X.mg x = some (.ref f)) (hb : ZER X.K fd ps []) (ha : QA X [e] t)
  (hs : ZGh e = false := by rfl) (hd : (x == ("__debug__" : Str)) = false := by decide) : QE X (.Call (.Name "max" p) [e] [⟨some "key", .Name x kp, kpos⟩] pos) (ZNF K sp t) := by
 subst hK
 refine ⟨?_⟩
 intro pins s σ H Q I h
 refine wpAny_Call_Name_kw (ZHT I hgm hmm ZKy ?_ (by decide) (by decide))
 have hse := ZGq (e := e) (es := []) (env := X.env) hs
 refine PyProof.Rows.callWith_kw (thn (ha.h pos pins s σ H _ I h) fun us s1 ⟨vs, H1, I1, r1, q1⟩ => PyProof.Rows.kws_cons (ZGb I1 hg hm (PyProof.Rows.kws_nil ?_) hd)) (by rw [hse]; rfl) (by rw [hse]; rfl)
 obtain ⟨l, ws, kf, e1, g1, g2, g3, g4⟩ := q1
 subst e1
 obtain ⟨u, rfl, ru⟩ := r1.one
 cases ru
 exact ZMG hc F hr.in1 hb kf I1 g1 g2 g3 g4
theorem ZPG {K : W.Frag} {H : Hp} {Q : VK} {sp : Sp} {l : Addr} {us : List V} (kf : Nat → Int) (h1 : SqT K H l us) (h2 : us ≠ []) (h3 : ∀ i v, us[i]? = some v → ∀ Q : VK, Q (.int (kf i)) H → sp [v] H Q E0)
 (h : ∀ i v, us[i]? = some v → (∀ j, j < us.length → kf i ≥ kf j ∧ (j < i → kf i > kf j)) → Q v H) : ZKP K sp [.ref l] H Q := ⟨l, us, kf, rfl, h1, h2, h3, h⟩
theorem ZNx {K : W.Frag} {sp : Sp} {t : TA} {σ : St} {H : Hp} {Q : VK} (h : t σ H fun vs H1 => ZKP K sp vs H1 Q) : ZNF K sp t σ H Q := h
end
section
variable {X : Cx}
end
section
variable {prog : Program} {w : World} {A : Around} {E : Value → Shared → Prop}
end
section
variable {X : Cx}
end
section
variable {X : Cx} {o e value : Expr} {f m : Str} {pos pos' tpos apos : Pos} {ta tv : TE} {t : TA}
def ZWT (K : W.Frag) (f : Str) (x : V) (H : Hp) (Q : VK) : Prop := ∃ a C dx fs v, x = .ref a ∧ H a = some (.ins C dx fs) ∧ Cls K C ∧ ZFB K C f ∧ fs.lookup f = some v ∧ Q v H
def ZTK (K : W.Frag) (f : Str) (y x : V) (H : Hp) (R : Hp → Prop) : Prop := ∃ a C dx fs, x = .ref a ∧ H a = some (.ins C dx fs) ∧ Cls K C ∧ ZFB K C f ∧ fs.length < 1000 ∧ R (upd H a (.ins C dx (ZEr f y fs)))
theorem ZE1 (K : W.Frag) (hK : X.K = K) (he : QE X e ta) (hb : attributeBase e f X.env (eval e X.env) = eval e X.env := by rfl) : QE X (.Attribute e f pos) (ZRX K ta f) := by
 subst hK
 exact ⟨ZVd he.h hb⟩
theorem ZFy (K : W.Frag) (hK : X.K = K) (ho : QE X o ta) (hv : QE X value tv) (hs : ZGQ value = false := by rfl) : QS X (.Assign [.Attribute o f pos'] value pos) (ZRY K ta tv f) := by
 subst hK
 exact ⟨ZVe ho.h hv.h (ZHA hs)⟩
theorem ZL1 (K : W.Frag) (hK : X.K = K) (ho : QE X o ta) (hv : QE X value tv) : QS X (.AugAssign (.Attribute o f tpos) .Add value pos) (ZLR K ta tv ZMg f) := by
 subst hK
 exact ⟨ZPq ho.h hv.h ZVf⟩
section
variable {CX : CXT} {k : Nat} {fa C : Addr} {fd : FuncData} {ps : List Str} {sp : Sp} {dvs : List V} {ds : List Value} {E : XK} {es : List Expr} {x : Str} {p : Pos}
theorem ZFO {pl : Sem Bool} (he : QE X o ta) (c : Cls X.K C) (hm : ZFX X.K C m fa) (F : ZEW X.prog X.w X.K X.mg X.base CX k fa fd ps sp) (hr : Room k X.A) (hb : ZER X.K fd ps ds) (hd : ZEg dvs ds) (hx : ZF7 CX X E) (ha : QA X (e :: es) t) (hns : ZFC (e :: es) = true := by rfl)
 (ht : eval (.Call (.Attribute o m apos) (e :: es) [] pos) X.env = (do
  let ov ← eval o X.env
  standAt apos.atName
  let (f, first) ← holding [ov] (getMethod ov m pl)
  callWith pos f first (backTo pos (starEach (e :: es) X.env)) (backToKw pos (keywordEach [] X.env))) := by rfl) :
 QE X (.Call (.Attribute o m apos) (e :: es) [] pos) (ZKt C m sp dvs E ta t) := ⟨ZTn he.h c hm F hr hb hd hx ha.h (ZGP hns) (ZF4 (ZF1 hns)) ht⟩
theorem ZFp {pl : Sem Bool} (he : QE X o ta) (c : Cls X.K C) (hm : ZFX X.K C m fa) (F : ZEW X.prog X.w X.K X.mg X.base CX k fa fd ps sp) (hr : Room k X.A) (hb : ZER X.K fd ps ds) (hd : ZEg dvs ds) (hx : ZF7 CX X E)
 (ht : eval (.Call (.Attribute o m apos) [] [] pos) X.env = (do
  let ov ← eval o X.env
  standAt apos.atName
  let (f, first) ← holding [ov] (getMethod ov m pl)
  callWith pos f first (backTo pos (starEach [] X.env)) (backToKw pos (keywordEach [] X.env))) := by rfl) :
 QE X (.Call (.Attribute o m apos) [] [] pos) (ZKt C m sp dvs E ta ZMh) := ⟨ZRb he.h c hm F hr hb hd hx ht⟩
theorem ZLY (M : Mk X.K C fa) (F : ZEW X.prog X.w X.K X.mg X.base CX k fa fd ps sp) (hr : Room (k + 1) X.A) (hg : Gl X x) (hm : X.mg x = some (.ref C)) (hb : ZER X.K fd ps ds) (hd : ZEg dvs ds) (hx : ZF7 CX X E) (ha : QA X (e :: es) t)
 (hns : ZFC (e :: es) = true := by rfl) (hdb : (x == ("__debug__" : Str)) = false := by decide) : QE X (.Call (.Name x p) (e :: es) [] pos) (ZOp C sp dvs E t) := ⟨ZTo M F hr hg hm hb hd hx ha.h hdb (ZGP hns) (ZF4 (ZF1 hns))⟩
end
end
section
variable {K : W.Frag} {σ : St} {H : Hp} {Q : VK} {D : ZFH} {f m : Str} {ta tv : TE} {t : TA} {C : Addr} {sp : Sp} {dvs : List V} {E : XK}
theorem ZUT (h : ta σ H fun x H1 => ZWT K f x H1 Q) : ZRX K ta f σ H Q := h
theorem ZEz {a dx : Addr} {fs : List (Str × V)} {v : V} (h1 : H a = some (.ins C dx fs)) (c : Cls K C) (n : ZFB K C f) (l : fs.lookup f = some v) (q : Q v H) : ZWT K f (.ref a) H Q := ⟨a, C, dx, fs, v, rfl, h1, c, n, l, q⟩
theorem ZSC (h : tv σ H fun y H1 => ta σ H1 fun x H2 => ZTK K f y x H2 (D.nx σ)) : ZRY K ta tv f D σ H := h
theorem ZFj {a dx : Addr} {fs : List (Str × V)} {y : V} {R : Hp → Prop} (h1 : H a = some (.ins C dx fs)) (c : Cls K C) (n : ZFB K C f) (l : fs.length < 1000) (q : ∀ H2, H2 a = some (.ins C dx (ZEr f y fs)) → Kp a H H2 → R H2) : ZTK K f y (.ref a) H R := ⟨a, C, dx, fs, rfl, h1, c, n, l, q _ ZEa Kp.upd⟩
def ZOV (K : W.Frag) (f : Str) (tv : TE) (σ : St) (R : Hp → Prop) (x : V) (H : Hp) : Prop := ∃ a C dx fs v, x = .ref a ∧ H a = some (.ins C dx fs) ∧ Cls K C ∧ ZFB K C f ∧ fs.lookup f = some v ∧
 tv σ H fun y H2 => ZMg v y H2 fun z H3 => ∃ dx' fs', H3 a = some (.ins C dx' fs') ∧ fs'.length < 1000 ∧ R (upd H3 a (.ins C dx' (ZEr f z fs')))
theorem ZPH (h : ta σ H fun x H1 => ZOV K f tv σ (D.nx σ) x H1) : ZLR K ta tv ZMg f D σ H := h
def ZQQ (C : Addr) (m : Str) (x : V) (H : Hp) (R : Prop) : Prop := ∃ a dx fs, x = .ref a ∧ H a = some (.ins C dx fs) ∧ fs.lookup m = none ∧ R
theorem ZSD (h : ta σ H fun x H1 => ZQQ C m x H1 (t σ H1 fun vs H2 => sp (x :: (vs ++ dvs)) H2 Q E)) : ZKt C m sp dvs E ta t σ H Q := h
theorem ZEt {a dx : Addr} {fs : List (Str × V)} {R : Prop} (h1 : H a = some (.ins C dx fs)) (l : fs.lookup m = none) (q : R) : ZQQ C m (.ref a) H R := ⟨a, dx, fs, rfl, h1, l, q⟩
def ZK8 (C : Addr) (sp : Sp) (dvs : List V) (E : XK) (vs : List V) (H : Hp) (Q : VK) : Prop := ∀ x dx, H x = none → H dx = none → dx ≠ x → sp (.ref x :: (vs ++ dvs)) (upd (upd H dx (.own x)) x (.ins C dx [])) (fun v H2 => v = .non ∧ Q (.ref x) H2) E
theorem ZSE (h : t σ H fun vs H1 => ZK8 C sp dvs E vs H1 Q) : ZOp C sp dvs E t σ H Q := h
theorem ZJu {vs : List V} (h : ∀ x dx H2, H x = none → H2 x = some (.ins C dx []) → ZEU H H2 → sp (.ref x :: (vs ++ dvs)) H2 (fun v H3 => v = .non ∧ Q (.ref x) H3) E) : ZK8 C sp dvs E vs H Q := fun x dx hx hdx hne =>
 h x dx _ hx ZEa fun b o e => by rw [ZEf (ZEh e hx), ZEf (ZEh e hdx)]; exact e
end
structure ZNG (K : W.Frag) (x qual : Str) (st : Stmt) (f : Addr) (fd : FuncData) : Prop where
 ex : ∃ (oc : Value) (od : Option Addr) (dV kV doc pm : Value) (an : Option Addr) (cdv ct : Value) (osl : Array (Option Value)),
  fd = W.fnOf x qual (ZFa st) (ZFJ st) (ZEP st) dV kV doc pm an cdv ct ∧ K.lookup f = some ⟨oc, od, .func fd, osl⟩ ∧ W.codeIn K cdv qual = true
 kp : W.keepIn K (.ref f) = true
theorem ZNG.ok {P : Program} {w : World} {K : W.Frag} {mg : Str → Option Value} {base : Heap} {x qual : Str} {st : Stmt} {f : Addr} {fd : FuncData} {N ps : List Str} {k : Nat} {sp : Sp} (F : ZNG K x qual st f fd) (S : ZEV N ps (ZEP st)) (len : ∀ vs H Q E, sp vs H Q E → vs.length = ps.length)
  (hbody : ∀ (cdv : Value) (A : Around) (outer : List Env) (s : Shared) (H : Hp) (vs : List V) (Q : VK) (E : XK), Room k (A.deeper (envOfC qual (ZEP st) s.heap.objs.size f cdv)) → sp vs H Q E →
   ∃ t, PSs (ZJO CX0 P w K mg base N qual (ZEP st) f cdv A outer s H E).nox (ZFJ st) t ∧ t { nx := fun _ H' => Q .non H', rt := Q } (start N vs) H) : ZEW P w K mg base CX0 (k + 1) f fd ps sp := by
 obtain ⟨oc, od, dV, kV, doc, pm, an, cdv, ct, osl, rfl, lk, hcd⟩ := F.ex
 refine ZOq lk hcd S len fun A outer s H vs Q E hr hsp => ?_
 obtain ⟨t, h, q⟩ := hbody cdv A outer s H vs Q E hr hsp
 exact ⟨t, h.nox, q⟩
section
variable {K : W.Frag} {σ : St} {H : Hp} {Q : VK} {f : Str} {tv td ty : TE} {C : Addr}
theorem ZK9 {a dx : Addr} {fs : List (Str × V)} {v : V} {R : Hp → Prop} (h1 : H a = some (.ins C dx fs)) (c : Cls K C) (n : ZFB K C f) (l : fs.lookup f = some v)
 (q : tv σ H fun y H2 => ZMg v y H2 fun z H3 => ∃ dx' fs', H3 a = some (.ins C dx' fs') ∧ fs'.length < 1000 ∧ R (upd H3 a (.ins C dx' (ZEr f z fs')))) : ZOV K f tv σ R (.ref a) H := ⟨a, C, dx, fs, v, rfl, h1, c, n, l, q⟩
def ZNH (a : Addr) (y : V) (H : Hp) (Q : VK) : Prop := ∃ o, ZFx H a y o ∧ Q (o.getD .non) H
def ZQR (ty : TE) (σ : St) (Q : VK) (x : V) (H : Hp) : Prop := ∃ a, x = .ref a ∧ IsD H a ∧ ty σ H fun y H2 => ZNH a y H2 Q
theorem ZQS (h : td σ H fun x H1 => ZQR ty σ Q x H1) : ZM1 td ty σ H Q := h
theorem ZJV {a : Addr} {kvs : List (List Key × V)} (h1 : H a = some (.dT kvs)) (q : ty σ H fun y H2 => ZNH a y H2 Q) : ZQR ty σ Q (.ref a) H := ⟨a, rfl, .inr ⟨kvs, .inl h1⟩, q⟩
theorem ZKQ {a b : Addr} {kvs : List (List Key × V)} {k : List Key} (h1 : H a = some (.dT kvs)) (hb : H b = some (.tup (k.map kV))) (q : Q ((ZEp kvs k).getD .non) H) : ZNH a (.ref b) H Q := ⟨_, ZFx.t h1 hb, q⟩
theorem ZHu {a b : Addr} {kvs : List (List Key × V)} {k : List Key} {v : V} {R : Hp → Prop} (h1 : H a = some (.dT kvs)) (hb : H b = some (.tup (k.map kV))) (hz : kvs.length < sizeLine) (h : ∀ H2, H2 a = some (.dT (ZFo kvs k v)) → Kp a H H2 → R H2) : ZO8 v (.ref a) (.ref b) H R :=
 ⟨a, _, rfl, ZIv.t h1 hb hz, h _ ZEa Kp.upd⟩
end
section
variable {X : Cx} {o e : Expr} {apos cpos pos p : Pos} {td ty to : TE}
theorem ZKR (hu : X.A.units + 1 < cLine) (ho : QE X o td) (he : QE X e ty) (m : M1 X o "get" apos e cpos := by exact ⟨rfl, rfl, rfl, rfl⟩) : QE X (.Call (.Attribute o "get" apos) [e] [] cpos) (ZM1 td ty) := ⟨ZR4 hu ho.h he.h m⟩
theorem ZKS : QE X (.Dict [] [] pos) ZM0 := ⟨ZR3⟩
def ZQT (H : Hp) (Q : VK) : Prop := ∀ p, H p = none → Q (.ref p) (upd H p (.dT []))
theorem ZQU {σ : St} {H : Hp} {Q : VK} (h : ZQT H Q) : ZM0 σ H Q := h
theorem ZKT {H : Hp} {Q : VK} (h : ∀ p H2, H p = none → H2 p = some (.dT []) → ZEU H H2 → Q (.ref p) H2) : ZQT H Q := fun p hp => h p _ hp ZEa (ZEU.new hp)
end
theorem ZOW {K : W.Frag} {x qual : Str} {st : Stmt} {f : Addr} {oc : Value} {od an : Option Addr} {osl : Array (Option Value)} {dV kV doc pm cdv ct : Value} (l : K.lookup f = some ⟨oc, od, .func (W.fnOf x qual (ZFa st) (ZFJ st) (ZEP st) dV kV doc pm an cdv ct), osl⟩)
 (c : W.codeIn K cdv qual = true) (k : W.keepIn K (.ref f) = true) : ZNG K x qual st f (W.fnOf x qual (ZFa st) (ZFJ st) (ZEP st) dV kV doc pm an cdv ct) := ⟨⟨oc, od, dV, kV, doc, pm, an, cdv, ct, osl, rfl, l, c⟩, k⟩
def ZOX (K : W.Frag) (fd : FuncData) (ps : List Str) (x : Str) : Prop := ∀ (s : Shared) (u v : Value), K.In s.heap → BindsTo s fd ⟨[u], [(x, v)]⟩ (ps.zip [u, v])
section
variable {X : Cx} {k : Nat} {f C : Addr} {fd : FuncData} {ps : List Str} {sp : Sp} {x kw : Str} {p pos kpos : Pos} {e : Expr} {te : TE} {E : XK} {CX : CXT}
end
theorem ZE3.there {P : Program} {w : World} {H : Hp} {h : Heap} {a : Addr} {o : HO} (x : ZE3 P w H h a o) : ∃ ob, h.get? a = some ob := by
 cases o with
 | lst xs => obtain ⟨_, _, _, _, e⟩ := x; exact ⟨_, e⟩
 | tup xs => obtain ⟨_, _, _, p⟩ := x; obtain ⟨o, e, _⟩ := p; exact ⟨_, e⟩
 | dK kvs => obtain ⟨_, _, _, _, o, _, _, e, _⟩ := x; exact ⟨_, e⟩
 | dT kvs => obtain ⟨_, _, _, _, o, _, _, e, _⟩ := x; exact ⟨_, e⟩
 | set S n => obtain ⟨o, _, _, _, e, _⟩ := x; exact ⟨_, e⟩
 | ins C dx fs => obtain ⟨_, _, _, e, _⟩ := x; exact ⟨_, e⟩
 | own y => exact x
 | xd fs => obtain ⟨_, ⟨_, _, _, e, _⟩, _⟩ := x; exact ⟨_, e⟩
 | rng lo hi => obtain ⟨_, _, _, e⟩ := x; exact ⟨_, e⟩
 | frz ob u => obtain ⟨e, _⟩ := x; exact ⟨_, e⟩
 | tbl ps => exact ⟨_, (show h.get? a = some _ from x)⟩
 | met f y => exact ⟨_, (show h.get? a = some _ from x)⟩
 | ext φ => obtain ⟨_, e, _⟩ := x; exact e
def Cov (B : Heap) (H' : Hp) (h0 h' : Heap) (fs : List Addr) : Prop := ∀ b o, h'.get? b = some o → b ∉ fs → ((∃ u, H' b = some u) ∨ ∃ o0, h0.get? b = some o0) → B.get? b = some o
def CX1 (P : Program) (w : World) : CXT := fun l H s E ev s' => ∃ (e : Addr) (C a0 : Value) (B : Heap) (H' : Hp), ev = .ref e ∧ s'.os = s.os ∧ AllBare s'.gens ∧ Un (frs l) [] H H' s.heap s'.heap ∧ HOk P w H' s'.heap ∧
 s.heap.get? e = none ∧ H' e = none ∧ Heap.FlyingW B l e C a0 s'.heap ∧ Cov B H' s.heap s'.heap (frs l) ∧ E C none H'
section
variable {P : Program} {w : World} {H H' : Hp} {h0 h' h'' B : Heap} {fs : List Addr}
theorem ZIy (hok : HOk P w H' h') (un : Un fs [] H H' h0 h') (cov : Cov B H' h0 h' fs) (st : B.StaysIn h'') (up : h'.UpToSlots h'') (fr : ∀ b ∈ fs, H' b = none ∧ ∃ o, h'.get? b = some o ∧ ∀ vs, o.data ≠ .fields vs) :
  HOk P w H' h'' ∧ Un fs [] H H' h0 h'' ∧ Cov B H' h0 h'' fs := by
 have trk : ∀ b u, H' b = some u → b ∉ fs := fun b u e hb => by rw [(fr b hb).1] at e; cases e
 have old : ∀ b o0, h0.get? b = some o0 → ∃ o', h''.get? b = some o' := fun b o0 e => by
  obtain ⟨o', e'⟩ := un.there b o0 e (by simp)
  by_cases hb : b ∈ fs
  ·obtain ⟨_, o, ho, hd⟩ := fr b hb
   obtain ⟨sl, q⟩ := up b o ho hd
   exact ⟨_, q⟩
  ·exact ⟨o', st _ _ (cov b o' e' hb (.inr ⟨o0, e⟩))⟩
 refine ⟨fun b u e => (hok b u e).stay (fun c v hc q => ?_) (fun _ q => q) fun _ _ q => q, ⟨fun b o e n hb hx => ?_, fun b o e n hb hx => ?_, un.free, fun b o e _ => old b o e, un.tups, un.frzs, un.tbls⟩, fun b o e hb ht => ?_⟩
 ·have hc' : ∃ u, H' c = some u := by
   rcases hc with rfl | hc
   ·exact ⟨_, e⟩
   ·exact ⟨_, hc⟩
  obtain ⟨u', hu'⟩ := hc'
  exact st _ _ (cov c v q (trk c u' hu') (.inl ⟨u', hu'⟩))
 ·exact st _ _ (cov b o (un.keep b o e n hb hx) hb (.inr ⟨o, e⟩))
 ·obtain ⟨sl, q⟩ := un.slot b o e n hb hx
  obtain ⟨_, o2, ho2, hd⟩ := fr b hb
  rw [q] at ho2
  cases ho2
  obtain ⟨sl2, q2⟩ := up b _ q hd
  exact ⟨sl2, q2⟩
 ·have : ∃ o1, h'.get? b = some o1 := by
   rcases ht with ⟨u, hu⟩ | ⟨o0, ho0⟩
   ·exact (hok b u hu).there
   ·exact un.there b o0 ho0 (by simp)
  obtain ⟨o1, h1⟩ := this
  have hB := cov b o1 h1 hb ht
  have := st _ _ hB
  rw [e] at this
  cases this
  exact hB
end
section
variable {P : Program} {w : World} {K : W.Frag} {mg : Str → Option Value} {base : Heap} {N : List Str} {qual : Str} {scope : Scope} {f : Addr} {cd : Value} {A : Around} {outer : List Env} {s : Shared} {H : Hp} {E : XK}
abbrev cxE (P : Program) (w : World) (K : W.Frag) (mg : Str → Option Value) (base : Heap) (N : List Str) (qual : Str) (scope : Scope) (f : Addr) (cd : Value) (A : Around) (outer : List Env) (s : Shared) (H : Hp) (E : XK) : Cx := ZJO (CX1 P w) P w K mg base N qual scope f cd A outer s H E
theorem ZKU {env : Env} {l : List Env} {L : Addr} (h : env.frame = some L) : frs (env :: l) = L :: frs l := by
 unfold frs
 rw [List.filterMap_cons, h]
theorem ZJv {X : Cx} {pins : List (Addr × Obj)} {σ : St} {H1 : Hp} {s1 : Shared} (I : Inv X pins σ H1 s1) {B h : Heap} {l : List Env} (hl : h.FunFrames B l) (hs : ∀ b ∈ frs l, b ∈ frs X.stack) : ∀ b ∈ frs l, H1 b = none ∧ ∃ o, h.get? b = some o ∧ ∀ vs, o.data ≠ .fields vs :=
 fun b hb => ⟨I.stkFree b (hs b hb), (hl.mem hb).2⟩
theorem ZF6 : ZF7 (CX1 P w) (cxE P w K mg base N qual scope f cd A outer s H E) E := by
 intro pins σ H1 s1 ev s' I hc
 obtain ⟨e, C, a0, B, H', rfl, os, bare, un, hok, hen, heH, fl, cov, q⟩ := hc
 have I2 := I.call' (ch := []) os un hok bare (fun b z => absurd z (by simp))
 have hfr : (cxE P w K mg base N qual scope f cd A outer s H E).A.frames = some ((cxE P w K mg base N qual scope f cd A outer s H E).env :: outer) := I.ok.frames
 show wpAny (model P w) _ (leaving _ (.ref e)) _ _ s'
 refine wpAny_leaves_onW (L := s.heap.objs.size) hfr rfl fl fun h'' fl2 up => ?_
 have nL : ∀ b o, s.heap.get? b = some o → b ≠ s.heap.objs.size := fun b o e => Nat.ne_of_lt (Heap.lt_size e)
 have efr : frs ((cxE P w K mg base N qual scope f cd A outer s H E).env :: outer) = s.heap.objs.size :: frs outer := ZKU rfl
 have un2 : Un (frs outer) [] H H' s.heap s'.heap := I2.base
 have cov2 : Cov B H' s.heap s'.heap (frs outer) := fun b o hb hn ht => by
  refine cov b o hb (fun z => ?_) (ht.imp id fun ⟨o0, h0⟩ => I.base.there b o0 h0 (show b ∉ ([] : List Addr) by simp))
  have z2 : b ∈ s.heap.objs.size :: frs outer := by rw [← efr]; exact z
  rcases List.mem_cons.mp z2 with rfl | z2
  ·rcases ht with ⟨u, hu⟩ | ⟨o0, h0⟩
   ·have z3 : H' s.heap.objs.size = none := I2.free
    rw [z3] at hu; cases hu
   ·exact nL _ _ h0 rfl
  ·exact hn z2
 have flo : s'.heap.FunFrames B outer := by
  obtain ⟨_, _, ⟨_, _, k⟩, _⟩ := fl
  exact k
 obtain ⟨hok3, un3, cov3⟩ := ZIy hok un2 cov2 fl2.1 up (ZJv I2 flo fun b hb => by
  show b ∈ frs ((cxE P w K mg base N qual scope f cd A outer s H E).env :: outer)
  rw [efr]; exact List.mem_cons_of_mem _ hb)
 refine ⟨e, C, a0, B, H', rfl, I2.os, bare, un3, hok3, ?_, heH, fl2, cov3, q⟩
 cases z : s.heap.get? e with
 | none => rfl
 | some o =>
  obtain ⟨o', e'⟩ := I.base.there e o z (show e ∉ ([] : List Addr) by simp)
  rw [hen] at e'; cases e'
end
theorem ZJw {K : W.Frag} {h : Heap} {C : Addr} {bmB : List Value} {newId : String} (X : K.In h) (q : excIn K C bmB newId = true) :
  ∃ bm N nm q bs hdct sn sub ab col dd k0 k1 k2 k3 k5 mN, h.get? C = some (excClassObj nm q C N bs bm hdct sn sub ab col dd k0 k1 k2 k3 k5 newId) ∧ h.Ns N mN ∧ mN "__init__" = none ∧ OwnTail h bmB bm := by
 unfold excIn at q
 split at q
 ·rename_i dd cd sl ho
  split at q
  ·rename_i C' bm k0 k1 k2 k3 n k5 hm hs
   simp only [Bool.and_eq_true, beq_iff_eq, Bool.not_eq_true'] at q
   obtain ⟨⟨⟨⟨⟨rfl, rfl⟩, hdel⟩, ht⟩, hok⟩, hni⟩ := q
   obtain ⟨nm, bs, mro, ns, qn, hd, sn, sub, ab, col, del⟩ := cd
   dsimp only at hm hdel hok hni
   subst hm hdel
   have hsl : sl = #[k0, k1, k2, k3, some (.builtin n), k5] := by
    obtain ⟨l⟩ := sl
    simp only at hs
    rw [hs]
   subst hsl
   exact ⟨bm, ns, nm, qn, bs, hd, sn, sub, ab, col, dd, k0, k1, k2, k3, k5, _, X _ _ ho, .of_isNs (isNs_of_in X hok), nsMap_none_of_in X hok hni, tail_of_in X ht⟩
  ·cases q
 ·cases q
def ZHY (K : W.Frag) (C : Addr) : Prop := excIn K C [.type "ValueError", .type "Exception", .type "BaseException", .type "object"] "ValueError.__new__" = true
section
variable {P : Program} {w : World} {K : W.Frag} {mg : Str → Option Value} {base : Heap} {N : List Str} {qual : Str} {scope : Scope} {f : Addr} {cd : Value} {A : Around} {outer : List Env} {s : Shared} {H : Hp} {E : XK}
 {x : Str} {np cpos pos : Pos} {e₀ : Expr} {es : List Expr} {t : TA} {C : Addr}
def ZNI (E : XK) (C : Addr) (t : TA) : TS := fun _ σ H => t σ H fun vs H1 => vs.length ≤ sizeLine ∧ E (.ref C) none H1
theorem ZSF (hC : ZHY K C) (hg : Gl (cxE P w K mg base N qual scope f cd A outer s H E) x) (hm : mg x = some (.ref C)) (ha : PA (cxE P w K mg base N qual scope f cd A outer s H E) (e₀ :: es) t)
  (hdb : (x == ("__debug__" : Str)) = false := by decide)
  (he : starEach (e₀ :: es) (cxE P w K mg base N qual scope f cd A outer s H E).env = (false, eval e₀ (cxE P w K mg base N qual scope f cd A outer s H E).env) :: starEach es (cxE P w K mg base N qual scope f cd A outer s H E).env := by rfl)
  (hpl : (backTo cpos (starEach es (cxE P w K mg base N qual scope f cd A outer s H E).env)).any (·.1) = false := by rfl) :
  PS (cxE P w K mg base N qual scope f cd A outer s H E) (.Raise (some (.Call (.Name x np) (e₀ :: es) [] cpos)) none pos) (ZNI E C t) := by
 intro pins s1 σ H1 D I h
 have hh : (cxE P w K mg base N qual scope f cd A outer s H E).A.handled = none := I.ok.hd rfl
 obtain ⟨bm, N', nm, qn, bs, hdct, sn, sub, ab, col, dd, k0, k1, k2, k3, k5, mN, hCo, hN, hni, TL⟩ := ZJw I.ok.mod.kin hC
 have FB := PySem.F.excBase_ValueError
 refine wpAny_Raise_call_subT (C := C) (nm := nm) (q := qn) (N := N') (bs := bs) (bm := bm) (hdct := hdct) (sn := sn) (sub := sub) (ab := ab) (col := col) (dd := dd) (k0 := k0) (k1 := k1) (k2 := k2) (k3 := k3) (k5 := k5)
  FB (mN := mN) (TL.hasType FB.hasBase) hh (by rw [he]; show (false || (backTo cpos (starEach es _)).any (·.1)) = false; rw [hpl]; rfl) hni (ZGb I hg hm ⟨rfl, ?_⟩ hdb)
 have hA := ha cpos pins s1 σ H1 _ I h
 rw [he] at hA ⊢
 refine Calls.evalArgs_plain (wpAny_mono hA (fun vs s2 ⟨xs, H2, I2, r, z, q⟩ => ⟨rfl, by rw [← r.length]; exact z, I2.bk _ _ hCo, hN.keeps I2.bk, TL.keeps I2.bk, fun h' e hx => ?_⟩) fun _ _ y => y)
 -- the exception is made: it leaves the frame
 have hfr : (cxE P w K mg base N qual scope f cd A outer s H E).A.frames = some ((cxE P w K mg base N qual scope f cd A outer s H E).env :: outer) := I.ok.frames
 have efr : frs ((cxE P w K mg base N qual scope f cd A outer s H E).env :: outer) = s.heap.objs.size :: frs outer := ZKU rfl
 have stk := I2.stack
 have hin : ∀ env ∈ ((cxE P w K mg base N qual scope f cd A outer s H E).env :: outer), ∀ b, env.frame = some b → b ∈ frs ((cxE P w K mg base N qual scope f cd A outer s H E).env :: outer) := fun env he b hb => List.mem_filterMap.mpr ⟨env, he, hb⟩
 show wpAny (model P w) _ (leaving _ (.ref e)) _ _ { s2 with heap := h' }
 refine wpAny_leaves_madeW (base := hideAll s2.heap (frs ((cxE P w K mg base N qual scope f cd A outer s H E).env :: outer))) (L := s.heap.objs.size) hfr rfl (fun b o q => of_hideAll _ q) (funFrames_hide stk hin) hx fun h'' t' fl2 htup hbt up => ?_
 have I3 : Inv (cxE P w K mg base N qual scope f cd A outer s H E) pins σ H2 { s2 with heap := h' } := I2.kept (h' := h') (t' := s2.toks) hx.keeps
 have cov : Cov (hideAll s2.heap (frs ((cxE P w K mg base N qual scope f cd A outer s H E).env :: outer))) H2 s.heap h' (frs outer) := fun b o hb hn ht => by
  have : ∃ o1, s2.heap.get? b = some o1 := by
   rcases ht with ⟨u, hu⟩ | ⟨o0, ho0⟩
   ·exact (I2.hok b u hu).there
   ·exact I2.base.there b o0 ho0 (show b ∉ ([] : List Addr) by simp)
  obtain ⟨o1, h1⟩ := this
  have h2 := hx.keeps _ _ h1
  rw [hb] at h2
  cases h2
  refine hideAll_get _ h1 fun z => ?_
  rw [efr] at z
  rcases List.mem_cons.mp z with rfl | z
  ·rcases ht with ⟨u, hu⟩ | ⟨o0, h0⟩
   ·have z3 : H2 s.heap.objs.size = none := I2.free
    rw [z3] at hu; cases hu
   ·exact Nat.lt_irrefl _ (Heap.lt_size h0)
  ·exact hn z
 have flo : h'.FunFrames (hideAll s2.heap (frs ((cxE P w K mg base N qual scope f cd A outer s H E).env :: outer))) outer := by
  obtain ⟨_, _, k⟩ := (funFrames_hide stk hin : s2.heap.FunFrames (hideAll s2.heap (frs ((cxE P w K mg base N qual scope f cd A outer s H E).env :: outer))) ((cxE P w K mg base N qual scope f cd A outer s H E).env :: outer))
  exact k.of_keeps fun b o hb _ => ⟨o, hx.keeps b o hb, rfl⟩
 obtain ⟨hok3, un3, cov3⟩ := ZIy (I3.hok) (show Un (frs outer) [] H H2 s.heap h' from I3.base) cov fl2.1 up (ZJv I3 flo fun b hb => by
  show b ∈ frs ((cxE P w K mg base N qual scope f cd A outer s H E).env :: outer)
  rw [efr]; exact List.mem_cons_of_mem _ hb)
 refine ⟨e, .ref C, .ref t', _, H2, rfl, I2.os, I2.bare, un3, hok3, ?_, ?_, fl2, cov3, q⟩
 ·cases z : s.heap.get? e with
  | none => rfl
  | some o =>
   obtain ⟨o', e'⟩ := I2.base.there e o z (show e ∉ ([] : List Addr) by simp)
   rw [hx.new] at e'; cases e'
 ·cases z : H2 e with
  | none => rfl
  | some u =>
   obtain ⟨o', e'⟩ := (I2.hok e u z).there
   rw [hx.new] at e'; cases e'
end
section
variable {P : Program} {w : World} {K : W.Frag} {mg : Str → Option Value} {base : Heap}
theorem ZEW.lift {k : Nat} {f : Addr} {fd : FuncData} {ps : List Str} {sp : Sp} (F : ZEW P w K mg base CX0 k f fd ps sp) : ZEW P w K mg base (CX1 P w) k f fd ps sp :=
 ⟨F.len, fun A outer s H args us vs Q E hr he hb hv hs => codeAny_mono (F.run A outer s H args us vs Q E hr he hb hv hs) fun r s' h => by
  cases r with
  | error e => exact h.elim
  | ok fl => cases fl <;> exact h⟩
theorem ZEW.or {k : Nat} {CX : CXT} {f : Addr} {fd : FuncData} {ps : List Str} {sp sq : Sp} (F : ZEW P w K mg base CX k f fd ps sp) (G : ZEW P w K mg base CX k f fd ps sq) : ZEW P w K mg base CX k f fd ps (fun vs H Q E => sp vs H Q E ∨ sq vs H Q E) :=
 ⟨fun vs H Q E h => h.elim (F.len vs H Q E) (G.len vs H Q E), fun A outer s H args us vs Q E hr he hb hv hs => hs.elim (F.run A outer s H args us vs Q E hr he hb hv) (G.run A outer s H args us vs Q E hr he hb hv)⟩
theorem Fun.okx {x qual : Str} {st : Stmt} {f : Addr} {fd : FuncData} {N ps : List Str} {k : Nat} {sp : Sp} (F : Fun K x qual st f fd) (S : ZEV N ps (ZEP st)) (len : ∀ vs H Q E, sp vs H Q E → vs.length = ps.length)
  (hbody : ∀ (cdv : Value) (A : Around) (outer : List Env) (s : Shared) (H : Hp) (vs : List V) (Q : VK) (E : XK), Room k (A.deeper (envOfC qual (ZEP st) s.heap.objs.size f cdv)) → sp vs H Q E →
   ∃ t, PSs (cxE P w K mg base N qual (ZEP st) f cdv A outer s H E) (ZFJ st) t ∧ t { nx := fun _ H' => Q .non H', rt := Q } (start N vs) H) : ZEW P w K mg base (CX1 P w) (k + 1) f fd ps sp := by
 obtain ⟨oc, od, kV, doc, pm, an, cdv, ct, osl, rfl, lk, hcd⟩ := F.ex
 exact ZOq lk hcd S len fun A outer s H vs Q E hr hsp => hbody cdv A outer s H vs Q E hr hsp
end
theorem ZJG {α : Type} (p : α → Bool) : ∀ (l : List α) (i : Nat), (∀ a, l[i]? = some a → p a = false) → (l.eraseIdx i).find? p = l.find? p
 | [], _, _ => by simp
 | a :: l, 0, h => by
  have := h a rfl
  rw [List.eraseIdx_cons_zero, List.find?_cons, this]
 | a :: l, i + 1, h => by
  rw [List.eraseIdx_cons_succ, List.find?_cons, List.find?_cons, ZJG p l i fun b hb => h b (by simpa using hb)]
theorem ZSG {es : Array DictEntry} (hk : StrKeys es) {name : Str} {i : Nat} (hi : es.findIdx? (fun e => e.key.isStr name) = some i) (x : Str) (hx : x ≠ name) :
  nsFind (es.eraseIdxIfInBounds i) x = nsFind es x := by
 obtain ⟨l⟩ := es
 simp only [nsFind, findBy, List.eraseIdxIfInBounds_toArray, List.find?_toArray, List.findIdx?_toArray] at hi ⊢
 rw [ZJG]
 intro a ha
 obtain ⟨hlt, hp, _⟩ := List.findIdx?_eq_some_iff_getElem.mp hi
 have ea : l[i] = a := by
  rw [List.getElem?_eq_getElem hlt] at ha
  exact Option.some.inj ha
 rw [ea] at hp
 obtain ⟨n, t, h⟩ := hk a (by simpa using List.mem_of_getElem? ha)
 rw [h] at hp ⊢
 have e1 : n = name := by simpa [Value.isStr] using hp
 have e2 : n ≠ x := fun z => hx (z.symm.trans e1)
 simpa [Value.isStr] using e2
section
variable {M : Model} {A : Around} {E : Value → Shared → Prop} {s : Shared}
theorem ZSH {a : Addr} {m : Str → Option Value} {name : Str} {Q : Bool → Shared → Prop} (hn : s.heap.Ns a m)
  (hQ : ∀ h' m', h'.Ns a m' → (∀ x, x ≠ name → m' x = m x) → Heap.SameBut a s.heap h' → Q (m name).isSome { s with heap := h' }) : wpAny M A (nsDel a name) Q E s := by
 obtain ⟨o, es, ep, ho, hd, hk, hm⟩ := id hn
 have hany : es.any (·.refKey) = false := by
  rw [Array.any_eq_false']; intro e he; obtain ⟨n, t, h⟩ := hk e he; simp [DictEntry.refKey, h]
 have hsome : (m name).isSome = es.any (·.key.isStr name) := by
  rw [← hm name]; simp only [nsFind, findBy, Option.isSome_map]
  rw [Bool.eq_iff_iff]; simp only [Array.find?_isSome, Array.any_eq_true]
  constructor
  ·rintro ⟨x, hx, hp⟩; obtain ⟨i, hi, rfl⟩ := Array.mem_iff_getElem.mp hx; exact ⟨i, hi, hp⟩
  ·rintro ⟨i, hi, hp⟩; exact ⟨_, Array.getElem_mem hi, hp⟩
 have hhas : nsHas name o = pure (es.any (·.key.isStr name)) := by
  rw [nsHas_eq]; unfold nsHasByArray; rw [hd]
  show (if (es.any fun x => x.key.isStr name) = true then _ else _) = _
  generalize (es.any fun x => x.key.isStr name) = b
  cases b <;> simp [hany]
 unfold nsDel
 refine wpAny_bind (wpAny_loadPart ho ?_)
 rw [hhas]
 refine wpAny_bind (wpAny_pure ?_)
 rw [← hsome]
 cases hmn : (m name).isSome
 ·have := hQ s.heap m hn (fun _ _ => rfl) (.refl ..)
  rw [hmn] at this
  exact wpAny_pure this
 ·refine wpAny_bind (wpAny_updatePart ho (wpAny_pure ?_))
  have key : ∃ m', (s.heap.update a (Obj.dropName name)).Ns a m' ∧ ∀ x, x ≠ name → m' x = m x := by
   obtain ⟨cl, d, dt, sl⟩ := o
   subst hd
   cases hi : es.findIdx? (·.key.isStr name) with
   | some i => exact ⟨_, ⟨_, _, ep + 1, Heap.get?_update_self _ ho (by simp only [Obj.dropName_eq, Obj.dropNameByArray, hi] <;> rfl), (by simp only [Obj.dropName_eq, Obj.dropNameByArray, hi] <;> rfl), hk.erase i, fun _ => rfl⟩, fun x hx => by rw [← hm x]; exact ZSG hk hi x hx⟩
   | none => exact ⟨_, ⟨_, _, ep, Heap.get?_update_self _ ho (by simp only [Obj.dropName_eq, Obj.dropNameByArray, hi] <;> rfl), (by simp only [Obj.dropName_eq, Obj.dropNameByArray, hi] <;> rfl), hk, fun _ => rfl⟩, fun x _ => hm x⟩
  obtain ⟨m', hm', hx'⟩ := key
  have := hQ _ m' hm' hx' (Heap.SameBut.update ..)
  rw [hmn] at this
  exact this
theorem ZNy {env : Env} {n : Str} {pos : Pos} {m : Str → Option Value} {Q : Unit → Shared → Prop} (hl : env.kindOf n = some .local) (hn : s.heap.Ns env.locals m)
  (hp : (env.scope.kind == .class || (env.scope.kind == .module && env.locals != env.globals)) = false)
  (h : ∀ h' m', h'.Ns env.locals m' → (∀ x, x ≠ n → m' x = m x) → Heap.SameBut env.locals s.heap h' → Q () { s with heap := h', toks := s.toks + 1 }) :
  wpAny M A (do bindName env n .none; unbindBehindTheSuite env n pos) Q E s := by
 refine wpAny_bind (wpAny_bindName (wpAny_storeName_local hl hn (fun h₁ hn₁ hs₁ => ?_) hp))
 unfold unbindBehindTheSuite
 refine wpAny_onRaise ?_
 unfold unbindName
 refine wpAny_bind (wpAny_point (wpAny_bind ?_))
 unfold deleteName
 simp only [hl, hp]
 rw [if_neg (by decide)]
 refine wpAny_bind (ZSH hn₁ fun h₂ m₂ hn₂ hm₂ hs₂ => ?_)
 simp only [if_true, Option.isSome_some, Bool.not_true, Bool.false_eq_true, if_false]
 exact wpAny_pure (wpAny_point (h h₂ m₂ hn₂ (fun x hx => by rw [hm₂ x hx, if_neg hx]) (hs₁.trans hs₂)))
end
section
variable {X : Cx} {pins : List (Addr × Obj)} {σ : St} {H : Hp} {s : Shared}
theorem ZJx {M : Model} {A : Around} {E : Value → Shared → Prop} {i : Nat} {n : Str} {pos : Pos} {Q : Unit → Shared → Prop} (I : Inv X pins σ H s) (hN : X.N.Nodup) (hi : X.N[i]? = some n) (hl : X.env.scope.names.lookup n = some .local)
  (h : ∀ s', Inv X pins (σ.set i none) H s' → Q () s') : wpAny M A (do bindName X.env n .none; unbindBehindTheSuite X.env n pos) Q E s := by
 obtain ⟨m, hn, hlk⟩ := id I.loc
 have hcls : (X.env.scope.kind == .class || (X.env.scope.kind == .module && X.env.locals != X.env.globals)) = false := by rw [I.ok.kind]; rfl
 obtain ⟨oL, _, _, hoL, _⟩ := id hn
 refine ZNy hl hn hcls fun h' m' hn' hm' hs => h _ ?_
 refine ⟨I.ok, I.os, I.bare, ⟨fun b o e n hb hx => ?_, fun b o e n hb hx => ?_, I.base.free, fun b o e hx => ?_, I.base.tups, I.base.frzs, I.base.tbls⟩, ⟨m', hn', fun j y v' e1 e2 e3 => ?_⟩, fun y c e => ?_, I.free, I.freeC, fun p hp => ?_, fun b ob e => ?_, by simpa using I.len⟩
 ·exact (hs.2 b (Nat.ne_of_lt (Nat.lt_of_lt_of_le (Heap.lt_size e) I.ok.above))).trans (I.base.keep b o e n hb hx)
 ·obtain ⟨sl, e1⟩ := I.base.slot b o e n hb hx
  exact ⟨sl, (hs.2 b (Nat.ne_of_lt (Nat.lt_of_lt_of_le (Heap.lt_size e) I.ok.above))).trans e1⟩
 ·obtain ⟨o', e1⟩ := I.base.there b o e hx
  exact ⟨o', (hs.2 b (Nat.ne_of_lt (Nat.lt_of_lt_of_le (Heap.lt_size e) I.ok.above))).trans e1⟩
 ·by_cases hj : j = i
  ·subst hj
   rw [List.getElem?_set] at e2
   split at e2
   ·split at e2 <;> cases e2
   ·rename_i z; exact absurd rfl z
  ·rw [List.getElem?_set_ne (Ne.symm hj)] at e2
   obtain ⟨u', r', q⟩ := hlk j y v' e1 e2 e3
   have hy : y ≠ n := fun e => hj (ZKH hN e1 (e ▸ hi))
   refine ⟨u', r', ?_⟩
   rcases q with ⟨k, e⟩ | ⟨k, c, e, z⟩
   ·exact .inl ⟨k, by rw [hm' y hy]; exact e⟩
   ·exact .inr ⟨k, c, e, z.sameBut hs (I.cne y c e)⟩
 ·obtain ⟨w', z⟩ := I.cell y c e
  exact ⟨w', z.sameBut hs (I.cne y c e)⟩
 ·obtain ⟨e, n, ne, nf, d⟩ := I.pin p hp
  exact ⟨(hs.2 p.1 ne).trans e, n, ne, nf, d⟩
 ·refine (I.hok b ob e).stay (fun c w' hc q => (hs.2 c ?_).trans q) (fun _ q => q) fun _ _ q => q
  rintro rfl
  rcases hc with z | hc
  ·have := I.free
   rw [z, e] at this; cases this
  ·have := I.free
   rw [hc] at this; cases this
end
def ZIz (e : Addr) (C : Value) : HO := .ext fun h => ∃ oe, h.get? e = some oe ∧ oe.cls = C
abbrev Cx.suite (X : Cx) (e : Addr) : Cx := { X with A := X.A.mark (some (.ref e)), calm := false, xe := fun _ _ => False }
section
variable {X : Cx} {pins : List (Addr × Obj)} {σ : St} {H : Hp} {s : Shared} {e : Addr}
theorem Inv.around {A' : Around} {xe' : Value → Shared → Prop} (I : Inv X pins σ H s) (hf : A'.frames = X.A.frames) : Inv { X with A := A', calm := false, xe := xe' } pins σ H s :=
 ⟨⟨I.ok.mod, I.ok.kind, I.ok.glob, I.ok.blt, I.ok.above, I.ok.inj, I.ok.has, I.ok.cab, (fun z => nomatch z), hf.trans I.ok.frames, I.ok.stk, I.ok.exf, I.ok.bs, I.ok.bsz, I.ok.noex, I.ok.exfs, I.ok.funs, I.ok.frf⟩,
  I.os, I.bare, I.base, I.loc, I.cell, I.free, I.freeC, I.pin, I.hok, I.len⟩
theorem Inv.toSuite (I : Inv X pins σ H s) : Inv (X.suite e) pins σ H s := I.around rfl
theorem Inv.ofSuite (ok : X.Ok) (I : Inv (X.suite e) pins σ H s) : Inv X pins σ H s :=
 ⟨ok, I.os, I.bare, I.base, I.loc, I.cell, I.free, I.freeC, I.pin, I.hok, I.len⟩
theorem Inv.track {u : HO} (I : Inv X pins σ H s) (h1 : X.s₀.heap.get? e = none) (h2 : H e = none) (h3 : e ≠ X.env.locals) (h4 : ∀ x c, X.env.cells.lookup x = some c → c ≠ e) (h5 : ∀ p ∈ X.pn ++ pins, p.1 ≠ e) (new : ZE3 X.prog X.w (upd H e u) s.heap e u) : Inv X pins σ (upd H e u) s := by
 have ne : ∀ b o, X.s₀.heap.get? b = some o → b ≠ e := fun b o q z => by rw [z, h1] at q; cases q
 refine ⟨I.ok, I.os, I.bare, ⟨I.base.keep, I.base.slot, fun b o q n hx => ?_, I.base.there, fun b xs q => ?_, fun b o xs q => ?_, fun b ps q => ?_⟩, I.loc, I.cell, ?_, fun x c q => ?_, fun p hp => ?_, fun b v q => ?_, I.len⟩
 ·rw [ZEf (ne b o q)]; exact I.base.free b o q n hx
 ·have := I.base.tups b xs q
  rw [ZEf (ZEh this h2)]; exact this
 ·have := I.base.frzs b o xs q
  rw [ZEf (ZEh this h2)]; exact this
 ·obtain ⟨m, z⟩ := I.base.tbls b ps q
  exact ⟨m, by rw [ZEf (ZEh z h2)]; exact z⟩
 ·rw [ZEf (Ne.symm h3)]; exact I.free
 ·rw [ZEf (h4 x c q)]; exact I.freeC x c q
 ·obtain ⟨a, b, c⟩ := I.pin p hp
  exact ⟨a, by rw [ZEf (h5 p hp)]; exact b, c⟩
 ·by_cases hb : b = e
  ·subst hb; rw [ZEa] at q; cases q; exact new
  ·rw [ZEf hb] at q
   exact (I.hok b v q).stay (fun _ _ _ q => q) (fun c r => by rw [ZEf (ZEh r h2)]; exact r) fun c xs r => by rw [ZEf (ZEh r h2)]; exact r
end
def Fl (X : Cx) (H1 : Hp) (s0 : Shared) (e : Addr) (C : Value) (H' : Hp) (s3 : Shared) : Prop := ∃ (a0 : Value) (B : Heap), s3.os = s0.os ∧ AllBare s3.gens ∧ Un (frs X.stack) [] H1 H' s0.heap s3.heap ∧ HOk X.prog X.w H' s3.heap ∧
 s0.heap.get? e = none ∧ H' e = none ∧ Heap.FlyingW B X.stack e C a0 s3.heap ∧ Cov B H' s0.heap s3.heap (frs X.stack)
section
variable {X : Cx} {pins : List (Addr × Obj)} {σ : St} {H1 H' : Hp} {s0 s3 : Shared} {e : Addr} {C : Value}
theorem Fl.inv (F : Fl X H1 s0 e C H' s3) (I : Inv X pins σ H1 s0) : Inv X pins σ H' s3 := by
 obtain ⟨a0, B, os, bare, un, hok, _⟩ := F
 exact I.call' (ch := []) os un hok bare (fun b z => absurd z (by simp))
theorem ZUU {P : Program} {w : World} {H : Hp} {h : Heap} {e : Addr} {oe : Obj} {C : Value} (he : h.get? e = some oe) (hc : oe.cls = C) : ZE3 P w (upd H e (ZIz e C)) h e (ZIz e C) := ⟨⟨oe, he, hc⟩, ⟨oe, he⟩, fun h1 h2 ⟨o, q, c⟩ k => ⟨o, k o q, c⟩⟩
theorem Fl.suite (F : Fl X H1 s0 e C H' s3) (I : Inv X pins σ H1 s0) (hst : X.stack = X.env :: X.outer) (hfr : X.env.frame = some X.env.locals) (hex : X.ex = []) : ∃ oe, oe.cls = C ∧ s3.heap.get? e = some oe ∧ H' e = none ∧ Inv (X.suite e) pins σ (upd H' e (ZIz e C)) s3 := by
 have I3 := F.inv I
 obtain ⟨a0, B, os, bare, un, hok, hen, heH, fl, cov⟩ := F
 obtain ⟨oe, vs, T, oT, ts, he, hc, hd, _⟩ := fl.2.2.2
 have nfr : e ∉ frs X.stack := fun z => by
  obtain ⟨_, o, ho, hn⟩ := fl.2.2.1.mem z
  rw [he] at ho; cases ho
  exact hn vs hd
 have efr : frs X.stack = X.env.locals :: X.fs := by rw [hst]; exact ZKU hfr
 rw [efr] at nfr
 refine ⟨oe, hc.1, he, heH, (I3.track (u := ZIz e C) ?_ heH (fun z => nfr (by rw [z]; exact List.mem_cons_self)) (fun x c q z => ?_) (fun p hp z => ?_) (ZUU he hc.1)).toSuite⟩
 ·cases z : X.s₀.heap.get? e with
  | none => rfl
  | some o =>
   obtain ⟨o', e'⟩ := I.base.there e o z (by rw [hex]; simp)
   rw [hen] at e'; cases e'
 ·obtain ⟨v, o, ho, hdc⟩ := I3.cell x c q
  rw [z, he] at ho; cases ho
  rw [hd] at hdc; cases hdc
 ·have := (I.pin p hp).1
  rw [z, hen] at this; cases this
end
abbrev TX := St → Hp → VK → XK → Prop
def XP (X : Cx) (pins : List (Addr × Obj)) (σ : St) (E : XK) (ev : Value) (s' : Shared) : Prop := ∃ H1 s1 e C H', Inv X pins σ H1 s1 ∧ ev = .ref e ∧ Fl X H1 s1 e C H' s' ∧ E C none H'
structure QX (X : Cx) (e : Expr) (t : TX) : Prop where
 h : ∀ (pins : List (Addr × Obj)) (s : Shared) (σ : St) (H : Hp) (Q : VK) (E : XK), Inv X pins σ H s → t σ H Q E → wpAny (model X.prog X.w) X.A (eval e X.env) (EP X pins σ Q) (XP X pins σ E) s
section
variable {X : Cx} {k : Nat} {f C : Addr} {fd : FuncData} {ps : List Str} {sp : Sp} {dvs : List V} {ds : List Value} {E : XK} {x m : Str} {p pos apos : Pos} {e o : Expr} {es : List Expr} {ta : TE} {t : TA}
theorem ZUV {pins : List (Addr × Obj)} {σ : St} {H : Hp} {s : Shared} {Q : VK} {us : List Value} {vs : List V} (F : ZEW X.prog X.w X.K X.mg X.base (CX1 X.prog X.w) k f fd ps sp) (hr : Room k X.A) (hb : ZER X.K fd ps ds) (hd : ZEg dvs ds)
  (I : Inv X pins σ H s) (r : ZEg vs us) (h : sp (vs ++ dvs) H Q E) : wpAny (model X.prog X.w) X.A (call (.ref f) us) (EP X pins σ Q) (XP X pins σ E) s := by
 have r2 : ZEg (vs ++ dvs) (us ++ ds) := r.append hd
 have hl : (us ++ ds).length = ps.length := by rw [← r2.length]; exact F.len _ _ _ _ h
 refine wpAny_call (codeAny_mono (F.run X.A X.stack s H ⟨us, []⟩ (us ++ ds) (vs ++ dvs) Q E hr I.env0 (hb s us I.kIn hl) r2 h) fun r s' hq => ?_)
 cases r with
 | error e =>
  obtain ⟨e, C, a0, B, H', rfl, q1, q2, q3, q4, q5, q6, q7, q8, q⟩ := hq
  exact ⟨H, s, e, C, H', I, rfl, ⟨a0, B, q1, q2, q3, q4, q5, q6, q7, q8⟩, q⟩
 | ok fl =>
  cases fl with
  | ret u => exact I.after hq
  | next => exact False.elim hq
  | brk => exact False.elim hq
  | cont => exact False.elim hq
def ZQV (sp : Sp) (dvs : List V) (t : TA) : TX := fun σ H Q E => t σ H fun vs H1 => sp (vs ++ dvs) H1 Q E
theorem ZLZ (F : ZEW X.prog X.w X.K X.mg X.base (CX1 X.prog X.w) k f fd ps sp) (hr : Room k X.A) (hg : Gl X x) (hm : X.mg x = some (.ref f)) (hk : W.keepIn X.K (.ref f) = true) (hb : ZER X.K fd ps ds) (hd : ZEg dvs ds)
  (ha : QA X.nox (e :: es) t) (hns : ZFC (e :: es) = true := by rfl) (hdb : (x == ("__debug__" : Str)) = false := by decide) : QX X (.Call (.Name x p) (e :: es) [] pos) (ZQV sp dvs t) := by
 refine ⟨?_⟩
 intro pins s σ H Q E I h
 refine wpAny_Call_Name_kw (ZGb I hg hm ?_ hdb)
 refine PySem.W.callWith_K (h₀ := X.base) I.ok.mod.kin hk (wpAny_mono (ha.h pos pins s σ H _ (I.wish _) h) (fun us s1 ⟨vs, H1, I1, r, q⟩ => ⟨I1.kIn, ?_⟩) fun _ _ z => False.elim z) (ZGP hns) (ZF4 (ZF1 hns))
 exact ZUV F hr hb hd I1.unwish r q
end
abbrev TBX := ZFH → XK → St → Hp → Prop
structure QBX (X : Cx) (st : List Stmt) (t : TBX) : Prop where
 h : ∀ (pins : List (Addr × Obj)) (s : Shared) (σ : St) (H : Hp) (D : ZFH) (E : XK), Inv X pins σ H s → t D E σ H → wpAny (model X.prog X.w) X.A (execs st X.env) (SP X pins D) (XP X pins σ E) s
def ZQW (t : TX) : TBX := fun D E σ H => t σ H (fun _ H1 => D.nx σ H1) E
section
variable {X : Cx} {e : Expr} {t : TX} {pos pos' : Pos} {x : Str} {i : Nat}
theorem one_bx {st : Stmt} {E : Value → Shared → Prop} {pins : List (Addr × Obj)} {D : ZFH} {s : Shared} (h : wpAny (model X.prog X.w) X.A (exec st X.env) (SP X pins D) E s) : wpAny (model X.prog X.w) X.A (execs [st] X.env) (SP X pins D) E s := by
 refine wpAny_execs_cons (thn h fun f s1 q => ?_)
 cases f with
 | next => exact wpAny_execs_nil q
 | ret v => exact q
 | brk => exact q
 | cont => exact q
theorem ZSI (he : QX X e t) (hs : ZGQ e = false := by rfl) : QBX X [.Expr e pos] (ZQW t) := ⟨fun pins s σ H D E I h =>
 one_bx (wpAny_Expr_any (thn (he.h pins s σ H _ E I h) fun v s1 ⟨x, H1, I1, r1, q1⟩ => ⟨σ, H1, I1, q1⟩) I.quiet (ZHA hs))⟩
end
abbrev TH := Value → ZFH → St → Hp → Prop
structure QH (X : Cx) (hs : List ExceptHandler) (t : TH) : Prop where
 h : ∀ (pins : List (Addr × Obj)) (σ : St) (H1 : Hp) (s0 : Shared) (e : Addr) (C : Value) (H' : Hp) (s3 : Shared) (D : ZFH), Inv X pins σ H1 s0 → Fl X H1 s0 e C H' s3 → t C D σ H' → wpAny (model X.prog X.w) X.A (handleBy (.ref e) X.env hs) (SP X pins D) X.xe s3
section
variable {X : Cx}
def ZXQ : TH := fun _ _ _ _ => False
theorem ZLA : QH X [] ZXQ := ⟨fun _ _ _ _ _ _ _ _ _ _ _ h => False.elim h⟩
theorem ZQX {M : Model} {A : Around} {E : Value → Shared → Prop} {s : Shared} {K : W.Frag} {T e : Addr} {oe : Obj} {b : Bool} {Q : Bool → Shared → Prop} (hK : K.In s.heap) (hT : ZHY K T) (he : s.heap.get? e = some oe) (hsub : subIn K oe.cls (.ref T) = some b) (hq : Q b s) : wpAny M A (excMatches (.ref e) (.ref T)) Q E s := by
 obtain ⟨bm, N', nm, qn, bs, hdct, sn, sub, ab, col, dd, k0, k1, k2, k3, k5, mN, hC, hN, hni, TL⟩ := ZJw hK hT
 obtain ⟨h, g, d, tk, os⟩ := s
 have hbase := TL.hasType PySem.F.excBase_ValueError.hasBase
 have hcB : (Value.ref T :: bm).contains (.type "BaseException") = true := by rw [List.contains_cons, hbase, Bool.or_true]
 have f := tc_notTuple
 have L := looks_subIn (M := M) hK hsub
 unfold excMatches
 repeat (first | with_reducible refine wpAny_loadPart_at he ?_ | with_reducible refine wpAny_loadPart_at hC ?_ | (with_reducible refine wpAny_isSubtype_exc hC ?_; rw [hcB]) | with_reducible refine L.at ?_ | wp_step)
 cases b <;> (wp_walk; exact hq)
abbrev ZFH.gone (D : ZFH) (i : Nat) : ZFH := { nx := fun σ H => D.nx (σ.set i none) H, rt := D.rt, bk := fun σ H => D.bk (σ.set i none) H, ct := fun σ H => D.ct (σ.set i none) H }
variable {x n : Str} {np pos : Pos} {T : Addr} {b₀ : Stmt} {suite : List Stmt} {ZFw : List ExceptHandler} {ts : Addr → TS} {tr : TH} {i : Nat}
def ZNJ (C : Value) (H : Hp) (R : Addr → Hp → Prop) : Prop := ∀ e, H e = none → R e (upd H e (ZIz e C))
def ZLa (K : W.Frag) (T : Addr) (C : Value) (A B : Prop) : Prop := ∃ b, subIn K C (.ref T) = some b ∧ if b = true then A else B
def tHN (K : W.Frag) (T : Addr) (i : Nat) (ts : Addr → TS) (tr : TH) : TH := fun C D σ H => ZLa K T C (ZNJ C H fun e H2 => ts e (D.gone i) (σ.set i (some (.ref e))) H2) (tr C D σ H)
theorem ZGn (K : W.Frag) (hK : X.K = K) (hst : X.stack = X.env :: X.outer) (hfr : X.env.frame = some X.env.locals) (hex : X.ex = []) (hN : X.N.Nodup) (hi : X.N[i]? = some n) (hl : X.env.scope.names.lookup n = some .local) (hg : Gl X x) (hm : X.mg x = some (.ref T)) (hT : ZHY K T)
  (hs : ∀ e : Addr, QB (X.suite e) (b₀ :: suite) (ts e)) (hr : QH X ZFw tr) (hdb : (x == ("__debug__" : Str)) = false := by decide) :
  QH X (.ExceptHandler (some (.Name x np)) (some n) (b₀ :: suite) pos :: ZFw) (tHN K T i ts tr) := by
 subst hK
 refine ⟨?_⟩
 intro pins σ H1 s0 e C H' s3 D I F h
 obtain ⟨oe, rfl, he3, heH, IS⟩ := F.suite I hst hfr hex
 obtain ⟨b, hsub, h⟩ := h
 refine wpAny_handleBy_cons (codeAny_handlers_test ?_) (by intro q; cases q)
 refine ZGb IS hg hm ?_ hdb
 refine ZQX IS.kIn hT he3 hsub ?_
 cases b with
 | false => exact hr.h pins σ H1 s0 e _ H' s3 D I F h
 | true =>
  have okX := I.ok
  refine codeAny_handlers_suite_as ?_
  have F2 := F
  obtain ⟨a0, B, q1, q2, q3, q4, q5, q6, q7, q8⟩ := F2
  refine lands_againW q7 fun h' fl' up => ?_
  have I3 := F.inv I
  obtain ⟨hok3, un3, cov3⟩ := ZIy q4 q3 q8 fl'.1 up (ZJv I3 q7.2.2.1 fun b hb => hb)
  have F3 : Fl X H1 s0 e oe.cls H' { s3 with heap := h' } := ⟨a0, B, q1, q2, un3, hok3, q5, q6, fl', cov3⟩
  obtain ⟨oe4, ec4, _, _, IS4⟩ := F3.suite I hst hfr hex
  have hf : (X.suite e).fn n = true ∨ (X.suite e).env.scope.names.lookup n = some .local := .inr hl
  refine ZIp (X := X.suite e) (v := .ref e) IS4 hN hi (.inl hl) rfl (fun s5 IS5 => ?_) hf
  have := (hs e).h pins _ _ _ (D.gone i) IS5 (h e q6)
  refine wpAny_mono this (fun f s6 hsp => ?_) fun _ _ z => False.elim z
  show wpAny (model X.prog X.w) X.A (do bindName X.env n .none; unbindBehindTheSuite X.env n pos) (fun _ s₃ => SP X pins D f s₃) X.xe s6
  cases f with
  | next => obtain ⟨σ', H', I, q⟩ := hsp; exact ZJx (I.ofSuite okX) hN hi hl fun s7 I7 => ⟨_, _, I7, q⟩
  | brk => obtain ⟨σ', H', I, q⟩ := hsp; exact ZJx (I.ofSuite okX) hN hi hl fun s7 I7 => ⟨_, _, I7, q⟩
  | cont => obtain ⟨σ', H', I, q⟩ := hsp; exact ZJx (I.ofSuite okX) hN hi hl fun s7 I7 => ⟨_, _, I7, q⟩
  | ret u => obtain ⟨v, σ', H', I, r, q⟩ := hsp; exact ZJx (I.ofSuite okX) hN hi hl fun s7 I7 => ⟨_, _, _, I7, r, q⟩
end
section
variable {X : Cx} {body : List Stmt} {h₀ : ExceptHandler} {hs : List ExceptHandler} {pos : Pos} {tb : TBX} {th : TH}
def ZWU (tb : TBX) (th : TH) : TS := fun D σ H => tb D (fun C _ H' => th C D σ H') σ H
theorem ZLB (hst : X.stack = X.env :: X.outer) (hfr : X.env.frame = some X.env.locals) (hb : QBX X body tb) (hh : QH X (h₀ :: hs) th) : QS X (.Try body (h₀ :: hs) [] [] pos) (ZWU tb th) := by
 refine ⟨?_⟩
 intro pins s σ H D I h
 refine wpAny_Try_except (wpAny_mono (hb.h pins s σ H D _ I h) (fun f s1 q => ?_) fun ev s1 ⟨H1, s0, e, C, H', I1, eq, F, q⟩ => ?_)
 ·cases f with
  | next => exact wpAny_execs_nil q
  | brk => exact q
  | cont => exact q
  | ret u => exact q
 ·subst eq
  have I3 := F.inv I1
  have F2 := F
  obtain ⟨a0, B, q1, q2, q3, q4, q5, q6, q7, q8⟩ := F2
  have hfrs : X.A.frames = some (X.env :: X.outer) := by rw [← hst]; exact I.ok.frames
  have q7' : Heap.FlyingW B (X.env :: X.outer) e C a0 s1.heap := by rw [← hst]; exact q7
  refine wpAny_looks_onW hfrs hfr q7' fun h4 hheld up4 => ?_
  refine wpAny_landsW hheld fun h5 fl5 up5 => ?_
  have fl5' : Heap.FlyingW B X.stack e C a0 h5 := by rw [hst]; exact fl5
  obtain ⟨hok3, un3, cov3⟩ := ZIy q4 q3 q8 fl5'.1 (up4.trans up5) (ZJv I3 q7.2.2.1 fun b hb => hb)
  exact hh.h pins σ H1 s0 e C H' { s1 with heap := h5 } D I1 ⟨a0, B, q1, q2, un3, hok3, q5, q6, fl5', cov3⟩ q
end
end L2
namespace L2
open PySem PySem.Spec PyProof.Rows PySem.W PySem.Builtin PySem.Builtin.ObjectAttr PySem.Builtin.Getset_descriptor
structure ZGy (K : W.Frag) (C : Addr) : Prop where
 ga : findIn K (.ref C) "__getattribute__" = some (some (.builtin "BaseException.__getattribute__"))
 gt : findIn K (.ref C) "__getattr__" = some none
 cl : findIn K (.ref C) "__class__" = some (some (.builtin "object.__class__"))
 ob : mroIn K C (.type "object") = some true
 be : mroIn K C (.type "BaseException") = some true
section
variable {prog : Program} {w : World} {A : Around} {E : Value → Shared → Prop} {h : Heap} {g : Array GenState} {d : Drawn} {t : Nat} {os : OsState} {a C : Addr} {o : Obj} {K : W.Frag}
theorem ZNK {M : Model} (hx : h.get? a = some o) (hc : o.cls = .ref C) : Looks M h (typeOf (.ref a)) (.ref C) := hc ▸ (Looks.ld hx).andThen .now
theorem ZMH {R : Result → Shared → Prop} {tp : Value} (X : K.In h) (hx : h.get? a = some o) (hc : o.cls = .ref C) (F : ZGy K C) (hq : R (.ok (.ret (.ref C))) ⟨h, g, d, t, os⟩) :
  codeAny (model prog w) A (.call (.builtin "getset_descriptor.__get__") ⟨[.builtin "object.__class__", .ref a, tp], []⟩) R ⟨h, g, d, t, os⟩ := by
 have L0 := ZNK (M := model prog w) hx hc
 have L1 := looks_mroIn (M := model prog w) X F.ob
 refine codeAny_call_builtin KF.slot_gs.plain KF.entry_gs (KF.slot_gs.check _ _ _ _ _ _ _ _ KF.type_class (KF.args_gs _ _ _) ?_)
 unfold Builtin.«getset_descriptor.__get__» descrGet
 rw [dga_obj]
 refine wpAny_bind (wpAny_pure ?_)
 unfold descrGetter descrCheckInstance descrNameAndClass isInstance
 simp only [KF.owner_class]
 repeat lk
 refine ⟨Code.quiet_builtin _ (by decide +kernel), codeAny_builtin KF.entry_class ?_⟩
 unfold Builtin.«object.__class__» shownTypeOf
 repeat lk
 exact hq
theorem ZNL {M : Model} {nameV : Value} {Q : Unit → Shared → Prop} (X : K.In h) (hx : h.get? a = some o) (hc : o.cls = .ref C) (F : ZGy K C) (hq : Q () ⟨h, g, d, t, os⟩) : wpAny M A (checkBuiltinCall "BaseException.__getattribute__" ⟨[.ref a, nameV], []⟩) Q E ⟨h, g, d, t, os⟩ := by
 have hk : builtinKind "BaseException.__getattribute__" = some .slot := by decide +kernel
 have hsplit : splitId "BaseException.__getattribute__" = some ("BaseException", "__getattribute__") := by decide +kernel
 have ha := PySem.F.args_bexc_ga (.ref a) nameV
 have L0 := ZNK (M := M) hx hc
 have L1 := looks_mroIn (M := M) X F.be
 simp only [checkBuiltinCall, hk, hsplit]
 refine wpAny_bind ?_
 unfold isInstance
 repeat (first | with_reducible refine L0.at ?_ | with_reducible refine L1.at ?_ | wp_step)
 exact hq
theorem ZLC {tk : Tok} {Q : Fin → Shared → Prop} (X : K.In h) (hx : h.get? a = some o) (hc : o.cls = .ref C) (F : ZGy K C) (hq : Q (.done (.ret (.ref C))) ⟨h, g, d, t, os⟩) :
  wpAny (model prog w) A (Builtin.«object.__getattribute__» ⟨[.ref a, .str "__class__" tk], []⟩) Q E ⟨h, g, d, t, os⟩ := by
 have hT5 : (⟨h, g, d, t, os⟩ : Shared).TypeIs (.builtin "object.__class__") "getset_descriptor" := PySem.F.typeOf_object_class
 have f5 := PySem.F.typeOf_object_class
 have f6 := PySem.F.slot_gs_get.lookup
 have f7 := PySem.F.slot_gs_set.lookup
 have L2 := looks_findIn (M := model prog w) X F.cl
 repeat (any_goals (first | assumption | (with_reducible refine wpAny_loadPart_at hx ?_; rw [hc]) | with_reducible refine L2.at ?_ | wp_step))
 refine ZMH X hx hc F ?_
 repeat (any_goals (first | assumption | wp_step))
theorem ZLb {tk : Tok} {R : Result → Shared → Prop} (X : K.In h) (hx : h.get? a = some o) (hc : o.cls = .ref C) (F : ZGy K C) (hq : R (.ok (.ret (.ref C))) ⟨h, g, d, t, os⟩) :
  codeAny (model prog w) A (.call (.builtin "BaseException.__getattribute__") ⟨[.ref a, .str "__class__" tk], []⟩) R ⟨h, g, d, t, os⟩ :=
 codeAny_call_builtin PySem.F.attr_ValueError.ga.plain PySem.F.entry_bexc_ga (ZNL X hx hc F (ZLC X hx hc F hq))
theorem ZNM {tk : Tok} {Q : Value → Shared → Prop} (X : K.In h) (hx : h.get? a = some o) (hc : o.cls = .ref C) (F : ZGy K C) (hq : Q (.ref C) ⟨h, g, d, t, os⟩) :
  wpAny (model prog w) A (getAttrBy (.ref a) (.str "__class__" tk) false) Q E ⟨h, g, d, t, os⟩ := by
 have f3 := PySem.F.attr_ValueError.ga.bind (.ref a)
 have hx2 : (Value.builtin "BaseException.__getattribute__" == Value.builtin "object.__getattribute__") = false := by decide +kernel
 have hx1 : (onTheHeap (Value.ref C) && Value.builtin "BaseException.__getattribute__" == Value.builtin "object.__getattribute__") = false := by rw [hx2]; rfl
 have L1 := looks_findIn (M := model prog w) X F.ga
 have L2 := looks_findIn (M := model prog w) X F.gt
 repeat (any_goals (first | assumption | (with_reducible refine wpAny_loadPart_at hx ?_; rw [hc]) | with_reducible refine L1.at ?_ | with_reducible refine L2.at ?_ | wp_step))
 refine ZLb X hx hc F ?_
 repeat (any_goals (first | assumption | wp_step))
theorem ZLc {Q : Option Value → Shared → Prop} (X : K.In h) (hx : h.get? a = some o) (hc : o.cls = .ref C) (F : ZGy K C) (hq : Q (some (.ref C)) ⟨h, g, d, t + 1, os⟩) : wpAny (model prog w) A (getAttr? (.ref a) "__class__") Q E ⟨h, g, d, t, os⟩ := by
 unfold getAttr? getAttrBy?
 repeat (any_goals (first | assumption | with_reducible apply ZNM X hx hc F | wp_step))
end
section
variable {K : W.Frag}
theorem ZSJ {e C : Addr} (hC : ZHY K C) (F : ZGy K C) : KitX K (.ref e) (.ref C) (fun h => ∃ oe, h.get? e = some oe ∧ oe.cls = .ref C) where
 ty := fun _ _ _ ⟨oe, h1, h2⟩ => ZNK h1 h2
 it := fun _ h X _ => by
  obtain ⟨bm, N', nm, qn, bs, hdct, sn, sub, ab, col, dd, k0, k1, k2, k3, k5, mN, hCo, _⟩ := ZJw X hC
  intro A' Q' E' s' k q
  unfold isType loadHead
  exact wpAny_bind (wpAny_loadPart (k _ _ hCo) (wpAny_pure q))
 ne := fun h tp dd its n sl X htp => by
  obtain ⟨bm, N', nm, qn, bs, hdct, sn, sub, ab, col, dd', k0, k1, k2, k3, k5, mN, hCo, _⟩ := ZJw X hC
  refine Bool.eq_false_iff.mpr fun q => ?_
  have e : C = tp := Value.ref.inj (beq_iff_eq.mp q)
  subst e
  have z := congrArg Obj.data (Option.some.inj (hCo.symm.trans htp))
  unfold excClassObj at z
  cases z
 ca := fun {_ _ _ _ _ s} X ⟨oe, h1, h2⟩ k => by
  obtain ⟨h, g, d, t, os⟩ := s
  exact ZLc X h1 h2 F k
end
def ZSK : V → Value → Prop
 | .ref T, u => u = .ref T
 | .ty n, u => u = .type n
 | _, _ => False
def ZPI (K : W.Frag) : List V → Hp → VK → Prop := fun xs H Q => ∃ e C y u b, xs = [.ref e, y] ∧ H e = some (ZIz e (.ref C)) ∧ ZHY K C ∧ ZGy K C ∧ ZSK y u ∧ W.kitOne K (.ref C) u = some b ∧ Q (.bl b) H
theorem ZSL {y : V} {u v : Value} (h : ZSK y u) (r : ZEd y v) : v = u := by
 cases y <;> first | exact False.elim h | (obtain rfl := h; exact r)
section
variable {X : Cx}
theorem ZQY : ZFK X (.builtin "isinstance") (ZPI X.K) := by
 intro pins s σ H xs us Q I r h
 obtain ⟨e, C, y, u, b, rfl, he, hC, F, hy, hk, q⟩ := h
 obtain ⟨v1, v2, rfl, r1, r2⟩ := r.two
 obtain rfl : v1 = Value.ref e := r1
 obtain rfl := ZSL hy r2
 obtain ⟨p, _⟩ := (show ZE3 X.prog X.w H s.heap e (ZIz e (.ref C)) from I.hok e _ he)
 exact PySem.W.kia_one (ZSJ hC F) I.kIn p hk (fun z => nomatch z) fun tk => ⟨.bl b, H, I.tok _, rfl, q⟩
theorem ZGA (K : W.Frag) (h : X.K = K) : ZFK X (.builtin "isinstance") (ZPI K) := h ▸ ZQY
end
section
variable {X : Cx} {k : Nat} {f : Addr} {fd : FuncData} {ps : List Str} {sp : Sp} {dvs : List V} {ds : List Value} {x : Str} {p pos : Pos} {e : Expr} {es : List Expr} {t : TA}
end
section
variable {K : W.Frag} {σ : St} {H : Hp} {Q : VK} {D : ZFH} {E : XK} {C T e : Addr} {t : TA} {tb : TBX} {th : TH} {ts : Addr → TS} {tr : TH} {i : Nat}
def ZQZ (E : XK) (C : Addr) (vs : List V) (H : Hp) : Prop := vs.length ≤ sizeLine ∧ E (.ref C) none H
theorem ZQa (h : t σ H fun vs H1 => ZQZ E C vs H1) : ZNI E C t D σ H := h
theorem ZKV {vs : List V} (h : vs.length ≤ 1000) (q : E (.ref C) none H) : ZQZ E C vs H := ⟨Nat.le_trans h (by decide), q⟩
theorem ZWV (h : tb D (fun C _ H' => th C D σ H') σ H) : ZWU tb th D σ H := h
theorem ZSM {sp : Sp} {dvs : List V} (h : t σ H fun vs H1 => sp (vs ++ dvs) H1 Q E) : ZQV sp dvs t σ H Q E := h
theorem ZSN {u : TX} (h : u σ H (fun _ H1 => D.nx σ H1) E) : ZQW u D E σ H := h
theorem ZIE {C : Value} {A B : Prop} {b : Bool} (hs : subIn K C (.ref T) = some b) (h : if b = true then A else B) : ZLa K T C A B := ⟨b, hs, h⟩
theorem ZW3 {C : Value} (h : ZLa K T C (ZNJ C H fun e H2 => ts e (D.gone i) (σ.set i (some (.ref e))) H2) (tr C D σ H)) : tHN K T i ts tr C D σ H := h
theorem ZKW {C : Value} {R : Addr → Hp → Prop} (h : ∀ e H2, H e = none → H2 e = some (ZIz e C) → ZEU H H2 → R e H2) : ZNJ C H R := fun e he => h e _ he ZEa (ZEU.new he)
theorem ZIj {y : V} {u : Value} {b : Bool} (he : H e = some (ZIz e (.ref C))) (hC : ZHY K C) (F : ZGy K C) (hy : ZSK y u) (hk : W.kitOne K (.ref C) u = some b) (q : Q (.bl b) H) : ZPI K [.ref e, y] H Q := ⟨e, C, y, u, b, rfl, he, hC, F, hy, hk, q⟩
end
section
variable {P : Program} {w : World} {K : W.Frag} {mg : Str → Option Value} {base : Heap} {N : List Str} {qual : Str} {scope : Scope} {f : Addr} {cd : Value} {A : Around} {outer : List Env} {s : Shared} {H : Hp} {E : XK}
 {x : Str} {np cpos pos : Pos} {e₀ : Expr} {es : List Expr} {t : TA} {C : Addr}
theorem ZNN (hC : ZHY K C) (hg : Gl (cxE P w K mg base N qual scope f cd A outer s H E) x) (hm : mg x = some (.ref C)) (ha : QA (cxE P w K mg base N qual scope f cd A outer s H E) (e₀ :: es) t)
 (hns : ZFC (e₀ :: es) = true := by rfl) (hdb : (x == ("__debug__" : Str)) = false := by decide) :
 QS (cxE P w K mg base N qual scope f cd A outer s H E) (.Raise (some (.Call (.Name x np) (e₀ :: es) [] cpos)) none pos) (ZNI E C t) := ⟨ZSF hC hg hm ha.h hdb (ZGP hns) (ZF4 (ZF1 hns))⟩
end
section
variable {X : Cx}
end
section
variable {X : Cx}
end
section
variable {K : W.Frag} {H : Hp} {Q : VK} {σ : St}
variable {D : ZFH}
end
section
variable {M : Model} {A : Around} {Er : Value → Shared → Prop} {s : Shared} {Bs : Heap} {l outer : List Env} {env : Env} {x L : Addr} {c0 a0 fl : Value}
end
section
variable {P : Program} {w : World} {H H' : Hp} {h0 h' h'' Bs : Heap} {fs ex : List Addr}
def gone (B : Heap) (c : Addr) : Heap := B.update c fun o => { o with data := .freed }
end
section
variable {P : Program} {w : World} {K : W.Frag} {mg : Str → Option Value} {base : Heap} {N : List Str} {qual : Str} {scope : Scope} {f : Addr} {cd : Value} {A : Around} {outer : List Env} {s : Shared} {H : Hp} {E : XK}
end
section
variable {X : Cx}
end
section
variable {P : Program} {w : World} {K : W.Frag} {mg : Str → Option Value} {base : Heap} {N : List Str} {qual : Str} {scope : Scope} {f : Addr} {cd : Value} {A : Around} {outer : List Env} {s : Shared} {H : Hp} {E : XK}
end
def fl (low tall : Int) (q : Int × Int) : Int := (q.1 - low * q.2) / (tall * q.2)
def ZFF (cv : PL) (b e : Int) : PL := cv.filter fun p => decide (b ≤ p.1) && decide (p.1 < e)
def InT (cv : PL) : Prop := ∀ p ∈ cv, (-(10 ^ 64) < p.1 ∧ p.1 < 10 ^ 64) ∧ -(10 ^ 64) < p.2 ∧ p.2 < 10 ^ 64
section
variable {X : Cx}
end
theorem ZLD {cv : PL} (h : Asc cv) {i j : Nat} (hi : i < cv.length) (hj : j < cv.length) (hij : i < j) : cv[i].1 < cv[j].1 := List.pairwise_iff_getElem.mp h i j hi hj hij
theorem col_of {b y m t : Int} (hy : 0 < y) (h1 : b ≤ t) (h2 : t < b + m * y) : ∃ j, 0 ≤ j ∧ j < m ∧ b + j * y ≤ t ∧ t < b + j * y + y := by
 refine ⟨(t - b) / y, Int.ediv_nonneg (by omega) (by omega), ?_, ?_, ?_⟩
 ·exact Int.ediv_lt_of_lt_mul hy (by omega)
 ·have := Int.ediv_mul_le (t - b) (Int.ne_of_gt hy)
  omega
 ·have := Int.lt_ediv_add_one_mul_self (t - b) hy
  rw [Int.add_mul, Int.one_mul] at this
  omega
theorem ZFQ {cv : PL} {b e : Int} {p : Int × Int} : p ∈ ZFF cv b e ↔ p ∈ cv ∧ b ≤ p.1 ∧ p.1 < e := by
 unfold ZFF
 rw [List.mem_filter]
 simp
def Is4 (cv : PL) (o : Option (PL)) : Prop :=
 (o = none ∧ cv = []) ∨ ∃ q0 q1 q2 q3 : Int × Int, o = some [q0, q1, q2, q3] ∧ q0 ∈ cv ∧ q1 ∈ cv ∧ q2 ∈ cv ∧ q3 ∈ cv ∧
  ∀ p ∈ cv, q0.1 ≤ p.1 ∧ p.1 ≤ q1.1 ∧ (q2.2 < p.2 ∨ (q2.2 = p.2 ∧ q2.1 ≤ p.1)) ∧ (p.2 < q3.2 ∨ (p.2 = q3.2 ∧ q3.1 ≤ p.1))
theorem Is4.join {c1 c2 : PL} {a0 a1 a2 a3 b0 b1 b2 b3 : Int × Int} (h : Is4 c1 (some [a0, a1, a2, a3])) (g : Is4 c2 (some [b0, b1, b2, b3])) (hlt : ∀ p ∈ c1, ∀ q ∈ c2, p.1 < q.1) :
  Is4 (c1 ++ c2) (some [a0, b1, if a2.2 ≤ b2.2 then a2 else b2, if b3.2 ≤ a3.2 then a3 else b3]) := by
 rcases h with ⟨e, _⟩ | ⟨q0, q1, q2, q3, e, m0, m1, m2, m3, hb⟩
 ·cases e
 rcases g with ⟨e', _⟩ | ⟨r0, r1, r2, r3, e', n0, n1, n2, n3, gb⟩
 ·cases e'
 cases e
 cases e'
 refine .inr ⟨_, _, _, _, rfl, List.mem_append_left _ m0, List.mem_append_right _ n1, ?_, ?_, fun p hp => ?_⟩
 ·split
  ·exact List.mem_append_left _ m2
  ·exact List.mem_append_right _ n2
 ·split
  ·exact List.mem_append_left _ m3
  ·exact List.mem_append_right _ n3
 ·rcases List.mem_append.mp hp with hp | hp
  ·have k1 := hb p hp
   have k2 := hlt p hp _ n1
   have k3 := hlt p hp _ n2
   have k4 := hlt p hp _ n3
   refine ⟨k1.1, by omega, ?_, ?_⟩
   ·split <;> omega
   ·split <;> omega
  ·have k1 := gb p hp
   have k2 := hlt _ m0 p hp
   have k3 := hlt _ m2 p hp
   have k4 := hlt _ m3 p hp
   refine ⟨by omega, k1.2.1, ?_, ?_⟩
   ·split <;> omega
   ·split <;> omega
theorem Is4.mem {cv : PL} {qs : PL} (h : Is4 cv (some qs)) : ∀ q ∈ qs, q ∈ cv := by
 rcases h with ⟨e, _⟩ | ⟨q0, q1, q2, q3, e, m0, m1, m2, m3, _⟩
 ·cases e
 ·cases e
  intro q hq
  simp only [List.mem_cons, List.not_mem_nil, or_false] at hq
  rcases hq with rfl | rfl | rfl | rfl <;> assumption
theorem Is4.of_none {cv : PL} (h : Is4 cv none) : cv = [] := by
 rcases h with ⟨_, e⟩ | ⟨q0, q1, q2, q3, e, _⟩
 ·exact e
 ·cases e
theorem ZUW {o : Option (PL)} (hb : ∀ qs, o = some qs → qs.length ≤ 4 ∧ ∀ q ∈ qs, Bn 200 q.1 ∧ Bn 200 q.2) : Sm 40000 30 (ZK5 o) := by
 cases o with
 | none => exact Sm.non.mono (by decide) (by decide)
 | some qs =>
  refine (Sm.tup (n := 9000) (k := 20) (fun x hx => ?_) (by rw [List.length_map]; exact (hb qs rfl).1)).mono (by decide) (by decide)
  obtain ⟨q, hq, rfl⟩ := List.mem_map.mp hx
  have := (hb qs rfl).2 q hq
  exact (Sm.tup (xs := [.int q.1, .int q.2]) (n := 2000) (k := 10) (fun x hx => by
   simp only [List.mem_cons, List.not_mem_nil, or_false] at hx
   rcases hx with rfl | rfl
   ·exact (Sm.int (this.1.mono (by decide))).mono (by decide) (by decide)
   ·exact (Sm.int (this.2.mono (by decide))).mono (by decide) (by decide)) (by show 2 ≤ 4; decide)).mono (by decide) (by decide)
theorem Is4.minmax {cv : PL} {p0 p1 p2 p3 : Int × Int} {i2 i3 : Nat} (ha : Asc cv) (e0 : cv[0]? = some p0) (e1 : cv[cv.length - 1]? = some p1) (e2 : cv[i2]? = some p2) (e3 : cv[i3]? = some p3)
  (h2 : ∀ j, j < cv.length → (cv.getD i2 (0, 0)).2 ≤ (cv.getD j (0, 0)).2 ∧ (j < i2 → (cv.getD i2 (0, 0)).2 < (cv.getD j (0, 0)).2))
  (h3 : ∀ j, j < cv.length → (cv.getD i3 (0, 0)).2 ≥ (cv.getD j (0, 0)).2 ∧ (j < i3 → (cv.getD i3 (0, 0)).2 > (cv.getD j (0, 0)).2)) : Is4 cv (some [p0, p1, p2, p3]) := by
 obtain ⟨z0, y0⟩ := List.getElem?_eq_some_iff.mp e0
 obtain ⟨z1, y1⟩ := List.getElem?_eq_some_iff.mp e1
 obtain ⟨z2, y2⟩ := List.getElem?_eq_some_iff.mp e2
 obtain ⟨z3, y3⟩ := List.getElem?_eq_some_iff.mp e3
 have d : ∀ {j : Nat} (hj : j < cv.length), cv.getD j (0, 0) = cv[j] := fun {j} hj => by simp [hj]
 refine .inr ⟨p0, p1, p2, p3, rfl, List.mem_of_getElem? e0, List.mem_of_getElem? e1, List.mem_of_getElem? e2, List.mem_of_getElem? e3, fun p hp => ?_⟩
 obtain ⟨j, hj, rfl⟩ := List.getElem_of_mem hp
 have k2 := h2 j hj
 have k3 := h3 j hj
 rw [d z2, d hj, y2] at k2
 rw [d z3, d hj, y3] at k3
 refine ⟨?_, ?_, ?_, ?_⟩
 ·by_cases h : j = 0
  ·subst h; rw [y0]; exact Int.le_refl _
  ·have := ZLD ha z0 hj (by omega)
   rw [y0] at this
   omega
 ·by_cases h : j = cv.length - 1
  ·subst h; rw [y1]; exact Int.le_refl _
  ·have := ZLD ha hj z1 (by omega)
   rw [y1] at this
   omega
 ·by_cases h : i2 < j
  ·have := ZLD ha z2 hj h
   rw [y2] at this
   omega
  ·by_cases h' : j = i2
   ·subst h'; rw [y2]; omega
   ·have := k2.2 (by omega)
    omega
 ·by_cases h : i3 < j
  ·have := ZLD ha z3 hj h
   rw [y3] at this
   omega
  ·by_cases h' : j = i3
   ·subst h'; rw [y3]; omega
   ·have := k3.2 (by omega)
    omega
theorem ZUX {b y t i : Int} (hy : 0 < y) : (b + i * y ≤ t ∧ t < b + i * y + y) ↔ (t - b) / y = i := by
 have h1 := Int.emod_add_mul_ediv (t - b) y
 have h2 := Int.emod_nonneg (t - b) (show y ≠ 0 by omega)
 have h3 := Int.emod_lt_of_pos (t - b) hy
 constructor
 ·rintro ⟨g1, g2⟩
  refine (Int.ediv_emod_unique hy (r := t - b - i * y) (q := i)).mpr ⟨?_, by omega, by omega⟩ |>.1
  rw [Int.mul_comm y i]
  omega
 ·intro e
  rw [e, Int.mul_comm y i] at h1
  constructor <;> omega
theorem ZPJ {cv : PL} {j : Nat} {q : Int × Int} {x z : Int} (h : cv[j]? = some q) : ZFF (cv.take (j + 1)) x z = ZFF (cv.take j) x z ++ (if (decide (x ≤ q.1) && decide (q.1 < z)) = true then [q] else []) := by
 rw [List.take_succ, h, ZFF, List.filter_append]
 congr 1
 simp only [Option.toList, List.filter_cons, List.filter_nil]
def ZHU (cv : PL) (b y : Int) (m : Nat) (fs : List (Option (PL))) : Prop := fs.length = m ∧ ∀ (k : Nat) o, fs[k]? = some o → Is4 (ZFF cv (b + (k : Int) * y) (b + (k : Int) * y + y)) o
theorem ZHU.mem {cv : PL} {b y : Int} {m : Nat} {fs : List (Option (PL))} (h : ZHU cv b y m fs) {qs : PL} (hq : some qs ∈ fs) : qs.length ≤ 4 ∧ ∀ q ∈ qs, q ∈ cv := by
 obtain ⟨k, hk, e⟩ := List.getElem_of_mem hq
 have h1 := h.2 k _ (List.getElem?_eq_getElem hk)
 rw [e] at h1
 refine ⟨?_, fun q hq' => (ZFQ.mp (h1.mem q hq')).1⟩
 rcases h1 with ⟨z, _⟩ | ⟨q0, q1, q2, q3, z, _⟩
 ·cases z
 ·cases z
  exact Nat.le_refl _
theorem ZHh {K : W.Frag} {H : Hp} {t : Addr} {us : List V} {fs : List (Option (PL))} (f : H t = some (.tup us)) (h : ZFE H us fs) (hb : ∀ qs, some qs ∈ fs → qs.length ≤ 4 ∧ ∀ q ∈ qs, Bn 200 q.1 ∧ Bn 200 q.2) (hl : fs.length ≤ 210) :
  ZGd K H (.ref t) (PyData.tuple (fs.map ZK5)).shown := by
 have fo : ∀ x ∈ fs.map ZK5, Sm 40000 30 x := fun x hx => by
  obtain ⟨o, ho, rfl⟩ := List.mem_map.mp hx
  exact ZUW fun qs e => hb qs (e ▸ ho)
 refine .dat (.tup (SqT.of f) h.dats) ?_ ?_ ?_ ?_
 ·simp only [PyData.showable]
  exact ZOU fun x hx => (fo x hx).2.1
 ·refine PyData.hasDict_of_canLay _ ?_
  show PyData.canLayAll0 (fs.map ZK5) = true
  exact ZQM fun x hx => (fo x hx).2.2.1
 ·have := ZQN (B := 30) fun x hx => (fo x hx).2.2.2
  simp only [PyData.depth]
  omega
 ·refine Nat.le_trans (ZLz (B := 40000) fun x hx => (fo x hx).1) ?_
  rw [List.length_map]
  have : fs.length * (40000 + 2) ≤ 210 * (40000 + 2) := Nat.mul_le_mul_right _ hl
  exact Nat.le_trans (Nat.add_le_add_right this 3) (by decide)
def Ch (e : Int) : Int → PL → Int → Prop
 | x, [], y => x = y
 | x, p :: r, y => (0 ≤ p.1 ∧ p.1 ≤ 40) ∧ p.2 * 2 ^ p.1.toNat = x ∧ x + 2 ^ p.1.toNat ≤ e ∧ (p.1 < 40 → x % (2 * 2 ^ p.1.toNat) = 0 → x + 2 * 2 ^ p.1.toNat ≤ e → False) ∧ Ch e (x + 2 ^ p.1.toNat) r y
theorem ZGB (k : Nat) : (0 : Int) < 2 ^ k := Int.pow_pos (by decide)
theorem Ch.le {e : Int} : ∀ {r : PL} {x y : Int}, Ch e x r y → x ≤ y
 | [], _, _, h => by cases h; exact Int.le_refl _
 | p :: r, x, y, h => by
  have := Ch.le h.2.2.2.2
  have := ZGB p.1.toNat
  omega
theorem Ch.snoc {e : Int} {p : Int × Int} : ∀ {r : PL} {x y : Int}, Ch e x r y → (0 ≤ p.1 ∧ p.1 ≤ 40) → p.2 * 2 ^ p.1.toNat = y → y + 2 ^ p.1.toNat ≤ e → (p.1 < 40 → y % (2 * 2 ^ p.1.toNat) = 0 → y + 2 * 2 ^ p.1.toNat ≤ e → False) → Ch e x (r ++ [p]) (y + 2 ^ p.1.toNat)
 | [], _, _, h, h1, h2, h3, h4 => by cases h; exact ⟨h1, h2, h3, h4, rfl⟩
 | _ :: _, _, _, h, h1, h2, h3, h4 => ⟨h.1, h.2.1, h.2.2.1, h.2.2.2.1, Ch.snoc h.2.2.2.2 h1 h2 h3 h4⟩
theorem ZI0 {a b : Nat} (h : a ≤ b) : (2 : Int) ^ a ≤ 2 ^ b := by
 obtain ⟨c, rfl⟩ := Nat.exists_eq_add_of_le h
 rw [Int.pow_add]
 have h1 := ZGB a
 have h2 := ZGB c
 have h3 : (2 : Int) ^ a * 1 ≤ 2 ^ a * 2 ^ c := Int.mul_le_mul_of_nonneg_left (by omega) (by omega)
 omega
theorem ZIT {a b : Nat} (h : a ≤ b) : (2 : Int) ^ a ∣ 2 ^ b := by
 obtain ⟨c, rfl⟩ := Nat.exists_eq_add_of_le h
 rw [Int.pow_add]
 exact Int.dvd_mul_right _ _
theorem ZI1 (k : Nat) : (2 : Int) * 2 ^ k = 2 ^ (k + 1) := by rw [Int.pow_succ]; omega
def Few (e : Int) (n : Nat) (x : Int) : Prop := ((2 : Int) ^ n ∣ x ∧ n ≤ 40 ∧ -(2 ^ 40) + (n : Int) ≤ x) ∨ ∃ m : Nat, (2 : Int) ^ m ∣ x ∧ e - x < 2 ^ m ∧ n + m ≤ 80
theorem Few.len {e x : Int} {n : Nat} (h : Few e n x) : n ≤ 80 := by
 rcases h with h | ⟨m, h⟩ <;> omega
theorem ZQb {a : Nat} {x : Int} (h : (2 : Int) ^ a ∣ x) (h1 : -(2 ^ a) < x) (h2 : x < 2 ^ a) : x = 0 := by
 obtain ⟨c, rfl⟩ := h
 have hp := ZGB a
 have hc : c = 0 := by
  by_cases h0 : c ≤ -1
  ·have : (2 : Int) ^ a * c ≤ 2 ^ a * (-1) := Int.mul_le_mul_of_nonneg_left h0 (by omega)
   omega
  ·by_cases h0' : 1 ≤ c
   ·have : (2 : Int) ^ a * 1 ≤ 2 ^ a * c := Int.mul_le_mul_of_nonneg_left h0' (by omega)
    omega
   ·omega
 rw [hc, Int.mul_zero]
theorem ZNO {e x : Int} {L : Nat} (he : e ≤ 2 ^ 40) (hx : -(2 ^ 40) ≤ x) (h1 : (2 : Int) ^ L ∣ x) (h2 : x + 2 ^ L ≤ e) : L ≤ 40 := by
 have hc : L ≤ 40 ∨ L = 41 ∨ 42 ≤ L := by omega
 rcases hc with h | rfl | h
 ·exact h
 ·exfalso
  obtain ⟨c, hc⟩ := h1
  have e1 : (2 : Int) ^ 41 = 2199023255552 := by decide
  have e2 : (2 : Int) ^ 40 = 1099511627776 := by decide
  rw [e1] at h2 hc
  rw [e2] at he hx
  omega
 ·exfalso
  have h3 := ZI0 h
  have e1 : (2 : Int) ^ 42 = 4398046511104 := by decide
  have e2 : (2 : Int) ^ 40 = 1099511627776 := by decide
  rw [e1] at h3
  rw [e2] at he hx
  omega
theorem Few.step {e x : Int} {n L : Nat} (he : e ≤ 2 ^ 40) (hx : -(2 ^ 40) ≤ x) (h : Few e n x) (h1 : (2 : Int) ^ L ∣ x) (h2 : x + 2 ^ L ≤ e) (h3 : (2 : Int) ^ (L + 1) ∣ x → x + 2 ^ (L + 1) ≤ e → False) : Few e (n + 1) (x + 2 ^ L) := by
 have hL := ZNO he hx h1 h2
 have hp := ZGB L
 have es : (2 : Int) ^ (L + 1) = 2 * 2 ^ L := (ZI1 L).symm
 rcases h with ⟨hd, hn, hb⟩ | ⟨m, hd, hm, hnm⟩
 ·by_cases ha : (2 : Int) ^ (L + 1) ∣ x
  ·-- limited by the end
   have h4 : ¬ x + 2 ^ (L + 1) ≤ e := fun z => h3 ha z
   by_cases h40 : L = 40
   ·subst h40
    have e2 : (2 : Int) ^ 40 = 1099511627776 := by decide
    have e3 : (2 : Int) ^ (40 + 1) = 2199023255552 := by decide
    have hx0 : x = 0 := ZQb ha (by rw [e3]; rw [e2] at hx; omega) (by rw [e3]; rw [e2] at h2 he; omega)
    subst hx0
    right
    refine ⟨0, Int.one_dvd _, ?_, by omega⟩
    rw [e2] at he h2 ⊢
    show e - (0 + 1099511627776) < 1
    omega
   ·right
    exact ⟨L, Int.dvd_add h1 (Int.dvd_refl _), by omega, by omega⟩
  ·-- limited by where it begins
   have hLn : n ≤ L := by
    by_cases hlt : n ≤ L
    ·exact hlt
    ·exact absurd (Int.dvd_trans (ZIT (by omega)) hd) ha
   have hd' : (2 : Int) ^ (L + 1) ∣ x + 2 ^ L := by
    obtain ⟨c, hc⟩ := h1
    have hodd : c % 2 = 1 := by
     by_cases h0 : c % 2 = 0
     ·exfalso
      apply ha
      refine ⟨c / 2, ?_⟩
      have : c = 2 * (c / 2) := by omega
      rw [hc, es]
      rw [Int.mul_comm 2 ((2 : Int) ^ L), Int.mul_assoc, ← this]
     ·omega
    refine ⟨(c + 1) / 2, ?_⟩
    have : c + 1 = 2 * ((c + 1) / 2) := by omega
    have h5 : x + 2 ^ L = 2 ^ L * (c + 1) := by rw [hc, Int.mul_add, Int.mul_one]
    rw [h5, es, Int.mul_comm 2 ((2 : Int) ^ L), Int.mul_assoc, ← this]
   left
   refine ⟨Int.dvd_trans (ZIT (by omega)) hd', ?_, by omega⟩
   by_cases h40 : L = 40
   ·subst h40
    have e2 : (2 : Int) ^ 40 = 1099511627776 := by decide
    obtain ⟨c, hc⟩ := h1
    rw [e2] at hc he h2 hx hb
    have : c ≠ 0 := by
     rintro rfl
     apply ha
     rw [hc]
     exact ⟨0, by omega⟩
    omega
   ·omega
 ·have hlt : L < m := by
   by_cases hlt : L < m
   ·exact hlt
   ·have := ZI0 (show m ≤ L by omega)
    omega
  have ha : (2 : Int) ^ (L + 1) ∣ x := Int.dvd_trans (ZIT (by omega)) hd
  have h4 : ¬ x + 2 ^ (L + 1) ≤ e := fun z => h3 ha z
  right
  exact ⟨L, Int.dvd_add h1 (Int.dvd_refl _), by omega, by omega⟩
theorem Few.start {e b : Int} (hb : -(2 ^ 40) ≤ b) : Few e 0 b := .inl ⟨Int.one_dvd _, by omega, by simpa using hb⟩
theorem Is4.congr {a b : PL} {o : Option (PL)} (h : Is4 a o) (e : ∀ p, p ∈ a ↔ p ∈ b) : Is4 b o := by
 rcases h with ⟨h1, h2⟩ | ⟨q0, q1, q2, q3, h1, m0, m1, m2, m3, hb⟩
 ·refine .inl ⟨h1, ?_⟩
  cases b with
  | nil => rfl
  | cons p ps =>
   have := (e p).mpr List.mem_cons_self
   rw [h2] at this
   cases this
 ·exact .inr ⟨q0, q1, q2, q3, h1, (e _).mp m0, (e _).mp m1, (e _).mp m2, (e _).mp m3, fun p hp => hb p ((e p).mpr hp)⟩
theorem Is4.uniqueD {cv : PL} {o o' : Option (PL)} (ha : ∀ p ∈ cv, ∀ q ∈ cv, p.1 = q.1 → p = q) (h : Is4 cv o) (g : Is4 cv o') : o = o' := by
 rcases h with ⟨e, hc⟩ | ⟨q0, q1, q2, q3, e, m0, m1, m2, m3, hb⟩
 ·rcases g with ⟨e', _⟩ | ⟨r0, r1, r2, r3, e', n0, _⟩
  ·rw [e, e']
  ·rw [hc] at n0; cases n0
 ·rcases g with ⟨e', hc⟩ | ⟨r0, r1, r2, r3, e', n0, n1, n2, n3, gb⟩
  ·rw [hc] at m0; cases m0
  ·have a0 := hb r0 n0
   have a1 := hb r1 n1
   have a2 := hb r2 n2
   have a3 := hb r3 n3
   have b0 := gb q0 m0
   have b1 := gb q1 m1
   have b2 := gb q2 m2
   have b3 := gb q3 m3
   have e0 : q0 = r0 := ha _ m0 _ n0 (by omega)
   have e1 : q1 = r1 := ha _ m1 _ n1 (by omega)
   have e2 : q2 = r2 := ha _ m2 _ n2 (by omega)
   have e3 : q3 = r3 := ha _ m3 _ n3 (by omega)
   rw [e, e', e0, e1, e2, e3]
def inS (sm : PL) (l : Nat) (s : Int) : PL := ZFF sm (s * 2 ^ l) (s * 2 ^ l + 2 ^ l)
theorem ZGu {sm : PL} {l : Nat} {s : Int} {p : Int × Int} : p ∈ inS sm l s ↔ p ∈ sm ∧ p.1 / 2 ^ l = s := by
 unfold inS
 rw [ZFQ]
 have := ZUX (b := 0) (t := p.1) (i := s) (ZGB l)
 rw [Int.sub_zero, Int.zero_add] at this
 rw [this]
theorem ZNP (x : Int) (l : Nat) : x / 2 ^ (l + 1) = x / 2 ^ l / 2 := by
 rw [Int.pow_succ, ← Int.ediv_ediv_of_nonneg (Int.le_of_lt (ZGB l))]
theorem ZSO {sm : PL} {l : Nat} {s : Int} {p : Int × Int} : p ∈ inS sm l (2 * s) ++ inS sm l (2 * s + 1) ↔ p ∈ inS sm (l + 1) s := by
 rw [List.mem_append, ZGu, ZGu, ZGu, ZNP]
 constructor
 ·rintro (⟨h1, h2⟩ | ⟨h1, h2⟩)
  ·exact ⟨h1, by omega⟩
  ·exact ⟨h1, by omega⟩
 ·rintro ⟨h1, h2⟩
  have : p.1 / 2 ^ l = 2 * s ∨ p.1 / 2 ^ l = 2 * s + 1 := by omega
  rcases this with h | h
  ·exact .inl ⟨h1, h⟩
  ·exact .inr ⟨h1, h⟩
theorem ZWW {sm : PL} {l : Nat} {a b : Int} (hab : a < b) : ∀ p ∈ inS sm l a, ∀ q ∈ inS sm l b, p.1 < q.1 := by
 intro p hp q hq
 have h1 := (ZGu.mp hp).2
 have h2 := (ZGu.mp hq).2
 by_cases h : p.1 < q.1
 ·exact h
 ·have := Int.ediv_le_ediv (ZGB l) (show q.1 ≤ p.1 by omega)
  omega
theorem ZLE {sm : PL} {b x e : Int} (h1 : b ≤ x) (h2 : x ≤ e) (p : Int × Int) : p ∈ ZFF sm b x ++ ZFF sm x e ↔ p ∈ ZFF sm b e := by
 rw [List.mem_append, ZFQ, ZFQ, ZFQ]
 constructor
 ·rintro (⟨g1, g2, g3⟩ | ⟨g1, g2, g3⟩)
  ·exact ⟨g1, g2, by omega⟩
  ·exact ⟨g1, by omega, g3⟩
 ·rintro ⟨g1, g2, g3⟩
  by_cases h : p.1 < x
  ·exact .inl ⟨g1, g2, h⟩
  ·exact .inr ⟨g1, by omega, g3⟩
theorem ZNQ {sm : PL} {b x e : Int} : ∀ p ∈ ZFF sm b x, ∀ q ∈ ZFF sm x e, p.1 < q.1 := by
 intro p hp q hq
 have h1 := (ZFQ.mp hp).2
 have h2 := (ZFQ.mp hq).2
 omega
theorem ZKX {m : PL} (hn : (m.map (·.1)).Nodup) {t h : Int} {q : Int × Int} : q ∈ ZGG m t h ↔ (q.1 ≠ t ∧ q ∈ m) ∨ q = (t, h) := by
 obtain ⟨a, b⟩ := q
 rw [← ZGW (ZIw hn), ZR9, ← ZGW hn]
 by_cases e : a = t
 ·subst e
  simp only [if_true, Option.some.injEq, ne_eq, not_true_eq_false, false_and, false_or, Prod.mk.injEq, true_and]
  exact eq_comm
 ·simp [e]
def kOf (l : Nat) (s : Int) : List Key := [Sum.inl (l : Int), Sum.inl s]
theorem ZUY {l l' : Nat} {s s' : Int} (h : kOf l s = kOf l' s') : l = l' ∧ s = s' := by
 unfold kOf at h
 simp only [List.cons.injEq, Sum.inl.injEq, and_true] at h
 exact ⟨by omega, h.2⟩
def ZFt (H : Hp) (kvs : List (List Key × V)) (sm : PL) (G : Nat → Int → Prop) : Prop := ∀ (l : Nat) (s : Int), l ≤ 40 → G l s → ∃ o, ZE0 H ((ZEp kvs (kOf l s)).getD .non) o ∧ Is4 (inS sm l s) o
theorem ZFt.same {H H' : Hp} {kvs : List (List Key × V)} {sm : PL} {G : Nat → Int → Prop} (h : ZFt H kvs sm G) (s : ZEU H H') : ZFt H' kvs sm G := fun l s' hl g => by
 obtain ⟨o, h1, h2⟩ := h l s' hl g
 exact ⟨o, h1.same s, h2⟩
theorem PrT.kpX {H H' : Hp} {a d : Addr} {cv : PL} {ob : HO} (h : PrT H a cv) (k : Kp d H H') (hd : H d = some ob) (hn : ∀ xs, ob ≠ .tup xs) : PrT H' a cv := by
 obtain ⟨us, g, p⟩ := h
 have ne : ∀ {b : Addr} {xs : List V}, H b = some (.tup xs) → H' b = some (.tup xs) := fun {b xs} e => k _ _ e fun z => by
  subst z
  rw [hd] at e
  exact hn _ (Option.some.inj e)
 exact ⟨us, ne g, Paired.mapP p fun _ _ ⟨a, e, z⟩ => ⟨a, e, ne z⟩⟩
theorem ZE0.kpX {H H' : Hp} {d : Addr} {v : V} {o : Option (PL)} {ob : HO} (h : ZE0 H v o) (k : Kp d H H') (hd : H d = some ob) (hn : ∀ xs, ob ≠ .tup xs) : ZE0 H' v o := by
 cases h with
 | non => exact .non
 | pr e hl => exact .pr (e.kpX k hd hn) hl
theorem ZFt.kpX {H H' : Hp} {kvs : List (List Key × V)} {sm : PL} {G : Nat → Int → Prop} {d : Addr} {ob : HO} (h : ZFt H kvs sm G) (k : Kp d H H') (hd : H d = some ob) (hn : ∀ xs, ob ≠ .tup xs) : ZFt H' kvs sm G := fun l s' hl g => by
 obtain ⟨o, h1, h2⟩ := h l s' hl g
 exact ⟨o, h1.kpX k hd hn, h2⟩
theorem ZFt.other {H : Hp} {kvs : List (List Key × V)} {sm sm' : PL} {t : Int} (h : ZFt H kvs sm fun _ _ => True) (e : ∀ q : Int × Int, q.1 ≠ t → (q ∈ sm ↔ q ∈ sm')) : ZFt H kvs sm' fun l s => s ≠ t / 2 ^ l := fun l s hl g => by
 obtain ⟨o, h1, h2⟩ := h l s hl trivial
 refine ⟨o, h1, h2.congr fun p => ?_⟩
 rw [ZGu, ZGu]
 constructor
 ·rintro ⟨g1, g2⟩
  exact ⟨(e p fun z => g (by rw [← g2, z])).mp g1, g2⟩
 ·rintro ⟨g1, g2⟩
  exact ⟨(e p fun z => g (by rw [← g2, z])).mpr g1, g2⟩
theorem ZFt.put {H' : Hp} {kvs : List (List Key × V)} {sm : PL} {G : Nat → Int → Prop} {t : Int} {i : Nat} {v : V} {o : Option (PL)} (h : ZFt H' kvs sm G) (hv : ZE0 H' v o) (ho : Is4 (inS sm i (t / 2 ^ i)) o) :
  ZFt H' (ZFo kvs (kOf i (t / 2 ^ i)) v) sm fun l s => G l s ∨ (l = i ∧ s = t / 2 ^ l) := fun l s hl g => by
 by_cases e : kOf l s = kOf i (t / 2 ^ i)
 ·obtain ⟨rfl, rfl⟩ := ZUY e
  refine ⟨o, ?_, ho⟩
  rw [ZHE, if_pos rfl]
  exact hv
 ·rcases g with g | ⟨rfl, rfl⟩
  ·obtain ⟨o', h1, h2⟩ := h l s hl g
   refine ⟨o', ?_, h2⟩
   rw [ZHE, if_neg e]
   exact h1
  ·exact absurd rfl e
theorem ZFt.mono {H : Hp} {kvs : List (List Key × V)} {sm : PL} {G G' : Nat → Int → Prop} (h : ZFt H kvs sm G) (g : ∀ l s, l ≤ 40 → G' l s → G l s) : ZFt H kvs sm G' := fun l s hl hg => h l s hl (g l s hl hg)
theorem ZFt.tups {H H' : Hp} {kvs : List (List Key × V)} {sm : PL} {G : Nat → Int → Prop} (h : ZFt H kvs sm G) (t : ∀ b xs, H b = some (.tup xs) → H' b = some (.tup xs)) : ZFt H' kvs sm G := fun l s hl g => by
 obtain ⟨o, h1, h2⟩ := h l s hl g
 refine ⟨o, ?_, h2⟩
 generalize (ZEp kvs (kOf l s)).getD .non = v at h1
 cases h1 with
 | non => exact .non
 | pr e hl =>
  obtain ⟨us, g, p⟩ := e
  exact .pr ⟨us, t _ _ g, Paired.mapP p fun _ _ ⟨a, e, z⟩ => ⟨a, e, t _ _ z⟩⟩ hl
def Eqv (m m' : PL) : Prop := ∀ q : Int × Int, q ∈ m ↔ q ∈ m'
section
variable {X : Cx} {o e : Expr} {apos cpos pos p : Pos} {td ty to : TE}
def ZWX : R2 := fun y x H Q => ∃ a o, x = .ref a ∧ ZFx H a y o ∧ Q (.bl o.isSome) H
def ZNR : R2 := fun y x H Q => ∃ a o, x = .ref a ∧ ZFx H a y o ∧ Q (.bl (!o.isSome)) H
theorem ZLd (hu : X.A.units + 1 < cLine) : OpR X (compareOp .In) ZWX := by
 intro pins s σ H x y v u Q I rx ry h
 obtain ⟨a, ov, rfl, g, q⟩ := h
 obtain rfl : u = Value.ref a := ry
 exact ZXM hu I g rx fun s3 I3 => ⟨.bl ov.isSome, H, I3, rfl, q⟩
theorem ZPK (hu : X.A.units + 1 < cLine) : OpR X (compareOp .NotIn) ZNR := by
 intro pins s σ H x y v u Q I rx ry h
 obtain ⟨a, ov, rfl, g, q⟩ := h
 obtain rfl : u = Value.ref a := ry
 exact ZUL hu I g rx fun s3 I3 => ⟨.bl (!ov.isSome), H, I3, rfl, q⟩
end
section
variable {K : W.Frag} {σ : St} {H : Hp} {Q : VK} {td ty : TE} {a b : Addr} {m m' : PL} {i v : Int}
end
section
variable {X : Cx} {tg : Expr}
end
section
variable {σ : St} {H : Hp}
end
def ZQc (K : W.Frag) : R2 := fun x y H Q => ∃ p q xs, x = .ref p ∧ y = .ref q ∧ SqL K H p xs ∧ SqL K H q [] ∧ Q (.bl xs.isEmpty) H
section
variable {X : Cx}
theorem ZSP (K : W.Frag) (hK : X.K = K) (hu : X.A.units + 1 < cLine) : OpR X (compareOp .Eq) (ZQc K) := by
 subst hK
 intro pins s σ H x y v u Q I rx ry h
 obtain ⟨p, q, xs, rfl, rfl, h1, h2, k⟩ := h
 obtain rfl : v = Value.ref p := rx
 obtain rfl : u = Value.ref q := ry
 obtain ⟨its, rv, pl, hz⟩ := I.list h1
 obtain ⟨its2, rv2, pl2, hz2⟩ := I.list h2
 cases rv2
 have hlen := rv.length
 cases xs with
 | nil =>
  cases rv
  refine SeqAt.eq_listAt (e := fun _ => true) pl.isList pl2.isList rfl (by omega) (fun j h1 _ => absurd h1 (by simp)) ⟨.bl true, H, I, rfl, k⟩
 | cons x xs =>
  refine SeqAt.eq_list_lengthsAt pl.isList pl2.isList ?_ (by omega) ⟨.bl false, H, I, rfl, k⟩
  simp only [List.length_cons] at hlen
  simp only [List.size_toArray, List.length_nil, bne_iff_ne, ne_eq]
  omega
end
section
variable {K : W.Frag} {H : Hp} {Q : VK} {p q : Addr} {xs : List V}
theorem ZSQ (h1 : SqL K H p xs) (h2 : SqL K H q []) (k : Q (.bl xs.isEmpty) H) : ZQc K (.ref p) (.ref q) H Q := ⟨p, q, xs, rfl, rfl, h1, h2, k⟩
end
section
variable {K : W.Frag} {H : Hp} {Q : VK} {a b : Addr} {l m : List Int}
end
end L2
namespace L2
theorem ZQd {cv : PL} (h : Asc cv) : (cv.map (·.1)).Nodup := by
 rw [List.nodup_iff_pairwise_ne, List.pairwise_map]
 exact h.imp fun {a b} hab e => by omega
end L2
namespace L2
open PySem PySem.Spec PyProof.Rows PySem.W
def FrL (l : List Addr) (H H' : Hp) : Prop := ∀ b o, H b = some o → b ∉ l → H' b = some o
theorem FrL.trans {l : List Addr} {H H1 H2 : Hp} (h : FrL l H H1) (g : FrL l H1 H2) : FrL l H H2 := fun b o e n => g b o (h b o e n) n
theorem FrL.mono {l l' : List Addr} {H H' : Hp} (h : FrL l H H') (s : ∀ b ∈ l, b ∈ l') : FrL l' H H' := fun b o e n => h b o e fun z => n (s b z)
theorem FrL.same {l : List Addr} {H H' : Hp} (h : ZEU H H') : FrL l H H' := fun b o e _ => h b o e
theorem FrL.kp {l : List Addr} {H H' : Hp} {q : Addr} (h : Kp q H H') (m : q ∈ l) : FrL l H H' := fun b o e n => h b o e fun z => n (z ▸ m)
theorem ZUZ {H0 H : Hp} {b : Addr} (s : ZEU H0 H) (e : H b = none) : H0 b = none := by
 cases e2 : H0 b with
 | none => rfl
 | some o => rw [s _ _ e2] at e; cases e
theorem PrT.frL {H H' : Hp} {u : Addr} {cv : PL} {l : List Addr} (h : PrT H u cv) (f : FrL l H H') (nt : ∀ b ∈ l, ∀ xs, H b ≠ some (.tup xs)) : PrT H' u cv := by
 obtain ⟨us, h1, h2⟩ := h
 have kt : ∀ b xs, H b = some (.tup xs) → H' b = some (.tup xs) := fun b xs e => f _ _ e fun z => nt b z xs e
 exact ⟨us, kt _ _ h1, Paired.mapP h2 fun _ _ ⟨a, e, z⟩ => ⟨a, e, kt _ _ z⟩⟩
theorem PrT.tups {H H' : Hp} {u : Addr} {cv : PL} (h : PrT H u cv) (t : ∀ b xs, H b = some (.tup xs) → H' b = some (.tup xs)) : PrT H' u cv := by
 obtain ⟨us, h1, h2⟩ := h
 exact ⟨us, t _ _ h1, Paired.mapP h2 fun _ _ ⟨a, e, z⟩ => ⟨a, e, t _ _ z⟩⟩
end L2
namespace L2
theorem ZQe {c : TT} {t u : TS} {D : ZFH} {σ : St} {H : Hp} (h : ZMb c t u D σ H) : ZMb c t u D σ H := h
theorem ZLe {t : TS} {D : ZFH} {σ : St} {H : Hp} (P : St → Hp → Prop) (h1 : ∀ σ' H', P σ' H' → D.nx σ' H') (h2 : ∀ D' : ZFH, D'.rt = D.rt → (∀ σ' H', P σ' H' → D'.nx σ' H') → t D' σ H) : t D σ H := h2 D rfl h1
end L2
namespace L2
open PySem PySem.Spec PyProof.Rows PySem.W
section
variable {K : W.Frag} {H : Hp} {Q : VK} {x y : V} {o o' : Option (PL)} {a b : Addr} {us ws : List V} {fs gs : List (Option (PL))}
end
theorem ZE0.tups {H H' : Hp} {v : V} {o : Option (PL)} (h : ZE0 H v o) (t : ∀ b xs, H b = some (.tup xs) → H' b = some (.tup xs)) : ZE0 H' v o := by
 cases h with
 | non => exact .non
 | pr e hn => exact .pr (e.tups t) hn
theorem ZQf {m m' : PL} (h : Eqv m m') (b e : Int) : ∀ p, p ∈ ZFF m b e ↔ p ∈ ZFF m' b e := fun p => by rw [ZFQ, ZFQ, h p]
theorem ZQg {m : PL} (n : (m.map (·.1)).Nodup) : ∀ p ∈ m, ∀ q ∈ m, p.1 = q.1 → p = q := fun p hp q hq e => by
 obtain ⟨x, y⟩ := p
 obtain ⟨z, w⟩ := q
 have e : x = z := e
 subst e
 have h1 := (ZGW n).mpr hp
 have h2 := (ZGW n).mpr hq
 rw [h1] at h2
 cases h2
 rfl
theorem ZSR {m m' : PL} {b e : Int} {o o' : Option (PL)} (hv : Eqv m m') (n : (m.map (·.1)).Nodup) (h : Is4 (ZFF m b e) o) (g : Is4 (ZFF m' b e) o') : o = o' :=
 Is4.uniqueD (fun p hp q hq => ZQg n p (ZFQ.mp hp).1 q (ZFQ.mp hq).1) h (g.congr fun p => (ZQf hv b e p).symm)
theorem ZJ8 {m m' : PL} {b y : Int} {k : Nat} {fs gs : List (Option (PL))} (hv : Eqv m m') (n : (m.map (·.1)).Nodup) (h : ZHU m b y k fs) (g : ZHU m' b y k gs) : fs = gs := by
 refine List.ext_getElem (by rw [h.1, g.1]) fun i h1 h2 => ?_
 exact ZSR hv n (h.2 i _ (List.getElem?_eq_getElem h1)) (g.2 i _ (List.getElem?_eq_getElem h2))
def Itk (d : Addr) (o : Obj) (kvs : List (Key × V)) : It := ⟨fun i H => H d = some (.frz o (.dK kvs)) ∧ i < kvs.length, fun i H x H' => H' = H ∧ ∃ p, kvs[i]? = some p ∧ x = kV p.1, fun i H => H d = some (.frz o (.dK kvs)) ∧ kvs.length ≤ i⟩
theorem ZQh {P : Program} {w : World} {k : Key} {u : Value} (h : (ZFI P w).is k u = true) : ZEd (kV k) u := by
 rcases ZFN h with ⟨i, t, rfl, rfl⟩ | ⟨x, t, rfl, rfl⟩
 ·exact ⟨t, rfl⟩
 ·exact ⟨t, rfl⟩
theorem ZW4 {kvs : List (Key × V)} {vs : List (Key × Value)} (h : KV kvs vs) : ∀ {i : Nat} {p : Key × V}, kvs[i]? = some p → ∃ q, vs[i]? = some q ∧ q.1 = p.1 := by
 unfold KV at h
 induction h with
 | nil => intro i p e; simp at e
 | @cons a b as bs h t ih =>
  intro i p e
  cases i with
  | zero =>
   simp at e
   subst e
   exact ⟨b, rfl, h.1.symm⟩
  | succ i =>
   obtain ⟨q, h1, h2⟩ := ih (i := i) (p := p) (by simpa using e)
   exact ⟨q, by simpa using h1, h2⟩
theorem ZQi {P : Program} {w : World} {K : W.Frag} {tg : Expr} (d it : Addr) (o : Obj) (kvs : List (Key × V)) (es : Array DictEntry) (ep : Nat) (ho : o.data = .dict es ep) : ZMe P w K tg (Itk d o kvs) [it] it (fun i h => h.IsKeyIter it d i kvs.length ep) where
 mem := by simp
 obj := fun i h st b hb => by
  have e : b = it := by simpa using hb
  subst e
  obtain ⟨o, e, c, d⟩ := st
  exact ⟨o, e, fun v z => by rw [d] at z; cases z⟩
 keep := fun i h h' st k => st.at fun o e => k it (by simp) o e
 item := by
  intro X hP hw hK hc i pins s σ H E I hf st hg
  subst hP hw hK
  obtain ⟨hd, hi⟩ := hg
  obtain ⟨f0, f1, f2, f3, f4, f5⟩ := hf it (by simp)
  obtain ⟨hob, z, hsm, vs, rel, dd⟩ := (show ZE3 X.prog X.w H s.heap d (.frz o (.dK kvs)) from I.hok d _ hd)
  obtain ⟨ep', dd⟩ := dd.dictAt
  obtain ⟨o2, es2, g1, g2, g3, g4⟩ := id dd
  rw [hob] at g1
  cases g1
  rw [ho] at g3
  cases g3
  have hlen : kvs.length = vs.length := rel.length
  obtain ⟨q, hq, eq⟩ := ZW4 rel (List.getElem?_eq_getElem hi)
  rw [hlen] at st
  refine wpAny_pyNext_dict_item (knd := ZFI X.prog X.w) (k := q.1) (v := q.2) st dd hq fun key h' hkey hit' hs' => ?_
  have I1 : Inv X pins σ H { s with heap := h' } := I.turned (t' := s.toks) (fun b o hb e => (hs'.2 b hb).trans e) f0 f1 f3 f4 f5
  obtain ⟨o3, e3, c3, d3⟩ := id hit'
  refine ⟨key, rfl, ZMS (s := { s with heap := h' }) e3 c3 d3 (by decide) ⟨kV kvs[i].1, H, I1, ?_, ⟨rfl, _, List.getElem?_eq_getElem hi, rfl⟩, ?_, fun b hb => (hf b hb).1⟩⟩
  ·rw [← eq]; exact ZQh hkey
  ·rw [hlen]; exact hit'
 done := by
  intro X hP hw hK hc i pins s σ H E I hf st hg
  subst hP hw hK
  obtain ⟨hd, hi⟩ := hg
  obtain ⟨f0, f1, f2, f3, f4, f5⟩ := hf it (by simp)
  obtain ⟨hob, z, hsm, vs, rel, dd⟩ := (show ZE3 X.prog X.w H s.heap d (.frz o (.dK kvs)) from I.hok d _ hd)
  obtain ⟨ep', dd⟩ := dd.dictAt
  obtain ⟨o2, es2, g1, g2, g3, g4⟩ := id dd
  rw [hob] at g1
  cases g1
  rw [ho] at g3
  cases g3
  have hlen : kvs.length = vs.length := rel.length
  rw [hlen] at st
  exact wpAny_pyNext_dict_end (knd := ZFI X.prog X.w) (I.ok.hd hc) st dd (List.getElem?_eq_none (by omega)) fun h' eb => ⟨rfl, I.turned (t' := s.toks) (fun b o hb e => eb b o hb e) f0 f1 f3 f4 f5⟩
 self := fun _ _ _ _ _ st h => wpAny_pyIter_keyiter st h
def ZJy (X : Cx) (d : Addr) : Prop := ∀ o u, X.H₀ d ≠ some (.frz o u)
def ZNS (X : Cx) (R : It → Hp → Prop) (v : V) (H : Hp) : Prop := ∃ d kvs, v = .ref d ∧ H d = some (.dK kvs) ∧ ∀ o, ZJy X d → R (Itk d o kvs) (upd H d (.frz o (.dK kvs)))
def ZTL (X : Cx) (te : TE) : TI := fun σ H R => te σ H fun v H1 => ZNS X R v H1
section
variable {X : Cx} {tg e : Expr} {te t : TE}
theorem ZUa (he : QE X e te) : QI X tg e (ZTL X te) := by
 refine ⟨?_⟩
 intro pins s σ H R I h
 refine thn (he.h pins s σ H _ I h) fun u s1 ⟨x, H1, I1, rx, d, kvs, ex, hd, q⟩ => ?_
 subst ex
 obtain rfl : u = Value.ref d := rx
 obtain ⟨z, hsm, vs, rel, dd⟩ := ZO3 I1.hok hd
 obtain ⟨ep, dda⟩ := dd.dictAt
 obtain ⟨o, es, ho, hx, hdat, hk, hpr, hn⟩ := id dda
 have hnf : ZJy X d := fun o u e => by
  have := I1.base.frzs d o u e
  rw [hd] at this
  cases this
 have hlen : kvs.length = vs.length := rel.length
 -- frozen
 have I2 : Inv X pins σ (upd H1 d (.frz o (.dK kvs))) s1 := by
  have := ZJs (h' := s1.heap) (t' := s1.toks) (ob := .frz o (.dK kvs)) I1 (by rw [hd]; exact True.intro) (Heap.SameBut.refl _ _) ⟨o, ho⟩ ⟨ho, ZQC z hsm rel dd⟩
  exact this
 refine wpAny_pyIter_dict (knd := ZFI X.prog X.w) hsm dda ?_
 refine ⟨s1.heap.objs.size, [s1.heap.objs.size], _, _, _, rfl, I2.kept (t' := s1.toks) fun b o e => Heap.get?_push_of_some _ e, ZQi d _ o kvs es ep hdat, ?_, fun b hb => ?_, q o hnf⟩
 ·rw [hlen]
  exact ⟨_, Heap.get?_push_size _ rfl, rfl, rfl⟩
 ·have e : b = s1.heap.objs.size := by simpa using hb
  subst e
  exact I2.fpOk (Nat.le_refl _) (I2.hok.fresh (Nat.le_refl _))
theorem Inv.thaw {pins : List (Addr × Obj)} {σ : St} {H : Hp} {s : Shared} {d : Addr} {o : Obj} {u : HO} (I : Inv X pins σ H s) (hd : H d = some (.frz o u)) (nf : ZJy X d) (hu : Mut (some u)) : Inv X pins σ (upd H d u) s := by
 have hne : ∀ b ob, H b = some ob → (∀ o u, ob ≠ .frz o u) → b ≠ d := fun b ob e n z => by rw [z, hd] at e; cases e; exact n _ _ rfl
 have hnn : ∀ b, H b = none → b ≠ d := fun b e z => by rw [z, hd] at e; cases e
 obtain ⟨ho, hou⟩ := (show ZE3 X.prog X.w H s.heap d (.frz o u) from I.hok d _ hd)
 have base := I.base
 refine ⟨I.ok, I.os, I.bare, ⟨base.keep, base.slot, fun b ob e n hx => ?_, base.there, fun b xs e => ?_, fun b ob v e => ?_, fun b ps e => ?_⟩, I.loc, I.cell, ?_, fun x c e => ?_, fun p hp => ?_, fun b ob e => ?_, I.len⟩
 ·have := base.free b ob e n hx
  rw [ZEf (hnn b this)]; exact this
 ·have := base.tups b xs e
  rw [ZEf (hne b _ this fun _ _ z => by cases z)]; exact this
 ·have h1 := base.frzs b ob v e
  have : b ≠ d := fun z => by subst z; exact nf _ _ e
  rw [ZEf this]; exact h1
 ·obtain ⟨more, h1⟩ := base.tbls b ps e
  exact ⟨more, by rw [ZEf (hne b _ h1 fun _ _ z => by cases z)]; exact h1⟩
 ·rw [ZEf (hnn _ I.free)]; exact I.free
 ·rw [ZEf (hnn _ (I.freeC x c e))]; exact I.freeC x c e
 ·obtain ⟨h1, h2, h3⟩ := I.pin p hp
  exact ⟨h1, by rw [ZEf (hnn _ h2)]; exact h2, h3⟩
 ·by_cases hb : b = d
  ·subst hb
   rw [ZEa] at e
   cases e
   exact hou.stay (fun c v _ r => r) (fun c r => by rw [ZEf (hne c _ r fun _ _ z => by cases z)]; exact r) fun c xs r => by rw [ZEf (hne c _ r fun _ _ z => by cases z)]; exact r
  ·rw [ZEf hb] at e
   exact (I.hok b _ e).stay (fun c v _ r => r) (fun c r => by rw [ZEf (hne c _ r fun _ _ z => by cases z)]; exact r) fun c xs r => by rw [ZEf (hne c _ r fun _ _ z => by cases z)]; exact r
def ZPL (X : Cx) (v : V) (H : Hp) (Q : VK) : Prop := ∃ d o u, ZJy X d ∧ H d = some (.frz o u) ∧ Mut (some u) ∧ Q v (upd H d u)
def ZTM (X : Cx) (t : TE) : TE := fun σ H Q => t σ H fun v H' => ZPL X v H' Q
theorem ZUb (h : QE X e t) : QE X e (ZTM X t) := by
 refine ⟨?_⟩
 intro pins s σ H Q I hq
 refine thn (h.h pins s σ H _ I hq) fun u s1 ⟨x, H1, I1, rx, d, o, v, nf, hd, hm, q⟩ => ?_
 exact ⟨x, _, I1.thaw hd nf hm, rx, q⟩
end
section
variable {X : Cx} {σ : St} {H : Hp} {Q : VK} {R : It → Hp → Prop} {te t : TE} {d : Addr} {m : PL}
theorem ZSS (h : te σ H fun v H1 => ZNS X R v H1) : ZTL X te σ H R := h
theorem ZWY (h1 : H d = some (.dK (ZFL m))) (h : ∀ o H2, ZJy X d → H2 d = some (.frz o (.dK (ZFL m))) → Kp d H H2 → R (Itk d o (ZFL m)) H2) : ZNS X R (.ref d) H := ⟨d, _, rfl, h1, fun o nf => h o _ nf ZEa Kp.upd⟩
theorem ZST (h : t σ H fun v H' => ZPL X v H' Q) : ZTM X t σ H Q := h
theorem ZUc {v : V} {o : Obj} (nf : ZJy X d) (hd : H d = some (.frz o (.dK (ZFL m)))) (q : ∀ H2, H2 d = some (.dK (ZFL m)) → Kp d H H2 → Q v H2) : ZPL X v H Q := ⟨d, o, _, nf, hd, True.intro, q _ ZEa Kp.upd⟩
theorem ZSU {o : Obj} {t v : Int} (h1 : H d = some (.frz o (.dK (ZFL m)))) (h2 : ZFe m t = some v) (h : Q (.int v) H) : ZO7 (.ref d) (.int t) H Q :=
 ⟨d, _, rfl, .inl ⟨ZFL m, .inl t, .inr ⟨o, h1⟩, rfl, by rw [ZJU, h2]; rfl⟩, h⟩
theorem ZW5 {i : Nat} (hi : i < m.length) : (ZFL m)[i]? = some (dkE m[i]) := by
 unfold ZFL
 rw [List.getElem?_map, List.getElem?_eq_getElem hi]
 rfl
end
section
variable {K : Type} [DecidableEq K]
def ZHi (xs : List (K × Addr × Value)) (k : K) : List (K × Addr × Value) := xs.filter fun x => decide (x.1 ≠ k)
theorem ZL2 {α β : Type} (f : α → β) : ∀ (l : List α) (j : Nat), (l.map f).eraseIdx j = (l.eraseIdx j).map f
 | [], _ => rfl
 | _ :: _, 0 => rfl
 | x :: l, j + 1 => congrArg (f x :: ·) (ZL2 f l j)
theorem ZPM {k : K} : ∀ {xs : List (K × Addr × Value)}, k ∉ xs.map (·.1) → ZHi xs k = xs := fun {xs} h => by
 unfold ZHi
 rw [List.filter_eq_self]
 intro x hx
 simp only [decide_eq_true_eq]
 exact fun e => h (List.mem_map.mpr ⟨x, hx, e⟩)
theorem ZJ9 {k : K} {p : Addr × Value} : ∀ {xs : List (K × Addr × Value)} {j : Nat}, (xs.map (·.1)).Nodup → xs[j]? = some (k, p) → xs.eraseIdx j = ZHi xs k
 | [], j, _, h => by simp at h
 | x :: xs, 0, n, h => by
  simp at h
  subst h
  rw [List.map_cons, List.nodup_cons] at n
  rw [List.eraseIdx_cons_zero]
  unfold ZHi
  rw [List.filter_cons_of_neg (by simp)]
  exact (ZPM n.1).symm
 | x :: xs, j + 1, n, h => by
  rw [List.map_cons, List.nodup_cons] at n
  have h' : xs[j]? = some (k, p) := by simpa using h
  have hne : x.1 ≠ k := fun e => n.1 (by rw [e]; exact List.mem_map.mpr ⟨(k, p), List.mem_of_getElem? h', rfl⟩)
  rw [List.eraseIdx_cons_succ]
  unfold ZHi
  rw [List.filter_cons_of_pos (by simpa using hne)]
  congr 1
  exact ZJ9 n.2 h'
variable {prog : Program} {w : World} {knd : HeapKind prog w K} {A : Around} {E : Value → Shared → Prop} {s : Shared} {d a : Addr} {k : K} {xs : List (K × Addr × Value)}
theorem ZSV {Q : Option DictEntry → Shared → Prop} (hu : knd.room A) (hkey : knd.is s.heap k a) (hm : s.heap.DictOfH knd d xs) (hsz : xs.length ≤ sizeLine)
  (hnone : atKey xs k = none → Q none { s with toks := s.toks + knd.draws k })
  (hsome : ∀ e p, atKey xs k = some p → e.val = p.2 → ∀ h', h'.DictOfH knd d (ZHi xs k) → Heap.SameBut d s.heap h' → Q (some e) { s with heap := h', toks := s.toks + knd.draws k }) :
  wpAny (model prog w) A (Builtin.Dict.takeOut d (.ref a)) Q E s := by
 obtain ⟨o, es, ep, ho, hc, hd, he, his, hn⟩ := hm
 unfold Builtin.Dict.takeOut
 try with_reducible refine wpAny_holding ?_
 refine wpAny_bind (knd.pyHash hu hkey (wpAny_bind (wpAny_dictFind_heap (s := { s with toks := s.toks + knd.draws k }) hu hkey ho hd he his hn ?_ ?_)))
 ·intro hno
  exact wpAny_pure (hnone (atKey_none_of_get hno))
 ·intro j p hj
  refine wpAny_bind (wpAny_dictEntries (s := { s with toks := s.toks + knd.draws k }) ho hd ?_)
  rw [entry_at he j, hj]
  refine wpAny_bind (wpAny_updateDictKeys (hz := by have e := size_of_entries he; omega) (s := { s with toks := s.toks + knd.draws k }) ho hd (wpAny_pure (hsome _ p (atKey_of_get hn hj) rfl _ ⟨_, _, ep + 1, Heap.get?_update_self _ ho (Obj.isFreed_of_dict (Obj.data_mapDictKeys hd _)),
   hc.mapDictKeys _, Obj.data_mapDictKeys hd _, ?_, ?_, ?_⟩ (Heap.SameBut.update ..))))
  ·rw [← ZJ9 hn hj, ← ZL2, ← he]
   obtain ⟨l⟩ := es
   simp
  ·intro x hx
   exact knd.keeps (his x (List.mem_filter.mp hx).1) ho hd (Heap.SameBut.update ..)
  ·exact hn.sublist ((List.filter_sublist).map _)
theorem ZNz (knd : HeapKind prog w K) (d a : Addr) (hd : (d == sysModules) = false) (dflt : Value) :
  MeetsIn prog w (Builtin.«dict.pop» ⟨[.ref d, .ref a, dflt], []⟩) (fun A R s => knd.room A.in1 ∧ ∃ k xs, knd.is s.heap k a ∧ s.heap.DictOfH knd d xs ∧ xs.length ≤ sizeLine ∧
   (∀ p, atKey xs k = some p → ∀ h', h'.DictOfH knd d (ZHi xs k) → Heap.SameBut d s.heap h' → ∀ t, R (.ok (.ret p.2)) { s with heap := h', toks := t }) ∧
   (atKey xs k = none → ∀ t, R (.ok (.ret dflt)) { s with toks := t })) :=
 .of_wp fun A R s ⟨hu, k, xs, hkey, hm, hsz, h1, h2⟩ => by
  have hd' := hd
  unfold Builtin.«dict.pop»
  refine wpAny_bind ?_
  unfold Builtin.Dict.keyAndDefault
  refine wpAny_bind (wpAny_notOrdered_dict hm.typeIs ?_)
  show wpAny _ _ (pure (d, Value.ref a, some dflt)) _ _ s
  refine wpAny_pure ?_
  obtain ⟨o, es, ep, ho, hc, hdd, he, his, hn⟩ := id hm
  have hkp : (keyPart (Value.ref a)).isSome = false := rfl
  simp only [hkp, Bool.false_eq_true, if_false]
  refine wpAny_bind (wpAny_dictEntries ho hdd (wpAny_bind (wpAny_pure ?_)))
  by_cases hem : es.isEmpty = true
  ·rw [if_pos hem]
   have hx : xs = [] := by
    have := size_of_entries he
    have h0 : es.size = 0 := by simpa [Array.isEmpty] using hem
    exact List.length_eq_zero_iff.mp (by omega)
   subst hx
   refine wpAny_bind (wpAny_rule (wpAny_bind (wpAny_pure ?_)))
   simp only [Option.isNone_none, if_true]
   refine wpAny_bind (wpAny_missedRemoval_other hd ?_)
   exact wpAny_bind (wpAny_rule (wpAny_pure ⟨dflt, rfl, h2 rfl _⟩))
  ·rw [if_neg hem]
   refine wpAny_bind (ZSV hu hkey hm hsz (fun hno => ?_) fun e p hp hev h' hm' hs' => ?_)
   ·simp only [Option.isNone_none, if_true]
    refine wpAny_bind (wpAny_missedRemoval_other hd ?_)
    exact wpAny_bind (wpAny_rule (wpAny_pure ⟨dflt, rfl, h2 hno _⟩))
   ·simp only [Option.isNone_some, Bool.false_eq_true, if_false]
    exact wpAny_bind (wpAny_letGo (wpAny_pure ⟨e.val, rfl, by rw [hev]; exact h1 p hp h' hm' hs' _⟩))
end
theorem KT.dropT {H : Hp} {kvs : List (List Key × V)} {xs : List (List Key × Addr × Value)} (r : KT H kvs xs) (k : List Key) : KT H (ZHP kvs k) (ZHi xs k) := by
 unfold ZHP ZHi
 induction r with
 | nil => exact .nil
 | @cons p q ps qs h t ih =>
  by_cases e : p.1 = k
  ·rw [List.filter_cons_of_neg (by simpa using e), List.filter_cons_of_neg (by simpa using h.1.symm.trans e)]
   exact ih
  ·rw [List.filter_cons_of_pos (by simpa using e), List.filter_cons_of_pos (by simpa using fun z => e (h.1.trans z))]
   exact .cons h ih
section
variable {X : Cx} {pins : List (Addr × Obj)} {σ : St} {H : Hp} {s : Shared} {a b : Addr} {kvs : List (List Key × V)} {k : List Key} {A : Around} {E : Value → Shared → Prop}
theorem ZWZ {z : V} {r : Value} {Q : Value → Shared → Prop} (hu : A.units + 1 < cLine) (I : Inv X pins σ H s) (e : H a = some (.dT kvs)) (eb : H b = some (.tup (k.map kV))) (rz : ZEd z r)
  (h1 : ∀ v, ZEp kvs k = some v → ∀ w' s', Inv X pins σ (upd H a (.dT (ZHP kvs k))) s' → ZEd v w' → Q w' s') (h2 : ZEp kvs k = none → ∀ s', Inv X pins σ H s' → Q r s') :
  wpAny (model X.prog X.w) A (call (.builtin "dict.pop") [.ref a, .ref b, r]) Q E s := by
 obtain ⟨z, hd, xs, rel, dd⟩ := ZTI I.hok e
 have hz : xs.length ≤ sizeLine := by rw [← Paired.length rel]; exact z
 refine call_meetsIn PySem.F.slot_dict_pop dd.typeIs PySem.F.entry_dict_pop (PySem.F.args_dict_pop_3 _ _ _) (ZNz (tupleKind (ZFI X.prog X.w)) a b hd r) ⟨tupleKind_room_in1 hu, k, xs, ZHt I.hok eb, dd, hz, fun p hp h' dd' hs t => ?_, fun hn t => ?_⟩
 ·have hv := rel.val k
  rw [hp] at hv
  cases hk : ZEp kvs k with
  | none => rw [hk] at hv; exact hv.elim
  | some v =>
   rw [hk] at hv
   refine h1 v hk _ _ ?_ hv
   obtain ⟨q, es, ep, hq, g2, g3, g4, _, g5⟩ := dd'
   refine ZJs I (by rw [e]; exact True.intro) hs ⟨q, hq⟩ ⟨Nat.le_trans (List.length_filter_le _ _) z, hd, _, (rel.dropT k).keeps fun c ys ec => ?_, q, es, ep, hq, g2, g3, g4, g5⟩
   rw [ZEf (ZS9 ec e (fun z => nomatch z))]
   exact ec
 ·have hv := rel.val k
  rw [hn] at hv
  cases hk : ZEp kvs k with
  | some v => rw [hk] at hv; exact hv.elim
  | none => exact h2 hk _ (I.tok _)
end
def ZNT (a : Addr) (y z : V) (H : Hp) (Q : VK) : Prop := ∃ kvs k b, H a = some (.dT kvs) ∧ y = .ref b ∧ H b = some (.tup (k.map kV)) ∧
 (∀ v, ZEp kvs k = some v → Q v (upd H a (.dT (ZHP kvs k)))) ∧ (ZEp kvs k = none → Q z H)
def ZLf (ty tx : TE) (σ : St) (Q : VK) (x : V) (H : Hp) : Prop := ∃ a, x = .ref a ∧ IsD H a ∧ ty σ H fun y H2 => tx σ H2 fun z H3 => ZNT a y z H3 Q
def ZNU (td ty tx : TE) : TE := fun σ H Q => td σ H fun x H1 => ZLf ty tx σ Q x H1
theorem ZSW {X : Cx} {o e f : Expr} {apos cpos : Pos} {td ty tx : TE} (hu : X.A.units + 1 < cLine) (ho : PE X o td) (he : PE X e ty) (hf : PE X f tx) (m : M2 X o "pop" apos e f cpos) : PE X (.Call (.Attribute o "pop" apos) [e, f] [] cpos) (ZNU td ty tx) := by
 intro pins s σ H Q I h
 refine wpAny_Call_method m.base m.few m.line PySem.F.plainAttrs_dict PySem.F.slot_dict_pop PySem.F.type_dict_pop (thn (ho pins s σ H _ I h) fun u s1 ⟨x, H1, I1, rx, a, ex, d, q1⟩ => ?_)
 subst ex
 obtain rfl : u = Value.ref a := rx
 obtain ⟨t1, t2, _⟩ := ZQE I1 d
 refine ⟨t1, t2, ?_⟩
 rw [m.trees]
 refine Calls.callWith_builtin rfl (Calls.evalArgs_plain (Calls.spliced_cons (thn (he pins s1 σ H1 _ I1 q1) fun iv s2 ⟨y, H2, I2, ry, q2⟩ =>
  Calls.spliced_cons (thn (hf pins s2 σ H2 _ I2 q2) fun fv s3 ⟨z, H3, I3, rz, kvs, k, b, ea, ey, eb, q3, q4⟩ => Calls.spliced_nil ?_))))
 subst ey
 obtain rfl : iv = Value.ref b := ry
 exact ZWZ hu I3 ea eb rz (fun v l w' s4 I4 rw' => ⟨v, _, I4, rw', q3 v l⟩) fun l s4 I4 => ⟨z, H3, I4, rz, q4 l⟩
section
variable {X : Cx} {o e f : Expr} {apos cpos pos p : Pos} {td ty tx : TE}
theorem ZSX (hu : X.A.units + 1 < cLine) (ho : QE X o td) (he : QE X e ty) (hf : QE X f tx) (m : M2 X o "pop" apos e f cpos := by exact ⟨rfl, rfl, rfl, rfl⟩) : QE X (.Call (.Attribute o "pop" apos) [e, f] [] cpos) (ZNU td ty tx) := ⟨ZSW hu ho.h he.h hf.h m⟩
variable {σ : St} {H : Hp} {Q : VK} {a b : Addr} {kvs : List (List Key × V)} {k : List Key} {z : V}
theorem ZQj (h : td σ H fun x H1 => ZLf ty tx σ Q x H1) : ZNU td ty tx σ H Q := h
theorem ZQk (h1 : H a = some (.dT kvs)) (q : ty σ H fun y H2 => tx σ H2 fun z H3 => ZNT a y z H3 Q) : ZLf ty tx σ Q (.ref a) H := ⟨a, rfl, .inr ⟨kvs, .inl h1⟩, q⟩
theorem ZPN (h : ZEp kvs k = none) : ZHP kvs k = kvs := by
 unfold ZHP
 rw [List.filter_eq_self]
 intro x hx
 simp only [decide_eq_true_eq]
 intro e
 unfold ZEp at h
 rw [Option.map_eq_none_iff, List.find?_eq_none] at h
 exact h x hx (by simpa using e)
theorem ZSY (h1 : H a = some (.dT kvs)) (hb : H b = some (.tup (k.map kV))) (q : ∀ v H2, H2 a = some (.dT (ZHP kvs k)) → Kp a H H2 → Q v H2) : ZNT a (.ref b) z H Q :=
 ⟨kvs, k, b, h1, rfl, hb, fun v _ => q v _ ZEa Kp.upd, fun l => q z H (by rw [ZPN l]; exact h1) fun _ _ e _ => e⟩
theorem ZLg (h1 : H a = some (.dT kvs)) (hb : H b = some (.tup (k.map kV))) (q : Q (.bl (ZEp kvs k).isSome) H) : ZWX (.ref b) (.ref a) H Q := ⟨a, _, rfl, ZFx.t h1 hb, q⟩
theorem ZPO (h1 : H a = some (.dT kvs)) (hb : H b = some (.tup (k.map kV))) (q : Q (.bl (!(ZEp kvs k).isSome)) H) : ZNR (.ref b) (.ref a) H Q := ⟨a, _, rfl, ZFx.t h1 hb, q⟩
end
def ZI2 (n : Nat) : List V := (List.range n).map fun (i : Nat) => V.int (i : Int)
def ZKY (vs : List V) (H : Hp) (Q : VK) : Prop := ∃ j : Int, vs = [.int j] ∧ 0 ≤ j ∧ j ≤ 1000 ∧ ∀ l, H l = none → Q (.ref l) (upd H l (.lst (ZI2 j.toNat)))
def ZNV (ta : TA) : TE := fun σ H Q => ta σ H fun vs H1 => ZKY vs H1 Q
theorem ZSZ : ∀ (n : Nat) (its : List Value), its.length = n → (∀ (j : Nat) v, its[j]? = some v → ∃ t, v = Value.int (j : Int) t) → ZEg (ZI2 n) its := by
 intro n
 induction n with
 | zero =>
  intro its h _
  obtain rfl := List.length_eq_zero_iff.mp h
  exact .nil
 | succ n ih =>
  intro its h g
  have hl : n < its.length := by omega
  have e : its = its.take n ++ [its[n]] := by
   rw [← List.take_succ_eq_append_getElem hl, List.take_of_length_le (by omega)]
  have h1 : ZEg (ZI2 n) (its.take n) := ih _ (by rw [List.length_take]; omega) fun j v hv => by
   rw [List.getElem?_take] at hv
   split at hv
   ·exact g j v hv
   ·cases hv
  rw [e]
  have : ZI2 (n + 1) = ZI2 n ++ [V.int (n : Int)] := by unfold ZI2; rw [List.range_succ, List.map_append]; rfl
  rw [this]
  obtain ⟨t, ht⟩ := g n _ (List.getElem?_eq_getElem hl)
  exact Paired.snoc h1 ⟨t, ht⟩
section
variable {X : Cx} {a : Expr} {ta : TA} {p p2 pos pos2 : Pos}
theorem ZLF (hc : X.calm = true) (hgl : Gl X "list") (hml : X.mg "list" = none) (hg : Gl X "range") (hm : X.mg "range" = none) (ha : QA X [a] ta) (hs : ZGh a = false := by rfl) :
  QE X (.Call (.Name "list" p) [.Call (.Name "range" p2) [a] [] pos2] [] pos) (ZNV ta) := by
 refine ⟨?_⟩
 intro pins s σ H Q I h
 refine wpAny_Call_Name_kw (ZHT I hgl hml ZTw ?_ (by decide) (by decide))
 refine PyProof.Rows.callWith_type1 ?_ rfl rfl
 show wpAny _ _ (spliced ((false, eval (.Call (.Name "range" p2) [a] [] pos2) X.env) :: backTo pos (starEach [] X.env))) _ _ s
 refine Calls.spliced_cons ?_
 refine Call_ (ZHT I hg hm boot_range (PyProof.Rows.callWith_type1 (thn (ha.h pos2 pins s σ H _ I h) fun us s1 ⟨vs, H1, I1, r1, q1⟩ => ?_) (ZGq hs) rfl))
 obtain ⟨j, e, q1, q2, q⟩ := q1
 subst e
 cases r1 with
 | cons r rr =>
  cases rr
  obtain ⟨t, rfl⟩ := r
  refine call_range_1 (Calls.spliced_nil ?_)
  have I2 : Inv X pins σ H1 { s1 with heap := s1.heap.push { cls := .type "range", data := .fields #[.int 0 s1.toks, .int j t, .int 1 (s1.toks + 1)] }, toks := s1.toks + 1 + 1 } := I1.kept fun b o e => Heap.get?_push_of_some _ e
  refine call_list_range (n := j.toNat) (I1.ok.hd hc) (IsRange.new ..) (small_one (by omega) (by omega) (by omega) (by omega)) ?_ (by omega) fun h' tk acc' c' hk hS hI => ?_
  ·rw [rangeSize_one]; split <;> omega
  ·refine ⟨.ref _, _, I2.laid (o := .lst (ZI2 j.toNat)) (t' := tk) hk (Nat.le_refl _) ?_, rfl, q _ (I2.hok.fresh (Nat.le_refl _))⟩
   refine ⟨?_, acc'.toList, c', ZSZ _ _ ?_ fun i v hv => ?_, ?_⟩
   ·unfold ZI2; rw [List.length_map, List.length_range]; show _ ≤ 2 ^ 24; omega
   ·rw [Array.length_toList]; exact hI.1
   ·obtain ⟨t, ht⟩ := hI.2 i v (by rw [← Array.getElem?_toList]; exact hv)
    exact ⟨t, by rw [ht]; simp⟩
   ·rw [hS]
theorem ZN0 {σ : St} {H : Hp} {Q : VK} (h : ta σ H fun vs H1 => ZKY vs H1 Q) : ZNV ta σ H Q := h
theorem ZLG {H : Hp} {Q : VK} {j : Int} (h0 : 0 ≤ j) (h1 : j ≤ 1000) (q : ∀ l H2, H l = none → H2 l = some (.lst (ZI2 j.toNat)) → ZEU H H2 → Q (.ref l) H2) : ZKY [.int j] H Q :=
 ⟨j, rfl, h0, h1, fun l hl => q l _ hl ZEa (ZEU.new hl)⟩
end
theorem ZQl {X : Cx} (K : W.Frag) (h : X.K = K) : OpR X (compareOp .In) (rIn K false) := h ▸ ZPv
def ZFu (l : List Nat) : List V := l.map fun (i : Nat) => V.int (i : Int)
theorem ZQm (l : List Nat) : (ZFu l).all ZHM = true := by
 unfold ZFu
 rw [List.all_map]
 simp [List.all_eq_true, ZHM, Function.comp]
theorem ZNW (k : Nat) : ∀ l : List Nat, inV (.int (k : Int)) (ZFu l) = decide (k ∈ l)
 | [] => rfl
 | x :: l => by
  have ih := ZNW k l
  unfold inV ZFu at ih ⊢
  rw [List.map_cons, List.any_cons, ih]
  by_cases e : x = k
  ·subst e; simp [eqV]
  ·have : ¬ ((x : Int) = (k : Int)) := by omega
   simp [eqV, this, e, Ne.symm e]
theorem ZQn {K : W.Frag} {H : Hp} {Q : VK} {p : Addr} {l : List Nat} {i : Int} {k : Nat} (hi : i = (k : Int)) (h1 : H p = some (.lst (ZFu l))) (q : Q (.bl (decide (k ∈ l))) H) : rIn K false (.int i) (.ref p) H Q :=
 ⟨p, _, rfl, .inl (SqL.of h1), rfl, ZQm l, by subst hi; rw [if_neg (by decide), ZNW]; exact q⟩
section
variable {prog : Program} {w : World} {A : Around} {E : Value → Shared → Prop} {s : Shared}
theorem ZL3 {x y : Int} {t u : Tok} {Q : Value → Shared → Prop} (h : Q (.bool (decide (x < y))) s) : wpAny (model prog w) A (richCompare .Lt (.int x t) (.int y u)) Q E s :=
 richCompare_gives (op := .Lt) (typeIs_int s _ t) (typeIs_int s _ u) F.slot_int_lt F.entry_int_lt (F.args_int_lt_2 _ _) (gives_int_lt _ _ t u) (fun x => nomatch x) h
theorem ZNX {a b : Addr} {oa ob : Obj} {na nb : Nat} {p q : Int × Int} {t1 t2 u1 u2 : Tok} {P : Fin → Shared → Prop} (hoa : s.heap.get? a = some oa) (hda : oa.data = .seq #[.int p.1 t1, .int p.2 t2] na)
  (hob : s.heap.get? b = some ob) (hdb : ob.data = .seq #[.int q.1 u1, .int q.2 u2] nb) (hT : s.TypeIs (.ref b) "tuple") (h : P (.done (.ret (.bool (ltP p q)))) s) :
  wpAny (model prog w) A (Builtin.«tuple.__lt__» ⟨[.ref a, .ref b], []⟩) P E s := by
 show wpAny _ _ (isInstance (.ref b) (.type "tuple") >>= _) _ _ s
 refine wpAny_bind (wpAny_isInstance hT isSubtype_tuple_tuple ?_)
 simp only [Bool.not_true, Bool.false_eq_true, if_false]
 refine wpAny_bind (wpAny_tupleItemsOf hoa hda ?_)
 refine wpAny_bind (wpAny_tupleItemsOf hob hdb ?_)
 refine wpAny_bind ?_
 simp only [List.zip_cons_cons, List.zip_nil_left, List.forIn_cons, List.forIn_nil]
 refine wpAny_bind (wpAny_bind (wpAny_eqBool_int ?_))
 by_cases e1 : p.1 = q.1
 ·rw [show (p.1 == q.1) = true by simpa using e1]
  simp only [Bool.not_true, Bool.false_eq_true, if_false]
  refine wpAny_pure ?_
  refine wpAny_bind (wpAny_bind (wpAny_eqBool_int ?_))
  by_cases e2 : p.2 = q.2
  ·rw [show (p.2 == q.2) = true by simpa using e2]
   simp only [Bool.not_true, Bool.false_eq_true, if_false]
   refine wpAny_pure (wpAny_pure ?_)
   have hl : ltP p q = false := ZFf.mpr (by omega)
   rw [hl] at h
   exact wpAny_pure h
  ·rw [show (p.2 == q.2) = false by simpa using e2]
   simp only [Bool.not_false, if_true]
   have hl : ltP p q = decide (p.2 < q.2) := by
    rw [Bool.eq_iff_iff, ZFn, decide_eq_true_iff]
    omega
   rw [hl] at h
   exact wpAny_bind (wpAny_rule (wpAny_bind (ZL3 (wpAny_bind (wpAny_pure (wpAny_pure (wpAny_pure (wpAny_pure h))))))))
 ·rw [show (p.1 == q.1) = false by simpa using e1]
  simp only [Bool.not_false, if_true]
  have hl : ltP p q = decide (p.1 < q.1) := by
   rw [Bool.eq_iff_iff, ZFn, decide_eq_true_iff]
   omega
  rw [hl] at h
  exact wpAny_bind (wpAny_rule (wpAny_bind (ZL3 (wpAny_bind (wpAny_pure (wpAny_pure (wpAny_pure (wpAny_pure h))))))))
theorem ZL4 {x y : Int} {t u : Tok} {Q : Value → Shared → Prop} (h : Q (.bool (decide (x > y))) s) : wpAny (model prog w) A (richCompare .Gt (.int x t) (.int y u)) Q E s :=
 richCompare_gives (op := .Gt) (typeIs_int s _ t) (typeIs_int s _ u) F.slot_int_gt F.entry_int_gt (F.args_int_gt_2 _ _) (gives_int_gt _ _ t u) (fun x => nomatch x) h
theorem ZNY {a b : Addr} {oa ob : Obj} {na nb : Nat} {p q : Int × Int} {t1 t2 u1 u2 : Tok} {P : Fin → Shared → Prop} (hoa : s.heap.get? a = some oa) (hda : oa.data = .seq #[.int p.1 t1, .int p.2 t2] na)
  (hob : s.heap.get? b = some ob) (hdb : ob.data = .seq #[.int q.1 u1, .int q.2 u2] nb) (hT : s.TypeIs (.ref b) "tuple") (h : P (.done (.ret (.bool (ltP q p)))) s) :
  wpAny (model prog w) A (Builtin.«tuple.__gt__» ⟨[.ref a, .ref b], []⟩) P E s := by
 show wpAny _ _ (isInstance (.ref b) (.type "tuple") >>= _) _ _ s
 refine wpAny_bind (wpAny_isInstance hT isSubtype_tuple_tuple ?_)
 simp only [Bool.not_true, Bool.false_eq_true, if_false]
 refine wpAny_bind (wpAny_tupleItemsOf hoa hda ?_)
 refine wpAny_bind (wpAny_tupleItemsOf hob hdb ?_)
 refine wpAny_bind ?_
 simp only [List.zip_cons_cons, List.zip_nil_left, List.forIn_cons, List.forIn_nil]
 refine wpAny_bind (wpAny_bind (wpAny_eqBool_int ?_))
 by_cases e1 : p.1 = q.1
 ·rw [show (p.1 == q.1) = true by simpa using e1]
  simp only [Bool.not_true, Bool.false_eq_true, if_false]
  refine wpAny_pure ?_
  refine wpAny_bind (wpAny_bind (wpAny_eqBool_int ?_))
  by_cases e2 : p.2 = q.2
  ·rw [show (p.2 == q.2) = true by simpa using e2]
   simp only [Bool.not_true, Bool.false_eq_true, if_false]
   refine wpAny_pure (wpAny_pure ?_)
   have hl : ltP q p = false := ZFf.mpr (by omega)
   rw [hl] at h
   exact wpAny_pure h
  ·rw [show (p.2 == q.2) = false by simpa using e2]
   simp only [Bool.not_false, if_true]
   have hl : ltP q p = decide (p.2 > q.2) := by
    rw [Bool.eq_iff_iff, ZFn, decide_eq_true_iff]
    omega
   rw [hl] at h
   exact wpAny_bind (wpAny_rule (wpAny_bind (ZL4 (wpAny_bind (wpAny_pure (wpAny_pure (wpAny_pure (wpAny_pure h))))))))
 ·rw [show (p.1 == q.1) = false by simpa using e1]
  simp only [Bool.not_false, if_true]
  have hl : ltP q p = decide (p.1 > q.1) := by
   rw [Bool.eq_iff_iff, ZFn, decide_eq_true_iff]
   omega
  rw [hl] at h
  exact wpAny_bind (wpAny_rule (wpAny_bind (ZL4 (wpAny_bind (wpAny_pure (wpAny_pure (wpAny_pure (wpAny_pure h))))))))
theorem ZPP {a b : Addr} {oa ob : Obj} {na nb : Nat} {p q : Int × Int} {t1 t2 u1 u2 : Tok} {Q : Value → Shared → Prop} (hu : A.units < cLine) (hoa : s.heap.get? a = some oa) (hda : oa.data = .seq #[.int p.1 t1, .int p.2 t2] na)
  (hob : s.heap.get? b = some ob) (hdb : ob.data = .seq #[.int q.1 u1, .int q.2 u2] nb) (hTa : s.TypeIs (.ref a) "tuple") (hT : s.TypeIs (.ref b) "tuple") (h : Q (.bool (ltP p q)) s) :
  wpAny (model prog w) A (richCompare .Lt (.ref a) (.ref b)) Q E s :=
 wpAny_richCompare_same_room hTa hT F.slot_tuple_lt (wpAny_call_entry F.slot_tuple_lt hTa F.entry_tuple_lt (ZNX hoa hda hob hdb hT ⟨_, rfl, (fun z => nomatch z), h⟩) (F.args_tuple_lt_2 _ _)) hu
theorem ZPQ {a b : Addr} {oa ob : Obj} {na nb : Nat} {p q : Int × Int} {t1 t2 u1 u2 : Tok} {Q : Value → Shared → Prop} (hu : A.units < cLine) (hoa : s.heap.get? a = some oa) (hda : oa.data = .seq #[.int p.1 t1, .int p.2 t2] na)
  (hob : s.heap.get? b = some ob) (hdb : ob.data = .seq #[.int q.1 u1, .int q.2 u2] nb) (hTa : s.TypeIs (.ref a) "tuple") (hT : s.TypeIs (.ref b) "tuple") (h : Q (.bool (ltP q p)) s) :
  wpAny (model prog w) A (richCompare .Gt (.ref a) (.ref b)) Q E s :=
 wpAny_richCompare_same_room hTa hT F.slot_tuple_gt (wpAny_call_entry F.slot_tuple_gt hTa F.entry_tuple_gt (ZNY hoa hda hob hdb hT ⟨_, rfl, (fun z => nomatch z), h⟩) (F.args_tuple_gt_2 _ _)) hu
end
theorem ZI3 {P : Program} {w : World} {H : Hp} {h : Heap} {a : Addr} {p : Int × Int} (ok : HOk P w H h) (e : H a = some (.tup [.int p.1, .int p.2])) : ∃ t1 t2 n o, h.get? a = some o ∧ o.data = .seq #[.int p.1 t1, .int p.2 t2] n ∧ o.cls = .type "tuple" := by
 obtain ⟨_, its, r, o, h1, h2, n, h3⟩ := (show ZE3 P w H h a (.tup [.int p.1, .int p.2]) from ok a _ e)
 cases r with
 | cons r1 r =>
  cases r with
  | cons r2 r =>
   cases r
   obtain ⟨t1, rfl⟩ := r1
   obtain ⟨t2, rfl⟩ := r2
   exact ⟨t1, t2, n, o, h1, h3, by first | exact h2.1 | exact h2⟩
theorem ZMI {X : Cx} {pins : List (Addr × Obj)} {σ : St} {H : Hp} (hc : X.calm = true) (hu : X.A.units + 1 < cLine) {l I S : Addr} {us : List V} {prs : PL} (hSI : S ≠ I) (hS : SqL X.K H l us) (hP : ZEY H us prs)
  (fI : ZFs X pins H I) (fS : ZFs X pins H S) {R : Result → Shared → Prop}
  (hR : ∀ i v u s', us[i]? = some v → ZEd v u → (∀ j, j < us.length → ltP (prs.getD j (0, 0)) (prs.getD i (0, 0)) = false) → Inv X pins σ H s' → R (.ok (.ret u)) s') :
  ∀ (r j i : Nat) (s : Shared) (v : V) (vb : Value) (c : Nat), us.length - (j + 1) = r → j + 1 ≤ us.length → Inv X pins σ H s → s.heap.get? S = some (seqObj "list" #[vb, vb] c) → s.heap.IsListIter I l (j + 1) →
   us[i]? = some v → ZEd v vb → i ≤ j → (∀ j', j' ≤ j → ltP (prs.getD j' (0, 0)) (prs.getD i (0, 0)) = false) →
   codeAny (model X.prog X.w) X.A (.builtin "min.loop" ⟨[.ref I, .none, .ref S], []⟩) R s := by
 have hname : (toString "min" ++ toString ".loop" : String) = "min.loop" := by decide
 intro r
 induction r with
 | zero =>
  intro j i s v vb c hr' hj J nS hit hv rv hij hbest
  have hin : j + 1 = us.length := by omega
  obtain ⟨its, rvs, p, hz⟩ := J.list hS
  have hl := rvs.length
  refine codeAny_builtin PySem.F.entry_min_loop ?_
  rw [Around.under_plainId PySem.F.plain_min_loop _]
  show wpAny _ X.A.in1 (seqItems? (.ref S) >>= _) _ _ _
  refine wpAny_bind (wpAny_seqItems nS rfl ?_)
  show wpAny _ X.A.in1 (tryCatch (pyNext (.ref I)) _ >>= _) _ _ _
  refine wpAny_bind (wpAny_tryCatch (wpAny_pyNext_list_end (J.ok.hd hc) hit (show s.heap.IsList l its.toArray from p.isList) (by simp; omega) fun h' eb => ?_))
  have J1 : Inv X pins σ H { s with heap := h' } := J.turnedAt (t' := s.toks) fI fun b o hb e => eb b o hb e
  have hS' : h'.get? S = some (seqObj "list" #[vb, vb] c) := eb S _ hSI nS
  show wpAny _ X.A.in1 (updateSeq S (fun _ => #[]) >>= _) _ _ _
  refine wpAny_bind ?_
  refine wpAny_updateSeq hS' rfl (wpAny_bind (wpAny_letGo (wpAny_pure ?_)))
  exact hR i v vb _ hv rv (fun j' hj' => hbest j' (by omega)) (J1.turnedAt (t' := s.toks) fS fun b o hb e => (Heap.get?_update_other _ _ (Ne.symm hb)).trans e)
 | succ r ih =>
  intro j i s v vb c hr' hj J nS hit hv rv hij hbest
  have hlt : j + 1 < us.length := by omega
  obtain ⟨its, rvs, p, hz⟩ := J.list hS
  have hx : us[j + 1]? = some us[j + 1] := List.getElem?_eq_getElem hlt
  obtain ⟨u, hu', ru⟩ := rvs.get hx
  refine codeAny_builtin PySem.F.entry_min_loop ?_
  rw [Around.under_plainId PySem.F.plain_min_loop _]
  show wpAny _ X.A.in1 (seqItems? (.ref S) >>= _) _ _ _
  refine wpAny_bind (wpAny_seqItems nS rfl ?_)
  show wpAny _ X.A.in1 (tryCatch (pyNext (.ref I)) _ >>= _) _ _ _
  refine wpAny_bind (wpAny_tryCatch (wpAny_pyNext_list_item hit (show s.heap.IsList l its.toArray from p.isList) (x := u) (by simpa using hu') fun h' st' sb => ?_))
  have J1 : Inv X pins σ H { s with heap := h' } := J.turnedAt (t' := s.toks) fI fun b o hb e => (sb.2 b hb).trans e
  have hS' : h'.get? S = some (seqObj "list" #[vb, vb] c) := (sb.2 S hSI).trans nS
  obtain ⟨oI, hoI, hoc, hod⟩ := id st'
  obtain ⟨ca, pa, ea, hpa, hca⟩ := hP.at hx
  obtain ⟨cb, pb, eb, hpb, hcb⟩ := hP.at hv
  have hpa' : prs.getD (j + 1) (0, 0) = pa := by rw [List.getD, hpa]; rfl
  have hpb' : prs.getD i (0, 0) = pb := by rw [List.getD, hpb]; rfl
  rw [ea] at ru
  cases (show u = Value.ref ca from ru)
  have rv0 := rv
  rw [eb] at rv0
  cases (show vb = Value.ref cb from rv0)
  obtain ⟨ta1, ta2, na, oa, ga1, ga2, ga3⟩ := ZI3 J1.hok hca
  obtain ⟨tb1, tb2, nb, ob, gb1, gb2, gb3⟩ := ZI3 J1.hok hcb
  show wpAny _ X.A.in1 (tryCatch (holding [.ref ca, .ref ca] (richCompare .Lt (.ref ca) (.ref cb) >>= _)) _ >>= _) _ _ _
  refine wpAny_bind (wpAny_tryCatch (wpAny_holding (wpAny_bind (ZPP (s := { s with heap := h' }) hu ga1 ga2 gb1 gb2 ⟨_, ga1, ga3⟩ ⟨_, gb1, gb3⟩ ?_))))
  refine wpAny_bind (wpAny_holding (wpAny_truthy_bool ?_))
  refine wpAny_bind (wpAny_letGo (wpAny_pure ?_))
  cases hb' : ltP pa pb with
  | true =>
   obtain ⟨c2, hc2⟩ : ∃ c2, (h'.update S (Obj.mapSeq fun _ => #[.ref ca, .ref ca])).get? S = some (seqObj "list" #[.ref ca, .ref ca] c2) := ⟨_, get?_update_seq hS' fun _ => #[.ref ca, .ref ca]⟩
   simp only [if_true]
   refine wpAny_bind ?_
   refine wpAny_updateSeq hS' rfl (wpAny_bind (wpAny_letGo ?_))
   rw [hname]
   refine wpAny_pure ⟨plainId_quiet PySem.F.plain_min_loop _, ih (j + 1) (j + 1) _ _ (.ref ca) c2 (by omega) hlt (J1.turnedAt (t' := s.toks) fS fun b o hb e => (Heap.get?_update_other _ _ (Ne.symm hb)).trans e) hc2 ⟨oI, (Heap.get?_update_other _ _ hSI).trans hoI, hoc, hod⟩ hx (by rw [ea]; rfl) (Nat.le_refl _) fun j' hj' => ?_⟩
   rw [hpa']
   have hb1 := ZFn.mp hb'
   rw [ZFf]
   by_cases e : j' = j + 1
   ·subst e
    rw [hpa']
    omega
   ·have hb2 := hbest j' (by omega)
    rw [hpb', ZFf] at hb2
    omega
  | false =>
   simp only [Bool.false_eq_true, if_false]
   refine wpAny_bind (wpAny_letGo ?_)
   rw [hname]
   refine wpAny_pure ⟨plainId_quiet PySem.F.plain_min_loop _, ih (j + 1) i _ v (.ref cb) c (by omega) hlt J1 hS' ⟨oI, hoI, hoc, hod⟩ hv rv (by omega) fun j' hj' => ?_⟩
   by_cases e : j' = j + 1
   ·subst e
    rw [hpa', hpb']
    exact hb'
   ·exact hbest j' (by omega)
theorem ZMJ {X : Cx} {pins : List (Addr × Obj)} {σ : St} {H : Hp} (hc : X.calm = true) (hu : X.A.units + 1 < cLine) {l I S : Addr} {us : List V} {prs : PL} (hSI : S ≠ I) (hS : SqL X.K H l us) (hP : ZEY H us prs)
  (fI : ZFs X pins H I) (fS : ZFs X pins H S) {R : Result → Shared → Prop}
  (hR : ∀ i v u s', us[i]? = some v → ZEd v u → (∀ j, j < us.length → ltP (prs.getD i (0, 0)) (prs.getD j (0, 0)) = false) → Inv X pins σ H s' → R (.ok (.ret u)) s') :
  ∀ (r j i : Nat) (s : Shared) (v : V) (vb : Value) (c : Nat), us.length - (j + 1) = r → j + 1 ≤ us.length → Inv X pins σ H s → s.heap.get? S = some (seqObj "list" #[vb, vb] c) → s.heap.IsListIter I l (j + 1) →
   us[i]? = some v → ZEd v vb → i ≤ j → (∀ j', j' ≤ j → ltP (prs.getD i (0, 0)) (prs.getD j' (0, 0)) = false) →
   codeAny (model X.prog X.w) X.A (.builtin "max.loop" ⟨[.ref I, .none, .ref S], []⟩) R s := by
 have hname : (toString "max" ++ toString ".loop" : String) = "max.loop" := by decide
 intro r
 induction r with
 | zero =>
  intro j i s v vb c hr' hj J nS hit hv rv hij hbest
  have hin : j + 1 = us.length := by omega
  obtain ⟨its, rvs, p, hz⟩ := J.list hS
  have hl := rvs.length
  refine codeAny_builtin PySem.F.entry_max_loop ?_
  rw [Around.under_plainId PySem.F.plain_max_loop _]
  show wpAny _ X.A.in1 (seqItems? (.ref S) >>= _) _ _ _
  refine wpAny_bind (wpAny_seqItems nS rfl ?_)
  show wpAny _ X.A.in1 (tryCatch (pyNext (.ref I)) _ >>= _) _ _ _
  refine wpAny_bind (wpAny_tryCatch (wpAny_pyNext_list_end (J.ok.hd hc) hit (show s.heap.IsList l its.toArray from p.isList) (by simp; omega) fun h' eb => ?_))
  have J1 : Inv X pins σ H { s with heap := h' } := J.turnedAt (t' := s.toks) fI fun b o hb e => eb b o hb e
  have hS' : h'.get? S = some (seqObj "list" #[vb, vb] c) := eb S _ hSI nS
  show wpAny _ X.A.in1 (updateSeq S (fun _ => #[]) >>= _) _ _ _
  refine wpAny_bind ?_
  refine wpAny_updateSeq hS' rfl (wpAny_bind (wpAny_letGo (wpAny_pure ?_)))
  exact hR i v vb _ hv rv (fun j' hj' => hbest j' (by omega)) (J1.turnedAt (t' := s.toks) fS fun b o hb e => (Heap.get?_update_other _ _ (Ne.symm hb)).trans e)
 | succ r ih =>
  intro j i s v vb c hr' hj J nS hit hv rv hij hbest
  have hlt : j + 1 < us.length := by omega
  obtain ⟨its, rvs, p, hz⟩ := J.list hS
  have hx : us[j + 1]? = some us[j + 1] := List.getElem?_eq_getElem hlt
  obtain ⟨u, hu', ru⟩ := rvs.get hx
  refine codeAny_builtin PySem.F.entry_max_loop ?_
  rw [Around.under_plainId PySem.F.plain_max_loop _]
  show wpAny _ X.A.in1 (seqItems? (.ref S) >>= _) _ _ _
  refine wpAny_bind (wpAny_seqItems nS rfl ?_)
  show wpAny _ X.A.in1 (tryCatch (pyNext (.ref I)) _ >>= _) _ _ _
  refine wpAny_bind (wpAny_tryCatch (wpAny_pyNext_list_item hit (show s.heap.IsList l its.toArray from p.isList) (x := u) (by simpa using hu') fun h' st' sb => ?_))
  have J1 : Inv X pins σ H { s with heap := h' } := J.turnedAt (t' := s.toks) fI fun b o hb e => (sb.2 b hb).trans e
  have hS' : h'.get? S = some (seqObj "list" #[vb, vb] c) := (sb.2 S hSI).trans nS
  obtain ⟨oI, hoI, hoc, hod⟩ := id st'
  obtain ⟨ca, pa, ea, hpa, hca⟩ := hP.at hx
  obtain ⟨cb, pb, eb, hpb, hcb⟩ := hP.at hv
  have hpa' : prs.getD (j + 1) (0, 0) = pa := by rw [List.getD, hpa]; rfl
  have hpb' : prs.getD i (0, 0) = pb := by rw [List.getD, hpb]; rfl
  rw [ea] at ru
  cases (show u = Value.ref ca from ru)
  have rv0 := rv
  rw [eb] at rv0
  cases (show vb = Value.ref cb from rv0)
  obtain ⟨ta1, ta2, na, oa, ga1, ga2, ga3⟩ := ZI3 J1.hok hca
  obtain ⟨tb1, tb2, nb, ob, gb1, gb2, gb3⟩ := ZI3 J1.hok hcb
  show wpAny _ X.A.in1 (tryCatch (holding [.ref ca, .ref ca] (richCompare .Gt (.ref ca) (.ref cb) >>= _)) _ >>= _) _ _ _
  refine wpAny_bind (wpAny_tryCatch (wpAny_holding (wpAny_bind (ZPQ (s := { s with heap := h' }) hu ga1 ga2 gb1 gb2 ⟨_, ga1, ga3⟩ ⟨_, gb1, gb3⟩ ?_))))
  refine wpAny_bind (wpAny_holding (wpAny_truthy_bool ?_))
  refine wpAny_bind (wpAny_letGo (wpAny_pure ?_))
  cases hb' : ltP pb pa with
  | true =>
   obtain ⟨c2, hc2⟩ : ∃ c2, (h'.update S (Obj.mapSeq fun _ => #[.ref ca, .ref ca])).get? S = some (seqObj "list" #[.ref ca, .ref ca] c2) := ⟨_, get?_update_seq hS' fun _ => #[.ref ca, .ref ca]⟩
   simp only [if_true]
   refine wpAny_bind ?_
   refine wpAny_updateSeq hS' rfl (wpAny_bind (wpAny_letGo ?_))
   rw [hname]
   refine wpAny_pure ⟨plainId_quiet PySem.F.plain_max_loop _, ih (j + 1) (j + 1) _ _ (.ref ca) c2 (by omega) hlt (J1.turnedAt (t' := s.toks) fS fun b o hb e => (Heap.get?_update_other _ _ (Ne.symm hb)).trans e) hc2 ⟨oI, (Heap.get?_update_other _ _ hSI).trans hoI, hoc, hod⟩ hx (by rw [ea]; rfl) (Nat.le_refl _) fun j' hj' => ?_⟩
   rw [hpa']
   have hb1 := ZFn.mp hb'
   rw [ZFf]
   by_cases e : j' = j + 1
   ·subst e
    rw [hpa']
    omega
   ·have hb2 := hbest j' (by omega)
    rw [hpb', ZFf] at hb2
    omega
  | false =>
   simp only [Bool.false_eq_true, if_false]
   refine wpAny_bind (wpAny_letGo ?_)
   rw [hname]
   refine wpAny_pure ⟨plainId_quiet PySem.F.plain_max_loop _, ih (j + 1) i _ v (.ref cb) c (by omega) hlt J1 hS' ⟨oI, hoI, hoc, hod⟩ hv rv (by omega) fun j' hj' => ?_⟩
   by_cases e : j' = j + 1
   ·subst e
    rw [hpa', hpb']
    exact hb'
   ·exact hbest j' (by omega)
local macro_rules | `(tactic| walk_at "cp") => `(tactic| (
 intro X pins σ H s Q E1 hc hu l us prs J hS hP hne hQ
 have hname : (toString "min" ++ toString ".loop" : String) = "min.loop" := by decide
 have hname2 : (toString "max" ++ toString ".loop" : String) = "max.loop" := by decide
 have hpos : 0 < us.length := List.length_pos_iff.mpr hne
 obtain ⟨its, rvs, p, hz⟩ := J.list hS
 have hls : s.heap.IsList l its.toArray := p.isList
 first | refine call_function_tree PySem.F.kind_min PySem.F.plain_min PySem.F.entry_min (PySem.F.args_min1 _) ?_ | refine call_function_tree PySem.F.kind_max PySem.F.plain_max PySem.F.entry_max (PySem.F.args_max1 _) ?_
 first | show wpAny _ X.A.in1 (Builtin.Builtins.bindParams "min" ["key", "default"] 0 ⟨[], []⟩ >>= _) _ _ s | show wpAny _ X.A.in1 (Builtin.Builtins.bindParams "max" ["key", "default"] 0 ⟨[], []⟩ >>= _) _ _ s
 first | refine wpAny_bind (wpAny_of_eq (show Builtin.Builtins.bindParams "min" ["key", "default"] 0 ⟨[], []⟩ = pure [none, none] from rfl) ?_) | refine wpAny_bind (wpAny_of_eq (show Builtin.Builtins.bindParams "max" ["key", "default"] 0 ⟨[], []⟩ = pure [none, none] from rfl) ?_)
 refine wpAny_bind (wpAny_pure ?_)
 refine wpAny_bind (wpAny_pyIter_list hls ?_)
 refine wpAny_bind (wpAny_newList ?_ (Nat.zero_le _))
 first | rw [hname] | rw [hname2]
 first | refine wpAny_pure ⟨plainId_quiet PySem.F.plain_min_loop _, ?_⟩ | refine wpAny_pure ⟨plainId_quiet PySem.F.plain_max_loop _, ?_⟩
 generalize hO : ({ cls := .type "list_iterator", data := .fields #[.ref l, .int 0 0] } : Obj) = O
 have hSs : (s.heap.push O).objs.size = s.heap.objs.size + 1 := size_push' ..
 have hSI : (s.heap.push O).objs.size ≠ s.heap.objs.size := by rw [hSs]; exact Nat.ne_of_gt (Nat.lt_succ_self _)
 have gI : ((s.heap.push O).push (seqObj "list" #[] 0)).get? s.heap.objs.size = some O := Heap.get?_push_of_some _ (Heap.get?_push_size _ (by rw [← hO]; rfl))
 have gS : ((s.heap.push O).push (seqObj "list" #[] 0)).get? (s.heap.push O).objs.size = some (seqObj "list" #[] 0) := Heap.get?_push_size _ rfl
 have fI : ZFs X pins H s.heap.objs.size := J.fpOk (Nat.le_refl _) (J.hok.fresh (Nat.le_refl _))
 have fS : ZFs X pins H (s.heap.push O).objs.size := J.fpOk (by rw [hSs]; exact Nat.le_succ _) (J.hok.fresh (by rw [hSs]; exact Nat.le_succ _))
 have J0 : Inv X pins σ H { s with heap := (s.heap.push O).push (seqObj "list" #[] 0) } := J.kept (t' := s.toks) fun b o e => Heap.get?_push_of_some _ (Heap.get?_push_of_some _ e)
 obtain ⟨its0, rvs0, p0, hz0⟩ := J0.list hS
 have hx : us[0]? = some us[0] := List.getElem?_eq_getElem hpos
 obtain ⟨u, hu', ru⟩ := rvs0.get hx
 first | refine codeAny_builtin PySem.F.entry_min_loop ?_ | refine codeAny_builtin PySem.F.entry_max_loop ?_
 first | rw [Around.under_plainId PySem.F.plain_min_loop _] | rw [Around.under_plainId PySem.F.plain_max_loop _]
 show wpAny _ X.A.in1 (seqItems? (.ref _) >>= _) _ _ _
 refine wpAny_bind (wpAny_seqItems gS rfl ?_)
 show wpAny _ X.A.in1 (tryCatch (pyNext (.ref s.heap.objs.size)) _ >>= _) _ _ _
 refine wpAny_bind (wpAny_tryCatch (wpAny_pyNext_list_item (s := { s with heap := (s.heap.push O).push (seqObj "list" #[] 0) }) (i := 0) ⟨O, gI, by rw [← hO], by rw [← hO]; rfl⟩ (show ((s.heap.push O).push (seqObj "list" #[] 0)).IsList l its0.toArray from p0.isList) (x := u) (by simpa using hu') fun h' st' sb => ?_))
 have J1 : Inv X pins σ H { s with heap := h' } := J0.turnedAt (t' := s.toks) fI fun b o hb e => (sb.2 b hb).trans e
 have hS' : h'.get? (s.heap.push O).objs.size = some (seqObj "list" #[] 0) := (sb.2 _ hSI).trans gS
 obtain ⟨oI, hoI, hoc, hod⟩ := id st'
 obtain ⟨c2, hc2⟩ : ∃ c2, (h'.update (s.heap.push O).objs.size (Obj.mapSeq fun _ => #[u, u])).get? (s.heap.push O).objs.size = some (seqObj "list" #[u, u] c2) := ⟨_, get?_update_seq hS' fun _ => #[u, u]⟩
 show wpAny _ X.A.in1 (updateSeq (s.heap.push O).objs.size (fun _ => #[u, u]) >>= _) _ _ _
 refine wpAny_bind ?_
 refine wpAny_updateSeq hS' rfl ?_
 first | rw [hname] | rw [hname2]
 first | refine wpAny_pure ⟨plainId_quiet PySem.F.plain_min_loop _, ZMI hc hu hSI hS hP fI fS (fun i v u s' hv rv hbest J' => ⟨v, _, J', rv, hQ i v hv hbest⟩) _ 0 0 _ _ u c2 rfl hpos (J1.turnedAt (t' := s.toks) fS fun b o hb e => (Heap.get?_update_other _ _ (Ne.symm hb)).trans e) hc2 ⟨oI, (Heap.get?_update_other _ _ hSI).trans hoI, hoc, hod⟩ hx ru (Nat.le_refl _) fun j' hj' => ?_⟩ | refine wpAny_pure ⟨plainId_quiet PySem.F.plain_max_loop _, ZMJ hc hu hSI hS hP fI fS (fun i v u s' hv rv hbest J' => ⟨v, _, J', rv, hQ i v hv hbest⟩) _ 0 0 _ _ u c2 rfl hpos (J1.turnedAt (t' := s.toks) fS fun b o hb e => (Heap.get?_update_other _ _ (Ne.symm hb)).trans e) hc2 ⟨oI, (Heap.get?_update_other _ _ hSI).trans hoI, hoc, hod⟩ hx ru (Nat.le_refl _) fun j' hj' => ?_⟩
 have e : j' = 0 := by omega
 subst e
 rw [ZFf]
 omega))
theorem ZLh : ∀ {X : Cx} {pins : List (Addr × Obj)} {σ : St} {H : Hp} {s : Shared} {Q : VK} {E1 : Value → Shared → Prop} (hc : X.calm = true) (hu : X.A.units + 1 < cLine) {l : Addr} {us : List V} {prs : PL} (J : Inv X pins σ H s) (hS : SqL X.K H l us) (hP : ZEY H us prs) (hne : us ≠ []) (hQ : ∀ i v, us[i]? = some v → (∀ j, j < us.length → ltP (prs.getD j (0, 0)) (prs.getD i (0, 0)) = false) → Q v H), wpAny (model X.prog X.w) X.A (call (.builtin "min") [.ref l]) (EP X pins σ Q) E1 s := by walk_at "cp"
def ZTN (K : W.Frag) : List V → Hp → VK → Prop := fun xs H Q => ∃ (l : Addr) (us : List V) (prs : PL), xs = [.ref l] ∧ SqL K H l us ∧ ZEY H us prs ∧ us ≠ [] ∧ ∀ i v, us[i]? = some v → (∀ j, j < us.length → ltP (prs.getD j (0, 0)) (prs.getD i (0, 0)) = false) → Q v H
theorem ZUd {X : Cx} (K : W.Frag) (hK : X.K = K) (hc : X.calm = true) (hu : X.A.units + 1 < cLine) : ZFK X (.builtin "min") (ZTN K) := by
 subst hK
 intro pins s σ H xs us Q I r h
 obtain ⟨l, vs, prs, rfl, hS, hP, hne, q⟩ := h
 obtain ⟨u, rfl, ru⟩ := r.one
 cases ru
 exact ZLh hc hu I hS hP hne q
theorem ZUe {K : W.Frag} {H : Hp} {Q : VK} {l : Addr} {prs : PL} (h : PrL H l prs) (hne : prs ≠ []) (q : ∀ c r, r ∈ prs → H c = some (.tup [.int r.1, .int r.2]) → (∀ r' ∈ prs, ltP r' r = false) → Q (.ref c) H) : ZTN K [.ref l] H Q := by
 obtain ⟨us, f, hP⟩ := h
 have hl := hP.length
 refine ⟨l, us, prs, rfl, SqL.of f, hP, fun z => hne (List.length_eq_zero_iff.mp (by rw [← hl, z]; rfl)), fun i v hv hb => ?_⟩
 obtain ⟨c, r, rfl, hr, hc⟩ := hP.at hv
 refine q c r (List.mem_of_getElem? hr) hc fun r' hr' => ?_
 obtain ⟨j, hj, e⟩ := List.getElem_of_mem hr'
 have := hb j (by omega)
 rw [List.getD, List.getD, hr, List.getElem?_eq_getElem hj, e] at this
 exact this
theorem ZLi : ∀ {X : Cx} {pins : List (Addr × Obj)} {σ : St} {H : Hp} {s : Shared} {Q : VK} {E1 : Value → Shared → Prop} (hc : X.calm = true) (hu : X.A.units + 1 < cLine) {l : Addr} {us : List V} {prs : PL} (J : Inv X pins σ H s) (hS : SqL X.K H l us) (hP : ZEY H us prs) (hne : us ≠ []) (hQ : ∀ i v, us[i]? = some v → (∀ j, j < us.length → ltP (prs.getD i (0, 0)) (prs.getD j (0, 0)) = false) → Q v H), wpAny (model X.prog X.w) X.A (call (.builtin "max") [.ref l]) (EP X pins σ Q) E1 s := by walk_at "cp"
def ZTO (K : W.Frag) : List V → Hp → VK → Prop := fun xs H Q => ∃ (l : Addr) (us : List V) (prs : PL), xs = [.ref l] ∧ SqL K H l us ∧ ZEY H us prs ∧ us ≠ [] ∧ ∀ i v, us[i]? = some v → (∀ j, j < us.length → ltP (prs.getD i (0, 0)) (prs.getD j (0, 0)) = false) → Q v H
theorem ZUf {X : Cx} (K : W.Frag) (hK : X.K = K) (hc : X.calm = true) (hu : X.A.units + 1 < cLine) : ZFK X (.builtin "max") (ZTO K) := by
 subst hK
 intro pins s σ H xs us Q I r h
 obtain ⟨l, vs, prs, rfl, hS, hP, hne, q⟩ := h
 obtain ⟨u, rfl, ru⟩ := r.one
 cases ru
 exact ZLi hc hu I hS hP hne q
theorem ZUg {K : W.Frag} {H : Hp} {Q : VK} {l : Addr} {prs : PL} (h : PrL H l prs) (hne : prs ≠ []) (q : ∀ c r, r ∈ prs → H c = some (.tup [.int r.1, .int r.2]) → (∀ r' ∈ prs, ltP r r' = false) → Q (.ref c) H) : ZTO K [.ref l] H Q := by
 obtain ⟨us, f, hP⟩ := h
 have hl := hP.length
 refine ⟨l, us, prs, rfl, SqL.of f, hP, fun z => hne (List.length_eq_zero_iff.mp (by rw [← hl, z]; rfl)), fun i v hv hb => ?_⟩
 obtain ⟨c, r, rfl, hr, hc⟩ := hP.at hv
 refine q c r (List.mem_of_getElem? hr) hc fun r' hr' => ?_
 obtain ⟨j, hj, e⟩ := List.getElem_of_mem hr'
 have := hb j (by omega)
 rw [List.getD, List.getD, hr, List.getElem?_eq_getElem hj, e] at this
 exact this
structure ZNZ (K : Frag) (x : Str) (C : Addr) : Prop where
 a : nsIn K mainGlobals x = some (some (.ref C))
 ex : excIn K C [.type "ValueError", .type "Exception", .type "BaseException", .type "object"] "ValueError.__new__" = true
 ga : findIn K (.ref C) "__getattribute__" = some (some (.builtin "BaseException.__getattribute__"))
 gt : findIn K (.ref C) "__getattr__" = some none
 cl : findIn K (.ref C) "__class__" = some (some (.builtin "object.__class__"))
 ob : mroIn K C (.type "object") = some true
 be : mroIn K C (.type "BaseException") = some true
structure ZSa (K : Frag) (x : Str) (C : Addr) : Prop where
 a : nsIn K mainGlobals x = some (some (.ref C))
 pg : plainGet K C Str.empty = true
 hd : hasDictIn K C = true
 po : plainOver K C = true
 sa : findIn K (.ref C) "__setattr__" = some (some (.builtin "object.__setattr__"))
 mi : makesIn K C = true
 kc : keepIn K (.ref C) = true
section
variable {K : Frag} {x qual : Str} {st : Stmt} {f : Addr} {fd : FuncData}
theorem Fun.b1 {p : Str} (F : Fun K x qual st f fd) (h : ∀ (kV doc pm : Value) (an : Option Addr) (cdv ct u : Value), bindArgs (fnOf x qual (ZFa st) (ZFJ st) (ZEP st) .none kV doc pm an cdv ct) ⟨[u], []⟩ = pure ([p].zip [u])) : ZER K fd [p] [] := F.binds fun _ _ _ _ _ _ us hl => match us, hl with | [_], _ => h _ _ _ _ _ _ _
theorem Fun.b2 {p q : Str} (F : Fun K x qual st f fd) (h : ∀ (kV doc pm : Value) (an : Option Addr) (cdv ct u v : Value), bindArgs (fnOf x qual (ZFa st) (ZFJ st) (ZEP st) .none kV doc pm an cdv ct) ⟨[u, v], []⟩ = pure ([p, q].zip [u, v])) : ZER K fd [p, q] [] := F.binds fun _ _ _ _ _ _ us hl => match us, hl with | [_, _], _ => h _ _ _ _ _ _ _ _
theorem Fun.b3 {p q r : Str} (F : Fun K x qual st f fd) (h : ∀ (kV doc pm : Value) (an : Option Addr) (cdv ct u v y : Value), bindArgs (fnOf x qual (ZFa st) (ZFJ st) (ZEP st) .none kV doc pm an cdv ct) ⟨[u, v, y], []⟩ = pure ([p, q, r].zip [u, v, y])) : ZER K fd [p, q, r] [] := F.binds fun _ _ _ _ _ _ us hl => match us, hl with | [_, _, _], _ => h _ _ _ _ _ _ _ _ _
end
section
variable {X : Cx} {o i e f value : Expr} {tpos pos apos cpos : Pos} {to ti te td ty tx : TE}
end
section
variable {K : W.Frag} {σ : St} {H : Hp} {Q : VK} {D : ZFH} {to ti te td ty tx : TE} {a p : Addr} {m : PL} {i : Int}
end
section
variable {X : Cx} {e : Expr} {pos : Pos} {te : TE}
end
section
variable {X : Cx} {k : Nat} {f C : Addr} {fd : FuncData} {ps : List Str} {sp : Sp} {dvs : List V} {ds : List Value} {E : XK} {x : Str} {p pos p1 : Pos} {e : Expr} {es : List Expr} {t : TA} {u : TX} {body : List Stmt}
theorem ZQo {pins : List (Addr × Obj)} {σ : St} {H : Hp} {s : Shared} {Q : VK} {us : List Value} {vs : List V} (M : Mk X.K C f) (F : ZEW X.prog X.w X.K X.mg X.base (CX1 X.prog X.w) k f fd ps sp) (hr : Room (k + 1) X.A) (hb : ZER X.K fd ps ds) (hd : ZEg dvs ds)
  (I : Inv X pins σ H s) (r : ZEg vs us) (h : ZK8 C sp dvs E vs H Q) : wpAny (model X.prog X.w) X.A (call (.ref C) us) (EP X pins σ Q) (XP X pins σ E) s := by
 have hq := h (s.heap.objs.size + 1) s.heap.objs.size (I.hok.fresh (Nat.le_succ _)) (I.hok.fresh (Nat.le_refl _)) (Nat.ne_of_lt (Nat.lt_succ_self _))
 have I2 := Inv.made (C := C) I
 have r2 : ZEg (V.ref (s.heap.objs.size + 1) :: (vs ++ dvs)) (Value.ref (s.heap.objs.size + 1) :: (us ++ ds)) := .cons rfl (r.append hd)
 have hl : (Value.ref (s.heap.objs.size + 1) :: us ++ ds).length = ps.length := by
  have e := r2.length
  rw [F.len _ _ _ _ hq] at e
  exact e.symm
 refine wpAny_call (ZMf (f := f) I.kIn M.makes M.init (beq_iff_eq.mp M.fn) (codeAny_mono (F.run _ X.stack _ _ ⟨Value.ref (s.heap.objs.size + 1) :: us, []⟩ (Value.ref (s.heap.objs.size + 1) :: (us ++ ds)) _ _ E (hr.make C us [])
  (I2.env0.make C us []) (hb _ (Value.ref (s.heap.objs.size + 1) :: us) I2.kIn hl) r2 hq) fun r s' hq' => ?_))
 cases r with
 | error e =>
  obtain ⟨e, C', a0, B, H', rfl, q1, q2, q3, q4, q5, q6, q7, q8, q⟩ := hq'
  exact ⟨_, _, e, C', H', I2, rfl, ⟨a0, B, q1, q2, q3, q4, q5, q6, q7, q8⟩, q⟩
 | ok fl =>
  cases fl with
  | ret u =>
   obtain ⟨v, H', I3, rv, ev, q3⟩ := I2.after hq'
   subst ev
   exact ⟨rv, ⟨V.ref (s.heap.objs.size + 1), H', I3, rfl, q3⟩⟩
  | next => exact False.elim hq'
  | brk => exact False.elim hq'
  | cont => exact False.elim hq'
def ZQp (C : Addr) (sp : Sp) (dvs : List V) (t : TA) : TX := fun σ H Q E => t σ H fun vs H1 => ZK8 C sp dvs E vs H1 Q
theorem ZUh (M : Mk X.K C f) (F : ZEW X.prog X.w X.K X.mg X.base (CX1 X.prog X.w) k f fd ps sp) (hr : Room (k + 1) X.A) (hg : Gl X x) (hm : X.mg x = some (.ref C)) (hb : ZER X.K fd ps ds) (hd : ZEg dvs ds)
  (ha : QA X.nox (e :: es) t) (hns : ZFC (e :: es) = true := by rfl) (hdb : (x == ("__debug__" : Str)) = false := by decide) : QX X (.Call (.Name x p) (e :: es) [] pos) (ZQp C sp dvs t) := by
 refine ⟨?_⟩
 intro pins s σ H Q E I h
 refine wpAny_Call_Name_kw (ZGb I hg hm ?_ hdb)
 refine PySem.W.callWith_K (h₀ := X.base) I.ok.mod.kin M.kp (wpAny_mono (ha.h pos pins s σ H _ (I.wish _) h) (fun us s1 ⟨vs, H1, I1, r, q⟩ => ⟨I1.kIn, ?_⟩) fun _ _ z => False.elim z) (ZGP hns) (ZF4 (ZF1 hns))
 exact ZQo M F hr hb hd I1.unwish r q
def ZTP (t : TX) : TBX := fun D E σ H => t σ H (fun v H1 => v = .bl true ∧ D.nx σ H1) E
theorem ZLj (he : QX X e u) (hp : ∀ whole, PySem.isTrue e X.env whole = (do let v ← whole; standAt e.pos; holding [v] (truthy v)) := by intro _; rfl) : QBX X [.If (.UnaryOp .Not e p1) body [] pos] (ZTP u) := by
 refine ⟨fun pins s σ H D E I h => one_bx (wpAny_If (isTrue_not (isTrue_plain (thn (he.h pins s σ H _ E I h) fun v s1 ⟨x, H1, I1, r1, ev, q1⟩ => ?_) (hp _))))⟩
 subst ev
 cases r1
 exact wpAny_truthy_bool (wpAny_execs_nil ⟨σ, H1, I1, q1⟩)
theorem ZSb {σ : St} {H : Hp} {Q : VK} {E : XK} {t : TA} (h : t σ H fun vs H1 => ZK8 C sp dvs E vs H1 Q) : ZQp C sp dvs t σ H Q E := h
theorem ZUi {D : ZFH} {σ : St} {H : Hp} {E : XK} (h : u σ H (fun v H1 => v = .bl true ∧ D.nx σ H1) E) : ZTP u D E σ H := h
end
end L2
namespace My
open PySem L2
theorem ZEv {N P : List Str} {sc : Scope} (a : sc.kind = .function := by rfl) (b : sc.isCoroutine = false := by rfl) (c : sc.isGenerator = false := by rfl) (d : N.Nodup := by decide +kernel) (e : N.take P.length = P := by rfl) (f : ∀ x ∈ P, sc.names.lookup x = some .local ∨ sc.names.lookup x = some .cell := by decide +kernel) (g : ∀ y ∈ sc.names, y.2 ≠ .free := by decide +kernel) : ZEV N P sc := ⟨a, b, c, d, e, f, g⟩
theorem qsS {X : Cx} {x : Str} {e : Expr} {te : TE} {pos pos' : Pos} {i : Nat} (hN : X.N.Nodup) (he : QE X e te) (hi : X.N[i]? = some x := by rfl) (hx : Loc X.env.scope x := by first | exact Or.inl rfl | exact Or.inr rfl) (hs : ZGQ e = false := by rfl) (hf : X.fn x = true ∨ X.env.scope.names.lookup x = some .local := by first | exact .inl rfl | exact .inr rfl | assumption) : QS X (.Assign [.Name x pos'] e pos) (ZKI te (ZHe i)) := ZUJ hN hi hx he hs hf
theorem qgN {X : Cx} {x : Str} {pos : Pos} {i : Nat} (hN : X.N.Nodup) (hi : X.N[i]? = some x := by rfl) (hx : Loc X.env.scope x := by first | exact Or.inl rfl | exact Or.inr rfl) (hf : X.fn x = true ∨ X.env.scope.names.lookup x = some .local := by first | exact .inl rfl | exact .inr rfl | assumption) : QG X (.Name x pos) (ZHe i) := ZF0 hN hi hx hf
theorem qcS {X : Cx} {e : Expr} {es : List Expr} {t : TA} {pos p : Pos} {x : Str} {k : Nat} {f : Addr} {fd : FuncData} {ps : List Str} {sp : Sp} (F : ZEW X.prog X.w X.K X.mg X.base CX0 k f fd ps sp) (hr : Room k X.A) (hm : X.mg x = some (.ref f)) (hk : W.keepIn X.K (.ref f) = true) (hb : ZER X.K fd ps []) (ha : QA X (e :: es) t) (hg : Gl X x := by rfl) (hns : ZFC (e :: es) = true := by rfl) (hdb : (x == ("__debug__" : Str)) = false := by decide) : QE X (.Call (.Name x p) (e :: es) [] pos) (ZKs sp [] E0 t) := ZHs F hr hg hm hk hb .nil ZFc ha hns hdb
theorem _root_.L2.Room.m {j k : Nat} {A : Around} (r : Room k A) (h : j ≤ k := by decide) : Room j A := r.mono h
local macro_rules | `(tactic| walk_at "l") => `(tactic| (intro vs H Q E h; (repeat (obtain ⟨_, h⟩ := h)); all_goals (subst_vars; rfl)))
local macro_rules | `(tactic| walk_at "w") => `(tactic| repeat walk_at "rd")
local macro_rules | `(tactic| walk_at "s") => `(tactic| simp only [L2.start, List.length_cons, List.length_nil, List.map_cons, List.map_nil, Nat.reduceAdd, Nat.reduceSub, List.replicate_succ, List.replicate_zero, List.cons_append, List.nil_append])
local macro_rules | `(tactic| walk_at "o") => `(tactic| first | exact Or.inl rfl | exact Or.inr rfl)
def top (i : Nat) : Stmt := PySem.Challenge.pw_fourpoints_k74_views_refused.main.body.getD i (.Pass ⟨0, 0, 0, 0⟩)
abbrev ZOY : Stmt := top 0
abbrev ZI4 : Stmt := top 8
abbrev ZIU : Stmt := top 10
abbrev ZI5 : Stmt := top 11
abbrev ZGz : Stmt := top 12
abbrev ZLk : Stmt := top 13
abbrev ZJW : Stmt := top 14
abbrev ZI6 : Stmt := top 15
abbrev ZHI : Stmt := top 16
abbrev ZIV : Stmt := top 18
abbrev ZJX : Stmt := top 19
abbrev ZKZ : Stmt := top 20
abbrev ZIW : Stmt := top 24
abbrev ZG0 : Stmt := top 25
abbrev ZHv : Stmt := top 26
abbrev ZHJ : Stmt := top 27
abbrev ZIX : Stmt := top 28
abbrev ZJY : Stmt := top 29
abbrev ZFG : Stmt := ZEw (top 30) 0
abbrev ZI7 : Stmt := ZEw (top 30) 1
abbrev ZKA : Stmt := ZEw (top 30) 2
abbrev ZHw : Stmt := ZEw (top 30) 3
abbrev ZIY : Stmt := ZEw (top 30) 4
abbrev ZG1 : Stmt := ZEw (top 30) 5
abbrev ZKB : Stmt := ZEw (top 30) 6
abbrev ZI8 : Stmt := top 32
abbrev ZG2 : Stmt := ZEw (top 33) 0
abbrev ZG3 : Stmt := ZEw (top 33) 1
abbrev ZHZ : Stmt := ZEw (top 33) 2
abbrev ZJZ : Stmt := ZEw (top 33) 3
abbrev ZIZ : Stmt := ZEw (top 33) 4
abbrev ZHa : Stmt := ZEw (top 33) 5
abbrev ZHK : Stmt := ZEw (top 33) 6
abbrev ZHL : Stmt := ZEw (top 33) 7
abbrev ZFA : Stmt := ZEw (top 35) 0
abbrev ZKC : Stmt := ZEw (top 35) 1
abbrev ZJa : Stmt := ZEw (top 35) 2
abbrev ZIk : Stmt := ZEw (top 35) 3
abbrev ZG4 : Stmt := ZEw (top 35) 4
abbrev ZLH : Stmt := ZEw (top 35) 5
abbrev ZJH : Stmt := ZEw (top 35) 6
abbrev ZJb : Stmt := ZEw (top 35) 7
abbrev ZHb : Stmt := ZEw (top 35) 8
abbrev ZHx : Stmt := ZEw (top 35) 9
abbrev ZJI : Stmt := ZEw (top 35) 10
abbrev ZJc : Stmt := ZEw (top 35) 11
abbrev ZJJ : Stmt := ZEw (top 35) 12
abbrev ZJd : Stmt := ZEw (top 35) 13
abbrev ZKa : Stmt := top 37
abbrev ZLl : Stmt := top 38
abbrev ZKb : Stmt := top 39
abbrev ZNa : Stmt := top 40
abbrev ZI9 : Stmt := top 41
abbrev ZJA : Stmt := top 42
abbrev ZJB : Stmt := top 43
abbrev ZKc : Stmt := top 44
abbrev ZJe : Stmt := top 45
abbrev ZHy : Stmt := top 46
abbrev ZIF : Stmt := top 47
abbrev ZKd : Stmt := top 48
abbrev ZNb : Stmt := top 49
abbrev ZIG : Stmt := top 50
abbrev ZLm : Stmt := top 51
abbrev ZKe : Stmt := top 52
abbrev ZKf : Stmt := top 53
abbrev ZG5 : Stmt := top 54
abbrev ZGe : Stmt := top 55
set_option genInjectivity false in
set_option genSizeOf false in
set_option genSizeOfSpec false in
structure Ad where
 ZCY : Addr
 ZCe : FuncData
 Ju : Addr
 Jw : FuncData
 Jd : Addr
 Jj : FuncData
 ZAF : Addr
 ZAA : FuncData
 JL : Addr
 JQ : FuncData
 ZBk : Addr
 ZBp : FuncData
 ZAW : Addr
 ZAm : FuncData
 Y9 : Addr
 Y8 : FuncData
 Ym : Addr
 Yj : FuncData
 Jk : Addr
 Jb : FuncData
 ZAf : Addr
 ZAV : FuncData
 ZA7 : Addr
 ZA9 : FuncData
 Jf : Addr
 Jc : FuncData
 Zs : Addr
 Zv : FuncData
 JN : Addr
 JK : FuncData
 Z3 : Addr
 Z0 : FuncData
 Jh : Addr
 Jg : FuncData
 ZAj : Addr
 ZAY : FuncData
 YT : Addr
 ZZ : FuncData
 J6 : Addr
 J8 : FuncData
 ZA1 : Addr
 ZAw : FuncData
 JH : Addr
 JI : FuncData
 JY : Addr
 Je : FuncData
 JA : Addr
 JE : FuncData
 ZAv : Addr
 ZA2 : FuncData
 Jv : Addr
 J7 : FuncData
 Zt : Addr
 Zr : FuncData
 JJ : Addr
 JB : FuncData
 Y4 : Addr
 Y1 : FuncData
 JV : Addr
 JT : FuncData
 Yp : Addr
 Yo : FuncData
 YC : Addr
 YD : FuncData
 Z2 : Addr
 Z5 : FuncData
 Z1 : Addr
 Z4 : FuncData
 YE : Addr
 ZY : FuncData
 ZA0 : Addr
 ZAu : FuncData
 ZAa : Addr
 ZAe : FuncData
 Jn : Addr
 Jm : FuncData
 YU : Addr
 YY : FuncData
 ZBd : Addr
 ZBh : FuncData
 ZAK : Addr
 ZAQ : FuncData
 ZAn : Addr
 ZAb : FuncData
 Y2 : Addr
 Y5 : FuncData
 JM : Addr
 JO : FuncData
 ZAO : Addr
 ZAP : FuncData
 ZAc : Addr
 ZAr : FuncData
 ZAM : Addr
 ZAL : FuncData
 ZAZ : Addr
 ZAq : FuncData
 ZBP : Addr
 ZBQ : FuncData
 ZBi : Addr
 ZBo : FuncData
 ZA8 : Addr
 ZBJ : FuncData
 ZCB : Addr
 ZCL : FuncData
 ZAD : Addr
 ZAE : FuncData
 J9 : Addr
 ZAC : FuncData
 ZAB : Addr
 Jx : FuncData
 ZBF : Addr
 ZBO : FuncData
 ZAg : Addr
 ZAd : FuncData
 ZBK : Addr
 ZBI : FuncData
 ZAs : Addr
 ZAo : FuncData
 ZBC : Addr
 ZBG : FuncData
 Jp : Addr
 Jq : FuncData
 ZAR : Addr
 ZAk : FuncData
 ZBm : Addr
 ZBn : FuncData
 ZBB : Addr
 ZA6 : FuncData
 ZBH : Addr
 ZA5 : FuncData
 YZ : Addr
 YS : FuncData
 ZCl : Addr
 ZCr : FuncData
 ZH : Addr
 ZJ : Addr
 ZG : Addr
 ZB : Addr
 ZE : Addr
 ZC : Addr
 ZA : Addr
 ZD : Addr
 ZCW : Tok
 ZCS : Tok
structure Txt (K : W.Frag) (mg : Str → Option Value) (a : Ad) : Prop where
 ZEF : Fun K "_wall" "_wall" ZOY a.ZCY a.ZCe
 ZEH : ZER K a.ZCe ["k"] []
 ZEG : mg "_wall" = some (.ref a.ZCY)
 ZAG : Fun K "is_whole" "is_whole" ZI4 a.Ju a.Jw
 ZBS : ZER K a.Jw ["thing"] []
 ZBZ : mg "is_whole" = some (.ref a.Ju)
 ZAx : Fun K "column_of" "column_of" ZIU a.Jd a.Jj
 ZCV : ZER K a.Jj ["window", "t"] []
 ZCR : mg "column_of" = some (.ref a.Jd)
 J5 : Fun K "times_of" "times_of" ZI5 a.ZAF a.ZAA
 ZBa : ZER K a.ZAA ["window", "k"] []
 ZBY : mg "times_of" = some (.ref a.ZAF)
 YR : Fun K "columns_of" "columns_of" ZGz a.JL a.JQ
 JD : ZER K a.JQ ["window"] []
 JP : mg "columns_of" = some (.ref a.JL)
 ZBl : Fun K "moved" "moved" ZLk a.ZBk a.ZBp
 ZCc : ZER K a.ZBp ["window", "c"] []
 ZCZ : mg "moved" = some (.ref a.ZBk)
 ZAh : Fun K "widened" "widened" ZJW a.ZAW a.ZAm
 ZBr : ZER K a.ZAm ["window"] []
 ZBt : mg "widened" = some (.ref a.ZAW)
 Y7 : Fun K "narrowed" "narrowed" ZI6 a.Y9 a.Y8
 ZBV : ZER K a.Y8 ["window"] []
 ZBc : mg "narrowed" = some (.ref a.Y9)
 Yl : Fun K "with_columns" "with_columns" ZHI a.Ym a.Yj
 Jr : ZER K a.Yj ["window", "n"] []
 Jl : mg "with_columns" = some (.ref a.Ym)
 YA : Fun K "height_of" "height_of" ZIV a.Jk a.Jb
 Zq : ZER K a.Jb ["sample"] []
 Zo : mg "height_of" = some (.ref a.Jk)
 ZBx : Fun K "four_of" "four_of" ZJX a.ZAf a.ZAV
 ZC1 : ZER K a.ZAV ["curve"] []
 ZC6 : mg "four_of" = some (.ref a.ZAf)
 Jy : Fun K "joined" "joined" ZKZ a.ZA7 a.ZA9
 ZBM : ZER K a.ZA9 ["one", "other"] []
 ZBD : mg "joined" = some (.ref a.ZA7)
 Zm : Fun K "is_border" "is_border" ZIW a.Jf a.Jc
 Z8 : ZER K a.Jc ["thing"] []
 Z9 : mg "is_border" = some (.ref a.Jf)
 Za : Fun K "check_borders" "check_borders" ZG0 a.Zs a.Zv
 YW : ZER K a.Zv ["begin", "end"] []
 YQ : mg "check_borders" = some (.ref a.Zs)
 ZAX : Fun K "check_time" "check_time" ZHv a.JN a.JK
 ZCI : ZER K a.JK ["t"] []
 ZCD : mg "check_time" = some (.ref a.JN)
 ZV : Fun K "check_window" "check_window" ZHJ a.Z3 a.Z0
 Zf : ZER K a.Z0 ["window"] []
 Ze : mg "check_window" = some (.ref a.Z3)
 ZA4 : Fun K "stretches" "stretches" ZIX a.Jh a.Jg
 ZCT : ZER K a.Jg ["begin", "end"] []
 ZCX : mg "stretches" = some (.ref a.Jh)
 ZBu : Fun K "longest" "longest" ZJY a.ZAj a.ZAY
 ZC5 : ZER K a.ZAY ["first", "end"] []
 ZC3 : mg "longest" = some (.ref a.ZAj)
 ZBR : ZNG K "__init__" "Tree.__init__" ZFG a.YT a.ZZ
 ZBT : ZER K a.ZZ ["self", "curve"] []
 ZDC : ZER K a.ZZ ["self", "curve"] [Value.none]
 ZDJ : ZOX K a.ZZ ["self", "curve"] "curve"
 ZCs : Fun K "put" "Tree.put" ZI7 a.J6 a.J8
 ZCu : ZER K a.J8 ["self", "t", "h"] []
 ZCg : ZFX K a.ZH "put" a.J6
 ZDw : Fun K "take" "Tree.take" ZKA a.ZA1 a.ZAw
 ZD3 : ZER K a.ZAw ["self", "t"] []
 ZD4 : ZFX K a.ZH "take" a.ZA1
 ZCA : Fun K "renew" "Tree.renew" ZHw a.JH a.JI
 ZB7 : ZER K a.JI ["self", "t", "four"] []
 ZCN : ZFX K a.ZH "renew" a.JH
 ZCQ : Fun K "four" "Tree.four" ZIY a.JY a.Je
 ZA3 : ZER K a.Je ["self", "begin", "end"] []
 ZAz : ZFX K a.ZH "four" a.JY
 ZCF : Fun K "fours" "Tree.fours" ZG1 a.JA a.JE
 ZDv : ZER K a.JE ["self", "window"] []
 ZDl : ZFX K a.ZH "fours" a.JA
 ZD0 : Fun K "told" "Tree.told" ZKB a.ZAv a.ZA2
 ZD2 : ZER K a.ZA2 ["self"] []
 ZD1 : ZFX K a.ZH "told" a.ZAv
 ZBW : Fun K "known_in" "known_in" ZI8 a.Jv a.J7
 ZCj : ZER K a.J7 ["known", "window"] []
 ZCm : mg "known_in" = some (.ref a.Jv)
 JU : Fun K "__init__" "View.__init__" ZG2 a.Zt a.Zr
 JX : ZER K a.Zr ["self", "store", "window"] []
 ZCJ : Fun K "fours" "View.fours" ZG3 a.JJ a.JB
 JG : ZER K a.JB ["self"] []
 JF : ZFX K a.ZJ "fours" a.JJ
 ZB0 : Fun K "forget" "View.forget" ZHZ a.Y4 a.Y1
 ZAI : ZER K a.Y1 ["self"] []
 ZAN : ZFX K a.ZJ "forget" a.Y4
 ZBs : Fun K "on" "View.on" ZJZ a.JV a.JT
 ZAl : ZER K a.JT ["self", "c"] []
 ZAT : ZFX K a.ZJ "on" a.JV
 ZAy : Fun K "wide" "View.wide" ZIZ a.Yp a.Yo
 Ja : ZER K a.Yo ["self"] []
 JZ : ZFX K a.ZJ "wide" a.Yp
 ZAJ : Fun K "narrow" "View.narrow" ZHa a.YC a.YD
 Y3 : ZER K a.YD ["self"] []
 Y0 : ZFX K a.ZJ "narrow" a.YC
 Jo : Fun K "columns" "View.columns" ZHK a.Z2 a.Z5
 Yi : ZER K a.Z5 ["self", "n"] []
 Yk : ZFX K a.ZJ "columns" a.Z2
 Js : Fun K "step_to" "View.step_to" ZHL a.Z1 a.Z4
 ZR : ZER K a.Z4 ["self", "window"] []
 ZQ : ZFX K a.ZJ "step_to" a.Z1
 ZBN : ZNG K "__init__" "Store.__init__" ZFA a.YE a.ZY
 ZBL : ZER K a.ZY ["self", "curve"] []
 ZC8 : ZER K a.ZY ["self", "curve"] [Value.none]
 ZDB : ZOX K a.ZY ["self", "curve"] "curve"
 ZDx : Fun K "put" "Store.put" ZKC a.ZA0 a.ZAu
 ZDy : ZER K a.ZAu ["self", "t", "h"] []
 ZDz : ZFX K a.ZG "put" a.ZA0
 ZDt : Fun K "take" "Store.take" ZJa a.ZAa a.ZAe
 ZDs : ZER K a.ZAe ["self", "t"] []
 ZDi : ZFX K a.ZG "take" a.ZAa
 ZDP : Fun K "height" "Store.height" ZIk a.Jn a.Jm
 ZDR : ZER K a.Jm ["self", "t"] []
 ZDS : ZFX K a.ZG "height" a.Jn
 ZCw : Fun K "check_sample" "Store.check_sample" ZG4 a.YU a.YY
 ZCh : ZER K a.YY ["self", "t"] []
 ZCn : ZFX K a.ZG "check_sample" a.YU
 ZEA : Fun K "do" "Store.do" ZLH a.ZBd a.ZBh
 ZD6 : ZER K a.ZBh ["self", "t", "h"] []
 ZD5 : ZFX K a.ZG "do" a.ZBd
 ZDc : Fun K "bring" "Store.bring" ZJH a.ZAK a.ZAQ
 ZDY : ZER K a.ZAQ ["self", "t", "h"] []
 ZDd : ZFX K a.ZG "bring" a.ZAK
 ZDm : Fun K "undo" "Store.undo" ZJb a.ZAn a.ZAb
 ZDn : ZER K a.ZAb ["self"] []
 ZDh : ZFX K a.ZG "undo" a.ZAn
 ZB1 : Fun K "times" "Store.times" ZHb a.Y2 a.Y5
 ZBz : ZER K a.Y5 ["self"] []
 ZB2 : ZFX K a.ZG "times" a.Y2
 ZB5 : Fun K "four" "Store.four" ZHx a.JM a.JO
 ZB4 : ZER K a.JO ["self", "begin", "end"] []
 ZCE : ZFX K a.ZG "four" a.JM
 ZDb : Fun K "fours" "Store.fours" ZJI a.ZAO a.ZAP
 ZDW : ZER K a.ZAP ["self", "window"] []
 ZDe : ZFX K a.ZG "fours" a.ZAO
 ZDg : Fun K "told" "Store.told" ZJc a.ZAc a.ZAr
 ZDr : ZER K a.ZAr ["self"] []
 ZDo : ZFX K a.ZG "told" a.ZAc
 ZDZ : Fun K "watch" "Store.watch" ZJJ a.ZAM a.ZAL
 ZDX : ZER K a.ZAL ["self", "window"] []
 ZDa : ZFX K a.ZG "watch" a.ZAM
 ZDj : Fun K "news" "Store.news" ZJd a.ZAZ a.ZAq
 ZDp : ZER K a.ZAq ["self", "number"] []
 ZDf : ZFX K a.ZG "news" a.ZAZ
 ZBE : Fun K "_law_cell" "_law_cell" ZKa a.ZBP a.ZBQ
 ZB9 : ZER K a.ZBQ ["_law_script", "_law_k"] []
 ZCP : mg "_law_cell" = some (.ref a.ZBP)
 ZBj : Fun K "_law_pot" "_law_pot" ZLl a.ZBi a.ZBo
 ZCd : ZER K a.ZBo ["_law_cell_here"] []
 ZCf : mg "_law_pot" = some (.ref a.ZBi)
 ZI : Fun K "_law_draw" "_law_draw" ZKb a.ZA8 a.ZBJ
 ZK : ZER K a.ZBJ ["_law_pot_here", "_law_many"] []
 ZL : mg "_law_draw" = some (.ref a.ZA8)
 ZCz : Fun K "_law_in" "_law_in" ZNa a.ZCB a.ZCL
 ZDu : ZER K a.ZCL ["_law_t"] []
 ZDq : mg "_law_in" = some (.ref a.ZCB)
 ZBb : Fun K "_law_within" "_law_within" ZI9 a.ZAD a.ZAE
 ZCq : ZER K a.ZAE ["_law_window_here"] []
 ZCo : mg "_law_within" = some (.ref a.ZAD)
 ZBf : Fun K "_law_height" "_law_height" ZJA a.J9 a.ZAC
 ZCk : ZER K a.ZAC ["_law_pot_here"] []
 ZCt : mg "_law_height" = some (.ref a.J9)
 ZBg : Fun K "_law_window" "_law_window" ZJB a.ZAB a.Jx
 ZCi : ZER K a.Jx ["_law_pot_here"] []
 ZCv : mg "_law_window" = some (.ref a.ZAB)
 ZB8 : Fun K "_law_time" "_law_time" ZKc a.ZBF a.ZBO
 ZDK : ZER K a.ZBO ["_law_pot_here", "_law_window_here"] []
 ZDD : mg "_law_time" = some (.ref a.ZBF)
 ZBw : Fun K "_law_curve" "_law_curve" ZJe a.ZAg a.ZAd
 ZC0 : ZER K a.ZAd ["_law_pot_here", "_law_window_here"] []
 ZC7 : mg "_law_curve" = some (.ref a.ZAg)
 ZCH : Fun K "_law_four" "_law_four" ZHy a.ZBK a.ZBI
 ZDH : ZER K a.ZBI ["_law_some"] []
 ZDL : mg "_law_four" = some (.ref a.ZBK)
 ZAU : Fun K "_law_fours" "_law_fours" ZIF a.ZAs a.ZAo
 ZBy : ZER K a.ZAo ["_law_made", "_law_window_here"] []
 ZBv : mg "_law_fours" = some (.ref a.ZAs)
 ZCO : Fun K "_law_step" "_law_step" ZKd a.ZBC a.ZBG
 ZDE : ZER K a.ZBG ["_law_pot_here", "_law_window_here"] []
 ZDI : mg "_law_step" = some (.ref a.ZBC)
 Jt : Fun K "_law_go" "_law_go" ZNb a.Jp a.Jq
 ZCC : ZER K a.Jq ["_law_view_here", "_law_step_here"] []
 ZCG : mg "_law_go" = some (.ref a.Jp)
 ZBq : Fun K "_law_known" "_law_known" ZIG a.ZAR a.ZAk
 ZCx : ZER K a.ZAk ["_law_step_here", "_law_window_here", "_law_known_here"] []
 ZC2 : mg "_law_known" = some (.ref a.ZAR)
 ZCa : Fun K "_law_out" "_law_out" ZLm a.ZBm a.ZBn
 ZDT : ZER K a.ZBn ["_law_pot_here", "_law_window_here"] []
 ZDQ : mg "_law_out" = some (.ref a.ZBm)
 ZCK : Fun K "_law_view" "_law_view" ZKe a.ZBB a.ZA6
 ZDO : ZER K a.ZA6 ["_law_store", "_law_window_here"] []
 ZDN : mg "_law_view" = some (.ref a.ZBB)
 ZCM : Fun K "_law_told" "_law_told" ZKf a.ZBH a.ZA5
 ZDM : ZER K a.ZA5 ["_law_view_here", "_law_step_here"] []
 ZDG : mg "_law_told" = some (.ref a.ZBH)
 JS : Fun K "_law_odd_windows" "_law_odd_windows" ZG5 a.YZ a.YS
 ZBe : ZER K a.YS ["_law_pot_here"] []
 ZBX : mg "_law_odd_windows" = some (.ref a.YZ)
 ZEB : Fun K "law" "law" ZGe a.ZCl a.ZCr
 ZEJ : ZER K a.ZCr ["_law_script"] []
 ZEI : mg "law" = some (.ref a.ZCl)
 ZU : Cls K a.ZH
 ZDk : mg "Tree" = some (.ref a.ZH)
 ZDV : Mk K a.ZH a.YT
 Zy : ZFB K a.ZH "looks"
 Zc : ZFB K a.ZH "samples"
 Zb : ZFB K a.ZH "kept_fours"
 ZF : Cls K a.ZJ
 ZC4 : mg "View" = some (.ref a.ZJ)
 ZCb : Mk K a.ZJ a.Zt
 YB : ZFB K a.ZJ "source"
 ZP : ZFB K a.ZJ "window"
 Zw : ZFB K a.ZJ "asked"
 Zz : ZFB K a.ZJ "known"
 Yn : ZFB K a.ZJ "seen"
 Zp : Cls K a.ZG
 ZDU : mg "Store" = some (.ref a.ZG)
 ZDF : Mk K a.ZG a.YE
 ZAi : ZFB K a.ZG "tree"
 ZAH : ZFB K a.ZG "deeds"
 ZAp : ZFB K a.ZG "done"
 JW : ZFB K a.ZG "watches"
 ZDA : ZHY K a.ZB
 ZC9 : ZGy K a.ZB
 ZO : mg "FourPointsError" = some (.ref a.ZB)
 ZEE : ZHY K a.ZE
 ZD7 : ZGy K a.ZE
 ZD8 : mg "NoColumn" = some (.ref a.ZE)
 Ys : ZHY K a.ZC
 ZCy : ZGy K a.ZC
 Zg : mg "NotHalf" = some (.ref a.ZC)
 ZS : ZHY K a.ZA
 YO : ZGy K a.ZA
 Zx : mg "OutOfTimes" = some (.ref a.ZA)
 ZEC : ZHY K a.ZD
 ZD9 : ZGy K a.ZD
 ZED : mg "NoSample" = some (.ref a.ZD)
 Zj : W.subIn K (.ref a.ZE) (.ref a.ZB) = some true
 Zl : W.kitOne K (.ref a.ZE) (.ref a.ZB) = some true
 Yb : W.subIn K (.ref a.ZE) (.ref a.ZE) = some true
 Ya : W.kitOne K (.ref a.ZE) (.ref a.ZE) = some true
 Yr : W.subIn K (.ref a.ZE) (.ref a.ZC) = some false
 Yx : W.kitOne K (.ref a.ZE) (.ref a.ZC) = some false
 YJ : W.subIn K (.ref a.ZE) (.ref a.ZA) = some false
 YN : W.kitOne K (.ref a.ZE) (.ref a.ZA) = some false
 Ye : W.subIn K (.ref a.ZE) (.ref a.ZD) = some false
 Yh : W.kitOne K (.ref a.ZE) (.ref a.ZD) = some false
 Zu : W.subIn K (.ref a.ZC) (.ref a.ZB) = some true
 ZX : W.kitOne K (.ref a.ZC) (.ref a.ZB) = some true
 Yq : W.subIn K (.ref a.ZC) (.ref a.ZE) = some false
 Yy : W.kitOne K (.ref a.ZC) (.ref a.ZE) = some false
 Z7 : W.subIn K (.ref a.ZC) (.ref a.ZC) = some true
 Y6 : W.kitOne K (.ref a.ZC) (.ref a.ZC) = some true
 Zh : W.subIn K (.ref a.ZC) (.ref a.ZA) = some false
 YV : W.kitOne K (.ref a.ZC) (.ref a.ZA) = some false
 Yw : W.subIn K (.ref a.ZC) (.ref a.ZD) = some false
 Yu : W.kitOne K (.ref a.ZC) (.ref a.ZD) = some false
 Zd : W.subIn K (.ref a.ZA) (.ref a.ZB) = some true
 ZN : W.kitOne K (.ref a.ZA) (.ref a.ZB) = some true
 YM : W.subIn K (.ref a.ZA) (.ref a.ZE) = some false
 YL : W.kitOne K (.ref a.ZA) (.ref a.ZE) = some false
 YX : W.subIn K (.ref a.ZA) (.ref a.ZC) = some false
 ZW : W.kitOne K (.ref a.ZA) (.ref a.ZC) = some false
 ZT : W.subIn K (.ref a.ZA) (.ref a.ZA) = some true
 Z6 : W.kitOne K (.ref a.ZA) (.ref a.ZA) = some true
 YI : W.subIn K (.ref a.ZA) (.ref a.ZD) = some false
 YG : W.kitOne K (.ref a.ZA) (.ref a.ZD) = some false
 Zi : W.subIn K (.ref a.ZD) (.ref a.ZB) = some true
 Zk : W.kitOne K (.ref a.ZD) (.ref a.ZB) = some true
 Yc : W.subIn K (.ref a.ZD) (.ref a.ZE) = some false
 Yg : W.kitOne K (.ref a.ZD) (.ref a.ZE) = some false
 Yv : W.subIn K (.ref a.ZD) (.ref a.ZC) = some false
 Yt : W.kitOne K (.ref a.ZD) (.ref a.ZC) = some false
 YH : W.subIn K (.ref a.ZD) (.ref a.ZA) = some false
 YK : W.kitOne K (.ref a.ZD) (.ref a.ZA) = some false
 Yd : W.subIn K (.ref a.ZD) (.ref a.ZD) = some true
 Yf : W.kitOne K (.ref a.ZD) (.ref a.ZD) = some true
 ZCU : mg "TOP_LEVEL" = some (.int 40 a.ZCW)
 Ji : mg "TIMES_END" = some (.int 1099511627776 a.ZCS)
 ZAS : mg "ValueError" = none
 ZB3 : mg "abs" = none
 ZB6 : mg "bool" = none
 ZBA : mg "divmod" = none
 ZCp : mg "int" = none
 ZM : mg "isinstance" = none
 JR : mg "len" = none
 ZBU : mg "list" = none
 ZAt : mg "max" = none
 Jz : mg "min" = none
 Zn : mg "range" = none
 Yz : mg "repr" = none
 JC : mg "sorted" = none
 YF : mg "tuple" = none
local macro_rules | `(tactic| walk_at "sd") => `(tactic| first
 | (show (0 : Int) < _; omega)
 | decide
 | exact ZXF (by omega) (by omega)
 | exact ZXG (by omega) (by omega)
 | exact ZIA.of (k := 250) (by omega) (by omega) (by decide)
 | exact Or.inr ⟨by omega, by omega⟩
 | exact Or.inl ⟨by omega, by omega⟩
 | exact ZMq (by omega) (by omega) (by decide))
local macro_rules | `(tactic| walk_at "hp") => `(tactic| first
 | assumption
 | exact ZEa
 | (rw [ZEf (by assumption)]; assumption)
 | (rw [ZEf (Ne.symm (by assumption))]; assumption)
 | (rw [ZEf (by assumption)]; rw [ZEf (by assumption)]; assumption))
local macro_rules | `(tactic| walk_at "rd") => `(tactic| first
 | with_reducible first | refine ZVw ?_ | refine ZQa ?_ | refine ZWV ?_ | refine ZSN ?_ | refine ZSM ?_ | refine ZW3 ?_ | refine ZR5 ?_ | refine ZUT ?_ | refine ZSC ?_ | refine ZPH ?_ | refine ZSD ?_ | refine ZSE ?_ | refine ZQS ?_ | refine ZQU ?_ | refine ZNw ?_ | refine ZNx ?_ | refine ZR6 ?_ | refine ZR7 ?_
 | ((with_reducible refine' ZWQ ?e ?_); (case e => rfl))
 | with_reducible first | refine ZVx ?_ | refine ZTy ?_ | refine ZTz ?_ | refine ZVy ?_ | refine ZRs ?_ | refine ZT0 ?_ | refine ZRt ?_ | refine ZT1 ?_ | refine ZVz ?_ | refine ZT2 ?_ | refine ZXI ?_ | refine ZV1 ?_ | refine ZWv ?_ | refine ZV2 ?_ | refine ZT3 ?_ | refine ZT4 ?_ | refine ZWw ?_
 | ((with_reducible refine' ZV3 ?e ?_); (case e => rfl))
 | with_reducible first | refine ZXJ ?_ | refine ZWx ?_ | refine ZWy ?_ | refine ZWz ?_
 | ((with_reducible refine ZMr (C := ZRR) ?c ?_); (case c => exact ZMq (by decide) (by decide) (by decide)); (simp only [Int.reduceToNat, Int.reducePow]))
 | ((with_reducible refine ZMr ?c ?_); (case c => walk_at "sd"))
 | with_reducible first | refine ZXK ?_ | refine ZV4 ?_ | refine ZV5 ?_ | refine ZW0 ?_ | refine ZT5 ?_ | refine ZT6 ?_ | refine ZV6 ?_ | refine ZV7 ?_ | refine ZV8 ?_ | refine ZRv ?_ | refine ZUF ?_ | refine ZV0 ?_ | refine ZWA ?_ | refine ZWB ?_ | refine ZWC ?_ | refine ZXL ?_ | refine ZW1 ?_ | refine ZP6 ?_ | refine ZUC ?_ | refine ZWD ?_ | refine ZUA ?_
 | ((with_reducible refine' ZT8 ?s ?_); (case s => first | assumption | exact SqL.of (by assumption)))
 | ((with_reducible refine' ZT9 ?s ?_); (case s => first | assumption | exact SqT.of (by assumption)))
 | with_reducible first | refine ZV9 ?_ | refine ZT7 ?_ | refine ZUD ?_ | refine ZW2 ?_ | refine ZUE ?_ | refine ZRw ?_
 | ((with_reducible refine' ZWI ?s ?_); (case s => first | assumption | exact SqT.of (by assumption)))
 | ((with_reducible refine' ZP7 ?s ?_); (case s => first | assumption | exact SqL.of (by assumption)))
 | ((with_reducible refine' ZJS ?s ?e ?_); (case s => exact SqL.of (by assumption)); (case e => rfl))
 | ((with_reducible refine' ZMs ?s ?e ?_); (case s => first | assumption | exact SqT.of (by assumption)); (case e => rfl))
 | ((with_reducible refine' ZUB ?s ?e ?_); (case s => first | assumption | exact SqT.of (by assumption)); (case e => rfl)))
local macro_rules | `(tactic| walk_at "ri") => `(tactic| ((fail_if_success with_reducible refine ZQe ?_); walk_at "rd"))
local macro_rules | `(tactic| walk_at "rd") => `(tactic| first
 | with_reducible first | refine ZSS ?_ | refine ZST ?_ | refine ZN0 ?_ | refine ZSb ?_ | refine ZUi ?_)
theorem ZQq (K : W.Frag) : W.kitOne K (.type "int") (.type "int") = some true := by kernel_rfl
theorem ZPR (K : W.Frag) : W.kitOne K (.type "int") (.type "bool") = some false := by kernel_rfl
section
variable {P : Program} {w : World} {K : W.Frag} {mg : Str → Option Value} {base : Heap} {a : Ad}
def ZNc : Sp := fun vs H Q _ => ∃ (c : Addr) (x y : Int), vs = [.ref c] ∧ H c = some (.tup [.int x, .int y]) ∧ Q (.int y) H
theorem ZNd : ZEV ["sample"] ["sample"] (ZEP ZIV) := ZEv
theorem ZGC (T : Txt K mg a) : ZEW P w K mg base CX0 1 a.Jk a.Jb ["sample"] ZNc := by
 refine T.YA.ok ZNd (by walk_at "l") (fun cdv A outer s H vs Q E hr h => ?_)
 ·obtain ⟨c, x, y, rfl, hc, q⟩ := h
  refine ⟨_, QB.h (ZEO (ZEZ (ZEi (ZEj K rfl) (qv 0) ZEM))), ?_⟩
  walk_at "s"
  walk_at "w"
  exact q
end
section
variable {P : Program} {w : World} {K : W.Frag} {mg : Str → Option Value} {base : Heap} {a : Ad}
def ZSc (K : W.Frag) : Sp := fun vs H Q _ => ∃ (v1 v2 : V) (o1 o2 : Option (PL)) (c1 c2 : PL), vs = [v1, v2] ∧ ZE0 H v1 o1 ∧ Is4 c1 o1 ∧ ZE0 H v2 o2 ∧ Is4 c2 o2 ∧ (∀ p ∈ c1, ∀ q ∈ c2, p.1 < q.1) ∧
 ∀ (v : V) (o : Option (PL)) (H' : Hp), ZE0 H' v o → Is4 (c1 ++ c2) o → ZEU H H' → Q v H'
theorem ZL5 {H : Hp} {v : V} {c : PL} {qs : PL} (h : ZE0 H v (some qs)) (g : Is4 c (some qs)) : ∃ (l : Addr) (q0 q1 q2 q3 : Int × Int) (a0 a1 a2 a3 : Addr), v = .ref l ∧ qs = [q0, q1, q2, q3] ∧ H l = some (.tup [.ref a0, .ref a1, .ref a2, .ref a3]) ∧
  H a0 = some (.tup [.int q0.1, .int q0.2]) ∧ H a1 = some (.tup [.int q1.1, .int q1.2]) ∧ H a2 = some (.tup [.int q2.1, .int q2.2]) ∧ H a3 = some (.tup [.int q3.1, .int q3.2]) := by
 cases h with
 | @pr l qs h hl =>
  obtain ⟨us, f, hP⟩ := h
  rcases g with ⟨e, _⟩ | ⟨q0, q1, q2, q3, e, _⟩
  ·cases e
  ·cases e
   cases hP with
   | cons h0 t => cases t with
    | cons h1 t => cases t with
     | cons h2 t => cases t with
      | cons h3 t =>
       cases t
       obtain ⟨a0, rfl, e0⟩ := h0
       obtain ⟨a1, rfl, e1⟩ := h1
       obtain ⟨a2, rfl, e2⟩ := h2
       obtain ⟨a3, rfl, e3⟩ := h3
       exact ⟨l, q0, q1, q2, q3, a0, a1, a2, a3, rfl, rfl, f, e0, e1, e2, e3⟩
theorem ZJf : ZEV ["one", "other", "lowest", "highest"] ["one", "other"] (ZEP ZKZ) := ZEv
theorem ZJg (T : Txt K mg a) : ZEW P w K mg base CX0 2 a.ZA7 a.ZA9 ["one", "other"] (ZSc K) := by
 refine T.Jy.ok ZJf (by walk_at "l") (fun cdv A outer s H vs Q E hr h => ?_)
 ·obtain ⟨v1, v2, o1, o2, c1, c2, rfl, h1, g1, h2, g2, hlt, k⟩ := h
  refine ⟨_, QB.h (ZEN (ZEm (ZEX (ZJR) (qv 0) ZFl (ZEc _)) (ZEO (ZEZ (qv 1))) ZEl) (ZEN (ZEm (ZEX (ZJR) (qv 1) ZFl (ZEc _)) (ZEO (ZEZ (qv 0))) ZEl) (ZEN (qsS (i := 2) ZJf.nd (ZIs (ZEX (ZH8) (qcS (ZGC T) hr T.Zo T.YA.kp T.Zq (ZEK (ZEi (ZEj K rfl) (qv 0) ZEM) ZEL)) (qcS (ZGC T) hr T.Zo T.YA.kp T.Zq (ZEK (ZEi (ZEj K rfl) (qv 1) ZEM) ZEL)) (ZEc _)) (ZEi (ZEj K rfl) (qv 0) ZEM) (ZEi (ZEj K rfl) (qv 1) ZEM))) (ZEN (qsS (i := 3) ZJf.nd (ZIs (ZEX (ZTB) (qcS (ZGC T) hr T.Zo T.YA.kp T.Zq (ZEK (ZEi (ZEj K rfl) (qv 0) ZEM) ZEL)) (qcS (ZGC T) hr T.Zo T.YA.kp T.Zq (ZEK (ZEi (ZEj K rfl) (qv 1) ZEM) ZEL)) (ZEc _)) (ZEi (ZEj K rfl) (qv 0) ZEM) (ZEi (ZEj K rfl) (qv 1) ZEM))) (ZEO (ZEZ (ZEk (ZEK (ZEi (ZEj K rfl) (qv 0) ZEM) (ZEK (ZEi (ZEj K rfl) (qv 1) ZEM) (ZEK (qv 2) (ZEK (qv 3) ZEL))))))))))), ?_⟩
  walk_at "s"
  walk_at "w"
  cases o1 with
  | none =>
   cases h1
   refine ZE4 (fun _ => ?_) (fun h => absurd rfl h)
   walk_at "w"
   refine k v2 o2 H h2 ?_ (ZEU.refl H)
   rw [g1.of_none, List.nil_append]
   exact g2
  | some qs1 =>
   obtain ⟨l1, q0, q1, q2, q3, a0, a1, a2, a3, rfl, rfl, f1, e0, e1, e2, e3⟩ := ZL5 h1 g1
   refine ZE4 (fun h => by cases h) (fun _ => ?_)
   walk_at "w"
   cases o2 with
   | none =>
    cases h2
    refine ZE4 (fun _ => ?_) (fun h => absurd rfl h)
    walk_at "w"
    refine k (.ref l1) _ H h1 ?_ (ZEU.refl H)
    rw [g2.of_none, List.append_nil]
    exact g1
   | some qs2 =>
    obtain ⟨l2, r0, r1, r2, r3, b0, b1, b2, b3, rfl, rfl, f2, d0, d1, d2, d3⟩ := ZL5 h2 g2
    refine ZE4 (fun h => by cases h) (fun _ => ?_)
    walk_at "w"
    refine ⟨a2, _, _, rfl, e2, ?_⟩
    walk_at "w"
    refine ⟨b2, _, _, rfl, d2, ?_⟩
    walk_at "w"
    have J := g1.join g2 hlt
    have fin : ∀ (x y : Addr) (p2 p3 : Int × Int), H x = some (.tup [.int p2.1, .int p2.2]) → H y = some (.tup [.int p3.1, .int p3.2]) → Is4 (c1 ++ c2) (some [q0, r1, p2, p3]) → ∀ l H', H l = none → H' l = some (.tup [.ref a0, .ref b1, .ref x, .ref y]) → ZEU H H' → Q (.ref l) H' := fun x y p2 p3 hx hy J l H' n' f' S' =>
     k (.ref l) _ H' (.pr ⟨_, f', .cons ⟨a0, rfl, S' _ _ e0⟩ (.cons ⟨b1, rfl, S' _ _ d1⟩ (.cons ⟨x, rfl, S' _ _ hx⟩ (.cons ⟨y, rfl, S' _ _ hy⟩ .nil)))⟩ rfl) J S'
    have part2 : ∀ (x : Addr) (p2 : Int × Int), True := fun _ _ => trivial
    refine ZE4 (fun hl => ?_) (fun hl => ?_)
    ·walk_at "w"
     refine ⟨a3, _, _, rfl, e3, ?_⟩
     walk_at "w"
     refine ⟨b3, _, _, rfl, d3, ?_⟩
     walk_at "w"
     refine ZE4 (fun hh => ?_) (fun hh => ?_)
     ·walk_at "w"
      rw [if_pos hl, if_pos hh] at J
      exact ZES (by show 4 ≤ sizeLine; decide) fun l H' n' f' S' => fin _ _ _ _ e2 e3 J l H' n' f' S'
     ·walk_at "w"
      rw [if_pos hl, if_neg hh] at J
      exact ZES (by show 4 ≤ sizeLine; decide) fun l H' n' f' S' => fin _ _ _ _ e2 d3 J l H' n' f' S'
    ·walk_at "w"
     refine ⟨a3, _, _, rfl, e3, ?_⟩
     walk_at "w"
     refine ⟨b3, _, _, rfl, d3, ?_⟩
     walk_at "w"
     refine ZE4 (fun hh => ?_) (fun hh => ?_)
     ·walk_at "w"
      rw [if_neg hl, if_pos hh] at J
      exact ZES (by show 4 ≤ sizeLine; decide) fun l H' n' f' S' => fin _ _ _ _ d2 e3 J l H' n' f' S'
     ·walk_at "w"
      rw [if_neg hl, if_neg hh] at J
      exact ZES (by show 4 ≤ sizeLine; decide) fun l H' n' f' S' => fin _ _ _ _ d2 d3 J l H' n' f' S'
end
section
variable {P : Program} {w : World} {K : W.Frag} {mg : Str → Option Value} {base : Heap} {a : Ad}
theorem ZUj {xs : List V} {v : V} (h : xs[xs.length - 1]? = some v) : atI xs (-1) = some v := by
 have hlt := (List.getElem?_eq_some_iff.mp h).1
 unfold atI ixN
 rw [if_neg (by decide), if_pos (by omega)]
 have : ((-1 : Int) + (xs.length : Int)).toNat = xs.length - 1 := by omega
 rw [this]
 exact h
def ZSd (K : W.Frag) : Sp := fun vs H Q _ => ∃ (l : Addr) (cv : PL), vs = [.ref l] ∧ PrT H l cv ∧ Asc cv ∧
 ∀ (v : V) (o : Option (PL)) (H' : Hp), ZE0 H' v o → Is4 cv o → ZEU H H' → Q v H'
theorem ZPS : ZEV ["curve"] ["curve"] (ZEP ZJX) := ZEv
theorem ZPT (T : Txt K mg a) : ZEW P w K mg base CX0 3 a.ZAf a.ZAV ["curve"] (ZSd K) := by
 refine T.ZBx.ok ZPS (by walk_at "l") (fun cdv A outer s H vs Q E hr h => ?_)
 ·obtain ⟨l, cv, rfl, ⟨us, gL, pL⟩, hasc, k⟩ := h
  have hul : us.length = cv.length := pL.length
  refine ⟨_, QB.h (ZEN (ZEm (ZEX (ZE7) (ZEe (ZIh K rfl) rfl T.JR ZId (ZEK (qv 0) ZEL)) ZEM (ZEc _)) (ZEO (ZEZ ZFl)) ZEl) (ZEO (ZEZ (ZEk (ZEK (ZEi (ZEj K rfl) (qv 0) ZEM) (ZEK (ZEi (ZEj K rfl) (qv 0) (ZHg ZGv ZEM)) (ZEK (ZPD K rfl rfl (ZGC T) hr rfl T.Jz rfl T.Zo T.Zq (ZEK (qv 0) ZEL)) (ZEK (ZPF K rfl rfl (ZGC T) hr rfl T.ZAt rfl T.Zo T.Zq (ZEK (qv 0) ZEL)) ZEL)))))))), ?_⟩
  walk_at "s"
  walk_at "w"
  refine ZE4 (fun h => ?_) (fun h => ?_)
  ·walk_at "w"
   have : cv = [] := List.length_eq_zero_iff.mp (by have h := V.int.inj h; omega)
   exact k _ none H .non (.inl ⟨rfl, this⟩) (ZEU.refl H)
  ·have hpos : 0 < us.length := by
    rcases Nat.eq_zero_or_pos us.length with z | z
    ·exact absurd (by rw [z]; rfl) h
    ·exact z
   have hne : us ≠ [] := List.length_pos_iff.mp hpos
   obtain ⟨c0, q0, ec0, hq0, hc0⟩ := pL.at (List.getElem?_eq_getElem hpos)
   obtain ⟨c1, q1, ec1, hq1, hc1⟩ := pL.at (List.getElem?_eq_getElem (show us.length - 1 < us.length by omega))
   have hx0 : us[0]? = some (.ref c0) := by rw [List.getElem?_eq_getElem hpos, ec0]
   have hx1 : us[us.length - 1]? = some (.ref c1) := by rw [List.getElem?_eq_getElem (show us.length - 1 < us.length by omega), ec1]
   have turn : ∀ i v, us[i]? = some v → ∀ Q : VK, Q (.int (cv.getD i (0, 0)).2) H → ZNc [v] H Q E0 := fun i v hv Q q => by
    obtain ⟨c, p, rfl, hp, hc⟩ := pL.at hv
    have e : cv.getD i (0, 0) = p := by simp [hp]
    rw [e] at q
    exact ⟨c, p.1, p.2, rfl, hc, q⟩
   walk_at "w"
   refine ZMs (SqT.of gL) (ZIb (j := 0) hx0) ?_
   walk_at "w"
   refine ZMs (SqT.of gL) (ZUj hx1) ?_
   walk_at "w"
   refine ZPE (fun i => (cv.getD i (0, 0)).2) (SqT.of gL) hne turn fun i2 v2 hv2 hb2 => ?_
   walk_at "w"
   refine ZPG (fun i => (cv.getD i (0, 0)).2) (SqT.of gL) hne turn fun i3 v3 hv3 hb3 => ?_
   obtain ⟨c2, q2, rfl, hq2, hc2⟩ := pL.at hv2
   obtain ⟨c3, q3, rfl, hq3, hc3⟩ := pL.at hv3
   walk_at "w"
   refine ZES (by show 4 ≤ sizeLine; decide) fun c4 H4 n4 f4 S4 => ?_
   have hP4 : ZEY H4 [.ref c0, .ref c1, .ref c2, .ref c3] [q0, q1, q2, q3] := .cons ⟨c0, rfl, S4 _ _ hc0⟩ (.cons ⟨c1, rfl, S4 _ _ hc1⟩ (.cons ⟨c2, rfl, S4 _ _ hc2⟩ (.cons ⟨c3, rfl, S4 _ _ hc3⟩ .nil)))
   rw [hul] at hq1 hb2 hb3
   exact k _ (some [q0, q1, q2, q3]) H4 (.pr ⟨_, f4, hP4⟩ rfl) (Is4.minmax hasc hq0 hq1 hq2 hq3 hb2 hb3) S4
end
section
variable {P : Program} {w : World} {K : W.Frag} {mg : Str → Option Value} {base : Heap} {a : Ad}
def InT (x : Int) : Prop := -1099511627776 ≤ x ∧ x ≤ 1099511627776
def ZUk : Sp := fun vs H Q _ => ∃ i : Int, vs = [.int i] ∧ Q (.bl true) H
theorem ZN1 : ZEV ["thing"] ["thing"] (ZEP ZI4) := ZEv
theorem ZKD (T : Txt K mg a) : ZEW P w K mg base CX0 1 a.Ju a.Jw ["thing"] ZUk := by
 refine T.ZAG.ok ZN1 (by walk_at "l") (fun cdv A outer s H vs Q E hr h => ?_)
 ·obtain ⟨i, rfl, q⟩ := h
  refine ⟨_, QB.h (ZEO (ZEZ (ZK0 (ZEe (ZQA K rfl) rfl T.ZM ZE5 (ZEK (qv 0) (ZEK (ZOR (v := .ty "int") rfl T.ZCp ZVq rfl) ZEL))) (ZKz (ZWK (ZEe (ZQA K rfl) rfl T.ZM ZE5 (ZEK (qv 0) (ZEK (ZOR (v := .ty "bool") rfl T.ZB6 ZTv rfl) ZEL)))))))), ?_⟩
  walk_at "s"
  walk_at "w"
  refine ZP5 (.int i) (ZQq _) (ZV0 (ZFY ?_))
  walk_at "w"
  refine ZP5 (.int i) (ZPR _) ?_
  walk_at "w"
  exact q
def ZSe : Sp := fun vs H Q _ => ∃ i : Int, vs = [.int i] ∧ ((InT i ∧ Q (.bl true) H) ∨ (¬ InT i ∧ Q (.bl false) H))
theorem ZNe : ZEV ["thing"] ["thing"] (ZEP ZIW) := ZEv
theorem ZGX (T : Txt K mg a) : ZEW P w K mg base CX0 2 a.Jf a.Jc ["thing"] ZSe := by
 refine T.Zm.ok ZNe (by walk_at "l") (fun cdv A outer s H vs Q E hr h => ?_)
 ·obtain ⟨i, rfl, h⟩ := h
  refine ⟨_, QB.h (ZEO (ZEZ (ZK0 (qcS (ZKD T) hr T.ZBZ T.ZAG.kp T.ZBS (ZEK (qv 0) ZEL)) (ZKz (ZRx ZH8 ZH8 (ZHg ZGv (ZFh (v := .int 1099511627776) rfl T.Ji ⟨_, rfl⟩)) (qv 0) (ZFh (v := .int 1099511627776) rfl T.Ji ⟨_, rfl⟩)))))), ?_⟩
  walk_at "s"
  walk_at "w"
  refine ⟨i, rfl, ?_⟩
  walk_at "w"
  refine ZFY ?_
  walk_at "w"
  unfold InT at h
  refine ZE4 (fun h1 => ?_) (fun h1 => ?_)
  ·walk_at "w"
   rcases h with ⟨hi, q⟩ | ⟨hi, q⟩
   ·rw [decide_eq_true hi.2]
    exact q
   ·rw [decide_eq_false fun z => hi ⟨by omega, z⟩]
    exact q
  ·rcases h with ⟨hi, q⟩ | ⟨hi, q⟩
   ·exact absurd hi.1 (by omega)
   ·walk_at "w"
    exact q
def ZUl : Sp := fun vs H Q _ => ∃ b e : Int, vs = [.int b, .int e] ∧ InT b ∧ InT e ∧ Q .non H
theorem ZHz : ZEV ["begin", "end"] ["begin", "end"] (ZEP ZG0) := ZEv
theorem ZH0 (T : Txt K mg a) : ZEW P w K mg base CX0 3 a.Zs a.Zv ["begin", "end"] ZUl := by
 refine T.Za.ok ZHz (by walk_at "l") (fun cdv A outer s H vs Q E hr h => ?_)
 ·obtain ⟨b, e, rfl, hb, he, q⟩ := h
  refine ⟨_, QB.h (ZEO (ZEm (QW.pt (ZHO (ZF2 (ZFg (qcS (ZGX T) hr T.Z9 T.Zm.kp T.Z8 (ZEK (qv 0) ZEL)))) (ZGi (ZF2 (ZFg (qcS (ZGX T) hr T.Z9 T.Zm.kp T.Z8 (ZEK (qv 1) ZEL))))))) (ZEO ZFi) ZEl)), ?_⟩
  walk_at "s"
  walk_at "w"
  refine ⟨b, rfl, .inl ⟨hb, ?_⟩⟩
  walk_at "w"
  refine ZE9 ?_
  walk_at "w"
  refine ⟨e, rfl, .inl ⟨he, ?_⟩⟩
  walk_at "w"
  refine ZE9 ?_
  walk_at "w"
  exact q
def ZQr : Sp := fun vs H Q _ => ∃ x e : Int, vs = [.int x, .int e] ∧ InT x ∧ InT e ∧ x < e ∧
 ∀ (t : Addr) (L : Nat) (H' : Hp), H' t = some (.tup [.int L, .int (2 ^ L)]) → (2 : Int) ^ L ∣ x → x + 2 ^ L ≤ e → ((2 : Int) ^ (L + 1) ∣ x → x + 2 ^ (L + 1) ≤ e → False) → ZEU H H' → Q (.ref t) H'
theorem ZG6 : ZEV ["first", "end", "level", "size"] ["first", "end"] (ZEP ZJY) := ZEv
theorem ZPU (T : Txt K mg a) : ZEW P w K mg base CX0 1 a.ZAj a.ZAY ["first", "end"] ZQr := by
 refine T.ZBu.ok ZG6 (by walk_at "l") (fun cdv A outer s H vs Q E hr h => ?_)
 ·obtain ⟨x, e, rfl, hx, he, hxe, k⟩ := h
  unfold InT at hx he
  refine ⟨_, QB.h (ZEN (qsS (i := 2) ZG6.nd ZEM) (ZEN (qsS (i := 3) ZG6.nd ZEM) (ZEN (ZMw PassesOwn.never (QW.pt (ZIg (ZEX (ZE7) (ZEQ ZGg (qv 0) (ZEQ ZEs ZEM (qv 3))) ZEM (ZEc _)) (ZHn (ZEX (ZH8) (ZEQ ZEq (qv 0) (ZEQ ZEs ZEM (qv 3))) (qv 1) (ZEc _))))) (ZEN (ZK1 (i := 2) ZG6.nd rfl (by walk_at "o") ZLQ ZEM) (ZEO (ZK1 (i := 3) ZG6.nd rfl (by walk_at "o") ZTe ZEM)))) (ZEO (ZEZ (ZEk (ZEK (qv 2) (ZEK (qv 3) ZEL)))))))), ?_⟩
  walk_at "s"
  walk_at "w"
  refine ZM9 (fun σ H' => H' = H ∧ ∃ L : Nat, ∃ z : Int, z = 2 ^ L ∧ σ = [some (.int x), some (.int e), some (.int L), some (.int z)] ∧ z ∣ x ∧ x + z ≤ e) (fun σ H' => match σ with | [_, _, some (.int l), some (.int z)] => (2199023255552 - z).toNat | _ => 0) ?_ ?_
  ·exact ⟨rfl, 0, 1, rfl, rfl, Int.one_dvd _, by omega⟩
  ·rintro σ H' ⟨rfl, L, z, hz, rfl, hd, hle⟩
   have hp : 0 < z := by rw [hz]; exact ZGB L
   have hz2 : z ≤ 2199023255552 := by omega
   walk_at "w"
   rw [ZFk]
   refine ZE4 (fun h1 => ?_) (fun h1 => ?_)
   ·walk_at "w"
    refine ZE4 (fun h2 => ?_) (fun h2 => ?_)
    ·refine ZOS ?_
     walk_at "w"
     refine ⟨⟨rfl, L + 1, z * 2, ?_, ?_, ?_, by omega⟩, ?_⟩
     ·rw [hz, Int.pow_succ]
     ·show [some (V.int x), some (V.int e), some (V.int ((L : Int) + 1)), some (V.int (z * 2))] = _
      rfl
     ·rw [Int.mul_comm]; exact Int.dvd_of_emod_eq_zero h1
     ·show (2199023255552 - z * 2).toNat < (2199023255552 - z).toNat
      omega
    ·walk_at "w"
     refine ZES (by show 2 ≤ sizeLine; decide) fun t H2 n2 f2 S2 => ?_
     subst hz
     refine k t L H2 f2 hd hle (fun _ h4 => h2 ?_) S2
     rw [ZI1]; exact h4
   ·refine ZE9 ?_
    walk_at "w"
    refine ZES (by show 2 ≤ sizeLine; decide) fun t H2 n2 f2 S2 => ?_
    subst hz
    refine k t L H2 f2 hd hle (fun h3 _ => h1 ?_) S2
    rw [ZI1]; exact Int.emod_eq_zero_of_dvd h3
def ZJh (b e : Int) : Int := if e > b then e else b
def ZN2 : Sp := fun vs H Q _ => ∃ b e : Int, vs = [.int b, .int e] ∧ InT b ∧ InT e ∧
 ∀ (t : Addr) (prs : PL) (H' : Hp), PrT H' t prs → Ch e b prs (ZJh b e) → prs.length ≤ 80 → ZEU H H' → Q (.ref t) H'
theorem ZGD : ZEV ["begin", "end", "found", "first", "level", "size"] ["begin", "end"] (ZEP ZIX) := ZEv
theorem ZNf (T : Txt K mg a) : ZEW P w K mg base CX0 4 a.Jh a.Jg ["begin", "end"] ZN2 := by
 refine T.ZA4.ok ZGD (by walk_at "l") (fun cdv A outer s H vs Q E hr h => ?_)
 ·obtain ⟨b, e, rfl, hb, he, k⟩ := h
  refine ⟨_, QB.h (ZEN (ZEu (qcS (ZH0 T) hr T.YQ T.Za.kp T.YW (ZEK (qv 0) (ZEK (qv 1) ZEL)))) (ZEN (qsS (i := 2) ZGD.nd (ZF8 ZEL)) (ZEN (qsS (i := 3) ZGD.nd (qv 0)) (ZEN (ZMw PassesOwn.never (ZEX (ZKm) (qv 3) (qv 1) (ZEc _)) (ZEN (ZFr (qcS (ZPU T) hr.m T.ZC3 T.ZBu.kp T.ZC5 (ZEK (qv 3) (ZEK (qv 1) ZEL))) (ZFU (n := 2) K rfl rfl (ZET (qgN (i := 4) ZGD.nd) (ZET (qgN (i := 5) ZGD.nd) ZFD)))) (ZEN (ZEu (ZO2 PySem.F.plainAttrs_list PySem.F.slot_list_append PySem.F.type_list_append ZH9 (qv 2) (ZEK (ZEk (ZEK (qv 4) (ZEK (ZEQ ZF3 (qv 3) (qv 5)) ZEL))) ZEL))) (ZEO (ZK1 (i := 3) ZGD.nd rfl (by walk_at "o") ZLQ (qv 5)))))) (ZEO (ZEZ (ZGc (ZHD K rfl) rfl T.YF ZG9 (ZEK (qv 2) ZEL)))))))), ?_⟩
  walk_at "s"
  walk_at "w"
  refine ⟨b, e, rfl, hb, he, ?_⟩
  unfold InT at hb he
  walk_at "w"
  refine ZES (by show 0 ≤ sizeLine; decide) fun l H1 n1 f1 S1 => ?_
  walk_at "w"
  have e40 : (2 : Int) ^ 40 = 1099511627776 := by decide
  refine ZM9 (fun σ H' => ZEU H H' ∧ ∃ (x : Int) (prs : PL), (∃ v4 v5, σ = [some (.int b), some (.int e), some (.ref l), some (.int x), v4, v5]) ∧ PrL H' l prs ∧ Ch e b prs x ∧ Few e prs.length x ∧ x ≤ ZJh b e ∧ b ≤ x) (fun σ H' => match σ with | [_, _, _, some (.int x), _, _] => (e - x).toNat | _ => 0) ?_ ?_
  ·exact ⟨S1, b, [], ⟨_, _, rfl⟩, ⟨[], f1, .nil⟩, rfl, Few.start (by rw [e40]; omega), by unfold ZJh; split <;> omega, Int.le_refl _⟩
  ·rintro σ H' ⟨S', x, prs, ⟨v4, v5, rfl⟩, ⟨vs, f', hP⟩, hch, hfew, hmx, hbx⟩
   walk_at "w"
   refine ZE4 (fun hxe => ?_) (fun hxe => ?_)
   ·refine ZOS ?_
    walk_at "w"
    refine ⟨x, e, rfl, ⟨by omega, by omega⟩, he, hxe, fun t L H2 f2 hd hle hmax S2 => ?_⟩
    have hL : L ≤ 40 := ZNO (by rw [e40]; omega) (by rw [e40]; omega) hd hle
    have hp := ZGB L
    have hL2 := ZI0 hL
    rw [e40] at hL2
    have hfs := Few.step (by rw [e40]; omega) (by rw [e40]; omega) hfew hd hle hmax
    generalize hz : (2 : Int) ^ L = z at *
    walk_at "w"
    refine ⟨tyL (S2 _ _ f'), ?_⟩
    walk_at "w"
    refine ZES (by show 2 ≤ sizeLine; decide) fun t3 H3 n3 f3 S3 => ?_
    have fl := S3 _ _ (S2 _ _ f')
    walk_at "w"
    refine ZJT fl ?_ fun H4 f4 K4 => ?_
    ·rw [hP.length]
     exact Nat.lt_of_le_of_lt hfew.len (by decide)
    walk_at "w"
    have hxz : x / z * z = x := Int.ediv_mul_cancel hd
    refine ⟨⟨((S'.trans S2).trans S3).kpN n1 K4, x + z, prs ++ [((L : Int), x / z)], ⟨_, _, rfl⟩, ⟨_, f4, ?_⟩, ?_, ?_, ?_, by omega⟩, ?_⟩
    ·exact ZEY.kpL K4 fl ((hP.same (S2.trans S3)).snoc f3)
    ·have := Ch.snoc (p := ((L : Int), x / z)) hch ⟨by simp, by simp; omega⟩ (by rw [show ((L : Int), x / z).1.toNat = L from Int.toNat_natCast L, hz]; exact hxz) (by rw [show ((L : Int), x / z).1.toNat = L from Int.toNat_natCast L, hz]; exact hle) (by
      rw [show ((L : Int), x / z).1.toNat = L from Int.toNat_natCast L, hz]
      intro _ h5 h6
      have ez : (2 : Int) ^ (L + 1) = 2 * z := by rw [← ZI1, hz]
      refine hmax ?_ ?_
      ·rw [ez]; exact Int.dvd_of_emod_eq_zero h5
      ·rw [ez]; exact h6)
     rw [show ((L : Int), x / z).1.toNat = L from Int.toNat_natCast L, hz] at this
     exact this
    ·rw [List.length_append]; exact hfs
    ·unfold ZJh; split <;> omega
    ·show (e - (x + z)).toNat < (e - x).toNat
     omega
   ·walk_at "w"
    refine ZHm (SqL.of f') fun t H2 n2 f2 S2 => ?_
    have ex : x = ZJh b e := by
     unfold ZJh at hmx ⊢
     split <;> rename_i hh
     ·rw [if_pos hh] at hmx; omega
     ·rw [if_neg hh] at hmx; omega
    rw [ex] at hch
    exact k t prs H2 ⟨vs, f2, hP.same S2⟩ hch hfew.len (S'.trans S2)
end
section
variable {P : Program} {w : World} {K : W.Frag} {mg : Str → Option Value} {base : Heap} {a : Ad}
def ZUm (K : W.Frag) : Sp := fun vs H Q _ => ∃ (p : Addr) (b y m k : Int), vs = [.ref p, .int k] ∧ H p = some (.tup [.int b, .int y, .int m]) ∧ 0 ≤ k ∧ k < m ∧ m ≤ 1000 ∧
 ∀ (u : Addr) (H' : Hp), H u = none → H' u = some (.tup [.int (b + k * y), .int (b + k * y + y)]) → ZEU H H' → Q (.ref u) H'
theorem ZGk : ZEV ["window", "k", "begin", "wide", "many", "first"] ["window", "k"] (ZEP ZI5) := ZEv
theorem ZKE (T : Txt K mg a) : ZEW P w K mg base CX0 2 a.ZAF a.ZAA ["window", "k"] (ZUm K) := by
 refine T.J5.ok ZGk (by walk_at "l") (fun cdv A outer s H vs Q E hr h => ?_)
 ·obtain ⟨p, b, y, m, n, rfl, hT, h0, h1, h2, k⟩ := h
  refine ⟨_, QB.h (ZEN (ZFr (qv 0) (ZFU (n := 3) K rfl rfl (ZET (qgN (i := 2) ZGk.nd) (ZET (qgN (i := 3) ZGk.nd) (ZET (qgN (i := 4) ZGk.nd) ZFD))))) (ZEN (ZEm (QW.pt (ZHO (ZF2 (ZFg (qcS (ZKD T) hr T.ZBZ T.ZAG.kp T.ZBS (ZEK (qv 1) ZEL)))) (ZGi (ZF2 (ZKM ZH8 ZKm ZEM (qv 1) (qv 4)))))) (ZEO ZFi) ZEl) (ZEN (qsS (i := 5) ZGk.nd (ZEQ ZEq (qv 2) (ZEQ ZEs (qv 1) (qv 3)))) (ZEO (ZEZ (ZEk (ZEK (qv 5) (ZEK (ZEQ ZEq (qv 5) (qv 3)) ZEL)))))))), ?_⟩
  walk_at "s"
  walk_at "w"
  refine ⟨n, rfl, ?_⟩
  walk_at "w"
  refine ZE9 ?_
  walk_at "w"
  refine ZE4 (fun _ => ?_) (fun h => absurd h0 h)
  walk_at "w"
  rw [decide_eq_true h1]
  refine ZE9 ?_
  walk_at "w"
  exact ZES (by show 2 ≤ sizeLine; decide) fun u H2 n2 f2 S2 => k u H2 n2 f2 S2
def ZHQ (b y : Int) (n : Nat) : PL := (List.range n).map fun (i : Nat) => (b + (i : Int) * y, b + (i : Int) * y + y)
theorem ZHV (b y : Int) (n : Nat) : (ZHQ b y n).length = n := by rw [ZHQ, List.length_map, List.length_range]
theorem ZLI (b y : Int) (n : Nat) : ZHQ b y (n + 1) = ZHQ b y n ++ [(b + (n : Int) * y, b + (n : Int) * y + y)] := by rw [ZHQ, List.range_succ, List.map_append]; rfl
theorem ZJC {b y : Int} {n i : Nat} {p : Int × Int} (h : (ZHQ b y n)[i]? = some p) : p = (b + (i : Int) * y, b + (i : Int) * y + y) := by
 rw [ZHQ, List.getElem?_map] at h
 obtain ⟨j, hj, rfl⟩ := Option.map_eq_some_iff.mp h
 rw [List.getElem?_range (by have := (List.getElem?_eq_some_iff.mp hj).1; rwa [List.length_range] at this)] at hj
 rw [← Option.some.inj hj]
def ZQs (K : W.Frag) : Sp := fun vs H Q _ => ∃ (p : Addr) (b y m : Int), vs = [.ref p] ∧ H p = some (.tup [.int b, .int y, .int m]) ∧ 1 ≤ m ∧ m ≤ 1000 ∧
 ∀ (l : Addr) (us : List V) (H' : Hp), H l = none → H' l = some (.lst us) → ZEY H' us (ZHQ b y m.toNat) → ZEU H H' → Q (.ref l) H'
theorem ZMK : ZEV ["window"] ["window"] (ZEP ZGz) := ZEv
theorem ZHc (T : Txt K mg a) : ZEW P w K mg base CX0 3 a.JL a.JQ ["window"] (ZQs K) := by
 refine T.YR.ok ZMK (by walk_at "l") (fun cdv A outer s H vs Q E hr h => ?_)
 ·obtain ⟨p, b, y, m, rfl, hT, h1, h2, k⟩ := h
  refine ⟨_, QB.h (ZEO (ZEZ (ZGt (N := ["window"]) (sc := ZEP ZGz) (own := ["k"]) (caps := ["window"]) (ks := [0]) rfl rfl rfl ⟨rfl, by decide +kernel, by decide +kernel, by decide +kernel, by decide +kernel, rfl, by decide +kernel⟩ (ZGs rfl T.Zn (ZEK (ZEi (ZEj K rfl) (qv 0) ZEM) ZEL)) (fun _ _ _ _ _ => ZF0 (i := 0) (show List.Nodup (α := Str) ["k", "window"] from by decide +kernel) rfl (by walk_at "o") (.inr rfl)) (fun _ _ _ _ _ => ZHC) (fun _ _ _ _ _ => qcS (ZKE T) hr T.ZBY T.J5.kp T.ZBa (ZEK (qv 1) (ZEK (qv 0) ZEL)))))), ?_⟩
  walk_at "s"
  walk_at "w"
  refine ZIe (by omega) (by omega) ?_
  intro l n1
  refine ZGr m.toNat (fun i σ' H' => (∃ o, σ' = [o, some (.ref p)]) ∧ ZEU H H' ∧ ∃ vs, H' l = some (.lst vs) ∧ ZEY H' vs (ZHQ b y i)) ?_ ?_ ?_
  ·exact ⟨⟨none, rfl⟩, ZEU.new n1, [], ZEa, .nil⟩
  ·rintro σ H2 ⟨_, S2, vs, f2, hP⟩
   refine ⟨Nat.le_refl _, ?_⟩
   walk_at "w"
   exact k l vs H2 n1 f2 hP S2
  ·rintro i σ H2 hi ⟨⟨o, rfl⟩, S2, vs, f2, hP⟩
   refine ⟨hi, ?_⟩
   rintro x H'' ⟨rfl, rfl⟩
   walk_at "w"
   refine ZFY ?_
   walk_at "w"
   refine ⟨p, b, y, m, _, rfl, S2 _ _ hT, by omega, by omega, by omega, fun u H3 n3 f3 S3 => ?_⟩
   have e0 : (0 + (i : Int)) = (i : Int) := by omega
   rw [e0] at f3
   refine ⟨vs, S3 _ _ f2, ?_, ⟨_, rfl⟩, (S2.trans S3).kpN n1 Kp.upd, vs ++ [.ref u], ZEa, ?_⟩
   ·rw [hP.length, ZHV]
    exact Nat.lt_of_lt_of_le hi (Nat.le_trans (show m.toNat ≤ 1000 by omega) (by decide))
   ·rw [ZLI]
    exact ZEY.kpL Kp.upd (S3 _ _ f2) ((hP.same S3).snoc (p := (b + (i : Int) * y, b + (i : Int) * y + y)) f3)
end
def tfl (n : Int) (d1 d2 : Addr) : List (Str × V) := [("looks", V.int n), ("samples", V.ref d1), ("kept_fours", V.ref d2)]
theorem sn1 : (("samples" : Str) == "looks") = false := by decide +kernel
theorem sn2 : (("kept_fours" : Str) == "looks") = false := by decide +kernel
theorem sn3 : (("kept_fours" : Str) == "samples") = false := by decide +kernel
theorem ZIH {n : Int} {d1 d2 : Addr} : (tfl n d1 d2).lookup ("looks" : Str) = some (.int n) := by
 unfold tfl
 rw [List.lookup_cons, beq_self_eq_true]
theorem ZHR {n : Int} {d1 d2 : Addr} : (tfl n d1 d2).lookup ("samples" : Str) = some (.ref d1) := by
 unfold tfl
 rw [List.lookup_cons, sn1, List.lookup_cons, beq_self_eq_true]
theorem ZKg {n : Int} {d1 d2 : Addr} : (tfl n d1 d2).lookup ("kept_fours" : Str) = some (.ref d2) := by
 unfold tfl
 rw [List.lookup_cons, sn2, List.lookup_cons, sn3, List.lookup_cons, beq_self_eq_true]
theorem ZLJ {n : Int} {d1 d2 : Addr} {m : Str} (h1 : (m == ("looks" : Str)) = false := by decide +kernel) (h2 : (m == ("samples" : Str)) = false := by decide +kernel) (h3 : (m == ("kept_fours" : Str)) = false := by decide +kernel) : (tfl n d1 d2).lookup m = none := by
 unfold tfl
 rw [List.lookup_cons, h1, List.lookup_cons, h2, List.lookup_cons, h3]
 rfl
theorem ZUn {n n' : Int} {d1 d2 : Addr} : ZEr "looks" (.int n') (tfl n d1 d2) = tfl n' d1 d2 := by
 show (if ("looks" : Str) = "looks" then [(("looks" : Str), V.int n')] ++ _ else _) = _
 rw [if_pos rfl]
 rfl
theorem ZUo {d1 d2 : Addr} : ZEr "kept_fours" (.ref d2) (ZEr "samples" (.ref d1) (ZEr "looks" (.int 0) [])) = tfl 0 d1 d2 := by
 have e1 : ¬ ("looks" : Str) = "samples" := by decide +kernel
 have e2 : ¬ ("looks" : Str) = "kept_fours" := by decide +kernel
 have e3 : ¬ ("samples" : Str) = "kept_fours" := by decide +kernel
 show ZEr "kept_fours" (.ref d2) (ZEr "samples" (.ref d1) [(("looks" : Str), V.int 0)]) = _
 rw [show ZEr "samples" (.ref d1) [(("looks" : Str), V.int 0)] = (if ("looks" : Str) = "samples" then [(("looks" : Str), V.ref d1)] else (("looks" : Str), V.int 0) :: ZEr "samples" (.ref d1) []) from rfl, if_neg e1]
 show (if ("looks" : Str) = "kept_fours" then _ else (("looks" : Str), V.int 0) :: (if ("samples" : Str) = "kept_fours" then _ else (("samples" : Str), V.ref d1) :: ZEr "kept_fours" (.ref d2) [])) = _
 rw [if_neg e2, if_neg e3]
 rfl
def ZE6 (C : Addr) (H : Hp) (p : Addr) (n : Int) (d1 d2 : Addr) (sm : PL) (c : Nat) : Prop :=
 ∃ dx kvs, H p = some (.ins C dx (tfl n d1 d2)) ∧ H d1 = some (.dK (ZFL sm)) ∧ H d2 = some (.dT kvs) ∧ (sm.map (·.1)).Nodup ∧ ZFt H kvs sm (fun _ _ => True) ∧ kvs.length ≤ 41 * c
theorem ZE6.same {C : Addr} {H H' : Hp} {p d1 d2 : Addr} {n : Int} {sm : PL} {c : Nat} (h : ZE6 C H p n d1 d2 sm c) (s : ZEU H H') : ZE6 C H' p n d1 d2 sm c := by
 obtain ⟨dx, kvs, h1, h2, h3, h4, h5, h6⟩ := h
 exact ⟨dx, kvs, s _ _ h1, s _ _ h2, s _ _ h3, h4, h5.same s, h6⟩
def Fr3 (p d1 d2 : Addr) (H H' : Hp) : Prop := ∀ b o, H b = some o → b ≠ p → b ≠ d1 → b ≠ d2 → H' b = some o
section
variable {P : Program} {w : World} {K : W.Frag} {mg : Str → Option Value} {base : Heap} {a : Ad}
local macro_rules | `(tactic| walk_at "rd") => `(tactic| first
 | with_reducible first | refine ZEz (by assumption) (‹Txt _ _ _›).ZU (‹Txt _ _ _›).Zy ZIH ?_ | refine ZEz (by assumption) (‹Txt _ _ _›).ZU (‹Txt _ _ _›).Zc ZHR ?_ | refine ZEz (by assumption) (‹Txt _ _ _›).ZU (‹Txt _ _ _›).Zb ZKg ?_)
def Tm (t : Int) : Prop := -1099511627776 ≤ t ∧ t < 1099511627776
def ZSf : Sp := fun vs H Q _ => ∃ t : Int, vs = [.int t] ∧ Tm t ∧ Q .non H
theorem ZML : ZEV ["t"] ["t"] (ZEP ZHv) := ZEv
theorem ZMM (T : Txt K mg a) : ZEW P w K mg base CX0 3 a.JN a.JK ["t"] ZSf := by
 refine T.ZAX.ok ZML (by walk_at "l") (fun cdv A outer s H vs Q E hr h => ?_)
 ·obtain ⟨t, rfl, ht, q⟩ := h
  unfold Tm at ht
  refine ⟨_, QB.h (ZEO (ZEm (QW.pt (ZHO (ZF2 (ZFg (qcS (ZGX T) hr T.Z9 T.Zm.kp T.Z8 (ZEK (qv 0) ZEL)))) (ZGi (ZEX (ZE7) (qv 0) (ZFh (v := .int 1099511627776) rfl T.Ji ⟨_, rfl⟩) (ZEc _))))) (ZEO ZFi) ZEl)), ?_⟩
  walk_at "s"
  walk_at "w"
  refine ⟨t, rfl, .inl ⟨⟨by omega, by omega⟩, ?_⟩⟩
  walk_at "w"
  refine ZE9 ?_
  walk_at "w"
  rw [ZFk]
  refine ZE4 (fun h => ?_) (fun h => ?_)
  ·exfalso
   omega
  ·walk_at "w"
   exact q
def ZUp (C : Addr) : Sp := fun vs H Q _ => ∃ (p d1 d2 dx : Addr) (n t : Int) (v : V) (o : Option (PL)) (sm : PL) (kvs : List (List Key × V)) (c : Nat), vs = [.ref p, .int t, v] ∧ H p = some (.ins C dx (tfl n d1 d2)) ∧ H d1 = some (.dK (ZFL sm)) ∧ H d2 = some (.dT kvs) ∧ (sm.map (·.1)).Nodup ∧
 ZFt H kvs sm (fun l s => s ≠ t / 2 ^ l) ∧ kvs.length ≤ 41 * c ∧ c ≤ 1000 ∧ ZE0 H v o ∧ Is4 (inS sm 0 t) o ∧ ∀ H', ZE6 C H' p n d1 d2 sm (c + 1) → Kp d2 H H' → Q .non H'
theorem ZGO : ZEV ["self", "t", "four", "s", "level", "halves"] ["self", "t", "four"] (ZEP ZHw) := ZEv
theorem ZMN (T : Txt K mg a) : ZEW P w K mg base CX0 3 a.JH a.JI ["self", "t", "four"] (ZUp a.ZH) := by
 refine T.ZCA.ok ZGO (by walk_at "l") (fun cdv A outer s H vs Q E hr h => ?_)
 ·obtain ⟨p, d1, d2, dx, n, t, v, o, sm, kvs, c, rfl, hp, h1, h2, hnd, hkf, hlen, hc, hv, ho, k⟩ := h
  have hu := ZHN hr
  have np2 : p ≠ d2 := fun z => by subst z; rw [hp] at h2; cases h2
  have n12 : d1 ≠ d2 := fun z => by subst z; rw [h1] at h2; cases h2
  refine ⟨_, QB.h (ZEN (ZHF hu (qv 2) (ZE1 K rfl (qv 0)) (ZEk (ZEK ZEM (ZEK (qv 1) ZEL)))) (ZEN (qsS (i := 3) ZGO.nd (qv 1)) (ZEO (ZGN PassesOwn.never rfl (ZGs rfl T.Zn (ZEK (ZFh (v := .int 40) rfl T.ZCU ⟨_, rfl⟩) ZEL)) (qgN (i := 4) ZGO.nd) (ZEN (qsS (i := 3) ZGO.nd (ZEQ ZF3 (qv 3) ZEM)) (ZEN (qsS (i := 5) ZGO.nd (ZEk (ZEK (ZKR hu (ZE1 K rfl (qv 0)) (ZEk (ZEK (qv 4) (ZEK (ZEQ ZEs ZEM (qv 3)) ZEL)))) (ZEK (ZKR hu (ZE1 K rfl (qv 0)) (ZEk (ZEK (qv 4) (ZEK (ZEQ ZEq (ZEQ ZEs ZEM (qv 3)) ZEM) ZEL)))) ZEL)))) (ZEO (ZHF hu (qcS (ZJg T) hr T.ZBD T.Jy.kp T.ZBM (ZEK (ZEi (ZEj K rfl) (qv 5) ZEM) (ZEK (ZEi (ZEj K rfl) (qv 5) ZEM) ZEL))) (ZE1 K rfl (qv 0)) (ZEk (ZEK (ZEQ ZEq (qv 4) ZEM) (ZEK (qv 3) ZEL))))))))))), ?_⟩
  walk_at "s"
  walk_at "w"
  refine ZES (by show 2 ≤ sizeLine; decide) fun b3 H3 n3 f3 S3 => ?_
  walk_at "w"
  refine ZHu (k := kOf 0 t) (S3 _ _ h2) f3 (Nat.lt_of_le_of_lt (show kvs.length ≤ 41000 by omega) (by decide)) fun H4 f4 K4 => ?_
  have K04 : Kp d2 H H4 := (Kp.same S3).trans K4
  have nt : ∀ (l : List (List Key × V)) (xs : List V), HO.dT l ≠ .tup xs := fun l xs z => by cases z
  have e0 : t / 2 ^ 0 = t := by simp
  have hk4 : ZFt H4 (ZFo kvs (kOf 0 t) v) sm (fun l s => s ≠ t / 2 ^ l ∨ l ≤ 0) := by
   have h := ((hkf.same S3).put (i := 0) (t := t) (hv.same S3) (by rw [e0]; exact ho)).kpX K4 (S3 _ _ h2) (nt _)
   rw [e0] at h
   refine h.mono fun l s hl g => ?_
   rcases g with g | g
   ·exact .inl g
   ·have : l = 0 := by omega
    subst this
    by_cases e : s = t / 2 ^ 0
    ·exact .inr ⟨rfl, e⟩
    ·exact .inl e
  have hl4 : (ZFo kvs (kOf 0 t) v).length ≤ 41 * c + 1 := Nat.le_trans (ZGS _ _ _) (by omega)
  walk_at "w"
  refine ZIe (by decide) (by decide) (ZJq (fun i σ H' => (∃ v4 v5, σ = [some (.ref p), some (.int t), some v, some (.int (t / 2 ^ i)), v4, v5]) ∧ Kp d2 H H' ∧ ∃ kvs', H' d2 = some (.dT kvs') ∧ ZFt H' kvs' sm (fun l s => s ≠ t / 2 ^ l ∨ l ≤ i) ∧ kvs'.length ≤ 41 * c + 1 + i) ?_ ?_ ?_)
  ·exact ⟨⟨none, none, by rw [e0]; rfl⟩, K04, _, f4, hk4, hl4⟩
  ·rintro i σ H5 hi ⟨⟨v4, v5, rfl⟩, K5, kv5, f5, hk5, hl5⟩
   have hi40 : i < 40 := hi
   have hp5 := K5 _ _ hp np2
   have ez : (0 + (i : Int)) = (i : Int) := by omega
   rw [ez]
   walk_at "w"
   generalize hs : t / 2 ^ i / 2 = s
   have hs1 : t / 2 ^ (i + 1) = s := by rw [ZNP, hs]
   refine ZJV f5 ?_
   walk_at "w"
   refine ZES (by show 2 ≤ sizeLine; decide) fun b6 H6 n6 f6 S6 => ?_
   refine ZKQ (k := kOf i (2 * s)) (S6 _ _ f5) f6 ?_
   have hp6 := S6 _ _ hp5
   have f56 := S6 _ _ f5
   walk_at "w"
   refine ZJV f56 ?_
   walk_at "w"
   refine ZES (by show 2 ≤ sizeLine; decide) fun b7 H7 n7 f7 S7 => ?_
   refine ZKQ (k := kOf i (2 * s + 1)) (S7 _ _ f56) f7 ?_
   have S57 := S6.trans S7
   walk_at "w"
   refine ZES (by show 2 ≤ sizeLine; decide) fun b8 H8 n8 f8 S8 => ?_
   have S58 := S57.trans S8
   have hk8 := hk5.same S58
   obtain ⟨oa, ha1, ha2⟩ := hk8 i (2 * s) (by omega) (.inr (Nat.le_refl _))
   obtain ⟨ob, hb1, hb2⟩ := hk8 i (2 * s + 1) (by omega) (.inr (Nat.le_refl _))
   walk_at "w"
   refine ⟨_, _, oa, ob, _, _, rfl, ha1, ha2, hb1, hb2, ZWW (by omega), fun v9 o9 H9 h9 g9 S9 => ?_⟩
   have g9 : Is4 (inS sm (i + 1) s) o9 := g9.congr fun q => ZSO
   have S59 := S58.trans S9
   have hp9 := S59 _ _ hp5
   walk_at "w"
   refine ZES (by show 2 ≤ sizeLine; decide) fun b10 H10 n10 f10 S10 => ?_
   have S510 := S59.trans S10
   have f510 := S510 _ _ f5
   refine ZHu (k := kOf (i + 1) s) f510 ?_ (Nat.lt_of_le_of_lt (show kv5.length ≤ 42000 by omega) (by decide)) fun H11 f11 K11 => ?_
   ·rw [f10]
    show some (HO.tup [V.int ((i : Int) + 1), V.int s]) = some (HO.tup [V.int ((i + 1 : Nat) : Int), V.int s])
    rw [show ((i + 1 : Nat) : Int) = (i : Int) + 1 by omega]
   walk_at "w"
   refine ⟨⟨some (.int i), some (.ref b8), by rw [hs1]; rfl⟩, (K5.then S510).trans K11, _, f11, ?_, Nat.le_trans (ZGS _ _ _) (by omega)⟩
   have h := ((hk5.same S510).put (i := i + 1) (t := t) (h9.same S10) (by rw [hs1]; exact g9)).kpX K11 f510 (nt _)
   rw [hs1] at h
   refine h.mono fun l s' hl g => ?_
   rcases g with g | g
   ·exact .inl (.inl g)
   ·by_cases e : l = i + 1
    ·by_cases e2 : s' = t / 2 ^ l
     ·exact .inr ⟨e, e2⟩
     ·exact .inl (.inl e2)
    ·exact .inl (.inr (by omega))
  ·rintro σ H5 ⟨⟨v4, v5, rfl⟩, K5, kv5, f5, hk5, hl5⟩
   walk_at "w"
   refine k H5 ⟨dx, kv5, K5 _ _ hp np2, K5 _ _ h1 n12, f5, hnd, hk5.mono fun l s hl _ => .inr hl, ?_⟩ K5
   have : kv5.length ≤ 41 * c + 1 + 40 := hl5
   omega
def ZWa (C : Addr) : Sp := fun vs H Q _ => ∃ (p d1 d2 : Addr) (n t h : Int) (sm : PL) (c : Nat), vs = [.ref p, .int t, .int h] ∧ ZE6 C H p n d1 d2 sm c ∧ Tm t ∧ c ≤ 1000 ∧ sm.length ≤ 1000 ∧
 ∀ H', ZE6 C H' p n d1 d2 (ZGG sm t h) (c + 1) → Fr3 p d1 d2 H H' → Q .non H'
theorem ZN3 : ZEV ["self", "t", "h"] ["self", "t", "h"] (ZEP ZI7) := ZEv
theorem ZN4 (T : Txt K mg a) : ZEW P w K mg base CX0 4 a.J6 a.J8 ["self", "t", "h"] (ZWa a.ZH) := by
 refine T.ZCs.ok ZN3 (by walk_at "l") (fun cdv A outer s H vs Q E hr h => ?_)
 ·obtain ⟨p, d1, d2, n, t, x, sm, c, rfl, ⟨dx, kvs, hp, h1, h2, hnd, hkf, hlen⟩, ht, hc, hsl, k⟩ := h
  have hu := ZHN hr
  have np1 : p ≠ d1 := fun z => by subst z; rw [hp] at h1; cases h1
  have n21 : d2 ≠ d1 := fun z => by subst z; rw [h1] at h2; cases h2
  refine ⟨_, QB.h (ZEN (ZEu (qcS (ZMM T) hr T.ZCD T.ZAX.kp T.ZCI (ZEK (qv 1) ZEL))) (ZEN (ZHF hu (qv 2) (ZE1 K rfl (qv 0)) (qv 1)) (ZEO (ZEu (ZFO (qv 0) T.ZU T.ZCN (ZMN T) hr T.ZB7 .nil ZFc (ZEK (qv 1) (ZEK (qcS (ZPT T) hr T.ZC6 T.ZBx.kp T.ZC1 (ZEK (ZEk (ZEK (ZEk (ZEK (qv 1) (ZEK (qv 2) ZEL))) ZEL)) ZEL)) ZEL))))))), ?_⟩
  walk_at "s"
  walk_at "w"
  refine ⟨t, rfl, ht, ?_⟩
  walk_at "w"
  refine ZM6 h1 (Nat.lt_of_le_of_lt hsl (by decide)) fun H3 f3 K3 => ?_
  have hp3 := K3 _ _ hp np1
  have h23 := K3 _ _ h2 n21
  have hk3 : ZFt H3 kvs (ZGG sm t x) (fun l s => s ≠ t / 2 ^ l) := (ZFt.other hkf fun q hq => by
   rw [ZKX hnd]
   constructor
   ·exact fun z => .inl ⟨hq, z⟩
   ·rintro (z | z)
    ·exact z.2
    ·exact absurd (by rw [z]) hq).kpX K3 h1 (fun xs z => by cases z)
  walk_at "w"
  refine ZEt hp3 ZLJ ?_
  walk_at "w"
  refine ZES (by show 2 ≤ sizeLine; decide) fun b4 H4 n4 f4 S4 => ?_
  walk_at "w"
  refine ZES (by show 1 ≤ sizeLine; decide) fun b5 H5 n5 f5 S5 => ?_
  walk_at "w"
  refine ⟨b5, [(t, x)], rfl, ⟨_, f5, .cons ⟨b4, rfl, S5 _ _ f4⟩ .nil⟩, List.pairwise_singleton _ _, fun v6 o6 H6 h6 g6 S6 => ?_⟩
  have S36 := S4.trans (S5.trans S6)
  walk_at "w"
  refine ⟨p, d1, d2, dx, n, t, v6, o6, ZGG sm t x, kvs, c, rfl, S36 _ _ hp3, S36 _ _ f3, S36 _ _ h23, ZIw hnd, hk3.same S36, hlen, hc, h6, g6.congr fun q => ?_, fun H7 hT7 K7 => ?_⟩
  ·rw [List.mem_singleton, ZGu, ZKX hnd]
   simp only [Int.pow_zero, Int.ediv_one]
   constructor
   ·rintro rfl
    exact ⟨.inr rfl, rfl⟩
   ·rintro ⟨h1 | h1, h2⟩
    ·exact absurd h2 h1.1
    ·exact h1
  ·walk_at "w"
   exact k H7 hT7 fun b o e e1 e2 e3 => K7 _ _ (S36 _ _ (K3 _ _ e e2)) e3
def ZUq (C : Addr) : Sp := fun vs H Q _ => ∃ (p dx : Addr) (x : V) (cv : PL), vs = [.ref p, x] ∧ H p = some (.ins C dx []) ∧ ((x = .non ∧ cv = []) ∨ ∃ t, x = .ref t ∧ PrT H t cv) ∧ (cv.map (·.1)).Nodup ∧ (∀ q ∈ cv, Tm q.1) ∧ cv.length ≤ 100 ∧
 ∀ (d1 d2 : Addr) (sm : PL) (H' : Hp), H d1 = none → H d2 = none → ZE6 C H' p 0 d1 d2 sm cv.length → (∀ q, q ∈ sm ↔ q ∈ cv) → sm.length ≤ cv.length → Kp p H H' → Q .non H'
theorem ZGo : ZEV ["self", "curve", "t", "h"] ["self", "curve"] (ZEP ZFG) := ZEv
theorem ZKh (T : Txt K mg a) : ZEW P w K mg base CX0 5 a.YT a.ZZ ["self", "curve"] (ZUq a.ZH) := by
 refine T.ZBR.ok ZGo (by walk_at "l") (fun cdv A outer s H vs Q E hr h => ?_)
 ·obtain ⟨p, dx, x, cv, rfl, hp, hx, hnd, htm, hlen, k⟩ := h
  refine ⟨_, QB.h (ZEN (ZFy K rfl (qv 0) ZEM) (ZEN (ZFy K rfl (qv 0) ZM4) (ZEN (ZFy K rfl (qv 0) ZKS) (ZEO (ZEm (ZEX (ZLU) (qv 1) ZFl (ZEc _)) (ZEO (ZGN PassesOwn.never rfl (ZMx K rfl (qv 1)) (ZFU (n := 2) K rfl rfl (ZET (qgN (i := 2) ZGo.nd) (ZET (qgN (i := 3) ZGo.nd) ZFD))) (ZEO (ZEu (ZFO (qv 0) T.ZU T.ZCg (ZN4 T) hr T.ZCu .nil ZFc (ZEK (qv 2) (ZEK (qv 3) ZEL))))))) ZEl))))), ?_⟩
  walk_at "s"
  walk_at "w"
  refine ZFj hp T.ZU T.Zy (by show 0 < 1000; decide) fun H1 f1 K1 => ?_
  walk_at "w"
  refine ZM7 fun d1 H2 n2 f2 S2 => ?_
  have hp2 := S2 _ _ f1
  have nd1 : d1 ≠ p := fun z => by rw [z, f1] at n2; cases n2
  walk_at "w"
  refine ZFj hp2 T.ZU T.Zc (by show 1 < 1000; decide) fun H3 f3 K3 => ?_
  have f23 := K3 _ _ f2 nd1
  walk_at "w"
  refine ZKT fun d2 H4 n4 f4 S4 => ?_
  have hp4 := S4 _ _ f3
  have nd2 : d2 ≠ p := fun z => by rw [z, f3] at n4; cases n4
  walk_at "w"
  refine ZFj hp4 T.ZU T.Zb (by show 2 < 1000; decide) fun H5 f5 K5 => ?_
  have f5 : H5 p = some (.ins a.ZH dx (tfl 0 d1 d2)) := by rw [f5, ZUo]
  have K05 : Kp p H H5 := (((K1.then S2).trans K3).then S4).trans K5
  have f25 := K5 _ _ (S4 _ _ f23) nd1
  have f45 := K5 _ _ f4 nd2
  have hn1 : H d1 = none := by
   cases e : H d1 with
   | none => rfl
   | some o =>
    have := K1 _ _ e nd1
    rw [n2] at this
    cases this
  have hn2 : H d2 = none := by
   cases e : H d2 with
   | none => rfl
   | some o =>
    have := ((K1.then S2).trans K3) _ _ e nd2
    rw [n4] at this
    cases this
  have hT5 : ZE6 a.ZH H5 p 0 d1 d2 [] 0 := ⟨dx, [], f5, f25, f45, List.nodup_nil, fun l s hl _ => ⟨none, .non, .inl ⟨rfl, rfl⟩⟩, Nat.le_refl _⟩
  walk_at "w"
  rcases hx with ⟨rfl, rfl⟩ | ⟨t, rfl, hT⟩
  ·refine ZMV (fun h => absurd rfl h) (fun _ => ?_)
   walk_at "w"
   exact k d1 d2 [] H5 hn1 hn2 hT5 (fun q => Iff.rfl) (Nat.le_refl _) K05
  ·refine ZMV (fun _ => ?_) (fun h => by cases h)
   obtain ⟨us, g, hP⟩ := hT
   have ntp : ∀ {b : Addr} {xs : List V}, H b = some (.tup xs) → b ≠ p := fun e z => by rw [z, hp] at e; cases e
   have g5 := K05 _ _ g (ntp g)
   walk_at "w"
   refine ZLV (xs := us) (fun i σ H' => (∃ v2 v3, σ = [some (.ref p), some (.ref t), v2, v3]) ∧ Kp p H H' ∧ ∃ sm, ZE6 a.ZH H' p 0 d1 d2 sm i ∧ (∀ q, q ∈ sm ↔ q ∈ cv.take i) ∧ sm.length ≤ i) ?_ ?_ ?_ ?_
   ·exact ⟨⟨_, _, rfl⟩, K05, [], hT5, fun q => by rw [List.take_zero], Nat.le_refl _⟩
   ·rintro i σ H6 _ ⟨_, K6, _⟩
    exact SqT.of (K6 _ _ g (ntp g))
   ·rintro i x σ H6 hx ⟨⟨v2, v3, rfl⟩, K6, sm, hT6, hm6, hl6⟩
    obtain ⟨cc, q, rfl, hq, hc⟩ := hP.at hx
    have hc6 := K6 _ _ hc (ntp hc)
    obtain ⟨dx6, kv6, hp6, h16, h26, hnd6, hkf6, hlen6⟩ := id hT6
    have hi : i < cv.length := (List.getElem?_eq_some_iff.mp hq).1
    walk_at "w"
    refine ZEt hp6 ZLJ ?_
    walk_at "w"
    refine ⟨p, d1, d2, 0, q.1, q.2, sm, i, rfl, hT6, htm q (List.mem_of_getElem? hq), by omega, by omega, fun H7 hT7 Fr7 => ?_⟩
    walk_at "w"
    refine ⟨⟨_, _, rfl⟩, fun b o e nb => Fr7 _ _ (K6 _ _ e nb) nb (fun z => by rw [z, hn1] at e; cases e) (fun z => by rw [z, hn2] at e; cases e), ZGG sm q.1 q.2, hT7, fun r => ?_, Nat.le_trans (ZM8 _ _ _) (by omega)⟩
    rw [ZKX hnd6, List.take_succ, hq, List.mem_append, hm6]
    have hne : ∀ r ∈ cv.take i, r.1 ≠ q.1 := fun r hr e => by
     obtain ⟨j, hj, rfl⟩ := List.getElem_of_mem hr
     rw [List.length_take] at hj
     rw [List.getElem_take] at e
     obtain ⟨z2, y2⟩ := List.getElem?_eq_some_iff.mp hq
     have : (cv.map (·.1))[j]'(by rw [List.length_map]; omega) = (cv.map (·.1))[i]'(by rw [List.length_map]; omega) := by
      rw [List.getElem_map, List.getElem_map, y2]
      exact e
     have := (List.getElem_inj hnd).mp this
     omega
    constructor
    ·rintro (h | h)
     ·exact .inl h.2
     ·exact .inr (by rw [h]; exact List.mem_cons_self)
    ·rintro (h | h)
     ·exact .inl ⟨hne r h, h⟩
     ·exact .inr (by simpa using h)
   ·rintro σ H6 ⟨⟨v2, v3, rfl⟩, K6, sm, hT6, hm6, hl6⟩
    rw [hP.length] at hT6 hm6 hl6
    rw [List.take_length] at hm6
    walk_at "w"
    exact k d1 d2 sm H6 hn1 hn2 hT6 hm6 hl6 K6
end
theorem ZE6.kpX {C : Addr} {H H' : Hp} {p d1 d2 l : Addr} {n : Int} {sm : PL} {c : Nat} {xs : List V} (h : ZE6 C H p n d1 d2 sm c) (k : Kp l H H') (hl : H l = some (.lst xs)) : ZE6 C H' p n d1 d2 sm c := by
 obtain ⟨dx, kvs, h1, h2, h3, h4, h5, h6⟩ := h
 exact ⟨dx, kvs, k _ _ h1 (fun z => by rw [z, hl] at h1; cases h1), k _ _ h2 (fun z => by rw [z, hl] at h2; cases h2), k _ _ h3 (fun z => by rw [z, hl] at h3; cases h3), h4, h5.kpX k hl (fun _ z => by cases z), h6⟩
theorem ZWb {p d1 d2 : Addr} {H H' : Hp} (h : Kp p H H') : Fr3 p d1 d2 H H' := fun b o e e1 _ _ => h b o e e1
theorem ZE6.keepT {C : Addr} {H H' : Hp} {p d1 d2 : Addr} {n : Int} {sm : PL} {c : Nat} (g : ZE6 C H p n d1 d2 sm c) (f : Fr3 p d1 d2 H H') {b : Addr} {xs : List V} (e : H b = some (.tup xs)) : H' b = some (.tup xs) := by
 obtain ⟨dy, kws, g1, g2, g3, _⟩ := g
 exact f _ _ e (fun z => by rw [z, g1] at e; cases e) (fun z => by rw [z, g2] at e; cases e) (fun z => by rw [z, g3] at e; cases e)
theorem ZE6.keepL {C : Addr} {H H' : Hp} {p d1 d2 : Addr} {n : Int} {sm : PL} {c : Nat} (g : ZE6 C H p n d1 d2 sm c) (f : Fr3 p d1 d2 H H') {b : Addr} {xs : List V} (e : H b = some (.lst xs)) : H' b = some (.lst xs) := by
 obtain ⟨dy, kws, g1, g2, g3, _⟩ := g
 exact f _ _ e (fun z => by rw [z, g1] at e; cases e) (fun z => by rw [z, g2] at e; cases e) (fun z => by rw [z, g3] at e; cases e)
theorem ZE6.keepP {C : Addr} {H H' : Hp} {p d1 d2 : Addr} {n : Int} {sm : PL} {c : Nat} (g : ZE6 C H p n d1 d2 sm c) (f : Fr3 p d1 d2 H H') {b : Addr} {cv : PL} (e : PrT H b cv) : PrT H' b cv := by
 obtain ⟨us, h1, h2⟩ := e
 exact ⟨us, g.keepT f h1, Paired.mapP h2 fun _ _ ⟨a, e, z⟩ => ⟨a, e, g.keepT f z⟩⟩
theorem ZE6.nd {C : Addr} {H : Hp} {p d1 d2 : Addr} {n : Int} {sm : PL} {c : Nat} (g : ZE6 C H p n d1 d2 sm c) : (sm.map (·.1)).Nodup := by
 obtain ⟨dy, kws, g1, g2, g3, g4, _⟩ := g
 exact g4
section
variable {P : Program} {w : World} {K : W.Frag} {mg : Str → Option Value} {base : Heap} {a : Ad}
local macro_rules | `(tactic| walk_at "rd") => `(tactic| first
 | with_reducible first | refine ZEz (by assumption) (‹Txt _ _ _›).ZU (‹Txt _ _ _›).Zy ZIH ?_ | refine ZEz (by assumption) (‹Txt _ _ _›).ZU (‹Txt _ _ _›).Zc ZHR ?_ | refine ZEz (by assumption) (‹Txt _ _ _›).ZU (‹Txt _ _ _›).Zb ZKg ?_)
def ZUr (C : Addr) : Sp := fun vs H Q _ => ∃ (p d1 d2 : Addr) (n b e : Int) (sm : PL) (c : Nat), vs = [.ref p, .int b, .int e] ∧ ZE6 C H p n d1 d2 sm c ∧ InT b ∧ InT e ∧
 ∀ (v : V) (o : Option (PL)) (prs : PL) (H' : Hp), ZE0 H' v o → Is4 (ZFF sm b e) o → Ch e b prs (ZJh b e) → ZE6 C H' p (n + prs.length) d1 d2 sm c → Kp p H H' → Q v H'
theorem Ch.cut {e : Int} : ∀ {prs : PL} {x y : Int}, Ch e x prs y → ∀ {i : Nat} {q : Int × Int}, prs[i]? = some q → ∃ z, Ch e x (prs.take i) z ∧ (0 ≤ q.1 ∧ q.1 ≤ 40) ∧ q.2 * 2 ^ q.1.toNat = z ∧ Ch e x (prs.take (i + 1)) (z + 2 ^ q.1.toNat)
 | [], _, _, _, i, q, h => by simp at h
 | p :: r, x, y, hc, 0, q, h => by
  have : p = q := by simpa using h
  subst this
  obtain ⟨h1, h2, h3, h4, h5⟩ := hc
  exact ⟨x, rfl, h1, h2, h1, h2, h3, h4, rfl⟩
 | p :: r, x, y, hc, i + 1, q, h => by
  obtain ⟨h1, h2, h3, h4, h5⟩ := hc
  obtain ⟨z, g1, g2, g3, g4⟩ := Ch.cut h5 (i := i) (q := q) (by simpa using h)
  exact ⟨z, ⟨h1, h2, h3, h4, g1⟩, g2, g3, h1, h2, h3, h4, g4⟩
theorem Ch.fun {e : Int} : ∀ {prs : PL} {x y z : Int}, Ch e x prs y → Ch e x prs z → y = z
 | [], _, _, _, h, g => h.symm.trans g
 | p :: r, x, y, z, h, g => Ch.fun h.2.2.2.2 g.2.2.2.2
theorem ZGY : ZEV ["self", "begin", "end", "four", "parts", "stretch"] ["self", "begin", "end"] (ZEP ZIY) := ZEv
theorem ZJi (T : Txt K mg a) : ZEW P w K mg base CX0 5 a.JY a.Je ["self", "begin", "end"] (ZUr a.ZH) := by
 refine T.ZCQ.ok ZGY (by walk_at "l") (fun cdv A outer s H vs Q E hr h => ?_)
 ·obtain ⟨p, d1, d2, n, b, e, sm, c, rfl, hTr, hb, he, k⟩ := h
  have hu := ZHN hr
  obtain ⟨dx, kvs, hp, h1, h2, hnd, hkf, hlen⟩ := id hTr
  refine ⟨_, QB.h (ZEN (qsS (i := 3) ZGY.nd ZFl) (ZEN (qsS (i := 4) ZGY.nd (qcS (ZNf T) hr T.ZCX T.ZA4.kp T.ZCT (ZEK (qv 1) (ZEK (qv 2) ZEL)))) (ZEN (ZGN PassesOwn.never rfl (ZMx K rfl (qv 4)) (qgN (i := 5) ZGY.nd) (ZEO (qsS (i := 3) ZGY.nd (qcS (ZJg T) hr.m T.ZBD T.Jy.kp T.ZBM (ZEK (qv 3) (ZEK (ZKR hu (ZE1 K rfl (qv 0)) (qv 5)) ZEL)))))) (ZEN (ZL1 K rfl (qv 0) (ZEe (ZIh K rfl) rfl T.JR ZId (ZEK (qv 4) ZEL))) (ZEO (ZEZ (qv 3))))))), ?_⟩
  walk_at "s"
  walk_at "w"
  refine ⟨b, e, rfl, hb, he, fun t prs H1 hT1 hch hpl S1 => ?_⟩
  obtain ⟨us, g1, hP1⟩ := hT1
  have hp1 := S1 _ _ hp
  walk_at "w"
  refine ZLV (xs := us) (fun i σ H' => (∃ v v5, σ = [some (.ref p), some (.int b), some (.int e), some v, some (.ref t), v5] ∧ ∃ o z, ZE0 H' v o ∧ Ch e b (prs.take i) z ∧ Is4 (ZFF sm b z) o) ∧ ZEU H1 H') ?_ ?_ ?_ ?_
  ·refine ⟨⟨_, _, rfl, none, b, .non, rfl, .inl ⟨rfl, ?_⟩⟩, ZEU.refl _⟩
   cases e0 : ZFF sm b b with
   | nil => rfl
   | cons q qs =>
    have := (ZFQ.mp (show q ∈ ZFF sm b b by rw [e0]; exact List.mem_cons_self)).2
    omega
  ·rintro i σ H' _ ⟨_, S'⟩
   exact SqT.of (S' _ _ g1)
  ·rintro i x σ H2 hx ⟨⟨v, v5, rfl, o, z, hv, hz, ho⟩, S2⟩
   obtain ⟨cc, q, rfl, hq, hc⟩ := (hP1.same S2).at hx
   obtain ⟨z', hz', hq1, hq2, hz2⟩ := Ch.cut hch hq
   obtain rfl := Ch.fun hz hz'
   have S02 := S1.trans S2
   obtain ⟨l, hl⟩ : ∃ l : Nat, q.1 = (l : Int) := ⟨q.1.toNat, by omega⟩
   have hln : q.1.toNat = l := by omega
   rw [hln] at hq2 hz2
   have hp2 := S02 _ _ hp
   have h22 := S02 _ _ h2
   obtain ⟨o2, hf2, hi2⟩ := (hkf.same S02) l q.2 (by omega) trivial
   have e4 : inS sm l q.2 = ZFF sm z (z + 2 ^ l) := by unfold inS; rw [hq2]
   rw [e4] at hi2
   walk_at "w"
   refine ZJV h22 ?_
   walk_at "w"
   refine ZKQ (k := kOf l q.2) h22 (by rw [hc, hl]; rfl) ?_
   refine ⟨v, _, o, o2, _, _, rfl, hv, ho, hf2, hi2, ZNQ, fun v3 o3 H3 h3 g3 S3 => ?_⟩
   walk_at "w"
   refine ⟨⟨_, _, rfl, o3, z + 2 ^ l, h3, hz2, g3.congr fun r => ZLE hz.le (by have := ZGB l; omega) r⟩, S2.trans S3⟩
  ·rintro σ H2 ⟨⟨v, v5, rfl, o, z, hv, hz, ho⟩, S2⟩
   rw [hP1.length, List.take_length] at hz
   obtain rfl := Ch.fun hz hch
   have S02 := S1.trans S2
   have hp2 := S02 _ _ hp
   have g2 := S2 _ _ g1
   have hul : us.length = prs.length := hP1.length
   walk_at "w"
   refine ZK9 hp2 T.ZU T.Zy ZIH ?_
   walk_at "w"
   refine ⟨n, _, rfl, rfl, dx, _, hp2, by show 3 < 1000; decide, ?_⟩
   rw [ZUn]
   have f3 : (upd H2 p (.ins a.ZH dx (tfl (n + (us.length : Int)) d1 d2))) p = some (.ins a.ZH dx (tfl (n + (us.length : Int)) d1 d2)) := ZEa
   have K3 : Kp p H2 (upd H2 p (.ins a.ZH dx (tfl (n + (us.length : Int)) d1 d2))) := Kp.upd
   generalize upd H2 p (.ins a.ZH dx (tfl (n + (us.length : Int)) d1 d2)) = H3 at f3 K3
   have ntp : ∀ (xs : List V), HO.ins a.ZH dx (tfl n d1 d2) ≠ .tup xs := fun xs z => by cases z
   walk_at "w"
   refine k v o prs H3 (hv.kpX K3 hp2 ntp) (ho.congr fun r => ?_) hch ⟨dx, kvs, by rw [← hul]; exact f3, K3 _ _ (S02 _ _ h1) (fun z => by rw [z, hp] at h1; cases h1), K3 _ _ (S02 _ _ h2) (fun z => by rw [z, hp] at h2; cases h2), hnd, (hkf.same S02).kpX K3 hp2 ntp, hlen⟩ ((Kp.same S02).trans K3)
   rw [ZFQ, ZFQ]
   unfold ZJh
   split
   ·exact Iff.rfl
   ·constructor
    ·rintro ⟨_, g1, g2⟩
     omega
    ·rintro ⟨_, g1, g2⟩
     omega
end
section
variable {P : Program} {w : World} {K : W.Frag} {mg : Str → Option Value} {base : Heap} {a : Ad}
local macro_rules | `(tactic| walk_at "rd") => `(tactic| first
 | with_reducible first | refine ZEz (by assumption) (‹Txt _ _ _›).ZU (‹Txt _ _ _›).Zy ZIH ?_ | refine ZEz (by assumption) (‹Txt _ _ _›).ZU (‹Txt _ _ _›).Zc ZHR ?_ | refine ZEz (by assumption) (‹Txt _ _ _›).ZU (‹Txt _ _ _›).Zb ZKg ?_)
def ZSg : Sp := fun vs H Q _ => ∃ (p : Addr) (b y m : Int), vs = [.ref p] ∧ H p = some (.tup [.int b, .int y, .int m]) ∧ 0 ≤ m ∧ m ≤ 1000 ∧ InT b ∧ InT (b + m * y) ∧ Q .non H
theorem ZFR : ZEV ["window", "begin", "wide", "many"] ["window"] (ZEP ZHJ) := ZEv
theorem ZG7 (T : Txt K mg a) : ZEW P w K mg base CX0 4 a.Z3 a.Z0 ["window"] ZSg := by
 refine T.ZV.ok ZFR (by walk_at "l") (fun cdv A outer s H vs Q E hr h => ?_)
 ·obtain ⟨p, b, y, m, rfl, hp, h0, h1, hb, he, q⟩ := h
  refine ⟨_, QB.h (ZEN (ZFr (qv 0) (ZFU (n := 3) K rfl rfl (ZET (qgN (i := 1) ZFR.nd) (ZET (qgN (i := 2) ZFR.nd) (ZET (qgN (i := 3) ZFR.nd) ZFD))))) (ZEO (ZEu (qcS (ZH0 T) hr T.YQ T.Za.kp T.YW (ZEK (qv 1) (ZEK (ZEQ ZEq (qv 1) (ZEQ ZEs (qv 3) (qv 2))) ZEL)))))), ?_⟩
  walk_at "s"
  walk_at "w"
  refine ⟨b, b + m * y, rfl, hb, he, ?_⟩
  walk_at "w"
  exact q
def ZFz (H : Hp) (q : Addr) (b y m : Int) : Prop := H q = some (.tup [.int b, .int y, .int m]) ∧ 0 < y ∧ 1 ≤ m ∧ m ≤ 100 ∧ InT b ∧ InT (b + m * y)
theorem ZFz.col {H : Hp} {q : Addr} {b y m : Int} (h : ZFz H q b y m) {k : Int} (h0 : 0 ≤ k) (h1 : k < m) : InT (b + k * y) ∧ InT (b + k * y + y) := by
 obtain ⟨_, hy, _, _, hb, he⟩ := h
 have g1 : 0 ≤ k * y := Int.mul_nonneg h0 (by omega)
 have g2 : (k + 1) * y ≤ m * y := Int.mul_le_mul_of_nonneg_right (by omega) (by omega)
 rw [Int.add_mul, Int.one_mul] at g2
 unfold InT at *
 constructor <;> constructor <;> omega
def ZSh (C : Addr) : Sp := fun vs H Q _ => ∃ (p q d1 d2 : Addr) (n b y m : Int) (sm : PL) (c : Nat), vs = [.ref p, .ref q] ∧ ZE6 C H p n d1 d2 sm c ∧ ZFz H q b y m ∧
 ∀ (u : Addr) (us : List V) (fs : List (Option (PL))) (n' : Int) (H' : Hp), H' u = some (.tup us) → ZFE H' us fs → ZHU sm b y m.toNat fs → ZE6 C H' p n' d1 d2 sm c → Kp p H H' → Q (.ref u) H'
theorem ZMO : ZEV ["self", "window"] ["self", "window"] (ZEP ZG1) := ZEv
theorem ZVC (T : Txt K mg a) : ZEW P w K mg base CX0 6 a.JA a.JE ["self", "window"] (ZSh a.ZH) := by
 refine T.ZCF.ok ZMO (by walk_at "l") (fun cdv A outer s H vs Q E hr h => ?_)
 ·obtain ⟨p, q, d1, d2, n, b, y, m, sm, c, rfl, hTr, hW, k⟩ := h
  obtain ⟨hq, hy, hm1, hm2, hb, he⟩ := id hW
  refine ⟨_, QB.h (ZEN (ZEu (qcS (ZG7 T) hr.m T.Ze T.ZV.kp T.Zf (ZEK (qv 1) ZEL))) (ZEO (ZEZ (ZGc (ZHD K rfl) rfl T.YF ZG9 (ZEK (ZGt (N := ["self", "window"]) (sc := ZEP ZG1) (own := ["first", "behind"]) (caps := ["self"]) (ks := [0]) rfl rfl rfl ⟨rfl, by decide +kernel, by decide +kernel, by decide +kernel, by decide +kernel, rfl, by decide +kernel⟩ (ZGR K rfl (qcS (ZHc T) hr.m T.JP T.YR.kp T.JD (ZEK (qv 1) ZEL))) (fun _ _ _ _ _ => ZFU (n := 2) K rfl rfl (ZET (ZF0 (i := 0) (show List.Nodup (α := Str) ["first", "behind", "self"] from by decide +kernel) rfl (by walk_at "o") (.inr rfl)) (ZET (ZF0 (i := 1) (show List.Nodup (α := Str) ["first", "behind", "self"] from by decide +kernel) rfl (by walk_at "o") (.inr rfl)) ZFD))) (fun _ _ _ _ _ => ZHC) (fun _ _ _ _ _ => ZFO (qv 2) T.ZU T.ZAz (ZJi T) hr T.ZA3 .nil ZFc (ZEK (qv 0) (ZEK (qv 1) ZEL)))) ZEL))))), ?_⟩
  walk_at "s"
  walk_at "w"
  refine ⟨q, b, y, m, rfl, hq, by omega, by omega, hb, he, ?_⟩
  walk_at "w"
  refine ⟨q, b, y, m, rfl, hq, hm1, by omega, fun l0 us0 H1 n1 f1 hP1 S1 => ?_⟩
  have hT1 := hTr.same S1
  have np1 : ∀ {b : Addr} {xs : List V}, H1 b = some (.tup xs) → b ≠ p := fun e z => by
   obtain ⟨dy, kws, g1, _⟩ := hT1
   rw [z, g1] at e; cases e
  have nl1 : l0 ≠ p := fun z => by
   obtain ⟨dy, kws, g1, _⟩ := hT1
   rw [z, g1] at f1; cases f1
  walk_at "w"
  intro l n2
  have nlp : l ≠ p := fun z => by
   obtain ⟨dy, kws, g1, _⟩ := hT1
   rw [z, g1] at n2; cases n2
  refine ZGr m.toNat (fun i σ' H' => (∃ o1 o2, σ' = [o1, o2, some (.ref p)]) ∧ Kp p H1 H' ∧ (∃ n', ZE6 a.ZH H' p n' d1 d2 sm c) ∧ ∃ vs fs, H' l = some (.lst vs) ∧ ZFE H' vs fs ∧ fs.length = i ∧ ∀ (k : Nat) o, fs[k]? = some o → Is4 (ZFF sm (b + (k : Int) * y) (b + (k : Int) * y + y)) o) ?_ ?_ ?_
  ·exact ⟨⟨none, none, rfl⟩, Kp.same (ZEU.new n2), ⟨n, hT1.same (ZEU.new n2)⟩, [], [], ZEa, .nil, rfl, fun k o h => by simp at h⟩
  ·rintro σ' H2 ⟨_, K2, ⟨n', hT2⟩, vs, fs, f2, hF2, hfl, hO2⟩
   refine ⟨⟨_, SqL.of (K2 _ _ f1 nl1), by rw [hP1.length, ZHV]; exact Nat.le_refl _⟩, ?_⟩
   walk_at "w"
   refine ZHm (SqL.of f2) fun u H3 n3 f3 S3 => ?_
   exact k u vs fs n' H3 f3 (hF2.same S3) ⟨hfl, hO2⟩ (hT2.same S3) (((Kp.same S1).trans K2).then S3)
  ·rintro i σ' H2 hi ⟨⟨o1, o2, rfl⟩, K2, ⟨n', hT2⟩, vs, fs, f2, hF2, hfl, hO2⟩
   have hi2 : i < us0.length := by rw [hP1.length, ZHV]; exact hi
   have f12 := K2 _ _ f1 nl1
   refine ⟨⟨_, _, SqL.of f12, List.getElem?_eq_getElem hi2⟩, ?_⟩
   rintro x H'' ⟨rfl, hx⟩
   have hx := hx _ (SqL.of f12)
   obtain ⟨u, pr, rfl, hpr, f3⟩ := hP1.at hx
   have hpr := ZJC hpr
   subst hpr
   have f32 := K2 _ _ f3 (np1 f3)
   obtain ⟨w1, w2⟩ := hW.col (k := (i : Int)) (by omega) (by omega)
   obtain ⟨dx, kvs, hp2, _⟩ := id hT2
   walk_at "w"
   refine ZFY ?_
   walk_at "w"
   refine ZEt hp2 ZLJ ?_
   walk_at "w"
   refine ⟨p, d1, d2, n', _, _, sm, c, rfl, hT2, w1, w2, fun v o3 prs H3 h3 g3 _ hT3 K3 => ?_⟩
   have fl3 := K3 _ _ f2 nlp
   have hF3 : ZFE H3 vs fs := hF2.mapP fun _ _ d => d.kpX K3 hp2 (fun _ z => by cases z)
   refine ⟨vs, fl3, ?_, ⟨_, _, rfl⟩, ?_, ⟨_, hT3.kpX Kp.upd fl3⟩, vs ++ [v], fs ++ [o3], ZEa, (hF3.snoc h3).mapP fun _ _ d => d.kpL Kp.upd fl3, by simp [hfl], ?_⟩
   ·rw [hF2.len, hfl]
    exact Nat.lt_of_lt_of_le (show i < 100 by omega) (by decide)
   ·intro b' o' e nb
    rw [ZEf (fun z => by rw [z, n2] at e; cases e)]
    exact (K2.trans K3) b' o' e nb
   ·intro k' o' h'
    rw [List.getElem?_append] at h'
    split at h'
    ·exact hO2 k' o' h'
    ·have : k' = i := by
      have := (List.getElem?_eq_some_iff.mp h').1
      simp at this
      omega
     subst this
     rw [hfl, Nat.sub_self] at h'
     have : o3 = o' := by simpa using h'
     subst this
     exact g3
end
def sfl (tr dd dn wt : Addr) : List (Str × V) := [("tree", V.ref tr), ("deeds", V.ref dd), ("done", V.ref dn), ("watches", V.ref wt)]
section
variable {tr dd dn wt : Addr}
theorem sg1 : (("deeds" : Str) == "tree") = false := by decide +kernel
theorem sg2 : (("done" : Str) == "tree") = false := by decide +kernel
theorem sg3 : (("done" : Str) == "deeds") = false := by decide +kernel
theorem sg4 : (("watches" : Str) == "tree") = false := by decide +kernel
theorem sg5 : (("watches" : Str) == "deeds") = false := by decide +kernel
theorem sg6 : (("watches" : Str) == "done") = false := by decide +kernel
theorem ZSi : (sfl tr dd dn wt).lookup ("tree" : Str) = some (.ref tr) := by
 unfold sfl
 rw [List.lookup_cons, beq_self_eq_true]
theorem ZQt : (sfl tr dd dn wt).lookup ("deeds" : Str) = some (.ref dd) := by
 unfold sfl
 rw [List.lookup_cons, sg1, List.lookup_cons, beq_self_eq_true]
theorem ZSj : (sfl tr dd dn wt).lookup ("done" : Str) = some (.ref dn) := by
 unfold sfl
 rw [List.lookup_cons, sg2, List.lookup_cons, sg3, List.lookup_cons, beq_self_eq_true]
theorem ZN5 : (sfl tr dd dn wt).lookup ("watches" : Str) = some (.ref wt) := by
 unfold sfl
 rw [List.lookup_cons, sg4, List.lookup_cons, sg5, List.lookup_cons, sg6, List.lookup_cons, beq_self_eq_true]
theorem ZQu {m : Str} (h1 : (m == ("tree" : Str)) = false := by decide +kernel) (h2 : (m == ("deeds" : Str)) = false := by decide +kernel) (h3 : (m == ("done" : Str)) = false := by decide +kernel) (h4 : (m == ("watches" : Str)) = false := by decide +kernel) : (sfl tr dd dn wt).lookup m = none := by
 unfold sfl
 rw [List.lookup_cons, h1, List.lookup_cons, h2, List.lookup_cons, h3, List.lookup_cons, h4]
 rfl
theorem ZUs : ZEr "watches" (.ref wt) (ZEr "done" (.ref dn) (ZEr "deeds" (.ref dd) (ZEr "tree" (.ref tr) []))) = sfl tr dd dn wt := by
 have e1 : ¬ ("tree" : Str) = "deeds" := by decide +kernel
 have e2 : ¬ ("tree" : Str) = "done" := by decide +kernel
 have e3 : ¬ ("deeds" : Str) = "done" := by decide +kernel
 have e4 : ¬ ("tree" : Str) = "watches" := by decide +kernel
 have e5 : ¬ ("deeds" : Str) = "watches" := by decide +kernel
 have e6 : ¬ ("done" : Str) = "watches" := by decide +kernel
 show ZEr "watches" (.ref wt) (ZEr "done" (.ref dn) (ZEr "deeds" (.ref dd) [(("tree" : Str), V.ref tr)])) = _
 rw [show ZEr "deeds" (.ref dd) [(("tree" : Str), V.ref tr)] = (if ("tree" : Str) = "deeds" then _ else (("tree" : Str), V.ref tr) :: ZEr "deeds" (.ref dd) []) from rfl, if_neg e1]
 rw [show ZEr "done" (.ref dn) ((("tree" : Str), V.ref tr) :: ZEr "deeds" (.ref dd) []) = (if ("tree" : Str) = "done" then _ else (("tree" : Str), V.ref tr) :: (if ("deeds" : Str) = "done" then _ else (("deeds" : Str), V.ref dd) :: ZEr "done" (.ref dn) [])) from rfl, if_neg e2, if_neg e3]
 show (if ("tree" : Str) = "watches" then _ else (("tree" : Str), V.ref tr) :: (if ("deeds" : Str) = "watches" then _ else (("deeds" : Str), V.ref dd) :: (if ("done" : Str) = "watches" then _ else (("done" : Str), V.ref dn) :: ZEr "watches" (.ref wt) []))) = _
 rw [if_neg e4, if_neg e5, if_neg e6]
 rfl
theorem ZWc {n : Int} {d1 d2 : Addr} : sfl tr dd dn wt ≠ tfl n d1 d2 := fun h => by
 have := congrArg List.length h
 simp [sfl, tfl] at this
end
structure SA where
 p : Addr
 tr : Addr
 d1 : Addr
 d2 : Addr
 dd : Addr
 dn : Addr
 wt : Addr
def SA.ls (S : SA) : List Addr := [S.dd, S.dn, S.wt]
def SA.own (S : SA) : List Addr := [S.tr, S.d1, S.d2, S.dd, S.dn, S.wt]
def ZXR : Option Int → V
 | none => .non
 | some i => .int i
def ZJz (H : Hp) (vs : List V) (ds : List (Int × Option Int)) : Prop := Paired (fun v (q : Int × Option Int) => ∃ b, v = .ref b ∧ H b = some (.tup [.int q.1, ZXR q.2])) vs ds
theorem ZJz.tups {H H' : Hp} {vs : List V} {ds : List (Int × Option Int)} (h : ZJz H vs ds) (t : ∀ b xs, H b = some (.tup xs) → H' b = some (.tup xs)) : ZJz H' vs ds := Paired.mapP h fun _ _ ⟨b, e, z⟩ => ⟨b, e, t _ _ z⟩
def ZEb (a : Ad) (H : Hp) (S : SA) (n : Int) (sm : PL) (c : Nat) (ds : List (Int × Option Int)) (ts : List Int) (ws : List V) : Prop :=
 ∃ dx vs, H S.p = some (.ins a.ZG dx (sfl S.tr S.dd S.dn S.wt)) ∧ ZE6 a.ZH H S.tr n S.d1 S.d2 sm c ∧ H S.dd = some (.lst vs) ∧ ZJz H vs ds ∧ H S.dn = some (.lst (ts.map V.int)) ∧ H S.wt = some (.lst ws) ∧ S.dd ≠ S.dn ∧ S.dd ≠ S.wt ∧ S.dn ≠ S.wt
section
variable {a : Ad} {H H' : Hp} {S : SA} {n : Int} {sm : PL} {c : Nat} {ds : List (Int × Option Int)} {ts : List Int} {ws : List V}
theorem ZEb.tree (h : ZEb a H S n sm c ds ts ws) : ZE6 a.ZH H S.tr n S.d1 S.d2 sm c := let ⟨_, _, _, h, _⟩ := h; h
theorem ZEb.nd (h : ZEb a H S n sm c ds ts ws) : (sm.map (·.1)).Nodup := h.tree.nd
theorem ZEb.same (h : ZEb a H S n sm c ds ts ws) (s : ZEU H H') : ZEb a H' S n sm c ds ts ws := by
 obtain ⟨dx, vs, h1, h2, h3, h4, h5, h6, h7⟩ := h
 exact ⟨dx, vs, s _ _ h1, h2.same s, s _ _ h3, h4.tups fun b xs e => s _ _ e, s _ _ h5, s _ _ h6, h7⟩
theorem ZEb.nown (h : ZEb a H S n sm c ds ts ws) {b : Addr} {o : HO} (e : H b = some o) (h1 : ∀ C dx fs, o ≠ .ins C dx fs) (h2 : (∃ m, o = .dK m) → b ≠ S.d1) (h3 : ∀ m, o ≠ .dT m) (h4 : (∃ m, o = .lst m) → b ∉ S.ls) : b ∉ S.own := by
 obtain ⟨dx, vs, g1, ⟨dy, kvs, t1, t2, t3, _⟩, g3, g4, g5, g6, _⟩ := h
 intro z
 simp only [SA.own, List.mem_cons, List.not_mem_nil, or_false] at z
 rcases z with z | z | z | z | z | z
 ·rw [z, t1] at e; exact h1 _ _ _ (Option.some.inj e).symm
 ·exact h2 ⟨_, (by rw [z, t2] at e; exact (Option.some.inj e).symm)⟩ z
 ·rw [z, t3] at e; exact h3 _ (Option.some.inj e).symm
 ·exact h4 ⟨_, (by rw [z, g3] at e; exact (Option.some.inj e).symm)⟩ (by simp [SA.ls, z])
 ·exact h4 ⟨_, (by rw [z, g5] at e; exact (Option.some.inj e).symm)⟩ (by simp [SA.ls, z])
 ·exact h4 ⟨_, (by rw [z, g6] at e; exact (Option.some.inj e).symm)⟩ (by simp [SA.ls, z])
theorem ZEb.kpL (h : ZEb a H S n sm c ds ts ws) {q : Addr} {xs : List V} (k : Kp q H H') (hq : H q = some (.lst xs)) (nq : q ∉ S.ls) : ZEb a H' S n sm c ds ts ws := by
 obtain ⟨dx, vs, h1, h2, h3, h4, h5, h6, h7⟩ := h
 simp only [SA.ls, List.mem_cons, List.not_mem_nil, or_false, not_or] at nq
 exact ⟨dx, vs, k _ _ h1 (fun z => by rw [z, hq] at h1; cases h1), h2.kpX k hq, k _ _ h3 (Ne.symm nq.1), h4.tups (fun b xs e => k _ _ e (fun z => by rw [z, hq] at e; cases e)), k _ _ h5 (Ne.symm nq.2.1), k _ _ h6 (Ne.symm nq.2.2), h7⟩
theorem ZEb.pot (h : ZEb a H S n sm c ds ts ws) {q : Addr} (hp : Pot H q) (k : Kp q H H') (nq : q ∉ S.ls) : ZEb a H' S n sm c ds ts ws := by
 obtain ⟨u, v, e, _⟩ := hp
 exact h.kpL k e nq
theorem ZEb.fresh (h : ZEb a H S n sm c ds ts ws) {q : Addr} (hq : H q = none) : q ∉ S.ls ∧ q ≠ S.d1 := by
 obtain ⟨dx, vs, h1, ⟨dy, kvs, t1, t2, t3, t4, t5, t6⟩, h3, h4, h5, h6, h7⟩ := h
 refine ⟨fun z => ?_, fun z => by rw [z, t2] at hq; cases hq⟩
 simp only [SA.ls, List.mem_cons, List.not_mem_nil, or_false] at z
 rcases z with z | z | z
 ·rw [z, h3] at hq; cases hq
 ·rw [z, h5] at hq; cases hq
 ·rw [z, h6] at hq; cases hq
theorem ZEb.fr3 (h : ZEb a H S n sm c ds ts ws) {n' : Int} {sm' : PL} {c' : Nat} (f : Fr3 S.tr S.d1 S.d2 H H') (t : ZE6 a.ZH H' S.tr n' S.d1 S.d2 sm' c') : ZEb a H' S n' sm' c' ds ts ws := by
 obtain ⟨dx, vs, h1, h2, h3, h4, h5, h6, h7⟩ := h
 refine ⟨dx, vs, ?_, t, h2.keepL f h3, h4.tups (fun b xs e => h2.keepT f e), h2.keepL f h5, h2.keepL f h6, h7⟩
 obtain ⟨dy, kvs, t1, t2, t3, _⟩ := h2
 exact f _ _ h1 (fun z => by rw [z, t1] at h1; injection h1 with h1; injection h1 with _ _ h3; exact ZWc h3.symm) (fun z => by rw [z, t2] at h1; cases h1) (fun z => by rw [z, t3] at h1; cases h1)
end
section
variable {P : Program} {w : World} {K : W.Frag} {mg : Str → Option Value} {base : Heap} {a : Ad}
local macro_rules | `(tactic| walk_at "rd") => `(tactic| first
 | with_reducible first | refine ZEz (by assumption) (‹Txt _ _ _›).ZU (‹Txt _ _ _›).Zc ZHR ?_ | refine ZEz (by assumption) (‹Txt _ _ _›).Zp (‹Txt _ _ _›).ZAi ZSi ?_ | refine ZEz (by assumption) (‹Txt _ _ _›).Zp (‹Txt _ _ _›).ZAH ZQt ?_ | refine ZEz (by assumption) (‹Txt _ _ _›).Zp (‹Txt _ _ _›).ZAp ZSj ?_ | refine ZEz (by assumption) (‹Txt _ _ _›).Zp (‹Txt _ _ _›).JW ZN5 ?_)
def ZUt (a : Ad) : Sp := fun vs H Q _ => ∃ (p dx : Addr) (x : V) (cv : PL), vs = [.ref p, x] ∧ H p = some (.ins a.ZG dx []) ∧ ((x = .non ∧ cv = []) ∨ ∃ t, x = .ref t ∧ PrT H t cv) ∧ (cv.map (·.1)).Nodup ∧ (∀ q ∈ cv, Tm q.1) ∧ cv.length ≤ 100 ∧
 ∀ (S : SA) (sm : PL) (H' : Hp), S.p = p → (∀ b ∈ S.own, H b = none) → ZEb a H' S 0 sm cv.length [] [] [] → (∀ q, q ∈ sm ↔ q ∈ cv) → sm.length ≤ cv.length → Kp p H H' → Q .non H'
theorem ZJ1 : ZEV ["self", "curve"] ["self", "curve"] (ZEP ZFA) := ZEv
theorem ZJ2 (T : Txt K mg a) : ZEW P w K mg base CX0 7 a.YE a.ZY ["self", "curve"] (ZUt a) := by
 refine T.ZBN.ok ZJ1 (by walk_at "l") (fun cdv A outer s H vs Q E hr h => ?_)
 ·obtain ⟨p, dx, x, cv, rfl, hp, hx, hnd, htm, hlen, k⟩ := h
  refine ⟨_, QB.h (ZEN (ZFy K rfl (qv 0) (ZLY T.ZDV (ZKh T) hr rfl T.ZDk T.ZBT .nil ZFc (ZEK (qv 1) ZEL))) (ZEN (ZFy K rfl (qv 0) (ZF8 ZEL)) (ZEN (ZFy K rfl (qv 0) (ZF8 ZEL)) (ZEO (ZFy K rfl (qv 0) (ZF8 ZEL)))))), ?_⟩
  walk_at "s"
  walk_at "w"
  refine ZJu fun tr dt H1 n1 f1 S1 => ?_
  refine ⟨tr, dt, x, cv, rfl, f1, ?_, hnd, htm, hlen, fun d1 d2 sm H2 m1 m2 hT2 hm hl K2 => ⟨rfl, ?_⟩⟩
  ·rcases hx with h | ⟨t, h1, h2⟩
   ·exact .inl h
   ·exact .inr ⟨t, h1, h2.same S1⟩
  have S02 : ZEU H H2 := fun b o e => K2 _ _ (S1 _ _ e) (ZEh e n1)
  have hp2 := S02 _ _ hp
  have nt : tr ≠ p := fun z => by rw [z, hp] at n1; cases n1
  have free : ∀ {b : Addr}, H1 b = none → H b = none := fun {b} e => by
   cases e2 : H b with
   | none => rfl
   | some o => rw [S1 _ _ e2] at e; cases e
  have free2 : ∀ {b : Addr}, H2 b = none → H b = none := fun {b} e => by
   cases e2 : H b with
   | none => rfl
   | some o => rw [S02 _ _ e2] at e; cases e
  walk_at "w"
  refine ZFj hp2 T.Zp T.ZAi (by show 0 < 1000; decide) fun H3 f3 K3 => ?_
  walk_at "w"
  refine ZES (by show 0 ≤ sizeLine; decide) fun dd H4 n4 f4 S4 => ?_
  have np4 : dd ≠ p := fun z => by rw [z, f3] at n4; cases n4
  walk_at "w"
  refine ZFj (S4 _ _ f3) T.Zp T.ZAH (by show 1 < 1000; decide) fun H5 f5 K5 => ?_
  walk_at "w"
  refine ZES (by show 0 ≤ sizeLine; decide) fun dn H6 n6 f6 S6 => ?_
  have np6 : dn ≠ p := fun z => by rw [z, f5] at n6; cases n6
  walk_at "w"
  refine ZFj (S6 _ _ f5) T.Zp T.ZAp (by show 2 < 1000; decide) fun H7 f7 K7 => ?_
  walk_at "w"
  refine ZES (by show 0 ≤ sizeLine; decide) fun wt H8 n8 f8 S8 => ?_
  have np8 : wt ≠ p := fun z => by rw [z, f7] at n8; cases n8
  walk_at "w"
  refine ZFj (S8 _ _ f7) T.Zp T.JW (by show 3 < 1000; decide) fun H9 f9 K9 => ?_
  rw [ZUs] at f9
  have K29 : Kp p H2 H9 := (((((K3.then S4).trans K5).then S6).trans K7).then S8).trans K9
  have K24 : Kp p H2 H5 := (K3.then S4).trans K5
  have K26 : Kp p H2 H7 := (K24.then S6).trans K7
  have g4 : H9 dd = some (.lst []) := K9 _ _ (S8 _ _ (K7 _ _ (S6 _ _ (K5 _ _ f4 np4)) np4)) np4
  have g6 : H9 dn = some (.lst []) := K9 _ _ (S8 _ _ (K7 _ _ f6 np6)) np6
  have g8 : H9 wt = some (.lst []) := K9 _ _ f8 np8
  have e46 : dd ≠ dn := fun z => by rw [← z, K5 _ _ f4 np4] at n6; cases n6
  have e48 : dd ≠ wt := fun z => by rw [← z, K7 _ _ (S6 _ _ (K5 _ _ f4 np4)) np4] at n8; cases n8
  have e68 : dn ≠ wt := fun z => by rw [← z, K7 _ _ f6 np6] at n8; cases n8
  have hT9 : ZE6 a.ZH H9 tr 0 d1 d2 sm cv.length := by
   obtain ⟨dy, kvs, t1, t2, t3, t4, t5, t6⟩ := hT2
   have nt2 : ∀ {b : Addr} {xs : List V}, H2 b = some (.tup xs) → H9 b = some (.tup xs) := fun e => K29 _ _ e (fun z => by rw [z, hp2] at e; cases e)
   exact ⟨dy, kvs, K29 _ _ t1 nt, K29 _ _ t2 (fun z => by rw [z, hp2] at t2; cases t2), K29 _ _ t3 (fun z => by rw [z, hp2] at t3; cases t3), t4, t5.tups (fun b xs e => nt2 e), t6⟩
  have fr4 : H dd = none := by
   cases e : H dd with
   | none => rfl
   | some o => rw [K3 _ _ (S02 _ _ e) np4] at n4; cases n4
  have fr6 : H dn = none := by
   cases e : H dn with
   | none => rfl
   | some o => rw [K24 _ _ (S02 _ _ e) np6] at n6; cases n6
  have fr8 : H wt = none := by
   cases e : H wt with
   | none => rfl
   | some o => rw [K26 _ _ (S02 _ _ e) np8] at n8; cases n8
  walk_at "w"
  refine k ⟨p, tr, d1, d2, dd, dn, wt⟩ sm H9 rfl (fun b hb => ?_) ⟨dx, [], f9, hT9, g4, .nil, g6, g8, e46, e48, e68⟩ hm hl ((Kp.same S02).trans K29)
  simp only [SA.own, List.mem_cons, List.not_mem_nil, or_false] at hb
  rcases hb with rfl | rfl | rfl | rfl | rfl | rfl
  ·exact n1
  ·exact free m1
  ·exact free m2
  ·exact fr4
  ·exact fr6
  ·exact fr8
def ZUu (a : Ad) : Sp := fun vs H Q _ => ∃ (S : SA) (n b e : Int) (sm : PL) (c : Nat) (ds : List (Int × Option Int)) (ts : List Int) (ws : List V), vs = [.ref S.p, .int b, .int e] ∧ ZEb a H S n sm c ds ts ws ∧ InT b ∧ InT e ∧
 ∀ (v : V) (o : Option (PL)) (n' : Int) (H' : Hp), ZE0 H' v o → Is4 (ZFF sm b e) o → ZEb a H' S n' sm c ds ts ws → Kp S.tr H H' → Q v H'
theorem ZMP : ZEV ["self", "begin", "end"] ["self", "begin", "end"] (ZEP ZHx) := ZEv
theorem ZMQ (T : Txt K mg a) : ZEW P w K mg base CX0 6 a.JM a.JO ["self", "begin", "end"] (ZUu a) := by
 refine T.ZB5.ok ZMP (by walk_at "l") (fun cdv A outer s H vs Q E hr h => ?_)
 ·obtain ⟨S, n, b, e, sm, c, ds, ts, ws, rfl, hS, hb, he, k⟩ := h
  refine ⟨_, QB.h (ZEO (ZEZ (ZFO (ZE1 K rfl (qv 0)) T.ZU T.ZAz (ZJi T) hr T.ZA3 .nil ZFc (ZEK (qv 1) (ZEK (qv 2) ZEL))))), ?_⟩
  walk_at "s"
  obtain ⟨dx, vs, hp, hT, _⟩ := id hS
  obtain ⟨dy, kvs, hq, hd1, _⟩ := id hT
  walk_at "w"
  refine ZEt hq ZLJ ?_
  walk_at "w"
  exact ⟨S.tr, S.d1, S.d2, n, b, e, sm, c, rfl, hT, hb, he, fun v o prs H1 h1 g1 _ hT1 K1 => k v o _ H1 h1 g1 (hS.fr3 (ZWb K1) hT1) K1⟩
def ZSk (a : Ad) : Sp := fun vs H Q _ => ∃ (S : SA) (n : Int) (sm : PL) (c : Nat) (ds : List (Int × Option Int)) (ts : List Int) (ws : List V), vs = [.ref S.p] ∧ ZEb a H S n sm c ds ts ws ∧
 ∀ u H', H' u = some (.tup (ts.map V.int)) → ZEU H H' → Q (.ref u) H'
theorem ZLn : ZEV ["self"] ["self"] (ZEP ZHb) := ZEv
theorem ZLo (T : Txt K mg a) : ZEW P w K mg base CX0 1 a.Y2 a.Y5 ["self"] (ZSk a) := by
 refine T.ZB1.ok ZLn (by walk_at "l") (fun cdv A outer s H vs Q E hr h => ?_)
 ·obtain ⟨S, n, sm, c, ds, ts, ws, rfl, hS, k⟩ := h
  refine ⟨_, QB.h (ZEO (ZEZ (ZGc (ZHD K rfl) rfl T.YF ZG9 (ZEK (ZE1 K rfl (qv 0)) ZEL)))), ?_⟩
  walk_at "s"
  obtain ⟨dx, vs, hp, hT, hd, hD, hn, _⟩ := id hS
  walk_at "w"
  exact ZHm (SqL.of hn) fun u H3 n3 f3 S3 => k u H3 f3 S3
end
section
variable {a : Ad} {H H' : Hp} {S : SA} {n : Int} {sm : PL} {c : Nat} {ds : List (Int × Option Int)} {ts : List Int} {ws : List V}
theorem ZEb.live (h : ZEb a H S n sm c ds ts ws) : ∀ b ∈ S.p :: S.own, ∃ o, H b = some o := by
 obtain ⟨dx, vs, h1, ⟨dy, kvs, t1, t2, t3, _⟩, h3, h4, h5, h6, h7⟩ := h
 intro b hb
 simp only [SA.own, List.mem_cons, List.not_mem_nil, or_false] at hb
 rcases hb with rfl | rfl | rfl | rfl | rfl | rfl | rfl
 ·exact ⟨_, h1⟩
 ·exact ⟨_, t1⟩
 ·exact ⟨_, t2⟩
 ·exact ⟨_, t3⟩
 ·exact ⟨_, h3⟩
 ·exact ⟨_, h5⟩
 ·exact ⟨_, h6⟩
theorem ZEb.noTup (h : ZEb a H S n sm c ds ts ws) : ∀ b ∈ S.own, ∀ xs, H b ≠ some (.tup xs) := by
 obtain ⟨dx, vs, h1, ⟨dy, kvs, t1, t2, t3, _⟩, h3, h4, h5, h6, h7⟩ := h
 intro b hb xs e
 simp only [SA.own, List.mem_cons, List.not_mem_nil, or_false] at hb
 rcases hb with rfl | rfl | rfl | rfl | rfl | rfl
 ·rw [t1] at e; cases e
 ·rw [t2] at e; cases e
 ·rw [t3] at e; cases e
 ·rw [h3] at e; cases e
 ·rw [h5] at e; cases e
 ·rw [h6] at e; cases e
theorem ZEb.frL (h : ZEb a H S n sm c ds ts ws) {l : List Addr} (f : FrL l H H') (d : ∀ b ∈ l, b ∉ S.p :: S.own) (nt : ∀ b ∈ l, ∀ xs, H b ≠ some (.tup xs)) : ZEb a H' S n sm c ds ts ws := by
 obtain ⟨dx, vs, h1, ⟨dy, kvs, t1, t2, t3, t4, t5, t6⟩, h3, h4, h5, h6, h7⟩ := h
 have k : ∀ b o, H b = some o → b ∈ S.p :: S.own → H' b = some o := fun b o e m => f _ _ e fun z => d b z m
 have kt : ∀ b xs, H b = some (.tup xs) → H' b = some (.tup xs) := fun b xs e => f _ _ e fun z => nt b z xs e
 exact ⟨dx, vs, k _ _ h1 (by simp), ⟨dy, kvs, k _ _ t1 (by simp [SA.own]), k _ _ t2 (by simp [SA.own]), k _ _ t3 (by simp [SA.own]), t4, t5.tups kt, t6⟩, k _ _ h3 (by simp [SA.own]), h4.tups kt, k _ _ h5 (by simp [SA.own]), k _ _ h6 (by simp [SA.own]), h7⟩
theorem ZEb.apart (h : ZEb a H S n sm c ds ts ws) {l : List Addr} (m : ∀ b ∈ l, H b = none) : ∀ b ∈ l, b ∉ S.p :: S.own := fun b hb z => by
 obtain ⟨o, e⟩ := h.live b z
 rw [m b hb] at e; cases e
end
section
variable {P : Program} {w : World} {K : W.Frag} {mg : Str → Option Value} {base : Heap} {a : Ad}
def ZNg (b y m t : Int) : V := if 0 ≤ (t - b) / y ∧ (t - b) / y < m then .int ((t - b) / y) else .non
def ZUv : Sp := fun vs H Q _ => ∃ (p : Addr) (b y m t : Int), vs = [.ref p, .int t] ∧ H p = some (.tup [.int b, .int y, .int m]) ∧ 0 < y ∧ y < 2 ^ 250 ∧ Q (ZNg b y m t) H
theorem ZGZ : ZEV ["window", "t", "begin", "wide", "many", "k"] ["window", "t"] (ZEP ZIU) := ZEv
theorem ZNh (T : Txt K mg a) : ZEW P w K mg base CX0 1 a.Jd a.Jj ["window", "t"] ZUv := by
 refine T.ZAx.ok ZGZ (by walk_at "l") (fun cdv A outer s H vs Q E hr h => ?_)
 ·obtain ⟨p, b, y, m, t, rfl, hT, hy, hy2, q⟩ := h
  refine ⟨_, QB.h (ZEN (ZFr (qv 0) (ZFU (n := 3) K rfl rfl (ZET (qgN (i := 2) ZGZ.nd) (ZET (qgN (i := 3) ZGZ.nd) (ZET (qgN (i := 4) ZGZ.nd) ZFD))))) (ZEN (qsS (i := 5) ZGZ.nd (ZEQ ZF3 (ZEQ ZFP (qv 1) (qv 2)) (qv 3))) (ZEO (ZEZ (ZIs (ZKM ZH8 ZKm ZEM (qv 5) (qv 4)) (qv 5) ZFl))))), ?_⟩
  walk_at "s"
  walk_at "w"
  refine ZE4 (fun h1 => ?_) (fun h1 => ?_)
  ·walk_at "w"
   refine ZE4 (fun h2 => ?_) (fun h2 => ?_)
   ·walk_at "w"
    unfold ZNg at q
    rw [if_pos ⟨h1, h2⟩] at q
    exact q
   ·walk_at "w"
    unfold ZNg at q
    rw [if_neg (fun z => h2 z.2)] at q
    exact q
  ·walk_at "w"
   refine ZE9 ?_
   walk_at "w"
   unfold ZNg at q
   rw [if_neg (fun z => h1 z.1)] at q
   exact q
end
abbrev win (b y m : Int) : List V := [.int b, .int y, .int m]
def ZUw (K : W.Frag) : Sp := fun vs H Q _ => ∃ (t : Addr) (b y m c : Int), vs = [.ref t, .int c] ∧ SqT K H t (win b y m) ∧ IntMulOk c y ∧ ∀ (u : Addr) (H' : Hp), H u = none → H' u = some (.tup (win (b + c * y) y m)) → ZEU H H' → Q (.ref u) H'
def ZQv (K : W.Frag) : Sp := fun vs H Q _ => ∃ (t : Addr) (b y m : Int), vs = [.ref t] ∧ SqT K H t (win b y m) ∧ ∀ (u : Addr) (H' : Hp), H u = none → H' u = some (.tup (win b (y * 2) m)) → ZEU H H' → Q (.ref u) H'
def ZPV (K : W.Frag) : Sp := fun vs H Q _ => ∃ (t : Addr) (b y m : Int), vs = [.ref t] ∧ SqT K H t (win b y m) ∧ y % 2 = 0 ∧ ∀ (u : Addr) (H' : Hp), H u = none → H' u = some (.tup (win b (y / 2) m)) → ZEU H H' → Q (.ref u) H'
def ZUx (K : W.Frag) : Sp := fun vs H Q _ => ∃ (t : Addr) (b y m n : Int), vs = [.ref t, .int n] ∧ SqT K H t (win b y m) ∧ ∀ (u : Addr) (H' : Hp), H u = none → H' u = some (.tup (win b y n)) → ZEU H H' → Q (.ref u) H'
section
variable {P : Program} {w : World} {K : W.Frag} {mg : Str → Option Value} {base : Heap} {a : Ad}
theorem ZJD : ZEV ["window", "c", "begin", "wide", "many"] ["window", "c"] (ZEP ZLk) := ZEv
theorem ZNi (T : Txt K mg a) : ZEW P w K mg base CX0 1 a.ZBk a.ZBp ["window", "c"] (ZUw K) := by
 refine T.ZBl.ok ZJD (by walk_at "l") (fun cdv A outer s H vs Q E hr h => ?_)
 ·obtain ⟨t, b, y, m, c, rfl, hT, hm, k⟩ := h
  refine ⟨_, QB.h (ZEN (ZFr (qv 0) (ZFU (n := 3) K rfl rfl (ZET (qgN (i := 2) ZJD.nd) (ZET (qgN (i := 3) ZJD.nd) (ZET (qgN (i := 4) ZJD.nd) ZFD))))) (ZEO (ZEZ (ZEk (ZEK (ZEQ ZEq (qv 2) (ZEQ ZEs (qv 1) (qv 3))) (ZEK (qv 3) (ZEK (qv 4) ZEL))))))), ?_⟩
  walk_at "s"
  walk_at "w"
  refine ZMr hm ?_
  walk_at "w"
  exact ZES (by show 3 ≤ sizeLine; decide) fun u H2 hu f2 S2 => k u H2 hu f2 S2
theorem ZHj : ZEV ["window", "begin", "wide", "many"] ["window"] (ZEP ZJW) := ZEv
theorem ZLK (T : Txt K mg a) : ZEW P w K mg base CX0 1 a.ZAW a.ZAm ["window"] (ZQv K) := by
 refine T.ZAh.ok ZHj (by walk_at "l") (fun cdv A outer s H vs Q E hr h => ?_)
 ·obtain ⟨t, b, y, m, rfl, hT, k⟩ := h
  refine ⟨_, QB.h (ZEN (ZFr (qv 0) (ZFU (n := 3) K rfl rfl (ZET (qgN (i := 1) ZHj.nd) (ZET (qgN (i := 2) ZHj.nd) (ZET (qgN (i := 3) ZHj.nd) ZFD))))) (ZEO (ZEZ (ZEk (ZEK (qv 1) (ZEK (ZEQ ZEs (qv 2) ZEM) (ZEK (qv 3) ZEL))))))), ?_⟩
  walk_at "s"
  walk_at "w"
  exact ZES (by show 3 ≤ sizeLine; decide) fun u H2 hu f2 S2 => k u H2 hu f2 S2
theorem ZFv : ZEV ["window", "begin", "wide", "many"] ["window"] (ZEP ZI6) := ZEv
theorem ZN6 (T : Txt K mg a) : ZEW P w K mg base CX0 1 a.Y9 a.Y8 ["window"] (ZPV K) := by
 refine T.Y7.ok ZFv (by walk_at "l") (fun cdv A outer s H vs Q E hr h => ?_)
 ·obtain ⟨t, b, y, m, rfl, hT, hy, k⟩ := h
  refine ⟨_, QB.h (ZEN (ZFr (qv 0) (ZFU (n := 3) K rfl rfl (ZET (qgN (i := 1) ZFv.nd) (ZET (qgN (i := 2) ZFv.nd) (ZET (qgN (i := 3) ZFv.nd) ZFD))))) (ZEN (ZEm (ZEX (ZE7) (ZEQ ZGg (qv 2) ZEM) ZEM (ZEc _)) (ZEO ZFi) ZEl) (ZEO (ZEZ (ZEk (ZEK (qv 1) (ZEK (ZEQ ZF3 (qv 2) ZEM) (ZEK (qv 3) ZEL)))))))), ?_⟩
  walk_at "s"
  walk_at "w"
  rw [ZFk]
  refine ZE4 (fun h => absurd h (by omega)) (fun _ => ?_)
  walk_at "w"
  exact ZES (by show 3 ≤ sizeLine; decide) fun u H2 hu f2 S2 => k u H2 hu f2 S2
theorem ZLL : ZEV ["window", "n"] ["window", "n"] (ZEP ZHI) := ZEv
theorem ZII (T : Txt K mg a) : ZEW P w K mg base CX0 1 a.Ym a.Yj ["window", "n"] (ZUx K) := by
 refine T.Yl.ok ZLL (by walk_at "l") (fun cdv A outer s H vs Q E hr h => ?_)
 ·obtain ⟨t, b, y, m, n, rfl, hT, k⟩ := h
  refine ⟨_, QB.h (ZEO (ZEZ (ZEk (ZEK (ZEi (ZEj K rfl) (qv 0) ZEM) (ZEK (ZEi (ZEj K rfl) (qv 0) ZEM) (ZEK (qv 1) ZEL)))))), ?_⟩
  walk_at "s"
  walk_at "w"
  exact ZES (by show 3 ≤ sizeLine; decide) fun u H2 hu f2 S2 => k u H2 hu f2 S2
end
def kx (x z : Int) : List Key := [Sum.inl x, Sum.inl z]
theorem ZLM {x z x' z' : Int} (h : kx x z = kx x' z') : x = x' ∧ z = z' := by
 unfold kx at h
 injection h with h1 h2
 injection h2 with h2 _
 exact ⟨Sum.inl.inj h1, Sum.inl.inj h2⟩
theorem ZJj {κ : Type} [DecidableEq κ] (k j : κ) : ∀ kvs : List (κ × V), ZEp (ZHP kvs k) j = if j = k then none else ZEp kvs j
 | [] => by split <;> rfl
 | p :: r => by
  have ih := ZJj k j r
  unfold ZHP at ih ⊢
  by_cases e : p.1 = k
  ·rw [List.filter_cons_of_neg (by simpa using e), ih]
   split
   ·rfl
   ·rw [ZFZ (fun z => ‹¬ j = k› (z.symm.trans e))]
  ·rw [List.filter_cons_of_pos (by simpa using e)]
   by_cases e2 : p.1 = j
   ·rw [ZFd e2, ZFd e2, if_neg (fun z => e (e2.trans z))]
   ·rw [ZFZ e2, ZFZ e2, ih]
def ZH1 (H : Hp) (sm : PL) (x z : Int) (v : V) : Prop := ∃ o, ZE0 H v o ∧ Is4 (ZFF sm x z) o
theorem ZH1.tups {H H' : Hp} {sm : PL} {x z : Int} {v : V} (h : ZH1 H sm x z v) (t : ∀ b xs, H b = some (.tup xs) → H' b = some (.tup xs)) : ZH1 H' sm x z v :=
 let ⟨o, h1, h2⟩ := h; ⟨o, h1.tups t, h2⟩
def Col (b y m x z : Int) : Prop := ∃ k : Int, 0 ≤ k ∧ k < m ∧ x = b + k * y ∧ z = b + k * y + y
def has (kvs : List (List Key × V)) (x z : Int) : Bool := (ZEp kvs (kx x z)).isSome
theorem ZH2 {kvs : List (List Key × V)} {x z : Int} {v : V} (h : ZEp kvs (kx x z) = some v) : has kvs x z = true := by unfold has; rw [h]; rfl
theorem ZH3 {kvs : List (List Key × V)} {x z : Int} (h : ZEp kvs (kx x z) = none) : has kvs x z = false := by unfold has; rw [h]; rfl
theorem ZOZ {kvs : List (List Key × V)} {x z x' z' : Int} {v : V} : has (ZFo kvs (kx x z) v) x' z' = (decide (x' = x ∧ z' = z) || has kvs x' z') := by
 unfold has
 rw [ZHE]
 by_cases e : kx x' z' = kx x z
 ·rw [if_pos e, decide_eq_true (ZLM e)]; rfl
 ·rw [if_neg e, decide_eq_false (fun h => e (by rw [h.1, h.2]))]; rfl
def Kin (kvs : List (List Key × V)) (x z : Int) : Prop := has kvs x z = true ∨ (has kvs x ((x + z) / 2) = true ∧ has kvs ((x + z) / 2) z = true)
def ZQw : Sp := fun vs H Q _ => ∃ (d q : Addr) (b y m : Int) (kvs : List (List Key × V)) (sm : PL), vs = [.ref d, .ref q] ∧ H d = some (.dT kvs) ∧ ZFz H q b y m ∧
 (∀ x z v, ZEp kvs (kx x z) = some v → ZH1 H sm x z v) ∧
 ∀ (d' : Addr) (kvs' : List (List Key × V)) (H' : Hp), H d' = none → H' d' = some (.dT kvs') → kvs'.length ≤ m.toNat → (∀ x z v, ZEp kvs' (kx x z) = some v → Col b y m x z ∧ ZH1 H' sm x z v) →
  (∀ x z, Col b y m x z → (has kvs' x z = true ↔ Kin kvs x z)) → ZEU H H' → Q (.ref d') H'
section
variable {P : Program} {w : World} {K : W.Frag} {mg : Str → Option Value} {base : Heap} {a : Ad}
theorem ZGl : ZEV ["known", "window", "staying", "first", "behind", "middle"] ["known", "window"] (ZEP ZI8) := ZEv
theorem ZN7 (T : Txt K mg a) : ZEW P w K mg base CX0 4 a.Jv a.J7 ["known", "window"] ZQw := by
 refine T.ZBW.ok ZGl (by walk_at "l") (fun cdv A outer s H vs Q E hr h => ?_)
 ·obtain ⟨d, q, b, y, m, kvs, sm, rfl, hd, hW, hg, k⟩ := h
  have hu := ZHN hr
  obtain ⟨hq, hy, hm1, hm2, hb, he⟩ := id hW
  refine ⟨_, QB.h (ZEN (qsS (i := 2) ZGl.nd ZKS) (ZEN (ZGN PassesOwn.never rfl (ZGR K rfl (qcS (ZHc T) hr T.JP T.YR.kp T.JD (ZEK (qv 1) ZEL))) (ZFU (n := 2) K rfl rfl (ZET (qgN (i := 3) ZGl.nd) (ZET (qgN (i := 4) ZGl.nd) ZFD))) (ZEN (qsS (i := 5) ZGl.nd (ZEQ ZF3 (ZEQ ZEq (qv 3) (qv 4)) ZEM)) (ZEO (ZEm (ZEX (ZLd hu) (ZEk (ZEK (qv 3) (ZEK (qv 4) ZEL))) (qv 0) (by with_unfolding_all rfl)) (ZEO (ZHF hu (ZHo hu (qv 0) (ZEk (ZEK (qv 3) (ZEK (qv 4) ZEL)))) (qv 2) (ZEk (ZEK (qv 3) (ZEK (qv 4) ZEL))))) (ZEO (ZEm (QW.pt (ZIg (ZEX (ZLd hu) (ZEk (ZEK (qv 3) (ZEK (qv 5) ZEL))) (qv 0) (by with_unfolding_all rfl)) (ZHn (ZEX (ZLd hu) (ZEk (ZEK (qv 5) (ZEK (qv 4) ZEL))) (qv 0) (by with_unfolding_all rfl))))) (ZEO (ZHF hu (qcS (ZJg T) hr.m T.ZBD T.Jy.kp T.ZBM (ZEK (ZHo hu (qv 0) (ZEk (ZEK (qv 3) (ZEK (qv 5) ZEL)))) (ZEK (ZHo hu (qv 0) (ZEk (ZEK (qv 5) (ZEK (qv 4) ZEL)))) ZEL))) (qv 2) (ZEk (ZEK (qv 3) (ZEK (qv 4) ZEL))))) ZEl)))))) (ZEO (ZEZ (qv 2))))), ?_⟩
  walk_at "s"
  walk_at "w"
  refine ZKT fun d' H1 n1 f1 S1 => ?_
  have nd : d ≠ d' := ZEh hd n1
  walk_at "w"
  refine ⟨q, b, y, m, rfl, S1 _ _ hq, hm1, by omega, fun l us H2 n2 f2 hP2 S2 => ?_⟩
  have nl : l ≠ d' := fun z => by rw [z, f1] at n2; cases n2
  have hul : us.length = m.toNat := by rw [hP2.length, ZHV]
  have S02 := S1.trans S2
  walk_at "w"
  refine ZIf (xs := us) (fun i σ H' => (∃ v3 v4 v5, σ = [some (.ref d), some (.ref q), some (.ref d'), v3, v4, v5]) ∧ Kp d' H2 H' ∧ ∃ kvs', H' d' = some (.dT kvs') ∧ kvs'.length ≤ i ∧
   (∀ x z v, ZEp kvs' (kx x z) = some v → (∃ j : Nat, j < i ∧ x = b + (j : Int) * y ∧ z = b + (j : Int) * y + y) ∧ ZH1 H' sm x z v) ∧ ∀ j : Nat, j < i → (has kvs' (b + (j : Int) * y) (b + (j : Int) * y + y) = true ↔ Kin kvs (b + (j : Int) * y) (b + (j : Int) * y + y))) ?_ ?_ ?_ ?_
  ·exact ⟨⟨_, _, _, rfl⟩, fun _ _ e _ => e, [], S2 _ _ f1, Nat.le_refl _, fun x z v h => (by cases h), fun j h => (by omega)⟩
  ·rintro i σ H3 _ ⟨_, K3, _⟩
   exact SqL.of (K3 _ _ f2 nl)
  ·rintro i x σ H3 hx ⟨⟨v3, v4, v5, rfl⟩, K3, kvs', f3, hl3, hG3, hI3⟩
   obtain ⟨cc, pq, rfl, hpq, hc⟩ := hP2.at hx
   have hil : i < m.toNat := by rw [← hul]; exact (List.getElem?_eq_some_iff.mp hx).1
   obtain rfl := ZJC hpq
   have ntd : ∀ {H' : Hp} {kv : List (List Key × V)}, H' d' = some (.dT kv) → ∀ {e : Addr} {xs : List V}, H' e = some (.tup xs) → e ≠ d' := fun h e xs g z => by rw [z, h] at g; cases g
   have hc3 := K3 _ _ hc (ntd (S2 _ _ f1) hc)
   have hd3 := K3 _ _ (S02 _ _ hd) nd
   have nt03 : ∀ b xs, H b = some (.tup xs) → H3 b = some (.tup xs) := fun b xs e => K3 _ _ (S02 _ _ e) (ZEh e n1)
   have hz : kvs'.length < sizeLine := by show _ < 2 ^ 24; omega
   generalize hX : b + (i : Int) * y = X at hc3 hpq
   have hold : ∀ {H' : Hp} {v' : V}, H' d' = some (.dT (ZFo kvs' (kx X (X + y)) v')) → ZH1 H' sm X (X + y) v' → (∀ b xs, H3 b = some (.tup xs) → H' b = some (.tup xs)) → Kin kvs X (X + y) →
     (ZFo kvs' (kx X (X + y)) v').length ≤ i + 1 ∧ (∀ x z v, ZEp (ZFo kvs' (kx X (X + y)) v') (kx x z) = some v → (∃ j : Nat, j < i + 1 ∧ x = b + (j : Int) * y ∧ z = b + (j : Int) * y + y) ∧ ZH1 H' sm x z v) ∧
     ∀ j : Nat, j < i + 1 → (has (ZFo kvs' (kx X (X + y)) v') (b + (j : Int) * y) (b + (j : Int) * y + y) = true ↔ Kin kvs (b + (j : Int) * y) (b + (j : Int) * y + y)) := fun {H' v'} _ hv ht hk => by
    refine ⟨by have := ZGS kvs' (kx X (X + y)) v'; omega, fun x z v h => ?_, fun j hj => ?_⟩
    ·rw [ZHE] at h
     split at h
     ·rename_i e
      obtain ⟨rfl, rfl⟩ := ZLM e
      cases h
      exact ⟨⟨i, by omega, hX.symm, by rw [hX]⟩, hv⟩
     ·obtain ⟨⟨j, hj, e1, e2⟩, g⟩ := hG3 _ _ _ h
      exact ⟨⟨j, by omega, e1, e2⟩, g.tups ht⟩
    ·rw [ZOZ]
     by_cases e : j = i
     ·subst e
      rw [hX]
      simp [hk]
     ·have hne : ¬ (b + (j : Int) * y = X ∧ b + (j : Int) * y + y = X + y) := fun z => by
       have h1 : (j : Int) * y = (i : Int) * y := by omega
       have := Int.eq_of_mul_eq_mul_right (by omega) h1
       omega
      rw [decide_eq_false hne, Bool.false_or]
      exact hI3 j (by omega)
   have hskip : ∀ {H' : Hp}, (∀ b xs, H3 b = some (.tup xs) → H' b = some (.tup xs)) → ¬ Kin kvs X (X + y) →
     kvs'.length ≤ i + 1 ∧ (∀ x z v, ZEp kvs' (kx x z) = some v → (∃ j : Nat, j < i + 1 ∧ x = b + (j : Int) * y ∧ z = b + (j : Int) * y + y) ∧ ZH1 H' sm x z v) ∧
     ∀ j : Nat, j < i + 1 → (has kvs' (b + (j : Int) * y) (b + (j : Int) * y + y) = true ↔ Kin kvs (b + (j : Int) * y) (b + (j : Int) * y + y)) := fun {H'} ht hk => by
    refine ⟨by omega, fun x z v h => ?_, fun j hj => ?_⟩
    ·obtain ⟨⟨j, hj, e1, e2⟩, g⟩ := hG3 _ _ _ h
     exact ⟨⟨j, by omega, e1, e2⟩, g.tups ht⟩
    ·by_cases e : j = i
     ·subst e
      rw [hX]
      refine ⟨fun h => ?_, fun h => absurd h hk⟩
      unfold has at h
      obtain ⟨v, hv⟩ := Option.isSome_iff_exists.mp h
      obtain ⟨⟨j', hj', e1, _⟩, _⟩ := hG3 _ _ _ hv
      have h1 : (j : Int) * y = (j' : Int) * y := by omega
      have := Int.eq_of_mul_eq_mul_right (by omega) h1
      omega
     ·exact hI3 j (by omega)
   have g2 : (2 : Nat) ≤ sizeLine := by decide
   have hM : X ≤ (X + (X + y)) / 2 ∧ (X + (X + y)) / 2 ≤ X + y := by omega
   walk_at "w"
   refine ZES g2 fun u4 H4 n4 f4 S4 => ?_
   walk_at "w"
   refine ZLg (k := kx X (X + y)) (S4 _ _ hd3) f4 ?_
   cases hk : ZEp kvs (kx X (X + y)) with
   | some v =>
    walk_at "w"
    refine ZFY ?_
    walk_at "w"
    refine ZES g2 fun u5 H5 n5 f5 S5 => ?_
    have hd5 := S5 _ _ (S4 _ _ hd3)
    walk_at "w"
    refine ⟨d, v, rfl, by rw [← hk]; exact ZFx.t (k := kx X (X + y)) hd5 f5, ?_⟩
    walk_at "w"
    refine ZES g2 fun u6 H6 n6 f6 S6 => ?_
    have S36 := (S4.trans S5).trans S6
    have f36 := S36 _ _ f3
    walk_at "w"
    refine ZHu (k := kx X (X + y)) f36 f6 hz fun H7 f7 K7 => ?_
    have nt7 : ∀ b xs, H3 b = some (.tup xs) → H7 b = some (.tup xs) := fun b xs e => K7 _ _ (S36 _ _ e) (ntd f3 e)
    walk_at "w"
    exact ⟨⟨_, _, _, rfl⟩, (K3.then S36).trans K7, _, f7, hold f7 ((hg _ _ _ hk).tups fun b xs e => nt7 _ _ (nt03 _ _ e)) nt7 (.inl (ZH2 hk))⟩
   | none =>
    walk_at "w"
    refine ZE9 ?_
    walk_at "w"
    refine ZES g2 fun u5 H5 n5 f5 S5 => ?_
    have hd5 := S5 _ _ (S4 _ _ hd3)
    walk_at "w"
    refine ZLg (k := kx X ((X + (X + y)) / 2)) hd5 f5 ?_
    cases hk1 : ZEp kvs (kx X ((X + (X + y)) / 2)) with
    | none =>
     have S35 := S4.trans S5
     walk_at "w"
     refine ZE9 ?_
     walk_at "w"
     exact ⟨⟨_, _, _, rfl⟩, K3.then S35, _, S35 _ _ f3, hskip (fun b xs e => S35 _ _ e) fun z => by
      rcases z with z | z
      ·rw [ZH3 hk] at z; cases z
      ·rw [ZH3 hk1] at z; cases z.1⟩
    | some v1 =>
     walk_at "w"
     refine ZFY ?_
     walk_at "w"
     refine ZES g2 fun u6 H6 n6 f6 S6 => ?_
     have hd6 := S6 _ _ hd5
     have S36 := (S4.trans S5).trans S6
     walk_at "w"
     refine ZLg (k := kx ((X + (X + y)) / 2) (X + y)) hd6 f6 ?_
     cases hk2 : ZEp kvs (kx ((X + (X + y)) / 2) (X + y)) with
     | none =>
      walk_at "w"
      refine ZE9 ?_
      walk_at "w"
      exact ⟨⟨_, _, _, rfl⟩, K3.then S36, _, S36 _ _ f3, hskip (fun b xs e => S36 _ _ e) fun z => by
       rcases z with z | z
       ·rw [ZH3 hk] at z; cases z
       ·rw [ZH3 hk2] at z; cases z.2⟩
     | some v2 =>
      walk_at "w"
      refine ZFY ?_
      walk_at "w"
      refine ZES g2 fun u7 H7 n7 f7 S7 => ?_
      have hd7 := S7 _ _ hd6
      walk_at "w"
      refine ⟨d, v1, rfl, by rw [← hk1]; exact ZFx.t (k := kx X ((X + (X + y)) / 2)) hd7 f7, ?_⟩
      walk_at "w"
      refine ZES g2 fun u8 H8 n8 f8 S8 => ?_
      have hd8 := S8 _ _ hd7
      have S38 := (S36.trans S7).trans S8
      walk_at "w"
      refine ⟨d, v2, rfl, by rw [← hk2]; exact ZFx.t (k := kx ((X + (X + y)) / 2) (X + y)) hd8 f8, ?_⟩
      obtain ⟨o1, i1, i2⟩ := (hg _ _ _ hk1).tups (H' := H8) fun b xs e => S38 _ _ (nt03 _ _ e)
      obtain ⟨o2, j1, j2⟩ := (hg _ _ _ hk2).tups (H' := H8) fun b xs e => S38 _ _ (nt03 _ _ e)
      walk_at "w"
      refine ⟨v1, v2, o1, o2, _, _, rfl, i1, i2, j1, j2, ZNQ, fun v9 o9 H9 h9 g9 S9 => ?_⟩
      walk_at "w"
      refine ZES g2 fun u10 H10 n10 f10 S10 => ?_
      have S310 := (S38.trans S9).trans S10
      have f310 := S310 _ _ f3
      walk_at "w"
      refine ZHu (k := kx X (X + y)) f310 f10 hz fun H11 f11 K11 => ?_
      have nt11 : ∀ b xs, H10 b = some (.tup xs) → H11 b = some (.tup xs) := fun b xs e => K11 _ _ e (ntd f310 e)
      walk_at "w"
      exact ⟨⟨_, _, _, rfl⟩, (K3.then S310).trans K11, _, f11, hold f11 ⟨o9, (h9.tups fun b xs e => S10 _ _ e).tups nt11, g9.congr fun r => ZLE hM.1 hM.2 r⟩ (fun b xs e => nt11 _ _ (S310 _ _ e)) (.inr ⟨ZH2 hk1, ZH2 hk2⟩)⟩
  ·rintro σ H3 ⟨⟨v3, v4, v5, rfl⟩, K3, kvs', f3, hl3, hG3, hI3⟩
   rw [hul] at hl3 hG3 hI3
   walk_at "w"
   refine k d' kvs' H3 n1 f3 hl3 (fun x z v h => ?_) (fun x z h => ?_) fun b o e => K3 _ _ (S02 _ _ e) (ZEh e n1)
   ·obtain ⟨⟨j, hj, e1, e2⟩, g⟩ := hG3 _ _ _ h
    exact ⟨⟨j, by omega, by omega, e1, e2⟩, g⟩
   ·obtain ⟨j, h0, h1, rfl, rfl⟩ := h
    have := hI3 j.toNat (by omega)
    rwa [Int.toNat_of_nonneg h0] at this
end
def vfl (s q d : Addr) (n e : Int) : List (Str × V) := [("source", V.ref s), ("window", V.ref q), ("asked", V.int n), ("known", V.ref d), ("seen", V.int e)]
section
variable {s q d q' d' : Addr} {n e n' e' : Int}
theorem vn1 : (("window" : Str) == "source") = false := by decide +kernel
theorem vn2 : (("asked" : Str) == "source") = false := by decide +kernel
theorem vn3 : (("asked" : Str) == "window") = false := by decide +kernel
theorem vn4 : (("known" : Str) == "source") = false := by decide +kernel
theorem vn5 : (("known" : Str) == "window") = false := by decide +kernel
theorem vn6 : (("known" : Str) == "asked") = false := by decide +kernel
theorem vn7 : (("seen" : Str) == "source") = false := by decide +kernel
theorem vn8 : (("seen" : Str) == "window") = false := by decide +kernel
theorem vn9 : (("seen" : Str) == "asked") = false := by decide +kernel
theorem ZSl : (("seen" : Str) == "known") = false := by decide +kernel
theorem ZJE : (vfl s q d n e).lookup ("source" : Str) = some (.ref s) := by
 unfold vfl
 rw [List.lookup_cons, beq_self_eq_true]
theorem ZGH : (vfl s q d n e).lookup ("window" : Str) = some (.ref q) := by
 unfold vfl
 rw [List.lookup_cons, vn1, List.lookup_cons, beq_self_eq_true]
theorem ZIJ : (vfl s q d n e).lookup ("asked" : Str) = some (.int n) := by
 unfold vfl
 rw [List.lookup_cons, vn2, List.lookup_cons, vn3, List.lookup_cons, beq_self_eq_true]
theorem ZJk : (vfl s q d n e).lookup ("known" : Str) = some (.ref d) := by
 unfold vfl
 rw [List.lookup_cons, vn4, List.lookup_cons, vn5, List.lookup_cons, vn6, List.lookup_cons, beq_self_eq_true]
theorem ZNj : (vfl s q d n e).lookup ("seen" : Str) = some (.int e) := by
 unfold vfl
 rw [List.lookup_cons, vn7, List.lookup_cons, vn8, List.lookup_cons, vn9, List.lookup_cons, ZSl, List.lookup_cons, beq_self_eq_true]
theorem ZFV {m : Str} (h1 : (m == ("source" : Str)) = false := by decide +kernel) (h2 : (m == ("window" : Str)) = false := by decide +kernel) (h3 : (m == ("asked" : Str)) = false := by decide +kernel) (h4 : (m == ("known" : Str)) = false := by decide +kernel) (h5 : (m == ("seen" : Str)) = false := by decide +kernel) : (vfl s q d n e).lookup m = none := by
 unfold vfl
 rw [List.lookup_cons, h1, List.lookup_cons, h2, List.lookup_cons, h3, List.lookup_cons, h4, List.lookup_cons, h5]
 rfl
theorem ZJF (f : Str) (v u : V) (r : List (Str × V)) : ZEr f v ((f, u) :: r) = (f, v) :: r := by
 show (if f = f then _ else _) = _
 rw [if_pos rfl]
theorem ZE2 {f g : Str} (h : (f == g) = false) (v u : V) (r : List (Str × V)) : ZEr f v ((g, u) :: r) = (g, u) :: ZEr f v r := by
 show (if g = f then _ else _) = _
 rw [if_neg (fun z => by rw [z, beq_self_eq_true] at h; cases h)]
theorem ZH4 (f : Str) (v : V) : ZEr f v [] = [(f, v)] := rfl
theorem ZSm : ZEr "window" (.ref q') (vfl s q d n e) = vfl s q' d n e := by
 unfold vfl
 rw [ZE2 vn1, ZJF]
theorem ZSn : ZEr "asked" (.int n') (vfl s q d n e) = vfl s q d n' e := by
 unfold vfl
 rw [ZE2 vn2, ZE2 vn3, ZJF]
theorem ZSo : ZEr "known" (.ref d') (vfl s q d n e) = vfl s q d' n e := by
 unfold vfl
 rw [ZE2 vn4, ZE2 vn5, ZE2 vn6, ZJF]
theorem ZSp : ZEr "seen" (.int e') (vfl s q d n e) = vfl s q d n e' := by
 unfold vfl
 rw [ZE2 vn7, ZE2 vn8, ZE2 vn9, ZE2 ZSl, ZJF]
theorem ZUy : ZEr "seen" (.int e) (ZEr "known" (.ref d) (ZEr "asked" (.int n) (ZEr "window" (.ref q) (ZEr "source" (.ref s) [])))) = vfl s q d n e := by
 unfold vfl
 rw [ZH4, ZE2 vn1, ZH4, ZE2 vn2, ZE2 vn3, ZH4, ZE2 vn4, ZE2 vn5, ZE2 vn6, ZH4, ZE2 vn7, ZE2 vn8, ZE2 vn9, ZE2 ZSl, ZH4]
end
def ZPW (H : Hp) (kvs : List (List Key × V)) (sm : PL) (b y m : Int) (bad : List Int) : Prop :=
 ∀ x z u, ZEp kvs (kx x z) = some u → Col b y m x z ∧ ((∃ t ∈ bad, x ≤ t ∧ t < z) ∨ ZH1 H sm x z u)
theorem ZPW.tups {H H' : Hp} {kvs : List (List Key × V)} {sm : PL} {b y m : Int} {bad : List Int} (h : ZPW H kvs sm b y m bad) (t : ∀ b xs, H b = some (.tup xs) → H' b = some (.tup xs)) : ZPW H' kvs sm b y m bad := fun x z u e =>
 ⟨(h x z u e).1, (h x z u e).2.imp id fun g => g.tups t⟩
def ZE8 (a : Ad) (H : Hp) (S : SA) (v d : Addr) (b y m n : Int) (kvs : List (List Key × V)) (e : Nat) (sm : PL) (ts : List Int) : Prop :=
 ∃ dx q, H v = some (.ins a.ZJ dx (vfl S.p q d n (e : Int))) ∧ ZFz H q b y m ∧ H d = some (.dT kvs) ∧ ZPW H kvs sm b y m (ts.drop e) ∧ v ∉ S.p :: S.own ∧ d ∉ S.p :: S.own
section
variable {a : Ad} {H H' : Hp} {S : SA} {v d : Addr} {b y m n : Int} {kvs : List (List Key × V)} {e : Nat} {sm : PL} {ts : List Int}
theorem ZE8.frL (h : ZE8 a H S v d b y m n kvs e sm ts) {l : List Addr} (f : FrL l H H') (nv : v ∉ l) (nd : d ∉ l) (nt : ∀ b ∈ l, ∀ xs, H b ≠ some (.tup xs)) : ZE8 a H' S v d b y m n kvs e sm ts := by
 obtain ⟨dx, q, h1, h2, h3, h4, h5⟩ := h
 have kt : ∀ b xs, H b = some (.tup xs) → H' b = some (.tup xs) := fun b xs e => f _ _ e fun z => nt b z xs e
 exact ⟨dx, q, f _ _ h1 nv, ⟨kt _ _ h2.1, h2.2⟩, f _ _ h3 nd, h4.tups kt, h5⟩
theorem ZE8.same (h : ZE8 a H S v d b y m n kvs e sm ts) (s : ZEU H H') : ZE8 a H' S v d b y m n kvs e sm ts := h.frL (l := []) (FrL.same s) (by simp) (by simp) (by simp)
theorem ZE8.ne (h : ZE8 a H S v d b y m n kvs e sm ts) : v ≠ d := fun z => by
 obtain ⟨dx, q, h1, h2, h3, _⟩ := h
 rw [z, h3] at h1; cases h1
theorem ZE8.noTup (h : ZE8 a H S v d b y m n kvs e sm ts) : ∀ b ∈ [v, d], ∀ xs, H b ≠ some (.tup xs) := by
 obtain ⟨dx, q, h1, h2, h3, _⟩ := h
 intro b hb xs e
 simp only [List.mem_cons, List.not_mem_nil, or_false] at hb
 rcases hb with rfl | rfl
 ·rw [h1] at e; cases e
 ·rw [h3] at e; cases e
end
theorem ZGI {H : Hp} {q : Addr} {b y m : Int} (h : ZFz H q b y m) : y ≤ 2199023255552 := by
 obtain ⟨_, hy, h1, h2, hb, he⟩ := h
 have : 0 ≤ (m - 1) * y := Int.mul_nonneg (by omega) (by omega)
 rw [Int.sub_mul, Int.one_mul] at this
 unfold InT at hb he
 omega
theorem ZSq (xs : List V) (e : Nat) : ZGx xs (some (e : Int)) none = xs.drop e := by
 unfold ZGx
 rw [HT.sIx_nat, HT.sIx_none]
 by_cases h : e ≤ xs.length
 ·rw [Nat.min_eq_left h, List.take_of_length_le (by rw [List.length_drop]; exact Nat.le_refl _)]
 ·rw [Nat.min_eq_right (by omega), List.drop_length, List.take_nil, List.drop_of_length_le (by omega)]
theorem col_of {b y m x z t : Int} (hy : 0 < y) (h : Col b y m x z) (h1 : x ≤ t) (h2 : t < z) : 0 ≤ (t - b) / y ∧ (t - b) / y < m ∧ x = b + (t - b) / y * y ∧ z = b + (t - b) / y * y + y := by
 obtain ⟨k, k0, k1, rfl, rfl⟩ := h
 have hk : (t - b) / y = k := by
  have hq := Int.mul_ediv_add_emod (t - b) y
  have r0 := Int.emod_nonneg (t - b) (by omega : y ≠ 0)
  have r1 := Int.emod_lt_of_pos (t - b) hy
  generalize (t - b) / y = c at hq
  rw [Int.mul_comm] at hq
  rcases Int.lt_trichotomy c k with h | h | h
  ·have := Int.mul_le_mul_of_nonneg_right (show c + 1 ≤ k by omega) (show 0 ≤ y by omega)
   rw [Int.add_mul, Int.one_mul] at this
   omega
  ·exact h
  ·have := Int.mul_le_mul_of_nonneg_right (show k + 1 ≤ c by omega) (show 0 ≤ y by omega)
   rw [Int.add_mul, Int.one_mul] at this
   omega
 rw [hk]
 exact ⟨k0, k1, rfl, rfl⟩
theorem ZWd {b y t : Int} (hy : 0 < y) : b + (t - b) / y * y ≤ t ∧ t < b + (t - b) / y * y + y := by
 have hq := Int.mul_ediv_add_emod (t - b) y
 have r0 := Int.emod_nonneg (t - b) (by omega : y ≠ 0)
 have r1 := Int.emod_lt_of_pos (t - b) hy
 rw [Int.mul_comm] at hq
 omega
theorem ZSr {kvs : List (List Key × V)} {x z x' z' : Int} : has (ZHP kvs (kx x z)) x' z' = (!decide (x' = x ∧ z' = z) && has kvs x' z') := by
 unfold has
 rw [ZJj]
 by_cases e : kx x' z' = kx x z
 ·rw [if_pos e, decide_eq_true (ZLM e)]; rfl
 ·rw [if_neg e, decide_eq_false (fun h => e (by rw [h.1, h.2]))]; rfl
def hit (bad : List Int) (x z : Int) : Prop := ∃ t ∈ bad, x ≤ t ∧ t < z
def ZSs (a : Ad) : Sp := fun vs H Q _ => ∃ (S : SA) (v d : Addr) (b y m k n : Int) (kvs : List (List Key × V)) (e : Nat) (sm : PL) (c : Nat) (ds : List (Int × Option Int)) (ts : List Int) (ws : List V), vs = [.ref v] ∧ ZEb a H S n sm c ds ts ws ∧ ZE8 a H S v d b y m k kvs e sm ts ∧ ts.length ≤ 10000 ∧
 ∀ kvs' H', ZE8 a H' S v d b y m k kvs' ts.length sm ts → ZEb a H' S n sm c ds ts ws → (∀ x z, has kvs' x z = true ↔ has kvs x z = true ∧ ¬ hit (ts.drop e) x z) → kvs'.length ≤ kvs.length → FrL [v, d] H H' → Q .non H'
section
variable {P : Program} {w : World} {K : W.Frag} {mg : Str → Option Value} {base : Heap} {a : Ad}
local macro_rules | `(tactic| walk_at "rd") => `(tactic| first
 | with_reducible first | refine ZEz (by assumption) (‹Txt _ _ _›).ZF (‹Txt _ _ _›).YB ZJE ?_ | refine ZEz (by assumption) (‹Txt _ _ _›).ZF (‹Txt _ _ _›).ZP ZGH ?_ | refine ZEz (by assumption) (‹Txt _ _ _›).ZF (‹Txt _ _ _›).Zw ZIJ ?_ | refine ZEz (by assumption) (‹Txt _ _ _›).ZF (‹Txt _ _ _›).Zz ZJk ?_ | refine ZEz (by assumption) (‹Txt _ _ _›).ZF (‹Txt _ _ _›).Yn ZNj ?_ | refine ZQj ?_)
theorem ZGf : ZEV ["self", "times", "t", "k"] ["self"] (ZEP ZHZ) := ZEv
theorem ZIl (T : Txt K mg a) : ZEW P w K mg base CX0 3 a.Y4 a.Y1 ["self"] (ZSs a) := by
 refine T.ZB0.ok ZGf (by walk_at "l") (fun cdv A outer s H vs Q E hr h => ?_)
 ·obtain ⟨S, v, d, b, y, m, k, n, kvs, e, sm, c, ds, ts, ws, rfl, hS, hV, hlen, kk⟩ := h
  have hu := ZHN hr
  obtain ⟨dx, q, hv, hW, hd, hk, av, ad⟩ := id hV
  obtain ⟨sx, svs, sp, _⟩ := id hS
  have hy := hW.2.1
  have hy2 := ZGI hW
  have hvd := hV.ne
  refine ⟨_, QB.h (ZEN (qsS (i := 1) ZGf.nd (ZFp (ZE1 K rfl (qv 0)) T.Zp T.ZB2 (ZLo T) hr.m T.ZBz .nil ZFc)) (ZEN (ZGN PassesOwn.never rfl (ZMx K rfl (ZMu (ZUR K rfl) (qv 1) (ZLW (ZE1 K rfl (qv 0))) ZUH)) (qgN (i := 2) ZGf.nd) (ZEN (qsS (i := 3) ZGf.nd (qcS (ZNh T) hr.m T.ZCR T.ZAx.kp T.ZCV (ZEK (ZE1 K rfl (qv 0)) (ZEK (qv 2) ZEL)))) (ZEO (ZEm (ZEX (ZLU) (qv 3) ZFl (ZEc _)) (ZEO (ZEu (ZSX hu (ZE1 K rfl (qv 0)) (qcS (ZKE T) hr T.ZBY T.J5.kp T.ZBa (ZEK (ZE1 K rfl (qv 0)) (ZEK (qv 3) ZEL))) ZFl))) ZEl)))) (ZEO (ZFy K rfl (qv 0) (ZEe (ZIh K rfl) rfl T.JR ZId (ZEK (qv 1) ZEL)))))), ?_⟩
  walk_at "s"
  walk_at "w"
  refine ZEt sp ZQu ?_
  refine ⟨S, n, sm, c, ds, ts, ws, rfl, hS, fun u H1 f1 S1 => ?_⟩
  have hv1 := S1 _ _ hv
  walk_at "w"
  refine ZWR f1 fun u2 H2 f2 S2 => ?_
  rw [ZSq, ← List.map_drop] at f2
  have S02 := S1.trans S2
  have hv2 := S02 _ _ hv
  have f12 := S2 _ _ f1
  have hW2 : ZFz H2 q b y m := ⟨S02 _ _ hW.1, hW.2⟩
  have ntd : ∀ {e : Addr} {xs : List V}, H2 e = some (.tup xs) → e ≠ d := fun g z => by rw [z, S02 _ _ hd] at g; cases g
  walk_at "w"
  refine ZLV (xs := (ts.drop e).map V.int) (fun i σ H' => (∃ v2 v3, σ = [some (.ref v), some (.ref u), v2, v3]) ∧ Kp d H2 H' ∧ ∃ kvs', H' d = some (.dT kvs') ∧ kvs'.length ≤ kvs.length ∧ (∀ x z w, ZEp kvs' (kx x z) = some w → ZEp kvs (kx x z) = some w) ∧ ∀ x z, has kvs' x z = true ↔ has kvs x z = true ∧ ¬ hit ((ts.drop e).take i) x z) ?_ ?_ ?_ ?_
  ·exact ⟨⟨_, _, rfl⟩, fun _ _ e _ => e, kvs, S02 _ _ hd, Nat.le_refl _, fun _ _ _ h => h, fun x z => ⟨fun h => ⟨h, fun ⟨t, ht, _⟩ => by rw [List.take_zero] at ht; cases ht⟩, fun h => h.1⟩⟩
  ·rintro i σ H3 _ ⟨_, K3, _⟩
   exact SqT.of (K3 _ _ f2 (ntd f2))
  ·rintro i x σ H3 hx ⟨⟨v2, v3, rfl⟩, K3, kvs', f3, hl3, hs3, hh3⟩
   rw [List.getElem?_map] at hx
   obtain ⟨t, ht, rfl⟩ := Option.map_eq_some_iff.mp hx
   have hv3 := K3 _ _ hv2 hvd
   have hW3 := K3 _ _ hW2.1 (ntd hW2.1)
   have htk : ∀ x z, hit ((ts.drop e).take (i + 1)) x z ↔ hit ((ts.drop e).take i) x z ∨ (x ≤ t ∧ t < z) := fun x z => by
    unfold hit
    rw [List.take_succ, ht]
    constructor
    ·rintro ⟨t', h1, h2⟩
     rcases List.mem_append.mp h1 with h1 | h1
     ·exact .inl ⟨t', h1, h2⟩
     ·obtain rfl : t' = t := by simpa using h1
      exact .inr h2
    ·rintro (⟨t', h1, h2⟩ | h)
     ·exact ⟨t', List.mem_append_left _ h1, h2⟩
     ·exact ⟨t, List.mem_append_right _ (by simp), h⟩
   walk_at "w"
   refine ⟨q, b, y, m, t, rfl, hW3, hy, by omega, ?_⟩
   walk_at "w"
   unfold ZNg
   by_cases hc : 0 ≤ (t - b) / y ∧ (t - b) / y < m
   ·rw [if_pos hc]
    walk_at "w"
    refine ZMV (fun _ => ?_) (fun h => by cases h)
    walk_at "w"
    refine ZQk f3 ?_
    walk_at "w"
    refine ⟨q, b, y, m, _, rfl, hW3, hc.1, hc.2, by have := hW.2.2.2.1; omega, fun u4 H4 n4 f4 S4 => ?_⟩
    walk_at "w"
    refine ZSY (k := kx (b + (t - b) / y * y) (b + (t - b) / y * y + y)) (S4 _ _ f3) f4 fun w5 H5 f5 K5 => ?_
    walk_at "w"
    refine ⟨⟨_, _, rfl⟩, (K3.then S4).trans K5, _, f5, Nat.le_trans (List.length_filter_le _ _) hl3, fun x z w h => ?_, fun x z => ?_⟩
    ·rw [ZJj] at h
     split at h
     ·cases h
     ·exact hs3 _ _ _ h
    ·rw [ZSr, htk, Bool.and_eq_true, hh3]
     have hin := ZWd (b := b) (t := t) hy
     constructor
     ·rintro ⟨h1, h2, h3⟩
      refine ⟨h2, fun h => ?_⟩
      rcases h with h | h
      ·exact h3 h
      ·obtain ⟨w, hw⟩ := Option.isSome_iff_exists.mp h2
       obtain ⟨_, _, e1, e2⟩ := col_of hy (hk _ _ _ hw).1 h.1 h.2
       rw [decide_eq_true ⟨e1, e2⟩] at h1
       cases h1
     ·rintro ⟨h1, h2⟩
      refine ⟨?_, h1, fun h => h2 (.inl h)⟩
      rw [decide_eq_false (fun h => h2 (.inr (by rw [h.1, h.2]; exact hin)))]
      rfl
   ·rw [if_neg hc]
    walk_at "w"
    refine ZMV (fun h => absurd rfl h) (fun _ => ?_)
    walk_at "w"
    refine ⟨⟨_, _, rfl⟩, K3, _, f3, hl3, hs3, fun x z => ?_⟩
    rw [htk, hh3]
    refine and_congr_right fun h1 => not_congr ⟨.inl, fun h => ?_⟩
    rcases h with h | h
    ·exact h
    ·obtain ⟨w, hw⟩ := Option.isSome_iff_exists.mp h1
     obtain ⟨e1, e2, _⟩ := col_of hy (hk _ _ _ hw).1 h.1 h.2
     exact absurd ⟨e1, e2⟩ hc
  ·rintro σ H3 ⟨⟨v2, v3, rfl⟩, K3, kvs', f3, hl3, hs3, hh3⟩
   rw [List.length_map, List.take_length] at hh3
   have hv3 := K3 _ _ hv2 hvd
   have f13 := K3 _ _ f12 (ntd f12)
   walk_at "w"
   refine ZFj hv3 T.ZF T.Yn (by show 5 < 1000; decide) fun H4 f4 K4 => ?_
   rw [ZSp, List.length_map] at f4
   have F02 : FrL [v, d] H H4 := ((FrL.same S02).trans (FrL.kp K3 (by simp))).trans (FrL.kp K4 (by simp))
   have kt : ∀ b xs, H b = some (.tup xs) → H4 b = some (.tup xs) := fun b xs e => F02 _ _ e fun z => hV.noTup b z xs e
   have hF : ∀ x z u, ZEp kvs' (kx x z) = some u → Col b y m x z ∧ ZH1 H sm x z u := fun x z u h => by
    obtain ⟨h1, h2⟩ := hk _ _ _ (hs3 _ _ _ h)
    refine ⟨h1, h2.resolve_left fun hh => ?_⟩
    exact ((hh3 x z).mp (ZH2 h)).2 hh
   walk_at "w"
   refine kk kvs' H4 ⟨dx, q, f4, ⟨kt _ _ hW.1, hW.2⟩, K4 _ _ f3 (Ne.symm hvd), fun x z u h => ⟨(hF x z u h).1, .inr ((hF x z u h).2.tups kt)⟩, av, ad⟩ (hS.frL F02 (fun b hb => ?_) hV.noTup) hh3 hl3 F02
   simp only [List.mem_cons, List.not_mem_nil, or_false] at hb
   rcases hb with rfl | rfl
   ·exact av
   ·exact ad
end
def ZGE (kvs : List (List Key × V)) (b y : Int) (N : Nat) : Nat := ((ZHQ b y N).filter fun p => !has kvs p.1 p.2).length
theorem ZL6 (kvs : List (List Key × V)) (b y : Int) (i : Nat) : ZGE kvs b y (i + 1) = ZGE kvs b y i + if has kvs (b + (i : Int) * y) (b + (i : Int) * y + y) = true then 0 else 1 := by
 unfold ZGE
 rw [ZLI, List.filter_append, List.length_append]
 congr 1
 cases hh : has kvs (b + (i : Int) * y) (b + (i : Int) * y + y) with
 | true => rw [List.filter_cons_of_neg (by simp [hh])]; rfl
 | false => rw [List.filter_cons_of_pos (by simp [hh])]; rfl
def ZSt (a : Ad) : Sp := fun vs H Q _ => ∃ (S : SA) (v d : Addr) (b y m k n : Int) (kvs : List (List Key × V)) (e : Nat) (sm : PL) (c : Nat) (ds : List (Int × Option Int)) (ts : List Int) (ws : List V), vs = [.ref v] ∧ ZEb a H S n sm c ds ts ws ∧ ZE8 a H S v d b y m k kvs e sm ts ∧ ts.length ≤ 10000 ∧ kvs.length ≤ 100000 ∧
 ∀ (u : Addr) (us : List V) (fs : List (Option (PL))) (kvs1 kvs' : List (List Key × V)) (n' : Int) (H' : Hp), H' u = some (.tup us) → ZFE H' us fs → ZHU sm b y m.toNat fs → (∀ x z, has kvs1 x z = true ↔ has kvs x z = true ∧ ¬ hit (ts.drop e) x z) →
  ZE8 a H' S v d b y m (k + (ZGE kvs1 b y m.toNat : Int)) kvs' ts.length sm ts → ZEb a H' S n' sm c ds ts ws → (∀ x z, Col b y m x z → has kvs' x z = true) → kvs'.length ≤ kvs.length + m.toNat → FrL [v, d, S.tr] H H' → Q (.ref u) H'
section
variable {P : Program} {w : World} {K : W.Frag} {mg : Str → Option Value} {base : Heap} {a : Ad}
local macro_rules | `(tactic| walk_at "rd") => `(tactic| first
 | with_reducible first | refine ZEz (by assumption) (‹Txt _ _ _›).ZF (‹Txt _ _ _›).YB ZJE ?_ | refine ZEz (by assumption) (‹Txt _ _ _›).ZF (‹Txt _ _ _›).ZP ZGH ?_ | refine ZEz (by assumption) (‹Txt _ _ _›).ZF (‹Txt _ _ _›).Zw ZIJ ?_ | refine ZEz (by assumption) (‹Txt _ _ _›).ZF (‹Txt _ _ _›).Zz ZJk ?_ | refine ZEz (by assumption) (‹Txt _ _ _›).ZF (‹Txt _ _ _›).Yn ZNj ?_)
theorem ZGm : ZEV ["self", "columns", "first", "behind"] ["self"] (ZEP ZG3) := ZEv
theorem ZHd (T : Txt K mg a) : ZEW P w K mg base CX0 7 a.JJ a.JB ["self"] (ZSt a) := by
 refine T.ZCJ.ok ZGm (by walk_at "l") (fun cdv A outer s H vs Q E hr h => ?_)
 ·obtain ⟨S, v, d, b, y, m, k, n, kvs, e, sm, c, ds, ts, ws, rfl, hS, hV, hlen, hkl, kk⟩ := h
  have hu := ZHN hr
  obtain ⟨dx, q, hv, hW, hd, hk, av, ad⟩ := id hV
  have hvd := hV.ne
  have tro : S.tr ∈ S.p :: S.own := by simp [SA.own]
  have hvt : v ≠ S.tr := fun z => av (z ▸ tro)
  have hdt : d ≠ S.tr := fun z => ad (z ▸ tro)
  have apart : ∀ b ∈ [v, d], b ∉ S.p :: S.own := fun b hb => by
   simp only [List.mem_cons, List.not_mem_nil, or_false] at hb
   rcases hb with rfl | rfl
   ·exact av
   ·exact ad
  refine ⟨_, QB.h (ZEN (ZEu (ZFp (qv 0) T.ZF T.ZAN (ZIl T) hr.m T.ZAI .nil ZFc)) (ZEN (qsS (i := 1) ZGm.nd (qcS (ZHc T) hr.m T.JP T.YR.kp T.JD (ZEK (ZE1 K rfl (qv 0)) ZEL))) (ZEN (ZGN PassesOwn.never rfl (ZGR K rfl (qv 1)) (ZFU (n := 2) K rfl rfl (ZET (qgN (i := 2) ZGm.nd) (ZET (qgN (i := 3) ZGm.nd) ZFD))) (ZEO (ZEm (ZEX (ZPK hu) (ZEk (ZEK (qv 2) (ZEK (qv 3) ZEL))) (ZE1 K rfl (qv 0)) (by with_unfolding_all rfl)) (ZEN (ZHF hu (ZFO (ZE1 K rfl (qv 0)) T.Zp T.ZCE (ZMQ T) hr T.ZB4 .nil ZFc (ZEK (qv 2) (ZEK (qv 3) ZEL))) (ZE1 K rfl (qv 0)) (ZEk (ZEK (qv 2) (ZEK (qv 3) ZEL)))) (ZEO (ZL1 K rfl (qv 0) ZEM))) ZEl))) (ZEO (ZEZ (ZGc (ZHD K rfl) rfl T.YF ZG9 (ZEK (ZGt (N := ["self", "columns", "first", "behind"]) (sc := ZEP ZG3) (own := ["times"]) (caps := ["self"]) (ks := [0]) rfl rfl rfl ⟨rfl, by decide +kernel, by decide +kernel, by decide +kernel, by decide +kernel, rfl, by decide +kernel⟩ (ZGR K rfl (qv 1)) (fun _ _ _ _ _ => ZF0 (i := 0) (show List.Nodup (α := Str) ["times", "self"] from by decide +kernel) rfl (by walk_at "o") (.inr rfl)) (fun _ _ _ _ _ => ZHC) (fun _ _ _ _ _ => ZHo hu (ZE1 K rfl (qv 1)) (qv 0))) ZEL))))))), ?_⟩
  walk_at "s"
  walk_at "w"
  refine ZEt hv ZFV ?_
  refine ⟨S, v, d, b, y, m, k, n, kvs, e, sm, c, ds, ts, ws, rfl, hS, hV, hlen, fun kvs1 H1 hV1 hS1 hh1 hl1 F1 => ?_⟩
  obtain ⟨dx1, q1, hv1, hW1, hd1, hk1, _⟩ := id hV1
  obtain ⟨hq1, hy, hm1, hm2, hb, he⟩ := id hW1
  walk_at "w"
  refine ⟨q1, b, y, m, rfl, hq1, hm1, by omega, fun l us0 H2 n2 f2 hP2 S2 => ?_⟩
  have hul : us0.length = m.toNat := by rw [hP2.length, ZHV]
  have lne : l ∉ [v, d, S.tr] := fun z => by
   simp only [List.mem_cons, List.not_mem_nil, or_false] at z
   obtain ⟨o, ho⟩ := hS1.live _ tro
   rcases z with rfl | rfl | rfl
   ·rw [hv1] at n2; cases n2
   ·rw [hd1] at n2; cases n2
   ·rw [ho] at n2; cases n2
  have hV2 := hV1.same S2
  have hS2 := hS1.same S2
  have nt2 : ∀ b ∈ [v, d, S.tr], ∀ xs, H2 b ≠ some (.tup xs) := fun b hb xs => by
   simp only [List.mem_cons, List.not_mem_nil, or_false] at hb
   rcases hb with rfl | rfl | rfl
   ·exact hV2.noTup _ (by simp) xs
   ·exact hV2.noTup _ (by simp) xs
   ·exact hS2.noTup _ (by simp [SA.own]) xs
  walk_at "w"
  refine ZIf (xs := us0) (fun i σ H' => (∃ v2 v3, σ = [some (.ref v), some (.ref l), v2, v3]) ∧ FrL [v, d, S.tr] H2 H' ∧ ∃ kvs' n', ZE8 a H' S v d b y m (k + (ZGE kvs1 b y i : Int)) kvs' ts.length sm ts ∧ ZEb a H' S n' sm c ds ts ws ∧ kvs'.length ≤ kvs1.length + i ∧
   ∀ x z, has kvs' x z = true ↔ has kvs1 x z = true ∨ ∃ j : Nat, j < i ∧ x = b + (j : Int) * y ∧ z = b + (j : Int) * y + y) ?_ ?_ ?_ ?_
  ·refine ⟨⟨_, _, rfl⟩, fun _ _ e _ => e, kvs1, n, ?_, hS2, Nat.le_refl _, fun x z => ⟨.inl, fun h => h.resolve_right fun ⟨j, hj, _⟩ => by omega⟩⟩
   rw [show ZGE kvs1 b y 0 = 0 from rfl]
   simpa using hV2
  ·rintro i σ H3 _ ⟨_, F3, _⟩
   exact SqL.of (F3 _ _ f2 lne)
  ·rintro i x σ H3 hx ⟨⟨v2, v3, rfl⟩, F3, kvs', n3, hV3, hS3, hl3, hh3⟩
   obtain ⟨cc, pq, rfl, hpq, hc⟩ := hP2.at hx
   have hil : i < m.toNat := by rw [← hul]; exact (List.getElem?_eq_some_iff.mp hx).1
   obtain rfl := ZJC hpq
   have hc3 := F3 _ _ hc fun z => nt2 _ z _ hc
   obtain ⟨w1, w2⟩ := hW1.col (k := (i : Int)) (by omega) (by omega)
   obtain ⟨dx3, q3, hv3, hW3, hd3, hk3, _⟩ := id hV3
   have hms := ZL6 kvs1 b y i
   have hnj : ∀ j : Nat, j < i → ¬ (b + (i : Int) * y = b + (j : Int) * y ∧ b + (i : Int) * y + y = b + (j : Int) * y + y) := fun j hj z => by
    have h1 : (i : Int) * y = (j : Int) * y := by omega
    have := Int.eq_of_mul_eq_mul_right (by omega) h1
    omega
   have hcol : Col b y m (b + (i : Int) * y) (b + (i : Int) * y + y) := ⟨i, by omega, by omega, rfl, rfl⟩
   have hsucc : ∀ x z, (∃ j : Nat, j < i + 1 ∧ x = b + (j : Int) * y ∧ z = b + (j : Int) * y + y) ↔ (∃ j : Nat, j < i ∧ x = b + (j : Int) * y ∧ z = b + (j : Int) * y + y) ∨ (x = b + (i : Int) * y ∧ z = b + (i : Int) * y + y) := fun x z => by
    constructor
    ·rintro ⟨j, hj, e1, e2⟩
     by_cases ej : j = i
     ·subst ej; exact .inr ⟨e1, e2⟩
     ·exact .inl ⟨j, by omega, e1, e2⟩
    ·rintro (⟨j, hj, e⟩ | e)
     ·exact ⟨j, by omega, e⟩
     ·exact ⟨i, by omega, e⟩
   generalize b + (i : Int) * y = X at *
   have g2 : (2 : Nat) ≤ sizeLine := by decide
   walk_at "w"
   refine ZES g2 fun u4 H4 n4 f4 S4 => ?_
   have hv4 := S4 _ _ hv3
   have hd4 := S4 _ _ hd3
   walk_at "w"
   refine ZPO (k := kx X (X + y)) hd4 f4 ?_
   cases hkx : ZEp kvs' (kx X (X + y)) with
   | some w =>
    walk_at "w"
    refine ZE9 ?_
    walk_at "w"
    have hh : has kvs1 X (X + y) = true := ((hh3 _ _).mp (ZH2 hkx)).resolve_right fun ⟨j, hj, e⟩ => hnj j hj e
    rw [if_pos hh] at hms
    refine ⟨⟨_, _, rfl⟩, F3.trans (FrL.same S4), kvs', n3, ?_, hS3.same S4, by omega, fun x z => ?_⟩
    ·rw [hms]; exact hV3.same S4
    ·rw [hh3, hsucc]
     constructor
     ·rintro (h | h)
      ·exact .inl h
      ·exact .inr (.inl h)
     ·rintro (h | h | ⟨rfl, rfl⟩)
      ·exact .inl h
      ·exact .inr h
      ·exact .inl hh
   | none =>
    obtain ⟨sx, svs, sp, _⟩ := id (hS3.same S4)
    walk_at "w"
    refine ZFY ?_
    walk_at "w"
    refine ZEt sp ZQu ?_
    walk_at "w"
    refine ⟨S, n3, _, _, sm, c, ds, ts, ws, rfl, hS3.same S4, w1, w2, fun v5 o5 n5 H5 h5 g5 hS5 K5 => ?_⟩
    have hv5 := K5 _ _ hv4 hvt
    have hd5 := K5 _ _ hd4 hdt
    walk_at "w"
    refine ZES g2 fun u6 H6 n6 f6 S6 => ?_
    have hd6 := S6 _ _ hd5
    have hv6 := S6 _ _ hv5
    walk_at "w"
    refine ZHu (k := kx X (X + y)) hd6 f6 (by show _ < 2 ^ 24; omega) fun H7 f7 K7 => ?_
    have hv7 := K7 _ _ hv6 hvd
    walk_at "w"
    refine ZK9 hv7 T.ZF T.Zw ZIJ ?_
    walk_at "w"
    refine ⟨_, _, rfl, rfl, dx3, _, hv7, by show 5 < 1000; decide, ?_⟩
    rw [ZSn]
    have hh : ¬ has kvs1 X (X + y) = true := fun h => by
     have := (hh3 X (X + y)).mpr (.inl h)
     rw [ZH3 hkx] at this; cases this
    rw [if_neg hh] at hms
    have f8 : (upd H7 v (.ins a.ZJ dx3 (vfl S.p q3 d (k + (ZGE kvs1 b y i : Int) + 1) (ts.length : Int)))) v = some (.ins a.ZJ dx3 (vfl S.p q3 d (k + (ZGE kvs1 b y i : Int) + 1) (ts.length : Int))) := ZEa
    have K8 : Kp v H7 (upd H7 v (.ins a.ZJ dx3 (vfl S.p q3 d (k + (ZGE kvs1 b y i : Int) + 1) (ts.length : Int)))) := Kp.upd
    generalize upd H7 v (.ins a.ZJ dx3 (vfl S.p q3 d (k + (ZGE kvs1 b y i : Int) + 1) (ts.length : Int))) = H8 at f8 K8 ⊢
    have F68 : FrL [v, d] H6 H8 := (FrL.kp K7 (by simp)).trans (FrL.kp K8 (by simp))
    have F38 : FrL [v, d, S.tr] H3 H8 := (((FrL.same S4).trans (FrL.kp K5 (by simp))).trans (FrL.same S6)).trans (F68.mono fun b hb => by simp only [List.mem_cons, List.not_mem_nil, or_false] at hb ⊢; rcases hb with h | h <;> simp [h])
    have nt6 : ∀ b ∈ [v, d], ∀ xs, H6 b ≠ some (.tup xs) := fun b hb xs z => by
     simp only [List.mem_cons, List.not_mem_nil, or_false] at hb
     rcases hb with rfl | rfl
     ·rw [hv6] at z; cases z
     ·rw [hd6] at z; cases z
    have kt6 : ∀ b xs, H6 b = some (.tup xs) → H8 b = some (.tup xs) := fun b xs e => F68 _ _ e fun z => nt6 b z xs e
    have kt3 : ∀ b xs, H3 b = some (.tup xs) → H8 b = some (.tup xs) := fun b xs e => kt6 _ _ (S6 _ _ (K5 _ _ (S4 _ _ e) fun z => hS3.noTup b (by rw [z]; simp [SA.own]) xs e))
    have ek : (k + (ZGE kvs1 b y (i + 1) : Int)) = k + (ZGE kvs1 b y i : Int) + 1 := by omega
    walk_at "w"
    refine ⟨⟨_, _, rfl⟩, F3.trans F38, _, n5, ⟨dx3, q3, by rw [ek]; exact f8, ⟨kt3 _ _ hW3.1, hW3.2⟩, K8 _ _ f7 (Ne.symm hvd), fun x z u h => ?_, av, ad⟩, (hS5.same S6).frL F68 apart nt6, ?_, fun x z => ?_⟩
    ·rw [ZHE] at h
     split at h
     ·rename_i e
      obtain ⟨rfl, rfl⟩ := ZLM e
      cases h
      exact ⟨hcol, .inr ⟨o5, (h5.tups fun b xs e => S6 _ _ e).tups kt6, g5⟩⟩
     ·exact ⟨(hk3 _ _ _ h).1, (hk3 _ _ _ h).2.imp id fun g => g.tups kt3⟩
    ·have := ZGS kvs' (kx X (X + y)) v5
     omega
    ·rw [ZOZ, Bool.or_eq_true, decide_eq_true_iff, hh3, hsucc]
     constructor
     ·rintro (h | h | h)
      ·exact .inr (.inr h)
      ·exact .inl h
      ·exact .inr (.inl h)
     ·rintro (h | h | h)
      ·exact .inr (.inl h)
      ·exact .inr (.inr h)
      ·exact .inl h
  ·rintro σ H3 ⟨⟨v2, v3, rfl⟩, F3, kvs', n3, hV3, hS3, hl3, hh3⟩
   rw [hul] at hV3 hl3 hh3
   have hall : ∀ x z, Col b y m x z → has kvs' x z = true := fun x z h => by
    obtain ⟨j, h0, h1, e1, e2⟩ := h
    exact (hh3 x z).mpr (.inr ⟨j.toNat, by omega, by rw [Int.toNat_of_nonneg h0]; exact e1, by rw [Int.toNat_of_nonneg h0]; exact e2⟩)
   have f23 := F3 _ _ f2 lne
   obtain ⟨dx3, q3, hv3, hW3, hd3, hk3, _⟩ := id hV3
   rw [List.drop_length] at hk3
   walk_at "w"
   intro l2 n4
   refine ZGr m.toNat (fun i σ' H' => (∃ o1, σ' = [o1, some (.ref v)]) ∧ ZEU H3 H' ∧ ∃ vs fs, H' l2 = some (.lst vs) ∧ ZFE H' vs fs ∧ fs.length = i ∧ ∀ (k : Nat) o, fs[k]? = some o → Is4 (ZFF sm (b + (k : Int) * y) (b + (k : Int) * y + y)) o) ?_ ?_ ?_
   ·exact ⟨⟨none, rfl⟩, ZEU.new n4, [], [], ZEa, .nil, rfl, fun k o h => by simp at h⟩
   ·rintro σ' H5 ⟨_, S5, vs, fs, f5, hF5, hfl, hO5⟩
    refine ⟨⟨_, SqL.of (S5 _ _ f23), by rw [hul]; exact Nat.le_refl _⟩, ?_⟩
    walk_at "w"
    refine ZHm (SqL.of f5) fun u H6 n6 f6 S6 => ?_
    have S36 := S5.trans S6
    refine kk u vs fs kvs1 kvs' n3 H6 f6 (hF5.same S6) ⟨hfl, hO5⟩ hh1 (hV3.same S36) (hS3.same S36) hall (by omega) ?_
    exact (((F1.mono fun b hb => by simp only [List.mem_cons, List.not_mem_nil, or_false] at hb ⊢; rcases hb with h | h <;> simp [h]).trans (FrL.same S2)).trans F3).trans (FrL.same S36)
   ·rintro i σ' H5 hi ⟨⟨o1, rfl⟩, S5, vs, fs, f5, hF5, hfl, hO5⟩
    have hi2 : i < us0.length := by rw [hul]; exact hi
    have f25 := S5 _ _ f23
    refine ⟨⟨_, _, SqL.of f25, List.getElem?_eq_getElem hi2⟩, ?_⟩
    rintro x H'' ⟨rfl, hx⟩
    have hx := hx _ (SqL.of f25)
    obtain ⟨u, pr, rfl, hpr, f6⟩ := hP2.at hx
    have hpr := ZJC hpr
    subst hpr
    have f65 := S5 _ _ (F3 _ _ f6 fun z => nt2 _ z _ f6)
    have hv5 := S5 _ _ hv3
    have hd5 := S5 _ _ hd3
    have hcol : Col b y m (b + (i : Int) * y) (b + (i : Int) * y + y) := ⟨i, by omega, by omega, rfl, rfl⟩
    obtain ⟨w, hw⟩ := Option.isSome_iff_exists.mp (hall _ _ hcol)
    obtain ⟨o6, g6, i6⟩ := ((hk3 _ _ _ hw).2.resolve_left fun ⟨t, ht, _⟩ => by cases ht).tups (H' := H'') fun b xs e => S5 _ _ e
    walk_at "w"
    refine ZFY ?_
    walk_at "w"
    refine ⟨d, w, rfl, by rw [← hw]; exact ZFx.t (k := kx (b + (i : Int) * y) (b + (i : Int) * y + y)) hd5 f65, ?_⟩
    refine ⟨vs, f5, ?_, ⟨_, rfl⟩, S5.kpN n4 Kp.upd, vs ++ [w], fs ++ [o6], ZEa, (hF5.snoc g6).mapP fun _ _ d => d.kpL Kp.upd f5, by simp [hfl], ?_⟩
    ·rw [hF5.len, hfl]
     exact Nat.lt_of_lt_of_le (show i < 100 by omega) (by decide)
    ·intro k' o' h'
     rw [List.getElem?_append] at h'
     split at h'
     ·exact hO5 k' o' h'
     ·have : k' = i := by
       have := (List.getElem?_eq_some_iff.mp h').1
       simp at this
       omega
      subst this
      rw [hfl, Nat.sub_self] at h'
      have : o6 = o' := by simpa using h'
      subst this
      exact i6
end
def ZIa (b y m : Int) : Prop := 0 < y ∧ 1 ≤ m ∧ m ≤ 100 ∧ InT b ∧ InT (b + m * y)
def ZUz (a : Ad) : Sp := fun vs H Q _ => ∃ (S : SA) (p dx q : Addr) (b y m n : Int) (sm : PL) (c : Nat) (ds : List (Int × Option Int)) (ts : List Int) (ws : List V), vs = [.ref p, .ref S.p, .ref q] ∧ H p = some (.ins a.ZJ dx []) ∧ ZEb a H S n sm c ds ts ws ∧ ZFz H q b y m ∧ p ∉ S.p :: S.own ∧
 ∀ d H', H d = none → ZE8 a H' S p d b y m 0 [] 0 sm ts → ZEb a H' S n sm c ds ts ws → Kp p H H' → Q .non H'
def ZHS (a : Ad) (H : Hp) (S : SA) (v d : Addr) (k n : Int) (kvs : List (List Key × V)) (e : Nat) (sm : PL) (c : Nat) (ds : List (Int × Option Int)) (ts : List Int) (ws : List V) (b' y' m' : Int) (Q : VK) : Prop :=
 ∀ (d' : Addr) (kvs1 kvs' : List (List Key × V)) (H' : Hp), H d' = none → (∀ x z, has kvs1 x z = true ↔ has kvs x z = true ∧ ¬ hit (ts.drop e) x z) → (∀ x z, Col b' y' m' x z → (has kvs' x z = true ↔ Kin kvs1 x z)) → kvs'.length ≤ m'.toNat →
  ZE8 a H' S v d' b' y' m' k kvs' ts.length sm ts → ZEb a H' S n sm c ds ts ws → FrL [v, d] H H' → Q .non H'
theorem ZHS.at {a : Ad} {H H1 : Hp} {S : SA} {v d : Addr} {k n : Int} {kvs : List (List Key × V)} {e : Nat} {sm : PL} {c : Nat} {ds : List (Int × Option Int)} {ts : List Int} {ws : List V} {b' y' m' : Int} {Q : VK} (h : ZHS a H S v d k n kvs e sm c ds ts ws b' y' m' Q) (s : ZEU H H1) : ZHS a H1 S v d k n kvs e sm c ds ts ws b' y' m' Q :=
 fun d' kvs1 kvs' H' n' h1 h2 h3 h4 h5 f => h d' kvs1 kvs' H' (ZUZ s n') h1 h2 h3 h4 h5 ((FrL.same s).trans f)
def ZSu (a : Ad) : Sp := fun vs H Q _ => ∃ (S : SA) (v d q : Addr) (b y m k n b' y' m' : Int) (kvs : List (List Key × V)) (e : Nat) (sm : PL) (c : Nat) (ds : List (Int × Option Int)) (ts : List Int) (ws : List V), vs = [.ref v, .ref q] ∧ ZEb a H S n sm c ds ts ws ∧ ZE8 a H S v d b y m k kvs e sm ts ∧ ts.length ≤ 10000 ∧ ZFz H q b' y' m' ∧
 ZHS a H S v d k n kvs e sm c ds ts ws b' y' m' Q
def ZW6 (a : Ad) : Sp := fun vs H Q _ => ∃ (S : SA) (v d : Addr) (b y m k n j : Int) (kvs : List (List Key × V)) (e : Nat) (sm : PL) (c : Nat) (ds : List (Int × Option Int)) (ts : List Int) (ws : List V), vs = [.ref v, .int j] ∧ ZEb a H S n sm c ds ts ws ∧ ZE8 a H S v d b y m k kvs e sm ts ∧ ts.length ≤ 10000 ∧ IntMulOk j y ∧ ZIa (b + j * y) y m ∧
 ZHS a H S v d k n kvs e sm c ds ts ws (b + j * y) y m Q
def ZU0 (a : Ad) : Sp := fun vs H Q _ => ∃ (S : SA) (v d : Addr) (b y m k n : Int) (kvs : List (List Key × V)) (e : Nat) (sm : PL) (c : Nat) (ds : List (Int × Option Int)) (ts : List Int) (ws : List V), vs = [.ref v] ∧ ZEb a H S n sm c ds ts ws ∧ ZE8 a H S v d b y m k kvs e sm ts ∧ ts.length ≤ 10000 ∧ ZIa b (y * 2) m ∧
 ZHS a H S v d k n kvs e sm c ds ts ws b (y * 2) m Q
def ZQx (a : Ad) : Sp := fun vs H Q _ => ∃ (S : SA) (v d : Addr) (b y m k n : Int) (kvs : List (List Key × V)) (e : Nat) (sm : PL) (c : Nat) (ds : List (Int × Option Int)) (ts : List Int) (ws : List V), vs = [.ref v] ∧ ZEb a H S n sm c ds ts ws ∧ ZE8 a H S v d b y m k kvs e sm ts ∧ ts.length ≤ 10000 ∧ y % 2 = 0 ∧ ZIa b (y / 2) m ∧
 ZHS a H S v d k n kvs e sm c ds ts ws b (y / 2) m Q
def ZU1 (a : Ad) : Sp := fun vs H Q _ => ∃ (S : SA) (v d : Addr) (b y m k n j : Int) (kvs : List (List Key × V)) (e : Nat) (sm : PL) (c : Nat) (ds : List (Int × Option Int)) (ts : List Int) (ws : List V), vs = [.ref v, .int j] ∧ ZEb a H S n sm c ds ts ws ∧ ZE8 a H S v d b y m k kvs e sm ts ∧ ts.length ≤ 10000 ∧ ZIa b y j ∧
 ZHS a H S v d k n kvs e sm c ds ts ws b y j Q
section
variable {P : Program} {w : World} {K : W.Frag} {mg : Str → Option Value} {base : Heap} {a : Ad}
local macro_rules | `(tactic| walk_at "rd") => `(tactic| first
 | with_reducible first | refine ZEz (by assumption) (‹Txt _ _ _›).ZF (‹Txt _ _ _›).YB ZJE ?_ | refine ZEz (by assumption) (‹Txt _ _ _›).ZF (‹Txt _ _ _›).ZP ZGH ?_ | refine ZEz (by assumption) (‹Txt _ _ _›).ZF (‹Txt _ _ _›).Zz ZJk ?_)
theorem ZH5 : ZEV ["self", "store", "window"] ["self", "store", "window"] (ZEP ZG2) := ZEv
theorem ZKi (T : Txt K mg a) : ZEW P w K mg base CX0 5 a.Zt a.Zr ["self", "store", "window"] (ZUz a) := by
 refine T.JU.ok ZH5 (by walk_at "l") (fun cdv A outer s H vs Q E hr h => ?_)
 ·obtain ⟨S, p, dx, q, b, y, m, n, sm, c, ds, ts, ws, rfl, hp, hS, hW, ap, kk⟩ := h
  obtain ⟨hq, hy, hm1, hm2, hb, he⟩ := id hW
  refine ⟨_, QB.h (ZEN (ZEu (qcS (ZG7 T) hr T.Ze T.ZV.kp T.Zf (ZEK (qv 2) ZEL))) (ZEN (ZFy K rfl (qv 0) (qv 1)) (ZEN (ZFy K rfl (qv 0) (qv 2)) (ZEN (ZFy K rfl (qv 0) ZEM) (ZEN (ZFy K rfl (qv 0) ZKS) (ZEO (ZFy K rfl (qv 0) ZEM))))))), ?_⟩
  walk_at "s"
  walk_at "w"
  refine ⟨q, b, y, m, rfl, hq, by omega, by omega, hb, he, ?_⟩
  walk_at "w"
  refine ZFj hp T.ZF T.YB (by show 0 < 1000; decide) fun H1 f1 K1 => ?_
  walk_at "w"
  refine ZFj f1 T.ZF T.ZP (by show 1 < 1000; decide) fun H2 f2 K2 => ?_
  walk_at "w"
  refine ZFj f2 T.ZF T.Zw (by show 2 < 1000; decide) fun H3 f3 K3 => ?_
  walk_at "w"
  refine ZKT fun d H4 n4 f4 S4 => ?_
  have nd : d ≠ p := fun z => by rw [z, f3] at n4; cases n4
  walk_at "w"
  refine ZFj (S4 _ _ f3) T.ZF T.Zz (by show 3 < 1000; decide) fun H5 f5 K5 => ?_
  walk_at "w"
  refine ZFj f5 T.ZF T.Yn (by show 4 < 1000; decide) fun H6 f6 K6 => ?_
  rw [ZUy] at f6
  have K03 : Kp p H H3 := (K1.trans K2).trans K3
  have K06 : Kp p H H6 := ((K03.then S4).trans K5).trans K6
  have n0 : H d = none := by
   cases e : H d with
   | none => rfl
   | some o => rw [K03 _ _ e nd] at n4; cases n4
  have hnt : ∀ b ∈ [p], ∀ xs, H b ≠ some (.tup xs) := fun b hb xs e => by
   obtain rfl : b = p := by simpa using hb
   rw [hp] at e; cases e
  have hS6 := hS.frL (FrL.kp K06 (l := [p]) (by simp)) (fun b hb => by obtain rfl : b = p := (by simpa using hb); exact ap) hnt
  walk_at "w"
  refine kk d H6 n0 ⟨dx, q, f6, ⟨K06 _ _ hq (fun z => hnt q (by simp [z]) _ hq), hW.2⟩, K6 _ _ (K5 _ _ f4 nd) nd, fun x z u h => (by cases h), ap, hS.apart (l := [d]) (fun b hb => by obtain rfl : b = d := (by simpa using hb); exact n0) d (by simp)⟩ hS6 K06
theorem ZIK : ZEV ["self", "window"] ["self", "window"] (ZEP ZHL) := ZEv
theorem ZGV (T : Txt K mg a) : ZEW P w K mg base CX0 5 a.Z1 a.Z4 ["self", "window"] (ZSu a) := by
 refine T.Js.ok ZIK (by walk_at "l") (fun cdv A outer s H vs Q E hr h => ?_)
 ·obtain ⟨S, v, d, q, b, y, m, k, n, b', y', m', kvs, e, sm, c, ds, ts, ws, rfl, hS, hV, hlen, hW, kk⟩ := h
  obtain ⟨hq, hy, hm1, hm2, hb, he⟩ := id hW
  obtain ⟨dx, q0, hv, hW0, hd, hk, av, ad⟩ := id hV
  refine ⟨_, QB.h (ZEN (ZEu (qcS (ZG7 T) hr T.Ze T.ZV.kp T.Zf (ZEK (qv 1) ZEL))) (ZEN (ZEu (ZFp (qv 0) T.ZF T.ZAN (ZIl T) hr.m T.ZAI .nil ZFc)) (ZEN (ZFy K rfl (qv 0) (qcS (ZN7 T) hr T.ZCm T.ZBW.kp T.ZCj (ZEK (ZE1 K rfl (qv 0)) (ZEK (qv 1) ZEL)))) (ZEO (ZFy K rfl (qv 0) (qv 1)))))), ?_⟩
  walk_at "s"
  walk_at "w"
  refine ⟨q, b', y', m', rfl, hq, by omega, by omega, hb, he, ?_⟩
  walk_at "w"
  refine ZEt hv ZFV ?_
  refine ⟨S, v, d, b, y, m, k, n, kvs, e, sm, c, ds, ts, ws, rfl, hS, hV, hlen, fun kvs1 H1 hV1 hS1 hh1 hl1 F1 => ?_⟩
  obtain ⟨dx1, q1, hv1, hW1, hd1, hk1, _⟩ := id hV1
  rw [List.drop_length] at hk1
  have hWn : ZFz H1 q b' y' m' := ⟨F1 _ _ hq fun z => hV.noTup _ z _ hq, hW.2⟩
  walk_at "w"
  refine ⟨d, q, b', y', m', kvs1, sm, rfl, hd1, hWn, fun x z u h => (hk1 x z u h).2.resolve_left fun ⟨t, ht, _⟩ => (by cases ht), fun d2 kvs2 H2 n2 f2 hl2 hg2 hi2 S2 => ?_⟩
  have hv2 := S2 _ _ hv1
  have nd2 : d2 ≠ v := fun z => by rw [z, hv1] at n2; cases n2
  walk_at "w"
  refine ZFj hv2 T.ZF T.Zz (by show 5 < 1000; decide) fun H3 f3 K3 => ?_
  rw [ZSo] at f3
  walk_at "w"
  refine ZFj f3 T.ZF T.ZP (by show 5 < 1000; decide) fun H4 f4 K4 => ?_
  rw [ZSm] at f4
  have K24 := K3.trans K4
  have nt2 : ∀ b ∈ [v], ∀ xs, H2 b ≠ some (.tup xs) := fun b hb xs e => by
   obtain rfl : b = v := by simpa using hb
   rw [hv2] at e; cases e
  have kt2 : ∀ b xs, H2 b = some (.tup xs) → H4 b = some (.tup xs) := fun b xs e => K24 _ _ e fun z => nt2 b (by simp [z]) xs e
  have n0 : H d2 = none := by
   cases e : H d2 with
   | none => rfl
   | some o =>
    by_cases z : d2 ∈ [v, d]
    ·simp only [List.mem_cons, List.not_mem_nil, or_false] at z
     rcases z with z | z
     ·exact absurd z nd2
     ·rw [z, hd1] at n2; cases n2
    ·rw [F1 _ _ e z] at n2; cases n2
  walk_at "w"
  refine kk d2 kvs1 kvs2 H4 n0 hh1 hi2 hl2 ⟨dx1, q, f4, ⟨kt2 _ _ (S2 _ _ hWn.1), hW.2⟩, K24 _ _ f2 nd2, fun x z u h => ⟨(hg2 x z u h).1, .inr ((hg2 x z u h).2.tups kt2)⟩, av, ?_⟩ ((hS1.same S2).frL (FrL.kp K24 (l := [v]) (by simp)) (fun b hb => by obtain rfl : b = v := (by simpa using hb); exact av) nt2) ((F1.trans (FrL.same S2)).trans (FrL.kp K24 (by simp)))
  exact hS.apart (l := [d2]) (fun b hb => by obtain rfl : b = d2 := (by simpa using hb); exact n0) d2 (by simp)
theorem ZLN : ZEV ["self", "c"] ["self", "c"] (ZEP ZJZ) := ZEv
theorem ZPX (T : Txt K mg a) : ZEW P w K mg base CX0 6 a.JV a.JT ["self", "c"] (ZW6 a) := by
 refine T.ZBs.ok ZLN (by walk_at "l") (fun cdv A outer s H vs Q E hr h => ?_)
 ·obtain ⟨S, v, d, b, y, m, k, n, j, kvs, e, sm, c, ds, ts, ws, rfl, hS, hV, hlen, hj, hw, kk⟩ := h
  obtain ⟨dx, q, hv, hW, hd, hk, av, ad⟩ := id hV
  refine ⟨_, QB.h (ZEO (ZEu (ZFO (qv 0) T.ZF T.ZQ (ZGV T) hr T.ZR .nil ZFc (ZEK (qcS (ZNi T) hr.m T.ZCZ T.ZBl.kp T.ZCc (ZEK (ZE1 K rfl (qv 0)) (ZEK (qv 1) ZEL))) ZEL)))), ?_⟩
  walk_at "s"
  walk_at "w"
  refine ZEt hv ZFV ?_
  walk_at "w"
  refine ⟨q, b, y, m, j, rfl, SqT.of hW.1, hj, fun u H1 n1 f1 S1 => ?_⟩
  walk_at "w"
  exact ⟨S, v, d, u, b, y, m, k, n, _, _, _, kvs, e, sm, c, ds, ts, ws, rfl, hS.same S1, hV.same S1, hlen, ⟨f1, hw⟩, kk.at S1⟩
theorem ZJl : ZEV ["self"] ["self"] (ZEP ZIZ) := ZEv
theorem ZNk (T : Txt K mg a) : ZEW P w K mg base CX0 6 a.Yp a.Yo ["self"] (ZU0 a) := by
 refine T.ZAy.ok ZJl (by walk_at "l") (fun cdv A outer s H vs Q E hr h => ?_)
 ·obtain ⟨S, v, d, b, y, m, k, n, kvs, e, sm, c, ds, ts, ws, rfl, hS, hV, hlen, hw, kk⟩ := h
  obtain ⟨dx, q, hv, hW, hd, hk, av, ad⟩ := id hV
  refine ⟨_, QB.h (ZEO (ZEu (ZFO (qv 0) T.ZF T.ZQ (ZGV T) hr T.ZR .nil ZFc (ZEK (qcS (ZLK T) hr.m T.ZBt T.ZAh.kp T.ZBr (ZEK (ZE1 K rfl (qv 0)) ZEL)) ZEL)))), ?_⟩
  walk_at "s"
  walk_at "w"
  refine ZEt hv ZFV ?_
  walk_at "w"
  refine ⟨q, b, y, m, rfl, SqT.of hW.1, fun u H1 n1 f1 S1 => ?_⟩
  walk_at "w"
  exact ⟨S, v, d, u, b, y, m, k, n, _, _, _, kvs, e, sm, c, ds, ts, ws, rfl, hS.same S1, hV.same S1, hlen, ⟨f1, hw⟩, kk.at S1⟩
theorem ZIm : ZEV ["self"] ["self"] (ZEP ZHa) := ZEv
theorem ZLp (T : Txt K mg a) : ZEW P w K mg base CX0 6 a.YC a.YD ["self"] (ZQx a) := by
 refine T.ZAJ.ok ZIm (by walk_at "l") (fun cdv A outer s H vs Q E hr h => ?_)
 ·obtain ⟨S, v, d, b, y, m, k, n, kvs, e, sm, c, ds, ts, ws, rfl, hS, hV, hlen, h2, hw, kk⟩ := h
  obtain ⟨dx, q, hv, hW, hd, hk, av, ad⟩ := id hV
  refine ⟨_, QB.h (ZEO (ZEu (ZFO (qv 0) T.ZF T.ZQ (ZGV T) hr T.ZR .nil ZFc (ZEK (qcS (ZN6 T) hr.m T.ZBc T.Y7.kp T.ZBV (ZEK (ZE1 K rfl (qv 0)) ZEL)) ZEL)))), ?_⟩
  walk_at "s"
  walk_at "w"
  refine ZEt hv ZFV ?_
  walk_at "w"
  refine ⟨q, b, y, m, rfl, SqT.of hW.1, h2, fun u H1 n1 f1 S1 => ?_⟩
  walk_at "w"
  exact ⟨S, v, d, u, b, y, m, k, n, _, _, _, kvs, e, sm, c, ds, ts, ws, rfl, hS.same S1, hV.same S1, hlen, ⟨f1, hw⟩, kk.at S1⟩
theorem ZIL : ZEV ["self", "n"] ["self", "n"] (ZEP ZHK) := ZEv
theorem ZLO (T : Txt K mg a) : ZEW P w K mg base CX0 6 a.Z2 a.Z5 ["self", "n"] (ZU1 a) := by
 refine T.Jo.ok ZIL (by walk_at "l") (fun cdv A outer s H vs Q E hr h => ?_)
 ·obtain ⟨S, v, d, b, y, m, k, n, j, kvs, e, sm, c, ds, ts, ws, rfl, hS, hV, hlen, hw, kk⟩ := h
  obtain ⟨dx, q, hv, hW, hd, hk, av, ad⟩ := id hV
  refine ⟨_, QB.h (ZEO (ZEu (ZFO (qv 0) T.ZF T.ZQ (ZGV T) hr T.ZR .nil ZFc (ZEK (qcS (ZII T) hr.m T.Jl T.Yl.kp T.Jr (ZEK (ZE1 K rfl (qv 0)) (ZEK (qv 1) ZEL))) ZEL)))), ?_⟩
  walk_at "s"
  walk_at "w"
  refine ZEt hv ZFV ?_
  walk_at "w"
  refine ⟨q, b, y, m, j, rfl, SqT.of hW.1, fun u H1 n1 f1 S1 => ?_⟩
  walk_at "w"
  exact ⟨S, v, d, u, b, y, m, k, n, _, _, _, kvs, e, sm, c, ds, ts, ws, rfl, hS.same S1, hV.same S1, hlen, ⟨f1, hw⟩, kk.at S1⟩
end
section
variable {P : Program} {w : World} {K : W.Frag} {mg : Str → Option Value} {base : Heap} {a : Ad}
local macro_rules | `(tactic| walk_at "rd") => `(tactic| first
 | with_reducible refine ZEz (by assumption) (‹Txt _ _ _›).ZF (‹Txt _ _ _›).ZP ZGH ?_)
def ZSv (C : Addr) : Sp := fun vs H _ E => ∃ b e : Int, vs = [.int b, .int e] ∧ ¬ (InT b ∧ InT e) ∧ E (.ref C) none H
theorem ZJ3 (T : Txt K mg a) : ZEW P w K mg base (CX1 P w) 3 a.Zs a.Zv ["begin", "end"] (ZSv a.ZA) := by
 refine T.Za.okx ZHz (by walk_at "l") (fun cdv A outer s H vs Q E hr h => ?_)
 ·obtain ⟨b, e, rfl, hn, q⟩ := h
  refine ⟨_, QB.h (ZEO (ZEm (QW.pt (ZHO (ZF2 (ZFg (qcS (ZGX T) hr T.Z9 T.Zm.kp T.Z8 (ZEK (qv 0) ZEL)))) (ZGi (ZF2 (ZFg (qcS (ZGX T) hr T.Z9 T.Zm.kp T.Z8 (ZEK (qv 1) ZEL))))))) (ZEO (ZNN T.ZS rfl T.Zx (ZEK ZEn ZEL))) ZEl)), ?_⟩
  walk_at "s"
  walk_at "w"
  by_cases hb : InT b
  ·refine ⟨b, rfl, .inl ⟨hb, ?_⟩⟩
   walk_at "w"
   refine ZE9 ?_
   walk_at "w"
   refine ⟨e, rfl, .inr ⟨fun he => hn ⟨hb, he⟩, ?_⟩⟩
   walk_at "w"
   refine ZFY ?_
   walk_at "w"
   exact ZKV (by decide) q
  ·refine ⟨b, rfl, .inr ⟨hb, ?_⟩⟩
   walk_at "w"
   refine ZFY ?_
   walk_at "w"
   exact ZKV (by decide) q
def ZWe (D : Addr) : Sp := fun vs H _ E => ∃ (p : Addr) (b y m : Int), vs = [.ref p] ∧ H p = some (.tup [.int b, .int y, .int m]) ∧ 0 ≤ m ∧ m ≤ 1000 ∧ ¬ (InT b ∧ InT (b + m * y)) ∧ E (.ref D) none H
theorem ZH6 (T : Txt K mg a) : ZEW P w K mg base (CX1 P w) 4 a.Z3 a.Z0 ["window"] (ZWe a.ZA) := by
 refine T.ZV.okx ZFR (by walk_at "l") (fun cdv A outer s H vs Q E hr h => ?_)
 ·obtain ⟨p, b, y, m, rfl, hp, h0, h1, hn, q⟩ := h
  refine ⟨_, QB.h (ZEN (ZFr (qv 0) (ZFU (n := 3) K rfl rfl (ZET (qgN (i := 1) ZFR.nd) (ZET (qgN (i := 2) ZFR.nd) (ZET (qgN (i := 3) ZFR.nd) ZFD))))) (ZEO (ZEu (ZHs (ZJ3 T) hr rfl T.YQ T.Za.kp T.YW .nil ZF6 (ZEK (qv 1) (ZEK (ZEQ ZEq (qv 1) (ZEQ ZEs (qv 3) (qv 2))) ZEL)))))), ?_⟩
  walk_at "s"
  walk_at "w"
  exact ⟨b, b + m * y, rfl, hn, q⟩
def ZU2 (D : Addr) : Sp := fun vs H _ E => ∃ (v : V) (p : Addr) (b y m : Int), vs = [v, .ref p] ∧ H p = some (.tup [.int b, .int y, .int m]) ∧ 0 ≤ m ∧ m ≤ 1000 ∧ ¬ (InT b ∧ InT (b + m * y)) ∧ E (.ref D) none H
theorem ZGJ (T : Txt K mg a) : ZEW P w K mg base (CX1 P w) 5 a.Z1 a.Z4 ["self", "window"] (ZU2 a.ZA) := by
 refine T.Js.okx ZIK (by walk_at "l") (fun cdv A outer s H vs Q E hr h => ?_)
 ·obtain ⟨v, p, b, y, m, rfl, hp, h0, h1, hn, q⟩ := h
  refine ⟨_, QB.h (ZEN (ZEu (ZHs (ZH6 T) hr rfl T.Ze T.ZV.kp T.Zf .nil ZF6 (ZEK (qv 1) ZEL))) (ZEN ZFi (ZEN ZFi (ZEO ZFi)))), ?_⟩
  walk_at "s"
  walk_at "w"
  exact ⟨p, b, y, m, rfl, hp, h0, h1, hn, q⟩
def ZHk (a : Ad) (H : Hp) (v : Addr) (b y m : Int) : Prop := ∃ dx s q d n e, H v = some (.ins a.ZJ dx (vfl s q d n e)) ∧ ZFz H q b y m
def ZW7 (a : Ad) : Sp := fun vs H _ E => ∃ (v : Addr) (b y m j : Int), vs = [.ref v, .int j] ∧ ZHk a H v b y m ∧ IntMulOk j y ∧ ¬ (InT (b + j * y) ∧ InT (b + j * y + m * y)) ∧ ∀ H', ZEU H H' → E (.ref a.ZA) none H'
theorem ZKF (T : Txt K mg a) : ZEW P w K mg base (CX1 P w) 6 a.JV a.JT ["self", "c"] (ZW7 a) := by
 refine T.ZBs.okx ZLN (by walk_at "l") (fun cdv A outer s H vs Q E hr h => ?_)
 ·obtain ⟨v, b, y, m, j, rfl, ⟨dx, s0, q, d, n, e, hv, hW⟩, hj, hn, k⟩ := h
  refine ⟨_, QB.h (ZEO (ZEu (ZFO (qv 0) T.ZF T.ZQ (ZGJ T) hr T.ZR .nil ZF6 (ZEK (qcS (ZNi T) hr.m T.ZCZ T.ZBl.kp T.ZCc (ZEK (ZE1 K rfl (qv 0)) (ZEK (qv 1) ZEL))) ZEL)))), ?_⟩
  walk_at "s"
  walk_at "w"
  refine ZEt hv ZFV ?_
  walk_at "w"
  refine ⟨q, b, y, m, j, rfl, SqT.of hW.1, hj, fun u H1 n1 f1 S1 => ?_⟩
  walk_at "w"
  exact ⟨_, u, _, _, _, rfl, f1, by have := hW.2.2.1; omega, by have := hW.2.2.2.1; omega, hn, k H1 S1⟩
def ZU3 (a : Ad) : Sp := fun vs H _ E => ∃ (v : Addr) (b y m : Int), vs = [.ref v] ∧ ZHk a H v b y m ∧ ¬ (InT b ∧ InT (b + m * (y * 2))) ∧ ∀ H', ZEU H H' → E (.ref a.ZA) none H'
theorem ZJK (T : Txt K mg a) : ZEW P w K mg base (CX1 P w) 6 a.Yp a.Yo ["self"] (ZU3 a) := by
 refine T.ZAy.okx ZJl (by walk_at "l") (fun cdv A outer s H vs Q E hr h => ?_)
 ·obtain ⟨v, b, y, m, rfl, ⟨dx, s0, q, d, n, e, hv, hW⟩, hn, k⟩ := h
  refine ⟨_, QB.h (ZEO (ZEu (ZFO (qv 0) T.ZF T.ZQ (ZGJ T) hr T.ZR .nil ZF6 (ZEK (qcS (ZLK T) hr.m T.ZBt T.ZAh.kp T.ZBr (ZEK (ZE1 K rfl (qv 0)) ZEL)) ZEL)))), ?_⟩
  walk_at "s"
  walk_at "w"
  refine ZEt hv ZFV ?_
  walk_at "w"
  refine ⟨q, b, y, m, rfl, SqT.of hW.1, fun u H1 n1 f1 S1 => ?_⟩
  walk_at "w"
  exact ⟨_, u, _, _, _, rfl, f1, by have := hW.2.2.1; omega, by have := hW.2.2.2.1; omega, hn, k H1 S1⟩
def ZU4 (a : Ad) : Sp := fun vs H _ E => ∃ (v : Addr) (b y m j : Int), vs = [.ref v, .int j] ∧ ZHk a H v b y m ∧ 0 ≤ j ∧ j ≤ 1000 ∧ ¬ (InT b ∧ InT (b + j * y)) ∧ ∀ H', ZEU H H' → E (.ref a.ZA) none H'
theorem ZH7 (T : Txt K mg a) : ZEW P w K mg base (CX1 P w) 6 a.Z2 a.Z5 ["self", "n"] (ZU4 a) := by
 refine T.Jo.okx ZIL (by walk_at "l") (fun cdv A outer s H vs Q E hr h => ?_)
 ·obtain ⟨v, b, y, m, j, rfl, ⟨dx, s0, q, d, n, e, hv, hW⟩, hj0, hj1, hn, k⟩ := h
  refine ⟨_, QB.h (ZEO (ZEu (ZFO (qv 0) T.ZF T.ZQ (ZGJ T) hr T.ZR .nil ZF6 (ZEK (qcS (ZII T) hr.m T.Jl T.Yl.kp T.Jr (ZEK (ZE1 K rfl (qv 0)) (ZEK (qv 1) ZEL))) ZEL)))), ?_⟩
  walk_at "s"
  walk_at "w"
  refine ZEt hv ZFV ?_
  walk_at "w"
  refine ⟨q, b, y, m, j, rfl, SqT.of hW.1, fun u H1 n1 f1 S1 => ?_⟩
  walk_at "w"
  exact ⟨_, u, _, _, _, rfl, f1, hj0, hj1, hn, k H1 S1⟩
end
section
variable {P : Program} {w : World} {K : W.Frag} {mg : Str → Option Value} {base : Heap} {a : Ad}
local macro_rules | `(tactic| walk_at "rd") => `(tactic| first
 | with_reducible refine ZEz (by assumption) (‹Txt _ _ _›).ZF (‹Txt _ _ _›).ZP ZGH ?_)
def ZN8 (C : Addr) : Sp := fun vs H _ E => ∃ (p : Addr) (b y m : Int), vs = [.ref p] ∧ H p = some (.tup (win b y m)) ∧ y % 2 = 1 ∧ E (.ref C) none H
theorem ZNl (T : Txt K mg a) : ZEW P w K mg base (CX1 P w) 1 a.Y9 a.Y8 ["window"] (ZN8 a.ZC) := by
 refine T.Y7.okx ZFv (by walk_at "l") (fun cdv A outer s H vs Q E hr h => ?_)
 ·obtain ⟨p, b, y, m, rfl, hT, hy, k⟩ := h
  refine ⟨_, QB.h (ZEN (ZFr (qv 0) (ZFU (n := 3) K rfl rfl (ZET (qgN (i := 1) ZFv.nd) (ZET (qgN (i := 2) ZFv.nd) (ZET (qgN (i := 3) ZFv.nd) ZFD))))) (ZEN (ZEm (ZEX (ZE7) (ZEQ ZGg (qv 2) ZEM) ZEM (ZEc _)) (ZEO (ZNN T.Ys rfl T.Zg (ZEK ZEn ZEL))) ZEl) (ZEO ZFi))), ?_⟩
  walk_at "s"
  walk_at "w"
  rw [ZFk]
  refine ZE4 (fun _ => ?_) (fun h => absurd hy h)
  walk_at "w"
  exact ZKV (by decide) k
def ZWf (a : Ad) : Sp := fun vs H _ E => ∃ (v : Addr) (b y m : Int), vs = [.ref v] ∧ ZHk a H v b y m ∧ y % 2 = 1 ∧ E (.ref a.ZC) none H
theorem ZIM (T : Txt K mg a) : ZEW P w K mg base (CX1 P w) 6 a.YC a.YD ["self"] (ZWf a) := by
 refine T.ZAJ.okx ZIm (by walk_at "l") (fun cdv A outer s H vs Q E hr h => ?_)
 ·obtain ⟨v, b, y, m, rfl, ⟨dx, s0, q, d, n, e, hv, hW⟩, hy, k⟩ := h
  refine ⟨_, QB.h (ZEO (ZEu (ZFO (qv 0) T.ZF T.ZQ (ZGJ T) hr T.ZR .nil ZF6 (ZEK (ZHs (ZNl T) hr.m rfl T.ZBc T.Y7.kp T.ZBV .nil ZF6 (ZEK (ZE1 K rfl (qv 0)) ZEL)) ZEL)))), ?_⟩
  walk_at "s"
  walk_at "w"
  refine ZEt hv ZFV ?_
  walk_at "w"
  exact ⟨q, b, y, m, rfl, hW.1, hy, k⟩
def ZSw (D : Addr) : Sp := fun vs H _ E => ∃ (v s : V) (p : Addr) (b y m : Int), vs = [v, s, .ref p] ∧ H p = some (.tup [.int b, .int y, .int m]) ∧ 0 ≤ m ∧ m ≤ 1000 ∧ ¬ (InT b ∧ InT (b + m * y)) ∧ E (.ref D) none H
theorem ZJ4 (T : Txt K mg a) : ZEW P w K mg base (CX1 P w) 5 a.Zt a.Zr ["self", "store", "window"] (ZSw a.ZA) := by
 refine T.JU.okx ZH5 (by walk_at "l") (fun cdv A outer s H vs Q E hr h => ?_)
 ·obtain ⟨v, s, p, b, y, m, rfl, hp, h0, h1, hn, q⟩ := h
  refine ⟨_, QB.h (ZEN (ZEu (ZHs (ZH6 T) hr rfl T.Ze T.ZV.kp T.Zf .nil ZF6 (ZEK (qv 2) ZEL))) (ZEN ZFi (ZEN ZFi (ZEN ZFi (ZEN ZFi (ZEO ZFi)))))), ?_⟩
  walk_at "s"
  walk_at "w"
  exact ⟨p, b, y, m, rfl, hp, h0, h1, hn, q⟩
end
def ZWg (K : W.Frag) : Sp := fun vs H Q _ => ∃ (s : Addr) (ns : List Int) (k : Int), vs = [.ref s, .int k] ∧ SqL K H s (ns.map V.int) ∧ 0 ≤ k ∧ Q (.int (ns.getD k.toNat 0)) H
def ZW8 : Sp := fun vs H Q _ => ∃ c : Int, vs = [.int c] ∧ ∀ (p : Addr) (H' : Hp), H p = none → Pot H' p → ZEU H H' → Q (.ref p) H'
def ZWh : Sp := fun vs H Q _ => ∃ (p : Addr) (n : Int), vs = [.ref p, .int n] ∧ Pot H p ∧ 0 < n ∧ n < 2 ^ 250 ∧ ∀ (d : Int) (H' : Hp), 0 ≤ d → d < n → Pot H' p → Kp p H H' → Q (.int d) H'
def ZW9 : Sp := fun vs H Q _ => ∃ p : Addr, vs = [.ref p] ∧ Pot H p ∧ ∀ (x : Int) (H' : Hp), -(10 ^ 59) < x → x < 10 ^ 59 → Pot H' p → Kp p H H' → Q (.int x) H'
section
variable {P : Program} {w : World} {K : W.Frag} {mg : Str → Option Value} {base : Heap} {a : Ad}
theorem ZKj {H : Hp} {Q : VK} {l : Addr} {ns : List Int} {d : Int} (h : H l = some (.lst (ns.map V.int))) (h0 : 0 ≤ d) (h1 : d < (ns.length : Int)) (q : ∀ n ∈ ns, Q (.int n) H) : ZOu K (.ref l) (.int d) H Q := by
 obtain ⟨n, rfl⟩ : ∃ n : Nat, d = (n : Int) := ⟨d.toNat, by omega⟩
 have hn : n < ns.length := by omega
 refine ZJS (v := .int ns[n]) (SqL.of h) (ZIb ?_) (q _ (List.getElem_mem hn))
 rw [List.getElem?_map, List.getElem?_eq_getElem hn]
 rfl
theorem ZSx {m : PL} {t h : Int} (R : Int × Int → Prop) (hm : ∀ q ∈ m, R q) (hn : R (t, h)) : ∀ q ∈ ZGG m t h, R q := by
 intro q hq
 unfold ZGG at hq
 split at hq
 ·obtain ⟨kv, h1, rfl⟩ := List.mem_map.mp hq
  split
  ·rename_i e
   rw [e]
   exact hn
  ·exact hm _ h1
 ·rcases List.mem_append.mp hq with h1 | h1
  ·exact hm _ h1
  ·simp only [List.mem_cons, List.not_mem_nil, or_false] at h1
   rw [h1]
   exact hn
theorem ZQy : ZEV ["_law_script", "_law_k"] ["_law_script", "_law_k"] (ZEP ZKa) := ZEv
theorem ZL7 (T : Txt K mg a) : ZEW P w K mg base CX0 1 a.ZBP a.ZBQ ["_law_script", "_law_k"] (ZWg K) := by
 refine T.ZBE.ok ZQy (by walk_at "l") (fun cdv A outer s H vs Q E hr h => ?_)
 ·obtain ⟨p, ns, k, rfl, hS, hk, q⟩ := h
  refine ⟨_, QB.h (ZEN (ZEm (ZEX (ZKm) (qv 1) (ZEe (ZIh K rfl) rfl T.JR ZId (ZEK (qv 0) ZEL)) (ZEc _)) (ZEO (ZEZ (ZEi (ZF9 K rfl) (qv 0) (qv 1)))) ZEl) (ZEO (ZEZ ZEM))), ?_⟩
  walk_at "s"
  walk_at "w"
  rw [List.length_map]
  refine ZE4 (fun h => ?_) (fun h => ?_)
  ·walk_at "w"
   obtain ⟨n, rfl⟩ : ∃ n : Nat, k = (n : Int) := ⟨k.toNat, by omega⟩
   have hk2 : n < ns.length := by omega
   refine ZJS (v := .int (ns.getD n 0)) hS (ZIb ?_) q
   rw [List.getElem?_map, List.getElem?_eq_getElem hk2]
   simp [List.getD, hk2]
  ·walk_at "w"
   have e : ns.getD k.toNat 0 = 0 := by
    rw [List.getD, List.getElem?_eq_none (by omega)]
    rfl
   rw [e] at q
   exact q
theorem ZSy : ZEV ["_law_cell_here"] ["_law_cell_here"] (ZEP ZLl) := ZEv
theorem ZNm (T : Txt K mg a) : ZEW P w K mg base CX0 1 a.ZBi a.ZBo ["_law_cell_here"] ZW8 := by
 refine T.ZBj.ok ZSy (by walk_at "l") (fun cdv A outer s H vs Q E hr h => ?_)
 ·obtain ⟨c, rfl, k⟩ := h
  refine ⟨_, QB.h (ZEO (ZEZ (ZF8 (ZEK (ZEe (ZP4 rfl) rfl T.ZAt ZKy (ZEK ZEM (ZEK (ZEQ ZFP (ZEe ZP3 rfl T.ZB3 ZP1 (ZEK (qv 0) ZEL)) (ZEQ ZFT ZEM ZEM)) ZEL))) (ZEK (ZEQ ZEq (ZEQ ZGg (ZEe ZP3 rfl T.ZB3 ZP1 (ZEK (qv 0) ZEL)) ZEM) ZEM) ZEL))))), ?_⟩
  walk_at "s"
  walk_at "w"
  refine ZES (by show 2 ≤ sizeLine; decide) fun p H2 hp f2 S2 => ?_
  refine k p H2 hp ⟨_, _, f2, ?_, Int.add_nonneg (Int.emod_nonneg _ (by decide)) (by decide), Int.lt_of_lt_of_le (Int.add_lt_add_right (Int.emod_lt_of_pos _ (by decide)) 1) (by decide)⟩ S2
  split <;> omega
theorem ZL8 : ZEV ["_law_pot_here", "_law_many", "_law_digit"] ["_law_pot_here", "_law_many"] (ZEP ZKb) := ZEv
theorem ZEo (T : Txt K mg a) : ZEW P w K mg base CX0 1 a.ZA8 a.ZBJ ["_law_pot_here", "_law_many"] ZWh := by
 refine T.ZI.ok ZL8 (by walk_at "l") (fun cdv A outer s H vs Q E hr h => ?_)
 ·obtain ⟨p, n, rfl, ⟨x, y, hp, hx, hy, hy2⟩, hn, hn2, k⟩ := h
  have hdiv : ∀ i : Int, ZIA i n := fun i => ZIA.of (k := 250) hn hn2 (by decide)
  refine ⟨_, QB.h (ZEN (ZEm (ZEX (ZTA) (ZEi (ZF9 K rfl) (qv 0) ZEM) ZEM (ZEc _)) (ZEN (ZFr (ZEe ZND rfl T.ZBA ZQH (ZEK (ZEi (ZF9 K rfl) (qv 0) ZEM) (ZEK (qv 1) ZEL))) (ZFU (n := 2) K rfl rfl (ZET (ZP9 (qv 0) ZEM ZMk) (ZET (qgN (i := 2) ZL8.nd) ZFD)))) (ZEO (ZEZ (qv 2)))) ZEl) (ZEN (ZFr (ZEQ ZGg (ZEQ ZEq (ZEQ ZEs (ZEi (ZF9 K rfl) (qv 0) ZEM) ZEM) ZEM) ZEM) (ZP9 (qv 0) ZEM ZMk)) (ZEO (ZEZ (ZEQ ZGg (ZEQ ZF3 (ZEQ ZGg (ZEQ ZEs (ZEi (ZF9 K rfl) (qv 0) ZEM) (ZEi (ZF9 K rfl) (qv 0) ZEM)) ZEM) ZEM) (qv 1)))))), ?_⟩
  walk_at "s"
  walk_at "w"
  refine ZE4 (fun h => ?_) (fun h => ?_)
  ·walk_at "w"
   refine ZQP (hdiv _) fun c H2 n2 f2 S2 => ?_
   have hp2 := S2 _ _ hp
   walk_at "w"
   refine ZOQ hp2 (by rfl) fun H3 f3 K3 => ?_
   walk_at "w"
   exact k _ _ (Int.emod_nonneg _ (by omega)) (Int.emod_lt_of_pos _ hn) ⟨_, _, f3, Int.ediv_nonneg hx (by omega), hy, hy2⟩ (fun q o e nq => K3 q o (S2 q o e) nq)
  ·walk_at "w"
   refine ZOQ hp (by rfl) fun H2 f2 K2 => ?_
   generalize hz : (y * 48271 + 11) % 2147483647 = z at f2
   have h0 : 0 ≤ z := by rw [← hz]; exact Int.emod_nonneg _ (by decide)
   have h1 : z < 2147483647 := by rw [← hz]; exact Int.emod_lt_of_pos _ (by decide)
   have f2 : H2 p = some (.lst [V.int x, V.int z]) := f2
   walk_at "w"
   exact k _ _ (Int.emod_nonneg _ (by omega)) (Int.emod_lt_of_pos _ hn) ⟨_, _, f2, hx, h0, by omega⟩ (fun q o e nq => K2 q o e nq)
end
def ZXS : Sp := fun vs H Q _ => ∃ t : Int, vs = [.int t] ∧ ∀ x : Int, Tm x → Q (.int x) H
def ZSz : Sp := fun vs H Q _ => ∃ (q : Addr) (b y m : Int), vs = [.ref q] ∧ H q = some (.tup [.int b, .int y, .int m]) ∧ IntMulOk y m ∧ Q (.bl (decide (-1099511627776 ≤ b) && decide (b + y * m ≤ 1099511627776))) H
def ZS0 : Sp := fun vs H Q _ => ∃ p : Addr, vs = [.ref p] ∧ Pot H p ∧ ∀ (q : Addr) (b y m : Int) (H' : Hp), ZFz H' q b y m → m ≤ 9 → Pot H' p → Kp p H H' → Q (.ref q) H'
def ZWi : Sp := fun vs H Q _ => ∃ (p q : Addr) (b y m : Int), vs = [.ref p, .ref q] ∧ Pot H p ∧ ZFz H q b y m ∧ ∀ (x : Int) (H' : Hp), Tm x → Pot H' p → Kp p H H' → Q (.int x) H'
def ZS1 : Sp := fun vs H Q _ => ∃ (p q : Addr) (b y m : Int), vs = [.ref p, .ref q] ∧ Pot H p ∧ ZFz H q b y m ∧
 ∀ (d : Addr) (ps : PL) (H' : Hp), H d = none → H' d = some (.dK (ZFL ps)) → (ps.map (·.1)).Nodup → ps.length ≤ 24 → (∀ r ∈ ps, Tm r.1 ∧ -(10 ^ 59) < r.2 ∧ r.2 < 10 ^ 59) → Pot H' p → Kp p H H' → Q (.ref d) H'
def ZQz (n : Str) (c b y m b' y' m' : Int) : Prop :=
 (n = "wide" ∧ b' = b ∧ y' = 2 * y ∧ m' = m) ∨ (n = "narrow" ∧ y % 2 = 0 ∧ b' = b ∧ y' = y / 2 ∧ m' = m) ∨ (n = "columns" ∧ 1 ≤ c ∧ c ≤ 40 ∧ b' = b ∧ y' = y ∧ m' = c) ∨ (n = "on" ∧ -9007199254740992 ≤ c ∧ c < 9007199254740992 ∧ b' = b + c * y ∧ y' = y ∧ m' = m)
def ZHW (H : Hp) (u : Addr) (b y m b' y' m' : Int) : Prop := ∃ (n : Str) (c : Int) (q : Addr), H u = some (.tup [.str n, .int c, .ref q]) ∧ H q = some (.tup [.int b', .int y', .int m']) ∧ ZQz n c b y m b' y' m'
def ZQ0 : Sp := fun vs H Q _ => ∃ (p q : Addr) (b y m : Int), vs = [.ref p, .ref q] ∧ Pot H p ∧ ZFz H q b y m ∧
 ∀ (u : Addr) (b' y' m' : Int) (H' : Hp), ZHW H' u b y m b' y' m' → Pot H' p → Kp p H H' → Q (.ref u) H'
section
variable {P : Program} {w : World} {K : W.Frag} {mg : Str → Option Value} {base : Heap} {a : Ad}
theorem ZN9 : ZEV ["_law_pot_here"] ["_law_pot_here"] (ZEP ZJA) := ZEv
theorem ZOA (T : Txt K mg a) : ZEW P w K mg base CX0 2 a.J9 a.ZAC ["_law_pot_here"] ZW9 := by
 refine T.ZBf.ok ZN9 (by walk_at "l") (fun cdv A outer s H vs Q E hr h => ?_)
 ·obtain ⟨p, rfl, hp, k⟩ := h
  have sm : ∀ x : Int, -2000000000 < x → x < 2000000000 → -(10 ^ 59) < x ∧ x < 10 ^ 59 := fun x h1 h2 => ⟨Int.lt_of_le_of_lt (by decide) h1, Int.lt_of_lt_of_le h2 (by decide)⟩
  refine ⟨_, QB.h (ZEN (ZEm (ZEX (ZTA) (qcS (ZEo T) hr T.ZL T.ZI.kp T.ZK (ZEK (qv 0) (ZEK ZEM ZEL))) ZEM (ZEc _)) (ZEO (ZEZ (ZEQ ZFP (qcS (ZEo T) hr T.ZL T.ZI.kp T.ZK (ZEK (qv 0) (ZEK ZEM ZEL))) ZEM))) ZEl) (ZEO (ZEZ (ZEQ ZEq (ZEQ ZFP (ZEQ ZGg (ZEQ ZEs (qcS (ZEo T) hr T.ZL T.ZI.kp T.ZK (ZEK (qv 0) (ZEK (ZEQ ZFP (ZEQ ZEs ZEM (ZEQ ZFT ZEM ZEM)) ZEM) ZEL))) (ZEQ ZFT ZEM ZEM)) (ZEQ ZFP (ZEQ ZEs ZEM (ZEQ ZFT ZEM ZEM)) ZEM)) (ZEQ ZFT ZEM ZEM)) ZEM)))), ?_⟩
  walk_at "s"
  walk_at "w"
  refine ⟨p, _, rfl, hp, by decide, by decide, fun d1 H1 h1 h1' P1 K1 => ?_⟩
  walk_at "w"
  refine ZE4 (fun _ => ?_) (fun _ => ?_)
  ·walk_at "w"
   refine ⟨p, _, rfl, P1, by decide, by decide, fun d2 H2 h2 h2' P2 K2 => ?_⟩
   walk_at "w"
   have hb := sm (d2 - 2) (by omega) (by omega)
   exact k _ H2 hb.1 hb.2 P2 (K1.trans K2)
  walk_at "w"
  refine ⟨p, _, rfl, P1, by decide, by decide, fun d2 H2 h2 h2' P2 K2 => ?_⟩
  have hbd : Bn 200 d2 := Bn.of (Int.lt_of_lt_of_le (by decide) h2) (Int.lt_trans h2' (by decide))
  walk_at "w"
  refine ZMr (ZK4 hbd (show Bn 190 _ by unfold Bn; decide) (by decide)) ?_
  walk_at "w"
  generalize hz : _ % (2 * 100000000000000000000000000000000000000000000000000000000000 - 1 : Int) = z
  have g0 : 0 ≤ z := by rw [← hz]; exact Int.emod_nonneg _ (by decide)
  have g1 : z < 2 * 100000000000000000000000000000000000000000000000000000000000 - 1 := by rw [← hz]; exact Int.emod_lt_of_pos _ (by decide)
  exact k _ H2 (by omega) (by omega) P2 (K1.trans K2)
theorem ZU5 : ZEV ["_law_t"] ["_law_t"] (ZEP ZNa) := ZEv
theorem ZU6 (T : Txt K mg a) : ZEW P w K mg base CX0 1 a.ZCB a.ZCL ["_law_t"] ZXS := by
 refine T.ZCz.ok ZU5 (by walk_at "l") (fun cdv A outer s H vs Q E hr h => ?_)
 ·obtain ⟨t, rfl, k⟩ := h
  refine ⟨_, QB.h (ZEO (ZEZ (ZEe (ZP4 rfl) rfl T.ZAt ZKy (ZEK (ZHg ZGv (ZEQ ZFT ZEM ZEM)) (ZEK (ZEe (ZMp rfl) rfl T.Jz ZJP (ZEK (ZEQ ZFP (ZEQ ZFT ZEM ZEM) ZEM) (ZEK (qv 0) ZEL))) ZEL))))), ?_⟩
  walk_at "s"
  walk_at "w"
  refine k _ ?_
  unfold Tm
  repeat' split
  all_goals omega
theorem ZOB : ZEV ["_law_window_here"] ["_law_window_here"] (ZEP ZI9) := ZEv
theorem ZOC (T : Txt K mg a) : ZEW P w K mg base CX0 1 a.ZAD a.ZAE ["_law_window_here"] ZSz := by
 refine T.ZBb.ok ZOB (by walk_at "l") (fun cdv A outer s H vs Q E hr h => ?_)
 ·obtain ⟨q, b, y, m, rfl, hq, hm, k⟩ := h
  refine ⟨_, QB.h (ZEO (ZEZ (ZK0 (ZHB (ZTB) (ZEi (ZEj K rfl) (qv 0) ZEM) (ZHg ZGv (ZEQ ZFT ZEM ZEM)) (ZEc _)) (ZKz (ZHB (ZH8) (ZEQ ZEq (ZEi (ZEj K rfl) (qv 0) ZEM) (ZEQ ZEs (ZEi (ZEj K rfl) (qv 0) ZEM) (ZEi (ZEj K rfl) (qv 0) ZEM))) (ZEQ ZFT ZEM ZEM) (ZEc _)))))), ?_⟩
  walk_at "s"
  walk_at "w"
  refine ZE4 (fun h => ?_) (fun h => ?_)
  ·walk_at "w"
   refine ZMr hm ?_
   walk_at "w"
   rw [decide_eq_true h, Bool.true_and] at k
   exact k
  ·rw [decide_eq_false h, Bool.false_and] at k
   exact k
theorem ZF5 : ZEV ["_law_pot_here", "_law_wide", "_law_many", "_law_place", "_law_begin"] ["_law_pot_here"] (ZEP ZJB) := ZEv
theorem ZOD (T : Txt K mg a) : ZEW P w K mg base CX0 2 a.ZAB a.Jx ["_law_pot_here"] ZS0 := by
 refine T.ZBg.ok ZF5 (by walk_at "l") (fun cdv A outer s H vs Q E hr h => ?_)
 ·obtain ⟨p, rfl, hp, k⟩ := h
  refine ⟨_, QB.h (ZEN (qsS (i := 1) ZF5.nd (ZEQ ZEq ZEM (qcS (ZEo T) hr T.ZL T.ZI.kp T.ZK (ZEK (qv 0) (ZEK (ZEi (ZF9 K rfl) (ZF8 (ZEK ZEM (ZEK ZEM (ZEK (ZEQ ZFT ZEM ZEM) ZEL)))) (qcS (ZEo T) hr T.ZL T.ZI.kp T.ZK (ZEK (qv 0) (ZEK ZEM ZEL)))) ZEL))))) (ZEN (qsS (i := 2) ZF5.nd (ZEQ ZEq ZEM (qcS (ZEo T) hr T.ZL T.ZI.kp T.ZK (ZEK (qv 0) (ZEK ZEM ZEL))))) (ZEN (qsS (i := 3) ZF5.nd (qcS (ZEo T) hr T.ZL T.ZI.kp T.ZK (ZEK (qv 0) (ZEK ZEM ZEL)))) (ZEN (qsS (i := 4) ZF5.nd (ZEQ ZFP (qcS (ZEo T) hr T.ZL T.ZI.kp T.ZK (ZEK (qv 0) (ZEK ZEM ZEL))) ZEM)) (ZEN (ZEm (ZEX (ZE7) (qv 3) ZEM (ZEc _)) (ZEO (qsS (i := 4) ZF5.nd (ZEQ ZEq (ZHg ZGv (ZEQ ZFT ZEM ZEM)) (ZEQ ZEs (qcS (ZEo T) hr T.ZL T.ZI.kp T.ZK (ZEK (qv 0) (ZEK ZEM ZEL))) (qv 1))))) ZEl) (ZEN (ZEm (ZEX (ZE7) (qv 3) ZEM (ZEc _)) (ZEO (qsS (i := 4) ZF5.nd (ZEQ ZFP (ZEQ ZFP (ZEQ ZFT ZEM ZEM) (ZEQ ZEs (qv 1) (qv 2))) (qcS (ZEo T) hr T.ZL T.ZI.kp T.ZK (ZEK (qv 0) (ZEK ZEM ZEL)))))) ZEl) (ZEO (ZEZ (ZEk (ZEK (qv 4) (ZEK (qv 1) (ZEK (qv 2) ZEL)))))))))))), ?_⟩
  walk_at "s"
  walk_at "w"
  refine ZES (by show 3 ≤ sizeLine; decide) fun l H1 n1 f1 S1 => ?_
  have hne1 := hp.neN n1
  walk_at "w"
  refine ⟨p, _, rfl, hp.same S1, by decide, by decide, fun d2 H2 h2 h2' P2 K2 => ?_⟩
  walk_at "w"
  refine ZKj (ns := [_, _, _]) (K2 _ _ f1 hne1) h2 (by simpa using h2') fun n hn => ?_
  have hn2 : 0 < n ∧ n ≤ 17179869184 := by
   simp only [List.mem_cons, List.not_mem_nil, or_false] at hn
   rcases hn with rfl | rfl | rfl <;> decide
  walk_at "w"
  refine ⟨p, _, rfl, P2, hn2.1, Int.lt_of_le_of_lt hn2.2 (by decide), fun d3 H3 h3 h3' P3 K3 => ?_⟩
  walk_at "w"
  refine ⟨p, _, rfl, P3, by decide, by decide, fun d4 H4 h4 h4' P4 K4 => ?_⟩
  walk_at "w"
  refine ⟨p, _, rfl, P4, by decide, by decide, fun d5 H5 h5 h5' P5 K5 => ?_⟩
  walk_at "w"
  refine ⟨p, _, rfl, P5, by decide, by decide, fun d6 H6 h6 h6' P6 K6 => ?_⟩
  have K16 : Kp p H H6 := (((((Kp.same S1).trans K2).trans K3).trans K4).trans K5).trans K6
  have hy : 0 < 1 + d3 ∧ 1 + d3 ≤ 17179869184 := by omega
  have hm : 0 < 1 + d4 ∧ 1 + d4 ≤ 9 := by omega
  have hym : (1 + d4) * (1 + d3) ≤ 9 * 17179869184 := Int.mul_le_mul hm.2 hy.2 (by omega) (by decide)
  have hym0 : 0 ≤ (1 + d4) * (1 + d3) := Int.mul_nonneg (by omega) (by omega)
  have fin : ∀ (b : Int) (H' : Hp) (q : Addr), H' q = some (.tup [.int b, .int (1 + d3), .int (1 + d4)]) → -1099511627776 ≤ b → b + (1 + d4) * (1 + d3) ≤ 1099511627776 → ZFz H' q b (1 + d3) (1 + d4) := fun b H' q hq hb hb2 =>
   ⟨hq, by omega, by omega, by omega, ⟨by omega, by omega⟩, ⟨by omega, by omega⟩⟩
  walk_at "w"
  rw [ZFk]
  refine ZE4 (fun e0 => ?_) (fun e0 => ?_)
  ·walk_at "w"
   refine ⟨p, _, rfl, P6, by decide, by decide, fun d7 H7 h7 h7' P7 K7 => ?_⟩
   have hd7 : d7 = 0 ∨ d7 = 1 ∨ d7 = 2 := by omega
   walk_at "w"
   rw [ZFk]
   refine ZE4 (fun h => absurd (e0.symm.trans h) (by decide)) (fun _ => ?_)
   walk_at "w"
   refine ZES (by show 3 ≤ sizeLine; decide) fun q H8 n8 f8 S8 => ?_
   refine k q _ _ _ H8 (fin _ _ _ f8 ?_ ?_) (by omega) (P7.same S8) ((K16.trans K7).then S8)
   ·rcases hd7 with rfl | rfl | rfl <;> omega
   ·rcases hd7 with rfl | rfl | rfl <;> omega
  ·walk_at "w"
   rw [ZFk]
   refine ZE4 (fun e1 => ?_) (fun e1 => ?_)
   ·walk_at "w"
    refine ⟨p, _, rfl, P6, by decide, by decide, fun d7 H7 h7 h7' P7 K7 => ?_⟩
    walk_at "w"
    refine ZES (by show 3 ≤ sizeLine; decide) fun q H8 n8 f8 S8 => ?_
    rw [Int.mul_comm] at f8
    exact k q _ _ _ H8 (fin _ _ _ f8 (by omega) (by omega)) (by omega) (P7.same S8) ((K16.trans K7).then S8)
   ·walk_at "w"
    refine ZES (by show 3 ≤ sizeLine; decide) fun q H8 n8 f8 S8 => ?_
    exact k q _ _ _ H8 (fin _ _ _ f8 (by omega) (by omega)) (by omega) (P6.same S8) (K16.then S8)
theorem ZIN : ZEV ["_law_pot_here", "_law_window_here", "_law_begin", "_law_wide", "_law_many"] ["_law_pot_here", "_law_window_here"] (ZEP ZKc) := ZEv
theorem ZQ1 (T : Txt K mg a) : ZEW P w K mg base CX0 2 a.ZBF a.ZBO ["_law_pot_here", "_law_window_here"] ZWi := by
 refine T.ZB8.ok ZIN (by walk_at "l") (fun cdv A outer s H vs Q E hr h => ?_)
 ·obtain ⟨p, q, b, y, m, rfl, hp, hW, k⟩ := h
  have hy2 := ZGI hW
  obtain ⟨hq, hy, hm1, hm2, hb, he⟩ := id hW
  have g0 : 0 < y * (m + 4) := Int.mul_pos hy (by omega)
  have g1 : y * (m + 4) ≤ 2199023255552 * 104 := Int.mul_le_mul hy2 (by omega) (by omega) (by decide)
  refine ⟨_, QB.h (ZEN (ZFr (qv 1) (ZFU (n := 3) K rfl rfl (ZET (qgN (i := 2) ZIN.nd) (ZET (qgN (i := 3) ZIN.nd) (ZET (qgN (i := 4) ZIN.nd) ZFD))))) (ZEO (ZEZ (qcS (ZU6 T) hr T.ZDq T.ZCz.kp T.ZDu (ZEK (ZEQ ZEq (ZEQ ZFP (qv 2) (ZEQ ZEs ZEM (qv 3))) (qcS (ZEo T) hr T.ZL T.ZI.kp T.ZK (ZEK (qv 0) (ZEK (ZEQ ZEs (qv 3) (ZEQ ZEq (qv 4) ZEM)) ZEL)))) ZEL))))), ?_⟩
  walk_at "s"
  walk_at "w"
  refine ⟨p, _, rfl, hp, g0, Int.lt_of_le_of_lt g1 (by decide), fun d1 H1 h1 h1' P1 K1 => ?_⟩
  walk_at "w"
  refine ⟨_, rfl, fun x hx => ?_⟩
  walk_at "w"
  exact k x H1 hx P1 K1
theorem ZHl : ZEV ["_law_pot_here", "_law_window_here", "_law_made", "_law_k", "_law_t"] ["_law_pot_here", "_law_window_here"] (ZEP ZJe) := ZEv
theorem ZPY (T : Txt K mg a) : ZEW P w K mg base CX0 3 a.ZAg a.ZAd ["_law_pot_here", "_law_window_here"] ZS1 := by
 refine T.ZBw.ok ZHl (by walk_at "l") (fun cdv A outer s H vs Q E hr h => ?_)
 ·obtain ⟨p, q, b, y, m, rfl, hp, hW, k⟩ := h
  have hu := ZHN hr
  have nqp : q ≠ p := fun z => by
   obtain ⟨u, v, e, _⟩ := hp
   have := hW.1
   rw [z, e] at this; cases this
  refine ⟨_, QB.h (ZEN (qsS (i := 2) ZHl.nd ZM4) (ZEN (ZGN PassesOwn.never rfl (ZGs rfl T.Zn (ZEK (qcS (ZEo T) hr.m T.ZL T.ZI.kp T.ZK (ZEK (qv 0) (ZEK ZEM ZEL))) ZEL)) (qgN (i := 3) ZHl.nd) (ZEN (qsS (i := 4) ZHl.nd (qcS (ZQ1 T) hr T.ZDD T.ZB8.kp T.ZDK (ZEK (qv 0) (ZEK (qv 1) ZEL)))) (ZEO (ZHF hu (qcS (ZOA T) hr T.ZCt T.ZBf.kp T.ZCk (ZEK (qv 0) ZEL)) (qv 2) (qv 4))))) (ZEO (ZEZ (qv 2))))), ?_⟩
  walk_at "s"
  walk_at "w"
  refine ZM7 fun d H1 n1 f1 S1 => ?_
  have P1 := hp.same S1
  have hned := hp.neN n1
  walk_at "w"
  refine ⟨p, _, rfl, P1, by decide, by decide, fun d2 H2 h2 h2' P2 K2 => ?_⟩
  have f2 := K2 _ _ f1 hned
  have KA : Kp p H H2 := (Kp.same S1).trans K2
  walk_at "w"
  refine ZIe (by omega) (by omega) (ZJq (fun i σ H' => (∃ v3 v4, σ = [some (.ref p), some (.ref q), some (.ref d), v3, v4]) ∧ Pot H' p ∧ Kp p H H' ∧ ∃ ps : PL, H' d = some (.dK (ZFL ps)) ∧ (ps.map (·.1)).Nodup ∧ ps.length ≤ i ∧ ∀ r ∈ ps, Tm r.1 ∧ -(10 ^ 59) < r.2 ∧ r.2 < 10 ^ 59) ?_ ?_ ?_)
  ·exact ⟨⟨_, _, rfl⟩, P2, KA, [], f2, List.nodup_nil, Nat.zero_le _, fun q hq => by simp at hq⟩
  ·rintro i σ H3 hi ⟨⟨v3, v4, rfl⟩, P3, K3, ps, f3, hnd, hl, hbp⟩
   have hlt : ps.length < sizeLine := by show _ < 2 ^ 24; omega
   walk_at "w"
   refine ⟨p, q, b, y, m, rfl, P3, ⟨K3 _ _ hW.1 nqp, hW.2⟩, fun t H4 ht P4 K4 => ?_⟩
   walk_at "w"
   refine ⟨p, rfl, P4, fun x H5 hx1 hx2 P5 K5 => ?_⟩
   have f5 := K5 _ _ (K4 _ _ f3 hned) hned
   walk_at "w"
   refine ZM6 f5 hlt fun H6 f6 K6 => ?_
   walk_at "w"
   exact ⟨⟨_, _, rfl⟩, P5.kp K6 hned.symm, fun c o e nc => K6 c o (K5 c o (K4 c o (K3 c o e nc) nc) nc) (ZEh e n1), _, f6, ZIw hnd, Nat.le_trans (ZM8 _ _ _) (by omega), ZSx _ hbp ⟨ht, hx1, hx2⟩⟩
  ·rintro σ H3 ⟨⟨v3, v4, rfl⟩, P3, K3, ps, f3, hnd, hl, hbp⟩
   walk_at "w"
   exact k d ps H3 n1 f3 hnd (by omega) hbp P3 K3
theorem ZGF : ZEV ["_law_pot_here", "_law_window_here", "_law_begin", "_law_wide", "_law_many", "_law_way", "_law_n", "_law_c"] ["_law_pot_here", "_law_window_here"] (ZEP ZKd) := ZEv
theorem ZQ2 (T : Txt K mg a) : ZEW P w K mg base CX0 2 a.ZBC a.ZBG ["_law_pot_here", "_law_window_here"] ZQ0 := by
 refine T.ZCO.ok ZGF (by walk_at "l") (fun cdv A outer s H vs Q E hr h => ?_)
 ·obtain ⟨p, q, b, y, m, rfl, hp, hW, k⟩ := h
  have hy2 := ZGI hW
  obtain ⟨hq, hy, hm1, hm2, hb, he⟩ := id hW
  have g3 : (3 : Nat) ≤ sizeLine := by decide
  refine ⟨_, QB.h (ZEN (ZFr (qv 1) (ZFU (n := 3) K rfl rfl (ZET (qgN (i := 2) ZGF.nd) (ZET (qgN (i := 3) ZGF.nd) (ZET (qgN (i := 4) ZGF.nd) ZFD))))) (ZEN (qsS (i := 5) ZGF.nd (qcS (ZEo T) hr T.ZL T.ZI.kp T.ZK (ZEK (qv 0) (ZEK ZEM ZEL)))) (ZEN (ZEm (ZEX (ZE7) (qv 5) ZEM (ZEc _)) (ZEO (ZEZ (ZEk (ZEK ZEn (ZEK ZEM (ZEK (ZEk (ZEK (qv 2) (ZEK (ZEQ ZEs ZEM (qv 3)) (ZEK (qv 4) ZEL)))) ZEL)))))) ZEl) (ZEN (ZEm (QW.pt (ZIg (ZEX (ZE7) (qv 5) ZEM (ZEc _)) (ZHn (ZEX (ZE7) (ZEQ ZGg (qv 3) ZEM) ZEM (ZEc _))))) (ZEO (ZEZ (ZEk (ZEK ZEn (ZEK ZEM (ZEK (ZEk (ZEK (qv 2) (ZEK (ZEQ ZF3 (qv 3) ZEM) (ZEK (qv 4) ZEL)))) ZEL)))))) ZEl) (ZEN (ZEm (ZEX (ZE7) (qv 5) ZEM (ZEc _)) (ZEN (qsS (i := 6) ZGF.nd (ZEQ ZEq ZEM (qcS (ZEo T) hr T.ZL T.ZI.kp T.ZK (ZEK (qv 0) (ZEK ZEM ZEL))))) (ZEO (ZEZ (ZEk (ZEK ZEn (ZEK (qv 6) (ZEK (ZEk (ZEK (qv 2) (ZEK (qv 3) (ZEK (qv 6) ZEL)))) ZEL))))))) ZEl) (ZEN (qsS (i := 7) ZGF.nd (ZEQ ZFP (qcS (ZEo T) hr T.ZL T.ZI.kp T.ZK (ZEK (qv 0) (ZEK ZEM ZEL))) ZEM)) (ZEN (ZEm (ZEX (ZE7) (qv 5) ZEM (ZEc _)) (ZEO (qsS (i := 7) ZGF.nd (ZEQ ZFP (qcS (ZEo T) hr T.ZL T.ZI.kp T.ZK (ZEK (qv 0) (ZEK (ZEQ ZFT ZEM ZEM) ZEL))) (ZEQ ZFT ZEM ZEM)))) ZEl) (ZEO (ZEZ (ZEk (ZEK ZEn (ZEK (qv 7) (ZEK (ZEk (ZEK (ZEQ ZEq (qv 2) (ZEQ ZEs (qv 7) (qv 3))) (ZEK (qv 3) (ZEK (qv 4) ZEL)))) ZEL))))))))))))), ?_⟩
  walk_at "s"
  walk_at "w"
  refine ⟨p, _, rfl, hp, by decide, by decide, fun d1 H1 h1 h1' P1 K1 => ?_⟩
  walk_at "w"
  rw [ZFk]
  refine ZE4 (fun e0 => ?_) (fun e0 => ?_)
  ·walk_at "w"
   refine ZES g3 fun w2 H2 n2 f2 S2 => ?_
   walk_at "w"
   refine ZES g3 fun u3 H3 n3 f3 S3 => ?_
   exact k u3 _ _ _ H3 ⟨_, _, w2, f3, S3 _ _ f2, .inl ⟨rfl, rfl, rfl, rfl⟩⟩ ((P1.same S2).same S3) ((K1.then S2).then S3)
  repeat walk_at "ri"
  refine ZLe (fun σ' H' => σ' = [some (.ref p), some (.ref q), some (.int b), some (.int y), some (.int m), some (.int d1), none, none] ∧ H' = H1) ?_ ?_
  ·rintro σ' H' ⟨rfl, rfl⟩
   walk_at "w"
   rw [ZFk]
   refine ZE4 (fun e2 => ?_) (fun e2 => ?_)
   ·walk_at "w"
    refine ⟨p, _, rfl, P1, by decide, by decide, fun d2 H2 h2 h2' P2 K2 => ?_⟩
    walk_at "w"
    refine ZES g3 fun w3 H3 n3 f3 S3 => ?_
    walk_at "w"
    refine ZES g3 fun u4 H4 n4 f4 S4 => ?_
    exact k u4 _ _ _ H4 ⟨_, _, w3, f4, S4 _ _ f3, .inr (.inr (.inl ⟨rfl, by omega, by omega, rfl, rfl, rfl⟩))⟩ ((P2.same S3).same S4) (((K1.trans K2).then S3).then S4)
   walk_at "w"
   refine ⟨p, _, rfl, P1, by decide, by decide, fun d2 H2 h2 h2' P2 K2 => ?_⟩
   walk_at "w"
   rw [ZFk]
   refine ZE4 (fun e3 => ?_) (fun e3 => ?_)
   ·walk_at "w"
    refine ⟨p, _, rfl, P2, by decide, by decide, fun d3 H3 h3 h3' P3 K3 => ?_⟩
    walk_at "w"
    refine ZES g3 fun w4 H4 n4 f4 S4 => ?_
    walk_at "w"
    refine ZES g3 fun u5 H5 n5 f5 S5 => ?_
    exact k u5 _ _ _ H5 ⟨_, _, w4, f5, S5 _ _ f4, .inr (.inr (.inr ⟨rfl, by omega, by omega, rfl, rfl, rfl⟩))⟩ ((P3.same S4).same S5) ((((K1.trans K2).trans K3).then S4).then S5)
   ·walk_at "w"
    refine ZES g3 fun w4 H4 n4 f4 S4 => ?_
    walk_at "w"
    refine ZES g3 fun u5 H5 n5 f5 S5 => ?_
    exact k u5 _ _ _ H5 ⟨_, _, w4, f5, S5 _ _ f4, .inr (.inr (.inr ⟨rfl, by omega, by omega, rfl, rfl, rfl⟩))⟩ ((P2.same S4).same S5) (((K1.trans K2).then S4).then S5)
  ·intro D' hrt hD'
   walk_at "w"
   rw [ZFk]
   refine ZE4 (fun e1 => ?_) (fun e1 => ?_)
   ·walk_at "w"
    rw [ZFk]
    refine ZE4 (fun e2 => ?_) (fun e2 => ?_)
    ·walk_at "w"
     refine ZES g3 fun w2 H2 n2 f2 S2 => ?_
     walk_at "w"
     refine ZES g3 fun u3 H3 n3 f3 S3 => ?_
     rw [hrt]
     exact k u3 _ _ _ H3 ⟨_, _, w2, f3, S3 _ _ f2, .inr (.inl ⟨rfl, e2, rfl, rfl, rfl⟩)⟩ ((P1.same S2).same S3) ((K1.then S2).then S3)
    ·walk_at "w"
     exact hD' _ _ ⟨rfl, rfl⟩
   ·walk_at "w"
    exact hD' _ _ ⟨rfl, rfl⟩
def ZWj (a : Ad) : Sp := fun vs H Q _ => ∃ (S : SA) (v d u : Addr) (b y m k n b' y' m' : Int) (kvs : List (List Key × V)) (e : Nat) (sm : PL) (c : Nat) (ds : List (Int × Option Int)) (ts : List Int) (ws : List V), vs = [.ref v, .ref u] ∧ ZEb a H S n sm c ds ts ws ∧ ZE8 a H S v d b y m k kvs e sm ts ∧ ts.length ≤ 10000 ∧ ZHW H u b y m b' y' m' ∧ ZIa b' y' m' ∧
 ZHS a H S v d k n kvs e sm c ds ts ws b' y' m' (fun _ H' => Q (.bl true) H')
theorem ZFS : ZEV ["_law_view_here", "_law_step_here", "_law_told_here"] ["_law_view_here", "_law_step_here"] (ZEP ZNb) := ZEv
theorem ZU7 (T : Txt K mg a) : ZEW P w K mg base CX0 7 a.Jp a.Jq ["_law_view_here", "_law_step_here"] (ZWj a) := by
 refine T.Jt.ok ZFS (by walk_at "l") (fun cdv A outer s H vs Q E hr h => ?_)
 ·obtain ⟨S, v, d, u, b, y, m, k, n, b', y', m', kvs, e, sm, c, ds, ts, ws, rfl, hS, hV, hlen, ⟨nm, j, q, hu1, hq, hst⟩, hw, kk⟩ := h
  obtain ⟨dx, q0, hv, hW, hd, hk, av, ad⟩ := id hV
  have hy2 := ZGI hW
  refine ⟨_, QB.h (ZEN (qsS (i := 2) ZFS.nd ZFl) (ZEN (ZEm (ZEX (ZE7) (ZEi (ZEj K rfl) (qv 1) ZEM) ZEn (ZEc _)) (ZEO (qsS (i := 2) ZFS.nd (ZFp (qv 0) T.ZF T.JZ (ZNk T) hr T.Ja .nil ZFc))) (ZEO (ZEm (ZEX (ZE7) (ZEi (ZEj K rfl) (qv 1) ZEM) ZEn (ZEc _)) (ZEO (qsS (i := 2) ZFS.nd (ZFp (qv 0) T.ZF T.Y0 (ZLp T) hr T.Y3 .nil ZFc))) (ZEO (ZEm (ZEX (ZE7) (ZEi (ZEj K rfl) (qv 1) ZEM) ZEn (ZEc _)) (ZEO (qsS (i := 2) ZFS.nd (ZFO (qv 0) T.ZF T.Yk (ZLO T) hr T.Yi .nil ZFc (ZEK (ZEi (ZEj K rfl) (qv 1) ZEM) ZEL)))) (ZEO (qsS (i := 2) ZFS.nd (ZFO (qv 0) T.ZF T.ZAT (ZPX T) hr T.ZAl .nil ZFc (ZEK (ZEi (ZEj K rfl) (qv 1) ZEM) ZEL))))))))) (ZEO (ZEZ (ZHB (ZJR) (qv 2) ZFl (ZEc _)))))), ?_⟩
  walk_at "s"
  walk_at "w"
  have ne1 : (("narrow" : Str) = "wide") = False := eq_false (by decide +kernel)
  have ne2 : (("columns" : Str) = "wide") = False := eq_false (by decide +kernel)
  have ne3 : (("on" : Str) = "wide") = False := eq_false (by decide +kernel)
  have ne4 : (("columns" : Str) = "narrow") = False := eq_false (by decide +kernel)
  have ne5 : (("on" : Str) = "narrow") = False := eq_false (by decide +kernel)
  have ne6 : (("on" : Str) = "columns") = False := eq_false (by decide +kernel)
  rcases hst with ⟨rfl, rfl, rfl, rfl⟩ | ⟨rfl, h2, rfl, rfl, rfl⟩ | ⟨rfl, h1, h2, rfl, rfl, rfl⟩ | ⟨rfl, h1, h2, rfl, rfl, rfl⟩
  ·refine ZFM ?_
   rw [decide_eq_true rfl]
   walk_at "w"
   refine ZFY ?_
   walk_at "w"
   refine ZEt hv ZFV ?_
   rw [Int.mul_comm] at hw kk
   refine ⟨S, v, d, b', y, m', k, n, kvs, e, sm, c, ds, ts, ws, rfl, hS, hV, hlen, hw, fun d' kvs1 kvs' H' n' g1 g2 g3 g4 g5 F => ?_⟩
   walk_at "w"
   exact kk d' kvs1 kvs' H' n' g1 g2 g3 g4 g5 F
  ·refine ZFM ?_
   rw [decide_eq_false (by rw [ne1]; exact id)]
   walk_at "w"
   refine ZE9 ?_
   walk_at "w"
   refine ZFM ?_
   rw [decide_eq_true rfl]
   walk_at "w"
   refine ZFY ?_
   walk_at "w"
   refine ZEt hv ZFV ?_
   refine ⟨S, v, d, b', y, m', k, n, kvs, e, sm, c, ds, ts, ws, rfl, hS, hV, hlen, h2, hw, fun d' kvs1 kvs' H' n' g1 g2 g3 g4 g5 F => ?_⟩
   walk_at "w"
   exact kk d' kvs1 kvs' H' n' g1 g2 g3 g4 g5 F
  ·refine ZFM ?_
   rw [decide_eq_false (by rw [ne2]; exact id)]
   walk_at "w"
   refine ZE9 ?_
   walk_at "w"
   refine ZFM ?_
   rw [decide_eq_false (by rw [ne4]; exact id)]
   walk_at "w"
   refine ZE9 ?_
   walk_at "w"
   refine ZFM ?_
   rw [decide_eq_true rfl]
   walk_at "w"
   refine ZFY ?_
   walk_at "w"
   refine ZEt hv ZFV ?_
   walk_at "w"
   refine ⟨S, v, d, b', y', m, k, n, m', kvs, e, sm, c, ds, ts, ws, rfl, hS, hV, hlen, hw, fun d' kvs1 kvs' H' n' g1 g2 g3 g4 g5 F => ?_⟩
   walk_at "w"
   exact kk d' kvs1 kvs' H' n' g1 g2 g3 g4 g5 F
  ·refine ZFM ?_
   rw [decide_eq_false (by rw [ne3]; exact id)]
   walk_at "w"
   refine ZE9 ?_
   walk_at "w"
   refine ZFM ?_
   rw [decide_eq_false (by rw [ne5]; exact id)]
   walk_at "w"
   refine ZE9 ?_
   walk_at "w"
   refine ZFM ?_
   rw [decide_eq_false (by rw [ne6]; exact id)]
   walk_at "w"
   refine ZE9 ?_
   walk_at "w"
   refine ZEt hv ZFV ?_
   walk_at "w"
   refine ⟨S, v, d, b, y', m', k, n, j, kvs, e, sm, c, ds, ts, ws, rfl, hS, hV, hlen, ZK4 (m := 54) (n := 43) (by unfold Bn; omega) (by have := hw.1; unfold Bn; omega) (by decide), hw, fun d' kvs1 kvs' H' n' g1 g2 g3 g4 g5 F => ?_⟩
   walk_at "w"
   exact kk d' kvs1 kvs' H' n' g1 g2 g3 g4 g5 F
end
theorem ZKG {cv : PL} (h : (cv.map (·.1)).Nodup) (f : Int × Int → Int) : (cv.map fun p => (f p, p.1)).Nodup := by
 unfold List.Nodup at *
 rw [List.pairwise_map] at *
 exact h.imp fun h z => h (congrArg (·.2) z)
theorem ZWk {cv lo hi : PL} {q0 q1 l0 h0 : Int × Int} (m0 : q0 ∈ cv) (b0 : ∀ r ∈ cv, ltP r q0 = false) (m1 : q1 ∈ cv) (b1 : ∀ r ∈ cv, ltP q1 r = false)
  (hl : lo.Perm (cv.map fun p => (p.2, p.1))) (hh : hi.Perm (cv.map fun p => (-p.2, p.1))) (sl : lo.Pairwise fun p q => ltP p q = true) (sh : hi.Pairwise fun p q => ltP p q = true) (f0 : lo[0]? = some l0) (g0 : hi[0]? = some h0) :
  Is4 cv (some [q0, q1, (l0.2, l0.1), (h0.2, -h0.1)]) := by
 have fst : ∀ {xs : PL} {x : Int × Int}, xs.Pairwise (fun p q => ltP p q = true) → xs[0]? = some x → x ∈ xs ∧ ∀ y ∈ xs, y = x ∨ ltP x y = true := by
  intro xs x hs hx
  cases xs with
  | nil => cases hx
  | cons z zs =>
   have : z = x := by simpa using hx
   subst this
   refine ⟨List.mem_cons_self .., fun y hy => ?_⟩
   rcases List.mem_cons.mp hy with rfl | hy
   ·exact .inl rfl
   ·exact .inr ((List.pairwise_cons.mp hs).1 y hy)
 obtain ⟨ml, bl⟩ := fst sl f0
 obtain ⟨mh, bh⟩ := fst sh g0
 obtain ⟨r2, hr2, er2⟩ := List.mem_map.mp (hl.mem_iff.mp ml)
 obtain ⟨r3, hr3, er3⟩ := List.mem_map.mp (hh.mem_iff.mp mh)
 have x2 : (l0.2, l0.1) = r2 := by rw [← er2]
 have x3 : (h0.2, -h0.1) = r3 := by rw [← er3]; simp
 rw [x2, x3]
 refine .inr ⟨q0, q1, r2, r3, rfl, m0, m1, hr2, hr3, fun p hp => ?_⟩
 have c0 := ZFf.mp (b0 p hp)
 have c1 := ZFf.mp (b1 p hp)
 have c2 := bl (p.2, p.1) (hl.mem_iff.mpr (List.mem_map.mpr ⟨_, hp, rfl⟩))
 have c3 := bh (-p.2, p.1) (hh.mem_iff.mpr (List.mem_map.mpr ⟨_, hp, rfl⟩))
 rw [← er2, ZFn, Prod.mk.injEq] at c2
 rw [← er3, ZFn, Prod.mk.injEq] at c3
 refine ⟨by omega, by omega, ?_, ?_⟩ <;> omega
section
variable {P : Program} {w : World} {K : W.Frag} {mg : Str → Option Value} {base : Heap} {a : Ad}
def ZS2 : Sp := fun vs H Q _ => ∃ (l : Addr) (m : PL), vs = [.ref l] ∧ PrL H l m ∧ (m.map (·.1)).Nodup ∧ m.length < 64 ∧
 ∀ (v : V) (o : Option (PL)) (H' : Hp), ZE0 H' v o → Is4 m o → ZEU H H' → Q v H'
theorem ZJm : ZEV ["_law_some", "_law_low", "_law_high"] ["_law_some"] (ZEP ZHy) := ZEv
theorem ZQ3 (T : Txt K mg a) : ZEW P w K mg base CX0 1 a.ZBK a.ZBI ["_law_some"] ZS2 := by
 refine T.ZCH.ok ZJm (by walk_at "l") (fun cdv A outer s H vs Q E hr h => ?_)
 ·obtain ⟨t, cv, rfl, hT, hnd, hlen, k⟩ := h
  have hu := ZHN hr
  have hu64 := hr.units
  refine ⟨_, QB.h (ZEN (ZEm (ZEX (ZSP K rfl hu) (qv 0) (ZF8 ZEL) (ZEc _)) (ZEO (ZEZ ZFl)) ZEl) (ZEN (qsS (i := 1) ZJm.nd (ZEi (ZF9 K rfl) (ZEe (ZK6 K rfl) rfl T.JC ZJQ (ZEK (ZGt (N := ["_law_some", "_law_low", "_law_high"]) (sc := ZEP ZHy) (own := ["_law_t", "_law_h"]) (caps := []) (ks := []) rfl rfl rfl ⟨rfl, by decide +kernel, by decide +kernel, by decide +kernel, by decide +kernel, rfl, by decide +kernel⟩ (ZGR K rfl (qv 0)) (fun _ _ _ _ _ => ZFU (n := 2) K rfl rfl (ZET (ZF0 (i := 0) (show List.Nodup (α := Str) ["_law_t", "_law_h"] from by decide +kernel) rfl (by walk_at "o") (.inr rfl)) (ZET (ZF0 (i := 1) (show List.Nodup (α := Str) ["_law_t", "_law_h"] from by decide +kernel) rfl (by walk_at "o") (.inr rfl)) ZFD))) (fun _ _ _ _ _ => ZHC) (fun _ _ _ _ _ => ZEk (ZEK (qv 1) (ZEK (qv 0) ZEL)))) ZEL)) ZEM)) (ZEN (qsS (i := 2) ZJm.nd (ZEi (ZF9 K rfl) (ZEe (ZK6 K rfl) rfl T.JC ZJQ (ZEK (ZGt (N := ["_law_some", "_law_low", "_law_high"]) (sc := ZEP ZHy) (own := ["_law_t", "_law_h"]) (caps := []) (ks := []) rfl rfl rfl ⟨rfl, by decide +kernel, by decide +kernel, by decide +kernel, by decide +kernel, rfl, by decide +kernel⟩ (ZGR K rfl (qv 0)) (fun _ _ _ _ _ => ZFU (n := 2) K rfl rfl (ZET (ZF0 (i := 0) (show List.Nodup (α := Str) ["_law_t", "_law_h"] from by decide +kernel) rfl (by walk_at "o") (.inr rfl)) (ZET (ZF0 (i := 1) (show List.Nodup (α := Str) ["_law_t", "_law_h"] from by decide +kernel) rfl (by walk_at "o") (.inr rfl)) ZFD))) (fun _ _ _ _ _ => ZHC) (fun _ _ _ _ _ => ZEk (ZEK (ZHg ZGv (qv 1)) (ZEK (qv 0) ZEL)))) ZEL)) ZEM)) (ZEO (ZEZ (ZEk (ZEK (ZEe (ZUd K rfl rfl hu) rfl T.Jz ZJP (ZEK (qv 0) ZEL)) (ZEK (ZEe (ZUf K rfl rfl hu) rfl T.ZAt ZKy (ZEK (qv 0) ZEL)) (ZEK (ZEk (ZEK (ZEi (ZEj K rfl) (qv 1) ZEM) (ZEK (ZEi (ZEj K rfl) (qv 1) ZEM) ZEL))) (ZEK (ZEk (ZEK (ZEi (ZEj K rfl) (qv 2) ZEM) (ZEK (ZHg ZGv (ZEi (ZEj K rfl) (qv 2) ZEM)) ZEL))) ZEL)))))))))), ?_⟩
  walk_at "s"
  walk_at "w"
  refine ZES (by show 0 ≤ sizeLine; decide) fun e0 H0 n0 f0 S0 => ?_
  obtain ⟨us, gT0, pT0⟩ := hT
  have gT := S0 _ _ gT0
  have pT := pT0.same S0
  have hul : us.length = cv.length := pT.length
  refine ZSQ (SqL.of gT) (SqL.of f0) ?_
  by_cases hne : cv = []
  ·have : us = [] := List.length_eq_zero_iff.mp (by rw [hul, hne]; rfl)
   rw [this]
   walk_at "w"
   refine ZFY ?_
   walk_at "w"
   exact k _ none H0 .non (.inl ⟨rfl, hne⟩) S0
  have hpos : 0 < cv.length := List.length_pos_iff.mpr hne
  rw [show us.isEmpty = false by cases us with | nil => simp at hul; omega | cons _ _ => rfl]
  walk_at "w"
  refine ZE9 ?_
  walk_at "w"
  intro l n1
  refine ZGr cv.length (fun i' σ' H' => (∃ o1 o2, σ' = [o1, o2]) ∧ ZEU H0 H' ∧ ∃ vs, H' l = some (.lst vs) ∧ ZEY H' vs ((cv.take i').map fun p => (p.2, p.1))) ?_ ?_ ?_
  ·exact ⟨⟨none, none, rfl⟩, ZEU.new n1, [], ZEa, .nil⟩
  ·rintro σ' H1 ⟨_, S1, vs1, f1, hP1⟩
   refine ⟨⟨_, SqL.of (S1 _ _ gT), by rw [hul]; exact Nat.le_refl _⟩, ?_⟩
   rw [List.take_length] at hP1
   walk_at "w"
   refine ZK7 (SqL.of f1) hP1 (ZKG hnd fun p => p.2) (by rw [List.length_map]; exact hlen) fun l2 us2 lo H2 n2 f2 hP2 perm2 pw2 S2 => ?_
   have hlo : lo.length = cv.length := by rw [perm2.length_eq, List.length_map]
   obtain ⟨c2, p2, ec2, hp2, hc2⟩ := hP2.at (List.getElem?_eq_getElem (show 0 < us2.length by rw [hP2.length, hlo]; exact hpos))
   have hx2 : us2[0]? = some (.ref c2) := by rw [List.getElem?_eq_getElem (show 0 < us2.length by rw [hP2.length, hlo]; exact hpos), ec2]
   walk_at "w"
   refine ZJS (SqL.of f2) (ZIb (j := 0) hx2) ?_
   have S02 := S1.trans S2
   have gT2 := S02 _ _ gT
   walk_at "w"
   intro l3 n3
   refine ZGr cv.length (fun i' σ' H' => (∃ o1 o2, σ' = [o1, o2]) ∧ ZEU H2 H' ∧ ∃ vs, H' l3 = some (.lst vs) ∧ ZEY H' vs ((cv.take i').map fun p => (-p.2, p.1))) ?_ ?_ ?_
   ·exact ⟨⟨none, none, rfl⟩, ZEU.new n3, [], ZEa, .nil⟩
   ·rintro σ'' H3 ⟨_, S3, vs3, f3, hP3⟩
    have S03 := S02.trans S3
    refine ⟨⟨_, SqL.of (S03 _ _ gT), by rw [hul]; exact Nat.le_refl _⟩, ?_⟩
    rw [List.take_length] at hP3
    walk_at "w"
    refine ZK7 (SqL.of f3) hP3 (ZKG hnd fun p => -p.2) (by rw [List.length_map]; exact hlen) fun l4 us4 hi H4 n4 f4 hP4 perm4 pw4 S4 => ?_
    have hhi : hi.length = cv.length := by rw [perm4.length_eq, List.length_map]
    obtain ⟨c4, p4, ec4, hp4, hc4⟩ := hP4.at (List.getElem?_eq_getElem (show 0 < us4.length by rw [hP4.length, hhi]; exact hpos))
    have hx4 : us4[0]? = some (.ref c4) := by rw [List.getElem?_eq_getElem (show 0 < us4.length by rw [hP4.length, hhi]; exact hpos), ec4]
    walk_at "w"
    refine ZJS (SqL.of f4) (ZIb (j := 0) hx4) ?_
    have S04 := S03.trans S4
    have hT4 : PrL H4 t cv := ⟨us, S04 _ _ gT, pT.same S04⟩
    have hc2' := S4 _ _ (S3 _ _ hc2)
    walk_at "w"
    refine ZUe hT4 hne fun c0 q0 m0 hc0 b0 => ?_
    walk_at "w"
    refine ZUg hT4 hne fun c1 q1 m1 hc1 b1 => ?_
    walk_at "w"
    refine ZES (by show 2 ≤ sizeLine; decide) fun c5 H5 n5 f5 S5 => ?_
    have hc4' := S5 _ _ hc4
    walk_at "w"
    refine ZES (by show 2 ≤ sizeLine; decide) fun c6 H6 n6 f6 S6 => ?_
    walk_at "w"
    refine ZES (by show 4 ≤ sizeLine; decide) fun c7 H7 n7 f7 S7 => ?_
    have S47 := S5.trans (S6.trans S7)
    have hP7 : ZEY H7 [.ref c0, .ref c1, .ref c5, .ref c6] [q0, q1, (p2.2, p2.1), (p4.2, -p4.1)] := .cons ⟨c0, rfl, S47 _ _ hc0⟩ (.cons ⟨c1, rfl, S47 _ _ hc1⟩ (.cons ⟨c5, rfl, S7 _ _ (S6 _ _ f5)⟩ (.cons ⟨c6, rfl, S7 _ _ f6⟩ .nil)))
    exact k _ (some [q0, q1, (p2.2, p2.1), (p4.2, -p4.1)]) H7 (.pr ⟨_, f7, hP7⟩ rfl) (ZWk m0 b0 m1 b1 perm2 perm4 pw2 pw4 hp2 hp4) (S0.trans (S04.trans S47))
   ·rintro i' σ'' H3 hi' ⟨⟨o1, o2, rfl⟩, S3, vs, f, hPc⟩
    have S03 := S02.trans S3
    have hi2 : i' < us.length := by rw [hul]; exact hi'
    refine ⟨⟨_, _, SqL.of (S03 _ _ gT), List.getElem?_eq_getElem hi2⟩, ?_⟩
    rintro v H'' ⟨rfl, hv⟩
    have hv := hv _ (SqL.of (S03 _ _ gT))
    obtain ⟨c, q, rfl, hq, hc⟩ := (pT.same S03).at hv
    have e3 : (cv.take (i' + 1)).map (fun p => (-p.2, p.1)) = (cv.take i').map (fun p => (-p.2, p.1)) ++ [(-q.2, q.1)] := by rw [List.take_succ, hq, List.map_append]; rfl
    walk_at "w"
    refine ZFY ?_
    walk_at "w"
    refine ZES (by show 2 ≤ sizeLine; decide) fun t4 H4 n4 f4 S4 => ?_
    refine ⟨vs, S4 _ _ f, ?_, ⟨_, _, rfl⟩, (S3.trans S4).kpN n3 Kp.upd, _, ZEa, ?_⟩
    ·rw [hPc.length, List.length_map, List.length_take]
     exact Nat.lt_of_le_of_lt (Nat.min_le_left _ _) (Nat.lt_of_lt_of_le (show i' < 64 by omega) (by decide))
    ·rw [e3]
     exact ZEY.kpL Kp.upd (S4 _ _ f) ((hPc.same S4).snoc (p := (-q.2, q.1)) f4)
  ·rintro i' σ' H1 hi' ⟨⟨o1, o2, rfl⟩, S1, vs, f, hPc⟩
   have hi2 : i' < us.length := by rw [hul]; exact hi'
   refine ⟨⟨_, _, SqL.of (S1 _ _ gT), List.getElem?_eq_getElem hi2⟩, ?_⟩
   rintro v H'' ⟨rfl, hv⟩
   have hv := hv _ (SqL.of (S1 _ _ gT))
   obtain ⟨c, q, rfl, hq, hc⟩ := (pT.same S1).at hv
   have e3 : (cv.take (i' + 1)).map (fun p => (p.2, p.1)) = (cv.take i').map (fun p => (p.2, p.1)) ++ [(q.2, q.1)] := by rw [List.take_succ, hq, List.map_append]; rfl
   walk_at "w"
   refine ZFY ?_
   walk_at "w"
   refine ZES (by show 2 ≤ sizeLine; decide) fun t4 H4 n4 f4 S4 => ?_
   refine ⟨vs, S4 _ _ f, ?_, ⟨_, _, rfl⟩, (S1.trans S4).kpN n1 Kp.upd, _, ZEa, ?_⟩
   ·rw [hPc.length, List.length_map, List.length_take]
    exact Nat.lt_of_le_of_lt (Nat.min_le_left _ _) (Nat.lt_of_lt_of_le (show i' < 64 by omega) (by decide))
   ·rw [e3]
    exact ZEY.kpL Kp.upd (S4 _ _ f) ((hPc.same S4).snoc (p := (q.2, q.1)) f4)
def ZS3 : Sp := fun vs H Q _ => ∃ (d q : Addr) (m : PL) (b y k : Int), vs = [.ref d, .ref q] ∧ H d = some (.dK (ZFL m)) ∧ (m.map (·.1)).Nodup ∧ m.length < 64 ∧ ZFz H q b y k ∧
 ∀ (u : Addr) (us : List V) (fs : List (Option (PL))) (H' : Hp), H' u = some (.tup us) → ZFE H' us fs → ZHU m b y k.toNat fs → ZEU H H' → Q (.ref u) H'
theorem ZGK : ZEV ["_law_made", "_law_window_here", "_law_begin", "_law_wide", "_law_many", "_law_columns", "_law_k", "_law_first"] ["_law_made", "_law_window_here"] (ZEP ZIF) := ZEv
theorem ZLP (T : Txt K mg a) : ZEW P w K mg base CX0 2 a.ZAs a.ZAo ["_law_made", "_law_window_here"] ZS3 := by
 refine T.ZAU.ok ZGK (by walk_at "l") (fun cdv A outer s H vs Q E hr h => ?_)
 ·obtain ⟨d, q, m, b, y, kk, rfl, hd, hnd, hlen, ⟨hq, hy, hk1, hk2, _⟩, k⟩ := h
  have hu := ZHN hr
  have hu64 := hr.units
  refine ⟨_, QB.h (ZEN (ZFr (qv 1) (ZFU (n := 3) K rfl rfl (ZET (qgN (i := 2) ZGK.nd) (ZET (qgN (i := 3) ZGK.nd) (ZET (qgN (i := 4) ZGK.nd) ZFD))))) (ZEN (qsS (i := 5) ZGK.nd (ZF8 ZEL)) (ZEN (ZGN PassesOwn.never rfl (ZGs rfl T.Zn (ZEK (qv 4) ZEL)) (qgN (i := 6) ZGK.nd) (ZEN (qsS (i := 7) ZGK.nd (ZEQ ZEq (qv 2) (ZEQ ZEs (qv 6) (qv 3)))) (ZEO (ZEu (ZO2 PySem.F.plainAttrs_list PySem.F.slot_list_append PySem.F.type_list_append ZH9 (qv 5) (ZEK (qcS (ZQ3 T) hr T.ZDL T.ZCH.kp T.ZDH (ZEK (ZUb (ZGt (N := ["_law_made", "_law_window_here", "_law_begin", "_law_wide", "_law_many", "_law_columns", "_law_k", "_law_first"]) (sc := ZEP ZIF) (own := ["_law_t"]) (caps := ["_law_made", "_law_first", "_law_wide"]) (ks := [0, 7, 3]) rfl rfl rfl ⟨rfl, by decide +kernel, by decide +kernel, by decide +kernel, by decide +kernel, rfl, by decide +kernel⟩ (ZUa (qv 0)) (fun _ _ _ _ _ => ZF0 (i := 0) (show List.Nodup (α := Str) ["_law_t", "_law_made", "_law_first", "_law_wide"] from by decide +kernel) rfl (by walk_at "o") (.inr rfl)) (fun _ _ _ _ _ => ZMv (ZKM ZH8 ZKm (qv 2) (qv 0) (ZEQ ZEq (qv 2) (qv 3)))) (fun _ _ _ _ _ => ZEk (ZEK (qv 0) (ZEK (ZHo hu (qv 1) (qv 0)) ZEL))))) ZEL)) ZEL)))))) (ZEO (ZEZ (ZGc (ZHD K rfl) rfl T.YF ZG9 (ZEK (qv 5) ZEL))))))), ?_⟩
  walk_at "s"
  walk_at "w"
  refine ZES (by show 0 ≤ sizeLine; decide) fun l H1 n1 f1 S1 => ?_
  walk_at "w"
  refine ZIe (by omega) (by omega) (ZJq (fun i σ H' => (∃ v6 v7, σ = [some (.ref d), some (.ref q), some (.int b), some (.int y), some (.int kk), some (.ref l), v6, v7]) ∧ ZEU H H' ∧ ∃ vs fs, H' l = some (.lst vs) ∧ ZFE H' vs fs ∧ fs.length = i ∧ ∀ (k : Nat) o, fs[k]? = some o → Is4 (ZFF m (b + (k : Int) * y) (b + (k : Int) * y + y)) o) ?_ ?_ ?_)
  ·exact ⟨⟨_, _, rfl⟩, S1, [], [], f1, .nil, rfl, fun k o h => by simp at h⟩
  ·rintro i σ H2 hi ⟨⟨v6, v7, rfl⟩, S2, vs, fs, f2, hF2, hfl, hO2⟩
   have e0 : (0 + (i : Int)) = (i : Int) := by omega
   have hi2 : (i : Int) < 100 := by omega
   rw [e0]
   walk_at "w"
   generalize hx : b + (i : Int) * y = x
   refine ⟨tyL f2, ?_⟩
   walk_at "w"
   have hd2 := S2 _ _ hd
   refine ZWY hd2 fun o H3 nf f3 K3 => ?_
   intro l4 n4
   have nl4 : l4 ≠ d := fun z => by rw [z, f3] at n4; cases n4
   refine ZGr m.length (fun i' σ' H' => (∃ o, σ' = [o, some (.ref d), some (.int x), some (.int y)]) ∧ ZEU H3 H' ∧ ∃ vs, H' l4 = some (.lst vs) ∧ ZEY H' vs (ZFF (m.take i') x (x + y))) ?_ ?_ ?_
   ·exact ⟨⟨none, rfl⟩, ZEU.new n4, [], ZEa, .nil⟩
   ·rintro σ' H4 ⟨_, S4, vs4, f4, hP4⟩
    refine ⟨⟨S4 _ _ f3, by simp [ZFL]⟩, ?_⟩
    rw [List.take_length] at hP4
    refine ZUc nf (S4 _ _ f3) fun H5 f5 K5 => ?_
    have S25 : ZEU H2 H5 := fun b o e => by
     by_cases z : b = d
     ·subst z; rw [hd2] at e; cases e; exact f5
     ·exact K5 _ _ (S4 _ _ (K3 _ _ e z)) z
    have hP5 : ZEY H5 vs4 (ZFF m x (x + y)) := Paired.mapP hP4 fun _ _ ⟨b, e, z⟩ => ⟨b, e, K5 _ _ z (fun c => by rw [c, S4 _ _ f3] at z; cases z)⟩
    have f45 := K5 _ _ f4 nl4
    walk_at "w"
    refine ⟨l4, ZFF m x (x + y), rfl, ⟨vs4, f45, hP5⟩, hnd.sublist ((List.filter_sublist).map _), Nat.lt_of_le_of_lt (List.length_filter_le _ _) hlen, fun fv o7 H7 hf7 ho7 S7 => ?_⟩
    have f27 := S7 _ _ (S25 _ _ f2)
    walk_at "w"
    refine ZJT f27 (by rw [hF2.len, hfl]; exact Nat.lt_of_lt_of_le (show i < 1000 by omega) (by decide)) fun H8 f8 K8 => ?_
    walk_at "w"
    refine ⟨⟨_, _, rfl⟩, ?_, vs ++ [fv], fs ++ [o7], f8, (((hF2.same S25).same S7).snoc hf7).mapP fun _ _ d => d.kpL K8 f27, by simp [hfl], ?_⟩
    ·exact fun b o e => K8 _ _ (S7 _ _ (S25 _ _ (S2 _ _ e))) (ZEh e n1)
    ·intro k' o' h'
     rw [List.getElem?_append] at h'
     split at h'
     ·exact hO2 k' o' h'
     ·have : k' = i := by
       have := (List.getElem?_eq_some_iff.mp h').1
       simp at this
       omega
      subst this
      rw [hfl, Nat.sub_self] at h'
      have : o7 = o' := by simpa using h'
      subst this
      rw [hx]
      exact ho7
   ·rintro i' σ' H4 hi' ⟨⟨o4, rfl⟩, S4, vs4, f4, hPc⟩
    refine ⟨⟨S4 _ _ f3, by simpa [ZFL] using hi'⟩, ?_⟩
    rintro v H'' ⟨rfl, p', hp', rfl⟩
    have hq1 : m[i']? = some m[i'] := List.getElem?_eq_getElem hi'
    rw [ZW5 hi'] at hp'
    cases hp'
    have hg : ZFe m m[i'].1 = some m[i'].2 := (ZGW hnd).mpr (List.getElem_mem hi')
    have e4 := ZPJ (x := x) (z := x + y) hq1
    show ZHe 0 (.int m[i'].1) _ _ _
    walk_at "w"
    refine ZE4 (fun h1 => ?_) (fun h1 => ?_)
    ·walk_at "w"
     refine ZE4 (fun h2 => ?_) (fun h2 => ?_)
     ·walk_at "w"
      refine ZSU (S4 _ _ f3) hg ?_
      walk_at "w"
      refine ZES (by show 2 ≤ sizeLine; decide) fun c5 H5 n5 hc5 S5 => ?_
      have f45 := S5 _ _ f4
      refine ⟨vs4, f45, ?_, ⟨_, rfl⟩, (S4.trans S5).kpN n4 Kp.upd, _, ZEa, ?_⟩
      ·rw [hPc.length]
       refine Nat.lt_of_le_of_lt (List.length_filter_le _ _) ?_
       rw [List.length_take]
       exact Nat.lt_of_le_of_lt (Nat.min_le_left _ _) (Nat.lt_of_lt_of_le (show i' < 64 by omega) (by decide))
      ·rw [e4, decide_eq_true h1, decide_eq_true h2, Bool.and_self, if_pos rfl]
       exact ZEY.kpL Kp.upd f45 ((hPc.same S5).snoc hc5)
     ·refine ⟨⟨_, rfl⟩, S4, vs4, f4, ?_⟩
      rw [e4, decide_eq_false h2, Bool.and_false, if_neg (by decide), List.append_nil]
      exact hPc
    ·walk_at "w"
     refine ZE9 ?_
     refine ⟨⟨_, rfl⟩, S4, vs4, f4, ?_⟩
     rw [e4, decide_eq_false h1, Bool.false_and, if_neg (by decide), List.append_nil]
     exact hPc
  ·rintro σ H2 ⟨⟨v6, v7, rfl⟩, S2, vs, fs, f2, hF2, hfl, hO2⟩
   walk_at "w"
   refine ZHm (SqL.of f2) fun u H3 n3 f3 S3 => ?_
   exact k u vs fs H3 f3 (hF2.same S3) ⟨hfl, hO2⟩ (S2.trans S3)
end
def cols (kvs : List (List Key × V)) (b y : Int) (N : Nat) : List Nat := (List.range N).filter fun (j : Nat) => has kvs (b + (j : Int) * y) (b + (j : Int) * y + y)
theorem ZS4 {kvs : List (List Key × V)} {b y : Int} {N j : Nat} : j ∈ cols kvs b y N ↔ j < N ∧ has kvs (b + (j : Int) * y) (b + (j : Int) * y + y) = true := by
 unfold cols
 rw [List.mem_filter, List.mem_range]
theorem ZIO (kvs : List (List Key × V)) (b y : Int) (N : Nat) : ZGE kvs b y N + (cols kvs b y N).length = N := by
 induction N with
 | zero => rfl
 | succ n ih =>
  rw [ZL6]
  unfold cols at ih ⊢
  rw [List.range_succ, List.filter_append, List.length_append]
  cases hh : has kvs (b + (n : Int) * y) (b + (n : Int) * y + y) with
  | true => rw [List.filter_cons_of_pos (by simp [hh]), if_pos rfl]; simp only [List.filter_nil, List.length_cons, List.length_nil]; omega
  | false => rw [List.filter_cons_of_neg (by simp [hh]), if_neg (by decide)]; simp only [List.filter_nil, List.length_nil]; omega
def ZU8 : Sp := fun vs H Q _ => ∃ (u q l : Addr) (b y m b' y' m' : Int) (ks : List Nat), vs = [.ref u, .ref q, .ref l] ∧ ZHW H u b y m b' y' m' ∧ ZFz H q b y m ∧ ZIa b' y' m' ∧ H l = some (.lst (ZFu ks)) ∧ ks.Nodup ∧ ks.length ≤ 1000 ∧ (∀ j ∈ ks, (j : Int) < m) ∧
 ∀ (l' : Addr) (H' : Hp), H l' = none → H' l' = some (.lst (ZFu ((List.range m'.toNat).filter fun (k : Nat) => (decide (y' = 2 * y) && (decide (2 * k ∈ ks) && decide (2 * k + 1 ∈ ks))) || ks.any fun (j : Nat) => decide (y' = y ∧ b' + (k : Int) * y' = b + (j : Int) * y')))) → ZEU H H' → Q (.ref l') H'
theorem ZQ4 {b y m : Int} (h : ZIa b y m) : y ≤ 2199023255552 := by
 obtain ⟨hy, h1, h2, hb, he⟩ := h
 have : 0 ≤ (m - 1) * y := Int.mul_nonneg (by omega) (by omega)
 rw [Int.sub_mul, Int.one_mul] at this
 unfold InT at hb he
 omega
theorem ZJn (f : Nat → Bool) (i : Nat) : (List.range (i + 1)).filter f = (List.range i).filter f ++ (if f i = true then [i] else []) := by
 rw [List.range_succ, List.filter_append]
 congr 1
 by_cases h : f i = true
 ·rw [if_pos h, List.filter_cons_of_pos h]; rfl
 ·rw [if_neg h, List.filter_cons_of_neg h]; rfl
theorem ZNn (l r : List Nat) : ZFu (l ++ r) = ZFu l ++ ZFu r := List.map_append
section
variable {P : Program} {w : World} {K : W.Frag} {mg : Str → Option Value} {base : Heap} {a : Ad}
theorem ZGL : ZEV ["_law_step_here", "_law_window_here", "_law_known_here", "_law_begin", "_law_wide", "_law_many", "_law_found", "_law_k", "_law_j"] ["_law_step_here", "_law_window_here", "_law_known_here"] (ZEP ZIG) := ZEv
theorem ZPZ (T : Txt K mg a) : ZEW P w K mg base CX0 1 a.ZAR a.ZAk ["_law_step_here", "_law_window_here", "_law_known_here"] ZU8 := by
 refine T.ZBq.ok ZGL (by walk_at "l") (fun cdv A outer s H vs Q E hr h => ?_)
 ·obtain ⟨u, q, l, b, y, m, b', y', m', ks, rfl, ⟨nm, j, q2, hu1, hq2, hst⟩, hW, hw, hl, hnd, hkl, hks, kk⟩ := h
  have hy2 := ZGI hW
  obtain ⟨hq, hy, hm1, hm2, hb, he⟩ := id hW
  obtain ⟨hy', hm1', hm2', hb', he'⟩ := id hw
  refine ⟨_, QB.h (ZEN (ZFr (ZEi (ZEj K rfl) (qv 0) ZEM) (ZFU (n := 3) K rfl rfl (ZET (qgN (i := 3) ZGL.nd) (ZET (qgN (i := 4) ZGL.nd) (ZET (qgN (i := 5) ZGL.nd) ZFD))))) (ZEN (ZEm (ZEX (ZE7) (ZEi (ZEj K rfl) (qv 0) ZEM) ZEn (ZEc _)) (ZEO (ZEZ (ZGt (N := ["_law_step_here", "_law_window_here", "_law_known_here", "_law_begin", "_law_wide", "_law_many", "_law_found", "_law_k", "_law_j"]) (sc := ZEP ZIG) (own := ["_law_k"]) (caps := ["_law_known_here"]) (ks := [2]) rfl rfl rfl ⟨rfl, by decide +kernel, by decide +kernel, by decide +kernel, by decide +kernel, rfl, by decide +kernel⟩ (ZGs rfl T.Zn (ZEK (qv 5) ZEL)) (fun _ _ _ _ _ => ZF0 (i := 0) (show List.Nodup (α := Str) ["_law_k", "_law_known_here"] from by decide +kernel) rfl (by walk_at "o") (.inr rfl)) (fun _ _ _ _ _ => ZMv (QW.pt (ZIg (ZEX (ZQl K rfl) (ZEQ ZEs ZEM (qv 0)) (qv 1) (by with_unfolding_all rfl)) (ZHn (ZEX (ZQl K rfl) (ZEQ ZEq (ZEQ ZEs ZEM (qv 0)) ZEM) (qv 1) (by with_unfolding_all rfl)))))) (fun _ _ _ _ _ => qv 0)))) ZEl) (ZEN (qsS (i := 6) ZGL.nd (ZF8 ZEL)) (ZEN (ZGN PassesOwn.never rfl (ZGs rfl T.Zn (ZEK (qv 5) ZEL)) (qgN (i := 7) ZGL.nd) (ZEO (ZGN PassesOwn.never rfl (ZGR K rfl (qv 2)) (qgN (i := 8) ZGL.nd) (ZEO (ZEm (QW.pt (ZIg (ZEX (ZE7) (qv 4) (ZEi (ZEj K rfl) (qv 1) ZEM) (ZEc _)) (ZHn (ZEX (ZE7) (ZEQ ZEq (qv 3) (ZEQ ZEs (qv 7) (qv 4))) (ZEQ ZEq (ZEi (ZEj K rfl) (qv 1) ZEM) (ZEQ ZEs (qv 8) (qv 4))) (ZEc _))))) (ZEO (ZEu (ZO2 PySem.F.plainAttrs_list PySem.F.slot_list_append PySem.F.type_list_append ZH9 (qv 6) (ZEK (qv 7) ZEL)))) ZEl))))) (ZEO (ZEZ (qv 6))))))), ?_⟩
  walk_at "s"
  walk_at "w"
  refine ZFM ?_
  by_cases hwd : nm = "wide"
  ·rw [decide_eq_true hwd]
   walk_at "w"
   refine ZFY ?_
   walk_at "w"
   have hy3 : y' = 2 * y := by
    rcases hst with ⟨_, _, h, _⟩ | ⟨h, _⟩ | ⟨h, _⟩ | ⟨h, _⟩
    ·exact h
    all_goals (rw [hwd] at h; exact absurd h (by decide +kernel))
   have hP : ∀ k : Nat, ((decide (y' = 2 * y) && (decide (2 * k ∈ ks) && decide (2 * k + 1 ∈ ks))) || ks.any fun (j : Nat) => decide (y' = y ∧ b' + (k : Int) * y' = b + (j : Int) * y')) = (decide (2 * k ∈ ks) && decide (2 * k + 1 ∈ ks)) := fun k => by
    rw [decide_eq_true hy3, Bool.true_and]
    have : (ks.any fun (j : Nat) => decide (y' = y ∧ b' + (k : Int) * y' = b + (j : Int) * y')) = false := by
     rw [List.any_eq_false]
     intro j _
     rw [decide_eq_true_iff]
     rintro ⟨h, _⟩
     omega
    rw [this, Bool.or_false]
   refine ZIe (by omega) (by omega) ?_
   intro l2 n2
   refine ZGr m'.toNat (fun i σ' H' => (∃ o, σ' = [o, some (.ref l)]) ∧ ZEU H H' ∧ H' l2 = some (.lst (ZFu ((List.range i).filter fun (k : Nat) => decide (2 * k ∈ ks) && decide (2 * k + 1 ∈ ks))))) ?_ ?_ ?_
   ·exact ⟨⟨none, rfl⟩, ZEU.new n2, ZEa⟩
   ·rintro σ' H2 ⟨_, S2, f2⟩
    refine ⟨Nat.le_refl _, ?_⟩
    walk_at "w"
    refine kk l2 H2 n2 ?_ S2
    rw [f2]
    congr 4
    funext k
    exact (hP k).symm
   ·rintro i σ' H2 hi ⟨⟨o, rfl⟩, S2, f2⟩
    refine ⟨hi, ?_⟩
    rintro x H'' ⟨rfl, rfl⟩
    have hl2 := S2 _ _ hl
    have hle := List.length_filter_le (fun (k : Nat) => decide (2 * k ∈ ks) && decide (2 * k + 1 ∈ ks)) (List.range i)
    rw [List.length_range] at hle
    have skip : (decide (2 * i ∈ ks) && decide (2 * i + 1 ∈ ks)) = false → (List.range (i + 1)).filter (fun (k : Nat) => decide (2 * k ∈ ks) && decide (2 * k + 1 ∈ ks)) = (List.range i).filter fun (k : Nat) => decide (2 * k ∈ ks) && decide (2 * k + 1 ∈ ks) := fun h => by
     rw [ZJn, if_neg (by rw [h]; decide), List.append_nil]
    walk_at "w"
    refine ZQn (k := 2 * i) (by omega) hl2 ?_
    by_cases c1 : 2 * i ∈ ks
    ·rw [decide_eq_true c1]
     walk_at "w"
     refine ZFY ?_
     walk_at "w"
     refine ZQn (k := 2 * i + 1) (by omega) hl2 ?_
     by_cases c2 : 2 * i + 1 ∈ ks
     ·rw [decide_eq_true c2]
      walk_at "w"
      refine ZFY ?_
      walk_at "w"
      refine ⟨_, f2, ?_, ⟨_, rfl⟩, S2.kpN n2 Kp.upd, ?_⟩
      ·unfold ZFu
       rw [List.length_map]
       show _ < 2 ^ 24
       omega
      ·rw [ZJn, if_pos (by rw [decide_eq_true c1, decide_eq_true c2]; rfl), ZNn]
       have e0 : (0 + (i : Int)) = (i : Int) := by omega
       rw [e0]
       exact ZEa
     ·rw [decide_eq_false c2]
      walk_at "w"
      refine ZE9 ?_
      refine ⟨⟨_, rfl⟩, S2, ?_⟩
      rw [skip (by rw [decide_eq_false c2, Bool.and_false])]
      exact f2
    ·rw [decide_eq_false c1]
     walk_at "w"
     refine ZE9 ?_
     walk_at "w"
     refine ⟨⟨_, rfl⟩, S2, ?_⟩
     rw [skip (by rw [decide_eq_false c1, Bool.false_and])]
     exact f2
  ·rw [decide_eq_false hwd]
   walk_at "w"
   refine ZE9 ?_
   have hy3 : ¬ y' = 2 * y := fun z => by
    rcases hst with ⟨h, _⟩ | ⟨_, _, _, h, _⟩ | ⟨_, _, _, _, h, _⟩ | ⟨_, _, _, _, h, _⟩
    ·exact hwd h
    all_goals omega
   have hP : ∀ k : Nat, ((decide (y' = 2 * y) && (decide (2 * k ∈ ks) && decide (2 * k + 1 ∈ ks))) || ks.any fun (j : Nat) => decide (y' = y ∧ b' + (k : Int) * y' = b + (j : Int) * y')) = ks.any fun (j : Nat) => decide (y' = y ∧ b' + (k : Int) * y' = b + (j : Int) * y') := fun k => by
    rw [decide_eq_false hy3, Bool.false_and, Bool.false_or]
   have hy4 := ZQ4 hw
   walk_at "w"
   refine ZES (by show 0 ≤ sizeLine; decide) fun lf H1 n1 f1 S1 => ?_
   have nl : l ≠ lf := ZEh hl n1
   have ntp : ∀ {e : Addr} {xs : List V}, H e = some (.tup xs) → e ≠ lf := fun g => ZEh g n1
   walk_at "w"
   refine ZIe (by omega) (by omega) (ZJq (fun i σ H' => (∃ v7 v8, σ = [some (.ref u), some (.ref q), some (.ref l), some (.int b'), some (.int y'), some (.int m'), some (.ref lf), v7, v8]) ∧ Kp lf H1 H' ∧ H' lf = some (.lst (ZFu ((List.range i).filter fun (k : Nat) => ks.any fun (j : Nat) => decide (y' = y ∧ b' + (k : Int) * y' = b + (j : Int) * y'))))) ?_ ?_ ?_)
   ·exact ⟨⟨_, _, rfl⟩, fun _ _ e _ => e, f1⟩
   ·rintro i σ H2 hi ⟨⟨v7, v8, rfl⟩, K2, f2⟩
    have e0 : (0 + (i : Int)) = (i : Int) := by omega
    rw [e0]
    generalize hpv : ((List.range i).filter fun (k : Nat) => ks.any fun (j : Nat) => decide (y' = y ∧ b' + (k : Int) * y' = b + (j : Int) * y')) = prev at f2
    have hle : prev.length ≤ i := by
     rw [← hpv]
     have := List.length_filter_le (fun (k : Nat) => ks.any fun (j : Nat) => decide (y' = y ∧ b' + (k : Int) * y' = b + (j : Int) * y')) (List.range i)
     rwa [List.length_range] at this
    have k02 : ∀ {e : Addr} {o : HO}, H e = some o → H2 e = some o := fun h => K2 _ _ (S1 _ _ h) (ZEh h n1)
    have hl2 := k02 hl
    walk_at "w"
    refine ZIf (xs := ZFu ks) (fun i2 σ H' => (∃ v8, σ = [some (.ref u), some (.ref q), some (.ref l), some (.int b'), some (.int y'), some (.int m'), some (.ref lf), some (.int (i : Int)), v8]) ∧ Kp lf H1 H' ∧ H' lf = some (.lst (ZFu (prev ++ if ((ks.take i2).any fun (j : Nat) => decide (y' = y ∧ b' + (i : Int) * y' = b + (j : Int) * y')) = true then [i] else [])))) ?_ ?_ ?_ ?_
    ·exact ⟨⟨_, rfl⟩, K2, by rw [List.take_zero, List.any_nil, if_neg (by decide), List.append_nil]; exact f2⟩
    ·rintro i2 σ H3 _ ⟨_, K3, _⟩
     exact SqL.of (K3 _ _ (S1 _ _ hl) nl)
    ·rintro i2 x σ H3 hx ⟨⟨v8, rfl⟩, K3, f3⟩
     unfold ZFu at hx
     rw [List.getElem?_map] at hx
     obtain ⟨j0, hj, rfl⟩ := Option.map_eq_some_iff.mp hx
     have hjm := hks j0 (List.mem_of_getElem? hj)
     have hq3 := K3 _ _ (S1 _ _ hq) (ntp hq)
     have tk : (ks.take (i2 + 1)).any (fun (j : Nat) => decide (y' = y ∧ b' + (i : Int) * y' = b + (j : Int) * y')) = ((ks.take i2).any (fun (j : Nat) => decide (y' = y ∧ b' + (i : Int) * y' = b + (j : Int) * y')) || decide (y' = y ∧ b' + (i : Int) * y' = b + (j0 : Int) * y')) := by
      rw [List.take_succ, hj, List.any_append]
      simp
     have hfirst : (y' = y ∧ b' + (i : Int) * y' = b + (j0 : Int) * y') → ((ks.take i2).any fun (j : Nat) => decide (y' = y ∧ b' + (i : Int) * y' = b + (j : Int) * y')) = false := fun h => by
      rw [List.any_eq_false]
      intro j1 hj1
      rw [decide_eq_true_iff]
      rintro ⟨_, h1⟩
      have e1 : (j1 : Int) * y' = (j0 : Int) * y' := by omega
      have e2 := Int.eq_of_mul_eq_mul_right (by omega) e1
      have e3 : j1 = j0 := by omega
      obtain ⟨z, hz, hz2⟩ := List.getElem_of_mem hj1
      rw [List.length_take] at hz
      rw [List.getElem_take] at hz2
      obtain ⟨w1, w2⟩ := List.getElem?_eq_some_iff.mp hj
      have := (List.getElem_inj hnd).mp ((hz2.trans e3).trans w2.symm)
      omega
     have skip : ¬ (y' = y ∧ b' + (i : Int) * y' = b + (j0 : Int) * y') → H3 lf = some (.lst (ZFu (prev ++ if ((ks.take (i2 + 1)).any fun (j : Nat) => decide (y' = y ∧ b' + (i : Int) * y' = b + (j : Int) * y')) = true then [i] else []))) := fun h => by
      rw [tk, decide_eq_false h, Bool.or_false]
      exact f3
     walk_at "w"
     rw [ZFk]
     refine ZE4 (fun c1 => ?_) (fun c1 => ?_)
     ·walk_at "w"
      rw [ZFk]
      refine ZE4 (fun c2 => ?_) (fun c2 => ?_)
      ·rw [hfirst ⟨c1, c2⟩, if_neg (by decide), List.append_nil] at f3
       walk_at "w"
       refine ⟨tyL f3, ?_⟩
       walk_at "w"
       refine ZJT f3 (by unfold ZFu; rw [List.length_map]; show _ < 2 ^ 24; omega) fun H4 f4 K4 => ?_
       walk_at "w"
       refine ⟨⟨_, rfl⟩, K3.trans K4, ?_⟩
       rw [tk, decide_eq_true ⟨c1, c2⟩, Bool.or_true, if_pos rfl, ZNn]
       exact f4
      ·walk_at "w"
       exact ⟨⟨_, rfl⟩, K3, skip fun h => c2 h.2⟩
     ·walk_at "w"
      exact ⟨⟨_, rfl⟩, K3, skip fun h => c1 h.1⟩
    ·rintro σ H3 ⟨⟨v8, rfl⟩, K3, f3⟩
     rw [show (ZFu ks).length = ks.length from List.length_map _, List.take_length] at f3
     refine ⟨⟨_, _, rfl⟩, K3, ?_⟩
     rw [ZJn, hpv]
     exact f3
   ·rintro σ H2 ⟨⟨v7, v8, rfl⟩, K2, f2⟩
    walk_at "w"
    refine kk lf H2 n1 ?_ fun b o e => K2 _ _ (S1 _ _ e) (ZEh e n1)
    rw [f2]
    congr 4
    funext k
    exact (hP k).symm
end
theorem ZPa (kvs : List (List Key × V)) (b y : Int) (N : Nat) : (cols kvs b y N).Nodup := List.Nodup.sublist List.filter_sublist List.nodup_range
theorem ZS5 (kvs : List (List Key × V)) (b y : Int) (N : Nat) : (cols kvs b y N).length ≤ N := by
 have := ZIO kvs b y N
 omega
theorem ZQ5 {n : Str} {c b y m b' y' m' : Int} {kvs kvs' : List (List Key × V)} (hst : ZQz n c b y m b' y' m') (hy : 0 < y) (hw : ZIa b' y' m') (hk : ∀ x z, has kvs x z = true → Col b y m x z) (hi : ∀ x z, Col b' y' m' x z → (has kvs' x z = true ↔ Kin kvs x z)) :
  cols kvs' b' y' m'.toNat = (List.range m'.toNat).filter fun (k : Nat) => (decide (y' = 2 * y) && (decide (2 * k ∈ cols kvs b y m.toNat) && decide (2 * k + 1 ∈ cols kvs b y m.toNat))) || (cols kvs b y m.toNat).any fun (j : Nat) => decide (y' = y ∧ b' + (k : Int) * y' = b + (j : Int) * y') := by
 unfold cols
 apply List.filter_congr
 intro k hk0
 rw [List.mem_range] at hk0
 obtain ⟨hy', hm1, hm2, _⟩ := hw
 rw [Bool.eq_iff_iff, hi _ _ ⟨(k : Int), by omega, by omega, rfl, rfl⟩, Bool.or_eq_true, Bool.and_eq_true, Bool.and_eq_true, decide_eq_true_iff, decide_eq_true_iff, decide_eq_true_iff, List.any_eq_true]
 have hcol : ∀ {x z : Int}, has kvs x z = true → ∃ j : Nat, j < m.toNat ∧ x = b + (j : Int) * y ∧ z = b + (j : Int) * y + y ∧ has kvs (b + (j : Int) * y) (b + (j : Int) * y + y) = true := fun {x z} h => by
  obtain ⟨j, j0, j1, e1, e2⟩ := hk _ _ h
  refine ⟨j.toNat, by omega, by rw [Int.toNat_of_nonneg j0]; exact e1, by rw [Int.toNat_of_nonneg j0]; exact e2, ?_⟩
  rw [Int.toNat_of_nonneg j0, ← e1, show x + y = z by omega]
  exact h
 have mc : ∀ j : Nat, j ∈ (List.range m.toNat).filter (fun (j : Nat) => has kvs (b + (j : Int) * y) (b + (j : Int) * y + y)) ↔ j < m.toNat ∧ has kvs (b + (j : Int) * y) (b + (j : Int) * y + y) = true := fun j => by rw [List.mem_filter, List.mem_range]
 rw [mc, mc]
 generalize hX : b' + (k : Int) * y' = X
 constructor
 ·rintro (h | ⟨h1, h2⟩)
  ·obtain ⟨j, hj, e1, e2, e3⟩ := hcol h
   have ey : y' = y := by omega
   exact .inr ⟨j, (mc j).mpr ⟨hj, e3⟩, by rw [decide_eq_true_iff]; exact ⟨ey, by rw [ey]; exact e1⟩⟩
  ·obtain ⟨j1, hj1, e1, e2, e3⟩ := hcol h1
   obtain ⟨j2, hj2, g1, g2, g3⟩ := hcol h2
   have ey : y' = 2 * y := by omega
   have eb : b' = b := by
    rcases hst with ⟨_, h, _⟩ | ⟨_, _, h, h', _⟩ | ⟨_, _, _, h, h', _⟩ | ⟨_, _, _, h, h', _⟩
    ·exact h
    ·exact h
    all_goals omega
   have ek : (k : Int) * y' = (2 * (k : Int)) * y := by rw [ey, ← Int.mul_assoc, Int.mul_comm (k : Int) 2]
   have e4 : (j1 : Int) * y = (2 * (k : Int)) * y := by omega
   have e5 := Int.eq_of_mul_eq_mul_right (by omega) e4
   have g4 : (j2 : Int) * y = (2 * (k : Int) + 1) * y := by rw [Int.add_mul, Int.one_mul]; omega
   have g5 := Int.eq_of_mul_eq_mul_right (by omega) g4
   have f1 : j1 = 2 * k := by omega
   have f2 : j2 = 2 * k + 1 := by omega
   subst f1 f2
   exact .inl ⟨ey, ⟨hj1, e3⟩, hj2, g3⟩
 ·rintro (⟨ey, ⟨h1, h2⟩, h3, h4⟩ | ⟨j, hj, h⟩)
  ·have eb : b' = b := by
    rcases hst with ⟨_, h, _⟩ | ⟨_, _, h, h', _⟩ | ⟨_, _, _, h, h', _⟩ | ⟨_, _, _, h, h', _⟩
    ·exact h
    ·exact h
    all_goals omega
   have ek : (k : Int) * y' = ((2 * k : Nat) : Int) * y := by rw [ey, ← Int.mul_assoc, Int.mul_comm (k : Int) 2]; rfl
   have ek2 : ((2 * k + 1 : Nat) : Int) * y = ((2 * k : Nat) : Int) * y + y := by
    rw [show ((2 * k + 1 : Nat) : Int) = ((2 * k : Nat) : Int) + 1 from by omega, Int.add_mul, Int.one_mul]
   have em : (X + (X + y')) / 2 = X + y := by omega
   refine .inr ⟨?_, ?_⟩
   ·rw [em, show X = b + ((2 * k : Nat) : Int) * y by omega]
    exact h2
   ·rw [em, show X + y = b + ((2 * k + 1 : Nat) : Int) * y by omega, show X + y' = b + ((2 * k + 1 : Nat) : Int) * y + y by omega]
    exact h4
  ·rw [decide_eq_true_iff] at h
   obtain ⟨ey, e1⟩ := h
   have := ((mc j).mp hj).2
   rw [ey] at e1
   rw [← e1] at this
   refine .inl ?_
   rw [ey]
   exact this
section
variable {P : Program} {w : World} {K : W.Frag} {mg : Str → Option Value} {base : Heap} {a : Ad}
local macro_rules | `(tactic| walk_at "rd") => `(tactic| first
 | with_reducible refine ZEz (by assumption) (‹Txt _ _ _›).ZF (‹Txt _ _ _›).ZP ZGH ?_)
def ZTQ (a : Ad) : Sp := fun vs H _ E => ∃ (v u : Addr) (b y m b' y' m' : Int), vs = [.ref v, .ref u] ∧ ZHk a H v b y m ∧ ZHW H u b y m b' y' m' ∧ ¬ (-1099511627776 ≤ b' ∧ b' + y' * m' ≤ 1099511627776) ∧ ∀ H', ZEU H H' → E (.ref a.ZA) none H'
theorem ZS6 (T : Txt K mg a) : ZEW P w K mg base (CX1 P w) 7 a.Jp a.Jq ["_law_view_here", "_law_step_here"] (ZTQ a) := by
 refine T.Jt.okx ZFS (by walk_at "l") (fun cdv A outer s H vs Q E hr h => ?_)
 ·obtain ⟨v, u, b, y, m, b', y', m', rfl, hVW, ⟨nm, j, q, hu1, hq, hst⟩, hout, k⟩ := h
  obtain ⟨dx, s0, q0, d, n, e, hv, hW⟩ := id hVW
  have hy2 := ZGI hW
  obtain ⟨_, hy, hm1, hm2, hb, he⟩ := id hW
  unfold InT at hb he
  have hmy : 0 ≤ m * y := Int.mul_nonneg (by omega) (by omega)
  refine ⟨_, QB.h (ZEN (qsS (i := 2) ZFS.nd ZFl) (ZEN (ZEm (ZEX (ZE7) (ZEi (ZEj K rfl) (qv 1) ZEM) ZEn (ZEc _)) (ZEO (qsS (i := 2) ZFS.nd (ZFp (qv 0) T.ZF T.JZ (ZJK T) hr T.Ja .nil ZF6))) (ZEO (ZEm (ZEX (ZE7) (ZEi (ZEj K rfl) (qv 1) ZEM) ZEn (ZEc _)) (ZEO (qsS (i := 2) ZFS.nd (ZFp (qv 0) T.ZF T.Y0 (ZIM T) hr T.Y3 .nil ZF6))) (ZEO (ZEm (ZEX (ZE7) (ZEi (ZEj K rfl) (qv 1) ZEM) ZEn (ZEc _)) (ZEO (qsS (i := 2) ZFS.nd (ZFO (qv 0) T.ZF T.Yk (ZH7 T) hr T.Yi .nil ZF6 (ZEK (ZEi (ZEj K rfl) (qv 1) ZEM) ZEL)))) (ZEO (qsS (i := 2) ZFS.nd (ZFO (qv 0) T.ZF T.ZAT (ZKF T) hr T.ZAl .nil ZF6 (ZEK (ZEi (ZEj K rfl) (qv 1) ZEM) ZEL))))))))) (ZEO (ZEZ (ZHB (ZJR) (qv 2) ZFl (ZEc _)))))), ?_⟩
  walk_at "s"
  walk_at "w"
  have ne1 : (("narrow" : Str) = "wide") = False := eq_false (by decide +kernel)
  have ne2 : (("columns" : Str) = "wide") = False := eq_false (by decide +kernel)
  have ne3 : (("on" : Str) = "wide") = False := eq_false (by decide +kernel)
  have ne4 : (("columns" : Str) = "narrow") = False := eq_false (by decide +kernel)
  have ne5 : (("on" : Str) = "narrow") = False := eq_false (by decide +kernel)
  have ne6 : (("on" : Str) = "columns") = False := eq_false (by decide +kernel)
  rcases hst with ⟨rfl, rfl, rfl, rfl⟩ | ⟨rfl, h2, rfl, rfl, rfl⟩ | ⟨rfl, h1, h2, rfl, rfl, rfl⟩ | ⟨rfl, h1, h2, rfl, rfl, rfl⟩
  ·refine ZFM ?_
   rw [decide_eq_true rfl]
   walk_at "w"
   refine ZFY ?_
   walk_at "w"
   refine ZEt hv ZFV ?_
   refine ⟨v, b', y, m', rfl, hVW, fun z => hout ⟨z.1.1, ?_⟩, k⟩
   have e : m' * (y * 2) = 2 * y * m' := by rw [Int.mul_comm m', Int.mul_comm y]
   have := z.2.2
   omega
  ·exfalso
   apply hout
   have e : 2 * (y / 2 * m') = m' * y := by rw [← Int.mul_assoc, show 2 * (y / 2) = y by omega, Int.mul_comm]
   exact ⟨hb.1, by omega⟩
  ·refine ZFM ?_
   rw [decide_eq_false (by rw [ne2]; exact id)]
   walk_at "w"
   refine ZE9 ?_
   walk_at "w"
   refine ZFM ?_
   rw [decide_eq_false (by rw [ne4]; exact id)]
   walk_at "w"
   refine ZE9 ?_
   walk_at "w"
   refine ZFM ?_
   rw [decide_eq_true rfl]
   walk_at "w"
   refine ZFY ?_
   walk_at "w"
   refine ZEt hv ZFV ?_
   walk_at "w"
   refine ⟨v, b', y', m, m', rfl, hVW, by omega, by omega, fun z => hout ⟨z.1.1, ?_⟩, k⟩
   have := z.2.2
   rw [Int.mul_comm y']
   omega
  ·refine ZFM ?_
   rw [decide_eq_false (by rw [ne3]; exact id)]
   walk_at "w"
   refine ZE9 ?_
   walk_at "w"
   refine ZFM ?_
   rw [decide_eq_false (by rw [ne5]; exact id)]
   walk_at "w"
   refine ZE9 ?_
   walk_at "w"
   refine ZFM ?_
   rw [decide_eq_false (by rw [ne6]; exact id)]
   walk_at "w"
   refine ZE9 ?_
   walk_at "w"
   refine ZEt hv ZFV ?_
   walk_at "w"
   refine ⟨v, b, y', m', j, rfl, hVW, ZK4 (m := 54) (n := 43) (by unfold Bn; omega) (by unfold Bn; omega) (by decide), fun z => hout ⟨z.1.1, ?_⟩, k⟩
   have := z.2.2
   rw [Int.mul_comm y']
   omega
def ZTR (a : Ad) : Sp := fun vs H _ E => ∃ (v u : Addr) (b y m : Int) (x : V), vs = [.ref v, .ref u] ∧ ZHk a H v b y m ∧ H u = some (.tup [.str "narrow", .int 0, x]) ∧ y % 2 = 1 ∧ E (.ref a.ZC) none H
theorem ZS7 (T : Txt K mg a) : ZEW P w K mg base (CX1 P w) 7 a.Jp a.Jq ["_law_view_here", "_law_step_here"] (ZTR a) := by
 refine T.Jt.okx ZFS (by walk_at "l") (fun cdv A outer s H vs Q E hr h => ?_)
 ·obtain ⟨v, u, b, y, m, x, rfl, hVW, hu1, hy, k⟩ := h
  obtain ⟨dx, s0, q0, d, n, e, hv, hW⟩ := id hVW
  refine ⟨_, QB.h (ZEN (qsS (i := 2) ZFS.nd ZFl) (ZEN (ZEm (ZEX (ZE7) (ZEi (ZEj K rfl) (qv 1) ZEM) ZEn (ZEc _)) (ZEO (qsS (i := 2) ZFS.nd (ZFp (qv 0) T.ZF T.JZ (ZJK T) hr T.Ja .nil ZF6))) (ZEO (ZEm (ZEX (ZE7) (ZEi (ZEj K rfl) (qv 1) ZEM) ZEn (ZEc _)) (ZEO (qsS (i := 2) ZFS.nd (ZFp (qv 0) T.ZF T.Y0 (ZIM T) hr T.Y3 .nil ZF6))) (ZEO (ZEm (ZEX (ZE7) (ZEi (ZEj K rfl) (qv 1) ZEM) ZEn (ZEc _)) (ZEO (qsS (i := 2) ZFS.nd (ZFO (qv 0) T.ZF T.Yk (ZH7 T) hr T.Yi .nil ZF6 (ZEK (ZEi (ZEj K rfl) (qv 1) ZEM) ZEL)))) (ZEO (qsS (i := 2) ZFS.nd (ZFO (qv 0) T.ZF T.ZAT (ZKF T) hr T.ZAl .nil ZF6 (ZEK (ZEi (ZEj K rfl) (qv 1) ZEM) ZEL))))))))) (ZEO (ZEZ (ZHB (ZJR) (qv 2) ZFl (ZEc _)))))), ?_⟩
  walk_at "s"
  walk_at "w"
  have ne1 : (("narrow" : Str) = "wide") = False := eq_false (by decide +kernel)
  refine ZFM ?_
  rw [decide_eq_false (by rw [ne1]; exact id)]
  walk_at "w"
  refine ZE9 ?_
  walk_at "w"
  refine ZFM ?_
  rw [decide_eq_true rfl]
  walk_at "w"
  refine ZFY ?_
  walk_at "w"
  refine ZEt hv ZFV ?_
  exact ⟨v, b, y, m, rfl, hVW, hy, k⟩
theorem ZKk (T : Txt K mg a) : ZEW P w K mg base (CX1 P w) 7 a.Jp a.Jq ["_law_view_here", "_law_step_here"] (fun vs H Q E => ZWj a vs H Q E ∨ (ZTQ a vs H Q E ∨ ZTR a vs H Q E)) := (ZU7 T).lift.or ((ZS6 T).or (ZS7 T))
def ZWl (a : Ad) : Sp := fun vs H Q _ => (∃ (S : SA) (v d u : Addr) (b y m k n b' y' m' : Int) (kvs : List (List Key × V)) (e : Nat) (sm : PL) (c : Nat) (ds : List (Int × Option Int)) (ts : List Int) (ws : List V), vs = [.ref v, .ref u] ∧ ZEb a H S n sm c ds ts ws ∧ ZE8 a H S v d b y m k kvs e sm ts ∧ ts.length ≤ 10000 ∧ ZHW H u b y m b' y' m' ∧ ZIa b' y' m' ∧
  ZHS a H S v d k n kvs e sm c ds ts ws b' y' m' (fun _ H' => Q (.str "let") H')) ∨
 (∃ (v u : Addr) (b y m b' y' m' : Int), vs = [.ref v, .ref u] ∧ ZHk a H v b y m ∧ ZHW H u b y m b' y' m' ∧ ¬ (-1099511627776 ≤ b' ∧ b' + y' * m' ≤ 1099511627776) ∧ ∀ H', ZEU H H' → Q (.str "out") H') ∨
 ∃ (v u : Addr) (b y m : Int) (x : V), vs = [.ref v, .ref u] ∧ ZHk a H v b y m ∧ H u = some (.tup [.str "narrow", .int 0, x]) ∧ y % 2 = 1 ∧ ∀ H', ZEU H H' → Q (.str "half") H'
theorem ZEx : ZEV ["_law_view_here", "_law_step_here", "_law_told_here", "e"] ["_law_view_here", "_law_step_here"] (ZEP ZKf) := ZEv
theorem ZQ6 (T : Txt K mg a) : ZEW P w K mg base CX0 8 a.ZBH a.ZA5 ["_law_view_here", "_law_step_here"] (ZWl a) := by
 refine T.ZCM.ok ZEx (fun vs H Q E h => ?_) (fun cdv A outer s H vs Q E hr h => ?_)
 ·rcases h with ⟨_, _, _, _, _, _, _, _, _, _, _, _, _, _, _, _, _, _, _, rfl, _⟩ | ⟨_, _, _, _, _, _, _, _, rfl, _⟩ | ⟨_, _, _, _, _, _, rfl, _⟩ <;> rfl
 ·rcases h with ⟨S, v, d, u, b, y, m, k, n, b', y', m', kvs, e, sm, c, ds, ts, ws, rfl, hS, hV, hlen, hst, hw, kk⟩ | ⟨v, u, b, y, m, b', y', m', rfl, hVW, hst, hout, kk⟩ | ⟨v, u, b, y, m, x, rfl, hVW, hu1, hy, kk⟩
  ·have tt := True.intro
   refine ⟨_, QB.h (ZEN (qsS (i := 2) ZEx.nd ZEn) (ZEN (ZLB rfl rfl (ZLj (ZLZ (ZKk T) hr.m rfl T.ZCG T.Jt.kp T.ZCC .nil (ZEK (qv 0) (ZEK (qv 1) ZEL)))) (ZGn (i := 3) K rfl rfl rfl rfl ZEx.nd rfl rfl rfl T.Zx T.ZS (fun _ => ZEN (qsS (i := 2) ZEx.nd ZEn) (ZEO (ZEm (QW.pt (ZHO (ZF2 (ZFg (ZEe (ZGA K rfl) rfl T.ZM ZE5 (ZEK (qv 3) (ZEK (ZFh (v := V.ref a.ZB) rfl T.ZO rfl) ZEL))))) (ZGi (ZFg (ZEe (ZGA K rfl) rfl T.ZM ZE5 (ZEK (qv 3) (ZEK (ZFh (v := V.ref a.ZC) rfl T.Zg rfl) ZEL))))))) (ZEO (qsS (i := 2) ZEx.nd ZEn)) ZEl))) (ZGn (i := 3) K rfl rfl rfl rfl ZEx.nd rfl rfl rfl T.Zg T.Ys (fun _ => ZEN (qsS (i := 2) ZEx.nd ZEn) (ZEO (ZEm (ZF2 (ZFg (ZEe (ZGA K rfl) rfl T.ZM ZE5 (ZEK (qv 3) (ZEK (ZFh (v := V.ref a.ZB) rfl T.ZO rfl) ZEL))))) (ZEO (qsS (i := 2) ZEx.nd ZEn)) ZEl))) ZLA))) (ZEO (ZEZ (qv 2))))), ?_⟩
   walk_at "s"
   walk_at "w"
   refine .inl ⟨S, v, d, u, b, y, m, k, n, b', y', m', kvs, e, sm, c, ds, ts, ws, rfl, hS, hV, hlen, hst, hw, fun d' kvs1 kvs' H' n' g1 g2 g3 g4 g5 F => ⟨rfl, ?_⟩⟩
   walk_at "w"
   exact kk d' kvs1 kvs' H' n' g1 g2 g3 g4 g5 F
  ·have tt := True.intro
   refine ⟨_, QB.h (ZEN (qsS (i := 2) ZEx.nd ZEn) (ZEN (ZLB rfl rfl (ZLj (ZLZ (ZKk T) hr.m rfl T.ZCG T.Jt.kp T.ZCC .nil (ZEK (qv 0) (ZEK (qv 1) ZEL)))) (ZGn (i := 3) K rfl rfl rfl rfl ZEx.nd rfl rfl rfl T.Zx T.ZS (fun _ => ZEN (qsS (i := 2) ZEx.nd ZEn) (ZEO (ZEm (QW.pt (ZHO (ZF2 (ZFg (ZEe (ZGA K rfl) rfl T.ZM ZE5 (ZEK (qv 3) (ZEK (ZFh (v := V.ref a.ZB) rfl T.ZO rfl) ZEL))))) (ZGi (ZFg (ZEe (ZGA K rfl) rfl T.ZM ZE5 (ZEK (qv 3) (ZEK (ZFh (v := V.ref a.ZC) rfl T.Zg rfl) ZEL))))))) (ZEO (qsS (i := 2) ZEx.nd ZEn)) ZEl))) (ZGn (i := 3) K rfl rfl rfl rfl ZEx.nd rfl rfl rfl T.Zg T.Ys (fun _ => ZEN (qsS (i := 2) ZEx.nd ZEn) (ZEO (ZEm (ZF2 (ZFg (ZEe (ZGA K rfl) rfl T.ZM ZE5 (ZEK (qv 3) (ZEK (ZFh (v := V.ref a.ZB) rfl T.ZO rfl) ZEL))))) (ZEO (qsS (i := 2) ZEx.nd ZEn)) ZEl))) ZLA))) (ZEO (ZEZ (qv 2))))), ?_⟩
   walk_at "s"
   walk_at "w"
   refine .inr (.inl ⟨v, u, b, y, m, b', y', m', rfl, hVW, hst, hout, fun H1 S1 => ?_⟩)
   walk_at "w"
   refine ZIE T.ZT (ZFY ?_)
   refine ZKW fun ee H5 n5 f5 S5 => ?_
   walk_at "w"
   refine ZIj f5 T.ZS T.YO rfl T.ZN ?_
   walk_at "w"
   refine ZE9 ?_
   walk_at "w"
   refine ZIj f5 T.ZS T.YO rfl T.ZW ?_
   walk_at "w"
   refine ZE9 ?_
   walk_at "w"
   exact kk H5 (S1.trans S5)
  ·have tt := True.intro
   refine ⟨_, QB.h (ZEN (qsS (i := 2) ZEx.nd ZEn) (ZEN (ZLB rfl rfl (ZLj (ZLZ (ZKk T) hr.m rfl T.ZCG T.Jt.kp T.ZCC .nil (ZEK (qv 0) (ZEK (qv 1) ZEL)))) (ZGn (i := 3) K rfl rfl rfl rfl ZEx.nd rfl rfl rfl T.Zx T.ZS (fun _ => ZEN (qsS (i := 2) ZEx.nd ZEn) (ZEO (ZEm (QW.pt (ZHO (ZF2 (ZFg (ZEe (ZGA K rfl) rfl T.ZM ZE5 (ZEK (qv 3) (ZEK (ZFh (v := V.ref a.ZB) rfl T.ZO rfl) ZEL))))) (ZGi (ZFg (ZEe (ZGA K rfl) rfl T.ZM ZE5 (ZEK (qv 3) (ZEK (ZFh (v := V.ref a.ZC) rfl T.Zg rfl) ZEL))))))) (ZEO (qsS (i := 2) ZEx.nd ZEn)) ZEl))) (ZGn (i := 3) K rfl rfl rfl rfl ZEx.nd rfl rfl rfl T.Zg T.Ys (fun _ => ZEN (qsS (i := 2) ZEx.nd ZEn) (ZEO (ZEm (ZF2 (ZFg (ZEe (ZGA K rfl) rfl T.ZM ZE5 (ZEK (qv 3) (ZEK (ZFh (v := V.ref a.ZB) rfl T.ZO rfl) ZEL))))) (ZEO (qsS (i := 2) ZEx.nd ZEn)) ZEl))) ZLA))) (ZEO (ZEZ (qv 2))))), ?_⟩
   walk_at "s"
   walk_at "w"
   refine .inr (.inr ⟨v, u, b, y, m, x, rfl, hVW, hu1, hy, ?_⟩)
   walk_at "w"
   refine ZIE T.Zh (ZE9 ?_)
   walk_at "w"
   refine ZIE T.Z7 (ZFY ?_)
   refine ZKW fun ee H5 n5 f5 S5 => ?_
   walk_at "w"
   refine ZIj f5 T.Ys T.ZCy rfl T.ZX ?_
   walk_at "w"
   refine ZE9 ?_
   walk_at "w"
   exact kk H5 S5
def ZPb (H : Hp) (q : Addr) : Prop := ∃ b y m : Int, H q = some (.tup [.int b, .int y, .int m]) ∧ 0 ≤ m ∧ m ≤ 1000 ∧ ¬ (InT b ∧ InT (b + m * y))
def ZU9 (a : Ad) : Sp := fun vs H Q _ => ∃ (s : V) (q : Addr), vs = [s, .ref q] ∧ ZPb H q ∧ ∀ H', ZEU H H' → Q (.str "out") H'
theorem ZHX : ZEV ["_law_store", "_law_window_here", "_law_told_here", "e"] ["_law_store", "_law_window_here"] (ZEP ZKe) := ZEv
theorem ZQ7 (T : Txt K mg a) : ZEW P w K mg base CX0 7 a.ZBB a.ZA6 ["_law_store", "_law_window_here"] (ZU9 a) := by
 refine T.ZCK.ok ZHX (by walk_at "l") (fun cdv A outer s H vs Q E hr h => ?_)
 ·obtain ⟨s, q, rfl, ⟨b, y, m, hq, h0, h1, hn⟩, kk⟩ := h
  refine ⟨_, QB.h (ZEN (qsS (i := 2) ZHX.nd ZEn) (ZEN (ZLB rfl rfl (ZSI (ZUh T.ZCb (ZJ4 T) hr.m rfl T.ZC4 T.JX .nil (ZEK (qv 0) (ZEK (qv 1) ZEL)))) (ZGn (i := 3) K rfl rfl rfl rfl ZHX.nd rfl rfl rfl T.Zx T.ZS (fun _ => ZEN (qsS (i := 2) ZHX.nd ZEn) (ZEO (ZEm (QW.pt (ZHO (ZF2 (ZFg (ZEe (ZGA K rfl) rfl T.ZM ZE5 (ZEK (qv 3) (ZEK (ZFh (v := V.ref a.ZB) rfl T.ZO rfl) ZEL))))) (ZGi (ZFg (ZEe (ZGA K rfl) rfl T.ZM ZE5 (ZEK (qv 3) (ZEK (ZFh (v := V.ref a.ZC) rfl T.Zg rfl) ZEL))))))) (ZEO (qsS (i := 2) ZHX.nd ZEn)) ZEl))) ZLA)) (ZEO (ZEZ (qv 2))))), ?_⟩
  walk_at "s"
  walk_at "w"
  refine ZJu fun x dx H1 n1 f1 S1 => ?_
  refine ⟨_, _, q, b, y, m, rfl, S1 _ _ hq, h0, h1, hn, ?_⟩
  walk_at "w"
  refine ZIE T.ZT (ZFY ?_)
  refine ZKW fun ee H5 n5 f5 S5 => ?_
  walk_at "w"
  refine ZIj f5 T.ZS T.YO rfl T.ZN ?_
  walk_at "w"
  refine ZE9 ?_
  walk_at "w"
  refine ZIj f5 T.ZS T.YO rfl T.ZW ?_
  walk_at "w"
  refine ZE9 ?_
  walk_at "w"
  exact kk H5 (S1.trans S5)
def ZWm : Sp := fun vs H Q _ => ∃ p : Addr, vs = [.ref p] ∧ Pot H p ∧ ∀ (l q1 q2 : Addr) (H' : Hp), H l = none → H' l = some (.lst [.ref q1, .ref q2]) → ZPb H' q1 → ZPb H' q2 → l ≠ p → Pot H' p → Kp p H H' → Q (.ref l) H'
theorem ZGM : ZEV ["_law_pot_here", "_law_wide", "_law_many", "_law_more"] ["_law_pot_here"] (ZEP ZG5) := ZEv
theorem ZKl (T : Txt K mg a) : ZEW P w K mg base CX0 2 a.YZ a.YS ["_law_pot_here"] ZWm := by
 refine T.JS.ok ZGM (by walk_at "l") (fun cdv A outer s H vs Q E hr h => ?_)
 ·obtain ⟨p, rfl, hp, k⟩ := h
  refine ⟨_, QB.h (ZEN (qsS (i := 1) ZGM.nd (ZEQ ZEq ZEM (qcS (ZEo T) hr T.ZL T.ZI.kp T.ZK (ZEK (qv 0) (ZEK (ZEi (ZF9 K rfl) (ZF8 (ZEK ZEM (ZEK (ZEQ ZFT ZEM ZEM) ZEL))) (qcS (ZEo T) hr T.ZL T.ZI.kp T.ZK (ZEK (qv 0) (ZEK ZEM ZEL)))) ZEL))))) (ZEN (qsS (i := 2) ZGM.nd (ZEQ ZEq ZEM (qcS (ZEo T) hr T.ZL T.ZI.kp T.ZK (ZEK (qv 0) (ZEK ZEM ZEL))))) (ZEN (qsS (i := 3) ZGM.nd (ZEQ ZEq ZEM (qcS (ZEo T) hr T.ZL T.ZI.kp T.ZK (ZEK (qv 0) (ZEK (ZEi (ZF9 K rfl) (ZF8 (ZEK ZEM (ZEK (ZEQ ZFT ZEM ZEM) ZEL))) (qcS (ZEo T) hr T.ZL T.ZI.kp T.ZK (ZEK (qv 0) (ZEK ZEM ZEL)))) ZEL))))) (ZEO (ZEZ (ZF8 (ZEK (ZEk (ZEK (ZEQ ZFP (ZHg ZGv (ZEQ ZFT ZEM ZEM)) (qv 3)) (ZEK (qv 1) (ZEK (qv 2) ZEL)))) (ZEK (ZEk (ZEK (ZEQ ZEq (ZEQ ZFP (ZEQ ZFT ZEM ZEM) (ZEQ ZEs (qv 1) (qv 2))) (qv 3)) (ZEK (qv 1) (ZEK (qv 2) ZEL)))) ZEL)))))))), ?_⟩
  walk_at "s"
  walk_at "w"
  refine ZES (by show 2 ≤ sizeLine; decide) fun l1 H1 n1 f1 S1 => ?_
  have hne1 := hp.neN n1
  walk_at "w"
  refine ⟨p, _, rfl, hp.same S1, by decide, by decide, fun d2 H2 h2 h2' P2 K2 => ?_⟩
  walk_at "w"
  refine ZKj (ns := [_, _]) (K2 _ _ f1 hne1) h2 (by simpa using h2') fun n hn => ?_
  have hn2 : 0 < n ∧ n ≤ 17179869184 := by
   simp only [List.mem_cons, List.not_mem_nil, or_false] at hn
   rcases hn with rfl | rfl <;> decide
  walk_at "w"
  refine ⟨p, _, rfl, P2, hn2.1, Int.lt_of_le_of_lt hn2.2 (by decide), fun d3 H3 h3 h3' P3 K3 => ?_⟩
  walk_at "w"
  refine ⟨p, _, rfl, P3, by decide, by decide, fun d4 H4 h4 h4' P4 K4 => ?_⟩
  have K04 : Kp p H H4 := (((Kp.same S1).trans K2).trans K3).trans K4
  walk_at "w"
  refine ZES (by show 2 ≤ sizeLine; decide) fun l5 H5 n5 f5 S5 => ?_
  have hne5 := P4.neN n5
  walk_at "w"
  refine ⟨p, _, rfl, P4.same S5, by decide, by decide, fun d6 H6 h6 h6' P6 K6 => ?_⟩
  walk_at "w"
  refine ZKj (ns := [_, _]) (K6 _ _ f5 hne5) h6 (by simpa using h6') fun n7 hn7 => ?_
  have hn72 : 0 < n7 ∧ n7 ≤ 2199023255552 := by
   simp only [List.mem_cons, List.not_mem_nil, or_false] at hn7
   rcases hn7 with rfl | rfl <;> decide
  walk_at "w"
  refine ⟨p, _, rfl, P6, hn72.1, Int.lt_of_le_of_lt hn72.2 (by decide), fun d7 H7 h7 h7' P7 K7 => ?_⟩
  have K07 : Kp p H H7 := ((K04.then S5).trans K6).trans K7
  walk_at "w"
  refine ZES (by show 3 ≤ sizeLine; decide) fun q1 H8 n8 f8 S8 => ?_
  walk_at "w"
  refine ZES (by show 3 ≤ sizeLine; decide) fun q2 H9 n9 f9 S9 => ?_
  walk_at "w"
  refine ZES (by show 2 ≤ sizeLine; decide) fun l H10 n10 f10 S10 => ?_
  have P10 := ((P7.same S8).same S9).same S10
  have hnl : l ≠ p := ((P7.same S8).same S9).neN n10
  have K10 := ((K07.then S8).then S9).then S10
  have n0 : H l = none := by
   cases hh : H l with
   | none => rfl
   | some o => rw [S9 _ _ (S8 _ _ (K07 _ _ hh hnl))] at n10; cases n10
  refine k l q1 q2 H10 n0 f10 ⟨_, _, _, S10 _ _ (S9 _ _ f8), by omega, by omega, fun z => ?_⟩ ⟨_, _, _, S10 _ _ f9, by omega, by omega, fun z => ?_⟩ hnl P10 K10
  ·have := z.1.1
   omega
  ·have := z.2.2
   rw [Int.mul_comm (1 + d3)] at this
   omega
theorem ZGa : ZEV ["_law_pot_here", "_law_window_here", "_law_begin", "_law_wide", "_law_many", "_law_way", "_law_c", "_law_n"] ["_law_pot_here", "_law_window_here"] (ZEP ZLm) := ZEv
theorem ZS8 (T : Txt K mg a) : ZEW P w K mg base CX0 2 a.ZBm a.ZBn ["_law_pot_here", "_law_window_here"] ZQ0 := by
 refine T.ZCa.ok ZGa (by walk_at "l") (fun cdv A outer s H vs Q E hr h => ?_)
 ·obtain ⟨p, q, b, y, m, rfl, hp, hW, k⟩ := h
  have hy2 := ZGI hW
  obtain ⟨hq, hy, hm1, hm2, hb, he⟩ := id hW
  unfold InT at hb
  have g3 : (3 : Nat) ≤ sizeLine := by decide
  have z1 : 0 ≤ (1099511627776 - b) / y ∧ (1099511627776 - b) / y ≤ 2199023255552 := ⟨Int.ediv_nonneg (by omega) (by omega), Int.le_trans (Int.ediv_le_self _ (by omega)) (by omega)⟩
  have z2 : 0 ≤ (1099511627776 + b) / y ∧ (1099511627776 + b) / y ≤ 2199023255552 := ⟨Int.ediv_nonneg (by omega) (by omega), Int.le_trans (Int.ediv_le_self _ (by omega)) (by omega)⟩
  generalize e1 : (1099511627776 - b) / y = u1 at z1
  generalize e2 : (1099511627776 + b) / y = u2 at z2
  refine ⟨_, QB.h (ZEN (ZFr (qv 1) (ZFU (n := 3) K rfl rfl (ZET (qgN (i := 2) ZGa.nd) (ZET (qgN (i := 3) ZGa.nd) (ZET (qgN (i := 4) ZGa.nd) ZFD))))) (ZEN (qsS (i := 5) ZGa.nd (qcS (ZEo T) hr T.ZL T.ZI.kp T.ZK (ZEK (qv 0) (ZEK ZEM ZEL)))) (ZEN (ZEm (ZEX (ZE7) (qv 5) ZEM (ZEc _)) (ZEN (qsS (i := 6) ZGa.nd (ZEQ ZEq (ZEQ ZFP (ZEQ ZEq (ZEQ ZF3 (ZEQ ZFP (ZEQ ZFT ZEM ZEM) (qv 2)) (qv 3)) ZEM) (qv 4)) (ZEQ ZEs (qcS (ZEo T) hr T.ZL T.ZI.kp T.ZK (ZEK (qv 0) (ZEK ZEM ZEL))) (qv 4)))) (ZEO (ZEZ (ZEk (ZEK ZEn (ZEK (qv 6) (ZEK (ZEk (ZEK (ZEQ ZEq (qv 2) (ZEQ ZEs (qv 6) (qv 3))) (ZEK (qv 3) (ZEK (qv 4) ZEL)))) ZEL))))))) ZEl) (ZEN (ZEm (ZEX (ZE7) (qv 5) ZEM (ZEc _)) (ZEN (qsS (i := 6) ZGa.nd (ZEQ ZFP (ZEQ ZFP (ZHg ZGv (ZEQ ZF3 (ZEQ ZEq (ZEQ ZFT ZEM ZEM) (qv 2)) (qv 3))) ZEM) (qcS (ZEo T) hr T.ZL T.ZI.kp T.ZK (ZEK (qv 0) (ZEK ZEM ZEL))))) (ZEO (ZEZ (ZEk (ZEK ZEn (ZEK (qv 6) (ZEK (ZEk (ZEK (ZEQ ZEq (qv 2) (ZEQ ZEs (qv 6) (qv 3))) (ZEK (qv 3) (ZEK (qv 4) ZEL)))) ZEL))))))) ZEl) (ZEN (ZEm (ZEX (ZE7) (qv 5) ZEM (ZEc _)) (ZEN (qsS (i := 7) ZGa.nd (ZEQ ZEq (ZEQ ZEq (ZEQ ZF3 (ZEQ ZFP (ZEQ ZFT ZEM ZEM) (qv 2)) (qv 3)) ZEM) (qcS (ZEo T) hr T.ZL T.ZI.kp T.ZK (ZEK (qv 0) (ZEK ZEM ZEL))))) (ZEO (ZEZ (ZEk (ZEK ZEn (ZEK (ZEe (ZMp rfl) rfl T.Jz ZJP (ZEK (qv 7) (ZEK ZEM ZEL))) (ZEK (ZEk (ZEK (qv 2) (ZEK (qv 3) (ZEK (ZEe (ZMp rfl) rfl T.Jz ZJP (ZEK (qv 7) (ZEK ZEM ZEL))) ZEL)))) ZEL))))))) ZEl) (ZEO (ZEZ (ZEk (ZEK ZEn (ZEK ZEM (ZEK (ZEk (ZEK (qv 2) (ZEK (ZEQ ZEs ZEM (qv 3)) (ZEK (qv 4) ZEL)))) ZEL))))))))))), ?_⟩
  walk_at "s"
  walk_at "w"
  refine ⟨p, _, rfl, hp, by decide, by decide, fun d1 H1 h1 h1' P1 K1 => ?_⟩
  walk_at "w"
  rw [ZFk]
  refine ZE4 (fun e0 => ?_) (fun e0 => ?_)
  ·walk_at "w"
   refine ⟨p, _, rfl, P1, by decide, by decide, fun d2 H2 h2 h2' P2 K2 => ?_⟩
   rw [e1]
   have hdm : 0 ≤ d2 * m ∧ d2 * m ≤ 300 := by
    have hd : d2 = 0 ∨ d2 = 1 ∨ d2 = 2 := by omega
    rcases hd with rfl | rfl | rfl <;> omega
   walk_at "w"
   generalize hc : u1 + 1 - m + d2 * m = c
   refine ZES g3 fun w4 H4 n4 f4 S4 => ?_
   walk_at "w"
   refine ZES g3 fun u5 H5 n5 f5 S5 => ?_
   exact k u5 _ _ _ H5 ⟨_, _, w4, f5, S5 _ _ f4, .inr (.inr (.inr ⟨rfl, by omega, by omega, rfl, rfl, rfl⟩))⟩ ((P2.same S4).same S5) (((K1.trans K2).then S4).then S5)
  walk_at "w"
  rw [ZFk]
  refine ZE4 (fun e0 => ?_) (fun e0 => ?_)
  ·walk_at "w"
   refine ⟨p, _, rfl, P1, by decide, by decide, fun d2 H2 h2 h2' P2 K2 => ?_⟩
   rw [e2]
   walk_at "w"
   generalize hc : -u2 - 1 - d2 = c
   refine ZES g3 fun w4 H4 n4 f4 S4 => ?_
   walk_at "w"
   refine ZES g3 fun u5 H5 n5 f5 S5 => ?_
   exact k u5 _ _ _ H5 ⟨_, _, w4, f5, S5 _ _ f4, .inr (.inr (.inr ⟨rfl, by omega, by omega, rfl, rfl, rfl⟩))⟩ ((P2.same S4).same S5) (((K1.trans K2).then S4).then S5)
  walk_at "w"
  rw [ZFk]
  refine ZE4 (fun e0 => ?_) (fun e0 => ?_)
  ·walk_at "w"
   refine ⟨p, _, rfl, P1, by decide, by decide, fun d2 H2 h2 h2' P2 K2 => ?_⟩
   rw [e1]
   walk_at "w"
   refine ZES g3 fun w4 H4 n4 f4 S4 => ?_
   walk_at "w"
   refine ZES g3 fun u5 H5 n5 f5 S5 => ?_
   refine k u5 _ _ _ H5 ⟨_, _, w4, f5, S5 _ _ f4, .inr (.inr (.inl ⟨rfl, ?_, ?_, rfl, rfl, rfl⟩))⟩ ((P2.same S4).same S5) (((K1.trans K2).then S4).then S5) <;> (repeat' split) <;> omega
  walk_at "w"
  refine ZES g3 fun w2 H2 n2 f2 S2 => ?_
  walk_at "w"
  refine ZES g3 fun u3 H3 n3 f3 S3 => ?_
  exact k u3 _ _ _ H3 ⟨_, _, w2, f3, S3 _ _ f2, .inl ⟨rfl, rfl, rfl, rfl⟩⟩ ((P1.same S2).same S3) ((K1.then S2).then S3)
end
def Iv (a : Ad) (H : Hp) (S : SA) (v q l d ln : Addr) (sm ps : PL) (due : Int) (i : Nat) (xs : List V) : Prop :=
 ∃ (n : Int) (c : Nat) (dd : Addr) (b y m : Int) (kvs : List (List Key × V)), ZEb a H S n sm c [] [] [] ∧ ZE8 a H S v dd b y m due kvs 0 sm [] ∧ ZFz H q b y m ∧ m ≤ 40 ∧ H l = some (.lst (ZFu (cols kvs b y m.toNat))) ∧ kvs.length ≤ 100 * i + 40 ∧ H ln = some (.lst xs) ∧ H d = some (.dK (ZFL ps))
theorem Iv.same {a : Ad} {H H' : Hp} {S : SA} {v q l d ln : Addr} {sm ps : PL} {due : Int} {i : Nat} {xs : List V} (h : Iv a H S v q l d ln sm ps due i xs) (s : ZEU H H') : Iv a H' S v q l d ln sm ps due i xs := by
 obtain ⟨n, c, dd, b, y, m, kvs, h1, h2, h3, h4, h5, h6, h7, h8⟩ := h
 exact ⟨n, c, dd, b, y, m, kvs, h1.same s, h2.same s, ⟨s _ _ h3.1, h3.2⟩, h4, s _ _ h5, h6, s _ _ h7, s _ _ h8⟩
theorem Iv.pot {a : Ad} {H H' : Hp} {S : SA} {v q l d ln p : Addr} {sm ps : PL} {due : Int} {i : Nat} {xs : List V} (h : Iv a H S v q l d ln sm ps due i xs) (hp : Pot H p) (k : Kp p H H') (n1 : p ∉ S.ls) (n2 : p ≠ l) (n3 : p ≠ ln) : Iv a H' S v q l d ln sm ps due i xs := by
 obtain ⟨n, c, dd, b, y, m, kvs, h1, h2, h3, h4, h5, h6, h7, h8⟩ := h
 have hs := h1.pot hp k n1
 obtain ⟨x1, x2, e, _⟩ := hp
 have nt : ∀ b ∈ [p], ∀ ys, H b ≠ some (.tup ys) := fun b hb ys z => by
  obtain rfl : b = p := (by simpa using hb)
  rw [e] at z; cases z
 obtain ⟨dx, q0, g1, _, g3, _⟩ := id h2
 refine ⟨n, c, dd, b, y, m, kvs, hs, h2.frL (FrL.kp k (l := [p]) (by simp)) (fun z => ?_) (fun z => ?_) nt, ⟨k _ _ h3.1 fun z => nt q (by simp [z]) _ h3.1, h3.2⟩, h4, k _ _ h5 (Ne.symm n2), h6, k _ _ h7 (Ne.symm n3), k _ _ h8 (fun z => by rw [z, e] at h8; cases h8)⟩
 ·obtain rfl : v = p := (by simpa using z)
  rw [e] at g1; cases g1
 ·obtain rfl : dd = p := (by simpa using z)
  rw [e] at g3; cases g3
theorem ZMZ {a : Ad} {H H' : Hp} {S : SA} {v d e : Addr} {n b y m k : Int} {sm : PL} {c j : Nat} {ds : List (Int × Option Int)} {ts : List Int} {ws : List V} {kvs : List (List Key × V)} {o : HO} (hS : ZEb a H S n sm c ds ts ws) (hV : ZE8 a H S v d b y m k kvs j sm ts) (F : FrL [v, d, S.tr] H H') (g : H e = some o)
  (h1 : (∃ xs, o = .tup xs) ∨ (∃ xs, o = .lst xs) ∨ ∃ m, o = .dK m) : H' e = some o := F _ _ g fun z => by
 obtain ⟨dx, q0, e1, _, e2, _⟩ := id hV
 obtain ⟨_, _, _, ⟨_, _, t1, _⟩, _⟩ := id hS
 simp only [List.mem_cons, List.not_mem_nil, or_false] at z
 rcases h1 with ⟨_, rfl⟩ | ⟨_, rfl⟩ | ⟨_, rfl⟩ <;> rcases z with z | z | z
 all_goals first | (rw [z, e1] at g; cases g) | (rw [z, e2] at g; cases g) | (rw [z, t1] at g; cases g)
theorem ZE8.cols {a : Ad} {H : Hp} {S : SA} {v d : Addr} {b y m n : Int} {kvs : List (List Key × V)} {e : Nat} {sm : PL} {ts : List Int} (h : ZE8 a H S v d b y m n kvs e sm ts) : ∀ x z, has kvs x z = true → Col b y m x z := fun x z hh => by
 obtain ⟨dx, q, h1, h2, h3, h4, _⟩ := h
 obtain ⟨w, hw⟩ := Option.isSome_iff_exists.mp hh
 exact (h4 x z w hw).1
theorem ZOa {kvs kvs1 : List (List Key × V)} (h : ∀ x z, has kvs1 x z = true ↔ has kvs x z = true ∧ ¬ hit (([] : List Int).drop 0) x z) (b y : Int) (N : Nat) : ZGE kvs1 b y N = ZGE kvs b y N := by
 have e : ∀ x z, has kvs1 x z = has kvs x z := fun x z => by
  rw [Bool.eq_iff_iff, h]
  exact ⟨fun g => g.1, fun g => ⟨g, fun ⟨t, ht, _⟩ => by cases ht⟩⟩
 unfold ZGE
 congr 2
 funext p
 rw [e]
theorem ZNo {kvs : List (List Key × V)} {b y m : Int} (h : ∀ x z, Col b y m x z → has kvs x z = true) : cols kvs b y m.toNat = List.range m.toNat := by
 unfold cols
 rw [List.filter_eq_self]
 intro j hj
 rw [List.mem_range] at hj
 exact h _ _ ⟨(j : Int), by omega, by omega, rfl, rfl⟩
theorem ZNp {K : W.Frag} {H : Hp} {q : Addr} {b y m : Int} (h : ZFz H q b y m) : ZGd K H (.ref q) (PyData.tuple [.int b, .int y, .int m]).shown := by
 have hy := ZGI h
 obtain ⟨h1, h2, h3, h4, h5, _⟩ := h
 have sm : ∀ x : Int, -1099511627777 < x → x < 2199023255553 → Sm 2000 3 (.int x) := fun x g1 g2 => Sm.int (Bn.mono (m := 60) (Bn.of (Int.lt_trans (by decide) g1) (Int.lt_trans g2 (by decide))) (by decide))
 refine ZGd.of (.tup (SqT.of h1) (.cons (.int _) (.cons (.int _) (.cons (.int _) .nil)))) ((Sm.tup (n := 2000) (k := 3) (fun x hx => ?_) (by show 3 ≤ 4; decide)).mono (by decide) (by decide))
 unfold InT at h5
 simp only [List.mem_cons, List.not_mem_nil, or_false] at hx
 rcases hx with rfl | rfl | rfl <;> exact sm _ (by omega) (by omega)
theorem ZIP {c A B : Prop} [Decidable c] (hc : c) (h : B) : if (!decide c) = true then A else B := by
 rw [decide_eq_true hc]
 exact h
theorem ZVA {x : Int} (h1 : -(10 ^ 59) < x) (h2 : x < 10 ^ 59) : Bn 200 x := Bn.of (Int.lt_trans (by decide) h1) (Int.lt_trans h2 (by decide))
theorem ZXA {x : Int} (h : Tm x) : Bn 200 x := Bn.of (Int.lt_of_lt_of_le (by decide) h.1) (Int.lt_trans h.2 (by decide))
theorem SqL.fr {K : W.Frag} {H H' : Hp} {s : Addr} {xs : List V} {L : List Addr} (h : SqL K H s xs) (F : FrL L H H') (n : ∀ b ∈ L, (∀ ys, H b ≠ some (.lst ys)) ∧ ∀ o u, H b ≠ some (.frz o u)) : SqL K H' s xs := by
 rcases h with (h | ⟨o, h⟩) | h
 ·exact .inl (.inl (F _ _ h fun z => (n _ z).1 _ h))
 ·exact .inl (.inr ⟨o, F _ _ h fun z => (n _ z).2 _ _ h⟩)
 ·exact .inr h
theorem ZVB {a b c d r : TS} {D : ZFH} {σ : St} {H : Hp} (P : St → Hp → Prop) (h1 : ∀ σ' H', P σ' H' → r D σ' H') (h2 : ∀ D' : ZFH, D'.rt = D.rt → (∀ σ' H', P σ' H' → D'.nx σ' H') → ZIQ a (ZIQ b (ZIQ c d)) D' σ H) : ZIQ a (ZIQ b (ZIQ c (ZIQ d r))) D σ H := h2 { D with nx := r D } rfl h1
def ZMa (K : W.Frag) : Sp := fun vs H Q _ => ∃ (s : Addr) (ns : List Int), vs = [.ref s] ∧ SqL K H s (ns.map V.int) ∧ ns.length ≤ 63 ∧ ∀ H', Q (.bl true) H'
def Stp (H : Hp) (u : Addr) (b y m : Int) : Prop := (∃ b' y' m', ZHW H u b y m b' y' m') ∨ (H u = some (.tup [.str "narrow", .int 0, .non]) ∧ y % 2 = 1)
theorem Stp.tups {H H' : Hp} {u : Addr} {b y m : Int} (h : Stp H u b y m) (t : ∀ b xs, H b = some (.tup xs) → H' b = some (.tup xs)) : Stp H' u b y m := by
 rcases h with ⟨b', y', m', n, c, q, h1, h2, h3⟩ | ⟨h1, h2⟩
 ·exact .inl ⟨b', y', m', n, c, q, t _ _ h1, t _ _ h2, h3⟩
 ·exact .inr ⟨t _ _ h1, h2⟩
section
variable {P : Program} {w : World} {K : W.Frag} {mg : Str → Option Value} {base : Heap} {a : Ad}
local macro_rules | `(tactic| walk_at "rd") => `(tactic| first
 | with_reducible first | refine ZEz (by assumption) (‹Txt _ _ _›).ZF (‹Txt _ _ _›).ZP ZGH ?_ | refine ZEz (by assumption) (‹Txt _ _ _›).ZF (‹Txt _ _ _›).Zw ZIJ ?_)
theorem ZFb : ZEV ["_law_script", "_law_pot_here", "_law_window_here", "_law_made", "_law_store", "_law_view_here", "_law_known_here", "_law_due", "_law_number", "_law_step_here", "_law_sort", "_law_odd"] ["_law_script"] (ZEP ZGe) := ZEv
theorem ZWn (T : Txt K mg a) : ZEW P w K mg base CX0 9 a.ZCl a.ZCr ["_law_script"] (ZMa K) := by
 refine T.ZEB.ok ZFb (by walk_at "l") (fun cdv A outer s H vs Q E hr h => ?_)
 ·obtain ⟨s, ns, rfl, hS, hn, k⟩ := h
  have hu := ZHN hr
  have hu64 := hr.units
  have hgd := hr.gd
  have nLO : (("let" : Str) = "out") = False := eq_false (by decide +kernel)
  have nHO : (("out" : Str) = "let") = False := eq_false (by decide +kernel)
  have nHL : (("half" : Str) = "let") = False := eq_false (by decide +kernel)
  refine ⟨_, QB.h (ZEN (qsS (i := 1) ZFb.nd (qcS (ZNm T) hr.m T.ZCf T.ZBj.kp T.ZCd (ZEK (qcS (ZL7 T) hr.m T.ZCP T.ZBE.kp T.ZB9 (ZEK (qv 0) (ZEK ZEM ZEL))) ZEL))) (ZEN (qsS (i := 2) ZFb.nd (qcS (ZOD T) hr.m T.ZCv T.ZBg.kp T.ZCi (ZEK (qv 1) ZEL))) (ZEN (qsS (i := 3) ZFb.nd (qcS (ZPY T) hr.m T.ZC7 T.ZBw.kp T.ZC0 (ZEK (qv 1) (ZEK (qv 2) ZEL)))) (ZEN (qsS (i := 4) ZFb.nd (ZLY T.ZDF (ZJ2 T) hr rfl T.ZDU T.ZBL .nil ZFc (ZEK (ZGc (ZHD K rfl) rfl T.YF ZG9 (ZEK (ZGt (N := ["_law_script", "_law_pot_here", "_law_window_here", "_law_made", "_law_store", "_law_view_here", "_law_known_here", "_law_due", "_law_number", "_law_step_here", "_law_sort", "_law_odd"]) (sc := ZEP ZGe) (own := ["_law_t"]) (caps := ["_law_made"]) (ks := [3]) rfl rfl rfl ⟨rfl, by decide +kernel, by decide +kernel, by decide +kernel, by decide +kernel, rfl, by decide +kernel⟩ (ZGR K rfl (ZEe (ZO6 rfl) rfl T.JC ZJQ (ZEK (qv 3) ZEL))) (fun _ _ _ _ _ => ZF0 (i := 0) (show List.Nodup (α := Str) ["_law_t", "_law_made"] from by decide +kernel) rfl (by walk_at "o") (.inr rfl)) (fun _ _ _ _ _ => ZHC) (fun _ _ _ _ _ => ZEk (ZEK (qv 0) (ZEK (ZHo hu (qv 1) (qv 0)) ZEL)))) ZEL)) ZEL))) (ZEN (qsS (i := 5) ZFb.nd (ZLY T.ZCb (ZKi T) hr.m rfl T.ZC4 T.JX .nil ZFc (ZEK (qv 4) (ZEK (qv 2) ZEL)))) (ZEN (ZEu (ZFp (qv 5) T.ZF T.JF (ZHd T) hr.m T.JG .nil ZFc)) (ZEN (qsS (i := 6) ZFb.nd (ZLF rfl rfl T.ZBU rfl T.Zn (ZEK (ZEi (ZEj K rfl) (qv 2) ZEM) ZEL))) (ZEN (qsS (i := 7) ZFb.nd (ZEi (ZEj K rfl) (qv 2) ZEM)) (ZEN (ZGN PassesOwn.never rfl (ZGR K rfl (ZEQ ZVp (ZF8 (ZEK (qcS (ZL7 T) hr.m T.ZCP T.ZBE.kp T.ZB9 (ZEK (qv 0) (ZEK ZEM ZEL))) ZEL)) (ZMu (ZUK K rfl) (qv 0) (ZLW ZEM) (ZLW ZEM)))) (qgN (i := 8) ZFb.nd) (ZEN (qsS (i := 1) ZFb.nd (qcS (ZNm T) hr.m T.ZCf T.ZBj.kp T.ZCd (ZEK (qv 8) ZEL))) (ZEN (qsS (i := 9) ZFb.nd (qcS (ZS8 T) hr.m T.ZDQ T.ZCa.kp T.ZDT (ZEK (qv 1) (ZEK (qv 2) ZEL)))) (ZEN (ZEm (ZEX (ZE7) (qcS (ZEo T) hr.m T.ZL T.ZI.kp T.ZK (ZEK (qv 1) (ZEK ZEM ZEL))) ZEM (ZEc _)) (ZEO (qsS (i := 9) ZFb.nd (qcS (ZQ2 T) hr.m T.ZDI T.ZCO.kp T.ZDE (ZEK (qv 1) (ZEK (qv 2) ZEL))))) ZEl) (ZEN (ZEm (QW.pt (ZIg (ZEX (ZE7) (ZEQ ZGg (ZEi (ZEj K rfl) (qv 2) ZEM) ZEM) ZEM (ZEc _)) (ZHn (ZEX (ZE7) (qcS (ZEo T) hr.m T.ZL T.ZI.kp T.ZK (ZEK (qv 1) (ZEK ZEM ZEL))) ZEM (ZEc _))))) (ZEO (qsS (i := 9) ZFb.nd (ZEk (ZEK ZEn (ZEK ZEM (ZEK ZFl ZEL)))))) ZEl) (ZEN (qsS (i := 10) ZFb.nd ZEn) (ZEN (ZEm (ZEX (ZLU) (ZEi (ZEj K rfl) (qv 9) ZEM) ZFl (ZEc _)) (ZEO (qsS (i := 10) ZFb.nd (ZIs (ZFg (qcS (ZOC T) hr.m T.ZCo T.ZBb.kp T.ZCq (ZEK (ZEi (ZEj K rfl) (qv 9) ZEM) ZEL))) ZEn ZEn))) ZEl) (ZEN (ZEm (ZEX (ZJo) (qcS (ZQ6 T) hr T.ZDG T.ZCM.kp T.ZDM (ZEK (qv 5) (ZEK (qv 9) ZEL))) (qv 10) (ZEc _)) (ZEO (ZEZ ZMX)) ZEl) (ZEN (ZEm (ZEX (ZE7) (qv 10) ZEn (ZEc _)) (ZEN (qsS (i := 6) ZFb.nd (qcS (ZPZ T) hr.m T.ZC2 T.ZBq.kp T.ZCx (ZEK (qv 9) (ZEK (qv 2) (ZEK (qv 6) ZEL))))) (ZEO (qsS (i := 2) ZFb.nd (ZEi (ZEj K rfl) (qv 9) ZEM)))) ZEl) (ZEN (ZEm (QW.pt (ZHO (ZEX (ZJo) (ZEe (ZHG K rfl hgd hu64) rfl T.Yz ZHp (ZEK (ZE1 K rfl (qv 5)) ZEL)) (ZEe (ZHG K rfl hgd hu64) rfl T.Yz ZHp (ZEK (qv 2) ZEL)) (ZEc _)) (ZGi (ZEX (ZJo) (ZE1 K rfl (qv 5)) (qv 7) (ZEc _))))) (ZEO (ZEZ ZMX)) ZEl) (ZEN (ZGN PassesOwn.never rfl (ZGR K rfl (qcS (ZKl T) hr.m T.ZBX T.JS.kp T.ZBe (ZEK (qv 1) ZEL))) (qgN (i := 11) ZFb.nd) (ZEO (ZEm (ZEX (ZJo) (qcS (ZQ7 T) hr.m T.ZDN T.ZCK.kp T.ZDO (ZEK (qv 4) (ZEK (qv 11) ZEL))) ZEn (ZEc _)) (ZEO (ZEZ ZMX)) ZEl))) (ZEO (ZEm (ZEX (ZE7) (qcS (ZEo T) hr.m T.ZL T.ZI.kp T.ZK (ZEK (qv 1) (ZEK ZEM ZEL))) ZEM (ZEc _)) (ZEN (ZK1 (i := 7) ZFb.nd rfl (by walk_at "o") ZLQ (ZEQ ZFP (ZEi (ZEj K rfl) (qv 2) ZEM) (ZEe (ZIh K rfl) rfl T.JR ZId (ZEK (qv 6) ZEL)))) (ZEN (qsS (i := 6) ZFb.nd (ZLF rfl rfl T.ZBU rfl T.Zn (ZEK (ZEi (ZEj K rfl) (qv 2) ZEM) ZEL))) (ZEO (ZEm (QW.pt (ZHO (ZEX (ZJo) (ZEe (ZHG K rfl hgd hu64) rfl T.Yz ZHp (ZEK (ZFp (qv 5) T.ZF T.JF (ZHd T) hr.m T.JG .nil ZFc) ZEL)) (ZEe (ZHG K rfl hgd hu64) rfl T.Yz ZHp (ZEK (qcS (ZLP T) hr.m T.ZBv T.ZAU.kp T.ZBy (ZEK (qv 3) (ZEK (qv 2) ZEL))) ZEL)) (ZEc _)) (ZGi (ZEX (ZJo) (ZE1 K rfl (qv 5)) (qv 7) (ZEc _))))) (ZEO (ZEZ ZMX)) ZEl)))) ZEl))))))))))))) (ZEO (ZEZ (ZK0 (ZHB (ZE7) (ZEe (ZHG K rfl hgd hu64) rfl T.Yz ZHp (ZEK (ZFp (qv 5) T.ZF T.JF (ZHd T) hr.m T.JG .nil ZFc) ZEL)) (ZEe (ZHG K rfl hgd hu64) rfl T.Yz ZHp (ZEK (qcS (ZLP T) hr.m T.ZBv T.ZAU.kp T.ZBy (ZEK (qv 3) (ZEK (qv 2) ZEL))) ZEL)) (ZEc _)) (ZKz (ZHB (ZE7) (ZE1 K rfl (qv 5)) (ZEQ ZFP (ZEQ ZEq (qv 7) (ZEi (ZEj K rfl) (qv 2) ZEM)) (ZEe (ZIh K rfl) rfl T.JR ZId (ZEK (qv 6) ZEL))) (ZEc _))))))))))))))), ?_⟩
  walk_at "s"
  walk_at "w"
  refine ⟨s, ns, 0, rfl, hS, by decide, ?_⟩
  walk_at "w"
  refine ⟨_, rfl, fun p H1 n1 P1 S1 => ?_⟩
  walk_at "w"
  refine ⟨p, rfl, P1, fun q b y m H2 hW hm P2 K2 => ?_⟩
  walk_at "w"
  refine ⟨p, q, b, y, m, rfl, P2, hW, fun d ps H3 n3 f3 hnd hpl hps P3 K3 => ?_⟩
  have np : ∀ {e : Addr} {o : HO}, H e = some o → e ≠ p := fun g => ZEh g n1
  have K13 : Kp p H1 H3 := K2.trans K3
  have S03 : ZEU H H3 := fun e o g => K13 _ _ (S1 _ _ g) (np g)
  walk_at "w"
  refine ZPA f3 (by omega) fun l4 H4 is n4 f4 hp hs S4 => ?_
  have hnl : is.length = ps.length := by have := hp.length_eq; simpa using this
  walk_at "w"
  intro l5 n5
  refine ZGr is.length (fun i σ' H' => (∃ o, σ' = [o, some (.ref d)]) ∧ ZEU H4 H' ∧ ∃ vs, H' l5 = some (.lst vs) ∧ ZEY H' vs ((ZFm ps is).take i)) ?_ ?_ ?_
  ·exact ⟨⟨none, rfl⟩, ZEU.new n5, [], ZEa, .nil⟩
  ·rintro σ H' ⟨_, s5, vs, f5, hPc⟩
   refine ⟨⟨_, SqL.of (s5 _ _ f4), by simp⟩, ?_⟩
   walk_at "w"
   refine ZHm (SqL.of f5) fun t H6 n6 f6 S6 => ?_
   have ecv : (ZFm ps is).take is.length = ZFm ps is := List.take_of_length_le (by simp [ZFm])
   rw [ecv] at hPc
   have hT6 : PrT H6 t (ZFm ps is) := ⟨vs, f6, hPc.same S6⟩
   have S36 := (S4.trans s5).trans S6
   have hcv := ZPB hnd hp hs
   walk_at "w"
   refine ZJu fun x7 dx7 H7 n7 f7 S7 => ?_
   have hcl : (ZFm ps is).length ≤ 24 := by unfold ZFm; rw [List.length_map, hnl]; exact hpl
   have htm : ∀ r ∈ ZFm ps is, Tm r.1 := fun r hr => (hps r ((ZGW hnd).mp ((hcv.2 r.1 r.2).mp hr))).1
   refine ⟨x7, dx7, .ref t, _, rfl, f7, .inr ⟨t, rfl, hT6.same S7⟩, ZQd hcv.1, htm, by omega, fun S sm H8 hSp hfr8 hS8 hm8 hl8 K8 => ⟨rfl, ?_⟩⟩
   subst hSp
   have hE : Eqv sm ps := fun r => (hm8 r).trans ((hcv.2 r.1 r.2).trans (ZGW hnd))
   have hnsm := hS8.nd
   have bnd : ∀ {b y : Int} {N : Nat} {fs : List (Option (PL))}, ZHU sm b y N fs → ∀ qs, some qs ∈ fs → qs.length ≤ 4 ∧ ∀ q ∈ qs, Bn 200 q.1 ∧ Bn 200 q.2 := fun h qs hq => ⟨(h.mem hq).1, fun q hq' => by
    have := hps q ((hE q).mp ((h.mem hq).2 q hq'))
    exact ⟨ZXA this.1, ZVA this.2.1 this.2.2⟩⟩
   walk_at "w"
   refine ZJu fun v dv H9 n9 f9 S9 => ?_
   have ntp2 : ∀ {e : Addr} {xs : List V}, H2 e = some (.tup xs) → e ≠ p := fun g z => by
    obtain ⟨x1, x2, e, _⟩ := P2
    rw [z, e] at g; cases g
   have g36 := S36 _ _ (K3 _ _ hW.1 (ntp2 hW.1))
   have S69 : ZEU H6 H9 := fun e o g => S9 _ _ (K8 _ _ (S7 _ _ g) (ZEh g n7))
   have hW9 : ZFz H9 q b y m := ⟨S69 _ _ g36, hW.2⟩
   have av : v ∉ S.p :: S.own := hS8.apart (l := [v]) (fun b hb => by obtain rfl : b = v := (by simpa using hb); exact n9) v (by simp)
   refine ⟨S, v, dv, q, b, y, m, 0, sm, _, [], [], [], rfl, f9, hS8.same S9, hW9, av, fun d' H10 n10 hV10 hS10 K10 => ⟨rfl, ?_⟩⟩
   have hsS : SqL K H6 s (ns.map V.int) := (S03.trans S36).seq hS
   have S610 : ZEU H6 H10 := fun e o g => K10 _ _ (S69 _ _ g) (ZEh (K8 _ _ (S7 _ _ g) (ZEh g n7)) n9)
   obtain ⟨dx10, q10, hv10, hw10, hd10, _⟩ := id hV10
   have hmp := hW.2.2.1
   walk_at "w"
   refine ZEt hv10 ZFV ?_
   refine ⟨S, v, d', b, y, m, 0, 0, [], 0, sm, _, [], [], [], rfl, hS10, hV10, by decide, by decide, fun uu us fs kv1 kv4 n4 H11 f11 hF11 h411 hh11 hV11 hS11 hall11 hl11 F11 => ?_⟩
   have k11 : ∀ {e : Addr} {o : HO}, H6 e = some o → ((∃ xs, o = .tup xs) ∨ (∃ xs, o = .lst xs) ∨ ∃ m, o = .dK m) → H11 e = some o := fun g h => ZMZ hS10 hV10 F11 (S610 _ _ g) h
   have hq11 := k11 g36 (.inl ⟨_, rfl⟩)
   have hd11 := k11 (S36 _ _ f3) (.inr (.inr ⟨_, rfl⟩))
   have hs11 : SqL K H11 s (ns.map V.int) := SqL.fr (S610.seq hsS) F11 fun b hb => by
    obtain ⟨_, _, _, ⟨_, _, t1, _⟩, _⟩ := id hS10
    simp only [List.mem_cons, List.not_mem_nil, or_false] at hb
    rcases hb with rfl | rfl | rfl
    ·exact ⟨(fun ys z => by rw [hv10] at z; cases z), fun o u z => by rw [hv10] at z; cases z⟩
    ·exact ⟨(fun ys z => by rw [hd10] at z; cases z), fun o u z => by rw [hd10] at z; cases z⟩
    ·exact ⟨(fun ys z => by rw [t1] at z; cases z), fun o u z => by rw [t1] at z; cases z⟩
   have ed : (0 : Int) + (ZGE kv1 b y m.toNat : Int) = m := by
    have h0 : ZGE kv1 b y m.toNat + (cols kv1 b y m.toNat).length = m.toNat := ZIO kv1 b y m.toNat
    have h1 : cols kv1 b y m.toNat = [] := by
     unfold cols
     rw [List.filter_eq_nil_iff]
     intro j _ hz
     have := ((hh11 _ _).mp hz).1
     simp [has, ZRy] at this
    rw [h1] at h0
    simp only [List.length_nil] at h0
    omega
   rw [ed] at hV11
   walk_at "w"
   refine ZLG (by omega) (by omega) fun l12 H12 n12 f12 S12 => ?_
   have hq12 := S12 _ _ hq11
   walk_at "w"
   refine ⟨s, ns, _, rfl, S12.seq hs11, by decide, ?_⟩
   walk_at "w"
   refine ZES (by show 1 ≤ sizeLine; decide) fun l20 H20 n20 f20 S20 => ?_
   walk_at "w"
   refine ZWE (S20.seq (S12.seq hs11)) fun l21 H21 n21 f21 S21 => ?_
   have hcl2 := ZIS (ns.map V.int) (some 2) (some 30)
   rw [List.length_map] at hcl2
   refine ZWF (S21 _ _ f20) f21 (by show 1 + _ ≤ _; exact Nat.le_trans (show _ ≤ 100 by omega) (by decide)) fun ln H22 n22 f22 S22 => ?_
   generalize hxs : [V.int (ns.getD (Int.toNat 1) 0)] ++ ZGx (ns.map V.int) (some 2) (some 30) = xs at f22
   have hxl : xs.length ≤ 64 := by rw [← hxs, List.length_append]; simp only [List.length_cons, List.length_nil]; omega
   have hint : ∀ x ∈ xs, ∃ c : Int, x = .int c := by
    intro x hx
    rw [← hxs] at hx
    rcases List.mem_append.mp hx with hx | hx
    ·exact ⟨_, List.mem_singleton.mp hx⟩
    ·have : x ∈ ns.map V.int := List.mem_of_mem_drop (List.mem_of_mem_take hx)
     obtain ⟨c, _, rfl⟩ := List.mem_map.mp this
     exact ⟨c, rfl⟩
   have S1122 := S12.trans (S20.trans (S21.trans S22))
   have hI22 : Iv a H22 S v q l12 d ln sm ps m 0 xs := by
    refine ⟨_, _, d', b, y, m, kv4, hS11.same S1122, hV11.same S1122, ⟨S1122 _ _ hq11, hW.2⟩, by omega, ?_, by simp only [List.length_nil] at hl11; omega, f22, S1122 _ _ hd11⟩
    rw [ZNo hall11]
    exact S22 _ _ (S21 _ _ (S20 _ _ f12))
   clear hV10 hS10 hV11 hS11 F11 f12 f20 f21 hS8
   refine ZP7 (SqL.of f22) ?_
   refine ZIf (xs := xs) (fun i σ H' => ∃ v1 q' l' v8 v9 v10 v11 due, σ = [some (.ref s), v1, some (.ref q'), some (.ref d), some (.ref S.p), some (.ref v), some (.ref l'), some (.int due), v8, v9, v10, v11] ∧ Iv a H' S v q' l' d ln sm ps due i xs) ⟨_, _, _, _, _, _, _, _, rfl, hI22⟩ ?_ ?_ ?_
   ·rintro i σ H' _ ⟨_, _, _, _, _, _, _, _, _, _, _, _, _, _, _, _, _, _, _, _, _, _, f', _⟩
    exact SqL.of f'
   ·rintro i x σ H15 hx ⟨v1, q', l', v8, v9, v10, v11, due, rfl, hI⟩
    obtain ⟨num, rfl⟩ := hint x (List.mem_of_getElem? hx)
    have hil : i < 64 := Nat.lt_of_lt_of_le (List.getElem?_eq_some_iff.mp hx).1 hxl
    walk_at "w"
    refine ⟨_, rfl, fun p H16 n16 P16 S16 => ?_⟩
    have hI16 := hI.same S16
    obtain ⟨n0, c0, d0, b0, y0, m0, kv0, hS0, hV0, hW0, hm0, hl0, hkl0, hln0, hd0⟩ := id hI
    have hpS : p ∉ S.ls := (hS0.fresh n16).1
    have hpl : p ≠ l' := fun z => by rw [z, hl0] at n16; cases n16
    have hpn : p ≠ ln := fun z => by rw [z, hln0] at n16; cases n16
    have npt : ∀ {H : Hp} {e : Addr} {zs : List V}, Pot H p → H e = some (.tup zs) → e ≠ p := fun hp g z => by
     obtain ⟨x1, x2, e, _⟩ := hp
     rw [z, e] at g; cases g
    have hq16 := S16 _ _ hW0.1
    have hy2 := ZGI hW0
    walk_at "w"
    refine ⟨p, q', b0, y0, m0, rfl, P16, ⟨hq16, hW0.2⟩, fun u b1 y1 m1 H17 hst P17 K17 => ?_⟩
    have hq17 := K17 _ _ hq16 (npt P16 hq16)
    repeat walk_at "ri"
    -- the step that is taken
    refine ZLe (fun σ' H' => (∃ u, σ' = [some (.ref s), some (.ref p), some (.ref q'), some (.ref d), some (.ref S.p), some (.ref v), some (.ref l'), some (.int due), some (.int num), some (.ref u), v10, v11] ∧ Stp H' u b0 y0 m0) ∧ Pot H' p ∧ Kp p H16 H') ?_ ?_
    rotate_left
    ·intro D' _ hD'
     walk_at "w"
     refine ⟨p, _, rfl, P17, by decide, by decide, fun d18 H18 h18 h18' P18 K18 => ?_⟩
     have hq18 := K18 _ _ hq17 (npt P17 hq17)
     walk_at "w"
     rw [ZFk]
     refine ZE4 (fun c1 => ?_) (fun c1 => ?_)
     ·walk_at "w"
      refine ⟨p, q', b0, y0, m0, rfl, P18, ⟨hq18, hW0.2⟩, fun u2 b2 y2 m2 H19 hst2 P19 K19 => ?_⟩
      walk_at "w"
      exact hD' _ _ ⟨⟨u2, rfl, .inl ⟨_, _, _, hst2⟩⟩, P19, (K17.trans K18).trans K19⟩
     ·walk_at "w"
      refine hD' _ _ ⟨⟨u, rfl, .inl ⟨b1, y1, m1, ?_⟩⟩, P18, K17.trans K18⟩
      obtain ⟨nm, cc, qq, h1, h2, h3⟩ := hst
      exact ⟨nm, cc, qq, K18 _ _ h1 (npt P17 h1), K18 _ _ h2 (npt P17 h2), h3⟩
    rintro σ' H18 ⟨⟨u, rfl, hst18⟩, P18, K18⟩
    have hq18 := K18 _ _ hq16 (npt P16 hq16)
    repeat walk_at "ri"
    refine ZLe (fun σ' H' => (∃ u, σ' = [some (.ref s), some (.ref p), some (.ref q'), some (.ref d), some (.ref S.p), some (.ref v), some (.ref l'), some (.int due), some (.int num), some (.ref u), v10, v11] ∧ Stp H' u b0 y0 m0) ∧ Pot H' p ∧ Kp p H16 H') ?_ ?_
    rotate_left
    ·intro D' _ hD'
     walk_at "w"
     rw [ZFk]
     refine ZE4 (fun c1 => ?_) (fun c1 => ?_)
     ·walk_at "w"
      refine ⟨p, _, rfl, P18, by decide, by decide, fun d19 H19 h19 h19' P19 K19 => ?_⟩
      walk_at "w"
      rw [ZFk]
      refine ZE4 (fun c2 => ?_) (fun c2 => ?_)
      ·walk_at "w"
       refine ZES (by show 3 ≤ sizeLine; decide) fun u2 H20 n20 f20 S20 => ?_
       walk_at "w"
       exact hD' _ _ ⟨⟨u2, rfl, .inr ⟨f20, c1⟩⟩, P19.same S20, (K18.trans K19).then S20⟩
      ·walk_at "w"
       exact hD' _ _ ⟨⟨u, rfl, hst18.tups fun b xs g => K19 _ _ g (npt P18 g)⟩, P19, K18.trans K19⟩
     ·walk_at "w"
      exact hD' _ _ ⟨⟨u, rfl, hst18⟩, P18, K18⟩
    rintro σ' H19 ⟨⟨u, rfl, hst19⟩, P19, K19⟩
    have hI19 := hI16.pot P16 K19 hpS hpl hpn
    clear hst18 hI16 hI
    obtain ⟨n3, c3, d3, b3, y3, m3, kv3, hS3, hV3, hW3, hm3, hl3, hkl3, hln3, hd3⟩ := id hI19
    have hq19 := K19 _ _ hq16 (npt P16 hq16)
    have e3 : [V.int b3, .int y3, .int m3] = [V.int b0, .int y0, .int m0] := by
     have g1 := hW3.1
     rw [hq19] at g1
     injection g1 with g1
     injection g1 with g1
     exact g1.symm
    simp only [List.cons.injEq, V.int.injEq, and_true] at e3
    obtain ⟨rfl, rfl, rfl⟩ := e3
    have hVW : ZHk a H19 v b3 y3 m3 := by
     obtain ⟨dx, q0, g1, g2, _⟩ := hV3
     exact ⟨dx, _, q0, _, _, _, g1, g2⟩
    dsimp only
    refine ZVB (fun σ' H' => (∃ q2 l2 v10, σ' = [some (.ref s), some (.ref p), some (.ref q2), some (.ref d), some (.ref S.p), some (.ref v), some (.ref l2), some (.int due), some (.int num), some (.ref u), v10, v11] ∧ Iv a H' S v q2 l2 d ln sm ps due i xs ∧ p ≠ l2) ∧ Pot H' p) ?_ ?_
    rotate_left
    ·intro D' hrt hD'
     rcases hst19 with ⟨b1, y1, m1, hst⟩ | ⟨hu1, hodd⟩
     ·obtain ⟨nm, cc, qq, hu1, hqq, hstp⟩ := id hst
      have hb1 : 0 < y1 ∧ y1 ≤ 4398046511104 ∧ 1 ≤ m1 ∧ m1 ≤ 40 := by
       have h1 := hW0.2.1
       have h2 := hW0.2.2.1
       rcases hstp with ⟨_, _, h, h'⟩ | ⟨_, g, _, h, h'⟩ | ⟨_, g1, g2, _, h, h'⟩ | ⟨_, _, _, _, h, h'⟩ <;> omega
      have hmul : IntMulOk y1 m1 := ZK4 (m := 50) (n := 50) (by unfold Bn; omega) (by unfold Bn; omega) (by decide)
      walk_at "w"
      refine ZFY ?_
      walk_at "w"
      refine ⟨qq, b1, y1, m1, rfl, hqq, hmul, ?_⟩
      by_cases hin : -1099511627776 ≤ b1 ∧ b1 + y1 * m1 ≤ 1099511627776
      ·rw [decide_eq_true hin.1, decide_eq_true hin.2]
       have hz : 0 ≤ y1 * m1 := Int.mul_nonneg (by omega) (by omega)
       have hWV : ZIa b1 y1 m1 := ⟨by omega, by omega, by omega, ⟨by omega, by omega⟩, by rw [Int.mul_comm]; exact ⟨by omega, by omega⟩⟩
       walk_at "w"
       refine ZFY ?_
       walk_at "w"
       refine .inl ⟨S, v, d3, u, b3, y3, m3, due, n3, b1, y1, m1, kv3, 0, sm, c3, [], [], [], rfl, hS3, hV3, by decide, hst, hWV, fun d4 kv1 kv4 H20 n20 g1 g2 g3 g4 g5 F20 => ?_⟩
       have kt : ∀ {e : Addr} {o : HO}, H19 e = some o → ((∃ xs, o = .tup xs) ∨ (∃ xs, o = .lst xs) ∨ ∃ m, o = .dK m) → H20 e = some o := fun g h => ZMZ hS3 hV3 (F20.mono (l' := [v, d3, S.tr]) (by simp +contextual)) g h
       have eh : ∀ x z, has kv1 x z = has kv3 x z := fun x z => by
        rw [Bool.eq_iff_iff, g1]
        exact ⟨fun g => g.1, fun g => ⟨g, fun ⟨t, ht, _⟩ => by cases ht⟩⟩
       have hu20 := kt hu1 (.inl ⟨_, rfl⟩)
       have hqq20 := kt hqq (.inl ⟨_, rfl⟩)
       have hl20 := kt hl3 (.inr (.inl ⟨_, rfl⟩))
       have hst20 : ZHW H20 u b3 y3 m3 b1 y1 m1 := ⟨nm, cc, qq, hu20, hqq20, hstp⟩
       walk_at "w"
       refine ZIi ?_
       walk_at "w"
       refine ZIP rfl ?_
       walk_at "w"
       refine ZFM ?_
       walk_at "w"
       refine ZE4 (fun _ => ?_) (fun z => absurd rfl z)
       walk_at "w"
       refine ⟨u, q', l', b3, y3, m3, b1, y1, m1, cols kv3 b3 y3 m3.toNat, rfl, hst20, ⟨kt hW3.1 (.inl ⟨_, rfl⟩), hW3.2⟩, hWV, hl20, ZPa _ _ _ _, Nat.le_trans (ZS5 _ _ _ _) (by omega), fun j hj => by have := (ZS4.mp hj).1; omega, fun l21 H21 n21 f21 S21 => ?_⟩
       have hu21 := S21 _ _ hu20
       walk_at "w"
       refine hD' _ _ ⟨⟨qq, l21, _, rfl, ⟨n3, c3, d4, b1, y1, m1, kv4, g5.same S21, g4.same S21, ⟨S21 _ _ hqq20, hWV⟩, by omega, ?_, by omega, S21 _ _ (kt hln3 (.inr (.inl ⟨_, rfl⟩))), S21 _ _ (kt hd3 (.inr (.inr ⟨_, rfl⟩)))⟩, ?_⟩, ?_⟩
       ·rw [f21, ZQ5 hstp hW3.2.1 hWV hV3.cols fun x z hc => ?_]
        rw [g2 x z hc]
        unfold Kin
        rw [eh, eh, eh]
       ·intro z
        obtain ⟨x1, x2, e, _⟩ := P19
        rw [← z, kt e (.inr (.inl ⟨_, rfl⟩))] at n21; cases n21
       ·obtain ⟨x1, x2, e, hr⟩ := P19
        exact ⟨x1, x2, S21 _ _ (kt e (.inr (.inl ⟨_, rfl⟩))), hr⟩
      ·have hf : (decide (-1099511627776 ≤ b1) && decide (b1 + y1 * m1 ≤ 1099511627776)) = false := by
        rw [Bool.eq_false_iff]
        intro z
        rw [Bool.and_eq_true, decide_eq_true_iff, decide_eq_true_iff] at z
        exact hin z
       rw [hf]
       walk_at "w"
       refine ZE9 ?_
       walk_at "w"
       refine .inr (.inl ⟨v, u, b3, y3, m3, b1, y1, m1, rfl, hVW, hst, hin, fun H20 S20 => ?_⟩)
       walk_at "w"
       refine ZIi ?_
       walk_at "w"
       refine ZIP rfl ?_
       walk_at "w"
       refine ZFM ?_
       walk_at "w"
       refine ZE4 (fun z => absurd z (by rw [nHO]; exact id)) (fun _ => ?_)
       walk_at "w"
       exact hD' _ _ ⟨⟨q', l', _, rfl, hI19.same S20, hpl⟩, P19.same S20⟩
     ·walk_at "w"
      refine ZE9 ?_
      walk_at "w"
      refine .inr (.inr ⟨v, u, b3, y3, m3, _, rfl, hVW, hu1, hodd, fun H20 S20 => ?_⟩)
      walk_at "w"
      refine ZIi ?_
      walk_at "w"
      refine ZIP rfl ?_
      walk_at "w"
      refine ZFM ?_
      walk_at "w"
      refine ZE4 (fun z => absurd z (by rw [nHL]; exact id)) (fun _ => ?_)
      walk_at "w"
      exact hD' _ _ ⟨⟨q', l', _, rfl, hI19.same S20, hpl⟩, P19.same S20⟩
    clear hst19 hI19 hV3 hS3 hVW
    rintro σ' H21 ⟨⟨q2, l2, v10, rfl, hI21, hp2⟩, P21⟩
    obtain ⟨n2, c2, d2, b2, y2, m2, kv2, hS2, hV2, hW2, hm2, hl2, hkl2, hln2, hd2⟩ := id hI21
    obtain ⟨dx2, qv2, hv2, hw2, _⟩ := id hV2
    walk_at "w"
    refine ZHH (ZNp hw2) ?_
    walk_at "w"
    refine ZHH (ZNp hW2) ?_
    walk_at "w"
    refine ZIi ?_
    walk_at "w"
    refine ZIP rfl ?_
    walk_at "w"
    refine ZIP rfl ?_
    walk_at "w"
    refine ⟨p, rfl, P21, fun lw w1 w2 H22 n22 f22 hO1 hO2 nlp P22 K22 => ?_⟩
    have hI22 := hI21.pot P21 K22 hpS hp2 hpn
    walk_at "w"
    refine ZIf (xs := [V.ref w1, .ref w2]) (fun j σ H' => (∃ v11, σ = [some (.ref s), some (.ref p), some (.ref q2), some (.ref d), some (.ref S.p), some (.ref v), some (.ref l2), some (.int due), some (.int num), some (.ref u), v10, v11]) ∧ ZEU H22 H') ⟨⟨_, rfl⟩, ZEU.refl _⟩ ?_ ?_ ?_
    ·rintro j σ H' _ ⟨_, S'⟩
     exact SqL.of (S' _ _ f22)
    ·rintro j x σ H23 hx ⟨⟨v11, rfl⟩, S23⟩
     obtain ⟨w, rfl, b4, y4, m4, hw4, h40, h41, h42⟩ : ∃ w, x = V.ref w ∧ ZPb H22 w := by
      match j, hx with
      | 0, hx => exact ⟨w1, by simpa using hx.symm, hO1⟩
      | 1, hx => exact ⟨w2, by simpa using hx.symm, hO2⟩
      | (j + 2), hx => simp at hx
     walk_at "w"
     refine ⟨_, w, rfl, ⟨b4, y4, m4, S23 _ _ hw4, h40, h41, h42⟩, fun H24 S24 => ?_⟩
     walk_at "w"
     refine ZIi ?_
     walk_at "w"
     refine ZIP rfl ?_
     walk_at "w"
     exact ⟨⟨_, rfl⟩, S23.trans S24⟩
    rintro σ H23 ⟨⟨v11, rfl⟩, S23⟩
    have hI23 := hI22.same S23
    have P23 := P22.same S23
    walk_at "w"
    refine ⟨p, _, rfl, P23, by decide, by decide, fun d24 H24 h24 h24' P24 K24 => ?_⟩
    have hI24 := hI23.pot P23 K24 hpS hp2 hpn
    obtain ⟨n5, c5, d5, b5, y5, m5, kv5, hS5, hV5, hW5, hm5, hl5, hkl5, hln5, hd5⟩ := id hI24
    have hq5 := hW5.1
    have hmp5 := hW5.2.2.1
    walk_at "w"
    rw [ZFk]
    refine ZE4 (fun c1 => ?_) (fun c1 => ?_)
    ·walk_at "w"
     refine ZLG (by omega) (by omega) fun l25 H25 n25 f25 S25 => ?_
     have hV25 := hV5.same S25
     have hS25 := hS5.same S25
     obtain ⟨dx6, qv6, hv6, _⟩ := id hV25
     walk_at "w"
     refine ZEt hv6 ZFV ?_
     refine ⟨S, v, d5, b5, y5, m5, due, n5, kv5, 0, sm, c5, [], [], [], rfl, hS25, hV25, by decide, by omega, fun uu us fs kv1 kv4 n4 H26 f26 hF26 h426 hh26 hV26 hS26 hall26 hl26 F26 => ?_⟩
     have kt : ∀ {e : Addr} {o : HO}, H25 e = some o → ((∃ xs, o = .tup xs) ∨ (∃ xs, o = .lst xs) ∨ ∃ m, o = .dK m) → H26 e = some o := fun g h => ZMZ hS25 hV25 F26 g h
     have hW26 : ZFz H26 q2 b5 y5 m5 := ⟨kt (S25 _ _ hq5) (.inl ⟨_, rfl⟩), hW5.2⟩
     have hd26 := kt (S25 _ _ hd5) (.inr (.inr ⟨_, rfl⟩))
     walk_at "w"
     refine ZHH (ZHh f26 hF26 (bnd h426) (by rw [h426.1]; omega)) ?_
     walk_at "w"
     refine ⟨d, q2, ps, b5, y5, m5, rfl, hd26, hnd, by omega, hW26, fun u27 us27 fs27 H27 f27 hF27 h427 S27 => ?_⟩
     obtain rfl : fs = fs27 := ZJ8 hE hnsm h426 h427
     walk_at "w"
     refine ZHH (ZHh f27 hF27 (bnd h426) (by rw [h427.1]; omega)) ?_
     walk_at "w"
     refine ZIi ?_
     walk_at "w"
     refine ZIP rfl ?_
     have hms := ZIO kv5 b5 y5 m5.toNat
     have hnlen : (ZFu (cols kv5 b5 y5 m5.toNat)).length = (cols kv5 b5 y5 m5.toNat).length := List.length_map _
     have edue : due + (ZGE kv1 b5 y5 m5.toNat : Int) = due + (m5 - ((ZFu (cols kv5 b5 y5 m5.toNat)).length : Int)) := by
      rw [ZOa hh26, hnlen]
      omega
     obtain ⟨dx7, qv7, hv7, _⟩ := id (hV26.same S27)
     walk_at "w"
     rw [edue]
     refine ZIP rfl ?_
     walk_at "w"
     refine ⟨_, _, _, _, _, _, _, _, rfl, n4, c5, d5, b5, y5, m5, kv4, hS26.same S27, by rw [← edue]; exact hV26.same S27, ⟨S27 _ _ hW26.1, hW5.2⟩, hm5, ?_, by omega, S27 _ _ (kt (S25 _ _ hln5) (.inr (.inl ⟨_, rfl⟩))), S27 _ _ hd26⟩
     rw [ZNo hall26]
     exact S27 _ _ (kt f25 (.inr (.inl ⟨_, rfl⟩)))
    ·walk_at "w"
     exact ⟨_, _, _, _, _, _, _, _, rfl, n5, c5, d5, b5, y5, m5, kv5, hS5, hV5, hW5, hm5, hl5, by omega, hln5, hd5⟩
   ·rintro σ H15 ⟨v1, q', l', v8, v9, v10, v11, due, rfl, hI⟩
    obtain ⟨n5, c5, d5, b5, y5, m5, kv5, hS5, hV5, hW5, hm5, hl5, hkl5, hln5, hd5⟩ := id hI
    obtain ⟨dx6, qv6, hv6, _⟩ := id hV5
    have hmp5 := hW5.2.2.1
    walk_at "w"
    refine ZEt hv6 ZFV ?_
    refine ⟨S, v, d5, b5, y5, m5, due, n5, kv5, 0, sm, c5, [], [], [], rfl, hS5, hV5, by decide, by omega, fun uu us fs kv1 kv4 n4 H26 f26 hF26 h426 hh26 hV26 hS26 hall26 hl26 F26 => ?_⟩
    have kt : ∀ {e : Addr} {o : HO}, H15 e = some o → ((∃ xs, o = .tup xs) ∨ (∃ xs, o = .lst xs) ∨ ∃ m, o = .dK m) → H26 e = some o := fun g h => ZMZ hS5 hV5 F26 g h
    have hW26 : ZFz H26 q' b5 y5 m5 := ⟨kt hW5.1 (.inl ⟨_, rfl⟩), hW5.2⟩
    have hd26 := kt hd5 (.inr (.inr ⟨_, rfl⟩))
    walk_at "w"
    refine ZHH (ZHh f26 hF26 (bnd h426) (by rw [h426.1]; omega)) ?_
    walk_at "w"
    refine ⟨d, q', ps, b5, y5, m5, rfl, hd26, hnd, by omega, hW26, fun u27 us27 fs27 H27 f27 hF27 h427 S27 => ?_⟩
    obtain rfl : fs = fs27 := ZJ8 hE hnsm h426 h427
    walk_at "w"
    refine ZHH (ZHh f27 hF27 (bnd h426) (by rw [h427.1]; omega)) ?_
    walk_at "w"
    refine ZFM ?_
    walk_at "w"
    refine ZE4 (fun _ => ?_) (fun z => absurd rfl z)
    have hms := ZIO kv5 b5 y5 m5.toNat
    have hnlen : (ZFu (cols kv5 b5 y5 m5.toNat)).length = (cols kv5 b5 y5 m5.toNat).length := List.length_map _
    have edue : due + (ZGE kv1 b5 y5 m5.toNat : Int) = due + m5 - ((ZFu (cols kv5 b5 y5 m5.toNat)).length : Int) := by
     rw [ZOa hh26, hnlen]
     omega
    obtain ⟨dx7, qv7, hv7, _⟩ := id (hV26.same S27)
    have hq7 := S27 _ _ hW26.1
    have hl7 := S27 _ _ (kt hl5 (.inr (.inl ⟨_, rfl⟩)))
    walk_at "w"
    rw [edue, decide_eq_true rfl]
    exact k _
  ·rintro i σ H' hi ⟨⟨o, rfl⟩, s5, vs, f5, hPc⟩
   have hi2 : i < (is.map V.int).length := by simpa using hi
   refine ⟨⟨_, _, SqL.of (s5 _ _ f4), List.getElem?_eq_getElem hi2⟩, ?_⟩
   rintro u H'' ⟨rfl, hu'⟩
   have hu' := hu' _ (SqL.of (s5 _ _ f4))
   have eu : u = .int is[i] := by
    rw [List.getElem?_map, List.getElem?_eq_getElem hi] at hu'
    simpa using hu'.symm
   subst eu
   walk_at "w"
   refine ZFY ?_
   walk_at "w"
   have hmem : is[i] ∈ ps.map (·.1) := hp.mem_iff.mp (List.getElem_mem hi)
   obtain ⟨x, hx⟩ : ∃ x, ZFe ps is[i] = some x := by
    cases hg : ZFe ps is[i] with
    | none => exact absurd hmem (ZIC.mp hg)
    | some x => exact ⟨x, rfl⟩
   refine ZR8 (s5 _ _ (S4 _ _ f3)) hx ?_
   walk_at "w"
   refine ZES (by show 2 ≤ sizeLine; decide) fun t H4 n4 f4 S4 => ?_
   have f34 := S4 _ _ f5
   refine ⟨vs, f34, ?_, ⟨_, rfl⟩, ?_, ?_⟩
   ·rw [hPc.length, List.length_take]
    exact Nat.lt_of_le_of_lt (Nat.min_le_left _ _) (by show _ < 2 ^ 24; omega)
   ·exact (s5.trans S4).kpN (l := l5) n5 Kp.upd
   ·refine ⟨_, ZEa, ?_⟩
    have e3 : (ZFm ps is).take (i + 1) = (ZFm ps is).take i ++ [(is[i], x)] := by
     rw [List.take_succ]
     congr 1
     simp [ZFm, List.getElem?_eq_getElem hi, hx]
    rw [e3]
    exact ZEY.kpL Kp.upd f34 ((hPc.same S4).snoc f4)
end
structure FnH (K : W.Frag) (x : Str) (st : Stmt) (f : Addr) (d : FuncData) : Prop where
 a : W.nsIn K mainGlobals x = some (some (.ref f))
 F : Fun K x x st f d
structure MtH (K : W.Frag) (C : Addr) (x q : Str) (st : Stmt) (f : Addr) (d : FuncData) : Prop where
 a : W.findIn K (.ref C) x = some (some (.ref f))
 i : W.isFn K (.ref f) = true
 F : Fun K x q st f d
open PySem.W in
theorem all_mk {l : OpenLaw} {w : World} {K : Frag} {h : Heap} {mg : Str → Option Value} {fa : Addr} (X : K.In h) (G : h.Ns mainGlobals mg) (hfa : mg "law" = some (.ref fa))
 {ZH ZJ ZG ZB ZE ZC ZA ZD : Addr}
 {f0 f1 f2 f3 f4 f5 f6 f7 f8 f9 f10 f11 f12 f13 f14 f15 f16 f17 f18 f19 f20 f21 f22 f23 f24 f25 f26 f27 f28 f29 f30 f31 f32 f33 f34 f35 f36 f37 f38 f39 f40 f41 f42 f43 f44 f45 f46 f47 f48 f49 f50 f51 f52 f53 f54 f55 f56 f57 f58 f59 f60 f61 f62 f63 f64 f65 f66 : Addr} {d0 d1 d2 d3 d4 d5 d6 d7 d8 d9 d10 d11 d12 d13 d14 d15 d16 d17 d19 d20 d21 d22 d23 d24 d25 d26 d27 d28 d29 d30 d31 d32 d33 d35 d36 d37 d38 d39 d40 d41 d42 d43 d44 d45 d46 d47 d48 d49 d50 d51 d52 d53 d54 d55 d56 d57 d58 d59 d60 d61 d62 d63 d64 d65 : FuncData}
 {od18 an18 : Option Addr} {sl18 : Array (Option Value)} {oc18 kV18 dc18 pm18 cd18 ct18 : Value}
 {dt18 : Addr} {dod18 : Option Addr} {dsl18 : Array (Option Value)} {doc18 : Value} {dn18 : Nat}
 {od34 an34 : Option Addr} {sl34 : Array (Option Value)} {oc34 kV34 dc34 pm34 cd34 ct34 : Value}
 {dt34 : Addr} {dod34 : Option Addr} {dsl34 : Array (Option Value)} {doc34 : Value} {dn34 : Nat}
 {od66 an66 : Option Addr} {sl66 : Array (Option Value)} {oc66 kV66 dc66 pm66 cd66 ct66 : Value}
 {tk_TOP_LEVEL : Tok}
 {tk_TIMES_END : Tok}
 (e_FourPointsError : ZNZ K "FourPointsError" ZB)
 (e_NoColumn : ZNZ K "NoColumn" ZE)
 (e_NotHalf : ZNZ K "NotHalf" ZC)
 (e_OutOfTimes : ZNZ K "OutOfTimes" ZA)
 (e_NoSample : ZNZ K "NoSample" ZD)
 (Zj : subIn K (.ref ZE) (.ref ZB) = some true) (Zl : kitOne K (.ref ZE) (.ref ZB) = some true)
 (Yb : subIn K (.ref ZE) (.ref ZE) = some true) (Ya : kitOne K (.ref ZE) (.ref ZE) = some true)
 (Yr : subIn K (.ref ZE) (.ref ZC) = some false) (Yx : kitOne K (.ref ZE) (.ref ZC) = some false)
 (YJ : subIn K (.ref ZE) (.ref ZA) = some false) (YN : kitOne K (.ref ZE) (.ref ZA) = some false)
 (Ye : subIn K (.ref ZE) (.ref ZD) = some false) (Yh : kitOne K (.ref ZE) (.ref ZD) = some false)
 (Zu : subIn K (.ref ZC) (.ref ZB) = some true) (ZX : kitOne K (.ref ZC) (.ref ZB) = some true)
 (Yq : subIn K (.ref ZC) (.ref ZE) = some false) (Yy : kitOne K (.ref ZC) (.ref ZE) = some false)
 (Z7 : subIn K (.ref ZC) (.ref ZC) = some true) (Y6 : kitOne K (.ref ZC) (.ref ZC) = some true)
 (Zh : subIn K (.ref ZC) (.ref ZA) = some false) (YV : kitOne K (.ref ZC) (.ref ZA) = some false)
 (Yw : subIn K (.ref ZC) (.ref ZD) = some false) (Yu : kitOne K (.ref ZC) (.ref ZD) = some false)
 (Zd : subIn K (.ref ZA) (.ref ZB) = some true) (ZN : kitOne K (.ref ZA) (.ref ZB) = some true)
 (YM : subIn K (.ref ZA) (.ref ZE) = some false) (YL : kitOne K (.ref ZA) (.ref ZE) = some false)
 (YX : subIn K (.ref ZA) (.ref ZC) = some false) (ZW : kitOne K (.ref ZA) (.ref ZC) = some false)
 (ZT : subIn K (.ref ZA) (.ref ZA) = some true) (Z6 : kitOne K (.ref ZA) (.ref ZA) = some true)
 (YI : subIn K (.ref ZA) (.ref ZD) = some false) (YG : kitOne K (.ref ZA) (.ref ZD) = some false)
 (Zi : subIn K (.ref ZD) (.ref ZB) = some true) (Zk : kitOne K (.ref ZD) (.ref ZB) = some true)
 (Yc : subIn K (.ref ZD) (.ref ZE) = some false) (Yg : kitOne K (.ref ZD) (.ref ZE) = some false)
 (Yv : subIn K (.ref ZD) (.ref ZC) = some false) (Yt : kitOne K (.ref ZD) (.ref ZC) = some false)
 (YH : subIn K (.ref ZD) (.ref ZA) = some false) (YK : kitOne K (.ref ZD) (.ref ZA) = some false)
 (Yd : subIn K (.ref ZD) (.ref ZD) = some true) (Yf : kitOne K (.ref ZD) (.ref ZD) = some true)
 (e_Tree : ZSa K "Tree" ZH)
 (na_Tree_looks : findIn K (.ref ZH) "looks" = some none)
 (na_Tree_samples : findIn K (.ref ZH) "samples" = some none)
 (na_Tree_kept_fours : findIn K (.ref ZH) "kept_fours" = some none)
 (e_View : ZSa K "View" ZJ)
 (na_View_source : findIn K (.ref ZJ) "source" = some none)
 (na_View_window : findIn K (.ref ZJ) "window" = some none)
 (na_View_asked : findIn K (.ref ZJ) "asked" = some none)
 (na_View_known : findIn K (.ref ZJ) "known" = some none)
 (na_View_seen : findIn K (.ref ZJ) "seen" = some none)
 (e_Store : ZSa K "Store" ZG)
 (na_Store_tree : findIn K (.ref ZG) "tree" = some none)
 (na_Store_deeds : findIn K (.ref ZG) "deeds" = some none)
 (na_Store_done : findIn K (.ref ZG) "done" = some none)
 (na_Store_watches : findIn K (.ref ZG) "watches" = some none)
 (F0 : FnH K "_wall" ZOY f0 d0)
 (F1 : FnH K "is_whole" ZI4 f1 d1)
 (F2 : FnH K "column_of" ZIU f2 d2)
 (F3 : FnH K "times_of" ZI5 f3 d3)
 (F4 : FnH K "columns_of" ZGz f4 d4)
 (F5 : FnH K "moved" ZLk f5 d5)
 (F6 : FnH K "widened" ZJW f6 d6)
 (F7 : FnH K "narrowed" ZI6 f7 d7)
 (F8 : FnH K "with_columns" ZHI f8 d8)
 (F9 : FnH K "height_of" ZIV f9 d9)
 (F10 : FnH K "four_of" ZJX f10 d10)
 (F11 : FnH K "joined" ZKZ f11 d11)
 (F12 : FnH K "is_border" ZIW f12 d12)
 (F13 : FnH K "check_borders" ZG0 f13 d13)
 (F14 : FnH K "check_time" ZHv f14 d14)
 (F15 : FnH K "check_window" ZHJ f15 d15)
 (F16 : FnH K "stretches" ZIX f16 d16)
 (F17 : FnH K "longest" ZJY f17 d17)
 (a18 : findIn K (.ref ZH) "__init__" = some (some (.ref f18))) (i18 : isFn K (.ref f18) = true)
 (l18 : K.lookup f18 = some ⟨oc18, od18, .func (fnOf "__init__" "Tree.__init__" (ZFa ZFG) (ZFJ ZFG) (ZEP ZFG) (.ref dt18) kV18 dc18 pm18 an18 cd18 ct18), sl18⟩) (c18 : codeIn K cd18 "Tree.__init__" = true) (k18 : keepIn K (.ref f18) = true)
 (dl18 : K.lookup dt18 = some ⟨doc18, dod18, .seq #[.none] dn18, dsl18⟩)
 (F19 : MtH K ZH "put" "Tree.put" ZI7 f19 d19)
 (F20 : MtH K ZH "take" "Tree.take" ZKA f20 d20)
 (F21 : MtH K ZH "renew" "Tree.renew" ZHw f21 d21)
 (F22 : MtH K ZH "four" "Tree.four" ZIY f22 d22)
 (F23 : MtH K ZH "fours" "Tree.fours" ZG1 f23 d23)
 (F24 : MtH K ZH "told" "Tree.told" ZKB f24 d24)
 (F25 : FnH K "known_in" ZI8 f25 d25)
 (F26 : MtH K ZJ "__init__" "View.__init__" ZG2 f26 d26)
 (F27 : MtH K ZJ "fours" "View.fours" ZG3 f27 d27)
 (F28 : MtH K ZJ "forget" "View.forget" ZHZ f28 d28)
 (F29 : MtH K ZJ "on" "View.on" ZJZ f29 d29)
 (F30 : MtH K ZJ "wide" "View.wide" ZIZ f30 d30)
 (F31 : MtH K ZJ "narrow" "View.narrow" ZHa f31 d31)
 (F32 : MtH K ZJ "columns" "View.columns" ZHK f32 d32)
 (F33 : MtH K ZJ "step_to" "View.step_to" ZHL f33 d33)
 (a34 : findIn K (.ref ZG) "__init__" = some (some (.ref f34))) (i34 : isFn K (.ref f34) = true)
 (l34 : K.lookup f34 = some ⟨oc34, od34, .func (fnOf "__init__" "Store.__init__" (ZFa ZFA) (ZFJ ZFA) (ZEP ZFA) (.ref dt34) kV34 dc34 pm34 an34 cd34 ct34), sl34⟩) (c34 : codeIn K cd34 "Store.__init__" = true) (k34 : keepIn K (.ref f34) = true)
 (dl34 : K.lookup dt34 = some ⟨doc34, dod34, .seq #[.none] dn34, dsl34⟩)
 (F35 : MtH K ZG "put" "Store.put" ZKC f35 d35)
 (F36 : MtH K ZG "take" "Store.take" ZJa f36 d36)
 (F37 : MtH K ZG "height" "Store.height" ZIk f37 d37)
 (F38 : MtH K ZG "check_sample" "Store.check_sample" ZG4 f38 d38)
 (F39 : MtH K ZG "do" "Store.do" ZLH f39 d39)
 (F40 : MtH K ZG "bring" "Store.bring" ZJH f40 d40)
 (F41 : MtH K ZG "undo" "Store.undo" ZJb f41 d41)
 (F42 : MtH K ZG "times" "Store.times" ZHb f42 d42)
 (F43 : MtH K ZG "four" "Store.four" ZHx f43 d43)
 (F44 : MtH K ZG "fours" "Store.fours" ZJI f44 d44)
 (F45 : MtH K ZG "told" "Store.told" ZJc f45 d45)
 (F46 : MtH K ZG "watch" "Store.watch" ZJJ f46 d46)
 (F47 : MtH K ZG "news" "Store.news" ZJd f47 d47)
 (F48 : FnH K "_law_cell" ZKa f48 d48)
 (F49 : FnH K "_law_pot" ZLl f49 d49)
 (F50 : FnH K "_law_draw" ZKb f50 d50)
 (F51 : FnH K "_law_in" ZNa f51 d51)
 (F52 : FnH K "_law_within" ZI9 f52 d52)
 (F53 : FnH K "_law_height" ZJA f53 d53)
 (F54 : FnH K "_law_window" ZJB f54 d54)
 (F55 : FnH K "_law_time" ZKc f55 d55)
 (F56 : FnH K "_law_curve" ZJe f56 d56)
 (F57 : FnH K "_law_four" ZHy f57 d57)
 (F58 : FnH K "_law_fours" ZIF f58 d58)
 (F59 : FnH K "_law_step" ZKd f59 d59)
 (F60 : FnH K "_law_go" ZNb f60 d60)
 (F61 : FnH K "_law_known" ZIG f61 d61)
 (F62 : FnH K "_law_out" ZLm f62 d62)
 (F63 : FnH K "_law_view" ZKe f63 d63)
 (F64 : FnH K "_law_told" ZKf f64 d64)
 (F65 : FnH K "_law_odd_windows" ZG5 f65 d65)
 (a66 : nsIn K mainGlobals "law" = some (some (.ref f66)))
 (l66 : K.lookup f66 = some ⟨oc66, od66, .func (fnOf "law" "law" (ZFa ZGe) (ZFJ ZGe) (ZEP ZGe) .none kV66 dc66 pm66 an66 cd66 ct66), sl66⟩) (c66 : codeIn K cd66 "law" = true) (k66 : keepIn K (.ref f66) = true)
 (ac_TOP_LEVEL : nsIn K mainGlobals "TOP_LEVEL" = some (some (.int 40 tk_TOP_LEVEL)))
 (ac_TIMES_END : nsIn K mainGlobals "TIMES_END" = some (some (.int 1099511627776 tk_TIMES_END)))
 (ZAS : nsIn K mainGlobals "ValueError" = some none)
 (ZB3 : nsIn K mainGlobals "abs" = some none)
 (ZB6 : nsIn K mainGlobals "bool" = some none)
 (ZBA : nsIn K mainGlobals "divmod" = some none)
 (ZCp : nsIn K mainGlobals "int" = some none)
 (ZM : nsIn K mainGlobals "isinstance" = some none)
 (JR : nsIn K mainGlobals "len" = some none)
 (ZBU : nsIn K mainGlobals "list" = some none)
 (ZAt : nsIn K mainGlobals "max" = some none)
 (Jz : nsIn K mainGlobals "min" = some none)
 (Zn : nsIn K mainGlobals "range" = some none)
 (Yz : nsIn K mainGlobals "repr" = some none)
 (JC : nsIn K mainGlobals "sorted" = some none)
 (YF : nsIn K mainGlobals "tuple" = some none)
   : ∃ fd : FuncData, (∀ (s : Shared) (v : Value), BindsTo s fd ⟨[v], []⟩ [("_law_script", v)]) ∧ ∀ base : Heap, K.In base → base.Ns mainGlobals mg → ZEW l.prog w K mg base CX0 9 fa fd ["_law_script"] (ZMa K) := by
  have e := hfa.symm.trans (mg_of X G a66)
  cases e
  have F18 := ZOW (st := ZFG) l18 c18 k18
  have F34 := ZOW (st := ZFA) l34 c34 k34
  have F66 := fun_mk (st := ZGe) l66 c66 k66
  have T : Txt K mg ⟨f0, d0, f1, d1, f2, d2, f3, d3, f4, d4, f5, d5, f6, d6, f7, d7, f8, d8, f9, d9, f10, d10, f11, d11, f12, d12, f13, d13, f14, d14, f15, d15, f16, d16, f17, d17, f18, fnOf "__init__" "Tree.__init__" (ZFa ZFG) (ZFJ ZFG) (ZEP ZFG) (.ref dt18) kV18 dc18 pm18 an18 cd18 ct18, f19, d19, f20, d20, f21, d21, f22, d22, f23, d23, f24, d24, f25, d25, f26, d26, f27, d27, f28, d28, f29, d29, f30, d30, f31, d31, f32, d32, f33, d33, f34, fnOf "__init__" "Store.__init__" (ZFa ZFA) (ZFJ ZFA) (ZEP ZFA) (.ref dt34) kV34 dc34 pm34 an34 cd34 ct34, f35, d35, f36, d36, f37, d37, f38, d38, f39, d39, f40, d40, f41, d41, f42, d42, f43, d43, f44, d44, f45, d45, f46, d46, f47, d47, f48, d48, f49, d49, f50, d50, f51, d51, f52, d52, f53, d53, f54, d54, f55, d55, f56, d56, f57, d57, f58, d58, f59, d59, f60, d60, f61, d61, f62, d62, f63, d63, f64, d64, f65, d65, fa, fnOf "law" "law" (ZFa ZGe) (ZFJ ZGe) (ZEP ZGe) .none kV66 dc66 pm66 an66 cd66 ct66, ZH, ZJ, ZG, ZB, ZE, ZC, ZA, ZD, tk_TOP_LEVEL, tk_TIMES_END⟩ := ⟨F0.F, (F0.F.b1 fun _ _ _ _ _ _ _ => rfl), (mg_of X G F0.a), F1.F, (F1.F.b1 fun _ _ _ _ _ _ _ => rfl), (mg_of X G F1.a), F2.F, (F2.F.b2 fun _ _ _ _ _ _ _ _ => rfl), (mg_of X G F2.a), F3.F, (F3.F.b2 fun _ _ _ _ _ _ _ _ => rfl), (mg_of X G F3.a), F4.F, (F4.F.b1 fun _ _ _ _ _ _ _ => rfl), (mg_of X G F4.a), F5.F, (F5.F.b2 fun _ _ _ _ _ _ _ _ => rfl), (mg_of X G F5.a), F6.F, (F6.F.b1 fun _ _ _ _ _ _ _ => rfl), (mg_of X G F6.a), F7.F, (F7.F.b1 fun _ _ _ _ _ _ _ => rfl), (mg_of X G F7.a), F8.F, (F8.F.b2 fun _ _ _ _ _ _ _ _ => rfl), (mg_of X G F8.a), F9.F, (F9.F.b1 fun _ _ _ _ _ _ _ => rfl), (mg_of X G F9.a), F10.F, (F10.F.b1 fun _ _ _ _ _ _ _ => rfl), (mg_of X G F10.a), F11.F, (F11.F.b2 fun _ _ _ _ _ _ _ _ => rfl), (mg_of X G F11.a), F12.F, (F12.F.b1 fun _ _ _ _ _ _ _ => rfl), (mg_of X G F12.a), F13.F, (F13.F.b2 fun _ _ _ _ _ _ _ _ => rfl), (mg_of X G F13.a), F14.F, (F14.F.b1 fun _ _ _ _ _ _ _ => rfl), (mg_of X G F14.a), F15.F, (F15.F.b1 fun _ _ _ _ _ _ _ => rfl), (mg_of X G F15.a), F16.F, (F16.F.b2 fun _ _ _ _ _ _ _ _ => rfl), (mg_of X G F16.a), F17.F, (F17.F.b2 fun _ _ _ _ _ _ _ _ => rfl), (mg_of X G F17.a), F18, (fun s us hI hl => by match us, hl with | [_, _], _ => exact binds_K hI rfl dl18 rfl rfl rfl), (fun s us hI hl => have hl2 : us.length = 1 := (by simpa using hl); match us, hl2 with | [_], _ => binds_K hI rfl dl18 rfl rfl rfl), (fun s u v hI => binds_K hI rfl dl18 rfl rfl rfl), F19.F, (F19.F.b3 fun _ _ _ _ _ _ _ _ _ => rfl), ⟨F19.a, F19.i, F19.F.kp⟩, F20.F, (F20.F.b2 fun _ _ _ _ _ _ _ _ => rfl), ⟨F20.a, F20.i, F20.F.kp⟩, F21.F, (F21.F.b3 fun _ _ _ _ _ _ _ _ _ => rfl), ⟨F21.a, F21.i, F21.F.kp⟩, F22.F, (F22.F.b3 fun _ _ _ _ _ _ _ _ _ => rfl), ⟨F22.a, F22.i, F22.F.kp⟩, F23.F, (F23.F.b2 fun _ _ _ _ _ _ _ _ => rfl), ⟨F23.a, F23.i, F23.F.kp⟩, F24.F, (F24.F.b1 fun _ _ _ _ _ _ _ => rfl), ⟨F24.a, F24.i, F24.F.kp⟩, F25.F, (F25.F.b2 fun _ _ _ _ _ _ _ _ => rfl), (mg_of X G F25.a), F26.F, (F26.F.b3 fun _ _ _ _ _ _ _ _ _ => rfl), F27.F, (F27.F.b1 fun _ _ _ _ _ _ _ => rfl), ⟨F27.a, F27.i, F27.F.kp⟩, F28.F, (F28.F.b1 fun _ _ _ _ _ _ _ => rfl), ⟨F28.a, F28.i, F28.F.kp⟩, F29.F, (F29.F.b2 fun _ _ _ _ _ _ _ _ => rfl), ⟨F29.a, F29.i, F29.F.kp⟩, F30.F, (F30.F.b1 fun _ _ _ _ _ _ _ => rfl), ⟨F30.a, F30.i, F30.F.kp⟩, F31.F, (F31.F.b1 fun _ _ _ _ _ _ _ => rfl), ⟨F31.a, F31.i, F31.F.kp⟩, F32.F, (F32.F.b2 fun _ _ _ _ _ _ _ _ => rfl), ⟨F32.a, F32.i, F32.F.kp⟩, F33.F, (F33.F.b2 fun _ _ _ _ _ _ _ _ => rfl), ⟨F33.a, F33.i, F33.F.kp⟩, F34, (fun s us hI hl => by match us, hl with | [_, _], _ => exact binds_K hI rfl dl34 rfl rfl rfl), (fun s us hI hl => have hl2 : us.length = 1 := (by simpa using hl); match us, hl2 with | [_], _ => binds_K hI rfl dl34 rfl rfl rfl), (fun s u v hI => binds_K hI rfl dl34 rfl rfl rfl), F35.F, (F35.F.b3 fun _ _ _ _ _ _ _ _ _ => rfl), ⟨F35.a, F35.i, F35.F.kp⟩, F36.F, (F36.F.b2 fun _ _ _ _ _ _ _ _ => rfl), ⟨F36.a, F36.i, F36.F.kp⟩, F37.F, (F37.F.b2 fun _ _ _ _ _ _ _ _ => rfl), ⟨F37.a, F37.i, F37.F.kp⟩, F38.F, (F38.F.b2 fun _ _ _ _ _ _ _ _ => rfl), ⟨F38.a, F38.i, F38.F.kp⟩, F39.F, (F39.F.b3 fun _ _ _ _ _ _ _ _ _ => rfl), ⟨F39.a, F39.i, F39.F.kp⟩, F40.F, (F40.F.b3 fun _ _ _ _ _ _ _ _ _ => rfl), ⟨F40.a, F40.i, F40.F.kp⟩, F41.F, (F41.F.b1 fun _ _ _ _ _ _ _ => rfl), ⟨F41.a, F41.i, F41.F.kp⟩, F42.F, (F42.F.b1 fun _ _ _ _ _ _ _ => rfl), ⟨F42.a, F42.i, F42.F.kp⟩, F43.F, (F43.F.b3 fun _ _ _ _ _ _ _ _ _ => rfl), ⟨F43.a, F43.i, F43.F.kp⟩, F44.F, (F44.F.b2 fun _ _ _ _ _ _ _ _ => rfl), ⟨F44.a, F44.i, F44.F.kp⟩, F45.F, (F45.F.b1 fun _ _ _ _ _ _ _ => rfl), ⟨F45.a, F45.i, F45.F.kp⟩, F46.F, (F46.F.b2 fun _ _ _ _ _ _ _ _ => rfl), ⟨F46.a, F46.i, F46.F.kp⟩, F47.F, (F47.F.b2 fun _ _ _ _ _ _ _ _ => rfl), ⟨F47.a, F47.i, F47.F.kp⟩, F48.F, (F48.F.b2 fun _ _ _ _ _ _ _ _ => rfl), (mg_of X G F48.a), F49.F, (F49.F.b1 fun _ _ _ _ _ _ _ => rfl), (mg_of X G F49.a), F50.F, (F50.F.b2 fun _ _ _ _ _ _ _ _ => rfl), (mg_of X G F50.a), F51.F, (F51.F.b1 fun _ _ _ _ _ _ _ => rfl), (mg_of X G F51.a), F52.F, (F52.F.b1 fun _ _ _ _ _ _ _ => rfl), (mg_of X G F52.a), F53.F, (F53.F.b1 fun _ _ _ _ _ _ _ => rfl), (mg_of X G F53.a), F54.F, (F54.F.b1 fun _ _ _ _ _ _ _ => rfl), (mg_of X G F54.a), F55.F, (F55.F.b2 fun _ _ _ _ _ _ _ _ => rfl), (mg_of X G F55.a), F56.F, (F56.F.b2 fun _ _ _ _ _ _ _ _ => rfl), (mg_of X G F56.a), F57.F, (F57.F.b1 fun _ _ _ _ _ _ _ => rfl), (mg_of X G F57.a), F58.F, (F58.F.b2 fun _ _ _ _ _ _ _ _ => rfl), (mg_of X G F58.a), F59.F, (F59.F.b2 fun _ _ _ _ _ _ _ _ => rfl), (mg_of X G F59.a), F60.F, (F60.F.b2 fun _ _ _ _ _ _ _ _ => rfl), (mg_of X G F60.a), F61.F, (F61.F.b3 fun _ _ _ _ _ _ _ _ _ => rfl), (mg_of X G F61.a), F62.F, (F62.F.b2 fun _ _ _ _ _ _ _ _ => rfl), (mg_of X G F62.a), F63.F, (F63.F.b2 fun _ _ _ _ _ _ _ _ => rfl), (mg_of X G F63.a), F64.F, (F64.F.b2 fun _ _ _ _ _ _ _ _ => rfl), (mg_of X G F64.a), F65.F, (F65.F.b1 fun _ _ _ _ _ _ _ => rfl), (mg_of X G F65.a), F66, (F66.b1 fun _ _ _ _ _ _ _ => rfl), (mg_of X G a66), ⟨e_Tree.pg, e_Tree.hd, e_Tree.po, e_Tree.sa⟩, (mg_of X G e_Tree.a), ⟨e_Tree.mi, a18, i18, e_Tree.kc⟩, na_Tree_looks, na_Tree_samples, na_Tree_kept_fours, ⟨e_View.pg, e_View.hd, e_View.po, e_View.sa⟩, (mg_of X G e_View.a), ⟨e_View.mi, F26.a, F26.i, e_View.kc⟩, na_View_source, na_View_window, na_View_asked, na_View_known, na_View_seen, ⟨e_Store.pg, e_Store.hd, e_Store.po, e_Store.sa⟩, (mg_of X G e_Store.a), ⟨e_Store.mi, a34, i34, e_Store.kc⟩, na_Store_tree, na_Store_deeds, na_Store_done, na_Store_watches, e_FourPointsError.ex, ⟨e_FourPointsError.ga, e_FourPointsError.gt, e_FourPointsError.cl, e_FourPointsError.ob, e_FourPointsError.be⟩, (mg_of X G e_FourPointsError.a), e_NoColumn.ex, ⟨e_NoColumn.ga, e_NoColumn.gt, e_NoColumn.cl, e_NoColumn.ob, e_NoColumn.be⟩, (mg_of X G e_NoColumn.a), e_NotHalf.ex, ⟨e_NotHalf.ga, e_NotHalf.gt, e_NotHalf.cl, e_NotHalf.ob, e_NotHalf.be⟩, (mg_of X G e_NotHalf.a), e_OutOfTimes.ex, ⟨e_OutOfTimes.ga, e_OutOfTimes.gt, e_OutOfTimes.cl, e_OutOfTimes.ob, e_OutOfTimes.be⟩, (mg_of X G e_OutOfTimes.a), e_NoSample.ex, ⟨e_NoSample.ga, e_NoSample.gt, e_NoSample.cl, e_NoSample.ob, e_NoSample.be⟩, (mg_of X G e_NoSample.a), Zj, Zl, Yb, Ya, Yr, Yx, YJ, YN, Ye, Yh, Zu, ZX, Yq, Yy, Z7, Y6, Zh, YV, Yw, Yu, Zd, ZN, YM, YL, YX, ZW, ZT, Z6, YI, YG, Zi, Zk, Yc, Yg, Yv, Yt, YH, YK, Yd, Yf, (mg_of X G ac_TOP_LEVEL), (mg_of X G ac_TIMES_END), (mg_none_of X G ZAS), (mg_none_of X G ZB3), (mg_none_of X G ZB6), (mg_none_of X G ZBA), (mg_none_of X G ZCp), (mg_none_of X G ZM), (mg_none_of X G JR), (mg_none_of X G ZBU), (mg_none_of X G ZAt), (mg_none_of X G Jz), (mg_none_of X G Zn), (mg_none_of X G Yz), (mg_none_of X G JC), (mg_none_of X G YF)⟩
  exact ⟨fnOf "law" "law" (ZFa ZGe) (ZFJ ZGe) (ZEP ZGe) .none kV66 dc66 pm66 an66 cd66 ct66, fun s v => .of_eq rfl, fun base _ _ => ZWn T⟩
theorem walk {l : W.OpenLaw} {q : Program} {loose : List Str} {XP : (Str → Option Value) → Heap → Prop} {YP : World → Heap → Prop} {d : DefRec} {K : Params → W.Frag} (hn : l.most = some 63) (hdf : d.params.defaults = [])
  (hY : ∀ (w : World) (h : Heap), YP w h → (K w.params).In h)
  (F : ∀ (w : World) (mg : Str → Option Value) (fa : Addr) (h : Heap), (K w.params).In h → h.Ns mainGlobals mg → mg d.name = some (.ref fa) →
   ∃ fd : FuncData, (∀ (s : Shared) (u : Value), BindsTo s fd ⟨[u], []⟩ [("_law_script", u)]) ∧ ∀ base : Heap, (K w.params).In base → base.Ns mainGlobals mg → ZEW l.prog w (K w.params) mg base CX0 9 fa fd ["_law_script"] (ZMa (K w.params))) :
  W.WalkO q loose XP YP l.row.toRowW d [] (fun f vs => PySem.call f vs) :=
 L2.walk_of (n := 63) (k := 9) (x := "_law_script") (CX := fun _ => CX0) (sp := fun w => ZMa (K w.params)) hn (by decide) hdf ⟨rfl, by decide, by decide, rfl⟩ hY F (fun _ _ a ns hl _ hS => ⟨a, ns, rfl, hS, hl, fun _ => rfl⟩) fun _ _ _ _ _ z => z
end My
local macro_rules | `(tactic| walk_at "e") => `(tactic| (refine' ⟨?a, ?b, ?c, ?d, ?e, ?f, ?g⟩; (case a => k_is); (case b => k_exc); (case c => k_is); (case d => k_is); (case e => k_is); (case f => k_is); (case g => k_is)))
local macro_rules | `(tactic| walk_at "c") => `(tactic| (refine' ⟨?a, ?b, ?c, ?d, ?e, ?f, ?g⟩; (case a => k_is); (case b => k_is); (case c => k_is); (case d => k_is); (case e => k_is); (case f => k_is); (case g => k_is)))
local macro_rules | `(tactic| walk_at "f") => `(tactic| (refine' ⟨?a, L2.fun_mk ?b ?c ?d⟩; (case a => k_is); (case b => k_is); (case c => k_is); (case d => k_is)))
local macro_rules | `(tactic| walk_at "m") => `(tactic| (refine' ⟨?a, ?b, L2.fun_mk ?c ?d ?e⟩; (case a => k_is); (case b => k_is); (case c => k_is); (case d => k_is); (case e => k_is)))
namespace PySem.W.Fast
def tw8610695864929203712:=()
def tw12140982755812436546:=()
def tw7937380844964441252:=()
def tw15182523732404829189:=()
def tw7323431462487632742:=()
def tw16758215193419562762:=()
def tw4871905248310175626:=()
def tw5885524893090736139:=()
def tw6239747825714385835:=()
def tw9322708425598023373:=()
def tw495174258318712878:=()
def tw4767928134808785520:=()
def tw13462284442649730259:=()
def tw7625230356956870963:=()
def tw8614701168589207923:=()
def tw14001378841993040117:=()
def tw15085973757473149528:=()
def tw1263912277281075805:=()
def tw17534957755757046846:=()
def tw15330882219240053681:=()
def tw12097918856135108780:=()
def tw5047522349486777734:=()
def tw1128749352567543685:=()
def tw4934201875869582654:=()
def tw12911526857528096747:=()
def tw5331992221584100888:=()
def tw13602947802538039966:=()
def tw5503547921858442525:=()
def tw6495486030083256772:=()
def tw17266858924530971315:=()
def tw16726796877953603279:=()
def tw9618851269225597926:=()
def tw7388591879381548404:=()
def tw18434363901586376968:=()
def tw9564968043851987473:=()
def tw838638495246720665:=()
def tw17919821315602382857:=()
def tw6349805806635988571:=()
def tw8850159669752217701:=()
def tw12647446237593843669:=()
def tw3456865440746939553:=()
def tw5396782063052534649:=()
def tw7270485688918997352:=()
def tw14148650378734022299:=()
def tw933553530295657921:=()
def tw3747132010888461579:=()
def tw11349846816566329642:=()
def tw2949199470650282771:=()
def tw13128864768018801403:=()
def tw6197926167850056904:=()
def tw3220443489990440639:=()
def tw720761026906461454:=()
def tw17046169798324904164:=()
def tw17965594517897743205:=()
def tw9453624978873532849:=()
def tw6071645542375562498:=()
def tw7918167639832604501:=()
def tw147540749408685540:=()
def tw144872742961584976:=()
def tw1097100155351198408:=()
def tw6124661745599043613:=()
def tw2456000090903914079:=()
def tw18267331140358014695:=()
def tw13028339166949142077:=()
def tw5144204221825732380:=()
def tw7538828800038873191:=()
def tw11010189908902179821:=()
def tw15812399152893077596:=()
def tw966019263621633093:=()
def tw3136847627632723657:=()
def tw16906212886479727657:=()
def tw6635281376741937812:=()
def tw16030674598452053176:=()
def tw12828993765988035000:=()
def tw15422262242971763474:=()
def tw8012196493130135919:=()
def tw13636885384323719182:=()
def tw4897149081393007674:=()
def tw14284518147521483060:=()
def tw4314531215994122795:=()
def tw3400507712985975091:=()
def tw5124415284316339401:=()
def tw16681012895640835950:=()
def tw13169691131798761104:=()
def tw13269736122955826688:=()
def tw16450023084838174217:=()
def tw18136359691841073683:=()
def tw56183798525581827:=()
def tw5695219214241954415:=()
def tw18225268354373965741:=()
def tw4884686767890334096:=()
def tw2553885914833894968:=()
def tw338660569186339136:=()
def tw16395523313665063988:=()
def tw9017318586842572013:=()
def tw2989022846063585405:=()
def tw16139266240652613677:=()
def tw12929698988074251436:=()
def tw3374839888922095504:=()
def tw11506977151923571654:=()
def tw31745565926602867:=()
def tw13405324000769255014:=()
def tw4916561930119655737:=()
def tw2375911476316427170:=()
def tw949887290013654329:=()
def tw2966481332146403480:=()
def tw1583611586927372751:=()
def tw11086001395461653961:=()
def tw10495610002519234537:=()
def tw14414382380191423212:=()
def tw16020301755314671150:=()
def tw15393077882530512594:=()
def tw12456296275877203615:=()
def tw6143523061517781986:=()
def tw13684854644041623833:=()
def tw6717936584805991754:=()
def tw720701853670896072:=()
def tw14863919113538386461:=()
def tw17859596374872072080:=()
def tw6379330884124160372:=()
def tw17392112212035141365:=()
def tw11442385639283005536:=()
def tw11400877752654104649:=()
def tw12252550859270146076:=()
def tw409637690855247916:=()
def tw10273381625592805839:=()
def tw5769118535438193964:=()
def tw4526318024975381898:=()
def tw1776093837139415637:=()
def tw3393746712360434507:=()
def tw2581345629437449018:=()
def tw4418249857688338405:=()
def tw9899451848177655125:=()
def tw11664924265200363332:=()
def tw13871834921686425630:=()
def tw12285653710114711466:=()
def tw14875703711948534202:=()
def tw10542933883969321503:=()
def tw11348414638557329541:=()
def tw766266687970342489:=()
def tw2772008387236852777:=()
def tw6304548445586611034:=()
def tw797944369401596429:=()
def tw18121343113512682426:=()
def tw14859072078032527027:=()
def tw17014944105345709387:=()
def tw7420270849920316086:=()
def tw5098046030587050610:=()
def tw4997555063830019398:=()
def tw3721219340329366431:=()
def tw9993864375415328845:=()
def tw17661458015788398254:=()
def tw12172602151201366401:=()
def tw6845597569507491563:=()
def tw10674050006733381426:=()
def tw8382704122138306118:=()
def tw2300510726927236037:=()
def tw2124031377698231691:=()
def tw15681318414094539960:=()
def tw16820357896826536488:=()
def tw8069949220253091047:=()
def tw2829870932341525806:=()
def tw4292636786458240577:=()
def tw7325384144908876080:=()
def tw3985931305816067624:=()
def tw15423305982826900011:=()
def tw3631009806522636326:=()
def tw9568856003955699950:=()
def tw6475410238400226092:=()
def tw11002044899973756723:=()
def tw16952949113501939308:=()
def tw15985491831761614989:=()
def tw4547977071941753248:=()
def tw2221452161108283142:=()
def tw3845495411857473651:=()
def tw10254030690394755540:=()
def tw2419469162009819345:=()
def tw6772464383004283599:=()
def tw1059398811304698664:=()
def tw5033584874429137398:=()
def tw14399687591040270232:=()
def tw15466426488813792135:=()
def tw6050041366412985026:=()
def tw12822827779248198029:=()
def tw6610218007492469147:=()
def tw16583733355382838702:=()
def tw10685503677946206780:=()
def tw1634365128236385897:=()
def tw11858819348222215286:=()
def tw7823460995557046990:=()
def tw6387814017147879969:=()
def tw2557662984923987063:=()
def tw6015185077504471839:=()
def tw8882626104509905727:=()
def tw2208430113010365907:=()
def tw9954181511547552258:=()
end PySem.W.Fast
open PySem PySem.W PyProof.Rows
set_option maxRecDepth 100000 in
set_option maxHeartbeats 0 in
theorem PySem.Challenge.cw_fourpoints_k74_views_refused_holds : PySem.Challenge.rw_fourpoints_k74_views_refused.Holds := by
 w_on; o_law; k_head; (case hw => w_witness2)
 k_fill
 refine My.walk (l := PySem.Challenge.rw_fourpoints_k74_views_refused) rfl rfl (fun w h Y => PySem.W.kIn_of Y) ?F
 case F =>
  intro w mg fa h KX G hmg
  refine' My.all_mk KX G hmg ?taa ?tab ?tac ?tad ?tae ?taf ?tag ?tah ?tai ?taj ?tak ?tal ?tam ?tan ?tao ?tap ?taq ?tar ?tas ?tat ?tau ?tav ?taw ?tax ?tay ?taz ?tba ?tbb ?tbc ?tbd ?tbe ?tbf ?tbg ?tbh ?tbi ?tbj ?tbk ?tbl ?tbm ?tbn ?tbo ?tbp ?tbq ?tbr ?tbs ?tbt ?tbu ?tbv ?tbw ?tbx ?tby ?tbz ?tca ?tcb ?tcc ?tcd ?tce ?tcf ?tcg ?tch ?tci ?tcj ?tck ?tcl ?tcm ?tcn ?tco ?tcp ?tcq ?tcr ?tcs ?tct ?tcu ?tcv ?tcw ?tcx ?tcy ?tcz ?tda ?tdb ?tdc ?tdd ?tde ?tdf ?tdg ?tdh ?tdi ?tdj ?tdk ?tdl ?tdm ?tdn ?tdo ?tdp ?tdq ?tdr ?tds ?tdt ?tdu ?tdv ?tdw ?tdx ?tdy ?tdz ?tea ?teb ?tec ?ted ?tee ?tef ?teg ?teh ?tei ?tej ?tek ?tel ?tem ?ten ?teo ?tep ?teq ?ter ?tes ?tet ?teu ?tev ?tew ?tex ?tey ?tez ?tfa ?tfb ?tfc ?tfd ?tfe ?tff ?tfg ?tfh ?tfi ?tfj ?tfk ?tfl ?tfm ?tfn ?tfo ?tfp ?tfq ?tfr ?tfs ?tft ?tfu ?tfv ?tfw ?tfx ?tfy ?tfz
  (case taa | tab | tac | tad | tae => walk_at "e")
  (case taf => k_is)
  (case tag => kit_is)
  (case tah => k_is)
  (case tai => kit_is)
  (case taj => k_is)
  (case tak => kit_is)
  (case tal => k_is)
  (case tam => kit_is)
  (case tan => k_is)
  (case tao => kit_is)
  (case tap => k_is)
  (case taq => kit_is)
  (case tar => k_is)
  (case tas => kit_is)
  (case tat => k_is)
  (case tau => kit_is)
  (case tav => k_is)
  (case taw => kit_is)
  (case tax => k_is)
  (case tay => kit_is)
  (case taz => k_is)
  (case tba => kit_is)
  (case tbb => k_is)
  (case tbc => kit_is)
  (case tbd => k_is)
  (case tbe => kit_is)
  (case tbf => k_is)
  (case tbg => kit_is)
  (case tbh => k_is)
  (case tbi => kit_is)
  (case tbj => k_is)
  (case tbk => kit_is)
  (case tbl => k_is)
  (case tbm => kit_is)
  (case tbn => k_is)
  (case tbo => kit_is)
  (case tbp => k_is)
  (case tbq => kit_is)
  (case tbr => k_is)
  (case tbs => kit_is)
  (case tbt => walk_at "c")
  (case tbu | tbv | tbw => k_is)
  (case tbx => walk_at "c")
  (case tby | tbz | tca | tcb | tcc => k_is)
  (case tcd => walk_at "c")
  (case tce | tcf | tcg | tch => k_is)
  (case tci | tcj | tck | tcl | tcm | tcn | tco | tcp | tcq | tcr | tcs | tct | tcu | tcv | tcw | tcx | tcy | tcz => walk_at "f")
  (case tda | tdb | tdc | tdd | tde | tdf => k_is)
  (case tdg | tdh | tdi | tdj | tdk | tdl => walk_at "m")
  (case tdm => walk_at "f")
  (case tdn | tdo | tdp | tdq | tdr | tds | tdt | tdu => walk_at "m")
  (case tdv | tdw | tdx | tdy | tdz | tea => k_is)
  (case teb | tec | ted | tee | tef | teg | teh | tei | tej | tek | tel | tem | ten => walk_at "m")
  (case teo | tep | teq | ter | tes | tet | teu | tev | tew | tex | tey | tez | tfa | tfb | tfc | tfd | tfe | tff => walk_at "f")
  (case tfg | tfh | tfi | tfj | tfk | tfl | tfm | tfn | tfo | tfp | tfq | tfr | tfs | tft | tfu | tfv | tfw | tfx | tfy | tfz => k_is)
