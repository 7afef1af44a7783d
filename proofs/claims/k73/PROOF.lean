import PyProof.Rows.All
import Wide.All
import OpenK.AllK
import Wide.FinOn
import Lean
import PyProof.EqAt
import PyProof.EqKinds
import PyProof.TupleCall
import KE.KSortTup
import PyProof.CollectWalk
import PyProof.DictWalks
import PyProof.Rows.SortWalk
import KE.KItemsList
import PyProof.ReprText
import PyProof.Rows.StrIntSpec
import PyProof.RowDictHeap
import KE.KRevIter
import KE.KMinKey
import PyProof.P3In
import KE.KIntText
import PyProof.StrLawsTight
import PyProof.StrWalks
import PyProof.ListRange
import PySem.Challenge.RW_fourpoints_k73_whole_views_of_changing_s
-- CHANGE: your row's module here, as the last of these rows
set_option Elab.async false
set_option linter.all false
set_option maxRecDepth 100000
namespace L2
open PySem PySem.Spec PyProof.Rows
abbrev Key := Sum Int Str
def ZB2 : Key → Value → Bool
 | .inl k, v => Value.isInt k v
 | .inr x, v => Value.isStrOf x v
def ZSV (w : World) : Key → Int
 | .inl k => hashInt k
 | .inr x => hashStr w x
theorem YL : ∀ {k : Key} {v : Value}, ZB2 k v = true → (∃ i t, k = Sum.inl i ∧ v = Value.int i t) ∨ (∃ x t, k = Sum.inr x ∧ v = Value.str x t)
 | .inl i, v, h => by
  obtain ⟨t, e⟩ := Value.isInt_shape (k := i) (v := v) h
  exact .inl ⟨i, t, rfl, e⟩
 | .inr x, v, h => by
  obtain ⟨t, e⟩ := Value.isStrOf_shape (x := x) (v := v) h
  exact .inr ⟨x, t, rfl, e⟩
theorem ZJQ (i : Int) (t : Tok) : ZB2 (.inl i) (.int i t) = true := by simp [ZB2, Value.isInt]
theorem ZJR (x : Str) (t : Tok) : ZB2 (.inr x) (.str x t) = true := by simp [ZB2, Value.isStrOf]
theorem ZPu (a b : Int) : decide ((Sum.inl a : Key) = Sum.inl b) = (a == b) := by
 by_cases e : a = b
 ·subst e; simp
 ·have h : ¬ (Sum.inl a : Key) = Sum.inl b := fun q => e (Sum.inl.inj q)
  rw [decide_eq_false h]
  exact (beq_eq_false_iff_ne.mpr e).symm
theorem ZPv (a b : Str) : decide ((Sum.inr a : Key) = Sum.inr b) = decide (a = b) := by
 by_cases e : a = b
 ·subst e; simp
 ·have h : ¬ (Sum.inr a : Key) = Sum.inr b := fun q => e (Sum.inr.inj q)
  rw [decide_eq_false h, decide_eq_false e]
theorem ZPw (a : Int) (b : Str) : decide ((Sum.inl a : Key) = Sum.inr b) = false := decide_eq_false (fun q => nomatch q)
theorem ZPx (a : Str) (b : Int) : decide ((Sum.inr a : Key) = Sum.inl b) = false := decide_eq_false (fun q => nomatch q)
def Z4 (prog : Program) (w : World) : PySem.KeyKind prog w Key where
 is := ZB2
 hash := ZSV w
 inj := fun v a b ha hb => by
  rcases YL ha with ⟨i, t, rfl, rfl⟩ | ⟨x, t, rfl, rfl⟩
  ·rcases YL hb with ⟨j, u, rfl, e⟩ | ⟨y, u, rfl, e⟩
   ·injection e with e1 _; rw [e1]
   ·exact nomatch e
  ·rcases YL hb with ⟨j, u, rfl, e⟩ | ⟨y, u, rfl, e⟩
   ·exact nomatch e
   ·injection e with e1 _; rw [e1]
 byValue := fun k v h => by
  rcases YL h with ⟨i, t, rfl, rfl⟩ | ⟨x, t, rfl, rfl⟩ <;> rfl
 pyHash := fun hv h => by
  rcases YL hv with ⟨i, t, rfl, rfl⟩ | ⟨x, t, rfl, rfl⟩
  ·exact wpAny_pyHash_int h
  ·exact wpAny_pyHash_str h
 eqBool := fun hu hv h => by
  rcases YL hu with ⟨i, t, rfl, rfl⟩ | ⟨x, t, rfl, rfl⟩
  ·rcases YL hv with ⟨j, u, rfl, rfl⟩ | ⟨y, u, rfl, rfl⟩
   ·rw [ZPu] at h; exact wpAny_eqBool_int h
   ·rw [ZPw] at h; exact SeqAt.EqAt.int_str i t y u _ _ _ _ h
  ·rcases YL hv with ⟨j, u, rfl, rfl⟩ | ⟨y, u, rfl, rfl⟩
   ·rw [ZPx] at h; exact SeqAt.EqAt.str_int x t j u _ _ _ _ h
   ·rw [ZPv] at h; exact wpAny_eqBool_str h
 «strs» := fun k x t v h => by
  rcases YL h with ⟨i, u, rfl, e⟩ | ⟨y, u, rfl, e⟩
  ·exact nomatch e
  ·injection e with e1 _
   subst e1
   cases v <;> rfl
theorem ZHP (prog : Program) (w : World) (i : Int) (t : Tok) : (Z4 prog w).is (.inl i) (.int i t) = true := ZJQ i t
theorem ZHQ (prog : Program) (w : World) (x : Str) (t : Tok) : (Z4 prog w).is (.inr x) (.str x t) = true := ZJR x t
end L2
namespace L2
open PySem PySem.Spec PyProof.Rows
inductive V where
 | non | bl (b : Bool) | int (i : Int) | str (x : Str) | byt (b : Array UInt8) | flt (b : UInt64) | ref (a : Addr) | ty (n : String)
 deriving DecidableEq
def ZX : V → Value → Prop
 | .non, u => u = Value.none
 | .bl b, u => u = Value.bool b
 | .int i, u => ∃ t, u = Value.int i t
 | .str x, u => ∃ t, u = Value.str x t
 | .byt b, u => ∃ t, u = Value.bytes b t
 | .flt b, u => ∃ t, u = Value.float b t
 | .ref a, u => u = Value.ref a
 | .ty n, u => u = Value.type n
abbrev ZV : List V → List Value → Prop := Paired ZX
theorem ZV.length {xs : List V} {us : List Value} (r : ZV xs us) : xs.length = us.length := Paired.length r
theorem ZV.get : ∀ {xs : List V} {us : List Value} {i : Nat} {x : V}, ZV xs us → xs[i]? = some x → ∃ u, us[i]? = some u ∧ ZX x u
 | _, _, _, _, .nil, e => by simp at e
 | _, _, 0, _, .cons r _, e => by simp at e; subst e; exact ⟨_, rfl, r⟩
 | _, _, i + 1, x, .cons _ t, e => by
  obtain ⟨u, h1, h2⟩ := ZV.get (i := i) (x := x) t (by simpa using e)
  exact ⟨u, by simpa using h1, h2⟩
theorem ZV.set {x : V} {u : Value} (r : ZX x u) : ∀ {xs : List V} {us : List Value} (i : Nat), ZV xs us → ZV (xs.set i x) (us.set i u)
 | _, _, _, .nil => .nil
 | _, _, 0, .cons _ t => .cons r t
 | _, _, i + 1, .cons q t => .cons q (ZV.set r i t)
theorem ZV.append : ∀ {xs ys : List V} {us ws : List Value}, ZV xs us → ZV ys ws → ZV (xs ++ ys) (us ++ ws)
 | _, _, _, _, .nil, s => s
 | _, _, _, _, .cons r t, s => .cons r (ZV.append t s)
theorem ZV.take : ∀ {xs : List V} {us : List Value} (n : Nat), ZV xs us → ZV (xs.take n) (us.take n)
 | _, _, 0, _ => .nil
 | _, _, _ + 1, .nil => .nil
 | _, _, n + 1, .cons r t => .cons r (ZV.take n t)
theorem ZV.drop : ∀ {xs : List V} {us : List Value} (n : Nat), ZV xs us → ZV (xs.drop n) (us.drop n)
 | _, _, 0, r => r
 | _, _, _ + 1, .nil => .nil
 | _, _, n + 1, .cons _ t => ZV.drop n t
theorem ZV.none_of : ∀ {xs : List V} {us : List Value} {i : Nat}, ZV xs us → xs[i]? = none → us[i]? = none := fun {xs us i} r e => by
 have h1 := r.length
 have h2 : xs.length ≤ i := List.getElem?_eq_none_iff.mp e
 exact List.getElem?_eq_none_iff.mpr (by omega)
def Y1 : Option V → Option Value → Prop
 | some v, some u => ZX v u
 | none, none => True
 | _, _ => False
def KV {κ : Type} : List (κ × V) → List (κ × Value) → Prop := Paired fun (p : κ × V) (q : κ × Value) => p.1 = q.1 ∧ ZX p.2 q.2
def kV : Key → V
 | .inl i => .int i
 | .inr x => .str x
inductive HO where
 /-- a list -/
 | lst (xs : List V)
 /-- a tuple (never changes) -/
 | tup (xs : List V)
 /-- a dict whose keys are ints and texts; one whose keys are tuples of ints and texts (the empty one is both) -/
 | dK (kvs : List (Key × V)) | dT (kvs : List (List Key × V))
 /-- a set of ints: its members, its size -/
 | set (S : Int → Bool) (n : Nat)
 /-- an instance of the class at C, its dict at dx, its attributes -/
 | ins (C dx : Addr) (fs : List (Str × V))
 /-- the dict of the instance at x -/
 | own (x : Addr)
 /-- the dict of an exception -/
 | xd (fs : List (Str × V))
 /-- a bound method, f of x -/
 | met (f x : Addr)
 /-- a range object lo, lo + 1, .. below hi -/
 | rng (lo hi : Int)
 /-- a thing that is known to the object (the script; a dict while a loop walks it): read, never written while it is so -/
 | frz (o : Obj) (u : HO)
 /-- a code object's table -/
 | tbl (ps : Array Value)
 /-- any other thing, by what is true of its one object (a def of one's own: SetO a S n := HO.ext fun h => ..) -/
 | ext (φ : Heap → Prop)
abbrev Hp := Addr → Option HO
def upd (H : Hp) (a : Addr) (o : HO) : Hp := fun b => if b = a then some o else H b
theorem ZS {H : Hp} {a : Addr} {o : HO} : upd H a o a = some o := by unfold upd; rw [if_pos rfl]
theorem Za {H : Hp} {a b : Addr} {o : HO} (h : b ≠ a) : upd H a o b = H b := by unfold upd; rw [if_neg h]
theorem ZNR {H : Hp} {a b : Addr} {o u : HO} (h : H a = some o) (h' : H b = some u) (d : o ≠ u) : a ≠ b := by
 intro e; subst e; rw [h] at h'; exact d (Option.some.inj h')
theorem ZY {H : Hp} {a b : Addr} {o : HO} (h : H a = some o) (h' : H b = none) : a ≠ b := by
 intro e; subst e; rw [h] at h'; cases h'
section
variable (P : Program) (w : World)
def Zz (H : Hp) (h : Heap) (a : Addr) : HO → Prop
 | .lst xs => xs.length ≤ sizeLine ∧ ∃ (its : List Value) (n : Nat), ZV xs its ∧ h.get? a = some { cls := .type "list", data := .seq its.toArray n }
 | .tup xs => (xs.length ≤ sizeLine ∧ ((∀ i : Int, xs.head? ≠ some (.int i)) → ∃ o, h.get? a = some o ∧ o.dict = none ∧ o.slots = #[])) ∧ ∃ its : List Value, ZV xs its ∧ IsTup h a its.toArray
 | .dK kvs => kvs.length ≤ sizeLine ∧ (a == sysModules) = false ∧ ∃ vs, KV kvs vs ∧ h.DictOf (Z4 P w) a vs
 | .dT kvs => kvs.length ≤ sizeLine ∧ (a == sysModules) = false ∧ ∃ xs : List (List Key × Addr × Value),
  Paired (fun (p : List Key × V) (q : List Key × Addr × Value) => p.1 = q.1 ∧ H q.2.1 = some (.tup (p.1.map kV)) ∧ ZX p.2 q.2.2) kvs xs ∧
  ∃ o es ep, h.get? a = some o ∧ o.ExactDict ∧ o.data = .dict es ep ∧ es.toList = xs.map (entryOfKey (tupleKind (Z4 P w))) ∧ (xs.map (·.1)).Nodup
 | .set S n => h.SetOf (intKind P w) a S n
 | .ins C dx fs => H dx = some (.own a) ∧ fs.length ≤ 1000 ∧ dx ≠ a ∧ h.get? a = some (PySem.W.instObj C dx) ∧
  ∃ mA, h.Ns1 dx mA ∧ (∀ f, Y1 (fs.lookup f) (mA f)) ∧ PySem.Within mA (fs.map (·.1))
 | .own _ => ∃ o, h.get? a = some o
 | .xd fs => ∃ mA, h.Ns1 a mA ∧ ∀ f, Y1 (fs.lookup f) (mA f)
 | .rng lo hi => ∃ t u v, h.get? a = some { cls := .type "range", data := .fields #[.int lo t, .int hi u, .int 1 v] }
 | .frz o u => h.get? a = some o ∧ Zz H h a u
 | .tbl ps => h.get? a = some { cls := .none, data := .fields ps }
 | .met f x => h.get? a = some (PySem.W.methodObj (.ref f) (.ref x))
 | .ext φ => φ h ∧ (∃ o, h.get? a = some o) ∧ ∀ h1 h2 : Heap, φ h1 → (∀ o, h1.get? a = some o → h2.get? a = some o) → φ h2
def HOk (H : Hp) (h : Heap) : Prop := ∀ a o, H a = some o → Zz P w H h a o
end
section
variable {P : Program} {w : World} {H H' : Hp} {h h' : Heap} {a : Addr} {o : HO}
theorem Zz.lt (x : Zz P w H h a o) : a < h.objs.size := by
 cases o with
 | lst xs => obtain ⟨_, _, _, _, e⟩ := x; exact Heap.lt_size e
 | tup xs => obtain ⟨_, _, _, p⟩ := x; exact p.lt
 | dK kvs => obtain ⟨_, _, _, _, o, _, _, e, _⟩ := x; exact Heap.lt_size e
 | dT kvs => obtain ⟨_, _, _, _, o, _, _, e, _⟩ := x; exact Heap.lt_size e
 | set S n => obtain ⟨o, _, _, _, e, _⟩ := x; exact Heap.lt_size e
 | ins C dx fs => obtain ⟨_, _, _, e, _⟩ := x; exact Heap.lt_size e
 | own y => obtain ⟨_, e⟩ := x; exact Heap.lt_size e
 | xd fs => obtain ⟨_, ⟨_, _, _, e, _⟩, _⟩ := x; exact Heap.lt_size e
 | rng lo hi => obtain ⟨_, _, _, e⟩ := x; exact Heap.lt_size e
 | frz ob u => obtain ⟨e, _⟩ := x; exact Heap.lt_size e
 | tbl ps => exact Heap.lt_size (show h.get? a = some _ from x)
 | met f y => exact Heap.lt_size (show h.get? a = some _ from x)
 | ext φ => obtain ⟨_, ⟨_, e⟩, _⟩ := x; exact Heap.lt_size e
theorem Paired.mapP {α β : Type} {F G : α → β → Prop} : ∀ {l₁ : List α} {l₂ : List β}, Paired F l₁ l₂ → (∀ a b, F a b → G a b) → Paired G l₁ l₂
 | _, _, .nil, _ => .nil
 | _, _, .cons r t, f => .cons (f _ _ r) (Paired.mapP t f)
theorem Zz.stay (x : Zz P w H h a o) (k : ∀ b u, (b = a ∨ H b = some (.own a)) → h.get? b = some u → h'.get? b = some u)
  (ho : ∀ b, H b = some (.own a) → H' b = some (.own a)) (ht : ∀ b xs, H b = some (.tup xs) → H' b = some (.tup xs)) : Zz P w H' h' a o := by
 induction o with
 | lst xs => obtain ⟨z, its, n, r, e⟩ := x; exact ⟨z, its, n, r, k _ _ (.inl rfl) e⟩
 | tup xs =>
  obtain ⟨⟨z, pd⟩, its, r, ob, e, c⟩ := x
  exact ⟨⟨z, fun q => let ⟨od, ed, cd⟩ := pd q; ⟨od, k _ _ (.inl rfl) ed, cd⟩⟩, its, r, ob, k _ _ (.inl rfl) e, c⟩
 | dK kvs => obtain ⟨z, y, vs, r, ob, es, ep, e, c⟩ := x; exact ⟨z, y, vs, r, ob, es, ep, k _ _ (.inl rfl) e, c⟩
 | dT kvs =>
  obtain ⟨z, y, xs, r, ob, es, ep, e, c⟩ := x
  exact ⟨z, y, xs, Paired.mapP r fun p q z => ⟨z.1, ht _ _ z.2.1, z.2.2⟩, ob, es, ep, k _ _ (.inl rfl) e, c⟩
 | set S n => obtain ⟨ob, es, ep, t, e, c⟩ := x; exact ⟨ob, es, ep, t, k _ _ (.inl rfl) e, c⟩
 | ins C dx fs =>
  obtain ⟨d, z, ne, e, mA, ⟨od, es, ep, e2, c⟩, r⟩ := x
  exact ⟨ho _ d, z, ne, k _ _ (.inl rfl) e, mA, ⟨od, es, ep, k _ _ (.inr d) e2, c⟩, r⟩
 | own y => obtain ⟨ob, e⟩ := x; exact ⟨ob, k _ _ (.inl rfl) e⟩
 | xd fs => obtain ⟨mA, ⟨od, es, ep, e, c⟩, r⟩ := x; exact ⟨mA, ⟨od, es, ep, k _ _ (.inl rfl) e, c⟩, r⟩
 | rng lo hi => obtain ⟨t, u, v, e⟩ := x; exact ⟨t, u, v, k _ _ (.inl rfl) e⟩
 | frz ob u ih => obtain ⟨e, q⟩ := x; exact ⟨k _ _ (.inl rfl) e, ih q⟩
 | tbl ps =>
  have e : h.get? a = some { cls := .none, data := .fields ps } := x
  show h'.get? a = some { cls := .none, data := .fields ps }
  exact k a _ (.inl rfl) e
 | met f y =>
  have e : h.get? a = some (PySem.W.methodObj (.ref f) (.ref y)) := x
  show h'.get? a = some (PySem.W.methodObj (.ref f) (.ref y))
  exact k a _ (.inl rfl) e
 | ext φ => obtain ⟨p, ⟨o, e⟩, st⟩ := x; exact ⟨st _ _ p fun o q => k _ _ (.inl rfl) q, ⟨o, k _ _ (.inl rfl) e⟩, st⟩
theorem HOk.lt (x : HOk P w H h) (e : H a = some o) : a < h.objs.size := (x a o e).lt
theorem HOk.fresh (x : HOk P w H h) (e : h.objs.size ≤ a) : H a = none := by
 cases q : H a with
 | none => rfl
 | some u => exact absurd (Nat.lt_of_lt_of_le (x.lt q) e) (Nat.lt_irrefl _)
theorem HOk.kept (x : HOk P w H h) (k : ∀ b u, h.get? b = some u → h'.get? b = some u) : HOk P w H h' := fun a o e =>
 (x a o e).stay (fun b u _ q => k b u q) (fun _ q => q) fun _ _ q => q
theorem HOk.laid (x : HOk P w H h) (k : ∀ b u, h.get? b = some u → h'.get? b = some u) (hp : h.objs.size ≤ a) (new : Zz P w (upd H a o) h' a o) : HOk P w (upd H a o) h' := fun b u e => by
 have hn := x.fresh hp
 by_cases hb : b = a
 ·subst hb; rw [ZS] at e; cases e; exact new
 ·rw [Za hb] at e
  exact (x b u e).stay (fun c v _ q => k c v q) (fun c q => by rw [Za (ZY q hn)]; exact q) fun c xs q => by rw [Za (ZY q hn)]; exact q
end
def Rd (H : Hp) (a : Addr) (u : HO) : Prop := H a = some u ∨ ∃ o, H a = some (.frz o u)
theorem Rd.of {H : Hp} {a : Addr} {u : HO} (h : H a = some u) : Rd H a u := .inl h
theorem Rd.ok {P : Program} {w : World} {H : Hp} {h : Heap} {a : Addr} {u : HO} (r : Rd H a u) (x : HOk P w H h) : Zz P w H h a u := by
 rcases r with r | ⟨o, r⟩
 ·exact x a u r
 ·obtain ⟨_, q⟩ := x a _ r
  exact q
def Mut : Option HO → Prop
 | some (.lst _) => True
 | some (.dK _) => True
 | some (.dT _) => True
 | some (.set _ _) => True
 | some (.ins _ _ _) => True
 | some (.ext _) => True
 | _ => False
section
variable {P : Program} {w : World} {H : Hp} {h h' : Heap} {x e : Addr} {o' : HO}
theorem HOk.write (ok : HOk P w H h) (mu : Mut (H x)) (he : e = x ∨ H e = some (.own x)) (k : ∀ b u, b ≠ e → h.get? b = some u → h'.get? b = some u) (heo : ∃ u, h'.get? e = some u)
  (new : Zz P w (upd H x o') h' x o') : HOk P w (upd H x o') h' := fun b u q => by
 have nown : ∀ c y, H c = some (.own y) → c ≠ x := fun c y r z => by subst z; rw [r] at mu; exact mu
 have ntup : ∀ c xs, H c = some (.tup xs) → c ≠ x := fun c xs r z => by subst z; rw [r] at mu; exact mu
 by_cases hb : b = x
 ·subst hb; rw [ZS] at q; cases q; exact new
 ·rw [Za hb] at q
  by_cases hbe : b = e
  ·have q' : H b = some (.own x) := by
    rcases he with z | z
    ·exact absurd (hbe.trans z) hb
    ·rw [hbe]; exact z
   rw [q] at q'; cases q'
   obtain ⟨v, hv⟩ := heo
   exact ⟨v, by rw [hbe]; exact hv⟩
  ·refine (ok b u q).stay (fun c v hc r => k c v ?_ r) (fun c r => by rw [Za (nown c b r)]; exact r) fun c xs r => by rw [Za (ntup c xs r)]; exact r
   rcases hc with rfl | hc
   ·exact hbe
   ·rintro rfl
    rcases he with z | z
    ·exact nown c b hc z
    ·rw [hc] at z; cases z; exact hb rfl
end
structure Un (fs ex : List Addr) (H H' : Hp) (h h' : Heap) : Prop where
 keep : ∀ b o, h.get? b = some o → H b = none → b ∉ fs → b ∉ ex → h'.get? b = some o
 slot : ∀ b o, h.get? b = some o → H b = none → b ∈ fs → b ∉ ex → ∃ sl, h'.get? b = some { o with slots := sl }
 free : ∀ b o, h.get? b = some o → H b = none → b ∉ ex → H' b = none
 there : ∀ b o, h.get? b = some o → b ∉ ex → ∃ o', h'.get? b = some o'
 tups : ∀ b xs, H b = some (.tup xs) → H' b = some (.tup xs)
 frzs : ∀ b o u, H b = some (.frz o u) → H' b = some (.frz o u)
 tbls : ∀ b ps, H b = some (.tbl ps) → ∃ more, H' b = some (.tbl (ps ++ more))
section
variable {fs fs' ex ex' : List Addr} {H H1 H2 : Hp} {h h1 h2 h' : Heap} {a x e : Addr} {o : HO}
theorem Un.any (u : Un fs ex H H1 h h1) {b : Addr} {ob : Obj} (q : h.get? b = some ob) (n : H b = none) (hx : b ∉ ex) : ∃ sl, h1.get? b = some { ob with slots := sl } := by
 by_cases hb : b ∈ fs
 ·exact u.slot b ob q n hb hx
 ·exact ⟨ob.slots, u.keep b ob q n hb hx⟩
theorem Un.trans (a : Un fs ex H H1 h h1) (b : Un fs ex H1 H2 h1 h2) : Un fs ex H H2 h h2 where
 keep := fun c ob q n hc hx => b.keep c ob (a.keep c ob q n hc hx) (a.free c ob q n hx) hc hx
 slot := fun c ob q n hc hx => by
  obtain ⟨sl, e1⟩ := a.slot c ob q n hc hx
  obtain ⟨sl', e2⟩ := b.slot c _ e1 (a.free c ob q n hx) hc hx
  exact ⟨sl', e2⟩
 free := fun c ob q n hx => by
  obtain ⟨o', e1⟩ := a.there c ob q hx
  exact b.free c o' e1 (a.free c ob q n hx) hx
 there := fun c ob q hx => by
  obtain ⟨o', e1⟩ := a.there c ob q hx
  exact b.there c o' e1 hx
 tups := fun c xs q => b.tups c xs (a.tups c xs q)
 frzs := fun c ob xs q => b.frzs c ob xs (a.frzs c ob xs q)
 tbls := fun c ps q => by
  obtain ⟨m1, e1⟩ := a.tbls c ps q
  obtain ⟨m2, e2⟩ := b.tbls c _ e1
  exact ⟨m1 ++ m2, by rw [e2, Array.append_assoc]⟩
theorem Un.kept (k : ∀ b u, h.get? b = some u → h'.get? b = some u) : Un fs ex H H h h' :=
 ⟨fun b ob q _ _ _ => k b ob q, fun b ob q _ _ _ => ⟨ob.slots, k b ob q⟩, fun _ _ _ n _ => n, fun b ob q _ => ⟨ob, k b ob q⟩, fun _ _ q => q, fun _ _ _ q => q, fun _ ps q => ⟨#[], by rw [q]; simp⟩⟩
theorem Un.refl : Un fs ex H H h h := Un.kept fun _ _ q => q
theorem Un.laid (k : ∀ b u, h.get? b = some u → h'.get? b = some u) (hp : h.objs.size ≤ a) (hn : H a = none) : Un fs ex H (upd H a o) h h' where
 keep := fun b u q _ _ _ => k b u q
 slot := fun b u q _ _ _ => ⟨u.slots, k b u q⟩
 free := fun b u q n _ => by rw [Za (Nat.ne_of_lt (Nat.lt_of_lt_of_le (Heap.lt_size q) hp))]; exact n
 there := fun b u q _ => ⟨u, k b u q⟩
 tups := fun b xs q => by rw [Za (ZY q hn)]; exact q
 frzs := fun b u xs q => by rw [Za (ZY q hn)]; exact q
 tbls := fun b ps q => ⟨#[], by rw [Za (ZY q hn), q]; simp⟩
theorem Un.write (mu : Mut (H x)) (he : e = x ∨ H e = some (.own x)) (k : ∀ b u, b ≠ e → h.get? b = some u → h'.get? b = some u) (heo : ∃ u, h'.get? e = some u) : Un fs ex H (upd H x o) h h' := by
 have hx : ∀ b, H b = none → b ≠ x := fun b n z => by subst z; rw [n] at mu; exact mu
 have hb : ∀ b, H b = none → b ≠ e := fun b n z => by
  subst z
  rcases he with r | r
  ·exact hx b n r
  ·rw [n] at r; cases r
 have hm : ∀ b u, H b = some u → ¬ Mut (some u) → b ≠ x := fun b u q nm z => by subst z; rw [q] at mu; exact nm mu
 refine ⟨fun b u q n _ _ => k b u (hb b n) q, fun b u q n _ _ => ⟨u.slots, k b u (hb b n) q⟩, fun b u q n _ => by rw [Za (hx b n)]; exact n, fun b u q _ => ?_,
  fun b xs q => by rw [Za (hm b _ q fun z => z)]; exact q, fun b u xs q => by rw [Za (hm b _ q fun z => z)]; exact q, fun b ps q => ⟨#[], by rw [Za (hm b _ q fun z => z), q]; simp⟩⟩
 by_cases hbe : b = e
 ·subst hbe; exact heo
 ·exact ⟨u, k b u hbe q⟩
theorem Un.mono (u : Un fs ex H H1 h h1) (hs : ∀ b ∈ fs, b ∈ fs') (hx : ∀ b ∈ ex, b ∈ ex') : Un fs' ex' H H1 h h1 :=
 ⟨fun b ob q n hb he => u.keep b ob q n (fun z => hb (hs b z)) fun z => he (hx b z), fun _ _ q n _ he => u.any q n fun z => he (hx _ z), fun b ob q n he => u.free b ob q n fun z => he (hx b z), fun b ob q he => u.there b ob q fun z => he (hx b z), u.tups, u.frzs, u.tbls⟩
end
def trk (h : Heap) (H : Hp) : List Addr := (List.range h.objs.size).filter fun a => (H a).isSome
def ZB3 (h : Heap) (H : Hp) : Heap := PySem.W.hideAll h (trk h H)
theorem ZJS (h : Heap) (H : Hp) : (ZB3 h H).objs.size = h.objs.size := PySem.W.hideAll_size _ _
theorem ZK7 {h : Heap} {H : Hp} {b : Addr} {o : Obj} (e : h.get? b = some o) (n : H b = none) : (ZB3 h H).get? b = some o :=
 PySem.W.hideAll_get _ e fun hm => by
  have q : (H b).isSome = true := (List.mem_filter.mp hm).2
  rw [n] at q; simp at q
theorem ZNm {h : Heap} {H : Hp} {b : Addr} {o : Obj} (e : (ZB3 h H).get? b = some o) : h.get? b = some o ∧ H b = none := by
 have e' : h.get? b = some o := PySem.W.of_hideAll (trk h H) e
 refine ⟨e', ?_⟩
 cases q : H b with
 | none => rfl
 | some x =>
  have hm : b ∈ trk h H := List.mem_filter.mpr ⟨List.mem_range.mpr (Heap.lt_size e'), by simp [q]⟩
  have z : (ZB3 h H).get? b = none := PySem.W.hideAll_none (trk h H) hm
  rw [z] at e; cases e
def ZNn (g h : Heap) (L : Addr) : List (Addr × Obj) := (List.range h.objs.size).filterMap fun a => if a = L ∨ (g.get? a).isSome = true then none else (h.get? a).map fun o => (a, o)
def Yt (g h : Heap) (L d : Addr) : List (Addr × Obj) := (ZNn g h L).filter fun p => decide (p.1 ≠ d)
end L2
namespace L2
open PySem PySem.Spec PyProof.Rows
structure Mod (K : PySem.W.Frag) (mg : Str → Option Value) (base : Heap) : Prop where
 kin : K.In base
 glob : base.Ns mainGlobals mg
 blt : ∃ mb, base.Ns builtinsNs mb ∧ ∀ x : Str, x ≠ "__name__" → mb x = bootBuiltins x
 nolimit : base.NoLimit
structure Cx where
 prog : Program
 w : World
 K : PySem.W.Frag
 mg : Str → Option Value
 base : Heap
 A : Around
 N : List Str
 s₀ : Shared
 H₀ : Hp
 env : Env
 outer : List Env
 stack : List Env
 ex : List Addr
 fn : Str → Bool
 calm : Bool
 pn : List (Addr × Obj)
 xe : Value → Shared → Prop
def frs (l : List Env) : List Addr := l.filterMap (·.frame)
abbrev Cx.fs (X : Cx) : List Addr := frs X.outer
def Vis (sc : Scope) (x : Str) : Prop := sc.names.lookup x = some .local ∨ sc.names.lookup x = some .cell ∨ sc.names.lookup x = some .free
def Loc (sc : Scope) (x : Str) : Prop := sc.names.lookup x = some .local ∨ sc.names.lookup x = some .cell
def ZSW (env : Env) (h : Heap) (m : Str → Option Value) (x : Str) (u : Value) : Prop :=
 (env.kindOf x = some .local ∧ m x = some u) ∨ ((env.kindOf x = some .cell ∨ env.kindOf x = some .free) ∧ ∃ c, env.cells.lookup x = some c ∧ h.IsCell c (some u))
structure Cx.Ok (X : Cx) : Prop where
 mod : Mod X.K X.mg X.base
 kind : X.env.scope.kind = .function
 glob : X.env.globals = mainGlobals
 blt : X.env.builtins = builtinsNs
 above : X.s₀.heap.objs.size ≤ X.env.locals
 inj : ∀ x y c, X.env.cells.lookup x = some c → X.env.cells.lookup y = some c → x = y
 has : ∀ x, (X.env.kindOf x = some .cell ∨ X.env.kindOf x = some .free) → ∃ c, X.env.cells.lookup x = some c
 cab : ∀ x c, X.fn x = true → X.env.cells.lookup x = some c → X.s₀.heap.objs.size ≤ c
 hd : X.calm = true → X.A.handled = none
 frames : X.A.frames = some X.stack
 stk : X.stack = X.outer ∨ (X.stack = X.env :: X.outer ∧ X.env.frame = some X.env.locals)
 exf : ∀ b ∈ X.ex, b ≠ X.env.locals ∧ ∀ x c, X.env.cells.lookup x = some c → c ≠ b
 bs : ∀ b o, X.base.get? b = some o → X.s₀.heap.get? b = some o ∧ X.H₀ b = none
 bsz : X.base.objs.size ≤ X.s₀.heap.objs.size
 noex : ∀ b o, X.base.get? b = some o → b ∉ X.ex
 exfs : ∀ b ∈ X.ex, b ∉ X.fs
 funs : X.s₀.heap.FunFrames X.base X.outer
 frf : ∀ b ∈ X.fs, X.H₀ b = none
structure Inv (X : Cx) (pins : List (Addr × Obj)) (σ : List (Option V)) (H : Hp) (s : Shared) : Prop where
 ok : X.Ok
 os : s.os = X.s₀.os
 bare : AllBare s.gens
 base : Un X.fs X.ex X.H₀ H X.s₀.heap s.heap
 loc : ∃ m, s.heap.Ns X.env.locals m ∧ ∀ (i : Nat) (x : Str) (v : V), X.N[i]? = some x → σ[i]? = some (some v) → Vis X.env.scope x → ∃ u, ZX v u ∧ ZSW X.env s.heap m x u
 cell : ∀ x c, X.env.cells.lookup x = some c → ∃ v, s.heap.IsCell c v
 free : H X.env.locals = none
 freeC : ∀ x c, X.env.cells.lookup x = some c → H c = none
 pin : ∀ p ∈ X.pn ++ pins, s.heap.get? p.1 = some p.2 ∧ H p.1 = none ∧ p.1 ≠ X.env.locals ∧ p.1 ∉ X.fs ∧ ∀ v, p.2.data ≠ .cell v
 hok : HOk X.prog X.w H s.heap
 len : σ.length = X.N.length
section
variable {X : Cx} {pins : List (Addr × Obj)} {σ : List (Option V)} {H H' : Hp} {s : Shared} {h' : Heap}
theorem Cx.Ok.nofr (ok : X.Ok) {b : Addr} {o : Obj} (e : X.base.get? b = some o) : b ∉ X.fs := fun hb => by
 have := (ok.funs.mem hb).1
 rw [e] at this; cases this
theorem Inv.bs (I : Inv X pins σ H s) : ∀ b o, X.base.get? b = some o → s.heap.get? b = some o ∧ H b = none := fun b o e =>
 ⟨I.base.keep b o (I.ok.bs b o e).1 (I.ok.bs b o e).2 (I.ok.nofr e) (I.ok.noex b o e), I.base.free b o (I.ok.bs b o e).1 (I.ok.bs b o e).2 (I.ok.noex b o e)⟩
theorem Inv.bk (I : Inv X pins σ H s) : ∀ b o, X.base.get? b = some o → s.heap.get? b = some o := fun b o e => (I.bs b o e).1
theorem Inv.mod (I : Inv X pins σ H s) : Mod X.K X.mg X.base := I.ok.mod
theorem Inv.kIn (I : Inv X pins σ H s) : X.K.In s.heap := I.ok.mod.kin.keeps I.bk
theorem Inv.nolimit (I : Inv X pins σ H s) : s.heap.NoLimit := I.ok.mod.nolimit.keeps I.bk
theorem Inv.fr (I : Inv X pins σ H s) : ∃ m, Fr X.base X.env.locals s.heap m :=
 let ⟨m, hn, _⟩ := I.loc
 ⟨m, hn, I.bk, Nat.le_trans I.ok.bsz I.ok.above⟩
theorem Inv.lt (I : Inv X pins σ H s) : X.env.locals < s.heap.objs.size := let ⟨_, hn, _⟩ := I.loc; hn.lt
theorem Inv.sz (I : Inv X pins σ H s) : X.s₀.heap.objs.size ≤ s.heap.objs.size := Nat.le_trans I.ok.above (Nat.le_of_lt I.lt)
theorem Inv.nofs (I : Inv X pins σ H s) {a : Addr} (h : s.heap.objs.size ≤ a) : a ∉ X.fs := fun hb => by
 obtain ⟨_, o, ho, _⟩ := I.ok.funs.mem hb
 exact absurd (Nat.lt_of_lt_of_le (Heap.lt_size ho) (Nat.le_trans I.sz h)) (Nat.lt_irrefl _)
theorem Inv.cne (I : Inv X pins σ H s) : ∀ x c, X.env.cells.lookup x = some c → c ≠ X.env.locals := fun x c e z => by
 obtain ⟨v, o, ho, hd⟩ := I.cell x c e
 obtain ⟨m, ⟨o', es, ep, ho', hd', _⟩, _⟩ := I.loc
 rw [z, ho'] at ho; cases ho; rw [hd'] at hd; cases hd
theorem Inv.funs (I : Inv X pins σ H s) : s.heap.FunFrames X.base X.outer := by
 have all : ∀ (l : List Env), (∀ b ∈ frs l, b ∈ X.fs) → X.s₀.heap.FunFrames X.base l → s.heap.FunFrames X.base l := by
  intro l
  induction l with
  | nil => intro _ _; trivial
  | cons env r ih =>
   intro hs hl
   obtain ⟨hk, ⟨L, o, hf, hn, ho, hd⟩, hr⟩ := hl
   have hL : L ∈ X.fs := hs L (by unfold frs; rw [List.filterMap_cons, hf]; exact List.mem_cons_self)
   obtain ⟨sl, e⟩ := I.base.slot L o ho (I.ok.frf L hL) hL fun z => I.ok.exfs L z hL
   exact ⟨hk, ⟨L, _, hf, hn, e, hd⟩, ih (fun b hb => hs b (by unfold frs; rw [List.filterMap_cons, hf]; exact List.mem_cons_of_mem _ hb)) hr⟩
 exact all X.outer (fun _ hb => hb) I.ok.funs
theorem Inv.stack (I : Inv X pins σ H s) : s.heap.FunFrames X.base X.stack := by
 rcases I.ok.stk with e | ⟨e, hf⟩
 ·rw [e]; exact I.funs
 ·rw [e]
  obtain ⟨m, hn, _⟩ := I.loc
  refine .cons (by rw [I.ok.kind]; decide) hf hn ?_ I.funs
  exact Heap.get?_none_of_le (Nat.le_trans I.ok.bsz I.ok.above)
theorem Inv.stkSub (I : Inv X pins σ H s) : ∀ b ∈ frs X.stack, b ∈ X.env.locals :: X.fs := fun b hb => by
 rcases I.ok.stk with e | ⟨e, hf⟩
 ·rw [e] at hb; exact List.mem_cons_of_mem _ hb
 ·rw [e] at hb
  unfold frs at hb
  rw [List.filterMap_cons, hf] at hb
  exact hb
theorem Inv.stkFree (I : Inv X pins σ H s) : ∀ b ∈ frs X.stack, H b = none := fun b hb => by
 rcases List.mem_cons.mp (I.stkSub b hb) with e | hb
 ·rw [e]; exact I.free
 ·obtain ⟨_, o, ho, _⟩ := I.ok.funs.mem hb
  exact I.base.free b o ho (I.ok.frf b hb) fun z => I.ok.exfs b z hb
theorem Inv.step {g' : Array GenState} {t' : Nat} {d' : Drawn} {ch : List Addr} (I : Inv X pins σ H s)
  (hch : ∀ b ∈ ch, (b ∈ X.ex ∨ X.s₀.heap.objs.size ≤ b) ∧ b ≠ X.env.locals ∧ (∀ x c, X.env.cells.lookup x = some c → c ≠ b) ∧ ∀ p ∈ X.pn ++ pins, p.1 ≠ b)
  (keep : ∀ b o, b ≠ X.env.locals → b ∉ X.fs → b ∉ ch → s.heap.get? b = some o → H b = none → h'.get? b = some o)
  (slot : ∀ b o, b ≠ X.env.locals → b ∈ X.fs → b ∉ ch → s.heap.get? b = some o → H b = none → ∃ sl, h'.get? b = some { o with slots := sl }) (free : ∀ b o, b ∉ ch → s.heap.get? b = some o → H b = none → H' b = none)
  (there : ∀ b o, b ∉ ch → s.heap.get? b = some o → ∃ o', h'.get? b = some o')
  (tups : ∀ b xs, H b = some (.tup xs) → H' b = some (.tup xs)) (frzs : ∀ b o u, H b = some (.frz o u) → H' b = some (.frz o u)) (tbls : ∀ b ps, H b = some (.tbl ps) → ∃ more, H' b = some (.tbl (ps ++ more)))
  (ns : ∀ m, s.heap.Ns X.env.locals m → h'.Ns X.env.locals m) (hok : HOk X.prog X.w H' h') (hg : AllBare g') :
  Inv X pins σ H' { s with heap := h', gens := g', drawn := d', toks := t' } := by
 have neL : ∀ b o, X.s₀.heap.get? b = some o → b ≠ X.env.locals := fun b o e => Nat.ne_of_lt (Nat.lt_of_lt_of_le (Heap.lt_size e) I.ok.above)
 have neC : ∀ b o, X.s₀.heap.get? b = some o → b ∉ X.ex → b ∉ ch := fun b o e hx hb => by
  rcases (hch b hb).1 with z | z
  ·exact hx z
  ·exact absurd (Nat.lt_of_lt_of_le (Heap.lt_size e) z) (Nat.lt_irrefl _)
 have cellK : ∀ x c, X.env.cells.lookup x = some c → ∀ v, s.heap.IsCell c v → h'.IsCell c v := fun x c e v ⟨o, ho, hd⟩ => by
  have nch : c ∉ ch := fun z => (hch c z).2.2.1 x c e rfl
  by_cases hc : c ∈ X.fs
  ·obtain ⟨sl, q⟩ := slot c o (I.cne x c e) hc nch ho (I.freeC x c e)
   exact ⟨_, q, hd⟩
  ·exact ⟨o, keep c o (I.cne x c e) hc nch ho (I.freeC x c e), hd⟩
 refine ⟨I.ok, I.os, hg, ⟨fun b o e n hb hx => ?_, fun b o e n hb hx => ?_, fun b o e n hx => ?_, fun b o e hx => ?_, fun b xs e => tups b xs (I.base.tups b xs e), fun b o xs e => frzs b o xs (I.base.frzs b o xs e), fun b ps e => ?_⟩, ?_, fun x c e => ?_, ?_, fun x c e => ?_, fun p hp => ?_, hok, I.len⟩
 ·exact keep b o (neL b o e) hb (neC b o e hx) (I.base.keep b o e n hb hx) (I.base.free b o e n hx)
 ·obtain ⟨sl, e1⟩ := I.base.slot b o e n hb hx
  obtain ⟨sl', e2⟩ := slot b _ (neL b o e) hb (neC b o e hx) e1 (I.base.free b o e n hx)
  exact ⟨sl', e2⟩
 ·obtain ⟨o', e1⟩ := I.base.there b o e hx
  exact free b o' (neC b o e hx) e1 (I.base.free b o e n hx)
 ·obtain ⟨o', e1⟩ := I.base.there b o e hx
  exact there b o' (neC b o e hx) e1
 ·obtain ⟨m1, e1⟩ := I.base.tbls b ps e
  obtain ⟨m2, e2⟩ := tbls b _ e1
  exact ⟨m1 ++ m2, by rw [e2, Array.append_assoc]⟩
 ·obtain ⟨m, hn, hl⟩ := I.loc
  refine ⟨m, ns m hn, fun i x v e1 e2 e3 => ?_⟩
  obtain ⟨u, r, l⟩ := hl i x v e1 e2 e3
  refine ⟨u, r, ?_⟩
  rcases l with l | ⟨k, c, e, z⟩
  ·exact .inl l
  ·exact .inr ⟨k, c, e, cellK x c e _ z⟩
 ·obtain ⟨v, z⟩ := I.cell x c e
  exact ⟨v, cellK x c e v z⟩
 ·obtain ⟨m, ⟨o, _, _, ho, _⟩, _⟩ := I.loc
  exact free _ o (fun z => (hch _ z).2.1 rfl) ho I.free
 ·obtain ⟨v, o, ho, hd⟩ := I.cell x c e
  exact free c o (fun z => (hch c z).2.2.1 x c e rfl) ho (I.freeC x c e)
 ·obtain ⟨e, n, ne, nf, d⟩ := I.pin p hp
  have nch : p.1 ∉ ch := fun z => (hch p.1 z).2.2.2 p hp rfl
  exact ⟨keep p.1 p.2 ne nf nch e n, free p.1 p.2 nch e n, ne, nf, d⟩
theorem Inv.un {t' : Nat} (I : Inv X pins σ H s) (u : Un X.fs [] H H' s.heap h') (hok : HOk X.prog X.w H' h') : Inv X pins σ H' { s with heap := h', toks := t' } := by
 obtain ⟨m, ⟨o, es, ep, ho, r⟩, _⟩ := id I.loc
 obtain ⟨sl, hL⟩ := u.any ho I.free (by simp)
 exact I.step (g' := s.gens) (d' := s.drawn) (ch := []) (fun _ z => nomatch z) (fun b o _ hb _ e n => u.keep b o e n hb (by simp)) (fun b o _ hb _ e n => u.slot b o e n hb (by simp)) (fun b o _ e n => u.free b o e n (by simp)) (fun b o _ e => u.there b o e (by simp)) u.tups u.frzs u.tbls (fun m' hm => by
  obtain ⟨o', es', ep', ho', r'⟩ := hm
  rw [ho] at ho'; cases ho'
  exact ⟨_, es', ep', hL, r'⟩) hok I.bare
theorem Inv.call {g' : Array GenState} {t' : Nat} {d' : Drawn} {ch : List Addr} (I : Inv X pins σ H s) (u : Un (frs X.stack) ch H H' s.heap h') (hok : HOk X.prog X.w H' h') (hg : AllBare g')
  (hch : ∀ b ∈ ch, (b ∈ X.ex ∨ X.s₀.heap.objs.size ≤ b) ∧ b ≠ X.env.locals ∧ (∀ x c, X.env.cells.lookup x = some c → c ≠ b) ∧ ∀ p ∈ X.pn ++ pins, p.1 ≠ b) :
  Inv X pins σ H' { s with heap := h', gens := g', drawn := d', toks := t' } := by
 obtain ⟨m, ⟨o, es, ep, ho, r⟩, _⟩ := id I.loc
 obtain ⟨sl, hL⟩ := u.any ho I.free fun z => (hch _ z).2.1 rfl
 exact I.step (ch := ch) hch (fun b o hL hb hc e n => u.keep b o e n (fun z => (List.mem_cons.mp (I.stkSub b z)).elim hL hb) hc) (fun b o _ _ hc e n => u.any e n hc) (fun b o hc e n => u.free b o e n hc) (fun b o hc e => u.there b o e hc) u.tups u.frzs u.tbls (fun m' hm => by
  obtain ⟨o', es', ep', ho', r'⟩ := hm
  rw [ho] at ho'; cases ho'
  exact ⟨_, es', ep', hL, r'⟩) hok hg
theorem Inv.turned {t' : Nat} {it : Addr} (I : Inv X pins σ H s) (k : ∀ b o, b ≠ it → s.heap.get? b = some o → h'.get? b = some o) (hn : H it = none) (hL : it ≠ X.env.locals)
  (h1 : it ∈ X.ex ∨ X.s₀.heap.objs.size ≤ it) (h2 : ∀ x c, X.env.cells.lookup x = some c → c ≠ it) (h3 : ∀ p ∈ X.pn ++ pins, p.1 ≠ it) : Inv X pins σ H { s with heap := h', toks := t' } := by
 have nit : ∀ b u, H b = some u → b ≠ it := fun b u e z => by rw [z, hn] at e; cases e
 refine I.step (g' := s.gens) (d' := s.drawn) (ch := [it]) (fun b hb => ?_) (fun b o _ _ hc e _ => k b o (fun z => hc (by simp [z])) e) (fun b o _ _ hc e _ => ⟨o.slots, k b o (fun z => hc (by simp [z])) e⟩) (fun _ _ _ _ n => n)
  (fun b o hc e => ⟨o, k b o (fun z => hc (by simp [z])) e⟩) (fun _ _ e => e) (fun _ _ _ e => e) (fun b ps e => ⟨#[], by rw [e]; simp⟩) (fun m hm => ?_) (fun b u e => ?_) I.bare
 ·have e : b = it := by simpa using hb
  subst e
  exact ⟨h1, hL, h2, h3⟩
 ·obtain ⟨o, es, ep, ho, r⟩ := hm
  exact ⟨o, es, ep, k _ o (Ne.symm hL) ho, r⟩
 ·refine (I.hok b u e).stay (fun c v hc q => k c v ?_ q) (fun _ q => q) fun _ _ q => q
  rcases hc with z | z
  ·rw [z]; exact nit b u e
  ·exact nit c _ z
theorem Inv.tok (I : Inv X pins σ H s) (t : Nat) : Inv X pins σ H { s with toks := t } := I.un (h' := s.heap) (t' := t) Un.refl I.hok
theorem Inv.kept {t' : Nat} (I : Inv X pins σ H s) (k : ∀ b u, s.heap.get? b = some u → h'.get? b = some u) : Inv X pins σ H { s with heap := h', toks := t' } := I.un (Un.kept k) (I.hok.kept k)
theorem Inv.laid {a : Addr} {o : HO} {t' : Nat} (I : Inv X pins σ H s) (k : ∀ b u, s.heap.get? b = some u → h'.get? b = some u) (hp : s.heap.objs.size ≤ a) (new : Zz X.prog X.w (upd H a o) h' a o) :
 Inv X pins σ (upd H a o) { s with heap := h', toks := t' } := I.un (Un.laid k hp (I.hok.fresh hp)) (I.hok.laid k hp new)
theorem Inv.write {x e : Addr} {o : HO} {t' : Nat} (I : Inv X pins σ H s) (mu : Mut (H x)) (he : e = x ∨ H e = some (.own x)) (k : ∀ b u, b ≠ e → s.heap.get? b = some u → h'.get? b = some u) (heo : ∃ u, h'.get? e = some u)
 (new : Zz X.prog X.w (upd H x o) h' x o) : Inv X pins σ (upd H x o) { s with heap := h', toks := t' } := I.un (Un.write mu he k heo) (I.hok.write mu he k heo new)
theorem Inv.pins_of {pins' : List (Addr × Obj)} (I : Inv X pins σ H s) (h : ∀ p ∈ pins', s.heap.get? p.1 = some p.2 ∧ H p.1 = none ∧ p.1 ≠ X.env.locals ∧ p.1 ∉ X.fs ∧ ∀ v, p.2.data ≠ .cell v) : Inv X pins' σ H s :=
 ⟨I.ok, I.os, I.bare, I.base, I.loc, I.cell, I.free, I.freeC, fun p hp => (List.mem_append.mp hp).elim (fun z => I.pin p (List.mem_append_left _ z)) (h p), I.hok, I.len⟩
theorem ZFy {N : List Str} (hN : N.Nodup) {i j : Nat} {x : Str} (a : N[i]? = some x) (b : N[j]? = some x) : i = j := by
 obtain ⟨h1, e1⟩ := List.getElem?_eq_some_iff.mp a
 obtain ⟨h2, e2⟩ := List.getElem?_eq_some_iff.mp b
 exact (List.getElem_inj hN).mp (e1.trans e2.symm)
theorem ZJT {M : Model} {A : Around} {E : Value → Shared → Prop} {i : Nat} {x : Str} {v : V} {u : Value} {Q : Unit → Shared → Prop} (I : Inv X pins σ H s) (hN : X.N.Nodup) (hi : X.N[i]? = some x) (hx : Loc X.env.scope x) (r : ZX v u)
  (h : ∀ s', Inv X pins (σ.set i (some v)) H s' → (∃ a, Heap.SameBut a s.heap s'.heap ∧ (a = X.env.locals ∨ X.env.cells.lookup x = some a)) → Q () s') (hf : X.fn x = true ∨ X.env.scope.names.lookup x = some .local := by first | exact .inl rfl | exact .inr rfl | assumption) : wpAny M A (storeName X.env x u) Q E s := by
 obtain ⟨m, hn, hl⟩ := id I.loc
 have hcls : (X.env.scope.kind == .class || (X.env.scope.kind == .module && X.env.locals != X.env.globals)) = false := by rw [I.ok.kind]; rfl
 have hiσ : i < σ.length := by rw [I.len]; exact (List.getElem?_eq_some_iff.mp hi).1
 have cne := I.cne
 have tracked : ∀ {a : Addr} {h' : Heap}, (∃ o, s.heap.get? a = some o ∧ H a = none) → Heap.SameBut a s.heap h' → HOk X.prog X.w H h' := fun {a h'} ha hs b ob e => by
  obtain ⟨_, _, hfree⟩ := ha
  refine (I.hok b ob e).stay (fun c w' hc q => (hs.2 c ?_).trans q) (fun _ q => q) fun _ _ q => q
  rintro rfl
  rcases hc with rfl | hc
  ·rw [hfree] at e; cases e
  ·rw [hfree] at hc; cases hc
 rcases hx with hk | hk
 ·refine wpAny_storeName_local hk hn (fun h' hn' hs => ?_) hcls
  obtain ⟨oL, _, _, hoL, _⟩ := id hn
  refine h _ ⟨I.ok, I.os, I.bare, ⟨fun b o e n hb hx => ?_, fun b o e n hb hx => ?_, I.base.free, fun b o e hx => ?_, I.base.tups, I.base.frzs, I.base.tbls⟩, ⟨_, hn', fun j y v' e1 e2 e3 => ?_⟩, fun y c e => ?_, I.free, I.freeC, fun p hp => ?_, tracked ⟨oL, hoL, I.free⟩ hs, by simpa using I.len⟩ ⟨_, hs, .inl rfl⟩
  ·exact (hs.2 b (Nat.ne_of_lt (Nat.lt_of_lt_of_le (Heap.lt_size e) I.ok.above))).trans (I.base.keep b o e n hb hx)
  ·obtain ⟨sl, e1⟩ := I.base.slot b o e n hb hx
   exact ⟨sl, (hs.2 b (Nat.ne_of_lt (Nat.lt_of_lt_of_le (Heap.lt_size e) I.ok.above))).trans e1⟩
  ·obtain ⟨o', e1⟩ := I.base.there b o e hx
   exact ⟨o', (hs.2 b (Nat.ne_of_lt (Nat.lt_of_lt_of_le (Heap.lt_size e) I.ok.above))).trans e1⟩
  ·by_cases hj : j = i
   ·subst hj
    rw [hi] at e1; cases e1
    rw [List.getElem?_set_self hiσ] at e2
    cases e2
    exact ⟨u, r, .inl ⟨hk, by simp⟩⟩
   ·rw [List.getElem?_set_ne (Ne.symm hj)] at e2
    obtain ⟨u', r', q⟩ := hl j y v' e1 e2 e3
    refine ⟨u', r', ?_⟩
    rcases q with ⟨k, e⟩ | ⟨k, c, e, z⟩
    ·refine .inl ⟨k, ?_⟩
     have : y ≠ x := fun e => hj (ZFy hN e1 (e ▸ hi))
     simp [this, e]
    ·exact .inr ⟨k, c, e, z.sameBut hs (cne y c e)⟩
  ·obtain ⟨w', z⟩ := I.cell y c e
   exact ⟨w', z.sameBut hs (cne y c e)⟩
  ·obtain ⟨e, n, ne, nf, d⟩ := I.pin p hp
   exact ⟨(hs.2 p.1 ne).trans e, n, ne, nf, d⟩
 ·have hfn : X.fn x = true := by
   rcases hf with z | z
   ·exact z
   ·rw [z] at hk; cases hk
  obtain ⟨c, hc⟩ := I.ok.has x (.inl hk)
  obtain ⟨w', z⟩ := I.cell x c hc
  refine wpAny_storeName_cell I.ok.kind hk hc z (fun h' hc' hs => ?_)
  obtain ⟨oc, hoc, hocd⟩ := id z
  refine h { s with heap := h' } ⟨I.ok, I.os, I.bare, ⟨fun b o e n hb hx => ?_, fun b o e n hb hx => ?_, I.base.free, fun b o e hx => ?_, I.base.tups, I.base.frzs, I.base.tbls⟩, ⟨m, hn.sameBut hs (Ne.symm (cne x c hc)), fun j y v' e1 e2 e3 => ?_⟩, fun y c' e => ?_, I.free, I.freeC, fun p hp => ?_, tracked ⟨oc, hoc, I.freeC x c hc⟩ hs, by simpa using I.len⟩ ⟨c, hs, .inr hc⟩
  ·exact (hs.2 b (Nat.ne_of_lt (Nat.lt_of_lt_of_le (Heap.lt_size e) (I.ok.cab x c hfn hc)))).trans (I.base.keep b o e n hb hx)
  ·obtain ⟨sl, e1⟩ := I.base.slot b o e n hb hx
   exact ⟨sl, (hs.2 b (Nat.ne_of_lt (Nat.lt_of_lt_of_le (Heap.lt_size e) (I.ok.cab x c hfn hc)))).trans e1⟩
  ·obtain ⟨o', e1⟩ := I.base.there b o e hx
   exact ⟨o', (hs.2 b (Nat.ne_of_lt (Nat.lt_of_lt_of_le (Heap.lt_size e) (I.ok.cab x c hfn hc)))).trans e1⟩
  ·by_cases hj : j = i
   ·subst hj
    rw [hi] at e1; cases e1
    rw [List.getElem?_set_self hiσ] at e2
    cases e2
    exact ⟨u, r, .inr ⟨.inl hk, c, hc, hc'⟩⟩
   ·rw [List.getElem?_set_ne (Ne.symm hj)] at e2
    obtain ⟨u', r', q⟩ := hl j y v' e1 e2 e3
    refine ⟨u', r', ?_⟩
    rcases q with q | ⟨k, c', e, z'⟩
    ·exact .inl q
    ·refine .inr ⟨k, c', e, z'.sameBut hs ?_⟩
     rintro rfl
     exact hj (ZFy hN e1 (I.ok.inj _ _ _ e hc ▸ hi))
  ·by_cases hcc : c' = c
   ·subst hcc; exact ⟨_, hc'⟩
   ·obtain ⟨w2, z2⟩ := I.cell y c' e
    exact ⟨w2, z2.sameBut hs hcc⟩
  ·obtain ⟨e, n, ne, nf, d⟩ := I.pin p hp
   refine ⟨(hs.2 p.1 ?_).trans e, n, ne, nf, d⟩
   intro q
   rw [q, hoc] at e
   have q' : oc = p.2 := Option.some.inj e
   exact d w' (by rw [← q']; exact hocd)
theorem ZDb {M : Model} {A : Around} {E : Value → Shared → Prop} {i : Nat} {x : Str} {v : V} {u : Value} {Q : Unit → Shared → Prop} (I : Inv X pins σ H s) (hN : X.N.Nodup) (hi : X.N[i]? = some x) (hx : Loc X.env.scope x) (r : ZX v u)
  (h : ∀ s', Inv X pins (σ.set i (some v)) H s' → Q () s') (hf : X.fn x = true ∨ X.env.scope.names.lookup x = some .local := by first | exact .inl rfl | exact .inr rfl | assumption) : wpAny M A (storeName X.env x u) Q E s :=
 ZJT I hN hi hx r (fun s' I' _ => h s' I') hf
theorem Inv.call' {s' : Shared} {ch : List Addr} (I : Inv X pins σ H s) (ho : s'.os = s.os) (u : Un (frs X.stack) ch H H' s.heap s'.heap) (hok : HOk X.prog X.w H' s'.heap) (hg : AllBare s'.gens)
  (hch : ∀ b ∈ ch, (b ∈ X.ex ∨ X.s₀.heap.objs.size ≤ b) ∧ b ≠ X.env.locals ∧ (∀ x c, X.env.cells.lookup x = some c → c ≠ b) ∧ ∀ p ∈ X.pn ++ pins, p.1 ≠ b) : Inv X pins σ H' s' := by
 obtain ⟨h', g', d', t', o'⟩ := s'
 have e : o' = s.os := ho
 subst e
 exact I.call (g' := g') (t' := t') (d' := d') u hok hg hch
end
abbrev XK := Value → Option Addr → Hp → Prop
abbrev St := List (Option V)
abbrev VK := V → Hp → Prop
abbrev TE := St → Hp → VK → Prop
abbrev TT := St → Hp → (Bool → Hp → Prop) → Prop
abbrev TA := St → Hp → (List V → Hp → Prop) → Prop
structure Z8 where
 nx : St → Hp → Prop
 rt : VK
 bk : St → Hp → Prop := fun _ _ => False
 ct : St → Hp → Prop := fun _ _ => False
abbrev TS := Z8 → St → Hp → Prop
def EP (X : Cx) (pins : List (Addr × Obj)) (σ : St) (Q : VK) (u : Value) (s' : Shared) : Prop := ∃ v H', Inv X pins σ H' s' ∧ ZX v u ∧ Q v H'
def TP (X : Cx) (pins : List (Addr × Obj)) (σ : St) (Q : Bool → Hp → Prop) (b : Bool) (s' : Shared) : Prop := ∃ H', Inv X pins σ H' s' ∧ Q b H'
def AP (X : Cx) (pins : List (Addr × Obj)) (σ : St) (Q : List V → Hp → Prop) (us : List Value) (s' : Shared) : Prop := ∃ vs H', Inv X pins σ H' s' ∧ ZV vs us ∧ Q vs H'
def SP (X : Cx) (pins : List (Addr × Obj)) (D : Z8) (f : Flow) (s' : Shared) : Prop :=
 match f with
 | .next => ∃ σ' H', Inv X pins σ' H' s' ∧ D.nx σ' H'
 | .brk => ∃ σ' H', Inv X pins σ' H' s' ∧ D.bk σ' H'
 | .cont => ∃ σ' H', Inv X pins σ' H' s' ∧ D.ct σ' H'
 | .ret u => ∃ v σ' H', Inv X pins σ' H' s' ∧ ZX v u ∧ D.rt v H'
def PE (X : Cx) (e : Expr) (t : TE) : Prop :=
 ∀ (pins : List (Addr × Obj)) (s : Shared) (σ : St) (H : Hp) (Q : VK), Inv X pins σ H s → t σ H Q → wpAny (model X.prog X.w) X.A (eval e X.env) (EP X pins σ Q) X.xe s
def PT (X : Cx) (e : Expr) (t : TT) : Prop :=
 ∀ (pins : List (Addr × Obj)) (s : Shared) (σ : St) (H : Hp) (Q : Bool → Hp → Prop), Inv X pins σ H s → t σ H Q → wpAny (model X.prog X.w) X.A (isTrue e X.env (eval e X.env)) (TP X pins σ Q) X.xe s
def PW (X : Cx) (e : Expr) (t : TT) : Prop :=
 ∀ (whole : Sem Value) (pins : List (Addr × Obj)) (s : Shared) (σ : St) (H : Hp) (Q : Bool → Hp → Prop), Inv X pins σ H s → t σ H Q → wpAny (model X.prog X.w) X.A (isTrue e X.env whole) (TP X pins σ Q) X.xe s
theorem PW.pt {X : Cx} {e : Expr} {t : TT} (h : PW X e t) : PT X e t := h _
def PA (X : Cx) (es : List Expr) (t : TA) : Prop :=
 ∀ (pos : Pos) (pins : List (Addr × Obj)) (s : Shared) (σ : St) (H : Hp) (Q : List V → Hp → Prop), Inv X pins σ H s → t σ H Q → wpAny (model X.prog X.w) X.A (spliced (backTo pos (starEach es X.env))) (AP X pins σ Q) X.xe s
def PS (X : Cx) (st : Stmt) (t : TS) : Prop :=
 ∀ (pins : List (Addr × Obj)) (s : Shared) (σ : St) (H : Hp) (D : Z8), Inv X pins σ H s → t D σ H → wpAny (model X.prog X.w) X.A (exec st X.env) (SP X pins D) X.xe s
def PSs (X : Cx) (st : List Stmt) (t : TS) : Prop :=
 ∀ (pins : List (Addr × Obj)) (s : Shared) (σ : St) (H : Hp) (D : Z8), Inv X pins σ H s → t D σ H → wpAny (model X.prog X.w) X.A (execs st X.env) (SP X pins D) X.xe s
theorem thn {α : Type} {t : Sem α} {Q Q' : α → Shared → Prop} {M : Model} {A : Around} {E : Value → Shared → Prop} {s : Shared} (h : wpAny M A t Q E s) (hQ : ∀ a s, Q a s → Q' a s) : wpAny M A t Q' E s := wpAny_mono h hQ fun _ _ x => x
end L2
namespace L2
open PySem PySem.Spec PyProof.Rows
section
variable {X : Cx}
def ZK8 (i : Nat) : TE := fun σ H Q => ∃ v, σ[i]? = some (some v) ∧ Q v H
def tC (v : V) : TE := fun _ H Q => Q v H
theorem ZPy {i : Nat} {x : Str} {pos : Pos} (hN : X.N[i]? = some x) (hv : Vis X.env.scope x) (hd : (x == ("__debug__" : Str)) = false := by decide) (hcd : (x == ("__classdict__" : Str)) = false := by decide) : PE X (.Name x pos) (ZK8 i) := by
 intro pins s σ H Q I h
 obtain ⟨v, e, h⟩ := h
 obtain ⟨m, hn, hl⟩ := I.loc
 obtain ⟨u, r, l⟩ := hl i x v hN e hv
 have fin : EP X pins σ Q u s := ⟨v, H, I, r, h⟩
 rcases l with ⟨hk, hm⟩ | ⟨hk, c, hc, hcell⟩
 ·exact wpAny_Name (wpAny_loadName_local I.ok.kind hk hn hm fin) hd
 ·rcases hk with hk | hk
  ·exact wpAny_Name (wpAny_loadName_cell I.ok.kind hk hc hcell fin) hd
  ·exact wpAny_Name (wpAny_loadName_free I.ok.kind hk hc hcell fin hcd) hd
theorem ZPz {i j pos} : PE X (.Constant (.int i) j pos) (tC (.int i)) := fun _ _ _ H _ I h => wpAny_Constant_int ⟨.int i, H, I.tok _, ⟨_, rfl⟩, h⟩
theorem ZRm {b j pos} : PE X (.Constant (.bool b) j pos) (tC (.bl b)) := fun _ _ _ H _ I h => Constant_bool ⟨.bl b, H, I, rfl, h⟩
theorem ZP0 {j pos} : PE X (.Constant .none j pos) (tC .non) := fun _ _ _ H _ I h => Constant_none ⟨.non, H, I, rfl, h⟩
theorem ZP1 {x j pos} : PE X (.Constant (.str x) j pos) (tC (.str x)) := fun _ _ _ H _ I h => Calls.Constant_str ⟨.str x, H, I.tok _, ⟨_, rfl⟩, h⟩
def Gl (X : Cx) (x : Str) : Prop := X.env.kindOf x = some .globalImplicit
theorem Jw {E : Value → Shared → Prop} {pins : List (Addr × Obj)} {s : Shared} {σ : St} {H : Hp} {x : Str} {u : Value} {pos : Pos} {Q : Value → Shared → Prop} (I : Inv X pins σ H s) (hg : Gl X x) (hm : X.mg x = some u) (h : Q u s)
  (hd : (x == ("__debug__" : Str)) = false := by decide) : wpAny (model X.prog X.w) X.A (eval (.Name x pos) X.env) Q E s :=
 Calls.Name_function_global I.ok.kind hg (Calls.loadGlobal_global (by rw [I.ok.glob]; exact I.mod.glob.keeps I.bk) hm h) hd
theorem ZAa {E : Value → Shared → Prop} {pins : List (Addr × Obj)} {s : Shared} {σ : St} {H : Hp} {x : Str} {u : Value} {pos : Pos} {Q : Value → Shared → Prop} (I : Inv X pins σ H s) (hg : Gl X x) (hm : X.mg x = none) (hv : bootBuiltins x = some u) (h : Q u s)
  (hn : x ≠ "__name__" := by decide) (hd : (x == ("__debug__" : Str)) = false := by decide) : wpAny (model X.prog X.w) X.A (eval (.Name x pos) X.env) Q E s := by
 obtain ⟨mb, h1, h2⟩ := I.mod.blt
 exact Calls.Name_function_global I.ok.kind hg (Calls.loadGlobal_builtin (by rw [I.ok.glob]; exact I.mod.glob.keeps I.bk) hm (by rw [I.ok.blt]; exact h1.keeps I.bk) ((h2 x hn).trans hv) h) hd
theorem ZNo {x : Str} {v : V} {u : Value} {pos : Pos} (hg : Gl X x) (hm : X.mg x = some u) (r : ZX v u) (hd : (x == ("__debug__" : Str)) = false := by decide) : PE X (.Name x pos) (tC v) :=
 fun _ _ _ H _ I h => Jw I hg hm ⟨v, H, I, r, h⟩ hd
theorem ZNp {x : Str} {v : V} {u : Value} {pos : Pos} (hg : Gl X x) (hm : X.mg x = none) (hv : bootBuiltins x = some u) (r : ZX v u) (hn : x ≠ "__name__" := by decide) (hd : (x == ("__debug__" : Str)) = false := by decide) : PE X (.Name x pos) (tC v) :=
 fun _ _ _ H _ I h => ZAa I hg hm hv ⟨v, H, I, r, h⟩ hn hd
variable {a b : Expr} {ta tb : TE} {pos : Pos}
def tB (t : TE) : TT := fun σ H Q => t σ H fun x H1 => ∃ c, x = .bl c ∧ Q c H1
theorem ZP2 {e : Expr} {t : TE} (h : PE X e t) (he : ∀ whole, isTrue e X.env whole = (do let v ← whole; standAt e.pos; holding [v] (truthy v)) := by intro _; rfl) : PT X e (tB t) := by
 intro pins s σ H Q I hw
 refine isTrue_plain (thn (h pins s σ H _ I hw) fun v s1 ⟨x, H1, I1, r1, q1⟩ => ?_) (he _)
 obtain ⟨d, rfl, q⟩ := q1
 cases r1
 exact wpAny_truthy_bool ⟨H1, I1, q⟩
variable {tA tB' : TT} {Yt : List Expr}
def ZK9 (t u : TT) : TT := fun σ H Q => t σ H fun c H1 => if c = true then u σ H1 Q else Q false H1
def tOr (t u : TT) : TT := fun σ H Q => t σ H fun c H1 => if c = true then Q true H1 else u σ H1 Q
def ZLA (t : TT) : TT := fun σ H Q => t σ H fun c H1 => Q (!c) H1
theorem ZNq (ha : PT X a tA) : PW X (.BoolOp .And [a] pos) tA := by
 intro wh pins s σ H Q I h
 refine isTrue_and (thn (ha pins s σ H Q I h) fun c s1 e => ?_)
 cases c with
 | true => exact isTrue_and_nil e
 | false => exact e
theorem ZP3 (ha : PT X a tA) : PW X (.BoolOp .Or [a] pos) tA := by
 intro wh pins s σ H Q I h
 refine isTrue_or (thn (ha pins s σ H Q I h) fun c s1 e => ?_)
 cases c with
 | false => exact isTrue_or_nil e
 | true => exact e
theorem ZP4 (ha : PT X a tA) (hb : PW X (.BoolOp .And (b :: Yt) pos) tB') : PW X (.BoolOp .And (a :: b :: Yt) pos) (ZK9 tA tB') := by
 intro wh pins s σ H Q I h
 refine isTrue_and (thn (ha pins s σ H _ I h) fun c s1 ⟨H1, I1, q1⟩ => ?_)
 cases c with
 | true => exact hb wh pins s1 σ H1 Q I1 q1
 | false => exact ⟨H1, I1, q1⟩
theorem ZRn (ha : PT X a tA) (hb : PW X (.BoolOp .Or (b :: Yt) pos) tB') : PW X (.BoolOp .Or (a :: b :: Yt) pos) (tOr tA tB') := by
 intro wh pins s σ H Q I h
 refine isTrue_or (thn (ha pins s σ H _ I h) fun c s1 ⟨H1, I1, q1⟩ => ?_)
 cases c with
 | true => exact ⟨H1, I1, q1⟩
 | false => exact hb wh pins s1 σ H1 Q I1 q1
theorem ZP5 (ha : PT X a tA) : PT X (.UnaryOp .Not a pos) (ZLA tA) := by
 intro pins s σ H Q I h
 exact isTrue_not (ha pins s σ H (fun c H1 => Q (!c) H1) I h)
def ZIG (ta tb : TE) : TE := fun σ H Q => ta σ H fun x H1 => ∃ c, x = .bl c ∧ if c = true then tb σ H1 Q else Q (.bl false) H1
def ZSX (ta tb : TE) : TE := fun σ H Q => ta σ H fun x H1 => ∃ c, x = .bl c ∧ if c = true then Q (.bl true) H1 else tb σ H1 Q
def ZIH (ta : TE) : TE := fun σ H Q => ta σ H fun x H1 => ∃ c, x = .bl c ∧ Q (.bl (!c)) H1
theorem ZP6 {op} {t : TE} (h : PE X a t) : PE X (.BoolOp op [a] pos) t := fun pins s σ H Q I hw => BoolOp_one (h pins s σ H Q I hw)
theorem ZP7 (ha : PE X a ta) (hb : PE X (.BoolOp .And (b :: Yt) pos) tb) : PE X (.BoolOp .And (a :: b :: Yt) pos) (ZIG ta tb) := by
 intro pins s σ H Q I h
 refine BoolOp_and (thn (ha pins s σ H _ I h) fun v s1 ⟨x, H1, I1, r1, q1⟩ => ?_)
 obtain ⟨c, rfl, q1⟩ := q1
 cases r1
 refine wpAny_truthy_bool ?_
 cases c with
 | true => exact hb pins s1 σ H1 Q I1 q1
 | false => exact ⟨.bl false, H1, I1, rfl, q1⟩
theorem ZP8 (ha : PE X a ta) : PE X (.UnaryOp .Not a pos) (ZIH ta) := by
 intro pins s σ H Q I h
 refine UnaryOp_ (thn (ha pins s σ H _ I h) fun v s1 ⟨x, H1, I1, r1, q1⟩ => ?_)
 obtain ⟨c, rfl, q1⟩ := q1
 cases r1
 exact not_of (wpAny_truthy_bool ⟨.bl (!c), H1, I1, rfl, q1⟩)
def tIf (t : TT) (ta tb : TE) : TE := fun σ H Q => t σ H fun c H1 => if c = true then ta σ H1 Q else tb σ H1 Q
theorem ZLB {c : Expr} (hc : PT X c tA) (ha : PE X a ta) (hb : PE X b tb) : PE X (.IfExp c a b pos) (tIf tA ta tb) := by
 intro pins s σ H Q I h
 refine wpAny_IfExp (thn (hc pins s σ H _ I h) fun d s1 ⟨H1, I1, q1⟩ => ?_)
 cases d with
 | true => exact ha pins s1 σ H1 Q I1 q1
 | false => exact hb pins s1 σ H1 Q I1 q1
end
end L2
namespace L2
open PySem PySem.Spec PyProof.Rows
def SqL (K : PySem.W.Frag) (H : Hp) (a : Addr) (xs : List V) : Prop :=
 Rd H a (.lst xs) ∨
  ∃ (o : Obj) (its : Array Value) (n : Nat), K.lookup a = some o ∧ o.cls = .type "list" ∧ o.dict = none ∧ o.data = .seq its n ∧ its.size ≤ sizeLine ∧ ZV xs its.toList
def SqT (K : PySem.W.Frag) (H : Hp) (a : Addr) (xs : List V) : Prop :=
 Rd H a (.tup xs) ∨
  ∃ (o : Obj) (its : Array Value) (n : Nat), K.lookup a = some o ∧ o.cls = .type "tuple" ∧ o.data = .seq its n ∧ its.size ≤ sizeLine ∧ ZV xs its.toList
def ZSY : Value → Option V
 | .none => some .non
 | .bool b => some (.bl b)
 | .int i _ => some (.int i)
 | .str x _ => some (.str x)
 | .bytes b _ => some (.byt b)
 | .float b _ => some (.flt b)
 | .ref a => some (.ref a)
 | .type n => some (.ty n)
 | _ => none
theorem ZX.abs {x : V} {u : Value} (r : ZX x u) : ZSY u = some x := by
 cases x with
 | non => cases r; rfl
 | bl _ => cases r; rfl
 | int _ => obtain ⟨t, rfl⟩ := r; rfl
 | str _ => obtain ⟨t, rfl⟩ := r; rfl
 | byt _ => obtain ⟨t, rfl⟩ := r; rfl
 | flt _ => obtain ⟨t, rfl⟩ := r; rfl
 | ref _ => cases r; rfl
 | ty _ => cases r; rfl
theorem ZX.inj {x y : V} {u : Value} (r : ZX x u) (q : ZX y u) : x = y := Option.some.inj (r.abs.symm.trans q.abs)
theorem ZV.inj : ∀ {xs ys : List V} {us : List Value}, ZV xs us → ZV ys us → xs = ys
 | _, _, _, .nil, .nil => rfl
 | _, _, _, .cons r t, .cons r' t' => by rw [r.inj r', ZV.inj t t']
section
variable {X : Cx} {pins : List (Addr × Obj)} {σ : St} {H : Hp} {s : Shared} {a : Addr} {xs ys : List V}
theorem SqL.of {K : PySem.W.Frag} (h : H a = some (.lst xs)) : SqL K H a xs := .inl (.inl h)
theorem SqT.of {K : PySem.W.Frag} (h : H a = some (.tup xs)) : SqT K H a xs := .inl (.inl h)
theorem Inv.list (I : Inv X pins σ H s) (h : SqL X.K H a xs) : ∃ its : List Value, ZV xs its ∧ PlainL s.heap a its.toArray ∧ xs.length ≤ sizeLine := by
 rcases h with h | ⟨o, its, n, hk, hc, hd, hs, hz, r⟩
 ·obtain ⟨z, its, n, r, e⟩ := h.ok I.hok
  exact ⟨its, r, ⟨_, n, e, rfl, rfl, rfl⟩, z⟩
 ·refine ⟨its.toList, r, ⟨o, n, I.kIn a o hk, hc, hd, by simpa using hs⟩, ?_⟩
  have e := r.length
  simp only [Array.length_toList] at e
  omega
theorem Inv.tuple (I : Inv X pins σ H s) (h : SqT X.K H a xs) : ∃ its : List Value, ZV xs its ∧ IsTup s.heap a its.toArray ∧ xs.length ≤ sizeLine := by
 rcases h with h | ⟨o, its, n, hk, hc, hs, hz, r⟩
 ·obtain ⟨z, its, r, p⟩ := h.ok I.hok
  exact ⟨its, r, p, z.1⟩
 ·refine ⟨its.toList, r, ⟨o, I.kIn a o hk, hc, n, by simpa using hs⟩, ?_⟩
  have e := r.length
  simp only [Array.length_toList] at e
  omega
theorem Inv.list_inj (I : Inv X pins σ H s) (h : SqL X.K H a xs) (h' : SqL X.K H a ys) : xs = ys := by
 obtain ⟨its, r, ⟨o, n, e, _, _, d⟩, _⟩ := I.list h
 obtain ⟨its', r', ⟨o', n', e', _, _, d'⟩, _⟩ := I.list h'
 rw [e] at e'; cases e'
 rw [d] at d'
 injection d' with d1 _
 have : its = its' := by simpa using congrArg Array.toList d1
 subst this
 exact r.inj r'
theorem Inv.tuple_inj (I : Inv X pins σ H s) (h : SqT X.K H a xs) (h' : SqT X.K H a ys) : xs = ys := by
 obtain ⟨its, r, ⟨o, e, _, n, d⟩, _⟩ := I.tuple h
 obtain ⟨its', r', ⟨o', e', _, n', d'⟩, _⟩ := I.tuple h'
 rw [e] at e'; cases e'
 rw [d] at d'
 injection d' with d1 _
 have : its = its' := by simpa using congrArg Array.toList d1
 subst this
 exact r.inj r'
end
abbrev Cx.wish (X : Cx) (E : Value → Shared → Prop) : Cx := { X with xe := E }
abbrev Cx.nox (X : Cx) : Cx := X.wish fun _ _ => False
theorem Cx.Ok.wish {X : Cx} (ok : X.Ok) (E : Value → Shared → Prop) : (X.wish E).Ok :=
 ⟨ok.mod, ok.kind, ok.glob, ok.blt, ok.above, ok.inj, ok.has, ok.cab, ok.hd, ok.frames, ok.stk, ok.exf, ok.bs, ok.bsz, ok.noex, ok.exfs, ok.funs, ok.frf⟩
theorem Cx.Ok.unwish {X : Cx} {E : Value → Shared → Prop} (ok : (X.wish E).Ok) : X.Ok :=
 ⟨ok.mod, ok.kind, ok.glob, ok.blt, ok.above, ok.inj, ok.has, ok.cab, ok.hd, ok.frames, ok.stk, ok.exf, ok.bs, ok.bsz, ok.noex, ok.exfs, ok.funs, ok.frf⟩
section
variable {X : Cx} {pins : List (Addr × Obj)} {σ : St} {H : Hp} {s : Shared} {E : Value → Shared → Prop}
theorem Inv.wish (I : Inv X pins σ H s) (E : Value → Shared → Prop) : Inv (X.wish E) pins σ H s := ⟨I.ok.wish E, I.os, I.bare, I.base, I.loc, I.cell, I.free, I.freeC, I.pin, I.hok, I.len⟩
theorem Inv.unwish (I : Inv (X.wish E) pins σ H s) : Inv X pins σ H s := ⟨I.ok.unwish, I.os, I.bare, I.base, I.loc, I.cell, I.free, I.freeC, I.pin, I.hok, I.len⟩
theorem SP.unwish {D : Z8} {f : Flow} {s' : Shared} (h : SP (X.wish E) pins D f s') : SP X pins D f s' := by
 cases f with
 | next => obtain ⟨σ', H', I, q⟩ := h; exact ⟨σ', H', I.unwish, q⟩
 | brk => obtain ⟨σ', H', I, q⟩ := h; exact ⟨σ', H', I.unwish, q⟩
 | cont => obtain ⟨σ', H', I, q⟩ := h; exact ⟨σ', H', I.unwish, q⟩
 | ret u => obtain ⟨v, σ', H', I, r, q⟩ := h; exact ⟨v, σ', H', I.unwish, r, q⟩
theorem PE.nox {e : Expr} {t : TE} (h : PE X.nox e t) : PE X e t := fun pins s σ H Q I hw =>
 wpAny_mono (h pins s σ H Q (I.wish _) hw) (fun _ _ ⟨v, H', I', r, q⟩ => ⟨v, H', I'.unwish, r, q⟩) fun _ _ z => False.elim z
theorem PT.nox {e : Expr} {t : TT} (h : PT X.nox e t) : PT X e t := fun pins s σ H Q I hw =>
 wpAny_mono (h pins s σ H Q (I.wish _) hw) (fun _ _ ⟨H', I', q⟩ => ⟨H', I'.unwish, q⟩) fun _ _ z => False.elim z
theorem PSs.nox {st : List Stmt} {t : TS} (h : PSs X.nox st t) : PSs X st t := fun pins s σ H D I hw =>
 wpAny_mono (h pins s σ H D (I.wish _) hw) (fun _ _ q => q.unwish) fun _ _ z => False.elim z
end
section
variable {X : Cx} {st : Stmt} {Yt : List Stmt} {t u : TS} {e : Expr} {te : TE} {pos : Pos}
def ZII : TS := fun D σ H => D.nx σ H
def ZLC (t u : TS) : TS := fun D σ H => t { D with nx := u D } σ H
theorem ZNr : PSs X [] ZII := fun _ _ σ H _ I h => wpAny_execs_nil ⟨σ, H, I, h⟩
theorem ZLD (h1 : PS X st t) (h2 : PSs X Yt u) : PSs X (st :: Yt) (ZLC t u) := by
 intro pins s σ H D I h
 refine wpAny_execs_cons (thn (h1 pins s σ H { D with nx := u D } I h) fun f s1 q => ?_)
 cases f with
 | next =>
  obtain ⟨σ', H', I', q⟩ := q
  exact h2 pins s1 σ' H' D I' q
 | ret v => exact q
 | brk => exact q
 | cont => exact q
theorem ZNs (h1 : PS X st t) : PSs X [st] t := by
 intro pins s σ H D I h
 refine wpAny_execs_cons (thn (h1 pins s σ H D I h) fun f s1 q => ?_)
 cases f with
 | next => exact wpAny_execs_nil q
 | ret v => exact q
 | brk => exact q
 | cont => exact q
theorem Inv.quiet {pins : List (Addr × Obj)} {σ : St} {H : Hp} {s : Shared} (I : Inv X pins σ H s) : interactive X.env = false := by simp [interactive, I.ok.kind]
def ZFl (te : TE) : TS := fun D σ H => te σ H fun _ H1 => D.nx σ H1
theorem ZNt (he : PE X e te) (hs : swapsWith e none pos.line X.env = pure false := by rfl) : PS X (.Expr e pos) (ZFl te) := by
 intro pins s σ H D I h
 exact wpAny_Expr_any (thn (he pins s σ H _ I h) fun v s1 ⟨x, H1, I1, r1, q1⟩ => ⟨σ, H1, I1, q1⟩) I.quiet hs
def ZLE (te : TE) : TS := fun D σ H => te σ H D.rt
theorem ZP9 (he : PE X e te) : PS X (.Return (some e) pos) (ZLE te) := by
 intro pins s σ H D I h
 exact wpAny_Return_some (thn (he pins s σ H _ I h) fun v s1 ⟨x, H1, I1, r1, q1⟩ => ⟨x, σ, H1, I1, r1, q1⟩)
def ZRo : TS := fun D _ H => D.rt .non H
def ZDc (c : TT) (t u : TS) : TS := fun D σ H => c σ H fun b H1 => if b = true then t D σ H1 else u D σ H1
theorem ZRp {c : Expr} {a b : List Stmt} {tc : TT} (hc : PT X c tc) (ha : PSs X a t) (hb : PSs X b u) : PS X (.If c a b pos) (ZDc tc t u) := by
 intro pins s σ H D I h
 refine wpAny_If (thn (hc pins s σ H _ I h) fun d s1 ⟨H1, I1, q1⟩ => ?_)
 cases d with
 | true => exact ha pins s1 σ H1 D I1 q1
 | false => exact hb pins s1 σ H1 D I1 q1
def ZJU : TS := fun _ _ _ => False
theorem ZLF : PS X st ZJU := fun _ _ _ _ _ _ h => h.elim
end
abbrev TG := V → St → Hp → (St → Hp → Prop) → Prop
abbrev TGs := List V → St → Hp → (St → Hp → Prop) → Prop
def PG (X : Cx) (target : Expr) (t : TG) : Prop :=
 ∀ (pins : List (Addr × Obj)) (s : Shared) (σ : St) (H : Hp) (v : V) (u : Value) (Q : St → Hp → Prop), Inv X pins σ H s → ZX v u → t v σ H Q →
  wpAny (model X.prog X.w) X.A (assign target X.env u) (fun _ s' => ∃ σ' H', Inv X pins σ' H' s' ∧ Q σ' H') X.xe s
def PGs (X : Cx) (ts : List Expr) (t : TGs) : Prop :=
 ∀ (pins : List (Addr × Obj)) (s : Shared) (σ : St) (H : Hp) (vs : List V) (us : List Value) (Q : St → Hp → Prop), Inv X pins σ H s → ZV vs us → t vs σ H Q →
  wpAny (model X.prog X.w) X.A (assignInOrder ((assignEach ts X.env).map (·.2)) us) (fun _ s' => ∃ σ' H', Inv X pins σ' H' s' ∧ Q σ' H') X.xe s
abbrev ZDd := V → V → V → Hp → (Hp → Prop) → Prop
def ZIJ (X : Cx) (t : ZDd) : Prop :=
 ∀ (pins : List (Addr × Obj)) (s : Shared) (σ : St) (H : Hp) (o i v : V) (ov iv u : Value) (Q : Hp → Prop), Inv X pins σ H s → ZX o ov → ZX i iv → ZX v u → t o i v H Q →
  wpAny (model X.prog X.w) X.A (setItem ov iv u) (fun _ s' => ∃ H', Inv X pins σ H' s' ∧ Q H') X.xe s
abbrev TIp := V → V → Hp → VK → Prop
def PIp (X : Cx) (op : Operator) (t : TIp) : Prop :=
 ∀ (pins : List (Addr × Obj)) (s : Shared) (σ : St) (H : Hp) (x y : V) (v u : Value) (Q : VK), Inv X pins σ H s → ZX x v → ZX y u → t x y H Q →
  wpAny (model X.prog X.w) X.A (inplaceOp op v u) (EP X pins σ Q) X.xe s
section
variable {X : Cx} {pos : Pos}
def ZB4 (i : Nat) : TG := fun v σ H Q => Q (σ.set i (some v)) H
theorem ZNu {i : Nat} {x : Str} (hN : X.N.Nodup) (hi : X.N[i]? = some x) (hx : Loc X.env.scope x) (hf : X.fn x = true ∨ X.env.scope.names.lookup x = some .local := by first | exact .inl rfl | exact .inr rfl | assumption) : PG X (.Name x pos) (ZB4 i) := by
 intro pins s σ H v u Q I r h
 exact wpAny_assign_Name (ZDb I hN hi hx r (fun s' I' => ⟨_, H, I', h⟩) hf)
def ZLG : TGs := fun vs σ H Q => vs = [] ∧ Q σ H
def ZIK (t : TG) (u : TGs) : TGs := fun vs σ H Q => ∃ v r, vs = v :: r ∧ t v σ H fun σ' H' => u r σ' H' Q
theorem ZNv : PGs X [] ZLG := by
 intro pins s σ H vs us Q I r h
 obtain ⟨e, h⟩ := h
 subst e
 cases r
 exact assignInOrder_nil ⟨σ, H, I, h⟩
theorem ZLH {e : Expr} {es : List Expr} {t : TG} {u : TGs} (h1 : PG X e t) (h2 : PGs X es u)
  (hs : (assignEach (e :: es) X.env).map (·.2) = assign e X.env :: (assignEach es X.env).map (·.2) := by rfl) : PGs X (e :: es) (ZIK t u) := by
 intro pins s σ H vs us Q I r h
 obtain ⟨v, vr, e1, h⟩ := h
 subst e1
 cases r with
 | cons r rr =>
  rw [hs]
  refine assignInOrder_cons (thn (h1 pins s σ H _ _ _ I r h) fun _ s1 ⟨σ1, H1, I1, q1⟩ => ?_)
  exact h2 pins s1 σ1 H1 _ _ Q I1 rr q1
def ZIL (K : PySem.W.Frag) (n : Nat) (t : TGs) : TG := fun v σ H Q => ∃ a xs, v = .ref a ∧ SqT K H a xs ∧ xs.length = n ∧ t xs σ H Q
theorem ZQA {es : List Expr} {k : Nat} {t : TGs} {n : Nat} (hc : X.calm = true) (h : PGs X es t)
  (hn : (assignEach es X.env).length = n := by rfl) (hst : (assignEach es X.env).findIdx? (·.1) = none := by rfl) : PG X (.Tuple es k pos) (ZIL X.K n t) := by
 intro pins s σ H v u Q I r hw
 obtain ⟨a, xs, e1, hq, hl, hw⟩ := hw
 subst e1
 cases r
 obtain ⟨its, rv, ht, hz⟩ := I.tuple hq
 refine assign_Tuple_tuple (I.ok.hd hc) ht (by simp [hn, ← hl, rv.length]) hst fun h' hx => ?_
 have I1 : Inv X pins σ H { s with heap := h' } := I.kept (t' := s.toks) fun b o e => hx b o (Nat.ne_of_lt (Heap.lt_size e)) e
 exact h pins _ σ H xs _ Q I1 (by simpa using rv) hw
def ZLI (to ti : TE) (t : ZDd) : TG := fun v σ H Q => to σ H fun o H1 => ti σ H1 fun i H2 => t o i v H2 fun H3 => Q σ H3
theorem ZQB {o i : Expr} {to ti : TE} {t : ZDd} (ho : PE X o to) (hi : PE X i ti) (hs : ZIJ X t)
  (ha : ∀ v, assign (.Subscript o i pos) X.env v = (do
   let ov ← holding [v] (eval o X.env)
   let iv ← holding [v, ov] (eval i X.env)
   standAt pos
   holding [v, ov, iv] (setItem ov iv v)
   release [v, ov, iv] []) := by intro _; rfl) : PG X (.Subscript o i pos) (ZLI to ti t) := by
 intro pins s σ H v u Q I r h
 rw [ha]
 refine wpAny_bind (wpAny_holding (thn (ho pins s σ H _ I h) fun ov s1 ⟨x, H1, I1, r1, q1⟩ => ?_))
 refine wpAny_bind (wpAny_holding (thn (hi pins s1 σ H1 _ I1 q1) fun iv s2 ⟨y, H2, I2, r2, q2⟩ => ?_))
 refine wpAny_bind (wpAny_standAt (wpAny_bind (wpAny_holding (thn (hs pins s2 σ H2 x y v ov iv u _ I2 r1 r2 r q2) fun _ s3 ⟨H3, I3, q3⟩ => ?_))))
 exact wpAny_release ⟨σ, H3, I3, q3⟩
def ZDe (te : TE) (g : TG) : TS := fun D σ H => te σ H fun x H1 => g x σ H1 D.nx
theorem ZJV {tg e : Expr} {te : TE} {g : TG} (he : PE X e te) (hg : PG X tg g) (hs : swapsWithSole [tg] e pos.line X.env = pure false := by rfl) (hw : swappedStores [tg] e X.env = pure none := by rfl)
  (h1 : (assignEach [tg] X.env).map (·.2) = [assign tg X.env] := by rfl) : PS X (.Assign [tg] e pos) (ZDe te g) := by
 intro pins s σ H D I h
 refine wpAny_Assign_stores (thn (he pins s σ H _ I h) fun v s1 ⟨x, H1, I1, r1, q1⟩ => ?_) hs hw
 rw [h1]
 exact thn (hg pins s1 σ H1 x v _ I1 r1 q1) fun _ s2 q => q
theorem ZQC {i : Nat} {x : Str} {e : Expr} {te : TE} {pos' : Pos} (hN : X.N.Nodup) (hi : X.N[i]? = some x) (hx : Loc X.env.scope x) (he : PE X e te) (hs : swapsWith e (some (.Name x pos')) pos.line X.env = pure false := by rfl) (hf : X.fn x = true ∨ X.env.scope.names.lookup x = some .local := by first | exact .inl rfl | exact .inr rfl | assumption) :
  PS X (.Assign [.Name x pos'] e pos) (ZDe te (ZB4 i)) := by
 intro pins s σ H D I h
 refine wpAny_Assign_Name (thn (he pins s σ H _ I h) fun v s1 ⟨y, H1, I1, r1, q1⟩ => ?_) hs
 exact ZDb I1 hN hi hx r1 (fun s2 I2 => ⟨_, H1, I2, q1⟩) hf
def ZSZ (i j : Nat) (ta : TA) : TS := fun D σ H => ta σ H fun vs H1 => ∃ v w, vs = [v, w] ∧ D.nx ((σ.set i (some v)).set j (some w)) H1
def ZLJ (i : Nat) (te : TE) (ti : TIp) : TS := fun D σ H => ∃ x, σ[i]? = some (some x) ∧ te σ H fun y H1 => ti x y H1 fun z H2 => D.nx (σ.set i (some z)) H2
theorem ZQD {i : Nat} {x : Str} {e : Expr} {te : TE} {op : Operator} {ti : TIp} {pos' : Pos} (hN : X.N.Nodup) (hi : X.N[i]? = some x) (hx : Loc X.env.scope x) (he : PE X e te) (ho : PIp X op ti) (hf : X.fn x = true ∨ X.env.scope.names.lookup x = some .local := by first | exact .inl rfl | exact .inr rfl | assumption) :
  PS X (.AugAssign (.Name x pos') op e pos) (ZLJ i te ti) := by
 intro pins s σ H D I h
 obtain ⟨v, e1, h⟩ := h
 obtain ⟨m, hn, hl⟩ := I.loc
 have vis : Vis X.env.scope x := by rcases hx with k | k; exact .inl k; exact .inr (.inl k)
 obtain ⟨u, r, l⟩ := hl i x v hi e1 vis
 refine wpAny_AugAssign_Name ?_
 have go : wpAny (model X.prog X.w) X.A (eval e X.env) (fun w s₂ => wpAny (model X.prog X.w) X.A (inplaceOp op u w) (fun r s₃ => wpAny (model X.prog X.w) X.A (storeName X.env x r) (fun _ => SP X pins D .next) X.xe s₃) X.xe s₂) X.xe s := by
  refine thn (he pins s σ H _ I h) fun w s1 ⟨y, H1, I1, r1, q1⟩ => ?_
  refine thn (ho pins s1 σ H1 v y u w _ I1 r r1 q1) fun z s2 ⟨zv, H2, I2, r2, q2⟩ => ?_
  exact ZDb I2 hN hi hx r2 (fun s3 I3 => ⟨_, H2, I3, q2⟩) hf
 rcases l with ⟨hk, hm⟩ | ⟨hk, c, hc, hcell⟩
 ·exact wpAny_loadName_local I.ok.kind hk hn hm go
 ·rcases hk with hk | hk
  ·exact wpAny_loadName_cell I.ok.kind hk hc hcell go
  ·rcases hx with k | k
   ·have : X.env.scope.names.lookup x = some .free := hk
    rw [k] at this; cases this
   ·have : X.env.scope.names.lookup x = some .free := hk
    rw [k] at this; cases this
def ZIM (to ti te : TE) (tget : V → V → Hp → VK → Prop) (tip : TIp) (tset : ZDd) : TS := fun D σ H => to σ H fun o H1 => ti σ H1 fun i H2 => tget o i H2 fun x H3 => te σ H3 fun y H4 => tip x y H4 fun z H5 => tset o i z H5 fun H6 => D.nx σ H6
def ZQE (X : Cx) (t : V → V → Hp → VK → Prop) : Prop :=
 ∀ (pins : List (Addr × Obj)) (s : Shared) (σ : St) (H : Hp) (o i : V) (ov iv : Value) (Q : VK), Inv X pins σ H s → ZX o ov → ZX i iv → t o i H Q →
  wpAny (model X.prog X.w) X.A (getItem ov iv) (EP X pins σ Q) X.xe s
theorem ZNw {o i e : Expr} {to ti te : TE} {tget : V → V → Hp → VK → Prop} {tip : TIp} {tset : ZDd} {op : Operator} {tpos : Pos} (ho : PE X o to) (hi : PE X i ti) (hg : ZQE X tget) (he : PE X e te) (hp : PIp X op tip) (hs : ZIJ X tset)
  (ha : ∀ ov iv new, augStore i ov iv new = (do holding [new, ov, iv] (setItem ov iv new); release [new, ov, iv] []; pure .next) := by intros; rfl) : PS X (.AugAssign (.Subscript o i tpos) op e pos) (ZIM to ti te tget tip tset) := by
 intro pins s σ H D I h
 refine wpAny_AugAssign_SubscriptAny (thn (ho pins s σ H _ I h) fun ov s1 ⟨x1, H1, I1, r1, q1⟩ => ?_) ha
 refine thn (hi pins s1 σ H1 _ I1 q1) fun iv s2 ⟨x2, H2, I2, r2, q2⟩ => ?_
 refine thn (hg pins s2 σ H2 x1 x2 ov iv _ I2 r1 r2 q2) fun old s3 ⟨x3, H3, I3, r3, q3⟩ => ?_
 refine thn (he pins s3 σ H3 _ I3 q3) fun v s4 ⟨x4, H4, I4, r4, q4⟩ => ?_
 refine thn (hp pins s4 σ H4 x3 x4 old v _ I4 r3 r4 q4) fun new s5 ⟨x5, H5, I5, r5, q5⟩ => ?_
 exact thn (hs pins s5 σ H5 x1 x2 x5 ov iv new _ I5 r1 r2 r5 q5) fun _ s6 ⟨H6, I6, q6⟩ => ⟨σ, H6, I6, q6⟩
def ipI (f : Int → Int → Int) : TIp := fun x y H Q => ∃ i j, x = .int i ∧ y = .int j ∧ Q (.int (f i j)) H
theorem ZQF : PIp X .Add (ipI fun i j => i + j) := by
 intro pins s σ H x y v u Q I r1 r2 h
 obtain ⟨i, j, e1, e2, q⟩ := h
 subst e1; subst e2
 obtain ⟨t, rfl⟩ := r1
 obtain ⟨t', rfl⟩ := r2
 exact iadd_int ⟨.int _, H, I.tok _, ⟨_, rfl⟩, q⟩
end
section
variable {X : Cx} {pos : Pos}
def ZFz (c : TT) (tb : TS) : TS := fun D σ H => ∃ W : Nat → St → Hp → Prop, (∃ m, W m σ H) ∧ ∀ m σ H, W m σ H →
 c σ H fun b H1 => if b = true then ∃ N : St → Hp → Prop, (∀ σ' H', N σ' H' → ∃ m', m' < m ∧ W m' σ' H') ∧ tb { D with nx := N, ct := N, bk := D.nx } σ H1 else D.nx σ H1
theorem ZLK {c : Expr} {body : List Stmt} {tc : TT} {tb : TS} (hp : PassesOwn (model X.prog X.w) X.A X.env X.xe) (hc : PT X c tc) (hb : PSs X body tb) : PS X (.While c body [] pos) (ZFz tc tb) := by
 intro pins s σ H D I h
 obtain ⟨W, ⟨m0, w0⟩, turn⟩ := h
 refine wpAny_While (codeAny_whileLoop (fun n s' => ∃ σ' H', Inv X pins σ' H' s' ∧ W n σ' H') ?_ m0 ⟨σ, H, I, w0⟩)
 rintro n s1 ⟨σ1, H1, I1, w1⟩
 refine wpAny_passesOwn hp (thn (hc pins s1 σ1 H1 _ I1 (turn n σ1 H1 w1)) fun b s2 ⟨H2, I2, q2⟩ => ?_)
 cases b with
 | true =>
  obtain ⟨N, hN, q2⟩ := q2
  rw [if_pos rfl]
  refine wpAny_passesOwn hp (thn (hb pins s2 σ1 H2 _ I2 q2) fun f s3 q3 => ?_)
  cases f with
  | next =>
   obtain ⟨σ3, H3, I3, n3⟩ := q3
   obtain ⟨m', hm, w3⟩ := hN σ3 H3 n3
   exact ⟨m', hm, σ3, H3, I3, w3⟩
  | cont =>
   obtain ⟨σ3, H3, I3, n3⟩ := q3
   obtain ⟨m', hm, w3⟩ := hN σ3 H3 n3
   exact ⟨m', hm, σ3, H3, I3, w3⟩
  | brk => exact q3
  | ret v => exact q3
 | false =>
  rw [if_neg Bool.false_ne_true]
  exact wpAny_execs_nil ⟨σ1, H2, I2, q2⟩
end
structure It where
 go : Nat → Hp → Prop
 yld : Nat → Hp → V → Hp → Prop
 stop : Nat → Hp → Prop
def Yh (X : Cx) (pins : List (Addr × Obj)) (H : Hp) (b : Addr) : Prop :=
 H b = none ∧ b ≠ X.env.locals ∧ b ∉ X.fs ∧ (b ∈ X.ex ∨ X.s₀.heap.objs.size ≤ b) ∧ (∀ x c, X.env.cells.lookup x = some c → c ≠ b) ∧ ∀ p ∈ X.pn ++ pins, p.1 ≠ b
theorem Inv.fpOk {X : Cx} {pins : List (Addr × Obj)} {σ : St} {H H' : Hp} {s : Shared} {b : Addr} (I : Inv X pins σ H s) (hb : s.heap.objs.size ≤ b) (hn : H' b = none) : Yh X pins H' b := by
 refine ⟨hn, Nat.ne_of_gt (Nat.lt_of_lt_of_le I.lt hb), I.nofs hb, .inr (Nat.le_trans I.sz hb), fun x c e z => ?_, fun p hp z => ?_⟩
 ·obtain ⟨v, q⟩ := I.cell x c e
  exact absurd (Nat.lt_of_lt_of_le q.lt (by rw [z]; exact hb)) (Nat.lt_irrefl _)
 ·exact absurd (Nat.lt_of_lt_of_le (Heap.lt_size (I.pin p hp).1) (by rw [z]; exact hb)) (Nat.lt_irrefl _)
structure ZF0 (P : Program) (w : World) (K : PySem.W.Frag) (tg : Expr) (J : It) (fp : List Addr) (it : Addr) (tn : Nat → Heap → Prop) : Prop where
 mem : it ∈ fp
 obj : ∀ i h, tn i h → ∀ b ∈ fp, ∃ o, h.get? b = some o ∧ ∀ v, o.data ≠ .cell v
 keep : ∀ i h h', tn i h → (∀ b ∈ fp, ∀ o, h.get? b = some o → h'.get? b = some o) → tn i h'
 item : ∀ (X : Cx), X.prog = P → X.w = w → X.K = K → X.calm = true → ∀ (i : Nat) (pins : List (Addr × Obj)) (s : Shared) (σ : St) (H : Hp) (E : Value → Shared → Prop), Inv X pins σ H s → (∀ b ∈ fp, Yh X pins H b) → tn i s.heap → J.go i H →
  wpAny (model P w) X.A (pyNext (.ref it)) (fun r s1 => ∃ u, r = some u ∧
   wpAny (model P w) X.A (letOwnedTupleGo tg (.ref it) u) (fun _ s2 => ∃ x H', Inv X pins σ H' s2 ∧ ZX x u ∧ J.yld i H x H' ∧ tn (i + 1) s2.heap ∧ ∀ b ∈ fp, H' b = none) E s1) E s
 done : ∀ (X : Cx), X.prog = P → X.w = w → X.K = K → X.calm = true → ∀ (i : Nat) (pins : List (Addr × Obj)) (s : Shared) (σ : St) (H : Hp) (E : Value → Shared → Prop), Inv X pins σ H s → (∀ b ∈ fp, Yh X pins H b) → tn i s.heap → J.stop i H →
  wpAny (model P w) X.A (pyNext (.ref it)) (fun r s1 => r = none ∧ Inv X pins σ H s1) E s
 self : ∀ (A : Around) (i : Nat) (s : Shared) (Q : Value → Shared → Prop) (E : Value → Shared → Prop), tn i s.heap → Q (.ref it) s → wpAny (model P w) A (pyIter (.ref it)) Q E s
abbrev TI := St → Hp → (It → Hp → Prop) → Prop
def PIE (X : Cx) (pins : List (Addr × Obj)) (σ : St) (tg : Expr) (R : It → Hp → Prop) (itv : Value) (s2 : Shared) : Prop :=
 ∃ (it : Addr) (fp : List Addr) (tn : Nat → Heap → Prop) (J : It) (H' : Hp), itv = .ref it ∧ Inv X pins σ H' s2 ∧ ZF0 X.prog X.w X.K tg J fp it tn ∧ tn 0 s2.heap ∧ (∀ b ∈ fp, Yh X pins H' b) ∧ R J H'
def PI (X : Cx) (tg iter : Expr) (wi : TI) : Prop :=
 ∀ (pins : List (Addr × Obj)) (s : Shared) (σ : St) (H : Hp) (R : It → Hp → Prop), Inv X pins σ H s → wi σ H R →
  wpAny (model X.prog X.w) X.A (eval iter X.env) (fun v s1 => wpAny (model X.prog X.w) X.A (pyIter v) (PIE X pins σ tg R) X.xe s1) X.xe s
theorem ZFm {M : Model} {A : Around} {E : Value → Shared → Prop} {s : Shared} {tg : Expr} {it : Addr} {u : Value} {o : Obj} {n : String} {vs : Array Value} {Q : Unit → Shared → Prop} (ho : s.heap.get? it = some o) (hc : o.cls = .type n) (hd : o.data = .fields vs)
    (hn : ["enumerate", "zip", "dict_itemiterator", "dict_reverseitemiterator", "odict_iterator", "itertools.zip_longest", "itertools.pairwise"].contains n = false) (hQ : Q () s) : wpAny M A (letOwnedTupleGo tg (.ref it) u) Q E s := by
  unfold letOwnedTupleGo
  cases tg <;> first
    | exact wpAny_pure hQ
    | (cases u <;> first
        | exact wpAny_pure hQ
        | (refine wpAny_bind (wpAny_load ho ?_)
           rw [hc, hd]
           show wpAny M A (if (["enumerate", "zip", "dict_itemiterator", "dict_reverseitemiterator", "odict_iterator", "itertools.zip_longest", "itertools.pairwise"].contains n && vs[0]? == some (rawInt _)) = true then _ else _) Q E s
           rw [if_neg (by intro h; rw [hn, Bool.false_and] at h; cases h)]
           exact wpAny_pure hQ))
def Itl (K : PySem.W.Frag) (a : Addr) : It :=
 ⟨fun i H => ∃ xs x, SqL K H a xs ∧ xs[i]? = some x, fun i H x H' => H' = H ∧ ∀ xs, SqL K H a xs → xs[i]? = some x, fun i H => ∃ xs, SqL K H a xs ∧ xs.length ≤ i⟩
def Itt (K : PySem.W.Frag) (a : Addr) : It :=
 ⟨fun i H => ∃ xs x, SqT K H a xs ∧ xs[i]? = some x, fun i H x H' => H' = H ∧ ∀ xs, SqT K H a xs → xs[i]? = some x, fun i H => ∃ xs, SqT K H a xs ∧ xs.length ≤ i⟩
def Itr (lo : Int) (n : Nat) : It := ⟨fun i _ => i < n, fun i H x H' => H' = H ∧ x = .int (lo + i), fun i _ => n ≤ i⟩
theorem ZJW {P : Program} {w : World} {K : PySem.W.Frag} {tg : Expr} (a it : Addr) : ZF0 P w K tg (Itl K a) [it] it (fun i h => h.IsListIter it a i) where
 mem := by simp
 obj := fun i h st b hb => by
  have e : b = it := by simpa using hb
  subst e
  obtain ⟨o, e, c, d⟩ := st
  exact ⟨o, e, fun v z => by rw [d] at z; cases z⟩
 keep := fun i h h' st k => st.at fun o e => k it (by simp) o e
 item := by
  intro X hP hw hK hc i pins s σ H E I hf st hg
  subst hP hw hK
  obtain ⟨xs, x, hq, hx⟩ := hg
  obtain ⟨its, rv, p, hz⟩ := I.list hq
  obtain ⟨u, hu, ru⟩ := rv.get hx
  obtain ⟨f0, f1, f2, f3, f4, f5⟩ := hf it (by simp)
  refine wpAny_pyNext_list_item st p.isList (x := u) (by simpa using hu) fun h' st' sb => ?_
  have I1 : Inv X pins σ H { s with heap := h' } := I.turned (t' := s.toks) (fun b o hb e => (sb.2 b hb).trans e) f0 f1 f3 f4 f5
  obtain ⟨o, e, c, d⟩ := id st'
  exact ⟨u, rfl, ZFm (s := { s with heap := h' }) e c d (by decide) ⟨x, H, I1, ru, ⟨rfl, fun ys hy => by rw [I.list_inj hy hq]; exact hx⟩, st', fun b hb => (hf b hb).1⟩⟩
 done := by
  intro X hP hw hK hc i pins s σ H E I hf st hg
  subst hP hw hK
  obtain ⟨xs, hq, hx⟩ := hg
  obtain ⟨its, rv, p, hz⟩ := I.list hq
  obtain ⟨f0, f1, f2, f3, f4, f5⟩ := hf it (by simp)
  have hl := rv.length
  exact wpAny_pyNext_list_end (I.ok.hd hc) st p.isList (by simp; omega) fun h' eb => ⟨rfl, I.turned (t' := s.toks) (fun b o hb e => eb b o hb e) f0 f1 f3 f4 f5⟩
 self := fun _ _ _ _ _ st h => wpAny_pyIter_listiter st h
theorem ZIN {P : Program} {w : World} {K : PySem.W.Frag} {tg : Expr} (a it : Addr) : ZF0 P w K tg (Itt K a) [it] it (fun i h => h.IsTupleIter it a i) where
 mem := by simp
 obj := fun i h st b hb => by
  have e : b = it := by simpa using hb
  subst e
  obtain ⟨o, e, c, d⟩ := st
  exact ⟨o, e, fun v z => by rw [d] at z; cases z⟩
 keep := fun i h h' st k => st.at fun o e => k it (by simp) o e
 item := by
  intro X hP hw hK hc i pins s σ H E I hf st hg
  subst hP hw hK
  obtain ⟨xs, x, hq, hx⟩ := hg
  obtain ⟨its, rv, p, hz⟩ := I.tuple hq
  obtain ⟨u, hu, ru⟩ := rv.get hx
  obtain ⟨f0, f1, f2, f3, f4, f5⟩ := hf it (by simp)
  refine wpAny_pyNext_tuple_item st (show s.heap.IsTuple a its.toArray from p) (x := u) (by simpa using hu) fun h' st' sb => ?_
  have I1 : Inv X pins σ H { s with heap := h' } := I.turned (t' := s.toks) (fun b o hb e => (sb.2 b hb).trans e) f0 f1 f3 f4 f5
  obtain ⟨o, e, c, d⟩ := id st'
  exact ⟨u, rfl, ZFm (s := { s with heap := h' }) e c d (by decide) ⟨x, H, I1, ru, ⟨rfl, fun ys hy => by rw [I.tuple_inj hy hq]; exact hx⟩, st', fun b hb => (hf b hb).1⟩⟩
 done := by
  intro X hP hw hK hc i pins s σ H E I hf st hg
  subst hP hw hK
  obtain ⟨xs, hq, hx⟩ := hg
  obtain ⟨its, rv, p, hz⟩ := I.tuple hq
  obtain ⟨f0, f1, f2, f3, f4, f5⟩ := hf it (by simp)
  have hl := rv.length
  exact wpAny_pyNext_tuple_end (I.ok.hd hc) st (show s.heap.IsTuple a its.toArray from p) (by simp; omega) fun h' eb => ⟨rfl, I.turned (t' := s.toks) (fun b o hb e => eb b o hb e) f0 f1 f3 f4 f5⟩
 self := fun _ _ _ _ _ st h => wpAny_pyIter_tupleiter st h
theorem ZIO {P : Program} {w : World} {K : PySem.W.Frag} {tg : Expr} (it : Addr) (lo : Int) (n : Nat) : ZF0 P w K tg (Itr lo n) [it] it (fun i h => IsRangeIter h it (lo + (i : Nat) * 1) ((n : Int) - (i : Nat)) 1) where
 mem := by simp
 obj := fun i h st b hb => by
  have e : b = it := by simpa using hb
  subst e
  exact ⟨_, st, fun v z => by
   have z' : Data.fields _ = Data.cell v := z
   cases z'⟩
 keep := fun i h h' st k => k it (by simp) _ st
 item := by
  intro X hP hw hK hc i pins s σ H E I hf st hg
  subst hP hw hK
  obtain ⟨f0, f1, f2, f3, f4, f5⟩ := hf it (by simp)
  have W := Walks.range (prog := X.prog) (w := X.w) (I.ok.hd hc) it lo 1 n
  refine W.item i s _ _ hg st fun v h' tk hv st' kk => ?_
  obtain ⟨t, rfl⟩ := hv
  have I1 : Inv X pins σ H { s with heap := h', toks := tk } := I.turned (fun b o hb e => kk b o (by simpa using hb) e) f0 f1 f3 f4 f5
  refine ⟨_, rfl, ZFm (s := { s with heap := h', toks := tk }) (n := "range_iterator") st' rfl rfl (by decide) ⟨.int (lo + i), H, I1, ⟨t, ?_⟩, ⟨rfl, rfl⟩, st', fun b hb => (hf b hb).1⟩⟩
  rw [Int.mul_one]
 done := by
  intro X hP hw hK hc i pins s σ H E I hf st hg
  subst hP hw hK
  obtain ⟨f0, f1, f2, f3, f4, f5⟩ := hf it (by simp)
  exact wpAny_pyNext_range_end (I.ok.hd hc) st (by have : n ≤ i := hg; omega) fun h' eb => ⟨rfl, I.turned (t' := s.toks) (fun b o hb e => eb b o hb e) f0 f1 f3 f4 f5⟩
 self := fun _ _ _ _ _ st h => wpAny_pyIter_rangeiter st h
end L2
namespace L2
open PySem PySem.Spec PyProof.Rows
section
variable {X : Cx} {tg : Expr}
def ZFn (K : PySem.W.Frag) (tl : TE) : TI := fun σ H R => tl σ H fun x H1 => ∃ a, x = .ref a ∧ (∃ xs, SqL K H1 a xs) ∧ R (Itl K a) H1
def ZIP (K : PySem.W.Frag) (tl : TE) : TI := fun σ H R => tl σ H fun x H1 => ∃ a, x = .ref a ∧ (∃ xs, SqT K H1 a xs) ∧ R (Itt K a) H1
theorem ZNx {l : Expr} {tl : TE} (hl : PE X l tl) : PI X tg l (ZFn X.K tl) := by
 intro pins s σ H R I h
 refine thn (hl pins s σ H _ I h) fun v s1 ⟨x, H1, I1, r1, q1⟩ => ?_
 obtain ⟨a, e, ⟨xs, hq⟩, q⟩ := q1
 subst e
 cases r1
 obtain ⟨its, rv, p, hz⟩ := I1.list hq
 refine wpAny_pyIter_list p.isList ?_
 refine ⟨s1.heap.objs.size, [s1.heap.objs.size], _, _, H1, rfl, I1.kept (t' := s1.toks) fun b o e => Heap.get?_push_of_some _ e, ZJW a _, ⟨_, Heap.get?_push_size _ rfl, rfl, rfl⟩, fun b hb => ?_, q⟩
 have e : b = s1.heap.objs.size := by simpa using hb
 subst e
 exact I1.fpOk (Nat.le_refl _) (I1.hok.fresh (Nat.le_refl _))
theorem ZQG {l : Expr} {tl : TE} (hl : PE X l tl) : PI X tg l (ZIP X.K tl) := by
 intro pins s σ H R I h
 refine thn (hl pins s σ H _ I h) fun v s1 ⟨x, H1, I1, r1, q1⟩ => ?_
 obtain ⟨a, e, ⟨xs, hq⟩, q⟩ := q1
 subst e
 cases r1
 obtain ⟨its, rv, p, hz⟩ := I1.tuple hq
 refine wpAny_pyIter_tuple (show s1.heap.IsTuple a its.toArray from p) ?_
 refine ⟨s1.heap.objs.size, [s1.heap.objs.size], _, _, H1, rfl, I1.kept (t' := s1.toks) fun b o e => Heap.get?_push_of_some _ e, ZIN a _, ⟨_, Heap.get?_push_size _ rfl, rfl, rfl⟩, fun b hb => ?_, q⟩
 have e : b = s1.heap.objs.size := by simpa using hb
 subst e
 exact I1.fpOk (Nat.le_refl _) (I1.hok.fresh (Nat.le_refl _))
theorem ZLL {pins : List (Addr × Obj)} {σ : St} {H : Hp} {s : Shared} {R : It → Hp → Prop} {E : Value → Shared → Prop} {lo hi : Int} {t u v : Tok} {tk : Nat} (I : Inv X pins σ H s) (h1 : -(2 ^ 62) ≤ lo) (h2 : lo < 2 ^ 62) (h3 : -(2 ^ 62) ≤ hi) (h4 : hi < 2 ^ 62)
  (q : R (Itr lo (hi - lo).toNat) H) : wpAny (model X.prog X.w) X.A (pyIter (.ref s.heap.objs.size)) (PIE X pins σ tg R) E { s with heap := s.heap.push { cls := .type "range", data := .fields #[.int lo t, .int hi u, .int 1 v] }, toks := tk } := by
 refine wpAny_pyIter_range (IsRange.new ..) (small_one h1 h2 h3 h4) ?_
 have I1 : Inv X pins σ H { s with heap := s.heap.push { cls := .type "range", data := .fields #[.int lo t, .int hi u, .int 1 v] }, toks := tk } := I.kept fun b o e => Heap.get?_push_of_some _ e
 refine ⟨(s.heap.push { cls := .type "range", data := .fields #[.int lo t, .int hi u, .int 1 v] }).objs.size, [(s.heap.push { cls := .type "range", data := .fields #[.int lo t, .int hi u, .int 1 v] }).objs.size], _, _, H, rfl,
  I1.kept (t' := tk) fun b o e => Heap.get?_push_of_some _ e, ZIO _ lo (hi - lo).toNat, ?_, fun b hb => ?_, q⟩
 ·have e1 : lo + ((0 : Nat) : Int) * 1 = lo := by simp
  have e2 : (((hi - lo).toNat : Nat) : Int) - ((0 : Nat) : Int) = Builtin.Range.rangeSize lo hi 1 := by rw [rangeSize_one]; split <;> omega
  show IsRangeIter _ _ (lo + ((0 : Nat) : Int) * 1) ((((hi - lo).toNat : Nat) : Int) - ((0 : Nat) : Int)) 1
  rw [e1, e2]
  exact Heap.get?_push_size _ rfl
 ·have e : b = (s.heap.push { cls := .type "range", data := .fields #[.int lo t, .int hi u, .int 1 v] }).objs.size := by simpa using hb
  subst e
  exact I1.fpOk (Nat.le_refl _) (I1.hok.fresh (Nat.le_refl _))
def ZIQ (ta : TA) : TI := fun σ H R => ta σ H fun vs H1 => ∃ j : Int, vs = [.int j] ∧ -(2 ^ 62) ≤ j ∧ j < 2 ^ 62 ∧ R (Itr 0 j.toNat) H1
def ZRq (ta : TA) : TI := fun σ H R => ta σ H fun vs H1 => ∃ i j : Int, vs = [.int i, .int j] ∧ (-(2 ^ 62) ≤ i ∧ i < 2 ^ 62 ∧ -(2 ^ 62) ≤ j ∧ j < 2 ^ 62) ∧ R (Itr i (j - i).toNat) H1
theorem ZJX {a : Expr} {ta : TA} {p pos : Pos} (hg : Gl X "range") (hm : X.mg "range" = none) (ha : PA X [a] ta) (hs : starEach [a] X.env = [(false, eval a X.env)] := by rfl) : PI X tg (.Call (.Name "range" p) [a] [] pos) (ZIQ ta) := by
 intro pins s σ H R I h
 refine Call_ (ZAa I hg hm boot_range (PyProof.Rows.callWith_type1 (thn (ha pos pins s σ H _ I h) fun us s1 ⟨vs, H1, I1, r1, q1⟩ => ?_) hs rfl))
 obtain ⟨j, e, q1, q2, q⟩ := q1
 subst e
 cases r1 with
 | cons r rr =>
  cases rr
  obtain ⟨t, rfl⟩ := r
  exact call_range_1 (ZLL I1 (by omega) (by omega) q1 q2 (by simpa using q))
def ZLM (wi : TI) (g : TG) (tb : TS) : TS := fun D σ H => wi σ H fun J H1 => ∃ W : Nat → Nat → St → Hp → Prop, (∃ m, W 0 m σ H1) ∧ ∀ i m σ H, W i m σ H →
 (J.stop i H ∧ D.nx σ H) ∨ (J.go i H ∧ ∃ N : St → Hp → Prop, (∀ σ' H', N σ' H' → ∃ m', m' < m ∧ W (i + 1) m' σ' H') ∧ ∀ x H', J.yld i H x H' → g x σ H' fun σ2 H2 => tb { D with nx := N, ct := N, bk := D.nx } σ2 H2)
def ZCf (fp : List Addr) (h : Heap) : List (Addr × Obj) := fp.filterMap fun b => (h.get? b).map fun o => (b, o)
theorem ZAm {fp : List Addr} {h : Heap} {b : Addr} {o : Obj} (hb : b ∈ fp) (e : h.get? b = some o) : (b, o) ∈ ZCf fp h := List.mem_filterMap.mpr ⟨b, hb, by rw [e]; rfl⟩
theorem ZJY {fp : List Addr} {h : Heap} {p : Addr × Obj} (hp : p ∈ ZCf fp h) : p.1 ∈ fp ∧ h.get? p.1 = some p.2 := by
 obtain ⟨b, hb, e⟩ := List.mem_filterMap.mp hp
 cases q : h.get? b with
 | none => rw [q] at e; cases e
 | some o =>
  rw [q] at e
  have e' : (b, o) = p := Option.some.inj e
  subst e'
  exact ⟨hb, q⟩
theorem Inv.pinned {pins : List (Addr × Obj)} {σ : St} {H : Hp} {s : Shared} {fp : List Addr} (I : Inv X pins σ H s) (hf : ∀ b ∈ fp, Yh X pins H b) (ho : ∀ b ∈ fp, ∃ o, s.heap.get? b = some o ∧ ∀ v, o.data ≠ .cell v) : Inv X (pins ++ ZCf fp s.heap) σ H s :=
 I.pins_of fun p hp => (List.mem_append.mp hp).elim (fun z => I.pin p (List.mem_append_right _ z)) fun z => by
  obtain ⟨hb, e⟩ := ZJY z
  obtain ⟨f0, f1, f2, _⟩ := hf p.1 hb
  obtain ⟨o, e', d⟩ := ho p.1 hb
  rw [e] at e'; cases e'
  exact ⟨e, f0, f1, f2, d⟩
theorem Inv.unpinned {pins pl : List (Addr × Obj)} {σ : St} {H : Hp} {s : Shared} (I : Inv X (pins ++ pl) σ H s) : Inv X pins σ H s := I.pins_of fun p hp => I.pin p (List.mem_append_right _ (List.mem_append_left _ hp))
theorem ZQH {iter : Expr} {body : List Stmt} {wi : TI} {g : TG} {tb : TS} {pos : Pos} (hp : PassesOwn (model X.prog X.w) X.A X.env X.xe) (hc : X.calm = true) (hi : PI X tg iter wi) (hg : PG X tg g) (hb : PSs X body tb)
  (hs : ∀ x, foldedSetIterable iter X.env x = pure x := by intro _; rfl) : PS X (.For tg iter body [] pos) (ZLM wi g tb) := by
 intro pins s σ H D I h
 refine wpAny_For (thn (hi pins s σ H _ I h) fun v s1 h1 => thn h1 fun itv s2 h2 => ?_) hs
 obtain ⟨it, fp, tn, J, H2, e, I2, T, st2, f2, W, ⟨m0, w0⟩, turn⟩ := h2
 subst e
 -- what stays true of the iterator's objects through the loop
 have stat : ∀ {H' : Hp}, (∀ b ∈ fp, H' b = none) → ∀ b ∈ fp, Yh X pins H' b := fun hn b hb => ⟨hn b hb, (f2 b hb).2⟩
 refine codeAny_forLoop_any (fun n s' => ∃ i σ' H', Inv X pins σ' H' s' ∧ tn i s'.heap ∧ (∀ b ∈ fp, H' b = none) ∧ W i n σ' H') ?_ m0 ⟨0, σ, H2, I2, st2, fun b hb => (f2 b hb).1, w0⟩
 rintro n s3 ⟨i, σ3, H3, I3, st3, fr3, w3⟩
 rcases turn i n σ3 H3 w3 with ⟨stop, qn⟩ | ⟨go, N, hN, step⟩
 ·refine wpAny_passesOwn hp (thn (T.done X rfl rfl rfl hc i pins s3 σ3 H3 X.xe I3 (stat fr3) st3 stop) fun r s4 ⟨hr, I4⟩ => ?_)
  subst hr
  exact wpAny_execs_nil ⟨σ3, H3, I4, qn⟩
 ·refine wpAny_passesOwn hp (thn (T.item X rfl rfl rfl hc i pins s3 σ3 H3 X.xe I3 (stat fr3) st3 go) fun r s4 ⟨u, hr, h4⟩ => ?_)
  subst hr
  refine wpAny_passesOwn hp (thn h4 fun _ s5 ⟨x, H5, I5, r5, y5, st5, fr5⟩ => ?_)
  have I5' := I5.pinned (stat fr5) (T.obj _ _ st5)
  refine wpAny_passesOwn hp (thn (hg _ s5 σ3 H5 x u _ I5' r5 (step x H5 y5)) fun _ s6 ⟨σ6, H6, I6, q6⟩ => ?_)
  refine wpAny_passesOwn hp (thn (hb _ s6 σ6 H6 _ I6 q6) fun f s7 q7 => ?_)
  have again : ∀ {σ7 : St} {H7 : Hp}, Inv X (pins ++ ZCf fp s5.heap) σ7 H7 s7 → N σ7 H7 → ∃ m, m < n ∧ ∃ i σ' H', Inv X pins σ' H' s7 ∧ tn i s7.heap ∧ (∀ b ∈ fp, H' b = none) ∧ W i m σ' H' := fun {σ7 H7} I7 n7 => by
   obtain ⟨m', hm, w7⟩ := hN σ7 H7 n7
   refine ⟨m', hm, i + 1, σ7, H7, I7.unpinned, T.keep _ _ _ st5 fun b hb o e => (I7.pin (b, o) (List.mem_append_right _ (List.mem_append_right _ (ZAm hb e)))).1, fun b hb => ?_, w7⟩
   obtain ⟨o, e, d⟩ := T.obj _ _ st5 b hb
   exact (I7.pin (b, o) (List.mem_append_right _ (List.mem_append_right _ (ZAm hb e)))).2.1
  cases f with
  | next => obtain ⟨σ7, H7, I7, n7⟩ := q7; exact again I7 n7
  | cont => obtain ⟨σ7, H7, I7, n7⟩ := q7; exact again I7 n7
  | brk => obtain ⟨σ7, H7, I7, q7⟩ := q7; exact ⟨σ7, H7, I7.unpinned, q7⟩
  | ret v => obtain ⟨x7, σ7, H7, I7, r7, q7⟩ := q7; exact ⟨x7, σ7, H7, I7.unpinned, r7, q7⟩
end
theorem ZLN {K : PySem.W.Frag} {a : Addr} {xs : List V} {g : TG} {tb : TS} {D : Z8} {σ : St} {H : Hp} (Pv : Nat → St → Hp → Prop) (h0 : Pv 0 σ H) (hl : ∀ i σ H, i ≤ xs.length → Pv i σ H → SqL K H a xs)
  (hs : ∀ i x σ H, xs[i]? = some x → Pv i σ H → g x σ H fun σ2 H2 => tb { D with nx := Pv (i + 1), ct := Pv (i + 1), bk := D.nx } σ2 H2) (hd : ∀ σ H, Pv xs.length σ H → D.nx σ H) :
  ∃ W : Nat → Nat → St → Hp → Prop, (∃ m, W 0 m σ H) ∧ ∀ i m σ H, W i m σ H →
   ((Itl K a).stop i H ∧ D.nx σ H) ∨ ((Itl K a).go i H ∧ ∃ N : St → Hp → Prop, (∀ σ' H', N σ' H' → ∃ m', m' < m ∧ W (i + 1) m' σ' H') ∧ ∀ x H', (Itl K a).yld i H x H' → g x σ H' fun σ2 H2 => tb { D with nx := N, ct := N, bk := D.nx } σ2 H2) := by
 refine ⟨fun i m σ H => m = xs.length - i ∧ i ≤ xs.length ∧ Pv i σ H, ⟨xs.length, by simp, Nat.zero_le _, h0⟩, ?_⟩
 rintro i m σ H ⟨rfl, hi, p⟩
 have q := hl i σ H hi p
 by_cases hlt : i < xs.length
 ·refine .inr ⟨⟨xs, xs[i], q, by simp [hlt]⟩, Pv (i + 1), fun σ' H' p' => ⟨xs.length - (i + 1), by omega, rfl, hlt, p'⟩, fun x H' y => ?_⟩
  obtain ⟨e, y⟩ := y
  subst e
  exact hs i x σ _ (y xs q) p
 ·have e : i = xs.length := by omega
  subst e
  exact .inl ⟨⟨xs, q, Nat.le_refl _⟩, hd σ H p⟩
theorem ZNy {K : PySem.W.Frag} {a : Addr} {xs : List V} {g : TG} {tb : TS} {D : Z8} {σ : St} {H : Hp} (Pv : Nat → St → Hp → Prop) (h0 : Pv 0 σ H) (hl : ∀ i σ H, i ≤ xs.length → Pv i σ H → SqT K H a xs)
  (hs : ∀ i x σ H, xs[i]? = some x → Pv i σ H → g x σ H fun σ2 H2 => tb { D with nx := Pv (i + 1), ct := Pv (i + 1), bk := D.nx } σ2 H2) (hd : ∀ σ H, Pv xs.length σ H → D.nx σ H) :
  ∃ W : Nat → Nat → St → Hp → Prop, (∃ m, W 0 m σ H) ∧ ∀ i m σ H, W i m σ H →
   ((Itt K a).stop i H ∧ D.nx σ H) ∨ ((Itt K a).go i H ∧ ∃ N : St → Hp → Prop, (∀ σ' H', N σ' H' → ∃ m', m' < m ∧ W (i + 1) m' σ' H') ∧ ∀ x H', (Itt K a).yld i H x H' → g x σ H' fun σ2 H2 => tb { D with nx := N, ct := N, bk := D.nx } σ2 H2) := by
 refine ⟨fun i m σ H => m = xs.length - i ∧ i ≤ xs.length ∧ Pv i σ H, ⟨xs.length, by simp, Nat.zero_le _, h0⟩, ?_⟩
 rintro i m σ H ⟨rfl, hi, p⟩
 have q := hl i σ H hi p
 by_cases hlt : i < xs.length
 ·refine .inr ⟨⟨xs, xs[i], q, by simp [hlt]⟩, Pv (i + 1), fun σ' H' p' => ⟨xs.length - (i + 1), by omega, rfl, hlt, p'⟩, fun x H' y => ?_⟩
  obtain ⟨e, y⟩ := y
  subst e
  exact hs i x σ _ (y xs q) p
 ·have e : i = xs.length := by omega
  subst e
  exact .inl ⟨⟨xs, q, Nat.le_refl _⟩, hd σ H p⟩
theorem ZJZ {lo : Int} {n : Nat} {g : TG} {tb : TS} {D : Z8} {σ : St} {H : Hp} (Pv : Nat → St → Hp → Prop) (h0 : Pv 0 σ H)
  (hs : ∀ i σ H, i < n → Pv i σ H → g (.int (lo + i)) σ H fun σ2 H2 => tb { D with nx := Pv (i + 1), ct := Pv (i + 1), bk := D.nx } σ2 H2) (hd : ∀ σ H, Pv n σ H → D.nx σ H) :
  ∃ W : Nat → Nat → St → Hp → Prop, (∃ m, W 0 m σ H) ∧ ∀ i m σ H, W i m σ H →
   ((Itr lo n).stop i H ∧ D.nx σ H) ∨ ((Itr lo n).go i H ∧ ∃ N : St → Hp → Prop, (∀ σ' H', N σ' H' → ∃ m', m' < m ∧ W (i + 1) m' σ' H') ∧ ∀ x H', (Itr lo n).yld i H x H' → g x σ H' fun σ2 H2 => tb { D with nx := N, ct := N, bk := D.nx } σ2 H2) := by
 refine ⟨fun i m σ H => m = n - i ∧ i ≤ n ∧ Pv i σ H, ⟨n, by simp, Nat.zero_le _, h0⟩, ?_⟩
 rintro i m σ H ⟨rfl, hi, p⟩
 by_cases hlt : i < n
 ·refine .inr ⟨hlt, Pv (i + 1), fun σ' H' p' => ⟨n - (i + 1), by omega, rfl, hlt, p'⟩, fun x H' y => ?_⟩
  obtain ⟨e, y⟩ := y
  subst e y
  exact hs i σ _ hlt p
 ·have e : i = n := by omega
  subst e
  exact .inl ⟨Nat.le_refl _, hd σ H p⟩
end L2
namespace L2
open PySem PySem.Spec PyProof.Rows
abbrev R2 := V → V → Hp → VK → Prop
def OpR (X : Cx) (f : Value → Value → Sem Value) (r : R2) : Prop :=
 ∀ (pins : List (Addr × Obj)) (s : Shared) (σ : St) (H : Hp) (x y : V) (v u : Value) (Q : VK), Inv X pins σ H s → ZX x v → ZX y u → r x y H Q →
  wpAny (model X.prog X.w) X.A (f v u) (EP X pins σ Q) X.xe s
def UnR (X : Cx) (f : Value → Sem Value) (r : V → Hp → VK → Prop) : Prop :=
 ∀ (pins : List (Addr × Obj)) (s : Shared) (σ : St) (H : Hp) (x : V) (v : Value) (Q : VK), Inv X pins σ H s → ZX x v → r x H Q →
  wpAny (model X.prog X.w) X.A (f v) (EP X pins σ Q) X.xe s
def Z9 (X : Cx) (f : Value) (r : List V → Hp → VK → Prop) : Prop :=
 ∀ (pins : List (Addr × Obj)) (s : Shared) (σ : St) (H : Hp) (xs : List V) (us : List Value) (Q : VK), Inv X pins σ H s → ZV xs us → r xs H Q →
  wpAny (model X.prog X.w) X.A (call f us) (EP X pins σ Q) X.xe s
def tOp (r : R2) (ta tb : TE) : TE := fun σ H Q => ta σ H fun x H1 => tb σ H1 fun y H2 => r x y H2 Q
def tUn (r : V → Hp → VK → Prop) (ta : TE) : TE := fun σ H Q => ta σ H fun x H1 => r x H1 Q
def rI (C : Int → Int → Prop) (g : Int → Int → V) : R2 := fun x y H Q => ∃ i j, x = .int i ∧ y = .int j ∧ C i j ∧ Q (g i j) H
def rI0 (g : Int → Int → V) : R2 := fun x y H Q => ∃ i j, x = .int i ∧ y = .int j ∧ Q (g i j) H
def rU (g : Int → V) : V → Hp → VK → Prop := fun x H Q => ∃ i, x = .int i ∧ Q (g i) H
section
variable {X : Cx} {a b c : Expr} {ta tb tc : TE} {pos : Pos}
theorem ZLO (ha : PE X a ta) (hb : PE X b tb) {pins : List (Addr × Obj)} {s : Shared} {σ : St} {H : Hp} {R : V → V → Hp → Prop} (I : Inv X pins σ H s)
  (h : ta σ H fun x H1 => tb σ H1 fun y H2 => R x y H2) {Q : Value → Shared → Prop} {f : Value → Value → Sem Value}
  (hf : ∀ v u s2 x y H2, Inv X pins σ H2 s2 → ZX x v → ZX y u → R x y H2 → wpAny (model X.prog X.w) X.A (f v u) Q X.xe s2) :
  wpAny (model X.prog X.w) X.A (eval a X.env) (fun v s₁ => wpAny (model X.prog X.w) X.A (eval b X.env) (fun u s₂ => wpAny (model X.prog X.w) X.A (f v u) Q X.xe s₂) X.xe s₁) X.xe s := by
 refine thn (ha pins s σ H _ I h) fun v s1 ⟨x, H1, I1, r1, q1⟩ => ?_
 refine thn (hb pins s1 σ H1 _ I1 q1) fun u s2 ⟨y, H2, I2, r2, q2⟩ => ?_
 exact hf v u s2 x y H2 I2 r1 r2 q2
theorem ZRr {op : Operator} {r : R2} (ho : OpR X (binaryOp op) r) (ha : PE X a ta) (hb : PE X b tb) : PE X (.BinOp a op b pos) (tOp r ta tb) := by
 intro pins s σ H Q I h
 exact wpAny_BinOp (ZLO ha hb I h fun v u s2 x y H2 I2 rx ry q => ho pins s2 σ H2 x y v u Q I2 rx ry q)
theorem ZRs {op : UnaryOp} {r : V → Hp → VK → Prop} (ho : UnR X (unaryOp op) r) (ha : PE X a ta) : PE X (.UnaryOp op a pos) (tUn r ta) := by
 intro pins s σ H Q I h
 exact UnaryOp_ (thn (ha pins s σ H _ I h) fun v s1 ⟨x, H1, I1, r1, q1⟩ => ho pins s1 σ H1 x v Q I1 r1 q1)
theorem opI {f : Value → Value → Sem Value} {C : Int → Int → Prop} {g : Int → Int → Int}
  (rule : ∀ (i j : Int) (t u : Tok) (s : Shared) (Q : Value → Shared → Prop) (E : Value → Shared → Prop), C i j → Q (.int (g i j) s.toks) { s with toks := s.toks + 1 } → wpAny (model X.prog X.w) X.A (f (.int i t) (.int j u)) Q E s) :
  OpR X f (rI C fun i j => .int (g i j)) := by
 intro pins s σ H x y v u Q I rx ry h
 obtain ⟨i, j, rfl, rfl, hc, q⟩ := h
 obtain ⟨t, rfl⟩ := rx
 obtain ⟨t', rfl⟩ := ry
 exact rule i j t t' s _ _ hc ⟨.int (g i j), H, I.tok _, ⟨_, rfl⟩, q⟩
theorem ZLP {f : Value → Value → Sem Value} {g : Int → Int → Int}
  (rule : ∀ (i j : Int) (t u : Tok) (s : Shared) (Q : Value → Shared → Prop) (E : Value → Shared → Prop), Q (.int (g i j) s.toks) { s with toks := s.toks + 1 } → wpAny (model X.prog X.w) X.A (f (.int i t) (.int j u)) Q E s) :
  OpR X f (rI0 fun i j => .int (g i j)) := by
 intro pins s σ H x y v u Q I rx ry h
 obtain ⟨i, j, rfl, rfl, q⟩ := h
 obtain ⟨t, rfl⟩ := rx
 obtain ⟨t', rfl⟩ := ry
 exact rule i j t t' s _ _ ⟨.int (g i j), H, I.tok _, ⟨_, rfl⟩, q⟩
theorem ZIR {f : Value → Value → Sem Value} {g : Int → Int → Bool}
  (rule : ∀ (i j : Int) (t u : Tok) (s : Shared) (Q : Value → Shared → Prop) (E : Value → Shared → Prop), Q (.bool (g i j)) s → wpAny (model X.prog X.w) X.A (f (.int i t) (.int j u)) Q E s) :
  OpR X f (rI0 fun i j => .bl (g i j)) := by
 intro pins s σ H x y v u Q I rx ry h
 obtain ⟨i, j, rfl, rfl, q⟩ := h
 obtain ⟨t, rfl⟩ := rx
 obtain ⟨t', rfl⟩ := ry
 exact rule i j t t' s _ _ ⟨.bl (g i j), H, I, rfl, q⟩
def ZLQ (i j : Int) : Prop := 0 ≤ j ∧ j ≤ 1000000 ∧ i.natAbs < 2 ^ 64
def ZLR (i j : Int) : Prop := (-(2 ^ 64) < i ∧ i < 2 ^ 64) ∨ (-(2 ^ 64) < j ∧ j < 2 ^ 64)
theorem ZLR.ok {i j : Int} (h : ZLR i j) : IntMulOk i j := by
 rcases h with ⟨h1, h2⟩ | ⟨h1, h2⟩
 ·exact .of_left (intBits_le_64 h1 h2)
 ·exact .of_right (intBits_le_64 h1 h2)
theorem YC : OpR X (binaryOp .Add) (rI0 fun i j => .int (i + j)) := ZLP fun _ _ _ _ _ _ _ q => add_int q
theorem Yi : OpR X (binaryOp .Sub) (rI0 fun i j => .int (i - j)) := ZLP fun _ _ _ _ _ _ _ q => sub_int q
theorem ZAb : OpR X (binaryOp .Mod) (rI (fun _ j => 0 < j) fun i j => .int (i % j)) := opI fun i j _ _ _ _ _ hc q => by
 have h1 : (0 : Int) < j := hc
 exact mod_int' (by omega) (by rw [Int.fmod_eq_emod_of_nonneg i (by omega)]; exact q)
theorem Yx : OpR X (binaryOp .Pow) (rI ZLQ fun i j => .int (i ^ j.toNat)) := opI fun _ _ _ _ _ _ _ hc q => pow_int_small hc.1 hc.2.1 hc.2.2 q
theorem ZHo : OpR X (inplaceOp .Add) (rI0 fun i j => .int (i + j)) := ZLP fun _ _ _ _ _ _ _ q => iadd_int q
theorem ZNz : OpR X (inplaceOp .Mult) (rI ZLR fun i j => .int (i * j)) := opI fun _ _ _ _ _ _ _ hc q => imul_int q hc.ok
theorem unI {f : Value → Sem Value} {g : Int → Int}
  (rule : ∀ (i : Int) (t : Tok) (s : Shared) (Q : Value → Shared → Prop) (E : Value → Shared → Prop), Q (.int (g i) s.toks) { s with toks := s.toks + 1 } → wpAny (model X.prog X.w) X.A (f (.int i t)) Q E s) :
  UnR X f (rU fun i => .int (g i)) := by
 intro pins s σ H x v Q I rx h
 obtain ⟨i, rfl, q⟩ := h
 obtain ⟨t, rfl⟩ := rx
 exact rule i t s _ _ ⟨.int (g i), H, I.tok _, ⟨_, rfl⟩, q⟩
theorem ZAy : UnR X (unaryOp .USub) (rU fun i => .int (-i)) := unI fun _ _ _ _ _ q => neg_int q
end
def ZQI : V → V → Bool
 | .non, .non => true | .non, .int _ => true | .int _, .non => true | .non, .bl _ => true | .bl _, .non => true | .non, .str _ => true | .str _, .non => true
 | .int _, .int _ => true | .bl _, .bl _ => true | .str _, .str _ => true | .byt _, .byt _ => true
 | .int _, .str _ => true | .str _, .int _ => true | .bl _, .str _ => true | .str _, .bl _ => true
 | _, _ => false
def rEq : R2 := fun x y H Q => ZQI x y = true ∧ Q (.bl (decide (x = y))) H
def rNe : R2 := fun x y H Q => ZQI x y = true ∧ Q (.bl (!decide (x = y))) H
theorem ZHp {i j : Int} : decide (V.int i = V.int j) = (i == j) := by
 rw [Bool.eq_iff_iff]
 simp
theorem ZJa {i j : Bool} : decide (V.bl i = V.bl j) = (i == j) := by
 rw [Bool.eq_iff_iff]
 simp
theorem ZHq {i j : Str} : decide (V.str i = V.str j) = (i == j) := by
 rw [Bool.eq_iff_iff]
 simp
theorem ZHr {i j : Array UInt8} : decide (V.byt i = V.byt j) = (i.toList == j.toList) := by
 rw [Bool.eq_iff_iff]
 cases i
 cases j
 simp
section
variable {X : Cx} {a b c : Expr} {ta tb tc : TE} {pos : Pos}
theorem Zs {pins : List (Addr × Obj)} {σ : St} {H : Hp} {s : Shared} {Q : VK} {k k' : Bool} (I : Inv X pins σ H s) (q : Q (.bl k) H) (e : k = k') : EP X pins σ Q (.bool k') s := by
 subst e
 exact ⟨.bl k, H, I, rfl, q⟩
theorem YG : OpR X (compareOp .Eq) rEq := by
 intro pins s σ H x y v u Q I rx ry h
 obtain ⟨hs, q⟩ := h
 cases x with
 | non =>
  cases rx
  cases y with
  | non => cases ry; exact PySem.EqNone.eq_none_none (Zs I q (by simp))
  | bl j => cases ry; exact PySem.EqNone.eq_none_bool (Zs I q (by simp))
  | int j => obtain ⟨t', rfl⟩ := ry; exact PySem.EqNone.eq_none_int (Zs I q (by simp))
  | str j => obtain ⟨t', rfl⟩ := ry; exact PySem.EqNone.eq_none_str (Zs I q (by simp))
  | _ => exact absurd (show false = true from hs) Bool.false_ne_true
 | bl i =>
  cases rx
  cases y with
  | non => cases ry; exact PySem.EqNone.eq_bool_none (Zs I q (by simp))
  | bl j => cases ry; exact eq_bool (Zs I q ZJa)
  | str j => obtain ⟨t', rfl⟩ := ry; exact PySem.EqMixed.eq_bool_str (Zs I q (by simp))
  | _ => exact absurd (show false = true from hs) Bool.false_ne_true
 | int i =>
  obtain ⟨t, rfl⟩ := rx
  cases y with
  | non => cases ry; exact PySem.EqNone.eq_int_none (Zs I q (by simp))
  | int j => obtain ⟨t', rfl⟩ := ry; exact eq_int (Zs I q ZHp)
  | str j => obtain ⟨t', rfl⟩ := ry; exact PySem.EqMixed.eq_int_str (Zs I q (by simp))
  | _ => exact absurd (show false = true from hs) Bool.false_ne_true
 | str i =>
  obtain ⟨t, rfl⟩ := rx
  cases y with
  | non => cases ry; exact PySem.EqNone.eq_str_none (Zs I q (by simp))
  | bl j => cases ry; exact PySem.EqMixed.eq_str_bool (Zs I q (by simp))
  | int j => obtain ⟨t', rfl⟩ := ry; exact PySem.EqMixed.eq_str_int (Zs I q (by simp))
  | str j => obtain ⟨t', rfl⟩ := ry; exact eq_str (Zs I q ZHq)
  | _ => exact absurd (show false = true from hs) Bool.false_ne_true
 | byt i =>
  obtain ⟨t, rfl⟩ := rx
  cases y with
  | byt j => obtain ⟨t', rfl⟩ := ry; exact PySem.W.eq_bytes (Zs I q ZHr)
  | _ => exact absurd (show false = true from hs) Bool.false_ne_true
 | _ => cases y <;> exact absurd (show false = true from hs) Bool.false_ne_true
theorem ZRt : OpR X (compareOp .NotEq) rNe := by
 intro pins s σ H x y v u Q I rx ry h
 obtain ⟨hs, q⟩ := h
 cases x with
 | non =>
  cases rx
  cases y with
  | non => cases ry; exact PySem.EqNone.ne_none_none (Zs I q (by simp))
  | bl j => cases ry; exact PySem.EqNone.ne_none_bool (Zs I q (by simp))
  | int j => obtain ⟨t', rfl⟩ := ry; exact PySem.EqNone.ne_none_int (Zs I q (by simp))
  | str j => obtain ⟨t', rfl⟩ := ry; exact PySem.EqNone.ne_none_str (Zs I q (by simp))
  | _ => exact absurd (show false = true from hs) Bool.false_ne_true
 | bl i =>
  cases rx
  cases y with
  | non => cases ry; exact PySem.EqNone.ne_bool_none (Zs I q (by simp))
  | bl j => cases ry; exact ne_bool (Zs I q (congrArg not ZJa))
  | str j => obtain ⟨t', rfl⟩ := ry; exact PySem.EqMixed.ne_bool_str (Zs I q (by simp))
  | _ => exact absurd (show false = true from hs) Bool.false_ne_true
 | int i =>
  obtain ⟨t, rfl⟩ := rx
  cases y with
  | non => cases ry; exact PySem.EqNone.ne_int_none (Zs I q (by simp))
  | int j => obtain ⟨t', rfl⟩ := ry; exact ne_int (Zs I q (congrArg not ZHp))
  | str j => obtain ⟨t', rfl⟩ := ry; exact PySem.EqMixed.ne_int_str (Zs I q (by simp))
  | _ => exact absurd (show false = true from hs) Bool.false_ne_true
 | str i =>
  obtain ⟨t, rfl⟩ := rx
  cases y with
  | non => cases ry; exact PySem.EqNone.ne_str_none (Zs I q (by simp))
  | bl j => cases ry; exact PySem.EqMixed.ne_str_bool (Zs I q (by simp))
  | int j => obtain ⟨t', rfl⟩ := ry; exact PySem.EqMixed.ne_str_int (Zs I q (by simp))
  | str j => obtain ⟨t', rfl⟩ := ry; exact ne_str (Zs I q (congrArg not ZHq))
  | _ => exact absurd (show false = true from hs) Bool.false_ne_true
 | byt i =>
  obtain ⟨t, rfl⟩ := rx
  cases y with
  | byt j => obtain ⟨t', rfl⟩ := ry; exact PySem.W.ne_bytes (Zs I q (congrArg not ZHr))
  | _ => exact absurd (show false = true from hs) Bool.false_ne_true
 | _ => cases y <;> exact absurd (show false = true from hs) Bool.false_ne_true
theorem ZDA : OpR X (compareOp .Lt) (rI0 fun i j => .bl (decide (i < j))) := ZIR fun _ _ _ _ _ _ _ q => lt_int q
theorem ZAn : OpR X (compareOp .LtE) (rI0 fun i j => .bl (decide (i ≤ j))) := ZIR fun _ _ _ _ _ _ _ q => le_int q
theorem ZD9 : OpR X (compareOp .Gt) (rI0 fun i j => .bl (decide (j < i))) := ZIR fun _ _ _ _ _ _ _ q => gt_int q
theorem ZNS : OpR X (compareOp .GtE) (rI0 fun i j => .bl (decide (j ≤ i))) := ZIR fun _ _ _ _ _ _ _ q => ge_int q
theorem ZQJ : OpR X (compareOp .Is) (fun x y H Q => y = .non ∧ Q (.bl (decide (x = .non))) H) := by
 intro pins s σ H x y v u Q I rx ry h
 obtain ⟨rfl, q⟩ := h
 cases ry
 refine is_none_gen (Zs I q ?_)
 cases x <;> first
  | (cases rx; rfl)
  | (obtain ⟨t, rfl⟩ := rx; rfl)
theorem ZN0 : OpR X (compareOp .IsNot) (fun x y H Q => y = .non ∧ Q (.bl (!decide (x = .non))) H) := by
 intro pins s σ H x y v u Q I rx ry h
 obtain ⟨rfl, q⟩ := h
 cases ry
 refine isnot_none_gen (Zs I q ?_)
 cases x <;> first
  | (cases rx; rfl)
  | (obtain ⟨t, rfl⟩ := rx; rfl)
theorem OpR.or {f : Value → Value → Sem Value} {r r' : R2} (h : OpR X f r) (h' : OpR X f r') : OpR X f (fun x y H Q => r x y H Q ∨ r' x y H Q) := by
 intro pins s σ H x y v u Q I rx ry q
 rcases q with q | q
 ·exact h pins s σ H x y v u Q I rx ry q
 ·exact h' pins s σ H x y v u Q I rx ry q
theorem Zb (b : Expr) {op : CmpOp} (h : op ≠ .In := by decide) (h2 : op ≠ .NotIn := by decide) : behindInMarks op b = false := by
 have e1 : (op == CmpOp.In) = false := by cases op <;> first | rfl | exact absurd rfl h
 have e2 : (op == CmpOp.NotIn) = false := by cases op <;> first | rfl | exact absurd rfl h2
 cases b <;> simp [behindInMarks, e1, e2]
theorem ZN1 {op : CmpOp} {r : R2} (ho : OpR X (compareOp op) r) (ha : PE X a ta) (hb : PE X b tb) (hm : behindInMarks op b = false) : PE X (.Compare a [op] [b] pos) (tOp r ta tb) := by
 intro pins s σ H Q I h
 exact wpAny_Compare1 (ZLO ha hb I h fun v u s2 x y H2 I2 rx ry q => ho pins s2 σ H2 x y v u Q I2 rx ry q) hm
def ZEA (t : TE) : TT := fun σ H Q => t σ H fun x H' => ∃ k, x = .bl k ∧ Q k H'
theorem ZN2 {op : CmpOp} {r : R2} (ho : OpR X (compareOp op) r) (ha : PE X a ta) (hb : PE X b tb) (hm : behindInMarks op b = false) : PT X (.Compare a [op] [b] pos) (ZEA (tOp r ta tb)) := by
 intro pins s σ H Q I h
 refine wpAny_isTrue_Compare1 (thn (ha pins s σ H _ I h) fun v s1 ⟨x, H1, I1, r1, q1⟩ => thn (hb pins s1 σ H1 _ I1 q1) fun u s2 ⟨y, H2, I2, r2, q2⟩ =>
  thn (ho pins s2 σ H2 x y v u _ I2 r1 r2 q2) fun c s3 ⟨z, H3, I3, r3, k, e, q3⟩ => ?_) hm
 subst e
 cases r3
 exact wpAny_truthy_bool ⟨H3, I3, q3⟩
def ZCg (r r' : R2) (ta tb tc : TE) : TE := fun σ H Q => ta σ H fun x H1 => tb σ H1 fun y H2 => r x y H2 fun z H3 => ∃ k, z = .bl k ∧
 (if k = true then tc σ H3 fun w' H4 => r' y w' H4 Q else Q (.bl false) H3)
theorem ZLS {op op' : CmpOp} {r r' : R2} (ho : OpR X (compareOp op) r) (ho' : OpR X (compareOp op') r') (ha : PE X a ta) (hb : PE X b tb) (hc : PE X c tc)
  (hm : lastMarks [op, op'] [b, c] = false := by with_unfolding_all rfl) : PE X (.Compare a [op, op'] [b, c] pos) (ZCg r r' ta tb tc) := by
 intro pins s σ H Q I h
 refine Compare_chain (thn (ha pins s σ H _ I h) fun v s1 ⟨x, H1, I1, r1, q1⟩ => chain_link (thn (hb pins s1 σ H1 _ I1 q1) fun u s2 ⟨y, H2, I2, r2, q2⟩ =>
  thn (ho pins s2 σ H2 x y v u _ I2 r1 r2 q2) fun d s3 ⟨z, H3, I3, r3, k, e, q3⟩ => ?_)) hm
 subst e
 cases r3
 refine wpAny_truthy_bool ?_
 cases k with
 | false => exact ite_ff ⟨.bl false, H3, I3, rfl, q3⟩
 | true => exact ite_tt (chain_last (thn (hc pins s3 σ H3 _ I3 q3) fun w' s4 ⟨z', H4, I4, r4, q4⟩ => ho' pins s4 σ H4 y z' u w' Q I4 r2 r4 q4))
theorem ZLT {op op' : CmpOp} {r r' : R2} (ho : OpR X (compareOp op) r) (ho' : OpR X (compareOp op') r') (ha : PE X a ta) (hb : PE X b tb) (hc : PE X c tc)
  (hm : lastMarks [op, op'] [b, c] = false := by with_unfolding_all rfl) : PT X (.Compare a [op, op'] [b, c] pos) (ZEA (ZCg r r' ta tb tc)) := by
 intro pins s σ H Q I h
 refine isTrue_chain (thn (ha pins s σ H _ I h) fun v s1 ⟨x, H1, I1, r1, q1⟩ => test_link (thn (hb pins s1 σ H1 _ I1 q1) fun u s2 ⟨y, H2, I2, r2, q2⟩ =>
  thn (ho pins s2 σ H2 x y v u _ I2 r1 r2 q2) fun d s3 ⟨z, H3, I3, r3, k, e, q3⟩ => ?_)) hm
 subst e
 cases r3
 refine wpAny_truthy_bool ?_
 cases k with
 | false =>
  obtain ⟨k', e', q'⟩ := q3
  cases e'
  exact ite_ff ⟨H3, I3, q'⟩
 | true =>
  refine ite_tt (test_last (thn (hc pins s3 σ H3 _ I3 q3) fun w' s4 ⟨z', H4, I4, r4, q4⟩ => thn (ho' pins s4 σ H4 y z' u w' _ I4 r2 r4 q4) fun d' s5 ⟨z2, H5, I5, r5, k2, e2, q5⟩ => ?_))
  subst e2
  cases r5
  exact wpAny_truthy_bool ⟨H5, I5, q5⟩
theorem ZCh : (sizeLine : Nat) < 2 ^ 63 := by rw [sizeLine_eq]; decide
theorem ZFo {x : V} {us : List Value} (r : ZV [x] us) : ∃ u, us = [u] ∧ ZX x u := by
 cases r with
 | cons r1 r2 => cases r2; exact ⟨_, rfl, r1⟩
theorem ZIS {x y : V} {us : List Value} (r : ZV [x, y] us) : ∃ u w', us = [u, w'] ∧ ZX x u ∧ ZX y w' := by
 cases r with
 | cons r1 r2 =>
  cases r2 with
  | cons r3 r4 => cases r4; exact ⟨_, _, rfl, r1, r3⟩
theorem ZLU : Z9 X (.builtin "abs") (fun xs H Q => ∃ i, xs = [.int i] ∧ Q (.int (if i < 0 then -i else i)) H) := by
 intro pins s σ H xs us Q I r h
 obtain ⟨i, rfl, q⟩ := h
 obtain ⟨u, rfl, t, rfl⟩ := ZFo r
 exact call_abs_int fun u tk => ⟨.int (if i < 0 then -i else i), H, I.tok _, ⟨_, rfl⟩, q⟩
theorem ZJb (hc : X.calm = true) : Z9 X (.builtin "max") (fun xs H Q => ∃ i j, xs = [.int i, .int j] ∧ Q (.int (if j > i then j else i)) H) := by
 intro pins s σ H xs us Q I r h
 obtain ⟨i, j, rfl, q⟩ := h
 obtain ⟨u, w', rfl, ⟨t, rfl⟩, ⟨t', rfl⟩⟩ := ZIS r
 refine max_two_ints (I.ok.hd hc) fun h' tk k => ⟨_, H, I.kept k, ?_, q⟩
 by_cases hj : j > i
 ·rw [if_pos hj, if_pos hj]; exact ⟨_, rfl⟩
 ·rw [if_neg hj, if_neg hj]; exact ⟨_, rfl⟩
theorem ZJc (hc : X.calm = true) : Z9 X (.builtin "min") (fun xs H Q => ∃ i j, xs = [.int i, .int j] ∧ Q (.int (if j < i then j else i)) H) := by
 intro pins s σ H xs us Q I r h
 obtain ⟨i, j, rfl, q⟩ := h
 obtain ⟨u, w', rfl, ⟨t, rfl⟩, ⟨t', rfl⟩⟩ := ZIS r
 refine min_two_ints (I.ok.hd hc) fun h' tk k => ⟨_, H, I.kept k, ?_, q⟩
 by_cases hj : j < i
 ·rw [if_pos hj, if_pos hj]; exact ⟨_, rfl⟩
 ·rw [if_neg hj, if_neg hj]; exact ⟨_, rfl⟩
end
end L2
namespace L2
open PySem PySem.Spec PyProof.Rows
structure ZDf (h : Heap) (x dx C : Addr) (mA : Str → Option Value) : Prop where
 obj : h.get? x = some (PySem.W.instObj C dx)
 ns : h.Ns1 dx mA
 ne : dx ≠ x
theorem ZJd {h : Heap} {dx : Addr} {mA : Str → Option Value} (n : h.Ns1 dx mA) : ∃ od, h.get? dx = some od ∧ ∀ name, PySem.W.lookIn name od = some (mA name) := by
 obtain ⟨o, es, ep, ho, hd, hk, _, hm⟩ := n
 refine ⟨o, ho, fun name => ?_⟩
 have e := hm name
 unfold nsFind findBy at e
 rw [← Array.find?_toList] at e
 unfold PySem.W.lookIn
 rw [hd]
 dsimp only
 split
 ·rename_i y q
  rw [q] at e
  exact congrArg some e
 ·rename_i q
  rw [q] at e
  have a : es.toList.any (·.refKey) = false := by
   rw [List.any_eq_false]
   intro y hy
   obtain ⟨z, t, hkey⟩ := hk y (Array.mem_toList_iff.mp hy)
   simp [DictEntry.refKey, hkey]
  have a' : ¬ es.toList.any (·.refKey) = true := by rw [a]; exact Bool.false_ne_true
  rw [if_neg a']
  exact congrArg some e
theorem ZDf.look {h : Heap} {x dx C : Addr} {mA : Str → Option Value} (I : ZDf h x dx C mA) : ∃ od, PySem.W.InstAt h x (PySem.W.instObj C dx) C (some od) ∧ ∀ name, PySem.W.lookIn name od = some (mA name) :=
 let ⟨od, ho, hl⟩ := ZJd I.ns
 ⟨od, ⟨I.obj, rfl, rfl, ho⟩, hl⟩
section
variable {prog : Program} {w : World} {A : Around} {E : Value → Shared → Prop} {s : Shared} {K : PySem.W.Frag} {x dx C f : Addr} {mA : Str → Option Value} {name : Str} {v : Value}
theorem ZN3 {expr : Bool} {Q : Value → Shared → Prop} (X : K.In s.heap) (I : ZDf s.heap x dx C mA) (hg : PySem.W.plainGet K C name = true) (hh : PySem.W.hasDictIn K C = true)
  (ha : PySem.W.findIn K (.ref C) name = some none) (hv : mA name = some v) (hv' : PySem.W.handedIn v = true) (h : Q v { s with toks := s.toks + 1 }) :
  wpAny (model prog w) A (getAttr (.ref x) name expr) Q E s := by
 obtain ⟨od, J, hl⟩ := I.look
 exact PySem.W.get_value X J (PySem.W.plainGet_of hg).1 (PySem.W.findObj_own hh ha rfl (by rw [hl, hv])) hv' h
theorem ZLV {pl : Sem Bool} {Q : Value × List Value → Shared → Prop} (X : K.In s.heap) (I : ZDf s.heap x dx C mA) (hg : PySem.W.plainGet K C name = true)
  (hf : PySem.W.findIn K (.ref C) name = some (some (.ref f))) (ht : PySem.W.isFn K (.ref f) = true) (hv : mA name = none) (h : Q (.ref f, [.ref x]) s) :
  wpAny (model prog w) A (getMethod (.ref x) name pl) Q E s := by
 obtain ⟨od, J, hl⟩ := I.look
 exact PySem.W.method_fn X J (PySem.W.plainGet_of hg).1 (PySem.W.plainGet_of hg).2 hf (beq_iff_eq.mp ht) (by show (PySem.W.lookIn name od).map (·.isSome) = some false; rw [hl, hv]; rfl) h
theorem ZN4 {ns : List Str} {Q : Unit → Shared → Prop} (X : K.In s.heap) (I : ZDf s.heap x dx C mA)
  (hs : PySem.W.findIn K (.ref C) "__setattr__" = some (some (.builtin "object.__setattr__"))) (hp : PySem.W.plainOver K C = true) (ht : PySem.W.takerIn K C name = some none) (hh : PySem.W.hasDictIn K C = true)
  (hw : PySem.Within mA ns) (hsz : ns.length ≤ sizeLine)
  (h : ∀ h', ZDf h' x dx C (fun y => if y = name then some v else mA y) → Heap.SameBut dx s.heap h' → Q () { s with heap := h', toks := s.toks + 2 }) :
  wpAny (model prog w) A (setAttr (.ref x) name v) Q E s := by
 obtain ⟨od, J, hl⟩ := I.look
 refine PySem.W.set_plain X J hs (PySem.W.osa_open (s := { s with toks := s.toks + 1 }) (r := none) X J hp ht fun b => ?_)
 obtain ⟨cd, hc, hd'⟩ := PySem.W.any_some hh
 have hx : s.heap.get? x = some ⟨.ref C, some dx, .plain, #[]⟩ := I.obj
 refine wpAny_bind (wpAny_pure (wpAny_bind (wpAny_bind (wpAny_loadPart hx (wpAny_bind (PySem.W.Looks.here (s := { s with toks := s.toks + 1 }) (PySem.W.looks_clsIn X hc) ?_))))))
 rw [hd']
 refine wpAny_pure (a := some dx) (wpAny_bind (wpAny_pure (wpAny_bind ?_)))
 refine wpAny_nsSet1 (s := { s with toks := s.toks + 1 }) I.ns fun h' hn2 hs2 => ?_
 obtain ⟨oD, esD, epD, hoD, hdD, hcD⟩ := hn2.count (PySem.Within.cons name v hw)
 refine wpAny_bind (wpAny_lookBehind hoD (by rw [hdD]; exact pastItsLine_dict (Nat.le_trans hcD (by rw [List.length_cons]; omega))) ?_)
 exact wpAny_pure (h _ ⟨(hs2.2 _ (Ne.symm I.ne)).trans I.obj, hn2, I.ne⟩ hs2)
theorem ZLW {R : Result → Shared → Prop} {vs : List Value} {kw : List (Str × Value)} (X : K.In s.heap) (hm : PySem.W.makesIn K C = true)
  (hi : PySem.W.findIn K (.ref C) "__init__" = some (some (.ref f))) (hf : PySem.W.typeIn K (.ref f) = some (.type "function"))
  (h : codeAny (model prog w) (A.under (.builtin "type.__call__" ⟨.ref C :: vs, kw⟩)) (.call (.ref f) ⟨.ref (s.heap.objs.size + 1) :: vs, kw⟩) (PySem.W.InitBack (s.heap.objs.size + 1) R)
   { s with heap := (s.heap.push PySem.W.emptyDict).push (PySem.W.instObj C s.heap.objs.size) }) :
  codeAny (model prog w) A (.call (.ref C) ⟨vs, kw⟩) R s := by
 obtain ⟨hh, g, d, t, os⟩ := s
 exact PySem.W.make_core (PySem.W.makes_of X hm) (PySem.W.looks_findIn X hi) (fun self => PySem.W.bind_fn X self hf) (.inl rfl) h
end
def Zn (f : Str) (v : V) : List (Str × V) → List (Str × V)
 | [] => [(f, v)]
 | (g, x) :: r => if g = f then (g, v) :: r else (g, x) :: Zn f v r
theorem ZDP (f g : Str) (v : V) : ∀ fs : List (Str × V), (Zn f v fs).lookup g = if g = f then some v else fs.lookup g
 | [] => by
  show List.lookup g [(f, v)] = _
  by_cases h : g = f
  ·have hb : (g == f) = true := beq_iff_eq.mpr h
   simp only [List.lookup, hb, if_pos h]
  ·have hb : (g == f) = false := beq_eq_false_iff_ne.mpr h
   simp only [List.lookup, hb, if_neg h]
 | (k, x) :: r => by
  have ih := ZDP f g v r
  rw [show Zn f v ((k, x) :: r) = (if k = f then (k, v) :: r else (k, x) :: Zn f v r) from rfl]
  by_cases hk : k = f
  ·rw [if_pos hk]
   by_cases h : g = k
   ·have hb : (g == k) = true := beq_iff_eq.mpr h
    simp only [List.lookup, hb, if_pos (h.trans hk)]
   ·have hb : (g == k) = false := beq_eq_false_iff_ne.mpr h
    simp only [List.lookup, hb, if_neg (fun e : g = f => h (e.trans hk.symm))]
  ·rw [if_neg hk]
   by_cases h : g = k
   ·have hb : (g == k) = true := beq_iff_eq.mpr h
    simp only [List.lookup, hb, if_neg (fun e : g = f => hk (h.symm.trans e))]
   ·have hb : (g == k) = false := beq_eq_false_iff_ne.mpr h
    simp only [List.lookup, hb]
    exact ih
theorem ZCi (f : Str) (v : V) : ∀ fs : List (Str × V), f ∈ (Zn f v fs).map (·.1) ∧ ∀ g, g ∈ fs.map (·.1) → g ∈ (Zn f v fs).map (·.1)
 | [] => ⟨by simp [Zn], fun g h => by simp at h⟩
 | (k, x) :: r => by
  obtain ⟨i1, i2⟩ := ZCi f v r
  rw [show Zn f v ((k, x) :: r) = (if k = f then (k, v) :: r else (k, x) :: Zn f v r) from rfl]
  by_cases hk : k = f
  ·rw [if_pos hk]
   subst hk
   exact ⟨by simp, fun g h => by simpa using h⟩
  ·rw [if_neg hk]
   refine ⟨?_, fun g h => ?_⟩
   ·rw [List.map_cons]
    exact List.mem_cons_of_mem _ i1
   ·rw [List.map_cons] at h ⊢
    rcases List.mem_cons.mp h with e | e
    ·exact List.mem_cons.mpr (.inl e)
    ·exact List.mem_cons_of_mem _ (i2 g e)
theorem ZDQ (f : Str) (v : V) : ∀ fs : List (Str × V), (Zn f v fs).length ≤ fs.length + 1
 | [] => by simp [Zn]
 | (k, x) :: r => by
  have ih := ZDQ f v r
  rw [show Zn f v ((k, x) :: r) = (if k = f then (k, v) :: r else (k, x) :: Zn f v r) from rfl]
  by_cases hk : k = f
  ·rw [if_pos hk, List.length_cons, List.length_cons]; omega
  ·rw [if_neg hk, List.length_cons, List.length_cons]; omega
theorem Y1.some_of {v : V} {o : Option Value} (r : Y1 (some v) o) : ∃ u, o = some u ∧ ZX v u := by
 cases o with
 | none => exact (show False from r).elim
 | some u => exact ⟨u, rfl, r⟩
theorem Y1.none_of {o : Option Value} (r : Y1 none o) : o = none := by
 cases o with
 | none => rfl
 | some u => exact (show False from r).elim
theorem ZJe {v : V} {u : Value} (r : ZX v u) : PySem.W.handedIn u = true := by
 cases v with
 | non => cases (show u = Value.none from r); rfl
 | bl b => cases (show u = Value.bool b from r); rfl
 | int i => obtain ⟨t, e⟩ := (show ∃ t, u = Value.int i t from r); cases e; rfl
 | str x => obtain ⟨t, e⟩ := (show ∃ t, u = Value.str x t from r); cases e; rfl
 | byt b => obtain ⟨t, e⟩ := (show ∃ t, u = Value.bytes b t from r); cases e; rfl
 | flt b => obtain ⟨t, e⟩ := (show ∃ t, u = Value.float b t from r); cases e; rfl
 | ref a => cases (show u = Value.ref a from r); rfl
 | ty n => cases (show u = Value.type n from r); rfl
section
variable {P : Program} {w : World} {H H' : Hp} {h h' : Heap} {a C dx : Addr} {fs fs' : List (Str × V)}
theorem ZDB (hok : HOk P w H h) (e : H a = some (.ins C dx fs)) : ∃ mA, ZDf h a dx C mA ∧ (∀ f, Y1 (fs.lookup f) (mA f)) ∧ PySem.Within mA (fs.map (·.1)) ∧ fs.length ≤ 1000 ∧ H dx = some (.own a) := by
 obtain ⟨d, z, ne, ob, mA, n, r, q⟩ := (show Zz P w H h a (.ins C dx fs) from hok a _ e)
 exact ⟨mA, ⟨ob, n, ne⟩, r, q, z, d⟩
end
structure Cls (K : PySem.W.Frag) (C : Addr) : Prop where
 pg : PySem.W.plainGet K C Str.empty = true
 hd : PySem.W.hasDictIn K C = true
 po : PySem.W.plainOver K C = true
 sa : PySem.W.findIn K (.ref C) "__setattr__" = some (some (.builtin "object.__setattr__"))
theorem Cls.get {K : PySem.W.Frag} {C : Addr} (c : Cls K C) (f : Str) : PySem.W.plainGet K C f = true := c.pg
def YD (K : PySem.W.Frag) (C : Addr) (f : Str) : Prop := PySem.W.findIn K (.ref C) f = some none
theorem YD.taker {K : PySem.W.Frag} {C : Addr} {f : Str} (n : YD K C f) : PySem.W.takerIn K C f = some none := by
 unfold PySem.W.takerIn
 rw [show PySem.W.findIn K (.ref C) f = some none from n]
 rfl
structure YV (K : PySem.W.Frag) (C : Addr) (m : Str) (f : Addr) : Prop where
 at_ : PySem.W.findIn K (.ref C) m = some (some (.ref f))
 fn : PySem.W.isFn K (.ref f) = true
 kp : PySem.W.keepIn K (.ref f) = true
section
variable {X : Cx} {pins : List (Addr × Obj)} {σ : St} {H : Hp} {s : Shared} {a C dx : Addr} {fs : List (Str × V)} {f : Str} {v : V} {A : Around} {E : Value → Shared → Prop}
theorem ZEB {b : Bool} {Q : Value → Shared → Prop} (I : Inv X pins σ H s) (e : H a = some (.ins C dx fs)) (c : Cls X.K C) (n : YD X.K C f) (l : fs.lookup f = some v)
  (h : ∀ u s', Inv X pins σ H s' → ZX v u → Q u s') : wpAny (model X.prog X.w) A (getAttr (.ref a) f b) Q E s := by
 obtain ⟨mA, O, r, _, _, _⟩ := ZDB I.hok e
 obtain ⟨u, hu, ru⟩ := Y1.some_of (v := v) (o := mA f) (by rw [← l]; exact r f)
 exact ZN3 I.kIn O (c.get f) c.hd n hu (ZJe ru) (h u _ (I.tok _) ru)
theorem ZEC {m : Str} {g : Addr} {pl : Sem Bool} {Q : Value × List Value → Shared → Prop} (I : Inv X pins σ H s) (e : H a = some (.ins C dx fs)) (c : Cls X.K C) (k : YV X.K C m g) (l : fs.lookup m = none)
  (h : Q (.ref g, [.ref a]) s) : wpAny (model X.prog X.w) A (getMethod (.ref a) m pl) Q E s := by
 obtain ⟨mA, O, r, _, _, _⟩ := ZDB I.hok e
 have hn : mA m = none := Y1.none_of (by rw [← l]; exact r m)
 exact ZLV I.kIn O (c.get m) k.at_ k.fn hn h
theorem ZED {y : V} {u : Value} {Q : Unit → Shared → Prop} (I : Inv X pins σ H s) (e : H a = some (.ins C dx fs)) (c : Cls X.K C) (n : YD X.K C f) (hl : fs.length < 1000) (ry : ZX y u)
  (h : ∀ s', Inv X pins σ (upd H a (.ins C dx (Zn f y fs))) s' → Q () s') : wpAny (model X.prog X.w) A (setAttr (.ref a) f u) Q E s := by
 obtain ⟨mA, O, r, wi, _, ho⟩ := ZDB I.hok e
 have hz : (fs.map (·.1)).length ≤ sizeLine := by rw [List.length_map, sizeLine_eq]; omega
 refine ZN4 I.kIn O c.sa c.po n.taker c.hd wi hz fun h' O' sb => h _ ?_
 have hd : ∃ o, h'.get? dx = some o := let ⟨o, _, _, e', _⟩ := O'.ns; ⟨o, e'⟩
 refine I.write (x := a) (e := dx) (by rw [e]; exact True.intro) (.inr ho) (fun b q hb z => (sb.2 b hb).trans z) hd ?_
 refine ⟨by rw [Za O.ne]; exact ho, ?_, O.ne, O'.obj, _, O'.ns, fun g => ?_, fun g hg => ?_⟩
 ·have := ZDQ f y fs; omega
 ·show Y1 ((Zn f y fs).lookup g) (if g = f then some u else mA g)
  rw [ZDP]
  by_cases q : g = f
  ·rw [if_pos q, if_pos q]; exact ry
  ·rw [if_neg q, if_neg q]; exact r g
 ·by_cases q : g = f
  ·rw [q]; exact (ZCi f y fs).1
  ·refine (ZCi f y fs).2 g (wi g fun z => hg ?_)
   show (if g = f then some u else mA g) = none
   rw [if_neg q]; exact z
theorem Inv.made (I : Inv X pins σ H s) : Inv X pins σ (upd (upd H s.heap.objs.size (.own (s.heap.objs.size + 1))) (s.heap.objs.size + 1) (.ins C s.heap.objs.size []))
  { s with heap := (s.heap.push PySem.W.emptyDict).push (PySem.W.instObj C s.heap.objs.size) } := by
 have e1 : (s.heap.push PySem.W.emptyDict).get? s.heap.objs.size = some PySem.W.emptyDict := Heap.get?_push_size s.heap rfl
 have e2 : ((s.heap.push PySem.W.emptyDict).push (PySem.W.instObj C s.heap.objs.size)).get? (s.heap.objs.size + 1) = some (PySem.W.instObj C s.heap.objs.size) := by
  have := Heap.get?_push_size (s.heap.push PySem.W.emptyDict) (o := PySem.W.instObj C s.heap.objs.size) rfl
  rwa [Heap.size_push] at this
 have e3 : (s.heap.push PySem.W.emptyDict).Ns s.heap.objs.size (fun _ => none) := ⟨PySem.W.emptyDict, #[], _, e1, rfl, (fun e he => absurd he (by simp)), fun _ => rfl⟩
 have I1 := I.laid (a := s.heap.objs.size) (o := .own (s.heap.objs.size + 1)) (h' := s.heap.push PySem.W.emptyDict) (t' := s.toks) (fun b u q => Heap.get?_push_of_some _ q) (Nat.le_refl _) ⟨_, e1⟩
 refine I1.laid (a := s.heap.objs.size + 1) (o := .ins C s.heap.objs.size []) (t' := s.toks) (fun b u q => Heap.get?_push_of_some _ q) (Nat.le_of_eq (Heap.size_push _ _)) ?_
 have ne : s.heap.objs.size ≠ s.heap.objs.size + 1 := Nat.ne_of_lt (Nat.lt_succ_self _)
 refine ⟨by rw [Za ne, ZS], Nat.zero_le _, ne, e2, fun _ => none, (Heap.Ns1.of_empty e3).at fun o q => Heap.get?_push_of_some _ q, fun _ => True.intro, fun y hy => absurd rfl hy⟩
theorem ZN5 {prog : Program} {w : World} {env : Env} {e : Expr} {f : Str} {pos : Pos} {s : Shared} {Q : Value → Shared → Prop} (hb : attributeBase e f env (eval e env) = eval e env)
  (h : wpAny (model prog w) A (eval e env) (fun o s₁ => wpAny (model prog w) A (getAttr o f true) Q E s₁) E s) : wpAny (model prog w) A (eval (.Attribute e f pos) env) Q E s :=
 Attribute_any_ h (by rw [arm_eval_Attribute, hb])
end
def ZLX (K : PySem.W.Frag) (ta : TE) (f : Str) : TE := fun σ H Q => ta σ H fun x H1 => ∃ a C dx fs v, x = .ref a ∧ H1 a = some (.ins C dx fs) ∧ Cls K C ∧ YD K C f ∧ fs.lookup f = some v ∧ Q v H1
def ZLY (K : PySem.W.Frag) (ta tv : TE) (f : Str) : TS := fun D σ H => tv σ H fun y H1 => ta σ H1 fun x H2 => ∃ a C dx fs, x = .ref a ∧ H2 a = some (.ins C dx fs) ∧ Cls K C ∧ YD K C f ∧ fs.length < 1000 ∧
 D.nx σ (upd H2 a (.ins C dx (Zn f y fs)))
def ZQK (X : Cx) (op : Operator) (rd : V → V → Hp → VK → Prop) : Prop :=
 ∀ (pins : List (Addr × Obj)) (s : Shared) (σ : St) (H : Hp) (x y : V) (u v : Value) (Q : VK), Inv X pins σ H s → ZX x u → ZX y v → rd x y H Q → wpAny (model X.prog X.w) X.A (inplaceOp op u v) (EP X pins σ Q) X.xe s
def ZEe (K : PySem.W.Frag) (ta tv : TE) (rd : V → V → Hp → VK → Prop) (f : Str) : TS := fun D σ H => ta σ H fun x H1 => ∃ a C dx fs v, x = .ref a ∧ H1 a = some (.ins C dx fs) ∧ Cls K C ∧ YD K C f ∧ fs.lookup f = some v ∧
 tv σ H1 fun y H2 => rd v y H2 fun z H3 => ∃ dx' fs', H3 a = some (.ins C dx' fs') ∧ fs'.length < 1000 ∧ D.nx σ (upd H3 a (.ins C dx' (Zn f z fs')))
section
variable {X : Cx} {o e value : Expr} {f : Str} {pos pos' tpos : Pos} {ta tv : TE}
theorem ZQL (he : PE X e ta) (hb : attributeBase e f X.env (eval e X.env) = eval e X.env) : PE X (.Attribute e f pos) (ZLX X.K ta f) := by
 intro pins s σ H Q I h
 refine ZN5 hb (thn (he pins s σ H _ I h) fun u s1 ⟨x, H1, I1, rx, a, C, dx, fs, v, ex, ea, c, n, l, q⟩ => ?_)
 subst ex
 obtain rfl : u = Value.ref a := rx
 exact ZEB I1 ea c n l fun u' s2 I2 ru => ⟨v, H1, I2, ru, q⟩
theorem ZQM (ha : PE X o ta) (hv : PE X value tv) (hs : swapsWith value (some (.Attribute o f pos')) pos.line X.env = pure false) : PS X (.Assign [.Attribute o f pos'] value pos) (ZLY X.K ta tv f) := by
 intro pins s σ H D I h
 refine plainObj_wpAny_Assign_Attribute (thn (hv pins s σ H _ I h) fun u s1 ⟨y, H1, I1, ry, q⟩ => thn (ha pins s1 σ H1 _ I1 q) fun ov s2 ⟨x, H2, I2, rx, a, C, dx, fs, ex, ea, c, n, l, q2⟩ => ?_) hs
 subst ex
 obtain rfl : ov = Value.ref a := rx
 exact ZED I2 ea c n l ry fun s3 I3 => ⟨σ, _, I3, q2⟩
theorem ZJf {op : Operator} {rd : V → V → Hp → VK → Prop} (ha : PE X o ta) (hv : PE X value tv) (hop : ZQK X op rd) : PS X (.AugAssign (.Attribute o f tpos) op value pos) (ZEe X.K ta tv rd f) := by
 intro pins s σ H D I h
 refine wpAny_AugAssign_AttributeAny (thn (ha pins s σ H _ I h) fun ov s1 ⟨x, H1, I1, rx, a, C, dx, fs, v, ex, ea, c, n, l, q⟩ => ?_)
 subst ex
 obtain rfl : ov = Value.ref a := rx
 refine ZEB I1 ea c n l fun u s2 I2 ru => thn (hv pins s2 σ H1 _ I2 q) fun w3 s3 ⟨y, H2, I3, ry, q3⟩ => thn (hop pins s3 σ H2 v y u w3 _ I3 ru ry q3) fun w4 s4 ⟨z, H3, I4, rz, dx', fs', ea', l', q4⟩ => ?_
 exact ZED I4 ea' c n l' rz fun s5 I5 => ⟨σ, _, I5, q4⟩
def ZF1 : V → V → Hp → VK → Prop := fun x y H Q => ∃ i j, x = .int i ∧ y = .int j ∧ Q (.int (i + j)) H
theorem ZQN : ZQK X .Add ZF1 := by
 rintro pins s σ H x y u v Q I rx ry ⟨i, j, rfl, rfl, q⟩
 obtain ⟨t, rfl⟩ := (show ∃ t, u = Value.int i t from rx)
 obtain ⟨t', rfl⟩ := (show ∃ t', v = Value.int j t' from ry)
 exact PyProof.Rows.iadd_int ⟨.int (i + j), H, I.tok _, ⟨_, rfl⟩, q⟩
end
section
variable {X : Cx} {pins : List (Addr × Obj)} {σ : St} {H : Hp} {s : Shared} {A : Around} {E : Value → Shared → Prop} {Q : Value → Shared → Prop} {c : Value} {b : Bool}
inductive JY (K : PySem.W.Frag) (H : Hp) : V → Value → Prop where
 | non : JY K H .non (.type "NoneType")
 | bl (x : Bool) : JY K H (.bl x) (.type "bool")
 | int (i : Int) : JY K H (.int i) (.type "int")
 | str (x : Str) : JY K H (.str x) (.type "str")
 | flt (x : UInt64) : JY K H (.flt x) (.type "float")
 | lst {a : Addr} {xs : List V} (e : H a = some (.lst xs)) : JY K H (.ref a) (.type "list")
 | frz {a : Addr} {o : Obj} {xs : List V} (e : H a = some (.frz o (.lst xs))) : JY K H (.ref a) (.type "list")
 | tup {a : Addr} {xs : List V} (e : H a = some (.tup xs)) : JY K H (.ref a) (.type "tuple")
 | dK {a : Addr} {kvs : List (Key × V)} (e : H a = some (.dK kvs)) : JY K H (.ref a) (.type "dict")
 | dT {a : Addr} {kvs : List (List Key × V)} (e : H a = some (.dT kvs)) : JY K H (.ref a) (.type "dict")
 | ins {a C dx : Addr} {fs : List (Str × V)} (e : H a = some (.ins C dx fs)) (cl : Cls K C) (ha : PySem.W.findIn K (.ref C) "__class__" = some (some (.builtin "object.__class__")))
  (hn : PySem.W.specialIn K (.builtin "object.__class__") "__get__" = some (some (.builtin "getset_descriptor.__get__"))) (htk : PySem.W.takesIn K (.builtin "object.__class__") = some true)
  (hm : PySem.W.mroIn K C (.type "object") = some true) : JY K H (.ref a) (.ref C)
theorem ZJg {x : V} {u t : Value} (I : Inv X pins σ H s) (rx : ZX x u) (ty : JY X.K H x t) (e : PySem.W.kitOne X.K t c = some b) (h : ∀ tk, Q (.bool b) { s with toks := tk }) :
  wpAny (model X.prog X.w) A (call (.builtin "isinstance") [u, c]) Q E s := by
 cases ty with
 | non => cases (show u = Value.none from rx); exact PySem.W.kia_one PySem.W.kitx_none I.kIn True.intro e (fun z => nomatch z) h
 | bl y => cases (show u = Value.bool y from rx); exact PySem.W.kia_one PySem.W.kitx_bool I.kIn True.intro e (fun z => nomatch z) h
 | int i => obtain ⟨t, q⟩ := (show ∃ t, u = Value.int i t from rx); cases q; exact PySem.W.kia_one PySem.W.kitx_int I.kIn True.intro e (fun z => nomatch z) h
 | str y => obtain ⟨t, q⟩ := (show ∃ t, u = Value.str y t from rx); cases q; exact PySem.W.kia_one PySem.W.kitx_str I.kIn True.intro e (fun z => nomatch z) h
 | flt y => obtain ⟨t, q⟩ := (show ∃ t, u = Value.float y t from rx); cases q; exact PySem.W.kia_one PySem.W.kitx_float I.kIn True.intro e (fun z => nomatch z) h
 | @lst a xs ea =>
  cases (show u = Value.ref a from rx)
  obtain ⟨_, _, n, _, h1⟩ := (show Zz X.prog X.w H s.heap a (.lst xs) from I.hok a _ ea)
  exact PySem.W.kia_one PySem.W.kitx_list I.kIn ⟨_, h1, rfl⟩ e (fun z => nomatch z) h
 | @frz a ob xs ea =>
  cases (show u = Value.ref a from rx)
  obtain ⟨_, _, _, n, _, h1⟩ := (show Zz X.prog X.w H s.heap a (.frz ob (.lst xs)) from I.hok a _ ea)
  exact PySem.W.kia_one PySem.W.kitx_list I.kIn ⟨_, h1, rfl⟩ e (fun z => nomatch z) h
 | @tup a xs ea =>
  cases (show u = Value.ref a from rx)
  obtain ⟨_, _, _, p⟩ := (show Zz X.prog X.w H s.heap a (.tup xs) from I.hok a _ ea)
  obtain ⟨o, h1, h2, _⟩ := p
  exact PySem.W.kia_one PySem.W.kitx_tuple I.kIn ⟨o, h1, h2⟩ e (fun z => nomatch z) h
 | @dK a kvs ea =>
  cases (show u = Value.ref a from rx)
  obtain ⟨_, _, vs, _, p⟩ := (show Zz X.prog X.w H s.heap a (.dK kvs) from I.hok a _ ea)
  obtain ⟨o, es, ep, h1, h2, _⟩ := p
  exact PySem.W.kia_one PySem.W.kitx_dict I.kIn ⟨o, h1, h2.1⟩ e (fun z => nomatch z) h
 | @dT a kvs ea =>
  cases (show u = Value.ref a from rx)
  obtain ⟨_, _, xs, _, o, es, ep, h1, h2, _⟩ := (show Zz X.prog X.w H s.heap a (.dT kvs) from I.hok a _ ea)
  exact PySem.W.kia_one PySem.W.kitx_dict I.kIn ⟨o, h1, h2.1⟩ e (fun z => nomatch z) h
 | @ins a C dx fs ea cl ha hn htk hm =>
  cases (show u = Value.ref a from rx)
  obtain ⟨mA, O, _⟩ := ZDB I.hok ea
  obtain ⟨od, J, _⟩ := O.look
  exact PySem.W.kia_one (PySem.W.kitx_own (cl.get _) cl.hd ha hn htk hm) I.kIn J e (fun z => nomatch z) h
end
end L2
namespace L2
open PySem PySem.Spec PyProof.Rows
structure Z0 (k : Nat) (A : Around) : Prop where
 hd : A.handled = none
 dp : A.depth + 3 * k + 5 < recursionLimit
 un : A.units + 16 * k + 200 < cLine
 gd : A.guards = some []
theorem Z0.mono {j k : Nat} {A : Around} (r : Z0 k A) (h : j ≤ k) : Z0 j A := ⟨r.hd, by have := r.dp; omega, by have := r.un; omega, r.gd⟩
theorem Z0.deeper {k : Nat} {A : Around} (r : Z0 (k + 1) A) (env : Env) : Z0 k (A.deeper env) :=
 ⟨r.hd, by have := r.dp; show A.depth + 1 + 3 * k + 5 < _; omega, by have := r.un; show A.units + 3 + 16 * k + 200 < _; omega, r.gd⟩
theorem Z0.in1 {k : Nat} {A : Around} (r : Z0 (k + 1) A) : Z0 k A.in1 :=
 ⟨r.hd, by have := r.dp; show A.depth + 3 * k + 5 < _; omega, by have := r.un; show A.units + 1 + 16 * k + 200 < _; omega, r.gd⟩
theorem ZIT {A : Around} {C : Addr} {us : List Value} {kw : List (Str × Value)} : (A.under (.builtin "type.__call__" ⟨.ref C :: us, kw⟩)).depth = A.depth + 1 := by
 first | rfl | simp [Around.under, Code.weight, Code.isCreation, Code.isGuard, Code.isCaller, Code.frames, Code.isFrame, guardIds]
theorem ZIU {A : Around} {C : Addr} {us : List Value} {kw : List (Str × Value)} : (A.under (.builtin "type.__call__" ⟨.ref C :: us, kw⟩)).units = A.units + 1 := by
 first | rfl | simp [Around.under, Code.cUnits, Code.frames, Code.isFrame]
theorem ZHR {A : Around} {C : Addr} {us : List Value} {kw : List (Str × Value)} : (A.under (.builtin "type.__call__" ⟨.ref C :: us, kw⟩)).guards = A.guards := by
 have e : pushGuards [] A.guards = A.guards := by cases A.guards <;> rfl
 first | exact e | rfl | simp [Around.under, Code.guards, Code.isGuard, guardIds, pushGuards]
theorem Z0.make {k : Nat} {A : Around} (r : Z0 (k + 1) A) (C : Addr) (us : List Value) (kw : List (Str × Value)) : Z0 k (A.under (.builtin "type.__call__" ⟨.ref C :: us, kw⟩)) :=
 ⟨r.hd, by have := r.dp; rw [ZIT]; omega, by have := r.un; rw [ZIU]; omega, (ZHR).trans r.gd⟩
theorem Z0.depth {k : Nat} {A : Around} (r : Z0 k A) : A.depth < recursionLimit := by have := r.dp; omega
theorem Z0.units {k : Nat} {A : Around} (r : Z0 k A) : A.units + 64 < cLine := by have := r.un; omega
def ZF2 : TA := fun _ H Q => Q [] H
def ZFp (ta : TE) (tr : TA) : TA := fun σ H Q => ta σ H fun x H1 => tr σ H1 fun xs H2 => Q (x :: xs) H2
section
variable {X : Cx} {e : Expr} {es : List Expr} {te : TE} {t : TA} {pos : Pos}
theorem ZQO : PA X [] ZF2 := fun _ _ _ _ H Q I h => Calls.spliced_nil ⟨[], H, I, .nil, h⟩
theorem ZN6 (ha : PE X e te) (hr : PA X es t) (hs : starEach (e :: es) X.env = (false, eval e X.env) :: starEach es X.env := by rfl) : PA X (e :: es) (ZFp te t) := by
 intro pos pins s σ H Q I h
 rw [hs]
 show wpAny _ _ (spliced ((false, eval e X.env) :: backTo pos (starEach es X.env))) _ _ s
 refine Calls.spliced_cons (thn (ha pins s σ H _ I h) fun u s1 ⟨x, H1, I1, r1, q1⟩ => ?_)
 exact thn (hr pos pins s1 σ H1 _ I1 q1) fun us s2 ⟨xs, H2, I2, r2, q2⟩ => ⟨x :: xs, H2, I2, .cons r1 r2, q2⟩
def ZLZ (t : TA) : TE := fun σ H Q => t σ H fun xs H1 => xs.length ≤ sizeLine ∧ ∀ p, H1 p = none → Q (.ref p) (upd H1 p (.tup xs))
def ZLa (t : TA) : TE := fun σ H Q => t σ H fun xs H1 => xs.length ≤ sizeLine ∧ ∀ p, H1 p = none → Q (.ref p) (upd H1 p (.lst xs))
theorem ZQP {x1} (h : PA X es t) : PE X (.Tuple es x1 pos) (ZLZ t) := by
 intro pins s σ H Q I hq
 refine wpAny_Tuple_spliced (thn (h pos pins s σ H _ I hq) fun us s1 ⟨xs, H1, I1, r, z, q⟩ => ⟨by rw [← r.length]; exact z, ?_⟩)
 have hf : H1 s1.heap.objs.size = none := I1.hok.fresh (Nat.le_refl _)
 refine ⟨.ref s1.heap.objs.size, upd H1 s1.heap.objs.size (.tup xs), I1.laid (t' := s1.toks) (fun b u e => Heap.get?_push_of_some _ e) (Nat.le_refl _) ?_, rfl, q _ hf⟩
 exact ⟨⟨z, fun _ => ⟨_, Heap.get?_push_size _ rfl, rfl, rfl⟩⟩, us, r, ⟨_, Heap.get?_push_size _ rfl, rfl, _, rfl⟩⟩
theorem ZQQ (h : PA X es t) : PE X (.List es pos) (ZLa t) := by
 intro pins s σ H Q I hq
 refine wpAny_List_spliced (thn (h pos pins s σ H _ I hq) fun us s1 ⟨xs, H1, I1, r, z, q⟩ => ⟨by rw [← r.length]; exact z, ?_⟩)
 have hf : H1 s1.heap.objs.size = none := I1.hok.fresh (Nat.le_refl _)
 refine ⟨.ref s1.heap.objs.size, upd H1 s1.heap.objs.size (.lst xs), I1.laid (t' := s1.toks) (fun b u e => Heap.get?_push_of_some _ e) (Nat.le_refl _) ?_, rfl, q _ hf⟩
 exact ⟨z, us, 0, r, Heap.get?_push_size _ rfl⟩
end
abbrev Sp := List V → Hp → VK → XK → Prop
abbrev CXT := List Env → Hp → Shared → XK → Value → Shared → Prop
structure ZBW (P : Program) (w : World) (K : PySem.W.Frag) (mg : Str → Option Value) (base : Heap) (A : Around) (outer : List Env) (s : Shared) (H : Hp) : Prop where
 frames : A.frames = some outer
 mod : Mod K mg base
 bs : ∀ b o, base.get? b = some o → s.heap.get? b = some o ∧ H b = none
 bsz : base.objs.size ≤ s.heap.objs.size
 funs : s.heap.FunFrames base outer
 frf : ∀ b ∈ frs outer, H b = none
 hok : HOk P w H s.heap
 bare : AllBare s.gens
def CE (outer : List Env) (P : Program) (w : World) (H : Hp) (s : Shared) (Q : VK) (u : Value) (s' : Shared) : Prop :=
 ∃ v H', s'.os = s.os ∧ AllBare s'.gens ∧ Un (frs outer) [] H H' s.heap s'.heap ∧ HOk P w H' s'.heap ∧ ZX v u ∧ Q v H'
def CR (CX : CXT) (outer : List Env) (P : Program) (w : World) (H : Hp) (s : Shared) (Q : VK) (E : XK) (r : Result) (s' : Shared) : Prop :=
 match r with
 | .ok (.ret u) => CE outer P w H s Q u s'
 | .ok _ => False
 | .error e => CX outer H s E e s'
structure ZQ (P : Program) (w : World) (K : PySem.W.Frag) (mg : Str → Option Value) (base : Heap) (CX : CXT) (k : Nat) (f : Addr) (fd : FuncData) (ps : List Str) (sp : Sp) : Prop where
 len : ∀ vs H Q E, sp vs H Q E → vs.length = ps.length
 run : ∀ (A : Around) (outer : List Env) (s : Shared) (H : Hp) (args : Args) (us : List Value) (vs : List V) (Q : VK) (E : XK), Z0 k A → ZBW P w K mg base A outer s H → BindsTo s fd args (ps.zip us) → ZV vs us → sp vs H Q E →
  codeAny (model P w) A (.call (.ref f) args) (CR CX outer P w H s Q E) s
theorem ZQ.mono {P : Program} {w : World} {K : PySem.W.Frag} {mg : Str → Option Value} {base : Heap} {CX : CXT} {j k : Nat} {f : Addr} {fd : FuncData} {ps : List Str} {sp : Sp} (F : ZQ P w K mg base CX j f fd ps sp) (h : j ≤ k) :
 ZQ P w K mg base CX k f fd ps sp := ⟨F.len, fun A outer s H args us vs Q E hr => F.run A outer s H args us vs Q E (hr.mono h)⟩
theorem ZQ.imp {P : Program} {w : World} {K : PySem.W.Frag} {mg : Str → Option Value} {base : Heap} {CX : CXT} {k : Nat} {f : Addr} {fd : FuncData} {ps : List Str} {sp sp' : Sp} (F : ZQ P w K mg base CX k f fd ps sp)
  (h : ∀ vs H Q E, sp' vs H Q E → sp vs H Q E) : ZQ P w K mg base CX k f fd ps sp' :=
 ⟨fun vs H Q E q => F.len vs H Q E (h _ _ _ _ q), fun A outer s H args us vs Q E hr he hb hv hs => F.run A outer s H args us vs Q E hr he hb hv (h _ _ _ _ hs)⟩
theorem ZBW.make {P : Program} {w : World} {K : PySem.W.Frag} {mg : Str → Option Value} {base : Heap} {A : Around} {outer : List Env} {s : Shared} {H : Hp} (e : ZBW P w K mg base A outer s H) (C : Addr) (us : List Value) (kw : List (Str × Value)) :
 ZBW P w K mg base (A.under (.builtin "type.__call__" ⟨.ref C :: us, kw⟩)) outer s H := ⟨by first | exact e.frames | (simpa [Around.under, Code.envs, Code.isFrame, pushEnvs] using e.frames), e.mod, e.bs, e.bsz, e.funs, e.frf, e.hok, e.bare⟩
theorem ZBW.in1 {P : Program} {w : World} {K : PySem.W.Frag} {mg : Str → Option Value} {base : Heap} {A : Around} {outer : List Env} {s : Shared} {H : Hp} (e : ZBW P w K mg base A outer s H) :
 ZBW P w K mg base A.in1 outer s H := ⟨e.frames, e.mod, e.bs, e.bsz, e.funs, e.frf, e.hok, e.bare⟩
section
variable {X : Cx} {pins : List (Addr × Obj)} {σ : St} {H : Hp} {s s' : Shared}
theorem Inv.env0 (I : Inv X pins σ H s) : ZBW X.prog X.w X.K X.mg X.base X.A X.stack s H :=
 ⟨I.ok.frames, I.ok.mod, I.bs, Nat.le_trans I.ok.bsz I.sz, I.stack, I.stkFree, I.hok, I.bare⟩
theorem Inv.after {Q : VK} {u : Value} (I : Inv X pins σ H s) (h : CE X.stack X.prog X.w H s Q u s') : EP X pins σ Q u s' := by
 obtain ⟨v, H', os, bare, un, hok, r, q⟩ := h
 obtain ⟨hh, g, d, t, os'⟩ := s'
 obtain rfl : os' = s.os := os
 exact ⟨v, H', I.call (h' := hh) (g' := g) (d' := d) (t' := t) (ch := []) un hok bare (fun b z => absurd z (by simp)), r, q⟩
end
def ZFq (sp : Sp) (dvs : List V) (E : XK) (t : TA) : TE := fun σ H Q => t σ H fun vs H1 => sp (vs ++ dvs) H1 Q E
def ZEE (C : Addr) (m : Str) (sp : Sp) (dvs : List V) (E : XK) (ta : TE) (t : TA) : TE := fun σ H Q => ta σ H fun x H1 => ∃ a dx fs, x = .ref a ∧ H1 a = some (.ins C dx fs) ∧ fs.lookup m = none ∧
 t σ H1 fun vs H2 => sp (x :: (vs ++ dvs)) H2 Q E
def ZIV (C : Addr) (sp : Sp) (dvs : List V) (E : XK) (t : TA) : TE := fun σ H Q => t σ H fun vs H1 => ∀ x dx, H1 x = none → H1 dx = none → dx ≠ x →
 sp (.ref x :: (vs ++ dvs)) (upd (upd H1 dx (.own x)) x (.ins C dx [])) (fun v H2 => v = .non ∧ Q (.ref x) H2) E
def ZN (K : PySem.W.Frag) (fd : FuncData) (ps : List Str) (ds : List Value) : Prop :=
 ∀ (s : Shared) (us : List Value), K.In s.heap → (us ++ ds).length = ps.length → BindsTo s fd ⟨us, []⟩ (ps.zip (us ++ ds))
theorem ZN.all {K : PySem.W.Frag} {fd : FuncData} {ps : List Str} (h : ∀ us : List Value, us.length = ps.length → bindArgs fd ⟨us, []⟩ = pure (ps.zip us)) : ZN K fd ps [] := fun s us _ hl => by
 rw [List.append_nil] at hl ⊢
 exact .of_eq (h us hl)
def Y2 (CX : CXT) (X : Cx) (E : XK) : Prop := ∀ (pins : List (Addr × Obj)) (σ : St) (H : Hp) (s : Shared) (e : Value) (s' : Shared), Inv X pins σ H s → CX X.stack H s E e s' → X.xe e s'
section
variable {X : Cx} {CX : CXT} {k : Nat} {f C : Addr} {fd : FuncData} {ps : List Str} {sp : Sp} {dvs : List V} {ds : List Value} {E : XK} {x m : Str} {p pos apos : Pos} {e o : Expr} {es : List Expr} {ta : TE} {t : TA}
theorem ZF3 {pins : List (Addr × Obj)} {σ : St} {H : Hp} {s : Shared} {Q : VK} {us : List Value} {vs : List V} (F : ZQ X.prog X.w X.K X.mg X.base CX k f fd ps sp) (hr : Z0 k X.A) (hb : ZN X.K fd ps ds) (hd : ZV dvs ds) (hx : Y2 CX X E)
  (I : Inv X pins σ H s) (r : ZV vs us) (h : sp (vs ++ dvs) H Q E) : wpAny (model X.prog X.w) X.A (call (.ref f) us) (EP X pins σ Q) X.xe s := by
 have r2 : ZV (vs ++ dvs) (us ++ ds) := r.append hd
 have hl : (us ++ ds).length = ps.length := by rw [← r2.length]; exact F.len _ _ _ _ h
 refine wpAny_call (codeAny_mono (F.run X.A X.stack s H ⟨us, []⟩ (us ++ ds) (vs ++ dvs) Q E hr I.env0 (hb s us I.kIn hl) r2 h) fun r s' hq => ?_)
 cases r with
 | error e => exact hx pins σ H s e s' I hq
 | ok fl =>
  cases fl with
  | ret u => exact I.after hq
  | next => exact False.elim hq
  | brk => exact False.elim hq
  | cont => exact False.elim hq
theorem ZN7 (F : ZQ X.prog X.w X.K X.mg X.base CX k f fd ps sp) (hr : Z0 k X.A) (hg : Gl X x) (hm : X.mg x = some (.ref f)) (hk : PySem.W.keepIn X.K (.ref f) = true) (hb : ZN X.K fd ps ds) (hd : ZV dvs ds) (hx : Y2 CX X E)
  (ha : PA X (e :: es) t) (hdb : (x == ("__debug__" : Str)) = false := by decide) (he : starEach (e :: es) X.env = (false, eval e X.env) :: starEach es X.env := by rfl) (hpl : (backTo pos (starEach es X.env)).any (·.1) = false := by rfl) :
  PE X (.Call (.Name x p) (e :: es) [] pos) (ZFq sp dvs E t) := by
 intro pins s σ H Q I h
 refine wpAny_Call_Name_kw (Jw I hg hm ?_ hdb)
 refine PySem.W.callWith_K (h₀ := X.base) I.ok.mod.kin hk (thn (ha pos pins s σ H _ I h) fun us s1 ⟨vs, H1, I1, r, q⟩ => ⟨I1.kIn, ?_⟩) he hpl
 exact ZF3 F hr hb hd hx I1 r q
theorem ZN8 {pl : Sem Bool} (he : PE X o ta) (c : Cls X.K C) (hm : YV X.K C m f) (F : ZQ X.prog X.w X.K X.mg X.base CX k f fd ps sp) (hr : Z0 k X.A) (hb : ZN X.K fd ps ds) (hd : ZV dvs ds) (hx : Y2 CX X E) (ha : PA X (e :: es) t)
  (hst : starEach (e :: es) X.env = (false, eval e X.env) :: starEach es X.env := by rfl) (hpl : (backTo pos (starEach es X.env)).any (·.1) = false := by rfl)
  (ht : eval (.Call (.Attribute o m apos) (e :: es) [] pos) X.env = (do
   let ov ← eval o X.env
   standAt apos.atName
   let (f, first) ← holding [ov] (getMethod ov m pl)
   callWith pos f first (backTo pos (starEach (e :: es) X.env)) (backToKw pos (keywordEach [] X.env))) := by rfl) :
  PE X (.Call (.Attribute o m apos) (e :: es) [] pos) (ZEE C m sp dvs E ta t) := by
 intro pins s σ H Q I h
 refine PySem.W.methodCall_KW (pl := pl) (thn (he pins s σ H _ I h) fun u s1 ⟨x, H1, I1, rx, a, dx, fs, ex, ea, l, q⟩ => ?_) ht
 subst ex
 obtain rfl : u = Value.ref a := rx
 refine ZEC I1 ea c hm l ?_
 refine PySem.W.callWith_K (first := [.ref a]) (h₀ := X.base) I.ok.mod.kin hm.kp (thn (ha pos pins s1 σ H1 _ I1 q) fun us s2 ⟨vs, H2, I2, r, q2⟩ => ⟨I2.kIn, ?_⟩) hst hpl
 exact ZF3 (us := .ref a :: us) (vs := .ref a :: vs) F hr hb hd hx I2 (.cons rfl r) q2
theorem ZLb {pl : Sem Bool} (he : PE X o ta) (c : Cls X.K C) (hm : YV X.K C m f) (F : ZQ X.prog X.w X.K X.mg X.base CX k f fd ps sp) (hr : Z0 k X.A) (hb : ZN X.K fd ps ds) (hd : ZV dvs ds) (hx : Y2 CX X E)
  (ht : eval (.Call (.Attribute o m apos) [] [] pos) X.env = (do
   let ov ← eval o X.env
   standAt apos.atName
   let (f, first) ← holding [ov] (getMethod ov m pl)
   callWith pos f first (backTo pos (starEach [] X.env)) (backToKw pos (keywordEach [] X.env))) := by rfl) :
  PE X (.Call (.Attribute o m apos) [] [] pos) (ZEE C m sp dvs E ta ZF2) := by
 intro pins s σ H Q I h
 refine PySem.W.methodCall_KW (pl := pl) (thn (he pins s σ H _ I h) fun u s1 ⟨x, H1, I1, rx, a, dx, fs, ex, ea, l, q⟩ => ?_) ht
 subst ex
 obtain rfl : u = Value.ref a := rx
 refine ZEC I1 ea c hm l ?_
 exact PySem.W.callWith_K0 (first := [.ref a]) I1.kIn hm.kp (ZF3 (us := [.ref a]) (vs := [.ref a]) F hr hb hd hx I1 (.cons rfl .nil) q)
structure Mk (K : PySem.W.Frag) (C f : Addr) : Prop where
 makes : PySem.W.makesIn K C = true
 init : PySem.W.findIn K (.ref C) "__init__" = some (some (.ref f))
 fn : PySem.W.isFn K (.ref f) = true
 kp : PySem.W.keepIn K (.ref C) = true
theorem ZLc {pins : List (Addr × Obj)} {σ : St} {H : Hp} {s : Shared} {Q : VK} {us : List Value} {vs : List V} (M : Mk X.K C f) (F : ZQ X.prog X.w X.K X.mg X.base CX k f fd ps sp) (hr : Z0 (k + 1) X.A) (hb : ZN X.K fd ps ds) (hd : ZV dvs ds)
  (hx : Y2 CX X E) (I : Inv X pins σ H s) (r : ZV vs us)
  (h : ∀ x dx, H x = none → H dx = none → dx ≠ x → sp (.ref x :: (vs ++ dvs)) (upd (upd H dx (.own x)) x (.ins C dx [])) (fun v H2 => v = .non ∧ Q (.ref x) H2) E) :
  wpAny (model X.prog X.w) X.A (call (.ref C) us) (EP X pins σ Q) X.xe s := by
 have hq := h (s.heap.objs.size + 1) s.heap.objs.size (I.hok.fresh (Nat.le_succ _)) (I.hok.fresh (Nat.le_refl _)) (Nat.ne_of_lt (Nat.lt_succ_self _))
 have I2 := Inv.made (C := C) I
 have r2 : ZV (V.ref (s.heap.objs.size + 1) :: (vs ++ dvs)) (Value.ref (s.heap.objs.size + 1) :: (us ++ ds)) := .cons rfl (r.append hd)
 have hl : (Value.ref (s.heap.objs.size + 1) :: us ++ ds).length = ps.length := by
  have e := r2.length
  rw [F.len _ _ _ _ hq] at e
  exact e.symm
 refine wpAny_call (ZLW (f := f) I.kIn M.makes M.init (beq_iff_eq.mp M.fn) (codeAny_mono (F.run _ X.stack _ _ ⟨Value.ref (s.heap.objs.size + 1) :: us, []⟩ (Value.ref (s.heap.objs.size + 1) :: (us ++ ds)) _ _ E (hr.make C us [])
  (I2.env0.make C us []) (hb _ (Value.ref (s.heap.objs.size + 1) :: us) I2.kIn hl) r2 hq) fun r s' hq' => ?_))
 cases r with
 | error e => exact hx pins σ _ _ e s' I2 hq'
 | ok fl =>
  cases fl with
  | ret u =>
   obtain ⟨v, H', I3, rv, ev, q3⟩ := I2.after hq'
   subst ev
   exact ⟨rv, ⟨V.ref (s.heap.objs.size + 1), H', I3, rfl, q3⟩⟩
  | next => exact False.elim hq'
  | brk => exact False.elim hq'
  | cont => exact False.elim hq'
theorem ZN9 (M : Mk X.K C f) (F : ZQ X.prog X.w X.K X.mg X.base CX k f fd ps sp) (hr : Z0 (k + 1) X.A) (hg : Gl X x) (hm : X.mg x = some (.ref C)) (hb : ZN X.K fd ps ds) (hd : ZV dvs ds) (hx : Y2 CX X E)
  (ha : PA X (e :: es) t) (hdb : (x == ("__debug__" : Str)) = false := by decide) (he : starEach (e :: es) X.env = (false, eval e X.env) :: starEach es X.env := by rfl) (hpl : (backTo pos (starEach es X.env)).any (·.1) = false := by rfl) :
  PE X (.Call (.Name x p) (e :: es) [] pos) (ZIV C sp dvs E t) := by
 intro pins s σ H Q I h
 refine wpAny_Call_Name_kw (Jw I hg hm ?_ hdb)
 refine PySem.W.callWith_K (h₀ := X.base) I.ok.mod.kin M.kp (thn (ha pos pins s σ H _ I h) fun us s1 ⟨vs, H1, I1, r, q⟩ => ⟨I1.kIn, ?_⟩) he hpl
 exact ZLc M F hr hb hd hx I1 r q
end
section
variable {X : Cx} {CX : CXT} {k : Nat} {f C : Addr} {fd : FuncData} {ps ks : List Str} {sp : Sp} {E : XK} {x m : Str} {p pos apos kpos : Pos} {e o : Expr} {es : List Expr} {kws : List Keyword} {te ta : TE} {t tk : TA} {nm : Option Str}
variable {g : List Value → List Value → List Value} {gV : List V → List V → List V}
end
structure ZP (N P : List Str) (sc : Scope) : Prop where
 kind : sc.kind = .function
 co : sc.isCoroutine = false
 gen : sc.isGenerator = false
 nd : N.Nodup
 pre : N.take P.length = P
 par : ∀ x ∈ P, sc.names.lookup x = some .local ∨ sc.names.lookup x = some .cell
 nofree : ∀ y ∈ sc.names, y.2 ≠ .free
theorem ZE1 {kindOf : Str → Option NameKind} {x : Str} : ∀ {binds : List (Str × Value)} {m : Str → Option Value}, (∀ v, (x, v) ∉ binds) → bindL kindOf binds m x = m x
 | [], _, _ => rfl
 | (n, v) :: r, m, h => by
  unfold bindL
  rw [ZE1 fun w hw => h w (List.mem_cons_of_mem _ hw)]
  split
  ·have : x ≠ n := by rintro rfl; exact h v List.mem_cons_self
   simp [this]
  ·rfl
theorem ZE2 {kindOf : Str → Option NameKind} {x : Str} : ∀ {binds : List (Str × Value)} {m : Str → Option Value}, (∀ v, (x, v) ∉ binds) → bindC kindOf binds m x = m x
 | [], _, _ => rfl
 | (n, v) :: r, m, h => by
  unfold bindC
  rw [ZE2 fun w hw => h w (List.mem_cons_of_mem _ hw)]
  split
  ·rfl
  ·have : x ≠ n := by rintro rfl; exact h v List.mem_cons_self
   simp [this]
theorem ZE3 {kindOf : Str → Option NameKind} {x : Str} {v : Value} : ∀ {P : List Str} {vs : List Value} {i : Nat} {m : Str → Option Value}, P.Nodup → P[i]? = some x → vs[i]? = some v → kindOf x = some .local →
  bindL kindOf (P.zip vs) m x = some v
 | [], _, _, _, _, h, _, _ => by simp at h
 | _ :: _, [], _, _, _, _, h, _ => by simp at h
 | p :: P, w :: vs, 0, m, nd, h1, h2, hk => by
  simp at h1 h2; subst h1; subst h2
  show bindL kindOf ((p, w) :: P.zip vs) m p = _
  unfold bindL
  rw [ZE1 fun v hv => (List.nodup_cons.mp nd).1 (List.of_mem_zip hv).1, if_pos hk]
  simp
 | p :: P, w :: vs, i + 1, m, nd, h1, h2, hk => by
  show bindL kindOf ((p, w) :: P.zip vs) m x = _
  unfold bindL
  exact ZE3 (i := i) (List.nodup_cons.mp nd).2 (by simpa using h1) (by simpa using h2) hk
theorem ZE4 {kindOf : Str → Option NameKind} {x : Str} {v : Value} : ∀ {P : List Str} {vs : List Value} {i : Nat} {m : Str → Option Value}, P.Nodup → P[i]? = some x → vs[i]? = some v → kindOf x ≠ some .local →
  bindC kindOf (P.zip vs) m x = some v
 | [], _, _, _, _, h, _, _ => by simp at h
 | _ :: _, [], _, _, _, _, h, _ => by simp at h
 | p :: P, w :: vs, 0, m, nd, h1, h2, hk => by
  simp at h1 h2; subst h1; subst h2
  show bindC kindOf ((p, w) :: P.zip vs) m p = _
  unfold bindC
  rw [ZE2 fun v hv => (List.nodup_cons.mp nd).1 (List.of_mem_zip hv).1, if_neg hk]
  simp
 | p :: P, w :: vs, i + 1, m, nd, h1, h2, hk => by
  show bindC kindOf ((p, w) :: P.zip vs) m x = _
  unfold bindC
  exact ZE4 (i := i) (List.nodup_cons.mp nd).2 (by simpa using h1) (by simpa using h2) hk
def start (N : List Str) (vs : List V) : St := vs.map some ++ List.replicate (N.length - vs.length) none
def ZCj (CX : CXT) (P : Program) (w : World) (K : PySem.W.Frag) (mg : Str → Option Value) (base : Heap) (N : List Str) (qual : Str) (scope : Scope) (f : Addr) (cd : Value) (A : Around) (outer : List Env) (s : Shared) (H : Hp) (E : XK) : Cx where
 prog := P
 w := w
 K := K
 mg := mg
 base := base
 A := A.deeper (envOfC qual scope s.heap.objs.size f cd)
 N := N
 s₀ := s
 H₀ := H
 env := envOfC qual scope s.heap.objs.size f cd
 outer := outer
 stack := envOfC qual scope s.heap.objs.size f cd :: outer
 ex := []
 calm := true
 fn := fun _ => true
 pn := []
 xe := fun e s' => wpAny (model P w) (A.deeper (envOfC qual scope s.heap.objs.size f cd)) (leaving (envOfC qual scope s.heap.objs.size f cd) e) (fun _ s'' => CX outer H s E e s'') (fun e' s'' => CX outer H s E e' s'') s'
theorem ZF4 {sc : Scope} {n : Nat} {x : Str} (h : sc.names.lookup x = some .cell) : ∃ c, (cellsFrom n sc.names []).lookup x = some c := by
 have q := PySem.W.cellsFrom_some sc.names n [] (.inl h)
 exact Option.isSome_iff_exists.mp q
theorem ZJh {CX : CXT} {P : Program} {w : World} {K : PySem.W.Frag} {mg : Str → Option Value} {base : Heap} {N ps : List Str} {qual : Str} {scope : Scope} {f : Addr} {cd : Value} {A : Around} {outer : List Env} {s s1 : Shared} {H : Hp} {E : XK} {us : List Value} {vs : List V}
  (S : ZP N ps scope) (hd : A.handled = none) (e0 : ZBW P w K mg base A outer s H) (hl : vs.length = ps.length) (r : ZV vs us)
  (x : InCallC s s.heap.objs.size (bindL (envOfC qual scope s.heap.objs.size f cd).kindOf (ps.zip us) fun _ => none) (cellsFrom (s.heap.objs.size + 1) scope.names []) (bindC (envOfC qual scope s.heap.objs.size f cd).kindOf (ps.zip us) fun _ => none) s1) :
  Inv (ZCj CX P w K mg base N qual scope f cd A outer s H E) [] (start N vs) H s1 := by
 have hpl : ps.length ≤ N.length := by have := congrArg List.length S.pre; rw [List.length_take] at this; omega
 obtain ⟨h1, tk, rfl, hk⟩ := x.done
 have noA : ∀ b : Addr, b ∉ (ZCj CX P w K mg base N qual scope f cd A outer s H E).ex := fun b z => absurd (show b ∈ ([] : List Addr) from z) (by simp)
 refine ⟨⟨e0.mod, S.kind, rfl, rfl, Nat.le_refl _, fun y z c h1 h2 => ?_, fun y hy => ?_, fun y c _ h => ?_, fun _ => hd, Around.frames_deeper e0.frames, .inr ⟨rfl, rfl⟩, fun b z => absurd z (noA b), e0.bs, e0.bsz, fun b _ _ => noA b, fun b z => absurd z (noA b), e0.funs, e0.frf⟩,
  rfl, e0.bare, Un.kept hk, ⟨_, x.toInCall.ns, fun i y v h1 h2 h3 => ?_⟩, fun y c h => ⟨_, x.cell y c h⟩, e0.hok.fresh (Nat.le_refl _), fun y c h => ?_, fun p hp => absurd (show p ∈ ([] : List (Addr × Obj)) from hp) (by simp), e0.hok.kept hk, ?_⟩
 ·exact name_of_addr x.apart (PySem.mem_of_lookup h1) (PySem.mem_of_lookup h2)
 ·have hy : scope.names.lookup y = some .cell ∨ scope.names.lookup y = some .free := hy
  rcases hy with hy | hy
  ·exact ZF4 hy
  ·exact absurd rfl (S.nofree _ (PySem.mem_of_lookup hy))
 ·exact Nat.le_of_lt (x.above y c (PySem.mem_of_lookup h))
 ·have hi : i < vs.length := by
   unfold start at h2
   by_cases hi : i < vs.length
   ·exact hi
   ·rw [List.getElem?_append_right (by simpa using hi)] at h2
    rw [List.getElem?_replicate] at h2
    split at h2 <;> cases h2
  have ha : vs[i]? = some v := by
   unfold start at h2
   rw [List.getElem?_append_left (by simpa using hi), List.getElem?_map] at h2
   cases e : vs[i]? with
   | none => rw [e] at h2; cases h2
   | some a => rw [e] at h2; cases h2; rfl
  obtain ⟨u, hu, rv⟩ := r.get ha
  have hp : ps[i]? = some y := by
   rw [← S.pre, List.getElem?_take_of_lt (by omega)]; exact h1
  have ndP : ps.Nodup := by rw [← S.pre]; exact S.nd.sublist (List.take_sublist _ _)
  refine ⟨u, rv, ?_⟩
  rcases S.par y (List.mem_of_getElem? hp) with k | k
  ·exact .inl ⟨k, ZE3 ndP hp hu k⟩
  ·obtain ⟨c, e⟩ := ZF4 (n := s.heap.objs.size + 1) k
   refine .inr ⟨.inl k, c, e, ?_⟩
   have q := x.cell y c e
   rw [ZE4 ndP hp hu (by show scope.names.lookup y ≠ _; rw [k]; decide)] at q
   exact q
 ·exact e0.hok.fresh (Nat.le_of_lt (x.above y c (PySem.mem_of_lookup h)))
 ·unfold start
  show _ = N.length
  rw [List.length_append, List.length_map, List.length_replicate]
  omega
theorem ZFr {CX : CXT} {P : Program} {w : World} {K : PySem.W.Frag} {mg : Str → Option Value} {base : Heap} {k : Nat} {f : Addr} {name qual : Str} {params : Arguments} {body : List Stmt} {scope : Scope} {dV kV doc pm cdv ct oc : Value} {an od : Option Addr}
  {osl : Array (Option Value)} {N ps : List Str} {sp : Sp} (lk : K.lookup f = some ⟨oc, od, .func (PySem.W.fnOf name qual params body scope dV kV doc pm an cdv ct), osl⟩) (hcd : PySem.W.codeIn K cdv qual = true) (S : ZP N ps scope)
  (len : ∀ vs H Q E, sp vs H Q E → vs.length = ps.length)
  (hbody : ∀ (A : Around) (outer : List Env) (s : Shared) (H : Hp) (vs : List V) (Q : VK) (E : XK), Z0 k (A.deeper (envOfC qual scope s.heap.objs.size f cdv)) → sp vs H Q E →
   ∃ t, PSs (ZCj CX P w K mg base N qual scope f cdv A outer s H E) body t ∧ t { nx := fun _ H' => Q .non H', rt := Q } (start N vs) H) :
  ZQ P w K mg base CX (k + 1) f (PySem.W.fnOf name qual params body scope dV kV doc pm an cdv ct) ps sp := by
 refine ⟨len, fun A outer s H args us vs Q E hr e0 hb r hsp => ?_⟩
 have hl := len _ _ _ _ hsp
 have KX : K.In s.heap := e0.mod.kin.keeps fun b o e => (e0.bs b o e).1
 have lim : s.heap.NoLimit := e0.mod.nolimit.keeps fun b o e => (e0.bs b o e).1
 have hkind : ∀ y ∈ ps.zip us, scope.names.lookup y.1 = some .local ∨ (scope.names.lookup y.1 = some .cell ∧ ((cellsFrom (s.heap.objs.size + 1) scope.names []).lookup y.1).isSome = true) := fun ⟨n, v⟩ hy => by
  rcases S.par n (List.of_mem_zip hy).1 with q | q
  ·exact .inl q
  ·exact .inr ⟨q, PySem.W.cellsFrom_some _ _ _ (.inl q)⟩
 refine codeAny_call_function hr.depth (KX _ _ lk) rfl S.co S.gen rfl (PySem.W.codeRec_of KX hcd) (hb _ _ _ _ ?_)
 refine wpAny_newFunctionEnv_cells S.kind hkind fun env he s1 x => ?_
 subst he
 refine ⟨lim.keeps x.toInCall.keep, codeAny_func ?_⟩
 obtain ⟨t, ht, hq⟩ := hbody A outer s H vs Q E (hr.deeper _) hsp
 have I : Inv (ZCj CX P w K mg base N qual scope f cdv A outer s H E) [] (start N vs) H s1 := ZJh S hr.hd e0 hl r x
 refine wpAny_mono (ht [] s1 (start N vs) H _ I hq) (fun fl s' hs => ?_) fun e s' hs => hs
 have fin : ∀ {σ' : St} {H' : Hp} {v : V} {u : Value}, Inv (ZCj CX P w K mg base N qual scope f cdv A outer s H E) [] σ' H' s' → ZX v u → Q v H' → CE outer P w H s Q u s' :=
  fun {σ' H' v u} J rv q => ⟨v, H', J.os, J.bare, J.base, J.hok, rv, q⟩
 cases fl with
 | ret u =>
  obtain ⟨v, σ', H', J, rv, q⟩ := hs
  exact fin J rv q
 | next =>
  obtain ⟨σ', H', J, q⟩ := hs
  exact fin (v := V.non) (u := Value.none) J rfl q
 | brk =>
  obtain ⟨_, _, _, q⟩ := hs
  exact False.elim q
 | cont =>
  obtain ⟨_, _, _, q⟩ := hs
  exact False.elim q
end L2
namespace L2
open PySem PySem.Spec PyProof.Rows
section
variable {X : Cx} {x : Str} {p pos : Pos} {e : Expr} {es : List Expr} {t : TA} {id T : String} {r : List V → Hp → VK → Prop}
def tCB (r : List V → Hp → VK → Prop) (t : TA) : TE := fun σ H Q => t σ H fun vs H1 => r vs H1 Q
theorem ZLd (hc : Z9 X (.builtin id) r) (hg : Gl X x) (hm : X.mg x = none) (hv : bootBuiltins x = some (.builtin id)) (ha : PA X (e :: es) t) (hn : x ≠ "__name__" := by decide) (hdb : (x == ("__debug__" : Str)) = false := by decide)
  (he : starEach (e :: es) X.env = (false, eval e X.env) :: starEach es X.env := by rfl) (hpl : (backTo pos (starEach es X.env)).any (·.1) = false := by rfl) : PE X (.Call (.Name x p) (e :: es) [] pos) (tCB r t) := by
 intro pins s σ H Q I h
 refine wpAny_Call_Name_kw (ZAa I hg hm hv ?_ hn hdb)
 exact PyProof.Rows.callWith_builtin1 (thn (ha pos pins s σ H _ I h) fun us s1 ⟨vs, H1, I1, r1, q1⟩ => hc pins s1 σ H1 vs us Q I1 r1 q1) he hpl
theorem ZJi (hc : Z9 X (.type T) r) (hg : Gl X x) (hm : X.mg x = none) (hv : bootBuiltins x = some (.type T)) (ha : PA X (e :: es) t) (hn : x ≠ "__name__" := by decide) (hdb : (x == ("__debug__" : Str)) = false := by decide)
  (he : starEach (e :: es) X.env = (false, eval e X.env) :: starEach es X.env := by rfl) (hpl : (backTo pos (starEach es X.env)).any (·.1) = false := by rfl) : PE X (.Call (.Name x p) (e :: es) [] pos) (tCB r t) := by
 intro pins s σ H Q I h
 refine wpAny_Call_Name_kw (ZAa I hg hm hv ?_ hn hdb)
 exact PyProof.Rows.callWith_type1 (thn (ha pos pins s σ H _ I h) fun us s1 ⟨vs, H1, I1, r1, q1⟩ => hc pins s1 σ H1 vs us Q I1 r1 q1) he hpl
end
end L2
namespace HT
open PySem PyProof.Rows
section
open PySem.SeqAt
open PySem.AutoSeq1 (wpAny_loadPart')
open PySem.MeetsSeq PySem.MeetsSeq2 PySem.MeetsSeq3
end
section
variable {prog : Program} {w : World} {A : Around} {E : Value → Shared → Prop} {s : Shared}
def sIx (n d : Nat) : Option Int → Nat
 | none => d
 | some v => if v < 0 then (v + (n : Int)).toNat else min v.toNat n
theorem sIx_none (n d : Nat) : sIx n d none = d := rfl
theorem sIx_nat (n d k : Nat) : sIx n d (some (k : Int)) = min k n := by
 show (if (k : Int) < 0 then ((k : Int) + (n : Int)).toNat else min (k : Int).toNat n) = min k n
 rw [if_neg (by omega), Int.toNat_natCast]
theorem ZQR (n d : Nat) (hd : d ≤ n) (o : Option Int) : sIx n d o ≤ n := by
 cases o with
 | none => exact hd
 | some v =>
  show (if v < 0 then (v + (n : Int)).toNat else min v.toNat n) ≤ n
  by_cases hv : v < 0
  ·rw [if_pos hv]; omega
  ·rw [if_neg hv]; exact Nat.min_le_right _ _
theorem ZHs (v : Int) (n d : Nat) : (if v < 0 then max (v + (n : Int)) 0 else min v (n : Int)) = ((sIx n d (some v) : Nat) : Int) := by
 show (if v < 0 then max (v + (n : Int)) 0 else min v (n : Int)) = (((if v < 0 then (v + (n : Int)).toNat else min v.toNat n) : Nat) : Int)
 by_cases hv : v < 0
 ·simp only [if_pos hv]; omega
 ·simp only [if_neg hv]; omega
theorem ZIW (lo hi : Option Int) (n : Nat) : Builtin.Slice.sliceAdjust lo hi 1 (n : Int) = (((sIx n 0 lo : Nat) : Int), ((sIx n n hi : Nat) : Int)) := by
 have h1 : ¬ ((1 : Int) < 0) := by omega
 unfold Builtin.Slice.sliceAdjust
 simp only [h1, if_false]
 refine Prod.ext ?_ ?_
 ·cases lo with
  | none => rfl
  | some v => exact ZHs v n 0
 ·cases hi with
  | none => rfl
  | some v => exact ZHs v n n
theorem ZIX (i j : Nat) : Builtin.Slice.slicePlaces (i : Int) (j : Int) 1 = j - i := by
 unfold Builtin.Slice.slicePlaces
 have h1 : (1 : Int) > 0 := by omega
 simp only [h1, if_true, Int.ediv_one]
 split <;> omega
theorem ZEF {v : Value} {o : Option Int} {Q : Option Int → Shared → Prop} (p : IsPart v o) (h : Q o s) : wpAny (model prog w) A (Builtin.Slice.slicePartIndex v) Q E s := by
 cases p with
 | none => exact slicePart_none h
 | int i t => exact slicePart_int h
theorem sliceApplied_gen {sl : Addr} {vl vu : Value} {lo hi : Option Int} {n : Nat} {Q : Int × Int × Nat → Shared → Prop} (hs : s.heap.IsSliceOf sl vl vu .none) (pl : IsPart vl lo) (pu : IsPart vu hi)
  (h : Q (((sIx n 0 lo : Nat) : Int), 1, sIx n n hi - sIx n 0 lo) s) : wpAny (model prog w) A (Builtin.Slice.sliceApplied (.ref sl) (pure (n : Int))) Q E s := by
 obtain ⟨os, hos, hcs, hds⟩ := id hs
 unfold Builtin.Slice.sliceApplied Builtin.Slice.sliceFields
 refine wpAny_bind (wpAny_bind (wpAny_field hos hds (x := vl) rfl (wpAny_bind (wpAny_field hos hds (x := vu) rfl (wpAny_bind (wpAny_field hos hds (x := .none) rfl (wpAny_pure ?_)))))))
 refine wpAny_bind (slicePart_none ?_)
 show wpAny _ _ (if ((1 : Int) == 0) = true then _ else _) _ _ s
 rw [if_neg (by decide)]
 refine wpAny_bind (ZEF pl (wpAny_bind (ZEF pu (wpAny_bind (wpAny_pure ?_)))))
 show wpAny _ _ (match Builtin.Slice.sliceAdjust lo hi 1 (n : Int) with | (lo, hi) => pure (lo, (1 : Int), Builtin.Slice.slicePlaces lo hi 1)) _ _ s
 rw [ZIW lo hi n]
 show wpAny _ _ (pure (((sIx n 0 lo : Nat) : Int), (1 : Int), Builtin.Slice.slicePlaces ((sIx n 0 lo : Nat) : Int) ((sIx n n hi : Nat) : Int) 1)) _ _ s
 rw [ZIX]
 exact wpAny_pure h
theorem ZLe (xs : Array Value) (i k : Nat) : ((List.range k).filterMap fun (m : Nat) => xs[((i : Int) + (m : Int) * 1).toNat]?).toArray = ((xs.toList.drop i).take k).toArray := by
 have e : (fun (m : Nat) => xs[((i : Int) + (m : Int) * 1).toNat]?) = fun m => xs[i + m]? := by
  funext m
  have : ((i : Int) + (m : Int) * 1).toNat = i + m := by omega
  rw [this]
 rw [e]
 have := pick_run xs i k
 rw [List.filterMap_map] at this
 have e2 : ((fun x => xs[x]?) ∘ fun x => i + x) = fun m => xs[i + m]? := rfl
 rw [e2] at this
 rw [this]
theorem getItem_tuple_cut {t sl : Addr} {items : Array Value} {vl vu : Value} {lo hi : Option Int} {Q : Value → Shared → Prop} (ht : IsTup s.heap t items) (hs : s.heap.IsSliceOf sl vl vu .none) (pl : IsPart vl lo) (pu : IsPart vu hi)
  (hw : ¬ (sIx items.size 0 lo = 0 ∧ sIx items.size items.size hi = items.size))
  (h : Q (.ref s.heap.objs.size) { s with heap := s.heap.push { cls := .type "tuple", data := .seq ((items.toList.drop (sIx items.size 0 lo)).take (sIx items.size items.size hi - sIx items.size 0 lo)).toArray } })
  (hsz : items.size ≤ sizeLine) : wpAny (model prog w) A (getItem (.ref t) (.ref sl)) Q E s := by
 have htake : sizeOk (.seq ((items.toList.drop (sIx items.size 0 lo)).take (sIx items.size items.size hi - sIx items.size 0 lo)).toArray) := by
  show ((items.toList.drop (sIx items.size 0 lo)).take (sIx items.size items.size hi - sIx items.size 0 lo)).toArray.size ≤ sizeLine
  rw [List.size_toArray, List.length_take, List.length_drop, Array.length_toList]
  omega
 have hj : sIx items.size items.size hi ≤ items.size := ZQR _ _ (Nat.le_refl _) hi
 obtain ⟨os, hos, hcs, hds⟩ := id hs
 have hTs : s.TypeIs (.ref sl) "slice" := ⟨os, hos, hcs⟩
 unfold getItem
 try with_reducible refine wpAny_holding ?_
 first | refine wpAny_bind (wpAny_pure ?_) | skip
 refine wpAny_bind (wpAny_sequenceKey ht.typeIs (by decide) ?_)
 refine wpAny_bind (wpAny_callSpecial?_slot (name := Str.ofString "__getitem__") ht.typeIs PyProof.Rows.slot_tuple_getitem
  (wpAny_call_entry PyProof.Rows.slot_tuple_getitem ht.typeIs entry_tuple_getitem ?_ (args_tuple_getitem _ _)))
 show wpAny _ _ (Builtin.Tuple.tupleItemsOf (.ref t) >>= _) _ _ s
 refine wpAny_bind (tupleItemsOf_ ht ?_)
 refine wpAny_bind (wpAny_typeOf hTs ?_)
 rw [if_pos (by decide)]
 refine wpAny_bind (sliceApplied_gen hs pl pu ?_)
 have hno : ¬ ((((sIx items.size 0 lo : Nat) : Int) == 0 && (1 : Int) == 1 && (sIx items.size items.size hi - sIx items.size 0 lo) == items.size) = true) := by
  intro q
  rw [Bool.and_eq_true, Bool.and_eq_true] at q
  have q1 : ((sIx items.size 0 lo : Nat) : Int) = 0 := eq_of_beq q.1.1
  have q2 : sIx items.size items.size hi - sIx items.size 0 lo = items.size := eq_of_beq q.2
  exact hw ⟨by omega, by omega⟩
 show wpAny _ _ (if (((sIx items.size 0 lo : Nat) : Int) == 0 && (1 : Int) == 1 && (sIx items.size items.size hi - sIx items.size 0 lo) == items.size) = true then _ else _) _ _ s
 rw [if_neg hno, ZLe]
 first
  | exact wpAny_bind (m := Builtin.Tuple.tupleExact _) (wpAny_newObj_type (wpAny_pure ⟨_, rfl, wpAny_pure h⟩) htake)
  | exact wpAny_bind (m := Builtin.Tuple.tupleExact _) (wpAny_newObj_type (wpAny_bind (wpAny_pure (wpAny_pure ⟨_, rfl, wpAny_pure h⟩))) htake)
  | exact wpAny_bind (wpAny_bind (m := Builtin.Tuple.tupleExact _) (wpAny_newObj_type (wpAny_pure (wpAny_pure ⟨_, rfl, wpAny_pure h⟩)) htake))
  | exact wpAny_bind (wpAny_bind (m := Builtin.Tuple.tupleExact _) (wpAny_newObj_type (wpAny_pure ⟨_, rfl, wpAny_pure h⟩) htake))
end
end HT
namespace L2
open PySem PySem.Spec PyProof.Rows
abbrev TO := St → Hp → (Option Int → Hp → Prop) → Prop
def PO (X : Cx) (e : Option Expr) (t : TO) : Prop :=
 ∀ (pins : List (Addr × Obj)) (s : Shared) (σ : St) (H : Hp) (Q : Option Int → Hp → Prop), Inv X pins σ H s → t σ H Q →
  wpAny (model X.prog X.w) X.A (evalPart e X.env) (fun u s' => ∃ o H', Inv X pins σ H' s' ∧ IsPart u o ∧ Q o H') X.xe s
def ZEf : TO := fun _ H Q => Q none H
def ZIY (t : TE) : TO := fun σ H Q => t σ H fun x H1 => ∃ i, x = .int i ∧ Q (some i) H1
section
variable {X : Cx} {e : Expr} {te : TE} {lo hi : Option Expr} {tl th : TO} {pos p2 : Pos}
theorem ZOA : PO X none ZEf := by
 intro pins s σ H Q I h
 rw [evalPart_none]
 exact wpAny_pure ⟨none, H, I, .none, h⟩
theorem ZOB (h : PE X e te) : PO X (some e) (ZIY te) := by
 intro pins s σ H Q I hw
 rw [evalPart_some]
 refine thn (h pins s σ H _ I hw) fun u s1 ⟨x, H1, I1, r1, q1⟩ => ?_
 obtain ⟨i, rfl, q⟩ := q1
 obtain ⟨t, rfl⟩ := r1
 exact ⟨some i, H1, I1, .int i t, q⟩
def SlR (X : Cx) (r : V → Option Int → Option Int → Hp → VK → Prop) : Prop :=
 ∀ (pins : List (Addr × Obj)) (s : Shared) (σ : St) (H : Hp) (x : V) (v vl vu : Value) (lo hi : Option Int) (sl : Addr) (Q : VK), Inv X pins σ H s → ZX x v → s.heap.IsSliceOf sl vl vu .none → IsPart vl lo → IsPart vu hi → r x lo hi H Q →
  ∃ T id, typeLookup (.type T) "__getitem__" = pure (some (.builtin id)) ∧ s.TypeIs v T ∧ wpAny (model X.prog X.w) X.A (getItem v (.ref sl)) (EP X pins σ Q) X.xe s
theorem SlR.or {r r' : V → Option Int → Option Int → Hp → VK → Prop} (h : SlR X r) (h' : SlR X r') : SlR X (fun x lo hi H Q => r x lo hi H Q ∨ r' x lo hi H Q) := by
 intro pins s σ H x v vl vu lo hi sl Q I rx hs pl pu q
 rcases q with q | q
 ·exact h pins s σ H x v vl vu lo hi sl Q I rx hs pl pu q
 ·exact h' pins s σ H x v vl vu lo hi sl Q I rx hs pl pu q
def tSl (r : V → Option Int → Option Int → Hp → VK → Prop) (te : TE) (tl th : TO) : TE := fun σ H Q => te σ H fun x H1 => tl σ H1 fun l H2 => th σ H2 fun u H3 => r x l u H3 Q
theorem ZLf {r : V → Option Int → Option Int → Hp → VK → Prop} (hr : SlR X r) (he : PE X e te) (hl : PO X lo tl) (hu : PO X hi th) : PE X (.Subscript e (.Slice lo hi none p2) pos) (tSl r te tl th) := by
 intro pins s σ H Q I h
 refine Subscript_ (thn (he pins s σ H _ I h) fun v s1 ⟨x, H1, I1, r1, q1⟩ => ?_)
 refine wpAny_Slice (thn (hl pins s1 σ H1 _ I1 q1) fun vl s2 ⟨l, H2, I2, pl, q2⟩ => thn (hu pins s2 σ H2 _ I2 q2) fun vu s3 ⟨u, H3, I3, pu, q3⟩ => ?_)
 rw [evalPart_none]
 refine wpAny_pure ?_
 have I4 : Inv X pins σ H3 { s3 with heap := s3.heap.push { cls := .type "slice", data := .fields #[vl, vu, .none] } } := I3.kept (t' := s3.toks) fun b ob q => Heap.get?_push_of_some _ q
 obtain ⟨T, id, hT, ht, hg⟩ := hr pins { s3 with heap := s3.heap.push { cls := .type "slice", data := .fields #[vl, vu, .none] } } σ H3 x v vl vu l u s3.heap.objs.size Q I4 r1 (Heap.IsSliceOf.new ..) pl pu q3
 show wpAny (model X.prog X.w) X.A (subscriptTail e (.Slice lo hi none p2) v (.ref s3.heap.objs.size)) (EP X pins σ Q) X.xe { s3 with heap := s3.heap.push { cls := .type "slice", data := .fields #[vl, vu, .none] } }
 exact tail_any (ops := [.ref s3.heap.objs.size, v]) ht hT hg (by with_unfolding_all rfl)
def JT (xs : List V) (lo hi : Option Int) : List V := (xs.drop (HT.sIx xs.length 0 lo)).take (HT.sIx xs.length xs.length hi - HT.sIx xs.length 0 lo)
theorem ZBX (xs : List V) (lo hi : Option Int) : (JT xs lo hi).length ≤ xs.length := by
 unfold JT
 rw [List.length_take, List.length_drop]
 omega
def ZSa (K : PySem.W.Frag) : V → Option Int → Option Int → Hp → VK → Prop := fun x lo hi H Q => ∃ a xs, x = .ref a ∧ SqT K H a xs ∧
 ¬ (HT.sIx xs.length 0 lo = 0 ∧ HT.sIx xs.length xs.length hi = xs.length) ∧ ∀ p, H p = none → Q (.ref p) (upd H p (.tup (JT xs lo hi)))
theorem ZQS : SlR X (ZSa X.K) := by
 intro pins s σ H x v vl vu lo hi sl Q I rx hs pl pu h
 obtain ⟨a, xs, rfl, hx, hw, q⟩ := h
 cases rx
 obtain ⟨its, r, ht, hz⟩ := I.tuple hx
 have hlen : its.toArray.size = xs.length := by rw [List.size_toArray]; exact r.length.symm
 refine ⟨"tuple", _, PyProof.Rows.slot_tuple_getitem.lookup, ht.typeIs, ?_⟩
 refine HT.getItem_tuple_cut ht hs pl pu (by rw [hlen]; exact hw) ?_ (by rw [hlen]; exact hz)
 rw [hlen]
 refine ⟨.ref s.heap.objs.size, _, I.laid (t' := s.toks) (o := .tup (JT xs lo hi)) (fun b ob q => Heap.get?_push_of_some _ q) (Nat.le_refl _) ?_, rfl, q _ (I.hok.fresh (Nat.le_refl _))⟩
 exact ⟨⟨Nat.le_trans (ZBX xs lo hi) hz, fun _ => ⟨_, Heap.get?_push_size _ rfl, rfl, rfl⟩⟩, _, (r.drop (HT.sIx xs.length 0 lo)).take (HT.sIx xs.length xs.length hi - HT.sIx xs.length 0 lo), IsTup.new _ _⟩
end
end L2
namespace L2
open PySem PySem.Spec PyProof.Rows
def ixN (n : Nat) (i : Int) : Option Nat := if 0 ≤ i then (if i < n then some i.toNat else none) else if -(n : Int) ≤ i then some (i + n).toNat else none
def atI {α : Type} (xs : List α) (i : Int) : Option α := (ixN xs.length i).bind fun j => xs[j]?
theorem ZHt {n : Nat} {i : Int} {j : Nat} (h : ixN n i = some j) : seqIndex? i n = some j ∧ j < n ∧ -(n : Int) ≤ i ∧ i < n := by
 unfold ixN at h
 by_cases h0 : 0 ≤ i
 ·rw [if_pos h0] at h
  by_cases h1 : i < n
  ·rw [if_pos h1] at h
   have e : i.toNat = j := Option.some.inj h
   exact ⟨by rw [seqIndex_of h0 h1, e], by omega, by omega, h1⟩
  ·rw [if_neg h1] at h; cases h
 ·rw [if_neg h0] at h
  by_cases h1 : -(n : Int) ≤ i
  ·rw [if_pos h1] at h
   have e : (i + n).toNat = j := Option.some.inj h
   exact ⟨by rw [seqIndex_neg (by omega) h1, e], by omega, h1, by omega⟩
  ·rw [if_neg h1] at h; cases h
theorem ZHu {α : Type} {xs : List α} {i : Int} {v : α} (h : atI xs i = some v) : ∃ j, seqIndex? i xs.length = some j ∧ xs[j]? = some v ∧ j < xs.length ∧ -(xs.length : Int) ≤ i ∧ i < xs.length := by
 unfold atI at h
 cases e : ixN xs.length i with
 | none => rw [e] at h; cases h
 | some j =>
  rw [e] at h
  obtain ⟨h1, h2, h3, h4⟩ := ZHt e
  exact ⟨j, h1, h, h2, h3, h4⟩
theorem ZBk {α : Type} {xs : List α} {j : Nat} {v : α} (h : xs[j]? = some v) : atI xs (j : Int) = some v := by
 have hj : j < xs.length := (List.getElem?_eq_some_iff.mp h).1
 have e : ixN xs.length (j : Int) = some j := by
  unfold ixN
  rw [if_pos (by omega), if_pos (by omega)]; simp
 unfold atI; rw [e]; exact h
def ZHv (b : Expr) : Prop := ∀ o i, subscripted b false o i = operate [o, i] (getItem o i)
def IxR (X : Cx) (r : R2) : Prop :=
 ∀ (value slice : Expr) (pins : List (Addr × Obj)) (s : Shared) (σ : St) (H : Hp) (x y : V) (v u : Value) (Q : VK), Inv X pins σ H s → ZX x v → ZX y u → r x y H Q →
  subscripted slice false v u = operate [v, u] (getItem v u) → wpAny (model X.prog X.w) X.A (subscriptTail value slice v u) (EP X pins σ Q) X.xe s
def MtR (X : Cx) (id : String) (r : V → List V → Hp → VK → Prop) : Prop :=
 ∀ (pins : List (Addr × Obj)) (s : Shared) (σ : St) (H : Hp) (x : V) (xs : List V) (v : Value) (us : List Value) (Q : VK), Inv X pins σ H s → ZX x v → ZV xs us → r x xs H Q →
  wpAny (model X.prog X.w) X.A (call (.builtin id) (v :: us)) (EP X pins σ Q) X.xe s
section
variable {X : Cx} {a b : Expr} {ta tb : TE} {pos : Pos}
theorem IxR.or {r r' : R2} (h : IxR X r) (h' : IxR X r') : IxR X (fun x y H Q => r x y H Q ∨ r' x y H Q) := by
 intro value slice pins s σ H x y v u Q I rx ry q hs
 rcases q with q | q
 ·exact h value slice pins s σ H x y v u Q I rx ry q hs
 ·exact h' value slice pins s σ H x y v u Q I rx ry q hs
theorem MtR.or {id : String} {r r' : V → List V → Hp → VK → Prop} (h : MtR X id r) (h' : MtR X id r') : MtR X id (fun x xs H Q => r x xs H Q ∨ r' x xs H Q) := by
 intro pins s σ H x xs v us Q I rx rs q
 rcases q with q | q
 ·exact h pins s σ H x xs v us Q I rx rs q
 ·exact h' pins s σ H x xs v us Q I rx rs q
theorem ZRu {r : R2} (hr : IxR X r) (ha : PE X a ta) (hb : PE X b tb) (hs : ZHv b) : PE X (.Subscript a b pos) (tOp r ta tb) := by
 intro pins s σ H Q I h
 exact Subscript_ (ZLO ha hb I h fun v u s2 x y H2 I2 rx ry q => hr a b pins s2 σ H2 x y v u Q I2 rx ry q (hs _ _))
def ZIZ (K : PySem.W.Frag) : R2 := fun x y H Q => ∃ p xs i v, x = .ref p ∧ y = .int i ∧ SqL K H p xs ∧ atI xs i = some v ∧ Q v H
def ZLg (K : PySem.W.Frag) : R2 := fun x y H Q => ∃ p xs i v, x = .ref p ∧ y = .int i ∧ SqT K H p xs ∧ atI xs i = some v ∧ Q v H
theorem ZOC : IxR X (ZIZ X.K) := by
 intro value slice pins s σ H x y v u Q I rx ry h hs
 obtain ⟨p, xs, i, z, rfl, rfl, hq, he, q⟩ := h
 cases rx
 obtain ⟨t, rfl⟩ := ry
 obtain ⟨its, r, pl, hz⟩ := I.list hq
 obtain ⟨j, h1, h2, h3, h4, h5⟩ := ZHu he
 obtain ⟨w, ew, rw'⟩ := r.get h2
 have hl := r.length
 have hn := ZCh
 have fin : EP X pins σ Q w s := ⟨z, H, I, rw', q⟩
 by_cases h0 : 0 ≤ i
 ·have hj : i.toNat = j := by
   rw [seqIndex_of h0 h5] at h1
   exact Option.some.inj h1
  exact item_listR pl.isList h0 (by omega) (by rw [hj]; simpa using ew) fin hs
 ·have hj : (i + (its.toArray.size : Int)).toNat = j := by
   rw [seqIndex_neg (by omega) h4] at h1
   rw [List.size_toArray, ← hl]
   exact Option.some.inj h1
  exact subscriptTail_builtinR (x := w) pl.isList.typeIs slot_list_getitem.lookup
   (wpAny_getItem_list_neg (Q := fun r s' => r = w ∧ EP X pins σ Q r s') pl.isList (by omega) (by rw [List.size_toArray] <;> omega) (by omega) (by rw [hj]; simpa using ew) ⟨rfl, fin⟩) hs
theorem ZQT : IxR X (ZLg X.K) := by
 intro value slice pins s σ H x y v u Q I rx ry h hs
 obtain ⟨p, xs, i, z, rfl, rfl, hq, he, q⟩ := h
 cases rx
 obtain ⟨t, rfl⟩ := ry
 obtain ⟨its, r, pl, hz⟩ := I.tuple hq
 obtain ⟨j, h1, h2, h3, h4, h5⟩ := ZHu he
 obtain ⟨w, ew, rw'⟩ := r.get h2
 have hl := r.length
 have hn := ZCh
 have fin : EP X pins σ Q w s := ⟨z, H, I, rw', q⟩
 exact subscriptTail_builtinR (x := w) pl.typeIs slot_tuple_getitem.lookup
  (getItem_tuple (j := j) (Q := fun r s' => r = w ∧ EP X pins σ Q r s') pl (by omega) (by omega) (by rw [List.size_toArray, ← hl]; exact h1) (by simpa using ew) ⟨rfl, fin⟩) hs
theorem ZIa (its : List Value) (n j : Nat) (u : Value) : Obj.mapSeq (·.setIfInBounds j u) { cls := .type "list", data := .seq its.toArray n } = { cls := .type "list", data := .seq (its.set j u).toArray n } := by
 simp [Obj.mapSeq]
theorem Inv.lst {pins : List (Addr × Obj)} {σ : St} {H : Hp} {s : Shared} {p : Addr} {xs : List V} (I : Inv X pins σ H s) (h : H p = some (.lst xs)) :
  ∃ (its : List Value) (n : Nat), ZV xs its ∧ s.heap.get? p = some { cls := .type "list", data := .seq its.toArray n } ∧ xs.length ≤ sizeLine := by
 obtain ⟨z, its, n, r, e⟩ := I.hok p _ h
 exact ⟨its, n, r, e, z⟩
theorem Inv.lstUpd {pins : List (Addr × Obj)} {σ : St} {H : Hp} {s : Shared} {p : Addr} {xs ys : List V} {its its' : List Value} {n n' : Nat} {f : Obj → Obj} (I : Inv X pins σ H s) (h : H p = some (.lst xs))
  (ho : s.heap.get? p = some { cls := .type "list", data := .seq its.toArray n }) (hf : f { cls := .type "list", data := .seq its.toArray n } = { cls := .type "list", data := .seq its'.toArray n' }) (r : ZV ys its') (hz : ys.length ≤ sizeLine) (t : Nat) :
  Inv X pins σ (upd H p (.lst ys)) { s with heap := s.heap.update p f, toks := t } := by
 have e : (s.heap.update p f).get? p = some { cls := .type "list", data := .seq its'.toArray n' } := by
  rw [Heap.get?_update_self f ho (by rw [hf] <;> rfl), hf]
 refine I.write (x := p) (e := p) (by rw [h]; trivial) (.inl rfl) (fun b u hb q => (Heap.get?_update_other _ _ (Ne.symm hb)).trans q) ⟨_, e⟩ ?_
 exact ⟨hz, its', n', r, e⟩
def ZEG : V → V → V → Hp → (Hp → Prop) → Prop := fun o i v H Q => ∃ p xs k j, o = .ref p ∧ i = .int k ∧ H p = some (.lst xs) ∧ ixN xs.length k = some j ∧ Q (upd H p (.lst (xs.set j v)))
theorem Jt : ZIJ X ZEG := by
 intro pins s σ H o i v ov iv u Q I ro ri rv h
 obtain ⟨p, xs, k, j, rfl, rfl, hp, hj, q⟩ := h
 cases ro
 obtain ⟨t, rfl⟩ := ri
 obtain ⟨its, n, r, ho, hz⟩ := I.lst hp
 obtain ⟨h1, h2, h3, h4⟩ := ZHt hj
 have hl := r.length
 have hn := ZCh
 have I' : Inv X pins σ (upd H p (.lst (xs.set j v))) { s with heap := s.heap.update p (Obj.mapSeq (·.setIfInBounds j u)) } :=
  I.lstUpd hp ho (ZIa its n j u) (r.set rv j) (by rw [List.length_set]; exact hz) s.toks
 by_cases h0 : 0 ≤ k
 ·have hk : k.toNat = j := by
   rw [seqIndex_of h0 h4] at h1
   exact Option.some.inj h1
  exact PySem.W.ki_setAt ho h0 (by omega) (by rw [List.size_toArray, ← hl]; exact h4) (by rw [hk]; exact ⟨_, I', q⟩)
 ·have hk : (k + (its.toArray.size : Int)).toNat = j := by
   rw [seqIndex_neg (by omega) h3] at h1
   rw [List.size_toArray, ← hl]
   exact Option.some.inj h1
  exact PySem.W.ki_setBack ho (by omega) (by rw [List.size_toArray, ← hl]; exact h3) (by omega) (by rw [hk]; exact ⟨_, I', q⟩)
theorem ZF5 (lo hi : Option Int) (n : Nat) : (sliceBounds lo hi none n).1 = ((HT.sIx n 0 lo : Nat) : Int) ∧ (sliceBounds lo hi none n).2.1 = ((HT.sIx n n hi : Nat) : Int) ∧ (sliceBounds lo hi none n).2.2 = 1 := by
 refine ⟨?_, ?_, rfl⟩
 ·cases lo with
  | none => simp [sliceBounds, HT.sIx]
  | some i =>
   simp only [sliceBounds, HT.sIx, Option.getD_none, show (1 : Int) > 0 by decide, if_true]
   by_cases h : i < 0
   ·simp only [h, if_true] <;> omega
   ·simp only [h, if_false] <;> omega
 ·cases hi with
  | none => simp [sliceBounds, HT.sIx]
  | some i =>
   simp only [sliceBounds, HT.sIx, Option.getD_none, show (1 : Int) > 0 by decide, if_true]
   by_cases h : i < 0
   ·simp only [h, if_true] <;> omega
   ·simp only [h, if_false] <;> omega
theorem ZFR (its : List Value) (lo hi : Option Int) : slicePick its.toArray lo hi none = ((its.drop (HT.sIx its.length 0 lo)).take (HT.sIx its.length its.length hi - HT.sIx its.length 0 lo)).toArray := by
 obtain ⟨h1, h2, h3⟩ := ZF5 lo hi its.toArray.size
 unfold slicePick
 rw [h1, h2, h3]
 simp only [sliceRange_one, pick_run, List.size_toArray] <;> rfl
def ZIb (K : PySem.W.Frag) : V → Option Int → Option Int → Hp → VK → Prop := fun x lo hi H Q => ∃ a xs, x = .ref a ∧ SqL K H a xs ∧ ∀ p, H p = none → Q (.ref p) (upd H p (.lst (JT xs lo hi)))
theorem ZOD : SlR X (ZIb X.K) := by
 intro pins s σ H x v vl vu lo hi sl Q I rx hs pl pu h
 obtain ⟨a, xs, rfl, hx, q⟩ := h
 cases rx
 obtain ⟨its, r, ht, hz⟩ := I.list hx
 have hlen := r.length
 refine ⟨"list", _, slot_list_getitem.lookup, ht.isList.typeIs, ?_⟩
 refine wpAny_getItem_list_slice ht.isList hs pl pu .none (by simp) ?_ (by rw [List.size_toArray] <;> omega)
 rw [ZFR, ← hlen]
 refine ⟨.ref s.heap.objs.size, _, I.laid (t' := s.toks) (o := .lst (JT xs lo hi)) (fun b ob q => Heap.get?_push_of_some _ q) (Nat.le_refl _) ?_, rfl, q _ (I.hok.fresh (Nat.le_refl _))⟩
 exact ⟨Nat.le_trans (ZBX xs lo hi) hz, _, 0, (r.drop (HT.sIx xs.length 0 lo)).take (HT.sIx xs.length xs.length hi - HT.sIx xs.length 0 lo), Heap.get?_push_size _ rfl⟩
def ZAV : V → Bool
 | .non => true
 | .bl _ => true
 | .int _ => true
 | .str _ => true
 | _ => false
def eqV : V → V → Bool
 | .non, .non => true
 | .bl a, .bl b => a == b
 | .bl a, .int b => (if a then 1 else 0) == b
 | .int a, .bl b => a == (if b then 1 else 0)
 | .int a, .int b => a == b
 | .str a, .str b => a == b
 | _, _ => false
theorem ZQU {A : Around} {s : Shared} {y x : V} {u v : Value} (ry : ZX y u) (rx : ZX x v) (fy : ZAV y = true) (fx : ZAV x = true) : SeqAt.EqAt A s u v (eqV y x) := by
 cases y with
 | non =>
  cases ry
  cases x with
  | non => cases rx; exact SeqAt.EqAt.same _
  | bl b => cases rx; exact SeqAt.EqAt.none_bool b
  | int b => obtain ⟨t, rfl⟩ := rx; exact SeqAt.EqAt.none_int b t
  | str b => obtain ⟨t, rfl⟩ := rx; exact SeqAt.EqAt.none_str b t
  | _ => exact absurd (show false = true from fx) Bool.false_ne_true
 | bl a =>
  cases ry
  cases x with
  | non => cases rx; exact SeqAt.EqAt.bool_none a
  | bl b => cases rx; exact SeqAt.EqAt.bool_bool a b
  | int b => obtain ⟨t, rfl⟩ := rx; exact SeqAt.EqAt.bool_int a b t
  | str b => obtain ⟨t, rfl⟩ := rx; exact SeqAt.EqAt.bool_str a b t
  | _ => exact absurd (show false = true from fx) Bool.false_ne_true
 | int a =>
  obtain ⟨t', rfl⟩ := ry
  cases x with
  | non => cases rx; exact SeqAt.EqAt.int_none a t'
  | bl b => cases rx; exact SeqAt.EqAt.int_bool a t' b
  | int b => obtain ⟨t, rfl⟩ := rx; exact SeqAt.EqAt.int_int a t' b t
  | str b => obtain ⟨t, rfl⟩ := rx; exact SeqAt.EqAt.int_str a t' b t
  | _ => exact absurd (show false = true from fx) Bool.false_ne_true
 | str a =>
  obtain ⟨t', rfl⟩ := ry
  cases x with
  | non => cases rx; exact SeqAt.EqAt.str_none a t'
  | bl b => cases rx; exact SeqAt.EqAt.str_bool a t' b
  | int b => obtain ⟨t, rfl⟩ := rx; exact SeqAt.EqAt.str_int a t' b t
  | str b => obtain ⟨t, rfl⟩ := rx; exact SeqAt.EqAt.str_str a t' b t
  | _ => exact absurd (show false = true from fx) Bool.false_ne_true
 | _ => exact absurd (show false = true from fy) Bool.false_ne_true
def eqU (x : V) (u : Value) : Bool := match u with
 | .none => eqV .non x
 | .bool b => eqV (.bl b) x
 | .int i _ => eqV (.int i) x
 | .str z _ => eqV (.str z) x
 | _ => false
theorem ZJj {x y : V} {u : Value} (r : ZX y u) (f : ZAV y = true) : eqU x u = eqV y x := by
 cases y with
 | non => cases r; rfl
 | bl b => cases r; rfl
 | int i => obtain ⟨t, rfl⟩ := r; rfl
 | str z => obtain ⟨t, rfl⟩ := r; rfl
 | _ => exact absurd (show false = true from f) Bool.false_ne_true
theorem ZEg {x : V} : ∀ {xs : List V} {us : List Value}, ZV xs us → xs.all ZAV = true → us.any (eqU x) = xs.any fun y => eqV y x
 | _, _, .nil, _ => rfl
 | y :: xs, u :: us, .cons r t, f => by
  rw [List.all_cons, Bool.and_eq_true] at f
  rw [List.any_cons, List.any_cons, ZJj r f.1, ZEg t f.2]
theorem ZDg {A : Around} {s : Shared} {x : V} {v : Value} (rx : ZX x v) (fx : ZAV x = true) : ∀ {xs : List V} {us : List Value}, ZV xs us → xs.all ZAV = true → ∀ u ∈ us, SeqAt.EqAt A s u v (eqU x u)
 | _, _, .nil, _ => fun u hu => by cases hu
 | y :: xs, u :: us, .cons r t, f => fun u' hu => by
  rw [List.all_cons, Bool.and_eq_true] at f
  rcases List.mem_cons.mp hu with rfl | hu
  ·rw [ZJj r f.1]; exact ZQU r rx f.1 fx
  ·exact ZDg rx fx t f.2 u' hu
def inV (x : V) (xs : List V) : Bool := xs.any fun y => eqV y x
def rIn (K : PySem.W.Frag) (neg : Bool) : R2 := fun x y H Q => ∃ p xs, y = .ref p ∧ (SqL K H p xs ∨ SqT K H p xs) ∧ ZAV x = true ∧ xs.all ZAV = true ∧ Q (.bl (if neg then !inV x xs else inV x xs)) H
theorem ZJk : OpR X (compareOp .In) (rIn X.K false) := by
 intro pins s σ H x y v u Q I rx ry h
 obtain ⟨p, xs, rfl, hq, fx, fs, q⟩ := h
 cases ry
 rcases hq with hq | hq
 ·obtain ⟨its, r, pl, hz⟩ := I.list hq
  refine SeqAt.in_listAt (eqU x) pl.isList (fun w hw => ZDg rx fx r fs w (by simpa using hw)) ⟨.bl _, H, I, rfl, ?_⟩
  rw [show its.toArray.any (eqU x) = its.any (eqU x) by simp, ZEg r fs]
  exact q
 ·obtain ⟨its, r, pl, hz⟩ := I.tuple hq
  refine SeqAt.in_tupleAt (eqU x) pl (fun w hw => ZDg rx fx r fs w (by simpa using hw)) ⟨.bl _, H, I, rfl, ?_⟩
  rw [show its.toArray.any (eqU x) = its.any (eqU x) by simp, ZEg r fs]
  exact q
theorem ZF6 : Z9 X (.builtin "len") (fun xs H Q => ∃ p ys, xs = [.ref p] ∧ (SqL X.K H p ys ∨ SqT X.K H p ys) ∧ Q (.int ys.length) H) := by
 intro pins s σ H xs us Q I r h
 obtain ⟨p, ys, rfl, hq, q⟩ := h
 obtain ⟨u, rfl, rx⟩ := ZFo r
 cases rx
 have hn := ZCh
 rcases hq with hq | hq
 ·obtain ⟨its, r', pl, hz⟩ := I.list hq
  have hlen := r'.length
  exact Calls.call_len_list pl.isList (by simp only [List.size_toArray] <;> omega) ⟨.int ys.length, H, I.tok _, ⟨s.toks + 1, by rw [List.size_toArray, hlen]⟩, q⟩
 ·obtain ⟨its, r', pl, hz⟩ := I.tuple hq
  have hlen := r'.length
  exact len_tuple pl (by simp only [List.size_toArray] <;> omega) ⟨.int ys.length, H, I.tok _, ⟨s.toks + 1, by rw [List.size_toArray, hlen]⟩, q⟩
theorem Z9.or {f : Value} {r r' : List V → Hp → VK → Prop} (h : Z9 X f r) (h' : Z9 X f r') : Z9 X f (fun xs H Q => r xs H Q ∨ r' xs H Q) := by
 intro pins s σ H xs us Q I rs q
 rcases q with q | q
 ·exact h pins s σ H xs us Q I rs q
 ·exact h' pins s σ H xs us Q I rs q
theorem ZFS : Z9 X (.type "tuple") (fun xs H Q => ∃ p ys, xs = [.ref p] ∧ ((SqL X.K H p ys ∧ ∀ l, H l = none → Q (.ref l) (upd H l (.tup ys))) ∨ (SqT X.K H p ys ∧ Q (.ref p) H))) := by
 intro pins s σ H xs us Q I r h
 obtain ⟨p, ys, rfl, h⟩ := h
 obtain ⟨u, rfl, rx⟩ := ZFo r
 cases rx
 rcases h with ⟨hq, q⟩ | ⟨hq, q⟩
 ·obtain ⟨its, r', pl, hz⟩ := I.list hq
  have hlen := r'.length
  refine call_tuple_list pl.isList (fun h' kp => ?_) (by simp only [List.size_toArray] <;> omega)
  have I1 : Inv X pins σ H { s with heap := h' } := I.kept (t' := s.toks) kp
  have I2 : Inv X pins σ (upd H h'.objs.size (.tup ys)) { s with heap := h'.push { cls := .type "tuple", data := .seq its.toArray } } :=
   I1.laid (t' := s.toks) (fun b o e => Heap.get?_push_of_some _ e) (Nat.le_refl _) (show Zz X.prog X.w _ _ _ (.tup ys) from ⟨⟨hz, fun _ => ⟨_, Heap.get?_push_size _ rfl, rfl, rfl⟩⟩, its, r', IsTup.new _ _⟩)
  exact ⟨.ref h'.objs.size, _, I2, rfl, q _ (I1.hok.fresh (Nat.le_refl _))⟩
 ·obtain ⟨its, r', pl, hz⟩ := I.tuple hq
  exact call_tuple_same pl ⟨.ref p, H, I, rfl, q⟩
def tyV (K : PySem.W.Frag) (T : String) (x : V) (H : Hp) : Prop := match x with
 | .str _ => T = "str"
 | .int _ => T = "int"
 | .ref p => (T = "list" ∧ ∃ xs, SqL K H p xs) ∨ (T = "tuple" ∧ ∃ o, K.lookup p = some o ∧ o.cls = .type "tuple" ∧ o.dict = none) ∨
  (T = "dict" ∧ ((∃ kvs, H p = some (.dK kvs)) ∨ ∃ kvs, H p = some (.dT kvs))) ∨ (T = "set" ∧ ∃ S n, H p = some (.set S n))
 | _ => False
theorem ZJl {pins : List (Addr × Obj)} {σ : St} {H : Hp} {s : Shared} {T : String} {x : V} {v : Value} (I : Inv X pins σ H s) (r : ZX x v) (ty : tyV X.K T x H) :
  s.TypeIs v T ∧ ∀ a, v = .ref a → ∃ ob, s.heap.get? a = some ob ∧ ob.dict = none := by
 cases x with
 | str z =>
  obtain ⟨t, rfl⟩ := r
  cases (show T = "str" from ty)
  exact ⟨typeIs_str s z t, fun _ e => nomatch e⟩
 | int i =>
  obtain ⟨t, rfl⟩ := r
  cases (show T = "int" from ty)
  exact ⟨typeIs_int s i t, fun _ e => nomatch e⟩
 | ref p =>
  cases r
  rcases ty with ⟨rfl, xs, hq⟩ | ⟨rfl, o, hk, hc, hd⟩ | ⟨rfl, hk⟩ | ⟨rfl, S, n, hk⟩
  ·obtain ⟨its, _, pl, _⟩ := I.list hq
   refine ⟨pl.isList.typeIs, fun a e => ?_⟩
   cases e
   obtain ⟨o, n, e, c, hd, _⟩ := pl
   exact ⟨o, e, hd⟩
  ·refine ⟨⟨o, I.kIn p o hk, hc⟩, fun a e => ?_⟩
   cases e
   exact ⟨o, I.kIn _ o hk, hd⟩
  ·have z : ∃ o, s.heap.get? p = some o ∧ o.ExactDict := by
    rcases hk with ⟨kvs, hk⟩ | ⟨kvs, hk⟩
    ·obtain ⟨_, _, _, _, o, _, _, e, ex, _⟩ := I.hok p _ hk
     exact ⟨o, e, ex⟩
    ·obtain ⟨_, _, _, _, o, _, _, e, ex, _⟩ := I.hok p _ hk
     exact ⟨o, e, ex⟩
   obtain ⟨o, e, ex⟩ := z
   refine ⟨⟨o, e, ex.1⟩, fun a e2 => ?_⟩
   cases e2
   exact ⟨o, e, ex.2.1⟩
  ·obtain ⟨o, _, _, _, e, ex, _⟩ := I.hok p _ hk
   refine ⟨⟨o, e, ex.1⟩, fun a e2 => ?_⟩
   cases e2
   exact ⟨o, e, ex.2.1⟩
 | _ => exact False.elim ty
def ZLh (K : PySem.W.Frag) (T : String) (r : V → List V → Hp → VK → Prop) (to : TE) : TE := fun σ H Q => to σ H fun x H1 => tyV K T x H1 ∧ r x [] H1 Q
def tBM (K : PySem.W.Frag) (T : String) (r : V → List V → Hp → VK → Prop) (to : TE) (t : TA) : TE := fun σ H Q => to σ H fun x H1 => tyV K T x H1 ∧ t σ H1 fun xs H2 => r x xs H2 Q
variable {o e : Expr} {es : List Expr} {to : TE} {t : TA} {name : Str} {apos cpos : Pos} {T id : String} {r : V → List V → Hp → VK → Prop}
theorem ZQV (pa : PlainAttrs T) (slot : Slot T name id) (hty : typeOf (.builtin id) = pure (.type "method_descriptor")) (hm : MtR X id r) (ho : PE X o to)
  (hbase : attributeBase o name X.env (eval o X.env) = eval o X.env := by rfl) (hline : (apos.endLine == cpos.line) = true := by rfl) : PE X (.Call (.Attribute o name apos) [] [] cpos) (ZLh X.K T r to) := by
 intro pins s σ H Q I h
 refine wpAny_Call_method0_late hbase hline (thn (ho pins s σ H _ I h) fun v s1 ⟨x, H1, I1, r1, ty, q1⟩ => ?_)
 obtain ⟨h1, h2⟩ := ZJl I1 r1 ty
 exact ⟨T, id, pa, slot, hty, h1, h2, Calls.callWith_builtin rfl (PySem.evalArgs_none (hm pins s1 σ H1 x [] v [] Q I1 r1 .nil q1))⟩
theorem ZRv (pa : PlainAttrs T) (slot : Slot T name id) (hty : typeOf (.builtin id) = pure (.type "method_descriptor")) (hm : MtR X id r) (ho : PE X o to) (ha : PA X (e :: es) t)
  (hbase : attributeBase o name X.env (eval o X.env) = eval o X.env := by rfl)
  (hfew : ((backTo cpos (starEach (e :: es) X.env)).all (fun x => !x.1) && (backToKw cpos (keywordEach [] X.env)).all (fun x => x.1.isSome)
   && decide ((e :: es).length + ([] : List Keyword).length + (if ([] : List Keyword).isEmpty then 0 else 1) < 30)) = true := by rfl)
  (hline : (apos.endLine == cpos.line) = true := by rfl) (hs : starEach (e :: es) X.env = (false, eval e X.env) :: starEach es X.env := by rfl) (hplain : (backTo cpos (starEach es X.env)).any (·.1) = false := by rfl) :
  PE X (.Call (.Attribute o name apos) (e :: es) [] cpos) (tBM X.K T r to t) := by
 intro pins s σ H Q I h
 refine wpAny_Call_method_late hbase hfew hline rfl (thn (ho pins s σ H _ I h) fun v s1 ⟨x, H1, I1, r1, ty, q1⟩ => ?_)
 obtain ⟨h1, h2⟩ := ZJl I1 r1 ty
 refine ⟨T, id, pa, slot, hty, h1, h2, ?_⟩
 have hA := ha cpos pins s1 σ H1 _ I1 q1
 rw [hs] at hA ⊢
 refine Calls.callWith_builtin (by show (false || (backTo cpos (starEach es X.env)).any (·.1)) = false; rw [hplain] <;> rfl) (Calls.evalArgs_plain ?_)
 exact thn hA fun us s2 ⟨vs, H2, I2, r2, q2⟩ => hm pins s2 σ H2 x vs v us Q I2 r1 r2 q2
/- xs.append(e), list.index on a module's tuple .. are MtR facts of 06m -/
end
end L2
namespace L2
open PySem PySem.Spec PyProof.Rows
def MtM (X : Cx) (id : String) (r : V → List V → Hp → VK → Prop) : Prop :=
 ∀ (pins : List (Addr × Obj)) (s : Shared) (σ : St) (H : Hp) (x : V) (xs : List V) (v : Value) (us : List Value) (Q : VK), Inv X pins σ H s → ZX x v → ZV xs us → r x xs H Q →
  wpAny (model X.prog X.w) X.A (call (.builtin id) (v :: us)) (EP X pins σ Q) X.xe s
theorem ZV.one : ∀ {x : V} {us : List Value}, ZV [x] us → ∃ u, us = [u] ∧ ZX x u
 | _, _, .cons r .nil => ⟨_, rfl, r⟩
theorem ZV.two : ∀ {x y : V} {us : List Value}, ZV [x, y] us → ∃ u v, us = [u, v] ∧ ZX x u ∧ ZX y v
 | _, _, _, .cons r (.cons q .nil) => ⟨_, _, rfl, r, q⟩
theorem ZV.zero : ∀ {us : List Value}, ZV [] us → us = []
 | _, .nil => rfl
theorem ZV.dropLast {xs : List V} {us : List Value} (h : ZV xs us) : ZV xs.dropLast us.dropLast := by
 induction h with
 | nil => exact .nil
 | cons r t ih =>
  cases t with
  | nil => exact .nil
  | cons q t' => exact .cons r ih
theorem ZV.eraseIdx : ∀ {xs : List V} {us : List Value} (i : Nat), ZV xs us → ZV (xs.eraseIdx i) (us.eraseIdx i)
 | _, _, _, .nil => .nil
 | _, _, 0, .cons _ t => t
 | _, _, i + 1, .cons r t => .cons r (ZV.eraseIdx i t)
theorem ZV.reverse {xs : List V} {us : List Value} (h : ZV xs us) : ZV xs.reverse us.reverse := by
 induction h with
 | nil => exact .nil
 | cons r t ih => rw [List.reverse_cons, List.reverse_cons]; exact ZV.append ih (.cons r .nil)
theorem ZIc {α : Type} (l : List α) : l.eraseIdx (l.length - 1) = l.dropLast := by
 induction l with
 | nil => rfl
 | cons a r ih =>
  cases r with
  | nil => rfl
  | cons b r =>
   have e : (a :: b :: r).length - 1 = ((b :: r).length - 1) + 1 := by
    have h1 : (a :: b :: r).length = r.length + 2 := rfl
    have h2 : (b :: r).length = r.length + 1 := rfl
    omega
   rw [e, List.eraseIdx_cons_succ, ih]
   all_goals rfl
section
variable {X : Cx} {pins : List (Addr × Obj)} {σ : St} {H : Hp} {s : Shared} {l b : Addr} {xs ys zs : List V}
theorem Inv.lset {its its' : List Value} {n : Nat} {f : Array Value → Array Value} {t' : Nat} (I : Inv X pins σ H s) (hH : H l = some (.lst xs))
  (e : s.heap.get? l = some { cls := .type "list", data := .seq its.toArray n }) (hf : f its.toArray = its'.toArray) (hv : ZV ys its') (hz : ys.length ≤ sizeLine) :
  Inv X pins σ (upd H l (.lst ys)) { s with heap := s.heap.update l (Obj.mapSeq f), toks := t' } := by
 have q := PySem.IsL.update e f
 rw [hf] at q
 refine I.write (x := l) (e := l) (by rw [hH]; exact trivial) (.inl rfl) (fun b' u hb hu => (Heap.get?_update_other s.heap (Obj.mapSeq f) (Ne.symm hb)).trans hu) ⟨_, q⟩ ?_
 exact ⟨hz, its', _, hv, q⟩
theorem Inv.lnew {its : List Value} {t' : Nat} (I : Inv X pins σ H s) (hv : ZV ys its) (hz : ys.length ≤ sizeLine) :
  Inv X pins σ (upd H s.heap.objs.size (.lst ys)) { s with heap := s.heap.push { cls := .type "list", data := .seq its.toArray }, toks := t' } :=
 I.laid (fun _ _ q => Heap.get?_push_of_some _ q) (Nat.le_refl _) ⟨hz, its, 0, hv, Heap.get?_push_size _ rfl⟩
theorem Inv.fresh (I : Inv X pins σ H s) : H s.heap.objs.size = none := I.hok.fresh (Nat.le_refl _)
theorem Inv.lstM (I : Inv X pins σ H s) (hH : H l = some (.lst xs)) : xs.length ≤ sizeLine ∧ ∃ (its : List Value) (n : Nat), ZV xs its ∧ xs.length = its.length ∧ s.heap.get? l = some { cls := .type "list", data := .seq its.toArray n } := by
 obtain ⟨z, its, n, r, e⟩ := I.hok l _ hH
 exact ⟨z, its, n, r, r.length, e⟩
end
section
variable {X : Cx}
def ZHw : V → List V → Hp → VK → Prop := fun x vs H Q => ∃ l xs y, x = .ref l ∧ vs = [y] ∧ H l = some (.lst xs) ∧ xs.length < sizeLine ∧ Q .non (upd H l (.lst (xs ++ [y])))
theorem JA : MtM X "list.append" ZHw := by
 intro pins s σ H x vs v us Q I rx rv h
 obtain ⟨l, xs, y, rfl, rfl, hH, hz, q⟩ := h
 cases rx
 obtain ⟨u, rfl, ru⟩ := rv.one
 obtain ⟨z, its, n, r, hl, e⟩ := I.lstM hH
 refine call_meets F.slot_list_append ⟨_, e, rfl⟩ F.entry_list_append (F.args_list_append_2 _ _) (PySem.list_append l its.toArray n u (by rw [List.size_toArray]; omega)) ⟨e, ?_⟩
 refine ⟨.non, _, I.lset (its' := its ++ [u]) hH e (by simp) (r.append (.cons ru .nil)) ?_, rfl, q⟩
 rw [List.length_append, List.length_singleton]
 omega
def ZQW : V → List V → Hp → VK → Prop := fun x vs H Q => ∃ l xs y, x = .ref l ∧ vs = [] ∧ H l = some (.lst xs) ∧ xs[xs.length - 1]? = some y ∧ Q y (upd H l (.lst xs.dropLast))
theorem ZJm : MtM X "list.pop" ZQW := by
 intro pins s σ H x vs v us Q I rx rv h
 obtain ⟨l, xs, y, rfl, rfl, hH, hy, q⟩ := h
 cases rx
 have hus := rv.zero
 subst hus
 obtain ⟨z, its, n, r, hl, e⟩ := I.lstM hH
 obtain ⟨u, hu, ru⟩ := r.get hy
 have hy' : its.toArray[its.toArray.size - 1]? = some u := by
  show its.toArray[its.length - 1]? = some u
  rw [← Array.getElem?_toList, ← hl]
  exact hu
 refine call_meets F.slot_list_pop ⟨_, e, rfl⟩ F.entry_list_pop (F.args_list_pop_1 _) (MeetsSeq.list_pop_last l its.toArray n u hy' (by rw [List.size_toArray]; omega)) ⟨e, ?_⟩
 refine ⟨y, _, I.lset (its' := its.dropLast) hH e ?_ r.dropLast ?_, ru, q⟩
 ·show its.toArray.eraseIdxIfInBounds (its.toArray.size - 1) = its.dropLast.toArray
  rw [List.size_toArray, List.eraseIdxIfInBounds_toArray, ZIc]
 ·rw [List.length_dropLast]
  omega
def ZQX : R2 := fun x y H Q => ∃ l b xs zs, x = .ref l ∧ y = .ref b ∧ H l = some (.lst xs) ∧ H b = some (.lst zs) ∧ xs.length + zs.length ≤ sizeLine ∧ ∀ p, H p = none → Q (.ref p) (upd H p (.lst (xs ++ zs)))
theorem ZQY : OpR X (binaryOp .Add) ZQX := by
 intro pins s σ H x y v u Q I rx ry h
 obtain ⟨l, b, xs, zs, rfl, rfl, hH, hB, hz, q⟩ := h
 cases rx
 cases ry
 obtain ⟨z, its, n, r, hl, e⟩ := I.lstM hH
 obtain ⟨z2, its2, n2, r2, hl2, e2⟩ := I.lstM hB
 refine PySem.P.add_list e e2 ?_ (by rw [List.size_toArray, List.size_toArray]; omega)
 have ea : its.toArray ++ its2.toArray = (its ++ its2).toArray := by simp
 rw [ea]
 exact ⟨.ref _, _, I.lnew (t' := s.toks) (r.append r2) (by rw [List.length_append]; omega), rfl, q _ I.fresh⟩
end
section
variable {prog : Program} {w : World} {A : Around} {E : Value → Shared → Prop} {s : Shared}
end
section
variable {X : Cx}
end
end L2
namespace Att
open PySem PySem.W PySem.Calls PyProof.Rows
theorem ZEH {P : Params} {h : Heap} : ∀ (ns : List Int) (vs : List Value), WellAll P h vs (ns.map WData.int) → IntsAre vs ns := by
 intro ns
 induction ns with
 | nil =>
  intro vs w
  rw [List.map_nil] at w
  cases w
  exact .nil
 | cons n ns ih =>
  intro vs w
  rw [List.map_cons] at w
  cases w with
  | cons a b =>
   cases a
   exact .cons _ _ (ih _ b)
theorem ZJn {l : OpenLaw} {n : Nat} (hn : l.most = some n) {P : Params} {h : Heap} {args : List WData} {vals : List Value}
  (hpre : l.row.toRowW.claim.pre args = true) (hwl : WellAll P h vals args) :
  ∃ a vs ns, vals = [Value.ref a] ∧ args = [WData.list (ns.map WData.int)] ∧ h.get? a = some { cls := .type "list", data := .seq vs.toArray } ∧ IntsAre vs ns ∧ ns.length ≤ n := by
 have hsh : WShape.hasAll [] args [.list .int] = true := (pre_splitW hpre).1
 have hc : l.pre.holds [] { args := args } = true := (pre_splitW hpre).2
 obtain ⟨d, r, rfl, h1, h2⟩ := hasAllW_cons hsh
 obtain rfl := hasAllW_nil h2
 obtain ⟨xs, rfl, h3⟩ := hasW_list h1
 obtain ⟨ns, rfl⟩ := items_int h3
 have hlen : ns.length ≤ n := by
  unfold OpenLaw.pre at hc
  have h4 : (WTm.not (.lt (.lit (.int (n : Int))) (.len (.arg 0)))).holds [] { args := [.list (ns.map .int)] } = true := by
   have h4 := (holds_andW hc).1
   rw [hn] at h4
   exact h4
  have h5 := condW_of h4 (w_not (w_lt w_lit (w_len_list (w_arg rfl))))
  rw [List.length_map] at h5
  refine Nat.le_of_not_lt fun q => ?_
  have q' : (n : Int) < ((ns.length : Nat) : Int) := by omega
  first
   | (rw [decide_eq_true q'] at h5; exact absurd h5 (by decide))
   | (simp at h5; omega)
 cases hwl with
 | cons w1 w2 =>
  cases w2
  cases w1 with
  | list ho hall => exact ⟨_, _, ns, rfl, rfl, ho, ZEH ns _ hall, hlen⟩
theorem ZJo (l : OpenLaw) (args : List WData) : l.row.toRowW.claim.post args (.bool true) args = true :=
 postW_of (r := l.row.toRowW) (X := (true == true))
  (show WShape.has [] (.bool true) .bool = true by first | rfl | decide | simp [WShape.has, WShape.arms, WShape.armsAll])
  (show (WTm.eq .res (.lit (.bool true))).value [] { args := args, res := some (.bool true), after := args } = some (.bool (true == true)) from w_eq_bool (w_res rfl) w_lit) rfl
theorem attach_call {l : OpenLaw} {n : Nat} {q : Program} {loose : List Str} {XP : (Str → Option Value) → Heap → Prop} {YP : World → Heap → Prop} {d : DefRec}
  (hn : l.most = some n) (hdf : d.params.defaults = [])
  (call : ∀ (w : World) (s₀ s₁ : Shared) (mg mb : Str → Option Value) (fa : Addr) (o : Obj) (pm cd doc : Value) (a : Addr) (vs : List Value) (ns : List Int),
   Ground q loose [] XP w s₀ mg mb s₁.heap → YP w s₁.heap →
   s₁.heap.get? fa = some o → o.data = .func (docDef d.name d.params d.body d.scope pm cd doc) → s₁.heap.CodeRec cd d.name → mg d.name = some (.ref fa) →
   s₁.heap.get? a = some { cls := .type "list", data := .seq vs.toArray } → IntsAre vs ns → ns.length ≤ n → s₁.gens = #[] →
   codeAny (model l.prog w) callerA (.call (.ref fa) ⟨[.ref a], []⟩) (fun r s' => r = .ok (.ret (.bool true)) ∧ OldK s₁.heap s'.heap ∧ s'.os = s₁.os ∧ AllBare s'.gens) s₁) :
  WalkO q loose XP YP l.row.toRowW d [] (fun f vs => PySem.call f vs) := by
 intro w s₀ s₁ mg mb G Y fa o pm cd doc dV kV ho hd hcd hD hmg hg args vals as hpre hlay hrd hwl hlo
 obtain rfl : dV = .none := Dflts.none hD hdf
 obtain rfl : kV = .none := Dflts.noKw hD
 obtain ⟨a, vs, ns, rfl, rfl, hobj, hints, hlen⟩ := ZJn hn hpre hwl
 refine enter_call (codeAny_mono (call w s₀ s₁ mg mb fa o pm cd doc a vs ns G Y ho (fd_plain hd) hcd hmg hobj hints hlen hg) fun r s' hq => ?_)
 obtain ⟨rfl, h2, h3, h4⟩ := hq
 exact ⟨.inl ⟨.bool true, .bool true, [], rfl, fun _ => rfl, .bool true, ZJo l _, fun _ => ⟨List.Pairwise.nil, fun _ hm => (nomatch hm)⟩⟩, h2, h3, h4⟩
section
variable {prog : Program} {w : World} {A : Around} {E : Value → Shared → Prop} {s : Shared} {K : Frag}
def ZSy (h : Heap) (L d : Addr) : List (Addr × Obj) := (List.range h.objs.size).filterMap fun a => if a = L ∨ a = d then none else (h.get? a).map fun o => (a, o)
end
end Att
namespace L2
open PySem PySem.Spec PyProof.Rows
theorem ZE5 : ∀ {vs : List Value} {ns : List Int}, IntsAre vs ns → ZV (ns.map V.int) vs
 | _, _, .nil => .nil
 | _, _, .cons n t h => .cons ⟨t, rfl⟩ (ZE5 h)
def ZLi (H : Hp) : Prop := ∀ b, H b = none ∨ ∃ o xs, H b = some (.frz o (.lst xs))
theorem ZLj {P : Program} {w : World} {K : PySem.W.Frag} {mg mb : Str → Option Value} {CX : CXT} {k : Nat} {fa a : Addr} {fd : FuncData} {x : Str} {sp : Sp} {s₁ : Shared} {vs : List Value} {ns : List Int}
  (KX : K.In s₁.heap) (hns : s₁.heap.Ns mainGlobals mg) (hb : s₁.heap.Ns builtinsNs mb) (hbb : ∀ x : Str, x ≠ "__name__" → mb x = bootBuiltins x) (hlim : s₁.heap.NoLimit) (hg : s₁.gens = #[])
  (ha : s₁.heap.get? a = some { cls := .type "list", data := .seq vs.toArray }) (hi : IntsAre vs ns) (hl : ns.length ≤ sizeLine) (hr : Z0 k callerA)
  (F : ∀ base : Heap, K.In base → base.Ns mainGlobals mg → ZQ P w K mg base CX k fa fd [x] sp) (hbind : ∀ (s : Shared) (u : Value), BindsTo s fd ⟨[u], []⟩ [(x, u)])
  (hsp : ∀ H : Hp, ZLi H → SqL K H a (ns.map V.int) → sp [.ref a] H (fun v _ => v = .bl true) fun _ _ _ => False)
  (hCX : ∀ H e s', CX [] H s₁ (fun _ _ _ => False) e s' → False) :
  codeAny (model P w) callerA (.call (.ref fa) ⟨[.ref a], []⟩) (fun r s' => r = .ok (.ret (.bool true)) ∧ OldK s₁.heap s'.heap ∧ s'.os = s₁.os ∧ AllBare s'.gens) s₁ := by
 have rv := ZE5 hi
 have lenV := hi.length
 -- from an abstract heap in which nothing but the script may be tracked
 have core : ∀ H : Hp, ZLi H → SqL K H a (ns.map V.int) → HOk P w H s₁.heap → (∀ b, H b ≠ none → b = a) → (H a ≠ none → K.lookup a = none) →
   codeAny (model P w) callerA (.call (.ref fa) ⟨[.ref a], []⟩) (fun r s' => r = .ok (.ret (.bool true)) ∧ OldK s₁.heap s'.heap ∧ s'.os = s₁.os ∧ AllBare s'.gens) s₁ := by
  intro H hO hS hok hA hK
  have base_of : ∀ {b : Addr} {o : Obj}, s₁.heap.get? b = some o → H b = none → (ZB3 s₁.heap H).get? b = some o := fun e n => ZK7 e n
  have noA : ∀ {b : Addr} {o : Obj} {es : Array DictEntry} {ep : Nat}, s₁.heap.get? b = some o → o.data = .dict es ep → H b = none := fun {b o es ep} e d => by
   cases q : H b with
   | none => rfl
   | some u =>
    have e' : b = a := hA b (by rw [q]; simp)
    subst e'
    rw [ha] at e; cases e
    have d' : Data.seq vs.toArray _ = Data.dict es ep := d
    cases d'
  have nsK : ∀ {b : Addr} {m : Str → Option Value}, s₁.heap.Ns b m → (ZB3 s₁.heap H).Ns b m := fun {b m} ⟨o, es, ep, e, d, r⟩ => ⟨o, es, ep, base_of e (noA e d), d, r⟩
  have hKb : K.In (ZB3 s₁.heap H) := fun b o e => base_of (KX b o e) (by
   cases q : H b with
   | none => rfl
   | some u =>
    have e' : b = a := hA b (by rw [q]; simp)
    subst e'
    rw [hK (by rw [q]; simp)] at e; cases e)
  have hM : Mod K mg (ZB3 s₁.heap H) := ⟨hKb, nsK hns, ⟨mb, nsK hb, hbb⟩, let ⟨mc, h1, h2⟩ := hlim; ⟨mc, nsK h1, h2⟩⟩
  have e0 : ZBW P w K mg (ZB3 s₁.heap H) callerA [] s₁ H := ⟨rfl, hM, fun b o e => ZNm e, Nat.le_of_eq (ZJS _ _), trivial, fun b hb => absurd (show b ∈ ([] : List Addr) from hb) (by simp), hok, .of_eq hg⟩
  refine codeAny_mono ((F _ hKb (nsK hns)).run callerA [] s₁ H ⟨[.ref a], []⟩ [.ref a] [.ref a] _ _ hr e0 (hbind s₁ (.ref a)) (.cons rfl .nil) (hsp H hO hS)) fun r s' h => ?_
  cases r with
  | error e => exact (hCX H e s' h).elim
  | ok fl =>
   cases fl with
   | next => exact False.elim h
   | brk => exact False.elim h
   | cont => exact False.elim h
   | ret u =>
    obtain ⟨v, H', os, bare, un, hok', r', q⟩ := h
    have q' : v = .bl true := q
    subst q'
    obtain rfl : u = Value.bool true := r'
    refine ⟨rfl, OldK.of_keep fun b o e => ?_, os, bare⟩
    cases q : H b with
    | none => exact un.keep b o e q (by intro z; exact absurd (show b ∈ ([] : List Addr) from z) (by simp)) (by simp)
    | some u =>
     rcases hO b with z | ⟨ob, xs, z⟩
     ·rw [q] at z; cases z
     ·have z2 := un.frzs b ob _ z
      obtain ⟨e1, _⟩ := hok b _ z
      obtain ⟨e2, _⟩ := hok' b _ z2
      rw [e] at e1; cases e1
      exact e2
 cases hk : K.lookup a with
 | some o =>
  -- the script is one of the module's own objects
  have e := KX a o hk
  rw [ha] at e
  cases e
  refine core (fun _ => none) (fun _ => .inl rfl) (.inr ⟨_, vs.toArray, _, hk, rfl, rfl, rfl, by rw [List.size_toArray, lenV]; exact hl, by simpa using rv⟩) (fun b u z => by have z' : (none : Option HO) = some u := z; cases z') (fun b z => absurd rfl z) fun z => absurd rfl z
 | none =>
  refine core (fun b => if b = a then some (.frz { cls := .type "list", data := .seq vs.toArray } (.lst (ns.map V.int))) else none) (fun b => ?_) (.inl (.inr ⟨{ cls := .type "list", data := .seq vs.toArray }, if_pos rfl⟩)) (fun b u z => ?_) (fun b z => ?_) fun _ => hk
  ·by_cases hb : b = a
   ·exact .inr ⟨_, _, if_pos hb⟩
   ·exact .inl (if_neg hb)
  ·by_cases hb : b = a
   ·have z' := (if_pos hb).symm.trans z
    cases z'
    subst hb
    exact ⟨ha, by rw [List.length_map]; exact hl, vs, _, rv, ha⟩
   ·have z' := (if_neg hb).symm.trans z
    cases z'
  ·by_cases hb : b = a
   ·exact hb
   ·exact absurd (if_neg hb) z
end L2
namespace L2
open PySem PySem.Spec PyProof.Rows
theorem walk_of {l : PySem.W.OpenLaw} {n k : Nat} {q : Program} {loose : List Str} {XP : (Str → Option Value) → Heap → Prop} {YP : World → Heap → Prop} {d : DefRec} {K : Params → PySem.W.Frag} {CX : World → CXT} {sp : World → Sp} {x : Str}
  (hn : l.most = some n) (hn2 : n ≤ sizeLine) (hdf : d.params.defaults = []) (hr : Z0 k callerA)
  (hY : ∀ (w : World) (h : Heap), YP w h → (K w.params).In h)
  (F : ∀ (w : World) (mg : Str → Option Value) (fa : Addr) (h : Heap), (K w.params).In h → h.Ns mainGlobals mg → mg d.name = some (.ref fa) →
   ∃ fd : FuncData, (∀ (s : Shared) (u : Value), BindsTo s fd ⟨[u], []⟩ [(x, u)]) ∧
    ∀ base : Heap, (K w.params).In base → base.Ns mainGlobals mg → ZQ l.prog w (K w.params) mg base (CX w) k fa fd [x] (sp w))
  (hsp : ∀ (w : World) (H : Hp) (a : Addr) (ns : List Int), ns.length ≤ n → ZLi H → SqL (K w.params) H a (ns.map V.int) → sp w [.ref a] H (fun v _ => v = .bl true) fun _ _ _ => False)
  (hCX : ∀ (w : World) (H : Hp) (s : Shared) (e : Value) (s' : Shared), CX w [] H s (fun _ _ _ => False) e s' → False) :
  PySem.W.WalkO q loose XP YP l.row.toRowW d [] (fun f vs => PySem.call f vs) := by
 refine Att.attach_call hn hdf fun w s₀ s₁ mg mb fa o pm cd doc a vs ns G Y ho hd hcd hmg hobj hints hlen hg => ?_
 have KX := hY w _ Y
 obtain ⟨fd, hb, hF⟩ := F w mg fa _ KX G.T.g hmg
 exact ZLj KX G.T.g G.T.b G.T.builtins G.T.nolimit hg hobj hints (Nat.le_trans hlen hn2) hr hF hb (fun H hO hS => hsp w H a ns hlen hO hS) fun H e s' => hCX w H s₁ e s'
end L2
/- THE LAST THEOREM (shape; LID, My.* are yours):
 My.Adr: a structure of the addresses that your layer names (classes, functions); My.Txt K t: a structure (Prop) of the equations over K;
 My.txt_mk : {K} {implicit addresses ..} (e1 : nsIn K mainGlobals "law" = some (some (.ref f))) (e2 : K.lookup f = some ⟨oc, od, .func (fnOf "law" "law" params body scope dV kV doc pm an cdv ct), sl⟩) (e3 : codeIn K cdv "law" = true) .. : ∃ t, My.Txt K t
(the tactic k_is has no namespace: write k_is) -/
namespace L2
open PySem PySem.Spec PyProof.Rows
def Zq (s : Stmt) (j : Nat) : Stmt := match s with
 | .ClassDef _ _ _ body _ _ _ _ _ _ _ => body.getD j (.Pass ⟨0, 0, 0, 0⟩)
 | _ => .Pass ⟨0, 0, 0, 0⟩
def YK (s : Stmt) : Arguments := match s with
 | .FunctionDef _ a _ _ _ _ _ _ _ _ => a
 | _ => { posonlyargs := [], args := [], vararg := none, kwonlyargs := [], kw_defaults := [], kwarg := none, defaults := [] }
def Z5 (s : Stmt) : List Stmt := match s with
 | .FunctionDef _ _ b _ _ _ _ _ _ _ => b
 | _ => []
def ZF (s : Stmt) : Scope := match s with
 | .FunctionDef _ _ _ _ _ _ sc _ _ _ => sc
 | _ => { kind := .function, names := [], isGenerator := false, isCoroutine := false }
abbrev CX0 : CXT := fun _ _ _ _ _ _ => False
abbrev E0 : XK := fun _ _ _ => False
theorem ZJ {X : Cx} : Y2 CX0 X E0 := fun _ _ _ _ _ _ _ h => h.elim
structure Fun (K : PySem.W.Frag) (x qual : Str) (st : Stmt) (f : Addr) (fd : FuncData) : Prop where
 ex : ∃ (oc : Value) (od : Option Addr) (kV doc pm : Value) (an : Option Addr) (cdv ct : Value) (osl : Array (Option Value)),
  fd = PySem.W.fnOf x qual (YK st) (Z5 st) (ZF st) .none kV doc pm an cdv ct ∧ K.lookup f = some ⟨oc, od, .func fd, osl⟩ ∧ PySem.W.codeIn K cdv qual = true
 kp : PySem.W.keepIn K (.ref f) = true
section
variable {P : Program} {w : World} {K : PySem.W.Frag} {mg : Str → Option Value} {base : Heap}
theorem Fun.ok {x qual : Str} {st : Stmt} {f : Addr} {fd : FuncData} {N ps : List Str} {k : Nat} {sp : Sp} (F : Fun K x qual st f fd) (S : ZP N ps (ZF st)) (len : ∀ vs H Q E, sp vs H Q E → vs.length = ps.length)
  (hbody : ∀ (cdv : Value) (A : Around) (outer : List Env) (s : Shared) (H : Hp) (vs : List V) (Q : VK) (E : XK), Z0 k (A.deeper (envOfC qual (ZF st) s.heap.objs.size f cdv)) → sp vs H Q E →
   ∃ t, PSs (ZCj CX0 P w K mg base N qual (ZF st) f cdv A outer s H E).nox (Z5 st) t ∧ t { nx := fun _ H' => Q .non H', rt := Q } (start N vs) H) : ZQ P w K mg base CX0 (k + 1) f fd ps sp := by
 obtain ⟨oc, od, kV, doc, pm, an, cdv, ct, osl, rfl, lk, hcd⟩ := F.ex
 refine ZFr lk hcd S len fun A outer s H vs Q E hr hsp => ?_
 obtain ⟨t, h, q⟩ := hbody cdv A outer s H vs Q E hr hsp
 exact ⟨t, h.nox, q⟩
theorem Fun.binds {x qual : Str} {st : Stmt} {f : Addr} {fd : FuncData} {ps : List Str} (F : Fun K x qual st f fd)
  (h : ∀ (kV doc pm : Value) (an : Option Addr) (cdv ct : Value) (us : List Value), us.length = ps.length → bindArgs (PySem.W.fnOf x qual (YK st) (Z5 st) (ZF st) .none kV doc pm an cdv ct) ⟨us, []⟩ = pure (ps.zip us)) : ZN K fd ps [] := by
 obtain ⟨oc, od, kV, doc, pm, an, cdv, ct, osl, rfl, lk, hcd⟩ := F.ex
 exact .all (h kV doc pm an cdv ct)
theorem fun_mk {x qual : Str} {st : Stmt} {f : Addr} {oc : Value} {od an : Option Addr} {osl : Array (Option Value)} {kV doc pm cdv ct : Value} (l : K.lookup f = some ⟨oc, od, .func (PySem.W.fnOf x qual (YK st) (Z5 st) (ZF st) .none kV doc pm an cdv ct), osl⟩)
 (c : PySem.W.codeIn K cdv qual = true) (k : PySem.W.keepIn K (.ref f) = true) : Fun K x qual st f (PySem.W.fnOf x qual (YK st) (Z5 st) (ZF st) .none kV doc pm an cdv ct) := ⟨⟨oc, od, kV, doc, pm, an, cdv, ct, osl, rfl, l, c⟩, k⟩
end
theorem JE {A : Around} {k : Nat} (hr : Z0 k A) : A.units + 1 < cLine := Nat.lt_of_le_of_lt (Nat.add_le_add_left (by decide : 1 ≤ 64) _) hr.units
section
variable {X : Cx}
end
theorem Z1 {A B : Prop} (h : B) : if false = true then A else B := by
 rw [if_neg Bool.false_ne_true]
 exact h
theorem YJ {A B : Prop} (h : A) : if true = true then A else B := by
 rw [if_pos rfl]
 exact h
def ZK (H H' : Hp) : Prop := ∀ b o, H b = some o → H' b = some o
theorem ZK.refl (H : Hp) : ZK H H := fun _ _ h => h
theorem ZK.trans {H H1 H2 : Hp} (a : ZK H H1) (b : ZK H1 H2) : ZK H H2 := fun c o h => b c o (a c o h)
theorem ZK.free {H H' : Hp} (e : ZK H H') {l : Addr} (h : H' l = Option.none) : H l = Option.none := by
 cases q : H l with
 | none => rfl
 | some o =>
  rw [e l o q] at h
  cases h
theorem ZK.seq {K : PySem.W.Frag} {H H' : Hp} {a : Addr} {xs : List V} (e : ZK H H') (h : SqL K H a xs) : SqL K H' a xs := by
 rcases h with (h | ⟨o, h⟩) | h
 ·exact .inl (.inl (e _ _ h))
 ·exact .inl (.inr ⟨o, e _ _ h⟩)
 ·exact .inr h
end L2
set_option maxHeartbeats 4000000
namespace L2
open PySem PySem.Spec PyProof.Rows PySem.W
def evT (c : Nat → Nat → Bool) {α : Type} : KasT α → α
 | .ret a => a
 | .ask i j k => evT c (k (c i j))
theorem ZAH (c : Nat → Nat → Bool) {α β : Type} (f : α → KasT β) : ∀ t : KasT α, evT c (t.bind f) = evT c (f (evT c t))
 | .ret _ => rfl
 | .ask i j k => ZAH c f (k (c i j))
abbrev gt0 (p : Array Nat) (i : Nat) : Nat := p.getD i 0
section
variable {c : Nat → Nat → Bool} {n : Nat}
structure Ord (c : Nat → Nat → Bool) (n : Nat) : Prop where
 tr : ∀ i j k, c i j = true → c j k = true → c i k = true
 asy : ∀ i j, c i j = true → c j i = false
 tot : ∀ i j, i < n → j < n → i ≠ j → c i j = false → c j i = true
structure Ixs (p : Array Nat) (n : Nat) : Prop where
 size : p.size = n
 lt : ∀ i, i < n → gt0 p i < n
 inj : ∀ i j, i < n → j < n → gt0 p i = gt0 p j → i = j
theorem ZEI {p : Array Nat} {i v : Nat} (h : p[i]? = some v) : gt0 p i = v := by
 simp [gt0, h]
theorem Jx {p : Array Nat} {i : Nat} (h : i < p.size) : p[i]? = some (gt0 p i) := by
 simp [gt0, h]
theorem Ixs.of_perm {p : Array Nat} (h : p.toList.Perm (List.range n)) : Ixs p n := by
 have hs : p.size = n := by have := h.length_eq; simpa using this
 refine ⟨hs, fun i hi => ?_, fun i j hi hj e => ?_⟩
 ·have hm : gt0 p i ∈ p.toList := by
   have := Jx (p := p) (i := i) (by omega)
   exact Array.mem_toList_iff.mpr (Array.mem_of_getElem? this)
  exact List.mem_range.mp (h.mem_iff.mp hm)
 ·have hn : p.toList.Nodup := h.nodup_iff.mpr List.nodup_range
  have h1 : p.toList[i]? = some (gt0 p i) := by rw [Array.getElem?_toList]; exact Jx (by omega)
  have h2 : p.toList[j]? = some (gt0 p i) := by rw [Array.getElem?_toList, e]; exact Jx (by omega)
  have hi' : i < p.toList.length := by simp; omega
  have hj' : j < p.toList.length := by simp; omega
  rw [List.getElem?_eq_getElem hi'] at h1
  rw [List.getElem?_eq_getElem hj'] at h2
  have hpw := List.pairwise_iff_getElem.mp (List.nodup_iff_pairwise_ne.mp hn)
  have ee : p.toList[i] = p.toList[j] := by rw [Option.some.inj h1, Option.some.inj h2]
  rcases Nat.lt_trichotomy i j with z | z | z
  ·exact absurd ee (hpw i j hi' hj' z)
  ·exact z
  ·exact absurd ee.symm (hpw j i hj' hi' z)
def Up (c : Nat → Nat → Bool) (p : Array Nat) (m : Nat) : Prop := ∀ a b, a < b → b < m → c (gt0 p a) (gt0 p b) = true
theorem ZDR (O : Ord c n) {p : Array Nat} {m : Nat} (h : ∀ i, 1 ≤ i → i < m → c (gt0 p (i - 1)) (gt0 p i) = true) : Up c p m := by
 intro a b hab hb
 obtain ⟨d, rfl⟩ := Nat.exists_eq_add_of_lt hab
 induction d with
 | zero => have := h (a + 1) (by omega) hb; simpa using this
 | succ d ih =>
  have h1 := ih (by omega) (by omega)
  have h2 := h (a + (d + 1) + 1) (by omega) hb
  have e : a + (d + 1) + 1 - 1 = a + d + 1 := by omega
  rw [e] at h2
  exact O.tr _ _ _ h1 h2
theorem ZEJ (p : Array Nat) : ∀ (f a : Nat), a ≤ evT c (kas_asc p f a) ∧ evT c (kas_asc p f a) ≤ a + f ∧ (∀ i, a ≤ i → i < evT c (kas_asc p f a) → c (gt0 p i) (gt0 p (i - 1)) = false) ∧
  (evT c (kas_asc p f a) = a + f ∨ c (gt0 p (evT c (kas_asc p f a))) (gt0 p (evT c (kas_asc p f a) - 1)) = true)
 | 0, a => ⟨Nat.le_refl _, Nat.le_refl _, fun i h1 h2 => absurd h2 (by show ¬ i < a; omega), .inl rfl⟩
 | f + 1, a => by
  have e : evT c (kas_asc p (f + 1) a) = evT c (if c (gt0 p a) (gt0 p (a - 1)) = true then KasT.ret a else kas_asc p f (a + 1)) := rfl
  rw [e]
  cases hc : c (gt0 p a) (gt0 p (a - 1)) with
  | true =>
   rw [if_pos rfl]
   exact ⟨Nat.le_refl _, Nat.le_add_right _ _, fun i h1 h2 => absurd h2 (by show ¬ i < a; omega), .inr hc⟩
  | false =>
   rw [if_neg (by decide)]
   obtain ⟨h1, h2, h3, h4⟩ := ZEJ p f (a + 1)
   refine ⟨by omega, by omega, fun i g1 g2 => ?_, ?_⟩
   ·by_cases z : i = a
    ·rw [z]; exact hc
    ·exact h3 i (by omega) g2
   ·rcases h4 with h4 | h4
    ·left; omega
    ·right; exact h4
theorem ZHx (O : Ord c n) {p : Array Nat} (P : Ixs p n) : ∀ (f a : Nat), 1 ≤ a → a + f ≤ n → ∃ m, evT c (kas_desc f p a 0) = (p, m, 0) ∧ a ≤ m ∧ m ≤ a + f ∧ ∀ i, a ≤ i → i < m → c (gt0 p i) (gt0 p (i - 1)) = true
 | 0, a, _, _ => ⟨a, rfl, Nat.le_refl _, Nat.le_refl _, fun i h1 h2 => absurd h2 (by omega)⟩
 | f + 1, a, h1, h2 => by
  have e : evT c (kas_desc (f + 1) p a 0) = evT c (if c (gt0 p a) (gt0 p (a - 1)) = true then (if 0 > 0 then kas_desc f (kas_rev p (a - (0 + 1)) a) (a + 1) 0 else kas_desc f p (a + 1) 0)
   else .ask (p.getD (a - 1) 0) (p.getD a 0) fun d => if d = true then .ret (p, a, 0) else kas_desc f p (a + 1) (0 + 1)) := rfl
  rw [e]
  cases hc : c (gt0 p a) (gt0 p (a - 1)) with
  | true =>
   rw [if_pos rfl, if_neg (by decide)]
   obtain ⟨m, g1, g2, g3, g4⟩ := ZHx O P f (a + 1) (by omega) (by omega)
   refine ⟨m, g1, by omega, by omega, fun i k1 k2 => ?_⟩
   by_cases z : i = a
   ·rw [z]; exact hc
   ·exact g4 i (by omega) k2
  | false =>
   rw [if_neg (by decide)]
   have hd : c (gt0 p (a - 1)) (gt0 p a) = true := O.tot _ _ (P.lt _ (by omega)) (P.lt _ (by omega)) (fun z => by have := P.inj _ _ (by omega) (by omega) z; omega) hc
   have e2 : evT c (KasT.ask (p.getD (a - 1) 0) (p.getD a 0) fun d => if d = true then KasT.ret (p, a, 0) else kas_desc f p (a + 1) (0 + 1)) = evT c (if c (gt0 p (a - 1)) (gt0 p a) = true then KasT.ret (p, a, 0) else kas_desc f p (a + 1) (0 + 1)) := rfl
   rw [e2, hd, if_pos rfl]
   exact ⟨a, rfl, Nat.le_refl _, by omega, fun i k1 k2 => absurd k2 (by omega)⟩
theorem ZF7 (p : Array Nat) (i j : Nat) : (kas_rev p i j).toList.Perm p.toList := Array.perm_iff_toList_perm.mp (mirror_perm p i j _)
theorem ZHy {p : Array Nat} {m : Nat} (hm : m ≤ p.size) (k : Nat) (hk : k < m) : gt0 (kas_rev p 0 m) k = gt0 p (m - 1 - k) := by
 refine ZEI ?_
 have e : (kas_rev p 0 m)[k]? = if 0 ≤ k ∧ k < m then p[0 + m - 1 - k]? else p[k]? := getElem?_mirror_all (i := 0) hm k
 rw [e, if_pos ⟨by omega, hk⟩]
 have e2 : 0 + m - 1 - k = m - 1 - k := by omega
 rw [e2]
 exact Jx (by omega)
theorem ZHz (O : Ord c n) {p : Array Nat} (P : Ixs p n) {m f : Nat} (h1 : 1 ≤ m) (h : Up c p m) (hf : m + f ≤ n) : Up c p (evT c (kas_asc p f m)) := by
 obtain ⟨g1, g2, g3, _⟩ := ZEJ (c := c) p f m
 refine ZDR O fun i hi1 hi2 => ?_
 by_cases z : i < m
 ·exact h (i - 1) i (by omega) z
 ·have := g3 i (by omega) hi2
  exact O.tot _ _ (P.lt _ (by omega)) (P.lt _ (by omega)) (fun e => by have := P.inj _ _ (by omega) (by omega) e; omega) this
theorem ZLk (O : Ord c n) {p : Array Nat} (hp : p.toList.Perm (List.range n)) (hn : 1 ≤ n) : (evT c (kas_count n p)).2.toList.Perm (List.range n) ∧ 1 ≤ (evT c (kas_count n p)).1 ∧ (evT c (kas_count n p)).1 ≤ n ∧ Up c (evT c (kas_count n p)).2 (evT c (kas_count n p)).1 := by
 have P := Ixs.of_perm hp
 unfold kas_count
 rw [ZAH]
 obtain ⟨g1, g2, g3, g4⟩ := ZEJ (c := c) p (n - 1) 1
 have hup := ZHz O P (m := 1) (f := n - 1) (Nat.le_refl _) (fun a b h1 h2 => by omega) (by omega)
 generalize hm : evT c (kas_asc p (n - 1) 1) = m at *
 by_cases h1 : (m == n) = true
 ·rw [if_pos h1]
  exact ⟨hp, g1, by show m ≤ n; omega, hup⟩
 ·rw [if_neg h1]
  have hmn : m < n := by
   have : m ≠ n := fun z => h1 (by simp [z])
   omega
  by_cases h2 : m > 1
  ·rw [if_pos h2]
   have hc : c (gt0 p 0) (gt0 p (m - 1)) = true := hup 0 (m - 1) (by omega) (by omega)
   have e : evT c (KasT.ask (p.getD 0 0) (p.getD (m - 1) 0) fun c => if c = true then KasT.ret (m, p) else kas_descPart m n (kas_rev p 0 m)) = evT c (if c (gt0 p 0) (gt0 p (m - 1)) = true then KasT.ret (m, p) else kas_descPart m n (kas_rev p 0 m)) := rfl
   rw [e, hc, if_pos rfl]
   exact ⟨hp, by show 1 ≤ m; omega, by show m ≤ n; omega, hup⟩
  ·rw [if_neg h2]
   have hm1 : m = 1 := by omega
   subst hm1
   have h10 : c (gt0 p 1) (gt0 p 0) = true := by
    rcases g4 with g4 | g4
    ·omega
    ·exact g4
   unfold kas_descPart
   rw [ZAH]
   obtain ⟨m, k1, k2, k3, k4⟩ := ZHx O P (n - (1 + 1)) (1 + 1) (by omega) (by omega)
   rw [k1]
   rw [if_neg (show ¬ ((p, m, 0) : Array Nat × Nat × Nat).2.2 > 0 by show ¬ 0 > 0; omega)]
   show (evT c (kas_tail3 m n p)).2.toList.Perm (List.range n) ∧ _
   unfold kas_tail3
   rw [ZAH]
   have hrp : (kas_rev p 0 m).toList.Perm (List.range n) := (ZF7 p 0 m).trans hp
   have R := Ixs.of_perm hrp
   have hupr : Up c (kas_rev p 0 m) m := by
    refine ZDR O fun i hi1 hi2 => ?_
    rw [ZHy (by rw [P.size]; omega) _ (by omega), ZHy (by rw [P.size]; omega) _ hi2]
    have e : m - 1 - (i - 1) = m - i := by omega
    have e2 : m - 1 - i = m - i - 1 := by omega
    rw [e, e2]
    by_cases z : m - i = 1
    ·rw [z]; exact h10
    ·exact k4 (m - i) (by omega) (by omega)
   have hfin := ZHz O R (m := m) (f := n - m) (by omega) hupr (by omega)
   obtain ⟨q1, q2, _, _⟩ := ZEJ (c := c) (kas_rev p 0 m) (n - m) m
   exact ⟨hrp, by show 1 ≤ evT c _; omega, by show evT c _ ≤ n; omega, hfin⟩
theorem ZDh (O : Ord c n) {p : Array Nat} (P : Ixs p n) {k : Nat} (hk : k < n) (h : Up c p k) : ∀ (f l r : Nat), l ≤ r → r ≤ k → r - l ≤ f → (∀ i, i < l → c (gt0 p i) (gt0 p k) = true) → (∀ i, r ≤ i → i < k → c (gt0 p k) (gt0 p i) = true) →
  ∃ m, evT c (kas_place p k f l r) = m ∧ m ≤ k ∧ (∀ i, i < m → c (gt0 p i) (gt0 p k) = true) ∧ (∀ i, m ≤ i → i < k → c (gt0 p k) (gt0 p i) = true)
 | 0, l, r, h1, h2, h3, h4, h5 => ⟨l, rfl, by omega, h4, fun i g1 g2 => h5 i (by omega) g2⟩
 | f + 1, l, r, h1, h2, h3, h4, h5 => by
  by_cases hlr : l ≥ r
  ·have e : evT c (kas_place p k (f + 1) l r) = l := by
    show evT c (if l ≥ r then KasT.ret l else _) = l
    rw [if_pos hlr]
    rfl
   exact ⟨l, e, by omega, h4, fun i g1 g2 => h5 i (by omega) g2⟩
  ·have e : evT c (kas_place p k (f + 1) l r) = evT c (if c (gt0 p k) (gt0 p ((l + r) / 2)) = true then kas_place p k f l ((l + r) / 2) else kas_place p k f ((l + r) / 2 + 1) r) := by
    show evT c (if l ≥ r then KasT.ret l else _) = _
    rw [if_neg hlr]
    rfl
   rw [e]
   cases hc : c (gt0 p k) (gt0 p ((l + r) / 2)) with
   | true =>
    rw [if_pos rfl]
    refine ZDh O P hk h f l ((l + r) / 2) (by omega) (by omega) (by omega) h4 fun i g1 g2 => ?_
    by_cases z : i = (l + r) / 2
    ·rw [z]; exact hc
    ·exact O.tr _ _ _ hc (h ((l + r) / 2) i (by omega) g2)
   | false =>
    rw [if_neg (by decide)]
    have hd : c (gt0 p ((l + r) / 2)) (gt0 p k) = true := O.tot _ _ (P.lt _ hk) (P.lt _ (by omega)) (fun z => by have := P.inj _ _ hk (by omega) z; omega) hc
    refine ZDh O P hk h f ((l + r) / 2 + 1) r (by omega) h2 (by omega) (fun i g1 => ?_) h5
    by_cases z : i = (l + r) / 2
    ·rw [z]; exact hd
    ·exact O.tr _ _ _ (h i ((l + r) / 2) (by omega) (by omega)) hd
theorem ZH0 {p : Array Nat} {k l : Nat} (hk : k < p.size) (hl : l ≤ k) (i : Nat) (hi : i < p.size) : gt0 (bubble p k (k - l)) i = if i = l then gt0 p k else if l < i ∧ i ≤ k then gt0 p (i - 1) else gt0 p i := by
 refine ZEI ?_
 rw [getElem?_bubble hk (k - l) (by omega)]
 have e : k - (k - l) = l := by omega
 rw [e]
 by_cases h1 : i = l
 ·rw [if_pos h1, if_pos h1]; exact Jx hk
 ·rw [if_neg h1, if_neg h1]
  by_cases h2 : l < i ∧ i ≤ k
  ·rw [if_pos h2, if_pos h2]; exact Jx (by omega)
  ·rw [if_neg h2, if_neg h2]; exact Jx hi
theorem ZJp (O : Ord c n) : ∀ (f : Nat) (p : Array Nat) (k : Nat), p.toList.Perm (List.range n) → k + f = n → Up c p k → (evT c (kas_bin f p k)).toList.Perm (List.range n) ∧ Up c (evT c (kas_bin f p k)) n
 | 0, p, k, hp, hk, h => by
  have e : k = n := by omega
  refine ⟨hp, ?_⟩
  show Up c p n
  rw [← e]
  exact h
 | f + 1, p, k, hp, hk, h => by
  have P := Ixs.of_perm hp
  show (evT c ((kas_place p k k 0 k).bind fun l => kas_bin f (bubble p k (k - l)) (k + 1))).toList.Perm (List.range n) ∧ Up c (evT c ((kas_place p k k 0 k).bind fun l => kas_bin f (bubble p k (k - l)) (k + 1))) n
  rw [ZAH]
  obtain ⟨m, e, g1, g2, g3⟩ := ZDh O P (k := k) (by omega) h k 0 k (by omega) (Nat.le_refl _) (by omega) (fun i hi => by omega) (fun i h1 h2 => by omega)
  rw [e]
  refine ZJp O f (bubble p k (k - m)) (k + 1) ((Array.perm_iff_toList_perm.mp (bubble_perm p k _)).trans hp) (by omega) fun a b hab hb => ?_
  rw [ZH0 (by rw [P.size]; omega) g1 a (by rw [P.size]; omega), ZH0 (by rw [P.size]; omega) g1 b (by rw [P.size]; omega)]
  by_cases ha : a = m
  ·rw [if_pos ha, if_neg (by omega), if_pos ⟨by omega, by omega⟩]
   exact g3 (b - 1) (by omega) (by omega)
  ·rw [if_neg ha]
   by_cases hb2 : b = m
   ·rw [if_pos hb2, if_neg (by omega)]
    exact g2 a (by omega)
   ·rw [if_neg hb2]
    by_cases ha3 : m < a ∧ a ≤ k
    ·rw [if_pos ha3, if_pos ⟨by omega, by omega⟩]
     exact h (a - 1) (b - 1) (by omega) (by omega)
    ·rw [if_neg ha3]
     by_cases hb3 : m < b ∧ b ≤ k
     ·rw [if_pos hb3]
      by_cases z : a = b - 1
      ·omega
      ·exact h a (b - 1) (by omega) (by omega)
     ·rw [if_neg hb3]
      exact h a b hab (by omega)
theorem ZOE (O : Ord c n) (hn : 1 ≤ n) : (evT c (kas_sort n)).toList.Perm (List.range n) ∧ Up c (evT c (kas_sort n)) n := by
 unfold kas_sort
 rw [ZAH]
 obtain ⟨h1, h2, h3, h4⟩ := ZLk O (p := List.toArray (List.range n)) (List.Perm.refl _) hn
 generalize evT c (kas_count n (List.toArray (List.range n))) = r at *
 by_cases h : r.1 < n
 ·rw [if_pos h]
  have e : max r.1 1 = r.1 := by omega
  rw [e]
  exact ZJp O (n - r.1) r.2 r.1 h1 (by omega) h4
 ·rw [if_neg h]
  refine ⟨h1, ?_⟩
  have e : r.1 = n := by omega
  rw [e] at h4
  exact h4
end
end L2
namespace L2
open PySem PySem.Spec PyProof.Rows
section
variable {X : Cx}
theorem Zv : OpR X (binaryOp .Mult) (rI IntMulOk fun i j => .int (i * j)) := opI fun _ _ _ _ _ _ _ hc q => mul_int q hc
def ZBI (_ j : Int) : Prop := 0 < j ∧ j.natAbs.log2 < 9000
theorem JZ : OpR X (binaryOp .FloorDiv) (rI ZBI fun i j => .int (i / j)) := opI fun i j _ _ _ _ _ hc q => by
 have h1 : (0 : Int) < j := hc.1
 exact floordiv_int (by omega) (by rw [Int.fdiv_eq_ediv_of_nonneg i (by omega)]; exact q) (.inl (PyProof.noPylong_of_log2 hc.2))
theorem ZBI.of {i j : Int} (h : 0 < j) {k : Nat} (h2 : j < 2 ^ k) (hk : k ≤ 9000) : ZBI i j := by
 refine ⟨h, ?_⟩
 have h3 : j.natAbs < 2 ^ k := by
  have e : ((j.natAbs : Nat) : Int) = j := by omega
  have e2 : ((2 ^ k : Nat) : Int) = (2 : Int) ^ k := by simp
  have : ((j.natAbs : Nat) : Int) < ((2 ^ k : Nat) : Int) := by rw [e, e2]; exact h2
  exact Int.ofNat_lt.mp this
 have h4 : j.natAbs.log2 < k := (Nat.log2_lt (by omega)).mpr h3
 omega
theorem ZSb {i j : Int} (h1 : -(2 ^ 64) < i) (h2 : i < 2 ^ 64) : IntMulOk i j := .of_left (intBits_le_64 h1 h2)
theorem ZSc {i j : Int} (h1 : -(2 ^ 64) < j) (h2 : j < 2 ^ 64) : IntMulOk i j := .of_right (intBits_le_64 h1 h2)
end
section
variable {X : Cx}
end
section
variable {X : Cx}
end
section
variable {X : Cx}
def ZLl (K : PySem.W.Frag) : List V → Hp → VK → Prop := fun xs H Q => ∃ x n t b, xs = [x, .ty n] ∧ JY K H x t ∧ PySem.W.kitOne K t (.type n) = some b ∧ Q (.bl b) H
theorem ZLm : Z9 X (.builtin "isinstance") (ZLl X.K) := by
 intro pins s σ H xs us Q I r h
 obtain ⟨x, n, t, b, rfl, ty, e, q⟩ := h
 obtain ⟨u, v, rfl, ru, rv⟩ := r.two
 obtain rfl : v = Value.type n := rv
 exact ZJg I ru ty e fun tk => ⟨.bl b, H, I.tok _, rfl, q⟩
end
end L2
namespace L2
open PySem PySem.Spec PyProof.Rows
section
variable {X : Cx}
end
end L2
namespace L2
open PySem PySem.Spec PyProof.Rows
theorem ZFT {l : List (Str × Addr)} {x : Str} {c : Addr} (h : (x, c) ∈ l) : ∃ d, l.lookup x = some d := by
 induction l with
 | nil => cases h
 | cons p r ih =>
  obtain ⟨y, d⟩ := p
  cases hx : x == y with
  | true => exact ⟨d, by simp [List.lookup_cons, hx]⟩
  | false =>
   have hr : (x, c) ∈ r := by
    rcases List.mem_cons.mp h with e | e
    ·cases e
     simp at hx
    ·exact e
   obtain ⟨d', e⟩ := ih hr
   exact ⟨d', by simp only [List.lookup_cons, hx]; exact e⟩
theorem ZAz {env : Env} : ∀ (names : List (Str × NameKind)) (acc : List (Str × Addr)), (∀ y ∈ names, y.2 = NameKind.free → ∃ c, env.cells.lookup y.1 = some c) → (∀ p ∈ acc, env.cells.lookup p.1 = some p.2) →
  ∃ cl : List (Str × Addr), (forIn names acc fun (x : Str × NameKind) (r : List (Str × Addr)) => (match x with | (name, kind) => if (kind == NameKind.free) = true then (do let a ← cellOf env name; pure (ForInStep.yield ((name, a) :: r))) else pure (ForInStep.yield r) : Sem (ForInStep (List (Str × Addr))))) = pure cl
   ∧ (∀ p ∈ cl, env.cells.lookup p.1 = some p.2) ∧ (∀ p ∈ acc, p ∈ cl) ∧ ∀ y ∈ names, y.2 = NameKind.free → ∃ c, (y.1, c) ∈ cl
 | [], acc, _, ha => ⟨acc, by simp, ha, fun _ h => h, fun y h => by cases h⟩
 | (n, k) :: r, acc, h, ha => by
  by_cases hk : k = NameKind.free
  ·subst hk
   obtain ⟨c, hc⟩ := h (n, .free) List.mem_cons_self rfl
   obtain ⟨cl, e, h1, h2, h3⟩ := ZAz r ((n, c) :: acc) (fun y hy => h y (List.mem_cons_of_mem _ hy)) (fun p hp => by
    rcases List.mem_cons.mp hp with rfl | hp
    ·exact hc
    ·exact ha p hp)
   refine ⟨cl, ?_, h1, fun p hp => h2 p (List.mem_cons_of_mem _ hp), fun y hy hf => ?_⟩
   ·rw [List.forIn_cons]
    simp only [beq_self_eq_true, if_true, cellOf, hc, pure_bind]
    exact e
   ·rcases List.mem_cons.mp hy with rfl | hy
    ·exact ⟨c, h2 _ List.mem_cons_self⟩
    ·exact h3 y hy hf
  ·obtain ⟨cl, e, h1, h2, h3⟩ := ZAz r acc (fun y hy => h y (List.mem_cons_of_mem _ hy)) ha
   have hb : (k == NameKind.free) = false := by simpa using hk
   refine ⟨cl, ?_, h1, h2, fun y hy hf => ?_⟩
   ·rw [List.forIn_cons]
    simp only [hb, Bool.false_eq_true, if_false, pure_bind]
    exact e
   ·rcases List.mem_cons.mp hy with rfl | hy
    ·exact absurd hf hk
    ·exact h3 y hy hf
theorem ZId {scope : Scope} {env : Env} (h : ∀ y ∈ scope.names, y.2 = NameKind.free → ∃ c, env.cells.lookup y.1 = some c) :
  ∃ cl, closureFor scope env = pure cl ∧ (∀ x c, cl.lookup x = some c → env.cells.lookup x = some c) ∧ ∀ y ∈ scope.names, y.2 = .free → ∃ c, cl.lookup y.1 = some c := by
 obtain ⟨cl, e, h1, _, h3⟩ := ZAz scope.names [] h (fun p hp => by cases hp)
 refine ⟨cl, ?_, fun x c hx => h1 (x, c) (PySem.mem_of_lookup hx), fun y hy hf => ?_⟩
 ·simp only [closureFor]
  rw [e]
  rfl
 ·obtain ⟨c, hc⟩ := h3 y hy hf
  exact ZFT hc
theorem ZBl {env : Env} : ∀ (names : List (Str × NameKind)) (x : Str),
  (names.map fun (n, k) => if (k == NameKind.free && env.scope.kind == .function && env.kindOf n == some .cell) then (n, NameKind.cell) else (n, k)).lookup x =
   (names.lookup x).map fun k => if (k == NameKind.free && env.scope.kind == .function && env.kindOf x == some .cell) then NameKind.cell else k
 | [], _ => rfl
 | (n, k) :: r, x => by
  have ih := ZBl (env := env) r x
  show List.lookup x ((if (k == NameKind.free && env.scope.kind == .function && env.kindOf n == some .cell) = true then (n, NameKind.cell) else (n, k)) :: _) = _
  cases hx : x == n with
  | true =>
   have e : x = n := eq_of_beq hx
   subst e
   by_cases hc : (k == NameKind.free && env.scope.kind == .function && env.kindOf x == some .cell) = true
   ·rw [if_pos hc]
    simp only [List.lookup_cons, beq_self_eq_true, Option.map_some]
    rw [if_pos hc]
   ·rw [if_neg hc]
    simp only [List.lookup_cons, beq_self_eq_true, Option.map_some]
    rw [if_neg hc]
  | false =>
   by_cases hc : (k == NameKind.free && env.scope.kind == .function && env.kindOf n == some .cell) = true
   ·rw [if_pos hc]; simp only [List.lookup_cons, hx]; exact ih
   ·rw [if_neg hc]; simp only [List.lookup_cons, hx]; exact ih
structure ZJq (N : List Str) (sc : Scope) (own caps : List Str) (ks : List Nat) (scope : Scope) : Prop where
 kind : scope.kind = .function
 nocell : ∀ y ∈ scope.names, y.2 ≠ .cell
 names : ∀ y ∈ scope.names, y.2 = .local → scope.names.lookup y.1 = some .local
 free : ∀ y ∈ scope.names, y.2 = .free → sc.names.lookup y.1 = some .cell
 nd : (own ++ caps).Nodup
 cap : ks.map (fun k => N[k]?) = caps.map some
 fr : ∀ x ∈ caps, scope.names.lookup x = some .free
def Yp (X : Cx) (N' : List Str) (scope : Scope) (cl : List (Str × Addr)) (C : Addr) (s₂ : Shared) (H₂ : Hp) (fp : List Addr) : Cx :=
 { X with N := N', s₀ := s₂, H₀ := H₂, env := compEnvC scope cl C X.env, outer := X.stack, stack := X.stack, ex := fp, fn := fun _ => false, pn := [], xe := fun _ _ => False }
def ZAo (own : Nat) (ks : List Nat) (σ : St) : St := List.replicate own none ++ ks.map fun k => (σ[k]?).join
section
variable {prog : Program} {w : World} {A : Around} {R : Result → Shared → Prop} {s : Shared}
theorem ZB5 {elt target iter : Expr} {ifs : List Expr} {scope : Scope} {pos : Pos} {it acc : Value} {env : Env} (I : Nat → Shared → Prop)
  (turn : ∀ n s, I n s → wpAny (model prog w) A (pyNext it) (fun r s₁ => match r with
   | none => R (.ok .next) s₁
   | some v => wpAny (model prog w) A (letOwnedTupleGo target it v) (fun _ s₁' => wpAny (model prog w) A (assign target env v) (fun _ s₂ =>
    wpAny (model prog w) A (forIn ifs true fun c r => if r = true then do let ok ← isTrue c env (eval c env); pure (ForInStep.yield ok) else pure (ForInStep.yield r)) (fun ok s₃ =>
     if ok = true then wpAny (model prog w) A (eval elt env) (fun x s₄ =>
      wpAny (model prog w) A (call (.builtin "list.append") [acc, x]) (fun _ s₅ => ∃ m, m < n ∧ I m s₅) (notedBy (model prog w) A env fun e s' => R (.error e) s') s₄) (notedBy (model prog w) A env fun e s' => R (.error e) s') s₃
     else ∃ m, m < n ∧ I m s₃) (notedBy (model prog w) A env fun e s' => R (.error e) s') s₂) (notedBy (model prog w) A env fun e s' => R (.error e) s') s₁') (notedBy (model prog w) A env fun e s' => R (.error e) s') s₁) (notedBy (model prog w) A env fun e s' => R (.error e) s') s)
  (n : Nat) (h : I n s) :
  codeAny (model prog w) A (.compLoop (.ListComp elt [⟨target, iter, ifs, 0⟩] scope pos) 0 it acc env) R s := by
 refine codeAny_loop rfl I (fun n s hI => ?_) n h
 show wpAny _ A ((compTurn (.ListComp elt [⟨target, iter, ifs, 0⟩] scope pos) 0 it acc env).onRaise (fun x => do noteFrame x env; theTreesLotGoes x)) _ _ s
 refine wpAny_noted ?_
 rw [compTurn_list]
 refine wpAny_bind (wpAny_standAt (wpAny_bind (wpAny_mono (turn n s hI) (fun r s₁ h₁ => ?_) fun _ _ h' => h')))
 cases r with
 | none => exact wpAny_pure h₁
 | some v =>
  refine wpAny_bind (wpAny_mono h₁ (fun _ s₁' h₁' => ?_) fun _ _ h' => h')
  refine wpAny_bind (wpAny_mono h₁' (fun _ s₂ h₂ => wpAny_bind (wpAny_mono h₂ (fun ok s₃ h₃ => ?_) fun _ _ h' => h')) fun _ _ h' => h')
  cases ok with
  | false => exact wpAny_pure ⟨rfl, h₃⟩
  | true =>
   exact wpAny_bind (wpAny_bind (wpAny_mono h₃ (fun x s₄ h₄ => wpAny_bind (wpAny_mono h₄ (fun _ s₅ h₅ => wpAny_pure (wpAny_pure ⟨rfl, h₅⟩)) fun _ _ h' => h')) fun _ _ h' => h'))
end
def ZIe (X : Cx) (ifs : List Expr) (t : TT) : Prop :=
 ∀ (pins : List (Addr × Obj)) (s : Shared) (σ : St) (H : Hp) (Q : Bool → Hp → Prop), Inv X pins σ H s → t σ H Q →
  wpAny (model X.prog X.w) X.A (forIn ifs true fun c r => if r = true then do let ok ← isTrue c X.env (eval c X.env); pure (ForInStep.yield ok) else pure (ForInStep.yield r)) (TP X pins σ Q) X.xe s
def ZIf : TT := fun _ H Q => Q true H
section
variable {X : Cx}
theorem ZLn : ZIe X [] ZIf := fun _ _ _ H _ I h => wpAny_tests_nil ⟨H, I, h⟩
theorem ZLo {c : Expr} {t : TT} (hc : PT X c t) : ZIe X [c] t := fun pins s σ H Q I h => wpAny_tests_one (hc pins s σ H Q I h)
def ZIg (own : Nat) (ks : List Nat) (wi : TI) (g : TG) (tt : TT) (te : TE) : TE := fun σ H Q => wi σ H fun J H1 => ∀ l, H1 l = none →
 ∃ W : Nat → Nat → St → Hp → Prop, (∃ m, W 0 m (ZAo own ks σ) (upd H1 l (.lst []))) ∧ ∀ i m σ' H', W i m σ' H' →
  (J.stop i H' ∧ Q (.ref l) H') ∨ (J.go i H' ∧ ∃ N : St → Hp → Prop, (∀ σ2 H2, N σ2 H2 → ∃ m', m' < m ∧ W (i + 1) m' σ2 H2) ∧
   ∀ x H'', J.yld i H' x H'' → g x σ' H'' fun σ2 H2 => tt σ2 H2 fun b H3 =>
    if b = true then te σ2 H3 fun v H4 => ∃ xs, H4 l = some (.lst xs) ∧ xs.length < sizeLine ∧ N σ2 (upd H4 l (.lst (xs ++ [v]))) else N σ2 H3)
theorem ZJr {α : Type} {o : Option (Option α)} {v : α} (h : o.join = some v) : o = some (some v) := by
 cases o with
 | none => cases h
 | some x => exact congrArg some h
theorem ZOF {N : List Str} {sc : Scope} {own caps : List Str} {ks : List Nat} {elt tg iter : Expr} {ifs : List Expr} {scope : Scope} {pos : Pos} {wi : TI} {g : TG} {tt : TT} {te : TE}
  (hN : X.N = N) (hsc : X.env.scope = sc) (hc : X.calm = true) (S : ZJq N sc own caps ks scope) (hi : PI X tg iter wi)
  (hg : ∀ cl C s₂ H₂ fp, PG (Yp X (own ++ caps) scope cl C s₂ H₂ fp) tg g)
  (ht : ∀ cl C s₂ H₂ fp, ZIe (Yp X (own ++ caps) scope cl C s₂ H₂ fp) ifs tt)
  (he : ∀ cl C s₂ H₂ fp, PE (Yp X (own ++ caps) scope cl C s₂ H₂ fp) elt te)
  (hs : ∀ x, foldedSetIterable iter X.env x = pure x := by intro _; rfl) :
  PE X (.ListComp elt [⟨tg, iter, ifs, 0⟩] scope pos) (ZIg own.length ks wi g tt te) := by
 intro pins s σ H Q I h
 subst hN hsc
 rw [eval_ListComp]
 obtain ⟨cl, hclos, hcl, hclf⟩ := ZId (scope := scope) (env := X.env) fun y hy hf => I.ok.has y.1 (.inl (S.free y hy hf))
 refine wpAny_comprehension_free (use := none) rfl hs hclos S.kind S.names (wpAny_mono (hi pins s σ H _ I h) (fun xv s₁ h₁ => wpAny_mono h₁ (fun it s₂ h₂ => ?_) fun _ _ e => e) fun _ _ e => e)
 obtain ⟨it, fp, tn, J, H2, e, I2, T, st2, f2, q⟩ := h₂
 subst e
 refine wpAny_newObj_type (wpAny_newFunctionEnv S.nocell (by intro y hy; simp at hy) (fun h₁ hns₁ hsb₁ => ?_) S.kind)
 dsimp only at hns₁ hsb₁ ⊢
 generalize hH2 : s₂.heap.push { cls := .type "list", dict := none, data := .seq ([] : List Value).toArray } = HP at hns₁ hsb₁ ⊢
 have hC : HP.objs.size = s₂.heap.objs.size + 1 := by rw [← hH2, Heap.size_push]
 have hDC : s₂.heap.objs.size ≠ HP.objs.size := by rw [hC]; exact Nat.ne_of_lt (Nat.lt_succ_self _)
 have hCle : s₂.heap.objs.size ≤ HP.objs.size := by rw [hC]; exact Nat.le_succ _
 have old : ∀ b o, s₂.heap.get? b = some o → h₁.get? b = some o := fun b o e => by
  have hb : b < s₂.heap.objs.size := Heap.lt_size e
  exact hsb₁.extBut b o (by rw [hC]; exact Nat.ne_of_lt (Nat.lt_succ_of_lt hb)) (Heap.get?_push_of_some _ (hH2 ▸ Heap.get?_push_of_some _ e))
 have hacc : h₁.get? s₂.heap.objs.size = some { cls := .type "list", dict := none, data := .seq ([] : List Value).toArray } := hsb₁.extBut _ _ hDC (Heap.get?_push_of_some _ (hH2 ▸ Heap.get?_push_size _ rfl))
 have fpl : ∀ b ∈ fp, b < s₂.heap.objs.size := fun b hb => by
  obtain ⟨o, e, _⟩ := T.obj _ _ st2 b hb
  exact Heap.lt_size e
 have hfD : H2 s₂.heap.objs.size = none := I2.hok.fresh (Nat.le_refl _)
 obtain ⟨W, ⟨m0, w0⟩, turn⟩ := q s₂.heap.objs.size hfD
 have hkr : ∀ x, (compEnvC scope cl HP.objs.size X.env).kindOf x = (scope.names.lookup x).map fun k => if (k == NameKind.free && X.env.scope.kind == .function && X.env.kindOf x == some .cell) then NameKind.cell else k := fun x => ZBl (env := X.env) scope.names x
 have cellOfN : ∀ x, scope.names.lookup x = some .free → X.env.kindOf x = some .cell := fun x e => S.free (x, .free) (PySem.mem_of_lookup e) rfl
 -- the context within
 have ok : (Yp X (own ++ caps) scope cl HP.objs.size s₂ H2 fp).Ok := by
  refine ⟨I2.ok.mod, S.kind, I2.ok.glob, I2.ok.blt, hCle, fun x y c e1 e2 => I2.ok.inj x y c (hcl x c e1) (hcl y c e2), fun x hx => ?_, fun x c z => (by cases z), I2.ok.hd, I2.ok.frames, .inl rfl, fun b hb => ⟨?_, fun x c e => (f2 b hb).2.2.2.2.1 x c (hcl x c e)⟩,
   I2.bs, Nat.le_trans I2.ok.bsz I2.sz, fun b o e hb => ?_, fun b hb z => ?_, I2.stack, I2.stkFree⟩
  ·have hx' : (scope.names.lookup x).map (fun k => if (k == NameKind.free && X.env.scope.kind == .function && X.env.kindOf x == some .cell) then NameKind.cell else k) = some .cell ∨
     (scope.names.lookup x).map (fun k => if (k == NameKind.free && X.env.scope.kind == .function && X.env.kindOf x == some .cell) then NameKind.cell else k) = some .free := by rw [← hkr x]; exact hx
   cases e : scope.names.lookup x with
   | none => rw [e] at hx'; rcases hx' with z | z <;> cases z
   | some k =>
    have hm := PySem.mem_of_lookup e
    have hk : k = .free := by
     by_cases hkf : k = .free
     ·exact hkf
     ·have hb : (k == NameKind.free) = false := by simpa using hkf
      rw [e] at hx'
      simp only [Option.map_some, hb, Bool.false_and, Bool.false_eq_true, if_false, Option.some.injEq] at hx'
      rcases hx' with z | z
      ·exact absurd z (S.nocell _ hm)
      ·exact z
    exact hclf _ hm hk
  ·exact Nat.ne_of_lt (Nat.lt_of_lt_of_le (fpl b hb) hCle)
  ·rcases (f2 b hb).2.2.2.1 with z | z
   ·exact I2.ok.noex b o e z
   ·exact absurd (Nat.lt_of_lt_of_le (Heap.lt_size e) (Nat.le_trans I2.ok.bsz z)) (Nat.lt_irrefl _)
  ·rcases List.mem_cons.mp (I2.stkSub b z) with r | r
   ·exact (f2 b hb).2.1 r
   ·exact (f2 b hb).2.2.1 r
 have hlen : (ZAo own.length ks σ).length = (own ++ caps).length := by
  have := congrArg List.length S.cap
  simp only [List.length_map] at this
  simp [ZAo, this]
 have I4 : Inv (Yp X (own ++ caps) scope cl HP.objs.size s₂ H2 fp) [] (ZAo own.length ks σ) (upd H2 s₂.heap.objs.size (.lst [])) { s₂ with heap := h₁, toks := s₂.toks + ([] : List (Str × Value)).length } := by
  obtain ⟨mX, hnX, hlX⟩ := I2.loc
  refine ⟨ok, rfl, I2.bare, Un.laid old (Nat.le_refl _) hfD, ⟨_, hns₁, fun i x v e1 e2 e3 => ?_⟩, fun x c e => ?_, ?_, fun x c e => ?_, fun p hp => (by cases hp), I2.hok.laid old (Nat.le_refl _) ⟨Nat.zero_le _, [], 0, .nil, hacc⟩, hlen⟩
  ·have e1 : (own ++ caps)[i]? = some x := e1
   by_cases hio : i < own.length
   ·unfold ZAo at e2
    rw [List.getElem?_append_left (by simpa using hio), List.getElem?_replicate] at e2
    rw [if_pos hio] at e2
    cases e2
   ·unfold ZAo at e2
    rw [List.getElem?_append_right (by simpa using hio), List.length_replicate, List.getElem?_map] at e2
    rw [List.getElem?_append_right (by simpa using hio)] at e1
    cases ek : ks[i - own.length]? with
    | none => rw [ek] at e2; cases e2
    | some k =>
     rw [ek] at e2
     have e2' := ZJr (Option.some.inj e2)
     have hcap := congrArg (fun l => l[i - own.length]?) S.cap
     simp only [List.getElem?_map, ek, e1, Option.map_some] at hcap
     have hNk : X.N[k]? = some x := Option.some.inj hcap
     have hfx := S.fr x (List.mem_of_getElem? e1)
     have hkX := cellOfN x hfx
     obtain ⟨u, ru, lk⟩ := hlX k x v hNk e2' (.inr (.inl hkX))
     refine ⟨u, ru, .inr ⟨.inl ?_, ?_⟩⟩
     ·show (compEnvC scope cl HP.objs.size X.env).kindOf x = some .cell
      rw [hkr x, hfx]
      simp [I2.ok.kind, hkX]
     ·rcases lk with ⟨z, _⟩ | ⟨_, c, ec, o, ho, hd⟩
      ·rw [hkX] at z; cases z
      ·obtain ⟨c', ec'⟩ := hclf (x, .free) (PySem.mem_of_lookup hfx) rfl
       have := hcl _ _ ec'
       rw [ec] at this
       cases this
       exact ⟨c, ec', o, old _ _ ho, hd⟩
  ·obtain ⟨v, o, ho, hd⟩ := I2.cell x c (hcl x c e)
   exact ⟨v, o, old _ _ ho, hd⟩
  ·show upd H2 s₂.heap.objs.size (.lst []) HP.objs.size = none
   rw [Za (Ne.symm hDC)]
   exact I2.hok.fresh hCle
  ·obtain ⟨v, o, ho, hd⟩ := I2.cell x c (hcl x c e)
   show upd H2 s₂.heap.objs.size (.lst []) c = none
   rw [Za (Nat.ne_of_lt (Heap.lt_size ho))]
   exact I2.freeC x c (hcl x c e)
 -- the way out
 have out : ∀ {σ' : St} {H' : Hp} {s' : Shared}, Inv (Yp X (own ++ caps) scope cl HP.objs.size s₂ H2 fp) [] σ' H' s' → Q (.ref s₂.heap.objs.size) H' →
   ∃ m, s'.heap.Ns HP.objs.size m ∧ ∀ h', Heap.SameBut HP.objs.size s'.heap h' → EP X pins σ Q (.ref s₂.heap.objs.size) { s' with heap := h' } := fun {σ' H' s'} I' q' => by
  obtain ⟨m, hn, _⟩ := I'.loc
  refine ⟨m, hn, fun h' hs' => ⟨.ref s₂.heap.objs.size, H', ?_, rfl, q'⟩⟩
  have hfree : H' HP.objs.size = none := I'.free
  have neC : ∀ {b : Addr} {o : Obj}, s₂.heap.get? b = some o → b ≠ HP.objs.size := fun e => Nat.ne_of_lt (Nat.lt_of_lt_of_le (Heap.lt_size e) hCle)
  refine I2.call' (ch := fp) (s' := { s' with heap := h' }) I'.os ⟨fun b o e n hb hx => ?_, fun b o e n hb hx => ?_, I'.base.free, fun b o e hx => ?_, I'.base.tups, I'.base.frzs, I'.base.tbls⟩ (fun b ob e => ?_) I'.bare fun b hb => ⟨(f2 b hb).2.2.2.1, (f2 b hb).2.1, (f2 b hb).2.2.2.2.1, (f2 b hb).2.2.2.2.2⟩
  ·exact (hs'.2 b (neC e)).trans (I'.base.keep b o e n hb hx)
  ·obtain ⟨sl, e1⟩ := I'.base.slot b o e n hb hx
   exact ⟨sl, (hs'.2 b (neC e)).trans e1⟩
  ·obtain ⟨o', e1⟩ := I'.base.there b o e hx
   exact ⟨o', (hs'.2 b (neC e)).trans e1⟩
  ·refine (I'.hok b ob e).stay (fun c w' hc q => (hs'.2 c ?_).trans q) (fun _ q => q) fun _ _ q => q
   rintro rfl
   rcases hc with rfl | hc
   ·rw [hfree] at e; cases e
   ·rw [hfree] at hc; cases hc
 have stat : ∀ {H' : Hp}, (∀ b ∈ fp, H' b = none) → ∀ b ∈ fp, Yh (Yp X (own ++ caps) scope cl HP.objs.size s₂ H2 fp) [] H' b := fun hn b hb =>
  ⟨hn b hb, Nat.ne_of_lt (Nat.lt_of_lt_of_le (fpl b hb) hCle), ok.exfs b hb, .inl hb, (ok.exf b hb).2, fun p hp => by cases hp⟩
 have fr4 : ∀ b ∈ fp, upd H2 s₂.heap.objs.size (.lst []) b = none := fun b hb => by
  rw [Za (Nat.ne_of_lt (fpl b hb))]
  exact (f2 b hb).1
 have tn4 : tn 0 h₁ := T.keep _ _ _ st2 fun b _ o e => old b o e
 have loop : ∀ s4 : Shared, s4 = { s₂ with heap := h₁, toks := s₂.toks + ([] : List (Str × Value)).length } →
   codeAny (model X.prog X.w) X.A (.compLoop (.ListComp elt [⟨tg, iter, ifs, 0⟩] scope pos) 0 (.ref it) (.ref s₂.heap.objs.size) (compEnvC scope cl HP.objs.size X.env))
    (compPost (model X.prog X.w) X.A X.xe none (EP X pins σ Q) (.ref s₂.heap.objs.size) HP.objs.size) s4 := by
  rintro s4 rfl
  refine ZB5 (fun n s' => ∃ i σ' H', Inv (Yp X (own ++ caps) scope cl HP.objs.size s₂ H2 fp) [] σ' H' s' ∧ tn i s'.heap ∧ (∀ b ∈ fp, H' b = none) ∧ W i n σ' H') ?_ m0 ⟨0, _, _, I4, tn4, fr4, w0⟩
  rintro n s3 ⟨i, σ3, H3, I3, st3, fr3, w3⟩
  rcases turn i n σ3 H3 w3 with ⟨stop, qn⟩ | ⟨go, N, hN, step⟩
  ·refine wpAny_mono (T.done (Yp X (own ++ caps) scope cl HP.objs.size s₂ H2 fp) rfl rfl rfl hc i [] s3 σ3 H3 (fun _ _ => False) I3 (stat fr3) st3 stop) (fun r s4 ⟨hr, I4'⟩ => ?_) fun _ _ z => False.elim z
   subst hr
   exact out I4' qn
  ·refine wpAny_mono (T.item (Yp X (own ++ caps) scope cl HP.objs.size s₂ H2 fp) rfl rfl rfl hc i [] s3 σ3 H3 (fun _ _ => False) I3 (stat fr3) st3 go) (fun r s4 ⟨u, hr, h4⟩ => ?_) fun _ _ z => False.elim z
   subst hr
   refine wpAny_mono h4 (fun _ s5 ⟨x, H5, I5, r5, y5, st5, fr5⟩ => ?_) fun _ _ z => False.elim z
   have I5' := I5.pinned (stat fr5) (T.obj _ _ st5)
   have back : ∀ {s7 : Shared} {σ7 : St} {H7 : Hp}, Inv (Yp X (own ++ caps) scope cl HP.objs.size s₂ H2 fp) ([] ++ ZCf fp s5.heap) σ7 H7 s7 → N σ7 H7 →
     ∃ m, m < n ∧ ∃ i σ' H', Inv (Yp X (own ++ caps) scope cl HP.objs.size s₂ H2 fp) [] σ' H' s7 ∧ tn i s7.heap ∧ (∀ b ∈ fp, H' b = none) ∧ W i m σ' H' := fun {s7 σ7 H7} I7 n7 => by
    obtain ⟨m', hm, w7⟩ := hN σ7 H7 n7
    refine ⟨m', hm, i + 1, σ7, H7, I7.unpinned, T.keep _ _ _ st5 fun b hb o e => (I7.pin (b, o) (List.mem_append_right _ (List.mem_append_right _ (ZAm hb e)))).1, fun b hb => ?_, w7⟩
    obtain ⟨o, e, d⟩ := T.obj _ _ st5 b hb
    exact (I7.pin (b, o) (List.mem_append_right _ (List.mem_append_right _ (ZAm hb e)))).2.1
   refine wpAny_mono (hg _ _ _ _ _ _ s5 σ3 H5 x u _ I5' r5 (step x H5 y5)) (fun _ s6 ⟨σ6, H6, I6, q6⟩ => ?_) fun _ _ z => False.elim z
   refine wpAny_mono (ht _ _ _ _ _ _ s6 σ6 H6 _ I6 q6) (fun b s7 ⟨H7, I7, q7⟩ => ?_) fun _ _ z => False.elim z
   cases b with
   | false =>
    rw [if_neg Bool.false_ne_true]
    rw [if_neg Bool.false_ne_true] at q7
    exact back I7 q7
   | true =>
    rw [if_pos rfl]
    rw [if_pos rfl] at q7
    refine wpAny_mono (he _ _ _ _ _ _ s7 σ6 H7 _ I7 q7) (fun y s8 ⟨v, H8, I8, r8, xs, hx8, hz8, n8⟩ => ?_) fun _ _ z => False.elim z
    refine wpAny_mono (JA (X := Yp X (own ++ caps) scope cl HP.objs.size s₂ H2 fp) _ s8 σ6 H8 (.ref s₂.heap.objs.size) [v] (.ref s₂.heap.objs.size) [y] (fun _ H' => N σ6 H') I8 rfl (.cons r8 .nil) ⟨_, xs, v, rfl, rfl, hx8, hz8, n8⟩) (fun _ s9 ⟨_, H9, I9, _, n9⟩ => ?_) fun _ _ z => False.elim z
    exact back I9 n9
 exact codeAny_compStart_list (loop _ rfl) (T.self _ 0 _ _ _ tn4 (loop _ rfl))
end
end L2
namespace L2
open PySem PySem.Spec PyProof.Rows
theorem ZQZ : bootBuiltins "int" = some (.type "int") := by decide +kernel
theorem ZOG : bootBuiltins "bool" = some (.type "bool") := by decide +kernel
theorem ZAI : bootBuiltins "tuple" = some (.type "tuple") := by decide +kernel
theorem ZOH : bootBuiltins "list" = some (.type "list") := by decide +kernel
theorem ZAc : bootBuiltins "len" = some (.builtin "len") := by decide +kernel
theorem ZJs : bootBuiltins "abs" = some (.builtin "abs") := by decide +kernel
theorem ZEK : bootBuiltins "max" = some (.builtin "max") := by decide +kernel
theorem ZF8 : bootBuiltins "min" = some (.builtin "min") := by decide +kernel
theorem ZBJ : bootBuiltins "sorted" = some (.builtin "sorted") := by decide +kernel
theorem ZCZ : bootBuiltins "isinstance" = some (.builtin "isinstance") := by decide +kernel
def Jm : Expr → Bool
 | .Starred _ _ => true
 | _ => false
def YM (es : List Expr) : Bool := es.all fun e => !Jm e
theorem Jy {e : Expr} {es : List Expr} {env : Env} (h : Jm e = false) : starEach (e :: es) env = (false, eval e env) :: starEach es env := by
 cases e <;> first | rfl | cases h
theorem Jf {e : Expr} {es : List Expr} {env : Env} (h : YM (e :: es) = true) : starEach (e :: es) env = (false, eval e env) :: starEach es env := by
 refine Jy ?_
 unfold YM at h
 rw [List.all_cons, Bool.and_eq_true] at h
 simpa using h.1
theorem JF {pos : Pos} {env : Env} : ∀ {es : List Expr}, YM es = true → (backTo pos (starEach es env)).any (·.1) = false
 | [], _ => rfl
 | e :: es, h => by
  rw [Jf h]
  have h2 : YM es = true := by
   unfold YM at h ⊢
   rw [List.all_cons, Bool.and_eq_true] at h
   exact h.2
  exact JF h2
theorem JB {e : Expr} {es : List Expr} (h : YM (e :: es) = true) : YM es = true := by
 unfold YM at h ⊢
 rw [List.all_cons, Bool.and_eq_true] at h
 exact h.2
section
variable {X : Cx} {CX : CXT} {k : Nat} {f : Addr} {fd : FuncData} {ps : List Str} {sp : Sp} {dvs : List V} {ds : List Value} {E : XK} {x : Str} {p pos : Pos} {e : Expr} {es : List Expr} {te : TE} {t : TA} {id T : String} {r : List V → Hp → VK → Prop}
theorem ZSd (ha : PE X e te) (hr : PA X es t) (hs : Jm e = false := by rfl) : PA X (e :: es) (ZFp te t) := ZN6 ha hr (Jy hs)
theorem ZLp (F : ZQ X.prog X.w X.K X.mg X.base CX k f fd ps sp) (hr : Z0 k X.A) (hg : Gl X x) (hm : X.mg x = some (.ref f)) (hk : PySem.W.keepIn X.K (.ref f) = true) (hb : ZN X.K fd ps ds) (hd : ZV dvs ds) (hx : Y2 CX X E)
  (ha : PA X (e :: es) t) (hns : YM (e :: es) = true := by rfl) (hdb : (x == ("__debug__" : Str)) = false := by decide) : PE X (.Call (.Name x p) (e :: es) [] pos) (ZFq sp dvs E t) :=
 ZN7 F hr hg hm hk hb hd hx ha hdb (Jf hns) (JF (JB hns))
theorem ZJt (hc : Z9 X (.builtin id) r) (hg : Gl X x) (hm : X.mg x = none) (hv : bootBuiltins x = some (.builtin id)) (ha : PA X (e :: es) t) (hns : YM (e :: es) = true := by rfl) (hn : x ≠ "__name__" := by decide) (hdb : (x == ("__debug__" : Str)) = false := by decide) :
 PE X (.Call (.Name x p) (e :: es) [] pos) (tCB r t) := ZLd hc hg hm hv ha hn hdb (Jf hns) (JF (JB hns))
theorem ZIh (hc : Z9 X (.type T) r) (hg : Gl X x) (hm : X.mg x = none) (hv : bootBuiltins x = some (.type T)) (ha : PA X (e :: es) t) (hns : YM (e :: es) = true := by rfl) (hn : x ≠ "__name__" := by decide) (hdb : (x == ("__debug__" : Str)) = false := by decide) :
 PE X (.Call (.Name x p) (e :: es) [] pos) (tCB r t) := ZJi hc hg hm hv ha hn hdb (Jf hns) (JF (JB hns))
end
def Jg : Expr → Bool
 | .ListComp _ _ _ _ => true
 | .SetComp _ _ _ _ => true
 | .DictComp _ _ _ _ _ => true
 | _ => false
theorem ZAJ {e : Expr} {tg : Option Expr} {n : Nat} {env : Env} (h : Jg e = false) : swapsWith e tg n env = pure false := by
 cases e <;> first | rfl | cases h
section
variable {X : Cx} {e : Expr} {te : TE} {pos : Pos}
theorem ZLq (he : PE X e te) (hs : Jg e = false := by rfl) : PS X (.Expr e pos) (ZFl te) := ZNt he (ZAJ hs)
theorem ZOI {i : Nat} {x : Str} {pos' : Pos} (hN : X.N.Nodup) (hi : X.N[i]? = some x) (hx : Loc X.env.scope x) (he : PE X e te) (hs : Jg e = false := by rfl) (hf : X.fn x = true ∨ X.env.scope.names.lookup x = some .local := by first | exact .inl rfl | exact .inr rfl | assumption) :
 PS X (.Assign [.Name x pos'] e pos) (ZDe te (ZB4 i)) := ZQC hN hi hx he (ZAJ hs) hf
end
def ZIi (K : PySem.W.Frag) : List V → Hp → VK → Prop := fun xs H Q => ∃ p ys, xs = [.ref p] ∧ (SqL K H p ys ∨ SqT K H p ys) ∧ Q (.int ys.length) H
def ZRw : List V → Hp → VK → Prop := fun xs H Q => (∃ i, xs = [.int i] ∧ Q (.int i) H) ∨ ∃ k, xs = [.bl k] ∧ Q (.int (if k then 1 else 0)) H
def ZQa : List V → Hp → VK → Prop := fun xs H Q => ∃ i, xs = [.int i] ∧ Q (.int (if i < 0 then -i else i)) H
def ZQb : List V → Hp → VK → Prop := fun xs H Q => ∃ i j, xs = [.int i, .int j] ∧ Q (.int (if j > i then j else i)) H
def ZQc : List V → Hp → VK → Prop := fun xs H Q => ∃ i j, xs = [.int i, .int j] ∧ Q (.int (if j < i then j else i)) H
def ZF9 (K : PySem.W.Frag) : List V → Hp → VK → Prop := fun xs H Q => ∃ p ys, xs = [.ref p] ∧ ((SqL K H p ys ∧ ∀ l, H l = none → Q (.ref l) (upd H l (.tup ys))) ∨ (SqT K H p ys ∧ Q (.ref p) H))
def ZSe : R2 := fun x y H Q => ∃ b, y = .bl b ∧ Q (.bl (decide (x = .bl b))) H
def ZRx : R2 := fun x y H Q => ∃ b, y = .bl b ∧ Q (.bl (!decide (x = .bl b))) H
def ZQd : R2 := fun x y H Q => y = .non ∧ Q (.bl (decide (x = .non))) H
def ZNT : R2 := fun x y H Q => y = .non ∧ Q (.bl (!decide (x = .non))) H
section
variable {X : Cx}
theorem ZQe : Z9 X (.builtin "len") (ZIi X.K) := ZF6
theorem ZJu : Z9 X (.builtin "abs") ZQa := ZLU
theorem ZJv (hc : X.calm = true) : Z9 X (.builtin "max") ZQb := ZJb hc
theorem ZQf (hc : X.calm = true) : Z9 X (.builtin "min") ZQc := ZJc hc
theorem ZLr : Z9 X (.type "tuple") (ZF9 X.K) := ZFS
theorem ZBm : OpR X (compareOp .Is) ZQd := ZQJ
theorem ZEh : OpR X (compareOp .IsNot) ZNT := ZN0
end
section
variable {K : PySem.W.Frag} {σ : St} {H : Hp} {Q : VK} {D : Z8}
theorem ZJw {t u : TS} (h : t { D with nx := u D } σ H) : ZLC t u D σ H := h
theorem ZQg {te : TE} (h : te σ H D.rt) : ZLE te D σ H := h
theorem ZOJ (h : D.rt .non H) : ZRo D σ H := h
theorem ZOK {te : TE} (h : te σ H fun _ H1 => D.nx σ H1) : ZFl te D σ H := h
theorem ZOL (h : D.nx σ H) : ZII D σ H := h
theorem ZQh {te : TE} {g : TG} (h : te σ H fun x H1 => g x σ H1 D.nx) : ZDe te g D σ H := h
theorem ZLs {i : Nat} {v : V} {R : St → Hp → Prop} (h : R (σ.set i (some v)) H) : ZB4 i v σ H R := h
theorem ZOM {R : St → Hp → Prop} (h : R σ H) : ZLG [] σ H R := ⟨rfl, h⟩
theorem ZLt {t : TG} {u : TGs} {v : V} {r : List V} {R : St → Hp → Prop} (h : t v σ H fun σ' H' => u r σ' H' R) : ZIK t u (v :: r) σ H R := ⟨v, r, rfl, h⟩
theorem ZON {to ti : TE} {t : ZDd} {v : V} {R : St → Hp → Prop} (h : to σ H fun o H1 => ti σ H1 fun i H2 => t o i v H2 fun H3 => R σ H3) : ZLI to ti t v σ H R := h
theorem ZQi {c : TT} {t u : TS} (h : c σ H fun b H1 => if b = true then t D σ H1 else u D σ H1) : ZDc c t u D σ H := h
theorem ZOO {t : TE} {R : Bool → Hp → Prop} (h : t σ H fun x H' => ∃ k, x = .bl k ∧ R k H') : ZEA t σ H R := h
theorem ZSf {t : TE} {R : Bool → Hp → Prop} (h : t σ H fun x H' => ∃ k, x = .bl k ∧ R k H') : tB t σ H R := h
theorem ZQj {b : Bool} {R : Bool → Prop} (h : R b) : ∃ k, V.bl b = .bl k ∧ R k := ⟨b, rfl, h⟩
theorem ZQk {t u : TT} {R : Bool → Hp → Prop} (h : t σ H fun c H1 => if c = true then u σ H1 R else R false H1) : ZK9 t u σ H R := h
theorem ZRy {t u : TT} {R : Bool → Hp → Prop} (h : t σ H fun c H1 => if c = true then R true H1 else u σ H1 R) : tOr t u σ H R := h
theorem ZQl {t : TT} {R : Bool → Hp → Prop} (h : t σ H fun c H1 => R (!c) H1) : ZLA t σ H R := h
theorem ZOP {t u : TE} (h : t σ H fun x H1 => ∃ c, x = .bl c ∧ if c = true then u σ H1 Q else Q (.bl false) H1) : ZIG t u σ H Q := h
theorem ZQm {t u : TE} (h : t σ H fun x H1 => ∃ c, x = .bl c ∧ if c = true then Q (.bl true) H1 else u σ H1 Q) : ZSX t u σ H Q := h
theorem ZOQ {t : TE} (h : t σ H fun x H1 => ∃ c, x = .bl c ∧ Q (.bl (!c)) H1) : ZIH t σ H Q := h
theorem ZRz {t : TT} {ta tb : TE} (h : t σ H fun c H1 => if c = true then ta σ H1 Q else tb σ H1 Q) : tIf t ta tb σ H Q := h
theorem ZQn {i : Nat} {v : V} (e : σ[i]? = some (some v)) (h : Q v H) : ZK8 i σ H Q := ⟨v, e, h⟩
theorem ZGA {i j : Int} (h1 : 0 ≤ j) (h2 : j ≤ 1000000) (h3 : i.natAbs < 2 ^ 64) : ZLQ i j := ⟨h1, h2, h3⟩
theorem ZSg {v : V} (h : Q v H) : tC v σ H Q := h
theorem ZR0 {r : R2} {ta tb : TE} (h : ta σ H fun x H1 => tb σ H1 fun y H2 => r x y H2 Q) : tOp r ta tb σ H Q := h
theorem ZR1 {r : V → Hp → VK → Prop} {ta : TE} (h : ta σ H fun x H1 => r x H1 Q) : tUn r ta σ H Q := h
theorem ZR2 {g : Int → Int → V} {i j : Int} (h : Q (g i j) H) : rI0 g (.int i) (.int j) H Q := ⟨i, j, rfl, rfl, h⟩
theorem ZGB {C : Int → Int → Prop} {g : Int → Int → V} {i j : Int} (c : C i j) (h : Q (g i j) H) : rI C g (.int i) (.int j) H Q := ⟨i, j, rfl, rfl, c, h⟩
theorem ZSh {g : Int → V} {i : Int} (h : Q (g i) H) : rU g (.int i) H Q := ⟨i, rfl, h⟩
theorem ZQo {i j : Int} (h : Q (.bl (decide (V.int i = V.int j))) H) : rEq (.int i) (.int j) H Q := ⟨rfl, h⟩
theorem ZQp {i j : Int} (h : Q (.bl (!decide (V.int i = V.int j))) H) : rNe (.int i) (.int j) H Q := ⟨rfl, h⟩
theorem ZR3 {r : List V → Hp → VK → Prop} {t : TA} (h : t σ H fun vs H1 => r vs H1 Q) : tCB r t σ H Q := h
theorem ZOR {sp : Sp} {dvs : List V} {E : XK} {t : TA} (h : t σ H fun vs H1 => sp (vs ++ dvs) H1 Q E) : ZFq sp dvs E t σ H Q := h
theorem ZOS {ta : TE} {tr : TA} {R : List V → Hp → Prop} (h : ta σ H fun x H1 => tr σ H1 fun xs H2 => R (x :: xs) H2) : ZFp ta tr σ H R := h
theorem ZQq {R : List V → Hp → Prop} (h : R [] H) : ZF2 σ H R := h
def ZGC (n : Nat) (o : HO) (H : Hp) (Q : VK) : Prop := n ≤ sizeLine ∧ ∀ p, H p = none → Q (.ref p) (upd H p o)
theorem ZQr {t : TA} (h : t σ H fun xs H1 => ZGC xs.length (.tup xs) H1 Q) : ZLZ t σ H Q := h
theorem ZQs {t : TA} (h : t σ H fun xs H1 => ZGC xs.length (.lst xs) H1 Q) : ZLa t σ H Q := h
theorem ZR {n : Nat} {o : HO} (hz : n ≤ sizeLine) (h : ∀ p H2, H p = none → H2 p = some o → ZK H H2 → Q (.ref p) H2) : ZGC n o H Q :=
 ⟨hz, fun p hp => h p _ hp ZS (fun b u e => by rw [Za (ZY e hp)]; exact e)⟩
theorem ZLu {r r' : R2} {ta tb tc : TE} (h : ta σ H fun x H1 => tb σ H1 fun y H2 => r x y H2 fun z H3 => ∃ k, z = .bl k ∧ (if k = true then tc σ H3 fun w' H4 => r' y w' H4 Q else Q (.bl false) H3)) : ZCg r r' ta tb tc σ H Q := h
theorem JM {p : Addr} {xs : List V} {i : Int} {v : V} (h1 : SqL K H p xs) (h2 : atI xs i = some v) (h : Q v H) : ZIZ K (.ref p) (.int i) H Q := ⟨p, xs, i, v, rfl, rfl, h1, h2, h⟩
theorem ZGD {p : Addr} {xs : List V} {i : Int} {v : V} (h1 : SqT K H p xs) (h2 : atI xs i = some v) (h : Q v H) : ZLg K (.ref p) (.int i) H Q := ⟨p, xs, i, v, rfl, rfl, h1, h2, h⟩
theorem ZAK {p : Addr} {xs : List V} {k : Int} {j : Nat} {v : V} {R : Hp → Prop} (h1 : H p = some (.lst xs)) (h2 : ixN xs.length k = some j)
  (h : ∀ H2, H2 p = some (.lst (xs.set j v)) → (∀ q o, H q = some o → q ≠ p → H2 q = some o) → R H2) : ZEG (.ref p) (.int k) v H R :=
 ⟨p, xs, k, j, rfl, rfl, h1, h2, h _ ZS fun q o e n => by rw [Za n]; exact e⟩
def rFor (J : It) (g : TG) (tb : TS) (D : Z8) (σ : St) (H : Hp) : Prop := ∃ W : Nat → Nat → St → Hp → Prop, (∃ m, W 0 m σ H) ∧ ∀ i m σ H, W i m σ H →
 (J.stop i H ∧ D.nx σ H) ∨ (J.go i H ∧ ∃ N : St → Hp → Prop, (∀ σ' H', N σ' H' → ∃ m', m' < m ∧ W (i + 1) m' σ' H') ∧ ∀ x H', J.yld i H x H' → g x σ H' fun σ2 H2 => tb { D with nx := N, ct := N, bk := D.nx } σ2 H2)
theorem ZQt {wi : TI} {g : TG} {tb : TS} (h : wi σ H fun J H1 => rFor J g tb D σ H1) : ZLM wi g tb D σ H := h
def ZNU (vs : List V) (H : Hp) (R : It → Hp → Prop) : Prop := ∃ j : Int, vs = [.int j] ∧ -(2 ^ 62) ≤ j ∧ j < 2 ^ 62 ∧ R (Itr 0 j.toNat) H
theorem ZOT {ta : TA} {R : It → Hp → Prop} (h : ta σ H fun vs H1 => ZNU vs H1 R) : ZIQ ta σ H R := h
theorem ZBn {j : Int} {R : It → Hp → Prop} (h1 : -(2 ^ 62) ≤ j) (h2 : j < 2 ^ 62) (h : R (Itr 0 j.toNat) H) : ZNU [.int j] H R := ⟨j, rfl, h1, h2, h⟩
def ZR4 (vs : List V) (H : Hp) (R : It → Hp → Prop) : Prop := ∃ i j : Int, vs = [.int i, .int j] ∧ (-(2 ^ 62) ≤ i ∧ i < 2 ^ 62 ∧ -(2 ^ 62) ≤ j ∧ j < 2 ^ 62) ∧ R (Itr i (j - i).toNat) H
theorem ZOU {ta : TA} {R : It → Hp → Prop} (h : ta σ H fun vs H1 => ZR4 vs H1 R) : ZRq ta σ H R := h
theorem ZOV {b : Bool} (h : Q (.int (if b then 1 else 0)) H) : ZRw [.bl b] H Q := .inr ⟨b, rfl, h⟩
theorem ZQu {i : Int} (h : Q (.int (if i < 0 then -i else i)) H) : ZQa [.int i] H Q := ⟨i, rfl, h⟩
theorem ZQv {i j : Int} (h : Q (.int (if j > i then j else i)) H) : ZQb [.int i, .int j] H Q := ⟨i, j, rfl, h⟩
theorem ZQw {i j : Int} (h : Q (.int (if j < i then j else i)) H) : ZQc [.int i, .int j] H Q := ⟨i, j, rfl, h⟩
theorem ZOW {p : Addr} {ys : List V} (h1 : SqL K H p ys) (h : Q (.int ys.length) H) : ZIi K [.ref p] H Q := ⟨p, ys, rfl, .inl h1, h⟩
theorem ZOX {p : Addr} {ys : List V} (h1 : SqT K H p ys) (h : Q (.int ys.length) H) : ZIi K [.ref p] H Q := ⟨p, ys, rfl, .inr h1, h⟩
theorem ZJx {x : V} {n : String} {t : Value} {b : Bool} (ty : JY K H x t) (e : PySem.W.kitOne K t (.type n) = some b) (h : Q (.bl b) H) : ZLl K [x, .ty n] H Q := ⟨x, n, t, b, rfl, ty, e, h⟩
theorem ZQx {x : V} {b : Bool} (h : Q (.bl (decide (x = .bl b))) H) : ZSe x (.bl b) H Q := ⟨b, rfl, h⟩
theorem ZOY {x : V} {b : Bool} (h : Q (.bl (!decide (x = .bl b))) H) : ZRx x (.bl b) H Q := ⟨b, rfl, h⟩
theorem ZQy {x : V} (h : Q (.bl (decide (x = .non))) H) : ZQd x .non H Q := ⟨rfl, h⟩
theorem ZOZ {x : V} (h : Q (.bl (!decide (x = .non))) H) : ZNT x .non H Q := ⟨rfl, h⟩
theorem ZOa {n : Nat} {t : TGs} {p : Addr} {xs : List V} {R : St → Hp → Prop} (h1 : SqT K H p xs) (h2 : xs.length = n) (h : t xs σ H R) : ZIL K n t (.ref p) σ H R := ⟨p, xs, rfl, h1, h2, h⟩
theorem ZAx {p : Addr} {ys : List V} (h1 : SqL K H p ys) (h : ∀ l H2, H l = none → H2 l = some (.tup ys) → ZK H H2 → Q (.ref l) H2) :
  ZF9 K [.ref p] H Q :=
 ⟨p, ys, rfl, .inl ⟨h1, fun l hl => h l _ hl ZS (fun b u e => by rw [Za (ZY e hl)]; exact e)⟩⟩
theorem ZJy {p : Addr} {xs : List V} {lo hi : Option Int} (h1 : SqL K H p xs) (h : ∀ l H2, H l = none → H2 l = some (.lst (JT xs lo hi)) → ZK H H2 → Q (.ref l) H2) : ZIb K (.ref p) lo hi H Q :=
 ⟨p, xs, rfl, h1, fun l hl => h l _ hl ZS (fun b u e => by rw [Za (ZY e hl)]; exact e)⟩
theorem ZQz {p q : Addr} {xs zs : List V} (h1 : H p = some (.lst xs)) (h2 : H q = some (.lst zs)) (hz : xs.length + zs.length ≤ sizeLine) (h : ∀ l H2, H l = none → H2 l = some (.lst (xs ++ zs)) → ZK H H2 → Q (.ref l) H2) : ZQX (.ref p) (.ref q) H Q :=
 ⟨p, q, xs, zs, rfl, rfl, h1, h2, hz, fun l hl => h l _ hl ZS (fun b u e => by rw [Za (ZY e hl)]; exact e)⟩
theorem ZR5 {r : V → Option Int → Option Int → Hp → VK → Prop} {te : TE} {tl th : TO} (h : te σ H fun x H1 => tl σ H1 fun l H2 => th σ H2 fun u H3 => r x l u H3 Q) : tSl r te tl th σ H Q := h
theorem ZJz {R : Option Int → Hp → Prop} (h : R none H) : ZEf σ H R := h
theorem ZOb {t : TE} {R : Option Int → Hp → Prop} (h : t σ H fun x H1 => ∃ i, x = .int i ∧ R (some i) H1) : ZIY t σ H R := h
theorem ZSi {i : Int} {R : Int → Prop} (h : R i) : ∃ j, V.int i = .int j ∧ R j := ⟨i, rfl, h⟩
theorem Zu {c A B : Prop} [Decidable c] (h1 : c → A) (h2 : ¬ c → B) : if decide c = true then A else B := by
 by_cases h : c
 ·rw [decide_eq_true h]; exact YJ (h1 h)
 ·rw [decide_eq_false h]; exact Z1 (h2 h)
theorem ZFs {c A B : Prop} [Decidable c] (h1 : ¬ c → A) (h2 : c → B) : if (!decide c) = true then A else B := by
 by_cases h : c
 ·rw [decide_eq_true h]; exact Z1 (h2 h)
 ·rw [decide_eq_false h]; exact YJ (h1 h)
theorem Yr {i j : Int} : decide (V.int i = V.int j) = decide (i = j) := by
 by_cases h : i = j
 ·subst h; simp
 ·rw [decide_eq_false h, decide_eq_false (fun z => h (V.int.inj z))]
theorem ZDC {lo : Int} {n : Nat} {g : TG} {tb : TS} (Pv : Nat → St → Hp → Prop) (h0 : Pv 0 σ H)
 (hs : ∀ i σ H, i < n → Pv i σ H → g (.int (lo + i)) σ H fun σ2 H2 => tb { D with nx := Pv (i + 1), ct := Pv (i + 1), bk := D.nx } σ2 H2) (hd : ∀ σ H, Pv n σ H → D.nx σ H) :
 rFor (Itr lo n) g tb D σ H := ZJZ Pv h0 hs hd
theorem ZBo {a : Addr} {xs : List V} {g : TG} {tb : TS} (Pv : Nat → St → Hp → Prop) (h0 : Pv 0 σ H) (hl : ∀ i σ H, i ≤ xs.length → Pv i σ H → SqL K H a xs)
 (hs : ∀ i x σ H, xs[i]? = some x → Pv i σ H → g x σ H fun σ2 H2 => tb { D with nx := Pv (i + 1), ct := Pv (i + 1), bk := D.nx } σ2 H2) (hd : ∀ σ H, Pv xs.length σ H → D.nx σ H) :
 rFor (Itl K a) g tb D σ H := ZLN Pv h0 hl hs hd
theorem ZEi {a : Addr} {xs : List V} {g : TG} {tb : TS} (Pv : Nat → St → Hp → Prop) (h0 : Pv 0 σ H) (hl : ∀ i σ H, i ≤ xs.length → Pv i σ H → SqT K H a xs)
 (hs : ∀ i x σ H, xs[i]? = some x → Pv i σ H → g x σ H fun σ2 H2 => tb { D with nx := Pv (i + 1), ct := Pv (i + 1), bk := D.nx } σ2 H2) (hd : ∀ σ H, Pv xs.length σ H → D.nx σ H) :
 rFor (Itt K a) g tb D σ H := ZNy Pv h0 hl hs hd
def ZNV (J : It) (g : TG) (tt : TT) (te : TE) (l : Addr) (σ0 : St) (H : Hp) (Q : VK) : Prop :=
 ∃ W : Nat → Nat → St → Hp → Prop, (∃ m, W 0 m σ0 (upd H l (.lst []))) ∧ ∀ i m σ' H', W i m σ' H' →
  (J.stop i H' ∧ Q (.ref l) H') ∨ (J.go i H' ∧ ∃ N : St → Hp → Prop, (∀ σ2 H2, N σ2 H2 → ∃ m', m' < m ∧ W (i + 1) m' σ2 H2) ∧
   ∀ x H'', J.yld i H' x H'' → g x σ' H'' fun σ2 H2 => tt σ2 H2 fun b H3 =>
    if b = true then te σ2 H3 fun v H4 => ∃ xs, H4 l = some (.lst xs) ∧ xs.length < sizeLine ∧ N σ2 (upd H4 l (.lst (xs ++ [v]))) else N σ2 H3)
theorem Jh {J : It} {g : TG} {tt : TT} {te : TE} {σ0 : St} {l : Addr} (n : Nat) (Pv : Nat → St → Hp → Prop) (h0 : Pv 0 σ0 (upd H l (.lst [])))
  (stop : ∀ σ H, Pv n σ H → J.stop n H ∧ Q (.ref l) H)
  (go : ∀ i σ H, i < n → Pv i σ H → J.go i H ∧ ∀ x H', J.yld i H x H' → g x σ H' fun σ2 H2 => tt σ2 H2 fun b H3 =>
   if b = true then te σ2 H3 fun v H4 => ∃ xs, H4 l = some (.lst xs) ∧ xs.length < sizeLine ∧ Pv (i + 1) σ2 (upd H4 l (.lst (xs ++ [v]))) else Pv (i + 1) σ2 H3) :
  ZNV J g tt te l σ0 H Q := by
 refine ⟨fun i m σ H => m = n - i ∧ i ≤ n ∧ Pv i σ H, ⟨n, by simp, Nat.zero_le _, h0⟩, ?_⟩
 rintro i m σ H ⟨rfl, hi, p⟩
 by_cases hlt : i < n
 ·obtain ⟨hgo, h⟩ := go i σ H hlt p
  exact .inr ⟨hgo, Pv (i + 1), fun σ' H' p' => ⟨n - (i + 1), by omega, rfl, hlt, p'⟩, h⟩
 ·have e : i = n := by omega
  subst e
  exact .inl (stop σ H p)
theorem ZOc {own : Nat} {ks : List Nat} {wi : TI} {g : TG} {tt : TT} {te : TE} (h : wi σ H fun J H1 => ∀ l, H1 l = none → ZNV J g tt te l (ZAo own ks σ) H1 Q) : ZIg own ks wi g tt te σ H Q := h
def ZQ0 (K : PySem.W.Frag) (x : V) (H : Hp) (R : It → Hp → Prop) : Prop := ∃ a, x = .ref a ∧ (∃ xs, SqT K H a xs) ∧ R (Itt K a) H
def ZQ1 (K : PySem.W.Frag) (x : V) (H : Hp) (R : It → Hp → Prop) : Prop := ∃ a, x = .ref a ∧ (∃ xs, SqL K H a xs) ∧ R (Itl K a) H
theorem ZOd {tl : TE} {R : It → Hp → Prop} (h : tl σ H fun x H1 => ZQ0 K x H1 R) : ZIP K tl σ H R := h
theorem ZLv {tl : TE} {R : It → Hp → Prop} (h : tl σ H fun x H1 => ZQ1 K x H1 R) : ZFn K tl σ H R := h
theorem ZQ2 {p : Addr} {xs : List V} {R : It → Hp → Prop} (h1 : SqT K H p xs) (h : R (Itt K p) H) : ZQ0 K (.ref p) H R := ⟨p, rfl, ⟨xs, h1⟩, h⟩
theorem ZJ0 {p : Addr} {xs : List V} {R : It → Hp → Prop} (h1 : SqL K H p xs) (h : R (Itl K p) H) : ZQ1 K (.ref p) H R := ⟨p, rfl, ⟨xs, h1⟩, h⟩
theorem ZOe {R : Bool → Hp → Prop} (h : R true H) : ZIf σ H R := h
end
theorem ZK.seqT {K : PySem.W.Frag} {H H' : Hp} {a : Addr} {xs : List V} (e : ZK H H') (h : SqT K H a xs) : SqT K H' a xs := by
 rcases h with (h | ⟨o, h⟩) | h
 ·exact .inl (.inl (e _ _ h))
 ·exact .inl (.inr ⟨o, e _ _ h⟩)
 ·exact .inr h
def Kp (p : Addr) (H H' : Hp) : Prop := ∀ q o, H q = some o → q ≠ p → H' q = some o
theorem Kp.refl (p : Addr) (H : Hp) : Kp p H H := fun _ _ h _ => h
theorem Kp.trans {p : Addr} {H H1 H2 : Hp} (a : Kp p H H1) (b : Kp p H1 H2) : Kp p H H2 := fun q o h n => b q o (a q o h n) n
theorem Kp.upd {p : Addr} {H : Hp} {o : HO} : Kp p H (upd H p o) := fun q u h n => by rw [Za n]; exact h
theorem Kp.same {p : Addr} {H H' : Hp} (a : ZK H H') : Kp p H H' := fun q o h _ => a q o h
theorem ZK.new {H : Hp} {l : Addr} {o : HO} (h : H l = none) : ZK H (upd H l o) := fun b u e => by rw [Za (ZY e h)]; exact e
theorem JY.same {K : PySem.W.Frag} {H H' : Hp} {x : V} {t : Value} (e : ZK H H') (h : JY K H x t) : JY K H' x t := by
 cases h with
 | non => exact .non
 | bl x => exact .bl x
 | int i => exact .int i
 | str x => exact .str x
 | flt x => exact .flt x
 | lst h => exact .lst (e _ _ h)
 | frz h => exact .frz (e _ _ h)
 | tup h => exact .tup (e _ _ h)
 | dK h => exact .dK (e _ _ h)
 | dT h => exact .dT (e _ _ h)
 | ins h cl ha hn htk hm => exact .ins (e _ _ h) cl ha hn htk hm
def Pot (H : Hp) (p : Addr) : Prop := ∃ a b : Int, H p = some (.lst [.int a, .int b]) ∧ 0 ≤ a ∧ 0 ≤ b ∧ b < 2147483648
theorem Pot.same {H H' : Hp} {p : Addr} (h : Pot H p) (s : ZK H H') : Pot H' p := by
 obtain ⟨x, y, h, r⟩ := h
 exact ⟨x, y, s _ _ h, r⟩
theorem Pot.neN {H : Hp} {p l : Addr} (h : Pot H p) (hl : H l = none) : l ≠ p := by
 obtain ⟨x, y, h, r⟩ := h
 exact (ZY h hl).symm
theorem Kp.then {H H1 H2 : Hp} {p : Addr} (h : Kp p H H1) (s : ZK H1 H2) : Kp p H H2 := h.trans (Kp.same s)
theorem Kp.free {H H1 : Hp} {p l : Addr} (h : Kp p H H1) (hp : Pot H1 p) (hl : H1 l = none) : H l = none := by
 cases e : H l with
 | none => rfl
 | some o =>
  have := h l o e (hp.neN hl)
  rw [hl] at this
  cases this
theorem Kp.fresh {H H1 : Hp} {p : Addr} (h : Kp p H H1) (hp : H p = none) : ZK H H1 := fun q o e => h q o e (ZY e hp)
end L2
namespace L2
open PySem PySem.Spec PyProof.Rows
structure QE (X : Cx) (e : Expr) (t : TE) : Prop where
 h : PE X e t
structure QT (X : Cx) (e : Expr) (t : TT) : Prop where
 h : PT X e t
structure QW (X : Cx) (e : Expr) (t : TT) : Prop where
 h : PW X e t
structure QA (X : Cx) (es : List Expr) (t : TA) : Prop where
 h : PA X es t
structure QS (X : Cx) (st : Stmt) (t : TS) : Prop where
 h : PS X st t
structure QB (X : Cx) (st : List Stmt) (t : TS) : Prop where
 h : PSs X st t
structure QG (X : Cx) (e : Expr) (t : TG) : Prop where
 h : PG X e t
structure QGs (X : Cx) (es : List Expr) (t : TGs) : Prop where
 h : PGs X es t
structure QI (X : Cx) (tg e : Expr) (t : TI) : Prop where
 h : PI X tg e t
structure QF (X : Cx) (es : List Expr) (t : TT) : Prop where
 h : ZIe X es t
structure QO (X : Cx) (e : Option Expr) (t : TO) : Prop where
 h : PO X e t
def ZFt : Expr → Bool
 | .Slice _ _ _ _ => true
 | _ => false
theorem ZOf {b : Expr} (h : ZFt b = false) : ZHv b := by
 intro o i
 cases b <;> first | rfl | cases h
def ZGE : Expr → Bool
 | .UnaryOp _ _ _ => false
 | .BoolOp _ _ _ => false
 | .IfExp _ _ _ _ => false
 | .Compare _ _ _ _ => false
 | _ => true
theorem ZQ3 {e : Expr} {env : Env} (h : ZGE e = true) : ∀ whole, isTrue e env whole = (do let v ← whole; standAt e.pos; holding [v] (truthy v)) := by
 intro whole
 cases e <;> first | rfl | cases h
section
variable {X : Cx} {a b c e o : Expr} {es Yt : List Expr} {ta tb tc te to ti : TE} {tA tB' : TT} {t tr : TA} {pos p p2 pos' : Pos} {x : Str}
theorem qv (i : Nat) {x : Str} {pos : Pos} (hN : X.N[i]? = some x := by rfl) (hv : Vis X.env.scope x := by first | exact Or.inl rfl | exact Or.inr (Or.inl rfl) | exact Or.inr (Or.inr rfl)) (hd : (x == ("__debug__" : Str)) = false := by decide)
 (hcd : (x == ("__classdict__" : Str)) = false := by decide) : QE X (.Name x pos) (ZK8 i) := ⟨ZPy hN hv hd hcd⟩
theorem ZC {i j pos} : QE X (.Constant (.int i) j pos) (tC (.int i)) := ⟨ZPz⟩
theorem ZB6 {b j pos} : QE X (.Constant (.bool b) j pos) (tC (.bl b)) := ⟨ZRm⟩
theorem YN {j pos} : QE X (.Constant .none j pos) (tC .non) := ⟨ZP0⟩
theorem JN {x j pos} : QE X (.Constant (.str x) j pos) (tC (.str x)) := ⟨ZP1⟩
theorem ZDD {v : V} {u : Value} (hg : Gl X x) (hm : X.mg x = some u) (r : ZX v u) (hd : (x == ("__debug__" : Str)) = false := by decide) : QE X (.Name x pos) (tC v) := ⟨ZNo hg hm r hd⟩
theorem ZH1 {v : V} {u : Value} (hg : Gl X x) (hm : X.mg x = none) (hv : bootBuiltins x = some u) (r : ZX v u) (hn : x ≠ "__name__" := by decide) (hd : (x == ("__debug__" : Str)) = false := by decide) : QE X (.Name x pos) (tC v) := ⟨ZNp hg hm hv r hn hd⟩
theorem ZL {op : Operator} {r : R2} (ho : OpR X (binaryOp op) r) (ha : QE X a ta) (hb : QE X b tb) : QE X (.BinOp a op b pos) (tOp r ta tb) := ⟨ZRr ho ha.h hb.h⟩
theorem ZB7 {op : UnaryOp} {r : V → Hp → VK → Prop} (ho : UnR X (unaryOp op) r) (ha : QE X a ta) : QE X (.UnaryOp op a pos) (tUn r ta) := ⟨ZRs ho ha.h⟩
theorem ZQ4 (ha : QE X a ta) : QE X (.UnaryOp .Not a pos) (ZIH ta) := ⟨ZP8 ha.h⟩
theorem ZCk {op} (h : QE X a ta) : QE X (.BoolOp op [a] pos) ta := ⟨ZP6 h.h⟩
theorem ZCl (ha : QE X a ta) (hb : QE X (.BoolOp .And (b :: Yt) pos) tb) : QE X (.BoolOp .And (a :: b :: Yt) pos) (ZIG ta tb) := ⟨ZP7 ha.h hb.h⟩
theorem ZB8 (hc : QT X c tA) (ha : QE X a ta) (hb : QE X b tb) : QE X (.IfExp c a b pos) (tIf tA ta tb) := ⟨ZLB hc.h ha.h hb.h⟩
theorem ZAL {op : CmpOp} {r : R2} (ho : OpR X (compareOp op) r) (ha : QE X a ta) (hb : QE X b tb) (hm : behindInMarks op b = false) : QE X (.Compare a [op] [b] pos) (tOp r ta tb) := ⟨ZN1 ho ha.h hb.h hm⟩
theorem ZW {op : CmpOp} {r : R2} (ho : OpR X (compareOp op) r) (ha : QE X a ta) (hb : QE X b tb) (hm : behindInMarks op b = false) : QT X (.Compare a [op] [b] pos) (ZEA (tOp r ta tb)) := ⟨ZN2 ho ha.h hb.h hm⟩
theorem ZLw {op op' : CmpOp} {r r' : R2} (ho : OpR X (compareOp op) r) (ho' : OpR X (compareOp op') r') (ha : QE X a ta) (hb : QE X b tb) (hc : QE X c tc)
 (hm : lastMarks [op, op'] [b, c] = false := by with_unfolding_all rfl) : QE X (.Compare a [op, op'] [b, c] pos) (ZCg r r' ta tb tc) := ⟨ZLS ho ho' ha.h hb.h hc.h hm⟩
theorem ZB9 {op op' : CmpOp} {r r' : R2} (ho : OpR X (compareOp op) r) (ho' : OpR X (compareOp op') r') (ha : QE X a ta) (hb : QE X b tb) (hc : QE X c tc)
 (hm : lastMarks [op, op'] [b, c] = false := by with_unfolding_all rfl) : QT X (.Compare a [op, op'] [b, c] pos) (ZEA (ZCg r r' ta tb tc)) := ⟨ZLT ho ho' ha.h hb.h hc.h hm⟩
theorem Y3 (h : QE X e te) (he : ZGE e = true := by rfl) : QT X e (tB te) := ⟨ZP2 h.h (ZQ3 he)⟩
theorem QW.pt (h : QW X e tA) : QT X e tA := ⟨h.h.pt⟩
theorem JR (ha : QT X a tA) : QW X (.BoolOp .And [a] pos) tA := ⟨ZNq ha.h⟩
theorem ZBp (ha : QT X a tA) : QW X (.BoolOp .Or [a] pos) tA := ⟨ZP3 ha.h⟩
theorem Jn (ha : QT X a tA) (hb : QW X (.BoolOp .And (b :: Yt) pos) tB') : QW X (.BoolOp .And (a :: b :: Yt) pos) (ZK9 tA tB') := ⟨ZP4 ha.h hb.h⟩
theorem ZDE (ha : QT X a tA) (hb : QW X (.BoolOp .Or (b :: Yt) pos) tB') : QW X (.BoolOp .Or (a :: b :: Yt) pos) (tOr tA tB') := ⟨ZRn ha.h hb.h⟩
theorem JO (ha : QT X a tA) : QT X (.UnaryOp .Not a pos) (ZLA tA) := ⟨ZP5 ha.h⟩
theorem ZB : QA X [] ZF2 := ⟨ZQO⟩
theorem ZA (ha : QE X e te) (hr : QA X es t) (hs : Jm e = false := by rfl) : QA X (e :: es) (ZFp te t) := ⟨ZSd ha.h hr.h hs⟩
theorem Zg {x1} (h : QA X es t) : QE X (.Tuple es x1 pos) (ZLZ t) := ⟨ZQP h.h⟩
theorem Yd (h : QA X es t) : QE X (.List es pos) (ZLa t) := ⟨ZQQ h.h⟩
theorem ZU {r : R2} (hr : IxR X r) (ha : QE X a ta) (hb : QE X b tb) (hs : ZFt b = false := by rfl) : QE X (.Subscript a b pos) (tOp r ta tb) := ⟨ZRu hr ha.h hb.h (ZOf hs)⟩
theorem ZOg : QO X none ZEf := ⟨ZOA⟩
theorem ZEj (h : QE X e te) : QO X (some e) (ZIY te) := ⟨ZOB h.h⟩
theorem ZGF {lo hi : Option Expr} {tl th : TO} {r : V → Option Int → Option Int → Hp → VK → Prop} (hr : SlR X r) (he : QE X e te) (hl : QO X lo tl) (hu : QO X hi th) : QE X (.Subscript e (.Slice lo hi none p2) pos) (tSl r te tl th) := ⟨ZLf hr he.h hl.h hu.h⟩
theorem ZG {CX : CXT} {k : Nat} {f : Addr} {fd : FuncData} {ps : List Str} {sp : Sp} {dvs : List V} {ds : List Value} {E : XK} (F : ZQ X.prog X.w X.K X.mg X.base CX k f fd ps sp) (hr : Z0 k X.A) (hg : Gl X x) (hm : X.mg x = some (.ref f)) (hk : PySem.W.keepIn X.K (.ref f) = true) (hb : ZN X.K fd ps ds) (hd : ZV dvs ds) (hx : Y2 CX X E)
 (ha : QA X (e :: es) t) (hns : YM (e :: es) = true := by rfl) (hdb : (x == ("__debug__" : Str)) = false := by decide) : QE X (.Call (.Name x p) (e :: es) [] pos) (ZFq sp dvs E t) := ⟨ZLp F hr hg hm hk hb hd hx ha.h hns hdb⟩
theorem Zo {id : String} {r : List V → Hp → VK → Prop} (hc : Z9 X (.builtin id) r) (hg : Gl X x) (hm : X.mg x = none) (hv : bootBuiltins x = some (.builtin id)) (ha : QA X (e :: es) t) (hns : YM (e :: es) = true := by rfl) (hn : x ≠ "__name__" := by decide) (hdb : (x == ("__debug__" : Str)) = false := by decide) :
 QE X (.Call (.Name x p) (e :: es) [] pos) (tCB r t) := ⟨ZJt hc hg hm hv ha.h hns hn hdb⟩
theorem Ji {T : String} {r : List V → Hp → VK → Prop} (hc : Z9 X (.type T) r) (hg : Gl X x) (hm : X.mg x = none) (hv : bootBuiltins x = some (.type T)) (ha : QA X (e :: es) t) (hns : YM (e :: es) = true := by rfl) (hn : x ≠ "__name__" := by decide) (hdb : (x == ("__debug__" : Str)) = false := by decide) :
 QE X (.Call (.Name x p) (e :: es) [] pos) (tCB r t) := ⟨ZIh hc hg hm hv ha.h hns hn hdb⟩
theorem ZAM : QF X [] ZIf := ⟨ZLn⟩
theorem ZDi (hc : QT X c tA) : QF X [c] tA := ⟨ZLo hc.h⟩
theorem ZOh {tg : Expr} (hl : QE X e te) : QI X tg e (ZFn X.K te) := ⟨ZNx hl.h⟩
theorem ZQ5 {tg : Expr} (hl : QE X e te) : QI X tg e (ZIP X.K te) := ⟨ZQG hl.h⟩
theorem Jz {tg : Expr} (hg : Gl X "range") (hm : X.mg "range" = none) (ha : QA X [a] t) (hs : Jm a = false := by rfl) : QI X tg (.Call (.Name "range" p) [a] [] pos) (ZIQ t) := ⟨ZJX hg hm ha.h (Jy hs)⟩
theorem ZO {i : Nat} (hN : X.N.Nodup) (hi : X.N[i]? = some x) (hx : Loc X.env.scope x) (hf : X.fn x = true ∨ X.env.scope.names.lookup x = some .local := by first | exact .inl rfl | exact .inr rfl | assumption) : QG X (.Name x pos) (ZB4 i) := ⟨ZNu hN hi hx hf⟩
theorem YE : QGs X [] ZLG := ⟨ZNv⟩
theorem ZJ1 {e : Expr} {es : List Expr} {env : Env} (h : Jm e = false) : (assignEach (e :: es) env).map (·.2) = assign e env :: (assignEach es env).map (·.2) := by
 cases e <;> first | rfl | cases h
theorem ZT {g : TG} {u : TGs} (h1 : QG X e g) (h2 : QGs X es u) (hs : Jm e = false := by rfl) : QGs X (e :: es) (ZIK g u) := ⟨ZLH h1.h h2.h (ZJ1 hs)⟩
theorem ZQ6 {k : Nat} {u : TGs} {n : Nat} (hc : X.calm = true) (h : QGs X es u) (hn : (assignEach es X.env).length = n := by rfl) (hst : (assignEach es X.env).findIdx? (·.1) = none := by rfl) : QG X (.Tuple es k pos) (ZIL X.K n u) := ⟨ZQA hc h.h hn hst⟩
theorem ZBq {s : ZDd} (ho : QE X o to) (hi : QE X e ti) (hs : ZIJ X s)
 (ha : ∀ v, assign (.Subscript o e pos) X.env v = (do
  let ov ← holding [v] (eval o X.env)
  let iv ← holding [v, ov] (eval e X.env)
  standAt pos
  holding [v, ov, iv] (setItem ov iv v)
  release [v, ov, iv] []) := by intro _; rfl) : QG X (.Subscript o e pos) (ZLI to ti s) := ⟨ZQB ho.h hi.h hs ha⟩
theorem Jj {N : List Str} {sc : Scope} {own caps : List Str} {ks : List Nat} {elt tg iter : Expr} {ifs : List Expr} {scope : Scope} {wi : TI} {g : TG} {tt : TT}
  (hN : X.N = N) (hsc : X.env.scope = sc) (hc : X.calm = true) (S : ZJq N sc own caps ks scope) (hi : QI X tg iter wi)
  (hg : ∀ cl C s₂ H₂ fp, QG (Yp X (own ++ caps) scope cl C s₂ H₂ fp) tg g)
  (ht : ∀ cl C s₂ H₂ fp, QF (Yp X (own ++ caps) scope cl C s₂ H₂ fp) ifs tt)
  (he : ∀ cl C s₂ H₂ fp, QE (Yp X (own ++ caps) scope cl C s₂ H₂ fp) elt te)
  (hs : ∀ x, foldedSetIterable iter X.env x = pure x := by intro _; rfl) :
  QE X (.ListComp elt [⟨tg, iter, ifs, 0⟩] scope pos) (ZIg own.length ks wi g tt te) :=
 ⟨ZOF hN hsc hc S hi.h (fun cl C s₂ H₂ fp => (hg cl C s₂ H₂ fp).h) (fun cl C s₂ H₂ fp => (ht cl C s₂ H₂ fp).h) (fun cl C s₂ H₂ fp => (he cl C s₂ H₂ fp).h) hs⟩
theorem ZCA {T : String} {name : Str} {id : String} {r : V → List V → Hp → VK → Prop} {apos cpos : Pos} (pa : PlainAttrs T) (slot : Slot T name id) (hty : typeOf (.builtin id) = pure (.type "method_descriptor")) (hm : MtR X id r) (ho : QE X o to) (ha : QA X (e :: es) t)
  (hst : YM (e :: es) = true := by rfl) (hbase : attributeBase o name X.env (eval o X.env) = eval o X.env := by rfl)
  (hfew : ((backTo cpos (starEach (e :: es) X.env)).all (fun x => !x.1) && (backToKw cpos (keywordEach [] X.env)).all (fun x => x.1.isSome)
   && decide ((e :: es).length + ([] : List Keyword).length + (if ([] : List Keyword).isEmpty then 0 else 1) < 30)) = true := by rfl)
  (hline : (apos.endLine == cpos.line) = true := by rfl) : QE X (.Call (.Attribute o name apos) (e :: es) [] cpos) (tBM X.K T r to t) :=
 ⟨ZRv pa slot hty hm ho.h ha.h hbase hfew hline (Jf hst) (JF (JB hst))⟩
end
section
variable {X : Cx} {st : Stmt} {Yt sa sb : List Stmt} {t u : TS} {e c : Expr} {te : TE} {tA : TT} {pos pos' : Pos} {x : Str}
theorem Zi : QB X [] ZII := ⟨ZNr⟩
theorem ZD (h1 : QS X st t) (h2 : QB X Yt u) : QB X (st :: Yt) (ZLC t u) := ⟨ZLD h1.h h2.h⟩
theorem ZE (h1 : QS X st t) : QB X [st] t := ⟨ZNs h1.h⟩
theorem Zc (he : QE X e te) (hs : Jg e = false := by rfl) : QS X (.Expr e pos) (ZFl te) := ⟨ZLq he.h hs⟩
theorem ZZ (he : QE X e te) : QS X (.Return (some e) pos) (ZLE te) := ⟨ZP9 he.h⟩
theorem Zk (hc : QT X c tA) (ha : QB X sa t) (hb : QB X sb u) : QS X (.If c sa sb pos) (ZDc tA t u) := ⟨ZRp hc.h ha.h hb.h⟩
theorem Ja : QS X st ZJU := ⟨ZLF⟩
theorem ZM {i : Nat} (hN : X.N.Nodup) (hi : X.N[i]? = some x) (hx : Loc X.env.scope x) (he : QE X e te) (hs : Jg e = false := by rfl) (hf : X.fn x = true ∨ X.env.scope.names.lookup x = some .local := by first | exact .inl rfl | exact .inr rfl | assumption) :
 QS X (.Assign [.Name x pos'] e pos) (ZDe te (ZB4 i)) := ⟨ZOI hN hi hx he.h hs hf⟩
theorem YZ {tg : Expr} {g : TG} (he : QE X e te) (hg : QG X tg g) (hs : Jg e = false := by rfl) (hw : swappedStores [tg] e X.env = pure none := by rfl)
 (h1 : (assignEach [tg] X.env).map (·.2) = [assign tg X.env] := by rfl) : QS X (.Assign [tg] e pos) (ZDe te g) := ⟨ZJV he.h hg.h (ZAJ hs) hw h1⟩
theorem JP {tg iter : Expr} {wi : TI} {g : TG} (hp : PassesOwn (model X.prog X.w) X.A X.env X.xe) (hc : X.calm = true) (hi : QI X tg iter wi) (hg : QG X tg g) (hb : QB X sa t)
 (hs : ∀ x, foldedSetIterable iter X.env x = pure x := by intro _; rfl) : QS X (.For tg iter sa [] pos) (ZLM wi g t) := ⟨ZQH hp hc hi.h hg.h hb.h hs⟩
theorem ZGG (hp : PassesOwn (model X.prog X.w) X.A X.env X.xe) (hc : QT X c tA) (hb : QB X sa t) : QS X (.While c sa [] pos) (ZFz tA t) := ⟨ZLK hp hc.h hb.h⟩
end
section
variable {X : Cx} {e : Expr} {es : List Expr} {te : TE} {pos : Pos} (K : PySem.W.Frag) (h : X.K = K)
include h
theorem ZBr : Z9 X (.builtin "len") (ZIi K) := h ▸ ZQe
theorem ZAN : Z9 X (.type "tuple") (ZF9 K) := h ▸ ZLr
theorem ZJ2 : Z9 X (.builtin "isinstance") (ZLl K) := h ▸ ZLm
theorem Zm : IxR X (ZIZ K) := h ▸ ZOC
theorem Zd : IxR X (ZLg K) := h ▸ ZQT
theorem ZOi : SlR X (ZIb K) := h ▸ ZOD
theorem Y4 {tg : Expr} (hl : QE X e te) : QI X tg e (ZFn K te) := h ▸ ZOh hl
theorem ZGH {tg : Expr} (hl : QE X e te) : QI X tg e (ZIP K te) := h ▸ ZQ5 hl
theorem YS {k : Nat} {u : TGs} {n : Nat} (hc : X.calm = true) (hg : QGs X es u) (hn : (assignEach es X.env).length = n := by rfl) (hst : (assignEach es X.env).findIdx? (·.1) = none := by rfl) : QG X (.Tuple es k pos) (ZIL K n u) := h ▸ ZQ6 hc hg hn hst
end
end L2
namespace L2
open PySem PySem.Spec PyProof.Rows
section
variable {X : Cx} {tg : Expr}
def ZIj (vs : List V) (H : Hp) (R : It → Hp → Prop) : Prop := ∃ i j : Int, vs = [.int i, .int j] ∧ R (Itr i (j - i).toNat) H
def ZR6 (ta : TA) : TI := fun σ H R => ta σ H fun vs H1 => ZIj vs H1 R
end
section
variable {σ : St} {H : Hp}
theorem ZOj {ta : TA} {R : It → Hp → Prop} (h : ta σ H fun vs H1 => ZIj vs H1 R) : ZR6 ta σ H R := h
theorem ZLx {i j : Int} {R : It → Hp → Prop} (h : R (Itr i (j - i).toNat) H) : ZIj [.int i, .int j] H R := ⟨i, j, rfl, h⟩
end
mutual
inductive Dat (K : PySem.W.Frag) (H : Hp) : V → PyData → Prop
 | non : Dat K H .non .none
 | bl (b : Bool) : Dat K H (.bl b) (.bool b)
 | int (i : Int) : Dat K H (.int i) (.int i)
 | str (x : Str) : Dat K H (.str x) (.str x)
 | tup {a : Addr} {xs : List V} {ds : List PyData} (h : SqT K H a xs) (r : Yv K H xs ds) : Dat K H (.ref a) (.tuple ds)
 | lst {a : Addr} {xs : List V} {ds : List PyData} (h : SqL K H a xs) (r : Yv K H xs ds) : Dat K H (.ref a) (.list ds)
inductive Yv (K : PySem.W.Frag) (H : Hp) : List V → List PyData → Prop
 | nil : Yv K H [] []
 | cons {x : V} {d : PyData} {xs : List V} {ds : List PyData} (h : Dat K H x d) (r : Yv K H xs ds) : Yv K H (x :: xs) (d :: ds)
end
section
variable {X : Cx} {pins : List (Addr × Obj)} {σ : St} {H : Hp} {s : Shared}
mutual
theorem Dat.reads (I : Inv X pins σ H s) : ∀ {x : V} {d : PyData} {u : Value}, Dat X.K H x d → ZX x u → ∃ as, Reads s.heap u d as
 | _, _, u, .non, r => by cases (show u = Value.none from r); exact ⟨_, .none⟩
 | _, _, u, .bl b, r => by cases (show u = Value.bool b from r); exact ⟨_, .bool b⟩
 | _, _, u, .int i, r => by obtain ⟨t, rfl⟩ := (show ∃ t, u = Value.int i t from r); exact ⟨_, .int i t⟩
 | _, _, u, .str x, r => by obtain ⟨t, rfl⟩ := (show ∃ t, u = Value.str x t from r); exact ⟨_, .str x t⟩
 | _, _, u, @Dat.tup _ _ a xs ds h rs, r => by
  cases (show u = Value.ref a from r)
  obtain ⟨its, rv, ⟨o, ho, hc, n, hd⟩, _⟩ := I.tuple h
  obtain ⟨as, ra⟩ := Yv.reads I rs rv
  exact ⟨_, .tuple ho hc hd (by simpa using ra)⟩
 | _, _, u, @Dat.lst _ _ a xs ds h rs, r => by
  cases (show u = Value.ref a from r)
  obtain ⟨its, rv, ⟨o, n, ho, hc, _, hd⟩, _⟩ := I.list h
  obtain ⟨as, ra⟩ := Yv.reads I rs rv
  exact ⟨_, .list ho hc hd (by simpa using ra)⟩
theorem Yv.reads (I : Inv X pins σ H s) : ∀ {xs : List V} {ds : List PyData} {us : List Value}, Yv X.K H xs ds → ZV xs us → ∃ as, ReadsAll s.heap us ds as
 | _, _, _, .nil, .nil => ⟨_, .nil⟩
 | _, _, _, .cons h r, .cons r1 r2 => by
  obtain ⟨as, ra⟩ := Dat.reads I h r1
  obtain ⟨bs, rb⟩ := Yv.reads I r r2
  exact ⟨_, .cons ra rb⟩
end
end
section
variable {X : Cx}
theorem ZR7 {K : PySem.W.Frag} {T : String} {r : V → List V → Hp → VK → Prop} {to : TE} {t : TA} {σ : St} {H : Hp} {Q : VK} (h : to σ H fun x H1 => tyV K T x H1 ∧ t σ H1 fun xs H2 => r x xs H2 Q) : tBM K T r to t σ H Q := h
theorem tyL {K : PySem.W.Frag} {H : Hp} {p : Addr} {xs : List V} (h : H p = some (.lst xs)) : tyV K "list" (.ref p) H := .inl ⟨rfl, xs, SqL.of h⟩
theorem JC {H : Hp} {Q : VK} {p : Addr} {xs : List V} {y : V} (h1 : H p = some (.lst xs)) (hz : xs.length < sizeLine) (h : ∀ H2, H2 p = some (.lst (xs ++ [y])) → Kp p H H2 → Q .non H2) : ZHw (.ref p) [y] H Q :=
 ⟨p, xs, y, rfl, rfl, h1, hz, h _ ZS Kp.upd⟩
end
def ZNW (p : Int × Int) : PyData := .tuple [.int p.1, .int p.2]
def ZI (H : Hp) (vs : List V) (l : List (Int × Int)) : Prop := Paired (fun v (p : Int × Int) => ∃ a, v = V.ref a ∧ H a = some (.tup [.int p.1, .int p.2])) vs l
theorem ZI.same {H H' : Hp} {vs : List V} {l : List (Int × Int)} (h : ZI H vs l) (s : ZK H H') : ZI H' vs l := Paired.mapP h fun _ _ ⟨a, e, z⟩ => ⟨a, e, s _ _ z⟩
theorem ZI.dats {K : PySem.W.Frag} {H : Hp} : ∀ {vs : List V} {l : List (Int × Int)}, ZI H vs l → Yv K H vs (l.map ZNW)
 | _, _, .nil => .nil
 | _, _, .cons ⟨a, e, z⟩ t => by
  subst e
  exact .cons (.tup (SqT.of z) (.cons (.int _) (.cons (.int _) .nil))) (ZI.dats t)
end L2
set_option Elab.async false
set_option linter.all false
set_option maxRecDepth 100000
set_option maxHeartbeats 4000000
namespace L2
open PySem PySem.Spec PyProof.Rows
section
variable {κ : Type} [DecidableEq κ]
def Zh (kvs : List (κ × V)) (k : κ) : Option V := (kvs.find? fun kv => decide (kv.1 = k)).map (·.2)
def Yj (kvs : List (κ × V)) (k : κ) (v : V) : List (κ × V) :=
 if (kvs.any fun kv => decide (kv.1 = k)) = true then kvs.map (fun kv => if kv.1 = k then (kv.1, v) else kv) else kvs ++ [(k, v)]
def Yn (kvs : List (κ × V)) (k : κ) : List (κ × V) := kvs.filter fun kv => decide (kv.1 ≠ k)
theorem ZLy {k : κ} : Zh ([] : List (κ × V)) k = none := rfl
theorem Ya {p : κ × V} {r : List (κ × V)} {k : κ} (e : p.1 = k) : Zh (p :: r) k = some p.2 := by simp [Zh, List.find?_cons, e]
theorem YW {p : κ × V} {r : List (κ × V)} {k : κ} (e : ¬ p.1 = k) : Zh (p :: r) k = Zh r k := by simp [Zh, List.find?_cons, e]
theorem ZCB (k : κ) : ∀ kvs : List (κ × V), (kvs.any fun kv => decide (kv.1 = k)) = (Zh kvs k).isSome
 | [] => rfl
 | p :: r => by
  rw [List.any_cons]
  by_cases e : p.1 = k
  ·simp only [Ya e, decide_eq_true e, Bool.true_or, Option.isSome_some]
  ·rw [YW e, decide_eq_false e, Bool.false_or]; exact ZCB k r
theorem ZGI (k j : κ) (y : V) : ∀ kvs : List (κ × V), Zh (kvs.map fun kv => if kv.1 = k then (kv.1, y) else kv) j = (Zh kvs j).map fun x => if j = k then y else x
 | [] => rfl
 | p :: r => by
  have ih := ZGI k j y r
  rw [List.map_cons]
  by_cases h : p.1 = k
  ·rw [if_pos h]
   by_cases e : p.1 = j
   ·rw [Ya (p := (p.1, y)) e, Ya e, Option.map_some, if_pos (e.symm.trans h)]
   ·rw [YW (p := (p.1, y)) e, YW e, ih]
  ·rw [if_neg h]
   by_cases e : p.1 = j
   ·rw [Ya (p := p) e, Ya e, Option.map_some, if_neg (fun z => h (e.trans z))]
   ·rw [YW (p := p) e, YW e, ih]
theorem ZE6 (k j : κ) (y : V) : ∀ kvs : List (κ × V), Zh kvs k = none → Zh (kvs ++ [(k, y)]) j = if j = k then some y else Zh kvs j
 | [], _ => by
  by_cases e : k = j
  ·rw [if_pos e.symm]; exact Ya (p := (k, y)) e
  ·rw [if_neg (fun z => e z.symm)]; exact YW (p := (k, y)) e
 | p :: r, hn => by
  rw [List.cons_append]
  have hk : ¬ p.1 = k := fun z => by rw [Ya z] at hn; cases hn
  rw [YW hk] at hn
  have ih := ZE6 k j y r hn
  by_cases e : p.1 = j
  ·rw [Ya e, Ya e, if_neg (fun z => hk (e.trans z))]
  ·rw [YW e, YW e, ih]
theorem ZAO (kvs : List (κ × V)) (k j : κ) (y : V) : Zh (Yj kvs k y) j = if j = k then some y else Zh kvs j := by
 unfold Yj
 by_cases a : (kvs.any fun kv => decide (kv.1 = k)) = true
 ·rw [if_pos a, ZGI]
  rw [ZCB] at a
  by_cases e : j = k
  ·obtain ⟨x, hx⟩ := Option.isSome_iff_exists.mp a
   rw [if_pos e, e, hx, Option.map_some, if_pos rfl]
  ·rw [if_neg e]
   cases Zh kvs j with
   | none => rfl
   | some x => rw [Option.map_some, if_neg e]
 ·rw [if_neg a]
  refine ZE6 k j y kvs ?_
  rw [ZCB] at a
  cases q : Zh kvs k with
  | none => rfl
  | some x => rw [q] at a; exact (a rfl).elim
theorem JS (kvs : List (κ × V)) (k : κ) (v : V) : (Yj kvs k v).length ≤ kvs.length + 1 := by
 unfold Yj
 split
 ·rw [List.length_map]; omega
 ·rw [List.length_append, List.length_cons, List.length_nil]; omega
theorem Y1.isSome_eq {o : Option V} {u : Option Value} (r : Y1 o u) : o.isSome = u.isSome := by
 cases o with
 | none => cases u with
  | none => rfl
  | some _ => exact (show False from r).elim
 | some _ => cases u with
  | none => exact (show False from r).elim
  | some _ => rfl
theorem Y1.getD {o : Option V} {u : Option Value} {d : V} {d' : Value} (r : Y1 o u) (rd : ZX d d') : ZX (o.getD d) (u.getD d') := by
 cases o with
 | none => cases u with
  | none => exact rd
  | some _ => exact (show False from r).elim
 | some _ => cases u with
  | none => exact (show False from r).elim
  | some _ => exact r
theorem KV.val {kvs : List (κ × V)} {vs : List (κ × Value)} (r : KV kvs vs) (k : κ) : Y1 (Zh kvs k) (valueAt vs k) := by
 unfold KV at r
 induction r with
 | nil => exact True.intro
 | @cons p q ps qs h t ih =>
  obtain ⟨h1, h2⟩ := h
  by_cases e : p.1 = k
  ·have e' : q.1 = k := h1.symm.trans e
   have b : valueAt (q :: qs) k = some q.2 := by simp [valueAt, List.find?_cons, e']
   rw [Ya e, b]; exact h2
  ·have e' : ¬ q.1 = k := fun z => e (h1.trans z)
   have b : valueAt (q :: qs) k = valueAt qs k := by simp [valueAt, List.find?_cons, e']
   rw [YW e, b]; exact ih
theorem KV.any {kvs : List (κ × V)} {vs : List (κ × Value)} (r : KV kvs vs) (k : κ) : (kvs.any fun kv => decide (kv.1 = k)) = vs.any fun kv => decide (kv.1 = k) := by
 unfold KV at r
 induction r with
 | nil => rfl
 | cons h t ih => rw [List.any_cons, List.any_cons, ih, h.1]
theorem KV.repl {kvs : List (κ × V)} {vs : List (κ × Value)} (r : KV kvs vs) (k : κ) {y : V} {u : Value} (ry : ZX y u) :
  KV (kvs.map fun kv => if kv.1 = k then (kv.1, y) else kv) (vs.map fun kv => if kv.1 = k then (kv.1, u) else kv) := by
 unfold KV at r ⊢
 induction r with
 | nil => exact .nil
 | @cons p q ps qs h t ih =>
  rw [List.map_cons, List.map_cons]
  refine .cons ?_ ih
  obtain ⟨h1, h2⟩ := h
  by_cases e : p.1 = k
  ·rw [if_pos e, if_pos (h1.symm.trans e)]; exact ⟨h1, ry⟩
  ·rw [if_neg e, if_neg (fun z => e (h1.trans z))]; exact ⟨h1, h2⟩
theorem KV.put {kvs : List (κ × V)} {vs : List (κ × Value)} (r : KV kvs vs) (k : κ) {y : V} {u : Value} (ry : ZX y u) : KV (Yj kvs k y) (stored vs k u) := by
 unfold Yj stored
 rw [r.any k]
 by_cases e : (vs.any fun kv => decide (kv.1 = k)) = true
 ·rw [if_pos e, if_pos e]; exact r.repl k ry
 ·rw [if_neg e, if_neg e]; exact Paired.snoc r ⟨rfl, ry⟩
theorem KV.drop {kvs : List (κ × V)} {vs : List (κ × Value)} (r : KV kvs vs) (k : κ) : KV (Yn kvs k) (without vs k) := by
 unfold KV at r ⊢
 unfold Yn without
 induction r with
 | nil => exact .nil
 | @cons p q ps qs h t ih =>
  obtain ⟨h1, h2⟩ := h
  rw [List.filter_cons, List.filter_cons]
  by_cases e : p.1 = k
  ·have a : ¬ decide (p.1 ≠ k) = true := by simp [e]
   have b : ¬ decide (q.1 ≠ k) = true := by simp [h1.symm.trans e]
   rw [if_neg a, if_neg b]; exact ih
  ·have e' : ¬ q.1 = k := fun z => e (h1.trans z)
   have a : decide (p.1 ≠ k) = true := by simp [e]
   have b : decide (q.1 ≠ k) = true := by simp [e']
   rw [if_pos a, if_pos b]; exact .cons ⟨h1, h2⟩ ih
theorem KV.keys {kvs : List (κ × V)} {vs : List (κ × Value)} (r : KV kvs vs) : kvs.map (·.1) = vs.map (·.1) := by
 unfold KV at r
 induction r with
 | nil => rfl
 | cons h t ih => rw [List.map_cons, List.map_cons, ih, h.1]
theorem KV.length {kvs : List (κ × V)} {vs : List (κ × Value)} (r : KV kvs vs) : kvs.length = vs.length := Paired.length r
theorem ZLz (kvs : List (κ × V)) (k : κ) : (Yn kvs k).length ≤ kvs.length := List.length_filter_le _ _
end
theorem ZAp {P : Program} {w : World} {k : Key} {u : Value} (r : ZX (kV k) u) : (Z4 P w).is k u = true := by
 cases k with
 | inl i => obtain ⟨t, e⟩ := (show ∃ t, u = Value.int i t from r); subst e; exact ZHP P w i t
 | inr x => obtain ⟨t, e⟩ := (show ∃ t, u = Value.str x t from r); subst e; exact ZHQ P w x t
theorem ZE7 {P : Program} {w : World} : ∀ {ks : List Key} {us : List Value}, ZV (ks.map kV) us → ItemsAre (Z4 P w) ks us
 | [], _, r => by rw [List.map_nil] at r; cases r; exact .nil
 | k :: ks, _, r => by
  rw [List.map_cons] at r
  cases r with
  | cons h t => exact .cons (ZAp h) (ZE7 t)
abbrev KT (H : Hp) : List (List Key × V) → List (List Key × Addr × Value) → Prop := Paired fun p q => p.1 = q.1 ∧ H q.2.1 = some (.tup (p.1.map kV)) ∧ ZX p.2 q.2.2
theorem KT.val {H : Hp} {kvs : List (List Key × V)} {xs : List (List Key × Addr × Value)} (r : KT H kvs xs) (k : List Key) : Y1 (Zh kvs k) ((atKey xs k).map (·.2)) := by
 induction r with
 | nil => exact True.intro
 | @cons p q ps qs h t ih =>
  obtain ⟨h1, _, h2⟩ := h
  by_cases e : p.1 = k
  ·have e' : q.1 = k := h1.symm.trans e
   have b : atKey (q :: qs) k = some q.2 := by simp [atKey, List.find?_cons, e']
   rw [Ya e, b]; exact h2
  ·have e' : ¬ q.1 = k := fun z => e (h1.trans z)
   have b : atKey (q :: qs) k = atKey qs k := by simp [atKey, List.find?_cons, e']
   rw [YW e, b]; exact ih
theorem KT.repl {H : Hp} {kvs : List (List Key × V)} {xs : List (List Key × Addr × Value)} (r : KT H kvs xs) (k : List Key) {y : V} {u : Value} (ry : ZX y u) :
  KT H (kvs.map fun kv => if kv.1 = k then (kv.1, y) else kv) (xs.map (putAt k u)) := by
 induction r with
 | nil => exact .nil
 | @cons p q ps qs h t ih =>
  rw [List.map_cons, List.map_cons]
  refine .cons ?_ ih
  obtain ⟨h1, h2, h3⟩ := h
  unfold putAt
  by_cases e : p.1 = k
  ·rw [if_pos e, if_pos (h1.symm.trans e)]; exact ⟨h1, h2, ry⟩
  ·rw [if_neg e, if_neg (fun z => e (h1.trans z))]; exact ⟨h1, h2, h3⟩
theorem KT.put {H : Hp} {kvs : List (List Key × V)} {xs : List (List Key × Addr × Value)} (r : KT H kvs xs) (k : List Key) {b : Addr} {y : V} {u : Value} (hb : H b = some (.tup (k.map kV))) (ry : ZX y u) :
  KT H (Yj kvs k y) (storedH xs k b u) := by
 have e : (kvs.any fun kv => decide (kv.1 = k)) = (atKey xs k).isSome := by
  rw [ZCB, (r.val k).isSome_eq, Option.isSome_map]
 unfold Yj storedH
 rw [e]
 by_cases q : (atKey xs k).isSome = true
 ·rw [if_pos q, if_pos q]; exact r.repl k ry
 ·rw [if_neg q, if_neg q]; exact Paired.snoc r ⟨rfl, hb, ry⟩
theorem KT.keeps {H H' : Hp} {kvs : List (List Key × V)} {xs : List (List Key × Addr × Value)} (r : KT H kvs xs) (ht : ∀ b ys, H b = some (.tup ys) → H' b = some (.tup ys)) : KT H' kvs xs :=
 Paired.mapP r fun _ _ z => ⟨z.1, ht _ _ z.2.1, z.2.2⟩
section
variable {P : Program} {w : World} {H : Hp} {h : Heap} {a : Addr}
theorem ZNX {u : HO} (ok : HOk P w H h) (e : Rd H a u) : Zz P w H h a u := e.ok ok
theorem ZAW {kvs : List (Key × V)} (ok : HOk P w H h) (e : Rd H a (.dK kvs)) : kvs.length ≤ sizeLine ∧ (a == sysModules) = false ∧ ∃ vs, KV kvs vs ∧ h.DictOf (Z4 P w) a vs :=
 show Zz P w H h a (.dK kvs) from ZNX ok e
theorem ZEL {kvs : List (Key × V)} (ok : HOk P w H h) (e : H a = some (.dK kvs)) : kvs.length ≤ sizeLine ∧ (a == sysModules) = false ∧ ∃ vs, KV kvs vs ∧ h.DictOf (Z4 P w) a vs := ZAW ok (.inl e)
theorem ZAd {ks : List Key} (ok : HOk P w H h) (e : H a = some (.tup (ks.map kV))) : (tupleKind (Z4 P w)).is h ks a := by
 obtain ⟨_, its, r, o, h1, h2, n, h3⟩ := (show Zz P w H h a (.tup (ks.map kV)) from ok a _ e)
 exact ⟨o, its.toArray, n, h1, h2, h3, by simpa using ZE7 r⟩
theorem ZBK {kvs : List (List Key × V)} (ok : HOk P w H h) (e : Rd H a (.dT kvs)) : kvs.length ≤ sizeLine ∧ (a == sysModules) = false ∧
  ∃ xs, KT H kvs xs ∧ h.DictOfH (tupleKind (Z4 P w)) a xs := by
 obtain ⟨z, y, xs, r, o, es, ep, h1, h2, h3, h4, h5⟩ := (show Zz P w H h a (.dT kvs) from ZNX ok e)
 refine ⟨z, y, xs, r, o, es, ep, h1, h2, h3, h4, fun x hx => ?_, h5⟩
 have all : ∀ {l : List (List Key × V)} {m : List (List Key × Addr × Value)}, KT H l m → ∀ x ∈ m, (tupleKind (Z4 P w)).is h x.1 x.2.1 := by
  intro l m q
  induction q with
  | nil => intro x hx; exact nomatch hx
  | @cons p q ps qs hq t ih =>
   intro x hx
   rcases List.mem_cons.mp hx with e | hx
   ·subst e
    exact ZAd ok (by rw [← hq.1]; exact hq.2.1)
   ·exact ih x hx
 exact all r x hx
theorem ZNY {kvs : List (List Key × V)} (ok : HOk P w H h) (e : H a = some (.dT kvs)) : kvs.length ≤ sizeLine ∧ (a == sysModules) = false ∧
 ∃ xs, KT H kvs xs ∧ h.DictOfH (tupleKind (Z4 P w)) a xs := ZBK ok (.inl e)
end
def YY (H : Hp) (a : Addr) (y : V) (r : Option V) : Prop :=
 (∃ kvs k, Rd H a (.dK kvs) ∧ y = kV k ∧ r = Zh kvs k) ∨ ∃ kvs k b, Rd H a (.dT kvs) ∧ y = .ref b ∧ H b = some (.tup (k.map kV)) ∧ r = Zh kvs k
def ZCC (H : Hp) (a : Addr) (y v : V) (H' : Hp) : Prop :=
 (∃ kvs k, H a = some (.dK kvs) ∧ y = kV k ∧ kvs.length < sizeLine ∧ H' = upd H a (.dK (Yj kvs k v))) ∨
 ∃ kvs k b, H a = some (.dT kvs) ∧ y = .ref b ∧ H b = some (.tup (k.map kV)) ∧ kvs.length < sizeLine ∧ H' = upd H a (.dT (Yj kvs k v))
theorem YY.k {H : Hp} {a : Addr} {kvs : List (Key × V)} {k : Key} (e : H a = some (.dK kvs)) : YY H a (kV k) (Zh kvs k) := .inl ⟨kvs, k, .inl e, rfl, rfl⟩
theorem YY.t {H : Hp} {a b : Addr} {kvs : List (List Key × V)} {k : List Key} (e : H a = some (.dT kvs)) (eb : H b = some (.tup (k.map kV))) : YY H a (.ref b) (Zh kvs k) := .inr ⟨kvs, k, b, .inl e, rfl, eb, rfl⟩
theorem ZCC.k {H : Hp} {a : Addr} {kvs : List (Key × V)} {k : Key} {v : V} (e : H a = some (.dK kvs)) (hl : kvs.length < sizeLine) : ZCC H a (kV k) v (upd H a (.dK (Yj kvs k v))) := .inl ⟨kvs, k, e, rfl, hl, rfl⟩
theorem ZCC.t {H : Hp} {a b : Addr} {kvs : List (List Key × V)} {k : List Key} {v : V} (e : H a = some (.dT kvs)) (eb : H b = some (.tup (k.map kV))) (hl : kvs.length < sizeLine) :
 ZCC H a (.ref b) v (upd H a (.dT (Yj kvs k v))) := .inr ⟨kvs, k, b, e, rfl, eb, hl, rfl⟩
section
variable {X : Cx} {pins : List (Addr × Obj)} {σ : St} {H : Hp} {s : Shared} {a : Addr} {y v : V} {u r : Value} {o : Option V} {A : Around} {E : Value → Shared → Prop}
theorem Inv.big (I : Inv X pins σ H s) : sysModules < s.heap.objs.size := by
 have h : mainGlobals < s.heap.objs.size := (I.mod.glob.keeps I.bk).lt
 exact Nat.lt_trans (by decide) h
theorem ZJ3 {Q : Value → Shared → Prop} (hu : A.units + 1 < cLine) (I : Inv X pins σ H s) (g : YY H a y (some v)) (ry : ZX y u) (h : ∀ w' s', Inv X pins σ H s' → ZX v w' → Q w' s') :
  wpAny (model X.prog X.w) A (getItem (.ref a) u) Q E s := by
 rcases g with ⟨kvs, k, e, ey, l⟩ | ⟨kvs, k, b, e, ey, eb, l⟩
 ·subst ey
  obtain ⟨z, hd, vs, rel, dd⟩ := ZAW I.hok e
  obtain ⟨w', hw, rw'⟩ := Y1.some_of (v := v) (o := valueAt vs k) (by rw [l]; exact rel.val k)
  exact wpAny_getItem_of (ZAp ry) dd.mapOf hw (h w' _ (I.tok _) rw')
 ·subst ey
  cases (show u = Value.ref b from ry)
  obtain ⟨z, hd, xs, rel, dd⟩ := ZBK I.hok e
  obtain ⟨w', hw, rw'⟩ := Y1.some_of (v := v) (o := (atKey xs k).map (·.2)) (by rw [l]; exact rel.val k)
  obtain ⟨p, hp, hp2⟩ := Option.map_eq_some_iff.mp hw
  refine wpAny_getItem_heap (tupleKind_room_in1 hu) (ZAd I.hok eb) dd hp ?_
  rw [hp2]
  exact h w' _ (I.tok _) rw'
theorem ZSj {Q : Value → Shared → Prop} (hu : A.units + 1 < cLine) (I : Inv X pins σ H s) (g : YY H a y o) (ry : ZX y u) (h : ∀ s', Inv X pins σ H s' → Q (.bool o.isSome) s') :
  wpAny (model X.prog X.w) A (compareOp .In u (.ref a)) Q E s := by
 rcases g with ⟨kvs, k, e, ey, l⟩ | ⟨kvs, k, b, e, ey, eb, l⟩
 ·subst ey
  obtain ⟨z, hd, vs, rel, dd⟩ := ZAW I.hok e
  refine wpAny_in_of (ZAp ry) hd dd.mapOf ?_
  rw [← (rel.val k).isSome_eq, ← l]
  exact h _ (I.tok _)
 ·subst ey
  cases (show u = Value.ref b from ry)
  obtain ⟨z, hd, xs, rel, dd⟩ := ZBK I.hok e
  refine wpAny_in_heap (tupleKind_room_in1 hu) (ZAd I.hok eb) hd dd ?_
  have q := (rel.val k).isSome_eq
  rw [Option.isSome_map] at q
  rw [← q, ← l]
  exact h _ (I.tok _)
theorem ZOk {Q : Value → Shared → Prop} (hu : A.units + 1 < cLine) (I : Inv X pins σ H s) (g : YY H a y o) (ry : ZX y u) (h : ∀ s', Inv X pins σ H s' → Q (.bool (!o.isSome)) s') :
  wpAny (model X.prog X.w) A (compareOp .NotIn u (.ref a)) Q E s := by
 rcases g with ⟨kvs, k, e, ey, l⟩ | ⟨kvs, k, b, e, ey, eb, l⟩
 ·subst ey
  obtain ⟨z, hd, vs, rel, dd⟩ := ZAW I.hok e
  refine wpAny_notIn_of (ZAp ry) hd dd.mapOf ?_
  rw [← (rel.val k).isSome_eq, ← l]
  exact h _ (I.tok _)
 ·subst ey
  cases (show u = Value.ref b from ry)
  obtain ⟨z, hd, xs, rel, dd⟩ := ZBK I.hok e
  refine wpAny_notIn_heap (tupleKind_room_in1 hu) (ZAd I.hok eb) hd dd ?_
  have q := (rel.val k).isSome_eq
  rw [Option.isSome_map] at q
  rw [← q, ← l]
  exact h _ (I.tok _)
theorem ZBs {h' : Heap} {t' : Nat} {ob : HO} (I : Inv X pins σ H s) (mu : Mut (H a)) (hs : Heap.SameBut a s.heap h') (he : ∃ q, h'.get? a = some q) (new : Zz X.prog X.w (upd H a ob) h' a ob) :
  Inv X pins σ (upd H a ob) { s with heap := h', toks := t' } :=
 I.write (x := a) (e := a) mu (.inl rfl) (fun b q hb z => (hs.2 b hb).trans z) he new
theorem ZGJ {P : Program} {w : World} {H' : Hp} {h' : Heap} {kvs : List (Key × V)} {vs : List (Key × Value)} (z : kvs.length ≤ sizeLine) (hd : (a == sysModules) = false) (rel : KV kvs vs) (dd : h'.DictOf (Z4 P w) a vs) :
 Zz P w H' h' a (.dK kvs) := ⟨z, hd, vs, rel, dd⟩
theorem ZJ4 {H' : Hp} {Q : Unit → Shared → Prop} (hu : A.units + 1 < cLine) (I : Inv X pins σ H s) (g : ZCC H a y v H') (ry : ZX y u) (rv : ZX v r) (h : ∀ s', Inv X pins σ H' s' → Q () s') :
  wpAny (model X.prog X.w) A (setItem (.ref a) u r) Q E s := by
 rcases g with ⟨kvs, k, e, ey, l, eH⟩ | ⟨kvs, k, b, e, ey, eb, l, eH⟩
 ·subst ey eH
  obtain ⟨z, hd, vs, rel, dd⟩ := ZEL I.hok e
  have hz : vs.length ≤ sizeLine := by rw [← rel.length]; exact z
  have hl : (Yj kvs k v).length ≤ sizeLine := by have := JS kvs k v; omega
  refine wpAny_setItem_pairs (hsz := hz) (ZAp ry) dd fun h' dd' hs => h _ ?_
  have he : ∃ q, h'.get? a = some q := let ⟨q, _, _, hq, _⟩ := dd'; ⟨q, hq⟩
  exact ZBs I (by rw [e]; exact True.intro) hs he (ZGJ hl hd (rel.put k rv) dd')
 ·subst ey eH
  cases (show u = Value.ref b from ry)
  obtain ⟨z, hd, xs, rel, dd⟩ := ZNY I.hok e
  have hz : xs.length ≤ sizeLine := by rw [← Paired.length rel]; exact z
  have hl : (Yj kvs k v).length ≤ sizeLine := by have := JS kvs k v; omega
  refine wpAny_setItem_heap (hsz := hz) (tupleKind_room_in1 hu) (ZAd I.hok eb) dd fun h' dd' hs => h _ ?_
  obtain ⟨q, es, ep, hq, h2, h3, h4, _, h5⟩ := dd'
  refine ZBs I (by rw [e]; exact True.intro) hs ⟨q, hq⟩ ⟨hl, hd, _, (rel.put k eb rv).keeps fun c ys ec => ?_, q, es, ep, hq, h2, h3, h4, h5⟩
  rw [Za (ZNR ec e (fun z => nomatch z))]
  exact ec
end
section
variable {X : Cx} {pins : List (Addr × Obj)} {σ : St} {H : Hp} {s : Shared} {a : Addr} {kvs : List (Key × V)} {k : Key} {u : Value} {A : Around} {E : Value → Shared → Prop}
theorem ZNZ {v : V} {more : List Value} {Q : Value → Shared → Prop} (I : Inv X pins σ H s) (e : H a = some (.dK kvs)) (ry : ZX (kV k) u) (l : Zh kvs k = some v) (hm : more = [] ∨ ∃ x, more = [x])
  (h : ∀ w' s', Inv X pins σ (upd H a (.dK (Yn kvs k))) s' → ZX v w' → Q w' s') : wpAny (model X.prog X.w) A (call (.builtin "dict.pop") (.ref a :: u :: more)) Q E s := by
 obtain ⟨z, hd, vs, rel, dd⟩ := ZEL I.hok e
 obtain ⟨w', hw, rw'⟩ := Y1.some_of (v := v) (o := valueAt vs k) (by rw [← l]; exact rel.val k)
 have hp : (keyPart u).isSome = true := by
  cases k with
  | inl i => obtain ⟨t, q⟩ := (show ∃ t, u = Value.int i t from ry); subst q; rfl
  | inr x => obtain ⟨t, q⟩ := (show ∃ t, u = Value.str x t from ry); subst q; rfl
 have ha : argsOk "dict.pop" ⟨.ref a :: u :: more, []⟩ := by
  rcases hm with q | ⟨x, q⟩
  ·subst q; exact PySem.F.args_dict_pop_2 _ _
  ·subst q; exact PySem.F.args_dict_pop_3 _ _ _
 refine call_meetsIn PySem.F.slot_dict_pop dd.typeIs PySem.F.entry_dict_pop ha (meets_dict_pop_there (Z4 X.prog X.w) a (ZAp ry) more hm hp)
  ⟨vs, w', dd, by rw [← rel.length]; exact z, hw, fun h' dd' hs => h w' _ ?_ rw'⟩
 have he : ∃ q, h'.get? a = some q := let ⟨q, _, _, hq, _⟩ := dd'; ⟨q, hq⟩
 exact ZBs I (by rw [e]; exact True.intro) hs he (ZGJ (Nat.le_trans (ZLz kvs k) z) hd (rel.drop k) dd')
theorem ZQ7 {r : Value} {Q : Value → Shared → Prop} (I : Inv X pins σ H s) (e : H a = some (.dK kvs)) (ry : ZX (kV k) u) (l : Zh kvs k = none) (h : ∀ s', Inv X pins σ H s' → Q r s') :
  wpAny (model X.prog X.w) A (call (.builtin "dict.pop") [.ref a, u, r]) Q E s := by
 obtain ⟨z, hd, vs, rel, dd⟩ := ZEL I.hok e
 have hn : valueAt vs k = none := Y1.none_of (by rw [← l]; exact rel.val k)
 have hp : (keyPart u).isSome = true := by
  cases k with
  | inl i => obtain ⟨t, q⟩ := (show ∃ t, u = Value.int i t from ry); subst q; rfl
  | inr x => obtain ⟨t, q⟩ := (show ∃ t, u = Value.str x t from ry); subst q; rfl
 exact call_meetsIn PySem.F.slot_dict_pop dd.typeIs PySem.F.entry_dict_pop (PySem.F.args_dict_pop_3 _ _ _) (meets_dict_pop_default (Z4 X.prog X.w) a (ZAp ry) hd hp r) ⟨vs, dd, hn, h _ (I.tok _)⟩
theorem ZR8 {Q : Value → Shared → Prop} (I : Inv X pins σ H s) (e : Rd H a (.dK kvs)) (h : ∀ t s', Inv X pins σ H s' → Q (.int kvs.length t) s') : wpAny (model X.prog X.w) A (call (.builtin "len") [.ref a]) Q E s := by
 obtain ⟨z, hd, vs, rel, dd⟩ := ZAW I.hok e
 refine call_len_dict hd dd (by rw [← rel.length]; rw [sizeLine_eq] at z; omega) ?_
 rw [← rel.length]
 exact h _ _ (I.tok _)
end
def ZL0 (i : Expr) : Prop := ∀ ov iv, subscripted i false ov iv = operate [ov, iv] (getItem ov iv)
theorem ZOl {prog : Program} {w : World} {A : Around} {E : Value → Shared → Prop} {s : Shared} {env : Env} {value slice : Expr} {pos : Pos} {T id : String} {Q : Value → Shared → Prop}
  (hl : typeLookup (.type T) "__getitem__" = pure (some (.builtin id))) (hs : ZL0 slice)
  (h : wpAny (model prog w) A (eval value env) (fun o s₁ => wpAny (model prog w) A (eval slice env) (fun i s₂ => s₂.TypeIs o T ∧ wpAny (model prog w) A (getItem o i) Q E s₂) E s₁) E s) :
  wpAny (model prog w) A (eval (.Subscript value slice pos) env) Q E s := by
 refine Subscript_ (wpAny_mono h (fun o s₁ h₁ => wpAny_mono h₁ (fun i s₂ h₂ => ?_) fun _ _ x => x) fun _ _ x => x)
 obtain ⟨hT, h₂⟩ := h₂
 unfold subscriptTail
 refine wpAny_bind ?_
 rw [getitemInPython_of_ne hT.not_modules]
 refine wpAny_bind (wpAny_specialOf hT hl ?_)
 have fin : wpAny (model prog w) A (subscripted slice false o i) (fun r s₃ => wpAny (model prog w) A (letTemporaryGo value o r >>= fun _ => pure r) Q E s₃) E s₂ := by
  rw [hs o i]
  exact wpAny_operating (wpAny_mono h₂ (fun r s₃ h₃ => wpAny_bind (wpAny_letTemporaryGo (wpAny_pure h₃))) fun _ _ x => x)
 first
  | exact wpAny_pure (wpAny_bind fin)
  | exact wpAny_bind (wpAny_pure (wpAny_bind fin))
  | exact wpAny_bind fin
theorem ZHS {X : Cx} {pins : List (Addr × Obj)} {σ : St} {H : Hp} {s : Shared} {a : Addr} {y : V} {o : Option V} (I : Inv X pins σ H s) (g : YY H a y o) : s.TypeIs (.ref a) "dict" := by
 rcases g with ⟨kvs, k, e, _, _⟩ | ⟨kvs, k, b, e, _, _, _⟩
 ·obtain ⟨_, _, vs, _, dd⟩ := ZAW I.hok e
  exact dd.typeIs
 ·obtain ⟨_, _, xs, _, dd⟩ := ZBK I.hok e
  exact dd.typeIs
def ZIk (td ty : TE) : TE := fun σ H Q => td σ H fun x H1 => ty σ H1 fun y H2 => ∃ a v, x = .ref a ∧ YY H2 a y (some v) ∧ Q v H2
def ZIl (td ty tv : TE) : TS := fun D σ H => tv σ H fun v H1 => td σ H1 fun x H2 => ty σ H2 fun y H3 => ∃ a H4, x = .ref a ∧ ZCC H3 a y v H4 ∧ D.nx σ H4
section
variable {X : Cx} {o i e value : Expr} {pos pos' tpos : Pos} {td ty tv : TE}
theorem ZOm (hu : X.A.units + 1 < cLine) (ho : PE X o td) (hi : PE X i ty) (hs : ZL0 i) : PE X (.Subscript o i pos) (ZIk td ty) := by
 intro pins s σ H Q I h
 refine ZOl PySem.F.slot_dict_getitem.lookup hs (thn (ho pins s σ H _ I h) fun u s1 ⟨x, H1, I1, rx, q1⟩ => thn (hi pins s1 σ H1 _ I1 q1) fun iv s2 ⟨y, H2, I2, ry, a, v, ex, g, q2⟩ => ?_)
 subst ex
 obtain rfl : u = Value.ref a := rx
 exact ⟨ZHS I2 g, ZJ3 hu I2 g ry fun w' s3 I3 rw' => ⟨v, H2, I3, rw', q2⟩⟩
theorem ZOn (hu : X.A.units + 1 < cLine) (ho : PE X o td) (hi : PE X i ty) (hv : PE X value tv) (hs : swapsWith value (some (.Subscript o i pos')) pos.line X.env = pure false) :
  PS X (.Assign [.Subscript o i pos'] value pos) (ZIl td ty tv) := by
 intro pins s σ H D I h
 refine wpAny_Assign_Subscript (thn (hv pins s σ H _ I h) fun r s1 ⟨v, H1, I1, rv, q1⟩ => thn (ho pins s1 σ H1 _ I1 q1) fun u s2 ⟨x, H2, I2, rx, q2⟩ => thn (hi pins s2 σ H2 _ I2 q2) fun iv s3 ⟨y, H3, I3, ry, a, H4, ex, g, q3⟩ => ?_) hs
 subst ex
 obtain rfl : u = Value.ref a := rx
 exact ZJ4 hu I3 g ry rv fun s4 I4 => ⟨σ, H4, I4, q3⟩
end
theorem ZL1 {P : Program} {w : World} {H : Hp} (h : Heap) (hb : sysModules < h.objs.size) : Zz P w H (h.push { cls := .type "dict", data := .dict #[] }) h.objs.size (.dK []) :=
 ⟨Nat.zero_le _, beq_eq_false_iff_ne.mpr (Ne.symm (Nat.ne_of_lt hb)), [], .nil, Heap.DictOf.new h⟩
theorem ZL2 {P : Program} {w : World} {H : Hp} (h : Heap) (hb : sysModules < h.objs.size) : Zz P w H (h.push { cls := .type "dict", data := .dict #[] }) h.objs.size (.dT []) :=
 ⟨Nat.zero_le _, beq_eq_false_iff_ne.mpr (Ne.symm (Nat.ne_of_lt hb)), [], .nil, _, #[], 0, Heap.get?_push_size _ rfl, ⟨rfl, rfl, rfl⟩, rfl, rfl, List.nodup_nil⟩
def ZGK : TE := fun _ H Q => ∀ p, H p = none → Q (.ref p) (upd H p (.dK []))
def ZGL : TE := fun _ H Q => ∀ p, H p = none → Q (.ref p) (upd H p (.dT []))
section
variable {X : Cx} {pos : Pos}
theorem ZL3 : PE X (.Dict [] [] pos) ZGK := fun pins s σ H Q I h =>
 wpAny_Dict_empty ⟨.ref s.heap.objs.size, _, I.laid (a := s.heap.objs.size) (o := .dK []) (t' := s.toks) (fun _ _ q => Heap.get?_push_of_some _ q) (Nat.le_refl _) (ZL1 s.heap I.big), rfl, h _ (I.hok.fresh (Nat.le_refl _))⟩
theorem ZL4 : PE X (.Dict [] [] pos) ZGL := fun pins s σ H Q I h =>
 wpAny_Dict_empty ⟨.ref s.heap.objs.size, _, I.laid (a := s.heap.objs.size) (o := .dT []) (t' := s.toks) (fun _ _ q => Heap.get?_push_of_some _ q) (Nat.le_refl _) (ZL2 s.heap I.big), rfl, h _ (I.hok.fresh (Nat.le_refl _))⟩
end
def ZJ5 : List (TE × TE) → St → Hp → (List (V × V) → Hp → Prop) → Prop
 | [], _, H, Q => Q [] H
 | (tk, tv) :: r, σ, H, Q => tk σ H fun x H1 => tv σ H1 fun y H2 => ZJ5 r σ H2 fun ps H3 => Q ((x, y) :: ps) H3
def ZJ6 (kvs more : List (Key × V)) : List (Key × V) := more.foldl (fun acc kv => Yj acc kv.1 kv.2) kvs
def ZR9 (trs : List (TE × TE)) : TE := fun σ H Q => ∀ p, H p = none → ZJ5 trs σ (upd H p (.dK [])) fun ps H2 => H2 p = some (.dK []) ∧ ∃ kvs : List (Key × V), ps = kvs.map (fun kv => (kV kv.1, kv.2)) ∧ kvs.length ≤ 15 ∧ Q (.ref p) (upd H2 p (.dK (ZJ6 [] kvs)))
structure M1 (X : Cx) (o : Expr) (m : Str) (apos : Pos) (e : Expr) (cpos : Pos) : Prop where
 base : attributeBase o m X.env (eval o X.env) = eval o X.env
 few : ((backTo cpos (starEach [e] X.env)).all (fun x => !x.1) && (backToKw cpos (keywordEach [] X.env)).all (fun x => x.1.isSome)
  && decide (([e] : List Expr).length + ([] : List Keyword).length + (if ([] : List Keyword).isEmpty then 0 else 1) < 30)) = true
 line : (apos.endLine == cpos.line) = true
 trees : backTo cpos (starEach [e] X.env) = [(false, eval e X.env)]
structure M2 (X : Cx) (o : Expr) (m : Str) (apos : Pos) (e f : Expr) (cpos : Pos) : Prop where
 base : attributeBase o m X.env (eval o X.env) = eval o X.env
 few : ((backTo cpos (starEach [e, f] X.env)).all (fun x => !x.1) && (backToKw cpos (keywordEach [] X.env)).all (fun x => x.1.isSome)
  && decide (([e, f] : List Expr).length + ([] : List Keyword).length + (if ([] : List Keyword).isEmpty then 0 else 1) < 30)) = true
 line : (apos.endLine == cpos.line) = true
 trees : backTo cpos (starEach [e, f] X.env) = [(false, eval e X.env), (false, eval f X.env)]
def IsD (H : Hp) (a : Addr) : Prop := (∃ kvs, Rd H a (.dK kvs)) ∨ ∃ kvs, Rd H a (.dT kvs)
theorem ZCm {X : Cx} {pins : List (Addr × Obj)} {σ : St} {H : Hp} {s : Shared} {a : Addr} (I : Inv X pins σ H s) (d : IsD H a) :
  s.TypeIs (.ref a) "dict" ∧ (∀ b, Value.ref a = .ref b → ∃ ob, s.heap.get? b = some ob ∧ ob.dict = none) ∧ (a == sysModules) = false := by
 rcases d with ⟨kvs, e⟩ | ⟨kvs, e⟩
 ·obtain ⟨_, hd, vs, _, dd⟩ := ZAW I.hok e
  refine ⟨dd.typeIs, fun b q => ?_, hd⟩
  cases q
  obtain ⟨ob, _, _, h1, h2, _⟩ := dd
  exact ⟨ob, h1, h2.2.1⟩
 ·obtain ⟨_, hd, xs, _, dd⟩ := ZBK I.hok e
  refine ⟨dd.typeIs, fun b q => ?_, hd⟩
  cases q
  obtain ⟨ob, _, _, h1, h2, _⟩ := dd
  exact ⟨ob, h1, h2.2.1⟩
section
variable {X : Cx} {pins : List (Addr × Obj)} {σ : St} {H : Hp} {s : Shared} {a : Addr} {y d : V} {u r : Value} {o : Option V} {A : Around} {E : Value → Shared → Prop}
theorem ZQ8 {Q : Value → Shared → Prop} (hu : A.units + 1 < cLine) (I : Inv X pins σ H s) (g : YY H a y o) (ry : ZX y u) (h : ∀ w' s', Inv X pins σ H s' → ZX (o.getD .non) w' → Q w' s') :
  wpAny (model X.prog X.w) A (call (.builtin "dict.get") [.ref a, u]) Q E s := by
 rcases g with ⟨kvs, k, e, ey, l⟩ | ⟨kvs, k, b, e, ey, eb, l⟩
 ·subst ey
  obtain ⟨z, hd, vs, rel, dd⟩ := ZAW I.hok e
  refine call_meetsIn PySem.F.slot_dict_get dd.typeIs PySem.F.entry_dict_get (PySem.F.args_dict_get_2 _ _) (meets_dict_get (Z4 X.prog X.w) a (ZAp ry) hd) ⟨_, dd.mapOf, h _ _ (I.tok _) ?_⟩
  rw [l]
  exact (rel.val k).getD rfl
 ·subst ey
  cases (show u = Value.ref b from ry)
  obtain ⟨z, hd, xs, rel, dd⟩ := ZBK I.hok e
  refine call_meetsIn PySem.F.slot_dict_get dd.typeIs PySem.F.entry_dict_get (PySem.F.args_dict_get_2 _ _) (meetsH_dict_get (tupleKind (Z4 X.prog X.w)) a b hd) ⟨tupleKind_room_in1 hu, k, xs, ZAd I.hok eb, dd, h _ _ (I.tok _) ?_⟩
  rw [l]
  exact (rel.val k).getD rfl
theorem ZQ9 {Q : Value → Shared → Prop} (hu : A.units + 1 < cLine) (I : Inv X pins σ H s) (g : YY H a y o) (ry : ZX y u) (rd : ZX d r) (h : ∀ w' s', Inv X pins σ H s' → ZX (o.getD d) w' → Q w' s') :
  wpAny (model X.prog X.w) A (call (.builtin "dict.get") [.ref a, u, r]) Q E s := by
 rcases g with ⟨kvs, k, e, ey, l⟩ | ⟨kvs, k, b, e, ey, eb, l⟩
 ·subst ey
  obtain ⟨z, hd, vs, rel, dd⟩ := ZAW I.hok e
  refine call_meetsIn PySem.F.slot_dict_get dd.typeIs PySem.F.entry_dict_get (PySem.F.args_dict_get_3 _ _ _) (meets_dict_get_default (Z4 X.prog X.w) a (ZAp ry) hd r) ⟨_, dd.mapOf, h _ _ (I.tok _) ?_⟩
  rw [l]
  exact (rel.val k).getD rd
 ·subst ey
  cases (show u = Value.ref b from ry)
  obtain ⟨z, hd, xs, rel, dd⟩ := ZBK I.hok e
  refine call_meetsIn PySem.F.slot_dict_get dd.typeIs PySem.F.entry_dict_get (PySem.F.args_dict_get_3 _ _ _) (meetsH_dict_get_default (tupleKind (Z4 X.prog X.w)) a b hd r) ⟨tupleKind_room_in1 hu, k, xs, ZAd I.hok eb, dd, h _ _ (I.tok _) ?_⟩
  rw [l]
  exact (rel.val k).getD rd
end
def ZGM (td ty : TE) : TE := fun σ H Q => td σ H fun x H1 => ∃ a, x = .ref a ∧ IsD H1 a ∧ ty σ H1 fun y H2 => ∃ o, YY H2 a y o ∧ Q (o.getD .non) H2
def ZGN (td ty tx : TE) : TE := fun σ H Q => td σ H fun x H1 => ∃ a, x = .ref a ∧ IsD H1 a ∧ ty σ H1 fun y H2 => tx σ H2 fun z H3 => ∃ o, YY H3 a y o ∧ Q (o.getD z) H3
def ZGO (td ty : TE) : TE := fun σ H Q => td σ H fun x H1 => ∃ a, x = .ref a ∧ IsD H1 a ∧ ty σ H1 fun y H2 => ∃ kvs k v, H2 a = some (.dK kvs) ∧ y = kV k ∧ Zh kvs k = some v ∧ Q v (upd H2 a (.dK (Yn kvs k)))
def ZGP (td ty tx : TE) : TE := fun σ H Q => td σ H fun x H1 => ∃ a, x = .ref a ∧ IsD H1 a ∧ ty σ H1 fun y H2 => tx σ H2 fun z H3 => ∃ kvs k, H3 a = some (.dK kvs) ∧ y = kV k ∧
 (∀ v, Zh kvs k = some v → Q v (upd H3 a (.dK (Yn kvs k)))) ∧ (Zh kvs k = none → Q z H3)
section
variable {X : Cx} {o e f : Expr} {apos cpos : Pos} {td ty tx : TE}
theorem ZL5 (hu : X.A.units + 1 < cLine) (ho : PE X o td) (he : PE X e ty) (m : M1 X o "get" apos e cpos) : PE X (.Call (.Attribute o "get" apos) [e] [] cpos) (ZGM td ty) := by
 intro pins s σ H Q I h
 refine wpAny_Call_method m.base m.few m.line PySem.F.plainAttrs_dict PySem.F.slot_dict_get PySem.F.type_dict_get (thn (ho pins s σ H _ I h) fun u s1 ⟨x, H1, I1, rx, a, ex, d, q1⟩ => ?_)
 subst ex
 obtain rfl : u = Value.ref a := rx
 obtain ⟨t1, t2, _⟩ := ZCm I1 d
 refine ⟨t1, t2, ?_⟩
 rw [m.trees]
 refine Calls.callWith_builtin rfl (Calls.evalArgs_plain (Calls.spliced_cons (thn (he pins s1 σ H1 _ I1 q1) fun iv s2 ⟨y, H2, I2, ry, ov, g, q2⟩ => Calls.spliced_nil ?_)))
 exact ZQ8 hu I2 g ry fun w' s3 I3 rw' => ⟨_, H2, I3, rw', q2⟩
theorem ZL6 (hu : X.A.units + 1 < cLine) (ho : PE X o td) (he : PE X e ty) (hf : PE X f tx) (m : M2 X o "get" apos e f cpos) : PE X (.Call (.Attribute o "get" apos) [e, f] [] cpos) (ZGN td ty tx) := by
 intro pins s σ H Q I h
 refine wpAny_Call_method m.base m.few m.line PySem.F.plainAttrs_dict PySem.F.slot_dict_get PySem.F.type_dict_get (thn (ho pins s σ H _ I h) fun u s1 ⟨x, H1, I1, rx, a, ex, d, q1⟩ => ?_)
 subst ex
 obtain rfl : u = Value.ref a := rx
 obtain ⟨t1, t2, _⟩ := ZCm I1 d
 refine ⟨t1, t2, ?_⟩
 rw [m.trees]
 refine Calls.callWith_builtin rfl (Calls.evalArgs_plain (Calls.spliced_cons (thn (he pins s1 σ H1 _ I1 q1) fun iv s2 ⟨y, H2, I2, ry, q2⟩ =>
  Calls.spliced_cons (thn (hf pins s2 σ H2 _ I2 q2) fun fv s3 ⟨z, H3, I3, rz, ov, g, q3⟩ => Calls.spliced_nil ?_))))
 exact ZQ9 hu I3 g ry rz fun w' s4 I4 rw' => ⟨_, H3, I4, rw', q3⟩
theorem ZL7 (ho : PE X o td) (he : PE X e ty) (m : M1 X o "pop" apos e cpos) : PE X (.Call (.Attribute o "pop" apos) [e] [] cpos) (ZGO td ty) := by
 intro pins s σ H Q I h
 refine wpAny_Call_method m.base m.few m.line PySem.F.plainAttrs_dict PySem.F.slot_dict_pop PySem.F.type_dict_pop (thn (ho pins s σ H _ I h) fun u s1 ⟨x, H1, I1, rx, a, ex, d, q1⟩ => ?_)
 subst ex
 obtain rfl : u = Value.ref a := rx
 obtain ⟨t1, t2, _⟩ := ZCm I1 d
 refine ⟨t1, t2, ?_⟩
 rw [m.trees]
 refine Calls.callWith_builtin rfl (Calls.evalArgs_plain (Calls.spliced_cons (thn (he pins s1 σ H1 _ I1 q1) fun iv s2 ⟨y, H2, I2, ry, kvs, k, v, ea, ey, l, q2⟩ => Calls.spliced_nil ?_)))
 subst ey
 exact ZNZ I2 ea ry l (.inl rfl) fun w' s3 I3 rw' => ⟨v, _, I3, rw', q2⟩
theorem ZL8 (ho : PE X o td) (he : PE X e ty) (hf : PE X f tx) (m : M2 X o "pop" apos e f cpos) : PE X (.Call (.Attribute o "pop" apos) [e, f] [] cpos) (ZGP td ty tx) := by
 intro pins s σ H Q I h
 refine wpAny_Call_method m.base m.few m.line PySem.F.plainAttrs_dict PySem.F.slot_dict_pop PySem.F.type_dict_pop (thn (ho pins s σ H _ I h) fun u s1 ⟨x, H1, I1, rx, a, ex, d, q1⟩ => ?_)
 subst ex
 obtain rfl : u = Value.ref a := rx
 obtain ⟨t1, t2, _⟩ := ZCm I1 d
 refine ⟨t1, t2, ?_⟩
 rw [m.trees]
 refine Calls.callWith_builtin rfl (Calls.evalArgs_plain (Calls.spliced_cons (thn (he pins s1 σ H1 _ I1 q1) fun iv s2 ⟨y, H2, I2, ry, q2⟩ =>
  Calls.spliced_cons (thn (hf pins s2 σ H2 _ I2 q2) fun fv s3 ⟨z, H3, I3, rz, kvs, k, ea, ey, q3, q4⟩ => Calls.spliced_nil ?_))))
 subst ey
 cases l : Zh kvs k with
 | some v => exact ZNZ I3 ea ry l (.inr ⟨fv, rfl⟩) fun w' s4 I4 rw' => ⟨v, _, I4, rw', q3 v l⟩
 | none => exact ZQ7 I3 ea ry l fun s4 I4 => ⟨z, H3, I4, rz, q4 l⟩
end
section
variable {X : Cx} {pins : List (Addr × Obj)} {σ : St} {H : Hp} {s : Shared} {a : Addr} {kvs : List (Key × V)} {A : Around} {E : Value → Shared → Prop}
end
section
variable {X : Cx} {pins : List (Addr × Obj)} {σ : St} {H : Hp} {s : Shared} {a : Addr} {y : V} {u : Value} {A : Around} {E : Value → Shared → Prop}
end
end L2
set_option Elab.async false
set_option linter.all false
set_option maxRecDepth 100000
set_option maxHeartbeats 4000000
namespace L2
open PySem PySem.Spec PyProof.Rows
section
variable {prog : Program} {w : World} {A : Around} {R : Result → Shared → Prop} {I : Addr} {fp wr : List Addr} {n : Nat} {P : Nat → Value → Prop} {St : Nat → Heap → Prop} {κ : Type} [DecidableEq κ] {knd : KeyKind prog w κ}
end
def ZSk (H : Hp) (vs : List V) (prs : List (Key × V)) : Prop := Paired (fun v (p : Key × V) => ∃ a, v = V.ref a ∧ H a = some (.tup [kV p.1, p.2])) vs prs
end L2
set_option Elab.async false
set_option linter.all false
set_option maxRecDepth 100000
set_option maxHeartbeats 4000000
namespace L2
open PySem PySem.Spec PyProof.Rows
section
variable {prog : Program} {w : World} {A : Around} {E : Value → Shared → Prop} {s : Shared} {κ : Type} [DecidableEq κ] {knd : KeyKind prog w κ}
theorem ZGQ {d : Addr} {kvs : List (κ × Value)} {ep : Nat} {Q : List Value → Shared → Prop} (hh : A.handled = none) (hd : (d == sysModules) = false) (hm : s.heap.DictAt knd d kvs ep) (hn : kvs.length ≤ sizeLine)
  (hQ : ∀ s' acc, (∀ b o, s.heap.get? b = some o → s'.heap.get? b = some o) → s'.gens = s.gens → s'.drawn = s.drawn → s'.os = s.os → s.heap.objs.size < s'.heap.objs.size → ItemsOf (fun i v => ∃ k x, kvs[i]? = some (k, x) ∧ knd.is k v = true) acc kvs.length → Q acc.toList s') :
  wpAny (model prog w) A (collect (.ref d)) Q E s := by
 have hdl : d < s.heap.objs.size := let ⟨_, _, ho, _⟩ := hm; Heap.lt_size ho
 unfold collect
 refine wpAny_bind (wpAny_runValue (codeAny_builtin F.entry_proto_collect ?_))
 rw [Around.under_plainId F.plain_proto_collect _]
 show wpAny _ A.in1 (newList [] >>= fun l => again (.builtin "list.__iadd__" ⟨[l, .ref d], []⟩)) _ _ s
 refine wpAny_bind (wpAny_newObj_type ?_)
 refine wpAny_pure ⟨plainId_quiet F.plain_list_iadd _, codeAny_builtin F.entry_list_iadd ?_⟩
 rw [Around.under_plainId F.plain_list_iadd _]
 generalize hH : s.heap.push { cls := .type "list", data := .seq ([] : List Value).toArray } = H
 have hHs : H.objs.size = s.heap.objs.size + 1 := by rw [← hH, Heap.size_push]
 have hm1 : H.DictAt knd d kvs ep := hm.at' fun o e => hH ▸ Heap.get?_push_of_some _ e
 have hT1 : (⟨H, s.gens, s.drawn, s.toks, s.os⟩ : Shared).TypeIs (.ref d) "dict" := hm1.dictOf.typeIs
 show wpAny _ A.in1 (Builtin.List.listExtendWith (.ref s.heap.objs.size) (.ref d) (.ref s.heap.objs.size)) _ _ (⟨H, s.gens, s.drawn, s.toks, s.os⟩ : Shared)
 unfold Builtin.List.listExtendWith
 refine wpAny_bind (wpAny_typeOf hT1 ?_)
 have h1 : Builtin.List.listSameRef (.ref s.heap.objs.size) (.ref d) = false := by
  simp only [Builtin.List.listSameRef]
  exact beq_eq_false_iff_ne.mpr (Nat.ne_of_gt hdl)
 have h2 : (Value.type "dict" == Value.type "list") = false := by decide
 have h3 : (Value.type "dict" == Value.type "tuple") = false := by decide
 simp only [h1, h2, h3, Bool.or_false, Bool.false_eq_true, if_false]
 refine wpAny_bind (wpAny_pyIter_dict hd hm1 ?_)
 generalize hO : ({ cls := .type "dict_keyiterator", data := .fields #[.ref d, .int 0 0, .int kvs.length 0, .int ep 0] } : Obj) = O
 have hm2 : (H.push O).DictAt knd d kvs ep := hm1.at' fun o e => Heap.get?_push_of_some _ e
 have hT2 : (⟨H.push O, s.gens, s.drawn, s.toks, s.os⟩ : Shared).TypeIs (.ref d) "dict" := hm2.dictOf.typeIs
 refine wpAny_bind (wpAny_holding ?_)
 unfold Builtin.List.listLengthHint
 refine wpAny_bind (wpAny_specialOf hT2 PySem.F.slot_dict_len.lookup ?_)
 wp_delta
 refine wpAny_bind (wpAny_isInstance (b := true) hT2 (by rw [isSubtype_type]; kernel_rfl) ?_)
 show wpAny _ A.in1 (typeOf (Value.ref d) >>= _) _ _ _
 refine wpAny_bind (wpAny_typeOf hT2 ?_)
 refine wpAny_pure ?_
 show wpAny _ A.in1 (rule "list.extend.makes-room" >>= fun _ => Builtin.List.listTouch (.ref s.heap.objs.size) >>= fun _ =>
  again (.builtin "list.extend.loop" ⟨[.ref s.heap.objs.size, .ref H.objs.size, .ref s.heap.objs.size], []⟩)) _ _ _
 refine wpAny_bind (wpAny_rule ?_)
 have hS₁ : (H.push O).get? s.heap.objs.size = some { cls := .type "list", data := .seq ([] : List Value).toArray } := Heap.get?_push_of_some _ (hH ▸ Heap.get?_push_size _ rfl)
 refine wpAny_bind ?_
 show wpAny _ A.in1 (updateSeq s.heap.objs.size (·.push .none) >>= fun _ => updateSeq s.heap.objs.size (·.pop)) _ _ _
 refine wpAny_bind (wpAny_updateSeq hS₁ rfl ?_)
 have hS₂ := Heap.get?_update_self (Obj.mapSeq (·.push Value.none)) hS₁ rfl
 refine wpAny_updateSeq hS₂ rfl ?_
 have hS₃ := Heap.get?_update_self (Obj.mapSeq (·.pop)) hS₂ rfl
 have oth : ∀ b o, b ≠ s.heap.objs.size → (H.push O).get? b = some o → (((H.push O).update s.heap.objs.size (Obj.mapSeq (·.push Value.none))).update s.heap.objs.size (Obj.mapSeq (·.pop))).get? b = some o :=
  fun b o hb e => (Heap.get?_update_other _ _ (Ne.symm hb)).trans ((Heap.get?_update_other _ _ (Ne.symm hb)).trans e)
 have hdH : d < H.objs.size := by rw [hHs]; exact Nat.lt_succ_of_lt hdl
 have hHne : H.objs.size ≠ s.heap.objs.size := by rw [hHs]; exact Nat.succ_ne_self _
 have hSf : s.heap.objs.size ∉ [H.objs.size, d] := fun z => by
  simp only [List.mem_cons, List.not_mem_nil, or_false] at z
  rcases z with z | z
  ·exact hHne z.symm
  ·exact Nat.ne_of_gt hdl z
 have W := (Walks.dictKeys (knd := knd) (A := A.in1) hh H.objs.size d (Nat.ne_of_lt hdH) kvs ep).toS
 refine wpAny_pure ⟨plainId_quiet F.plain_extend_loop _, codeAny_extend_loopS (A := A) W hn _ hSf _ kvs.length 0 _ _ _ rfl (Nat.zero_le _) ⟨?_, ?_⟩ hS₃ (ItemsOf.nil _) fun s' acc' c' hmv hS' hacc => ?_⟩
 ·exact ⟨_, oth _ _ hHne (Heap.get?_push_size _ (by rw [← hO]; rfl)), by rw [← hO], by rw [← hO]; rfl⟩
 ·exact hm2.at' fun o e => oth _ _ (Nat.ne_of_lt hdl) e
 ·show wpAny _ A (load s.heap.objs.size >>= _) _ _ s'
  refine wpAny_bind (wpAny_load hS' ?_)
  refine wpAny_pure (hQ s' acc' (fun b ob e => hmv.heap b ob (fun hb => ?_) (oth _ _ (Nat.ne_of_lt (Heap.lt_size e)) (Heap.get?_push_of_some _ (hH ▸ Heap.get?_push_of_some _ e)))) hmv.gens hmv.drawn hmv.os (Heap.lt_size hS') hacc)
  have hlt := Heap.lt_size e
  simp only [List.mem_cons, List.not_mem_nil, or_false] at hb
  rcases hb with h | h
  ·exact Nat.ne_of_lt hlt h
  ·rw [h, hHs] at hlt; exact absurd hlt (Nat.not_lt.mpr (Nat.le_succ _))
theorem ZHT {d : Addr} {kvs : List (κ × Value)} {ep : Nat} {Q : Value → Shared → Prop} (hh : A.handled = none) (hd : (d == sysModules) = false) (hm : s.heap.DictAt knd d kvs ep) (h64 : kvs.length < 64)
  (hI : ∀ acc : Array Value, ItemsOf (fun i v => ∃ k x, kvs[i]? = some (k, x) ∧ knd.is k v = true) acc kvs.length → ∃ ns, IntsAre acc.toList ns ∧ ∀ (s' : Shared) (l : Addr) (out : Array Value) (ns' : List Int) (e : Nat), s.heap.objs.size ≤ l → (∀ b o, s.heap.get? b = some o → s'.heap.get? b = some o) → s'.gens = s.gens → s'.drawn = s.drawn → s'.os = s.os →
   s'.heap.get? l = some (seqObj "list" out e) → out.size = kvs.length → IntsAre out.toList ns' → ns'.Perm ns → ns'.Pairwise (· ≤ ·) → Q (.ref l) s') :
  wpAny (model prog w) A (call (.builtin "sorted") [.ref d]) Q E s := by
 refine Calls.call_function_entry kind_sorted plain_sorted entry_sorted (args_sorted1 _) ?_
 unfold Builtin.«sorted»
 refine wpAny_bind (m := checkCount "sorted" 1 1 _) (wpAny_pure ?_)
 refine wpAny_bind (ZGQ (knd := knd) hh hd hm (by rw [sizeLine_eq]; omega) fun s1 acc hk e1 e2 e3 hlt hacc => ?_)
 obtain ⟨ns, hns, hQ⟩ := hI acc hacc
 refine wpAny_bind (wpAny_newList (hsz := by rw [Array.length_toList, hacc.1, sizeLine_eq]; omega) ?_)
 have hoL : (s1.heap.push (seqObj "list" acc.toList.toArray 0)).get? s1.heap.objs.size = some (seqObj "list" acc.toList.toArray 0) := Heap.get?_push_size _ rfl
 show wpAny _ _ _ _ _ { s1 with heap := s1.heap.push (seqObj "list" acc.toList.toArray 0) }
 refine wpAny_bind (wpAny_holding (wpAny_call_entry slot_list_sort ⟨_, hoL, rfl⟩ entry_list_sort (list_sort_tree hoL hns (by rw [Array.length_toList, hacc.1]; exact h64) fun out ns' a1 a2 a3 => ⟨_, rfl, ?_⟩) (args_list_sort _)))
 refine wpAny_pure ⟨_, rfl, ?_⟩
 obtain ⟨e, he⟩ := sortedHeap_at (out := out) hoL
 have hle : s.heap.objs.size ≤ s1.heap.objs.size := Nat.le_of_lt hlt
 refine hQ _ _ out ns' e hle (fun b o eb => ?_) e1 e2 e3 he ?_ a1 a2 a3
 ·have hb := Heap.lt_size (hk _ _ eb)
  exact (sortedHeap_old (Nat.ne_of_lt hb) (by rw [Heap.size_push]; exact Nat.lt_succ_of_lt hb)).trans (Heap.get?_push_of_some _ (hk _ _ eb))
 ·have l1 := IntsAre.length a1
  have l2 := IntsAre.length hns
  have l3 := a2.length_eq
  have l4 := hacc.1
  simp only [Array.length_toList] at l1 l2
  omega
end
theorem ZE8 : ∀ (vs : List (Key × Value)) (ns : List Int) (l : List Value), vs.map (·.1) = ns.map Sum.inl → l.length = vs.length → (∀ (j : Nat) (v : Value), l[j]? = some v → ∃ k x, vs[j]? = some (k, x) ∧ ZB2 k v = true) → IntsAre l ns
 | [], [], [], _, _, _ => .nil
 | [], [], _ :: _, _, h, _ => by simp at h
 | [], _ :: _, _, h, _, _ => by simp at h
 | _ :: _, [], _, h, _, _ => by simp at h
 | _ :: _, _ :: _, [], _, h, _ => by simp at h
 | (k, x) :: vs, n :: ns, v :: l, h1, h2, h3 => by
  simp only [List.map_cons, List.cons.injEq] at h1
  obtain ⟨rfl, h1⟩ := h1
  obtain ⟨k', x', e, hk⟩ := h3 0 v rfl
  simp only [List.getElem?_cons_zero, Option.some.injEq, Prod.mk.injEq] at e
  obtain ⟨rfl, rfl⟩ := e
  rcases YL hk with ⟨i, t, e1, e2⟩ | ⟨y, t, e1, e2⟩
  ·cases e1; cases e2
   refine .cons _ _ (ZE8 vs ns l h1 (by simpa using h2) fun j v e => ?_)
   have := h3 (j + 1) v (by simpa using e)
   simpa using this
  ·cases e1
theorem KV.keysEq {κ : Type} : ∀ {kvs : List (κ × V)} {us : List (κ × Value)}, KV kvs us → us.map (·.1) = kvs.map (·.1)
 | _, _, .nil => rfl
 | _, _, .cons h t => by rw [List.map_cons, List.map_cons, h.1, KV.keysEq t]
theorem IntsAre.vals : ∀ {vs : List Value} {ns : List Int}, IntsAre vs ns → ZV (ns.map V.int) vs
 | _, _, .nil => .nil
 | _, _, .cons _ t h => .cons ⟨t, rfl⟩ (IntsAre.vals h)
def ZGR : List V → Hp → VK → Prop := fun xs H Q => ∃ (p : Addr) (kvs : List (Key × V)) (ns : List Int), xs = [.ref p] ∧ Rd H p (.dK kvs) ∧ kvs.map (·.1) = ns.map Sum.inl ∧ kvs.length < 64 ∧ ∀ (l : Addr) (ns' : List Int), H l = none → ns'.Perm ns → ns'.Pairwise (· ≤ ·) → Q (.ref l) (upd H l (.lst (ns'.map V.int)))
theorem ZEM {X : Cx} (hc : X.calm = true) : Z9 X (.builtin "sorted") ZGR := by
 intro pins s σ H xs us Q I r h
 obtain ⟨p, kvs, ns, rfl, hd, hns, h64, q⟩ := h
 obtain ⟨u, rfl, ru⟩ := r.one
 cases ru
 obtain ⟨z, hd, vs, rel, dd⟩ := ZAW I.hok hd
 obtain ⟨ep, dd⟩ := dd.dictAt
 have hlen : vs.length = kvs.length := rel.length.symm
 refine ZHT (I.ok.hd hc) hd dd (by rw [hlen]; exact h64) fun acc hacc => ⟨ns, ?_, fun s' l out ns' e hl hk e1 e2 e3 he ho a1 a2 a3 => ?_⟩
 ·exact ZE8 vs ns acc.toList (by rw [KV.keysEq rel]; exact hns) (by rw [Array.length_toList]; exact hacc.1) fun j v e => hacc.2 j v (by simpa using e)
 ·obtain ⟨h', g', d', tk, os'⟩ := s'
  simp only at e1 e2 e3
  subst e1 e2 e3
  refine ⟨.ref l, upd H l (.lst (ns'.map V.int)), I.laid (t' := tk) hk hl ?_, rfl, q l ns' (I.hok.fresh hl) a2 a3⟩
  refine ⟨?_, out.toList, e, IntsAre.vals a1, he⟩
  have l1 := a2.length_eq
  have l2 := congrArg List.length hns
  simp only [List.length_map] at l2 ⊢
  rw [sizeLine_eq]
  omega
end L2
set_option Elab.async false
set_option linter.all false
set_option maxRecDepth 100000
set_option maxHeartbeats 4000000
namespace L2
open PySem PySem.Spec PyProof.Rows
section
variable {prog : Program} {w : World} {A : Around} {E : Value → Shared → Prop} {I : Addr} {fp wr : List Addr} {n : Nat} {P : Nat → Value → Prop} {St : Nat → Heap → Prop}
end
section
variable {X : Cx} {pos : Pos}
end
section
variable {X : Cx} {o i value : Expr} {pos pos' : Pos} {td ty tv : TE}
theorem ZSl {b : Expr} (h : ZFt b = false) : ZL0 b := by
 intro ov iv
 cases b <;> first | rfl | cases h
theorem ZAP (hu : X.A.units + 1 < cLine) (ho : QE X o td) (hi : QE X i ty) (hs : ZFt i = false := by rfl) : QE X (.Subscript o i pos) (ZIk td ty) := ⟨ZOm hu ho.h hi.h (ZSl hs)⟩
theorem J5 (hu : X.A.units + 1 < cLine) (hv : QE X value tv) (ho : QE X o td) (hi : QE X i ty) (hs : Jg value = false := by rfl) : QS X (.Assign [.Subscript o i pos'] value pos) (ZIl td ty tv) := ⟨ZOn hu ho.h hi.h hv.h (ZAJ hs)⟩
theorem ZGS : QE X (.Dict [] [] pos) ZGK := ⟨ZL3⟩
end
section
variable {σ : St} {H : Hp} {Q : VK} {D : Z8}
def ZIm (x y : V) (H : Hp) (Q : VK) : Prop := ∃ a v, x = .ref a ∧ YY H a y (some v) ∧ Q v H
theorem ZL9 {td ty : TE} (h : td σ H fun x H1 => ty σ H1 fun y H2 => ZIm x y H2 Q) : ZIk td ty σ H Q := h
def ZIn (v x y : V) (H : Hp) (R : Hp → Prop) : Prop := ∃ a H4, x = .ref a ∧ ZCC H a y v H4 ∧ R H4
theorem ZMA {td ty tv : TE} (h : tv σ H fun v H1 => td σ H1 fun x H2 => ty σ H2 fun y H3 => ZIn v x y H3 (D.nx σ)) : ZIl td ty tv D σ H := h
def ZIo (H : Hp) (Q : VK) : Prop := ∀ p, H p = none → Q (.ref p) (upd H p (.dK []))
theorem ZMB (h : ZIo H Q) : ZGK σ H Q := h
theorem ZOo (h : ∀ p H2, H p = none → H2 p = some (.dK []) → ZK H H2 → Q (.ref p) H2) : ZIo H Q := fun p hp => h p _ hp ZS (ZK.new hp)
end
def Ze (m : List (Int × Int)) (t : Int) : Option Int := (m.find? fun kv => decide (kv.1 = t)).map (·.2)
def YO (m : List (Int × Int)) (t h : Int) : List (Int × Int) := if (m.any fun kv => decide (kv.1 = t)) = true then m.map fun kv => if kv.1 = t then (kv.1, h) else kv else m ++ [(t, h)]
def dkE (p : Int × Int) : Key × V := (.inl p.1, .int p.2)
def Zj (m : List (Int × Int)) : List (Key × V) := m.map dkE
theorem ZGT {a b : Int} : ((Sum.inl a : Key) = Sum.inl b) ↔ a = b := ⟨fun h => Sum.inl.inj h, fun h => h ▸ rfl⟩
theorem ZRA (m : List (Int × Int)) (t : Int) : ((Zj m).any fun kv => decide (kv.1 = Sum.inl t)) = m.any fun kv => decide (kv.1 = t) := by
 unfold Zj
 rw [List.any_map]
 congr 1
 funext p
 simp only [Function.comp, dkE, ZGT]
theorem ZJ7 (m : List (Int × Int)) (t h : Int) : Yj (Zj m) (.inl t) (.int h) = Zj (YO m t h) := by
 unfold Yj YO
 rw [ZRA]
 by_cases c : (m.any fun kv => decide (kv.1 = t)) = true
 ·rw [if_pos c, if_pos c]
  unfold Zj
  rw [List.map_map, List.map_map]
  refine List.map_congr_left fun p _ => ?_
  simp only [Function.comp, dkE, ZGT]
  split <;> simp
 ·rw [if_neg c, if_neg c]
  simp [Zj, dkE]
theorem Jb (t : Int) : ∀ m : List (Int × Int), Zh (Zj m) (.inl t) = (Ze m t).map V.int
 | [] => rfl
 | p :: m => by
  have ih := Jb t m
  by_cases e : p.1 = t
  ·have : Zh (Zj (p :: m)) (.inl t) = some (.int p.2) := Ya (p := dkE p) (by simp [dkE, e])
   rw [this]
   simp [Ze, List.find?_cons, e]
  ·have : Zh (Zj (p :: m)) (.inl t) = Zh (Zj m) (.inl t) := YW (p := dkE p) (by simp [dkE, e])
   rw [this, ih]
   simp [Ze, List.find?_cons, e]
theorem ZGU {H : Hp} {Q : VK} {p : Addr} {m : List (Int × Int)} {t v : Int} (h1 : H p = some (.dK (Zj m))) (h2 : Ze m t = some v) (h : Q (.int v) H) : ZIm (.ref p) (.int t) H Q :=
 ⟨p, .int v, rfl, by
  have := YY.k (k := Sum.inl t) h1
  rw [Jb, h2] at this
  exact this, h⟩
theorem ZDj {H : Hp} {R : Hp → Prop} {p : Addr} {m : List (Int × Int)} {t v : Int} (h1 : H p = some (.dK (Zj m))) (hz : m.length < sizeLine) (h : ∀ H2, H2 p = some (.dK (Zj (YO m t v))) → Kp p H H2 → R H2) : ZIn (.int v) (.ref p) (.int t) H R :=
 ⟨p, _, rfl, ZCC.k (k := Sum.inl t) h1 (by simpa [Zj] using hz), by
  rw [ZJ7]
  exact h _ ZS Kp.upd⟩
theorem ZGV {H : Hp} {Q : VK} (h : ∀ p H2, H p = none → H2 p = some (.dK (Zj [])) → ZK H H2 → Q (.ref p) H2) : ZIo H Q := ZOo h
theorem ZMC (m : List (Int × Int)) (t h j : Int) : Ze (YO m t h) j = if j = t then some h else Ze m j := by
 have e1 := Jb j (YO m t h)
 rw [← ZJ7, ZAO] at e1
 have e2 := Jb j m
 rw [e2] at e1
 simp only [ZGT] at e1
 by_cases e : j = t
 ·rw [if_pos e] at e1 ⊢
  cases hg : Ze (YO m t h) j with
  | none => rw [hg] at e1; cases e1
  | some x => rw [hg] at e1; simp at e1; rw [e1]
 ·rw [if_neg e] at e1 ⊢
  cases hg : Ze (YO m t h) j <;> cases hm : Ze m j <;> rw [hg, hm] at e1 <;> simp_all
theorem ZCD (m : List (Int × Int)) (t h : Int) : (YO m t h).length ≤ m.length + 1 := by
 unfold YO
 split <;> simp
theorem J6 {t : Int} : ∀ {m : List (Int × Int)}, Ze m t = none ↔ t ∉ m.map (·.1)
 | [] => by simp [Ze]
 | p :: m => by
  have ih := J6 (t := t) (m := m)
  by_cases e : p.1 = t
  ·simp [Ze, List.find?_cons, e]
  ·have e' : ¬ t = p.1 := fun z => e z.symm
   have : Ze (p :: m) t = Ze m t := by simp [Ze, List.find?_cons, e]
   rw [this, ih]
   simp [e']
theorem ZJ8 (m : List (Int × Int)) (t h : Int) : (YO m t h).map (·.1) = if t ∈ m.map (·.1) then m.map (·.1) else m.map (·.1) ++ [t] := by
 have ha : (m.any fun kv => decide (kv.1 = t)) = true ↔ t ∈ m.map (·.1) := by simp
 unfold YO
 by_cases c : (m.any fun kv => decide (kv.1 = t)) = true
 ·rw [if_pos c, if_pos (ha.mp c), List.map_map]
  refine List.map_congr_left fun p _ => ?_
  simp only [Function.comp]
  split <;> rfl
 ·rw [if_neg c, if_neg (fun z => c (ha.mpr z))]
  simp
theorem JG {m : List (Int × Int)} {t h : Int} (n : (m.map (·.1)).Nodup) : ((YO m t h).map (·.1)).Nodup := by
 rw [ZJ8]
 split
 ·exact n
 ·rename_i c
  rw [List.nodup_append]
  exact ⟨n, by simp, fun a ha b hb e => c (by simp at hb; subst hb; subst e; exact ha)⟩
theorem YA {t h : Int} : ∀ {m : List (Int × Int)}, (m.map (·.1)).Nodup → (Ze m t = some h ↔ (t, h) ∈ m)
 | [], _ => by simp [Ze]
 | p :: m, n => by
  simp only [List.map_cons, List.nodup_cons] at n
  have ih := YA (t := t) (h := h) n.2
  by_cases e : p.1 = t
  ·have : Ze (p :: m) t = some p.2 := by simp [Ze, List.find?_cons, e]
   rw [this]
   constructor
   ·intro z; cases z; rw [← e]; exact List.mem_cons_self
   ·intro z
    rcases List.mem_cons.mp z with z | z
    ·rw [← z]
    ·exact absurd (List.mem_map.mpr ⟨_, z, rfl⟩) (by rw [← e] at *; exact n.1)
  ·have : Ze (p :: m) t = Ze m t := by simp [Ze, List.find?_cons, e]
   rw [this, ih]
   constructor
   ·exact fun z => List.mem_cons_of_mem _ z
   ·intro z
    rcases List.mem_cons.mp z with z | z
    ·exact absurd (by rw [← z]) e
    ·exact z
theorem ZI.prs {H : Hp} : ∀ {vs : List V} {l : List (Int × Int)}, ZI H vs l → ZSk H vs (l.map dkE)
 | _, _, .nil => .nil
 | _, _, .cons ⟨a, e, z⟩ t => .cons ⟨a, e, z⟩ (ZI.prs t)
theorem ZI.length {H : Hp} {vs : List V} {l : List (Int × Int)} (h : ZI H vs l) : vs.length = l.length := Paired.length h
theorem ZI.snoc {H : Hp} : ∀ {vs : List V} {l : List (Int × Int)}, ZI H vs l → ∀ {a : Addr} {p : Int × Int}, H a = some (.tup [.int p.1, .int p.2]) → ZI H (vs ++ [.ref a]) (l ++ [p])
 | _, _, .nil, a, p, z => .cons ⟨a, rfl, z⟩ .nil
 | _, _, .cons h t, a, p, z => .cons h (ZI.snoc t z)
theorem ZI.at {H : Hp} : ∀ {vs : List V} {l : List (Int × Int)}, ZI H vs l → ∀ {i : Nat} {v : V}, vs[i]? = some v → ∃ a p, v = .ref a ∧ l[i]? = some p ∧ H a = some (.tup [.int p.1, .int p.2])
 | _, _, .nil, i, v, e => by simp at e
 | _, _, @Paired.cons _ _ _ _ p _ _ ⟨a, e1, z⟩ t, 0, v, e => by
  simp at e; subst e
  exact ⟨a, p, e1, rfl, z⟩
 | _, _, .cons _ t, i + 1, v, e => by
  obtain ⟨a, p, h1, h2, h3⟩ := ZI.at t (by simpa using e)
  exact ⟨a, p, h1, by simpa using h2, h3⟩
theorem ZI.kp {p : Addr} {H H' : Hp} (k : Kp p H H') {n : Nat} {xs : List V} (hp : H p = some (.lst xs)) : ∀ {vs : List V} {l : List (Int × Int)}, ZI H vs l → ZI H' vs l
 | _, _, .nil => .nil
 | _, _, .cons ⟨a, e, z⟩ t => .cons ⟨a, e, k _ _ z (fun c => by subst c; rw [hp] at z; cases z)⟩ (ZI.kp k (n := n) hp t)
theorem ZEN {H : Hp} {Q : VK} {p : Addr} {m : List (Int × Int)} (h1 : H p = some (.dK (Zj m))) (hz : m.length < 64) (h : ∀ l H2 (ns : List Int), H l = none → H2 l = some (.lst (ns.map V.int)) → ns.Perm (m.map (·.1)) → ns.Pairwise (· ≤ ·) → ZK H H2 → Q (.ref l) H2) : ZGR [.ref p] H Q :=
 ⟨p, _, m.map (·.1), rfl, .inl h1, by simp [Zj, dkE], by simpa [Zj] using hz, fun l ns hl hp hs => h l _ ns hl ZS hp hs (ZK.new hl)⟩
def Asc (cv : List (Int × Int)) : Prop := cv.Pairwise fun a b => a.1 < b.1
def ZOp (m cv : List (Int × Int)) : Prop := Asc cv ∧ ∀ t h, (t, h) ∈ cv ↔ Ze m t = some h
def Yf (m : List (Int × Int)) (ns : List Int) : List (Int × Int) := ns.map fun t => (t, (Ze m t).getD 0)
theorem ZIp {m : List (Int × Int)} {ns : List Int} (nd : (m.map (·.1)).Nodup) (hp : ns.Perm (m.map (·.1))) (hs : ns.Pairwise (· ≤ ·)) : ZOp m (Yf m ns) := by
 have hn : ns.Nodup := hp.nodup_iff.mpr nd
 refine ⟨?_, fun t h => ?_⟩
 ·unfold Asc Yf
  rw [List.pairwise_map]
  exact (hs.and hn).imp fun ⟨a, b⟩ => by
   show _ < _
   omega
 ·unfold Yf
  rw [List.mem_map]
  constructor
  ·rintro ⟨u, hu, e⟩
   have hu' := hp.mem_iff.mp hu
   cases hg : Ze m u with
   | none => exact absurd hu' (J6.mp hg)
   | some x =>
    rw [hg] at e
    cases e
    exact hg
  ·intro hg
   refine ⟨t, hp.mem_iff.mpr ?_, by rw [hg]; rfl⟩
   by_cases c : t ∈ m.map (·.1)
   ·exact c
   ·rw [J6.mpr c] at hg; cases hg
end L2
set_option Elab.async false
set_option linter.all false
set_option maxRecDepth 100000
set_option maxHeartbeats 4000000
namespace L2
open PySem PySem.Spec PyProof.Rows
theorem ZH2 : bootBuiltins "repr" = some (.builtin "repr") := by decide +kernel
theorem ZJ9 : bootBuiltins "divmod" = some (.builtin "divmod") := by decide +kernel
theorem ZDL {prog : Program} {w : World} {A : Around} {E : Value → Shared → Prop} {s : Shared} {t sl : Addr} {items : Array Value} {vl vu : Value} {lo hi : Option Int} {Q : Value → Shared → Prop} (ht : IsTup s.heap t items) (hs : s.heap.IsSliceOf sl vl vu .none) (pl : IsPart vl lo) (pu : IsPart vu hi)
  (hw : HT.sIx items.size 0 lo = 0 ∧ HT.sIx items.size items.size hi = items.size) (h : Q (.ref t) s) : wpAny (model prog w) A (getItem (.ref t) (.ref sl)) Q E s := by
 obtain ⟨os, hos, hcs, hds⟩ := id hs
 have hTs : s.TypeIs (.ref sl) "slice" := ⟨os, hos, hcs⟩
 unfold getItem
 try with_reducible refine wpAny_holding ?_
 first | refine wpAny_bind (wpAny_pure ?_) | skip
 refine wpAny_bind (wpAny_sequenceKey ht.typeIs (by decide) ?_)
 refine wpAny_bind (wpAny_callSpecial?_slot (name := Str.ofString "__getitem__") ht.typeIs PyProof.Rows.slot_tuple_getitem
  (wpAny_call_entry PyProof.Rows.slot_tuple_getitem ht.typeIs entry_tuple_getitem ?_ (args_tuple_getitem _ _)))
 show wpAny _ _ (Builtin.Tuple.tupleItemsOf (.ref t) >>= _) _ _ s
 refine wpAny_bind (tupleItemsOf_ ht ?_)
 refine wpAny_bind (wpAny_typeOf hTs ?_)
 rw [if_pos (by decide)]
 refine wpAny_bind (HT.sliceApplied_gen hs pl pu ?_)
 rw [hw.1, hw.2]
 have hyes : ((((0 : Nat) : Int) == 0 && (1 : Int) == 1 && (items.size - 0) == items.size) = true) := by simp
 show wpAny _ _ (if ((((0 : Nat) : Int) == 0 && (1 : Int) == 1 && (items.size - 0) == items.size) = true) then _ else _) _ _ s
 rw [if_pos hyes]
 unfold Builtin.Tuple.tupleIsExact
 refine wpAny_bind (wpAny_bind (wpAny_typeOf ht.typeIs (wpAny_pure ?_)))
 rw [if_pos (by decide)]
 refine wpAny_bind (wpAny_rule ?_)
 first
  | exact wpAny_pure ⟨_, rfl, wpAny_pure h⟩
  | exact wpAny_bind (wpAny_pure (wpAny_pure ⟨_, rfl, wpAny_pure h⟩))
def ZMD (K : PySem.W.Frag) : V → Option Int → Option Int → Hp → VK → Prop := fun x lo hi H Q => ∃ a xs, x = .ref a ∧ SqT K H a xs ∧
 ((HT.sIx xs.length 0 lo = 0 ∧ HT.sIx xs.length xs.length hi = xs.length) → Q (.ref a) H) ∧ (¬ (HT.sIx xs.length 0 lo = 0 ∧ HT.sIx xs.length xs.length hi = xs.length) → ∀ p, H p = none → Q (.ref p) (upd H p (.tup (JT xs lo hi))))
theorem ZOq {X : Cx} (K : PySem.W.Frag) (hK : X.K = K) : SlR X (ZMD K) := by
 subst hK
 intro pins s σ H x v vl vu lo hi sl Q I rx hs pl pu h
 obtain ⟨a, xs, rfl, hx, q1, q2⟩ := h
 by_cases hw : HT.sIx xs.length 0 lo = 0 ∧ HT.sIx xs.length xs.length hi = xs.length
 ·cases rx
  obtain ⟨its, r, ht, hz⟩ := I.tuple hx
  have hlen : its.toArray.size = xs.length := by rw [List.size_toArray]; exact r.length.symm
  refine ⟨"tuple", _, PyProof.Rows.slot_tuple_getitem.lookup, ht.typeIs, ?_⟩
  exact ZDL ht hs pl pu (by rw [hlen]; exact hw) ⟨.ref a, H, I, rfl, q1 hw⟩
 ·exact ZQS pins s σ H (.ref a) v vl vu lo hi sl Q I rx hs pl pu ⟨a, xs, rfl, hx, hw, q2 hw⟩
theorem ZKA {xs : List V} {lo hi : Option Int} (h : HT.sIx xs.length 0 lo = 0 ∧ HT.sIx xs.length xs.length hi = xs.length) : JT xs lo hi = xs := by
 unfold JT
 rw [h.1, h.2]
 simp
section
variable {X : Cx} {pos pos' : Pos} {e : Expr} {te : TE}
theorem ZSm {op : Operator} {r : R2} (ho : OpR X (inplaceOp op) r) : PIp X op r := ho
theorem ZGW {i : Nat} {x : Str} {op : Operator} {r : R2} (hN : X.N.Nodup) (hi : X.N[i]? = some x) (hx : Loc X.env.scope x) (ho : OpR X (inplaceOp op) r) (he : QE X e te) (hf : X.fn x = true ∨ X.env.scope.names.lookup x = some .local := by first | exact .inl rfl | exact .inr rfl | assumption) :
 QS X (.AugAssign (.Name x pos') op e pos) (ZLJ i te r) := ⟨ZQD hN hi hx he.h (ZSm ho) hf⟩
theorem ZRB {i : Nat} {r : R2} {D : Z8} {σ : St} {H : Hp} {x : V} (e1 : σ[i]? = some (some x)) (h : te σ H fun y H1 => r x y H1 fun z H2 => D.nx (σ.set i (some z)) H2) : ZLJ i te r D σ H := ⟨x, e1, h⟩
end
def ZNa (Pv : St → Hp → Prop) (μ : St → Hp → Nat) (tb : TS) (D : Z8) (n : Nat) (σ : St) (H : Hp) : Prop :=
 ∃ N : St → Hp → Prop, (∀ σ' H', N σ' H' → ∃ m', m' < n ∧ m' = μ σ' H' ∧ Pv σ' H') ∧ tb { D with nx := N, ct := N, bk := D.nx } σ H
theorem ZGX {c : TT} {tb : TS} {D : Z8} {σ : St} {H : Hp} (Pv : St → Hp → Prop) (μ : St → Hp → Nat) (h0 : Pv σ H)
  (hs : ∀ σ H, Pv σ H → c σ H fun b H1 => if b = true then ZNa Pv μ tb D (μ σ H) σ H1 else D.nx σ H1) : ZFz c tb D σ H := by
 refine ⟨fun m σ H => m = μ σ H ∧ Pv σ H, ⟨_, rfl, h0⟩, ?_⟩
 rintro m σ H ⟨rfl, p⟩
 exact hs σ H p
theorem ZH3 {Pv : St → Hp → Prop} {μ : St → Hp → Nat} {tb : TS} {D : Z8} {n : Nat} {σ : St} {H : Hp} (h : tb { D with nx := fun σ' H' => Pv σ' H' ∧ μ σ' H' < n, ct := fun σ' H' => Pv σ' H' ∧ μ σ' H' < n, bk := D.nx } σ H) : ZNa Pv μ tb D n σ H :=
 ⟨_, fun σ' H' ⟨p, l⟩ => ⟨_, l, rfl, p⟩, h⟩
end L2
set_option Elab.async false
set_option linter.all false
set_option maxRecDepth 100000
set_option maxHeartbeats 4000000
namespace L2
open PySem PySem.Spec PyProof.Rows
section
variable {K : PySem.W.Frag} {H : Hp} {Q : VK} {a b : Addr} {vs ws : List V} {l m : List (Int × Int)}
end
theorem ZK.kpN {H H1 H2 : Hp} {l : Addr} (s : ZK H H1) (hl : H l = none) (k : Kp l H1 H2) : ZK H H2 := fun q o e => k q o (s q o e) (ZY e hl)
theorem ZI.kpL {p : Addr} {H H' : Hp} (k : Kp p H H') {xs : List V} (hp : H p = some (.lst xs)) {vs : List V} {l : List (Int × Int)} (h : ZI H vs l) : ZI H' vs l := ZI.kp k (n := 0) hp h
theorem ZI.kpD {p : Addr} {H H' : Hp} (k : Kp p H H') {kvs : List (Key × V)} (hp : H p = some (.dK kvs)) : ∀ {vs : List V} {l : List (Int × Int)}, ZI H vs l → ZI H' vs l
 | _, _, .nil => .nil
 | _, _, .cons ⟨a, e, z⟩ t => .cons ⟨a, e, k _ _ z (fun c => by subst c; rw [hp] at z; cases z)⟩ (ZI.kpD k hp t)
theorem ZI.app {H : Hp} : ∀ {vs : List V} {l : List (Int × Int)}, ZI H vs l → ∀ {ws : List V} {m : List (Int × Int)}, ZI H ws m → ZI H (vs ++ ws) (l ++ m)
 | _, _, .nil, _, _, h => h
 | _, _, .cons h t, _, _, g => .cons h (ZI.app t g)
theorem ZI.drop {H : Hp} : ∀ {vs : List V} {l : List (Int × Int)} (n : Nat), ZI H vs l → ZI H (vs.drop n) (l.drop n)
 | _, _, 0, h => h
 | _, _, _ + 1, .nil => .nil
 | _, _, n + 1, .cons _ t => ZI.drop n t
theorem ZI.take {H : Hp} : ∀ {vs : List V} {l : List (Int × Int)} (n : Nat), ZI H vs l → ZI H (vs.take n) (l.take n)
 | _, _, 0, _ => .nil
 | _, _, _ + 1, .nil => .nil
 | _, _, n + 1, .cons h t => .cons h (ZI.take n t)
theorem ZI.rev {H : Hp} : ∀ {vs : List V} {l : List (Int × Int)}, ZI H vs l → ZI H vs.reverse l.reverse
 | _, _, .nil => .nil
 | _, _, .cons h t => by
  rw [List.reverse_cons, List.reverse_cons]
  exact ZI.app (ZI.rev t) (.cons h .nil)
theorem Pot.ne_tup {H : Hp} {p l : Addr} {xs : List V} (h : Pot H p) (hl : H l = some (.tup xs)) : l ≠ p := by
 obtain ⟨x, y, h, r⟩ := h
 intro e; subst e; rw [h] at hl; cases hl
theorem ZI.pot {p : Addr} {H H' : Hp} (k : Kp p H H') (hp : Pot H p) {vs : List V} {l : List (Int × Int)} (h : ZI H vs l) : ZI H' vs l := by
 obtain ⟨x, y, e, _⟩ := hp
 exact ZI.kpL k e h
theorem SqT.kp {K : PySem.W.Frag} {p : Addr} {H H' : Hp} {a : Addr} {xs : List V} (k : Kp p H H') (hp : Pot H p) (h : SqT K H a xs) : SqT K H' a xs := by
 obtain ⟨x, y, hpp, _⟩ := hp
 rcases h with (h | ⟨o, h⟩) | h
 ·exact .inl (.inl (k _ _ h (fun e => by subst e; rw [hpp] at h; cases h)))
 ·exact .inl (.inr ⟨o, k _ _ h (fun e => by subst e; rw [hpp] at h; cases h)⟩)
 ·exact .inr h
end L2
set_option Elab.async false
set_option linter.all false
set_option maxRecDepth 100000
set_option maxHeartbeats 4000000
namespace L2
open PySem PySem.Spec PyProof.Rows
section
variable {K : PySem.W.Frag} {H H' : Hp} {Q : VK} {a b : Addr} {xs ys : List V} {cv l m : List (Int × Int)}
theorem ZKB {lo hi : Option Int} (h1 : H a = some (.tup xs)) (h : ∀ p H2, H2 p = some (.tup (JT xs lo hi)) → ZK H H2 → Q (.ref p) H2) : ZMD K (.ref a) lo hi H Q :=
 ⟨a, xs, rfl, SqT.of h1, fun e => h a H (by rw [ZKA e]; exact h1) (ZK.refl H), fun _ p hp => h p _ ZS (ZK.new hp)⟩
def PrT (H : Hp) (a : Addr) (cv : List (Int × Int)) : Prop := ∃ vs, H a = some (.tup vs) ∧ ZI H vs cv
def PrL (H : Hp) (a : Addr) (cv : List (Int × Int)) : Prop := ∃ vs, H a = some (.lst vs) ∧ ZI H vs cv
theorem PrT.same (h : PrT H a cv) (s : ZK H H') : PrT H' a cv := by
 obtain ⟨vs, h1, h2⟩ := h
 exact ⟨vs, s _ _ h1, h2.same s⟩
theorem PrL.same (h : PrL H a cv) (s : ZK H H') : PrL H' a cv := by
 obtain ⟨vs, h1, h2⟩ := h
 exact ⟨vs, s _ _ h1, h2.same s⟩
theorem PrT.pot {p : Addr} (h : PrT H a cv) (hp : Pot H p) (k : Kp p H H') : PrT H' a cv := by
 obtain ⟨vs, h1, h2⟩ := h
 exact ⟨vs, k _ _ h1 (hp.ne_tup h1), h2.pot k hp⟩
theorem PrL.pot {p : Addr} (h : PrL H a cv) (hp : Pot H p) (hne : a ≠ p) (k : Kp p H H') : PrL H' a cv := by
 obtain ⟨vs, h1, h2⟩ := h
 exact ⟨vs, k _ _ h1 hne, h2.pot k hp⟩
theorem PrT.len (h : PrT H a cv) {xs : List V} (e : H a = some (.tup xs)) : xs.length = cv.length := by
 obtain ⟨vs, h1, h2⟩ := h
 rw [h1] at e
 cases e
 exact h2.length
def ZIq (l : List (Int × Int)) (lo hi : Option Int) : List (Int × Int) := (l.drop (HT.sIx l.length 0 lo)).take (HT.sIx l.length l.length hi - HT.sIx l.length 0 lo)
theorem ZI.cut {vs : List V} {lo hi : Option Int} (h : ZI H vs l) : ZI H (JT vs lo hi) (ZIq l lo hi) := by
 unfold JT ZIq
 rw [h.length]
 exact (h.drop _).take _
theorem PrT.sl {lo hi : Option Int} (h1 : PrT H a l) (h : ∀ p H2, PrT H2 p (ZIq l lo hi) → ZK H H2 → Q (.ref p) H2) : ZMD K (.ref a) lo hi H Q := by
 obtain ⟨vs, g1, p1⟩ := h1
 exact ZKB g1 fun p H2 f2 S2 => h p H2 ⟨_, f2, (p1.cut).same S2⟩ S2
theorem PrL.sl {lo hi : Option Int} (h1 : PrL H a l) (h : ∀ p H2, H p = none → PrL H2 p (ZIq l lo hi) → ZK H H2 → Q (.ref p) H2) : ZIb K (.ref a) lo hi H Q := by
 obtain ⟨vs, g1, p1⟩ := h1
 exact ZJy (SqL.of g1) fun p H2 n2 f2 S2 => h p H2 n2 ⟨_, f2, (p1.cut).same S2⟩ S2
end
end L2
set_option Elab.async false
set_option linter.all false
set_option maxRecDepth 100000
set_option maxHeartbeats 4000000
namespace L2
open PySem PySem.Spec PyProof.Rows
section
variable {X : Cx}
end
end L2
set_option Elab.async false
set_option linter.all false
set_option maxRecDepth 100000
set_option maxHeartbeats 4000000
namespace L2
open PySem PySem.Spec PyProof.Rows
section
variable {K : PySem.W.Frag} {H H' : Hp} {a p l : Addr} {cv : List (Int × Int)} {xs : List V}
theorem Pot.kp (h : Pot H p) (k : Kp l H H') (n : p ≠ l) : Pot H' p := by
 obtain ⟨x, y, h, r⟩ := h
 exact ⟨x, y, k _ _ h n, r⟩
theorem PrT.kpL (h : PrT H a cv) (k : Kp l H H') (hl : H l = some (.lst xs)) : PrT H' a cv := by
 obtain ⟨vs, h1, h2⟩ := h
 exact ⟨vs, k _ _ h1 (fun e => by subst e; rw [h1] at hl; cases hl), h2.kpL k hl⟩
theorem PrL.kpL (h : PrL H a cv) (k : Kp l H H') (hl : H l = some (.lst xs)) (hne : a ≠ l) : PrL H' a cv := by
 obtain ⟨vs, h1, h2⟩ := h
 exact ⟨vs, k _ _ h1 hne, h2.kpL k hl⟩
end
end L2
set_option Elab.async false
set_option linter.all false
set_option maxRecDepth 100000
set_option maxHeartbeats 4000000
namespace L2
open PySem PySem.Spec PyProof.Rows
section
variable {X : Cx} {e st : Expr} {te : TE} {pos p2 : Pos}
def ZNb (K : PySem.W.Frag) : V → Hp → VK → Prop := fun x H Q => ∃ a xs, x = .ref a ∧ SqL K H a xs ∧ ∀ p, H p = none → Q (.ref p) (upd H p (.lst xs.reverse))
def ZNc (K : PySem.W.Frag) : V → Hp → VK → Prop := fun x H Q => ∃ a xs, x = .ref a ∧ SqT K H a xs ∧ ∀ p, H p = none → Q (.ref p) (upd H p (.tup xs.reverse))
end
section
variable {K : PySem.W.Frag} {H : Hp} {Q : VK} {a : Addr} {xs : List V} {l : List (Int × Int)}
theorem ZOr (h1 : SqL K H a xs) (h : ∀ p H2, H p = none → H2 p = some (.lst xs.reverse) → ZK H H2 → Q (.ref p) H2) : ZNb K (.ref a) H Q := ⟨a, xs, rfl, h1, fun p hp => h p _ hp ZS (ZK.new hp)⟩
theorem ZOs (h1 : SqT K H a xs) (h : ∀ p H2, H p = none → H2 p = some (.tup xs.reverse) → ZK H H2 → Q (.ref p) H2) : ZNc K (.ref a) H Q := ⟨a, xs, rfl, h1, fun p hp => h p _ hp ZS (ZK.new hp)⟩
theorem PrL.rev (h1 : PrL H a l) (h : ∀ p H2, H p = none → PrL H2 p l.reverse → ZK H H2 → Q (.ref p) H2) : ZNb K (.ref a) H Q := by
 obtain ⟨vs, g, p1⟩ := h1
 exact ZOr (SqL.of g) fun p H2 n2 f2 S2 => h p H2 n2 ⟨_, f2, (p1.rev).same S2⟩ S2
theorem PrT.rev (h1 : PrT H a l) (h : ∀ p H2, H p = none → PrT H2 p l.reverse → ZK H H2 → Q (.ref p) H2) : ZNc K (.ref a) H Q := by
 obtain ⟨vs, g, p1⟩ := h1
 exact ZOs (SqT.of g) fun p H2 n2 f2 S2 => h p H2 n2 ⟨_, f2, (p1.rev).same S2⟩ S2
end
def Itd (lo : Int) (n : Nat) : It := ⟨fun i _ => i < n, fun i H x H' => H' = H ∧ x = .int (lo + i * (-1)), fun i _ => n ≤ i⟩
section
variable {X : Cx} {tg : Expr}
def ZNd (vs : List V) (H : Hp) (R : It → Hp → Prop) : Prop := ∃ i j : Int, vs = [.int i, .int j, .int (-1)] ∧ (-(2 ^ 62) ≤ i ∧ i < 2 ^ 62 ∧ -(2 ^ 62) ≤ j ∧ j < 2 ^ 62) ∧ R (Itd i (i - j).toNat) H
def ZSA (ta : TA) : TI := fun σ H R => ta σ H fun vs H1 => ZNd vs H1 R
end
section
variable {σ : St} {H : Hp}
theorem ZOt {ta : TA} {R : It → Hp → Prop} (h : ta σ H fun vs H1 => ZNd vs H1 R) : ZSA ta σ H R := h
end
theorem J7 (a b : Str) : (a ++ b).length = a.length + b.length := by
 show (a.cps ++ b.cps).size = a.cps.size + b.cps.size
 exact Array.size_append
section
variable {X : Cx}
theorem Ye {H : Hp} {Q : VK} {i j : Str} (h : Q (.bl (decide (i = j))) H) : rEq (.str i) (.str j) H Q := ⟨rfl, by
 have : decide (V.str i = V.str j) = decide (i = j) := by
  by_cases e : i = j
  ·subst e; simp
  ·rw [decide_eq_false e, decide_eq_false (fun z => e (V.str.inj z))]
 rw [this]; exact h⟩
theorem ZKC {T : String} {name : Str} {id : String} {r : V → List V → Hp → VK → Prop} {apos cpos : Pos} {o : Expr} {to : TE} (pa : PlainAttrs T) (slot : Slot T name id) (hty : typeOf (.builtin id) = pure (.type "method_descriptor")) (hm : MtR X id r) (ho : QE X o to)
 (hbase : attributeBase o name X.env (eval o X.env) = eval o X.env := by rfl) (hline : (apos.endLine == cpos.line) = true := by rfl) : QE X (.Call (.Attribute o name apos) [] [] cpos) (ZLh X.K T r to) := ⟨ZQV pa slot hty hm ho.h hbase hline⟩
theorem ZRC {K : PySem.W.Frag} {T : String} {r : V → List V → Hp → VK → Prop} {to : TE} {σ : St} {H : Hp} {Q : VK} (h : to σ H fun x H1 => tyV K T x H1 ∧ r x [] H1 Q) : ZLh K T r to σ H Q := h
end
end L2
set_option Elab.async false
set_option linter.all false
set_option maxRecDepth 100000
set_option maxHeartbeats 4000000
namespace L2
open PySem PySem.Spec PyProof.Rows
def ZRD (K : PySem.W.Frag) (x : V) (H : Hp) (R : It → Hp → Prop) : Prop := (∃ a, x = .ref a ∧ (∃ xs, SqL K H a xs) ∧ R (Itl K a) H) ∨ (∃ a, x = .ref a ∧ (∃ xs, SqT K H a xs) ∧ R (Itt K a) H)
def ZSn (K : PySem.W.Frag) (tl : TE) : TI := fun σ H R => tl σ H fun x H1 => ZRD K x H1 R
section
variable {K : PySem.W.Frag} {σ : St} {H : Hp} {D : Z8}
theorem ZOu {tl : TE} {R : It → Hp → Prop} (h : tl σ H fun x H1 => ZRD K x H1 R) : ZSn K tl σ H R := h
end
end L2
set_option Elab.async false
set_option linter.all false
set_option maxRecDepth 100000
set_option maxHeartbeats 4000000
namespace L2
open PySem PySem.Spec PyProof.Rows
section
variable {X : Cx} {pos : Pos}
def ZRE (i j : Nat) (vs : List V) (D : Z8) (σ : St) (H : Hp) : Prop := ∃ v w, vs = [v, w] ∧ D.nx ((σ.set i (some v)).set j (some w)) H
theorem ZOv {i j : Nat} {ta : TA} {D : Z8} {σ : St} {H : Hp} (h : ta σ H fun vs H1 => ZRE i j vs D σ H1) : ZSZ i j ta D σ H := h
theorem ZRF {i j : Nat} {v w : V} {D : Z8} {σ : St} {H : Hp} (h : D.nx ((σ.set i (some v)).set j (some w)) H) : ZRE i j [v, w] D σ H := ⟨v, w, rfl, h⟩
end
end L2
set_option Elab.async false
set_option linter.all false
set_option maxRecDepth 100000
set_option maxHeartbeats 4000000
namespace L2
open PySem PySem.Spec PyProof.Rows PySem.W
def YT (n : Nat) {α : Type} : KasT α → (α → Prop) → Prop
 | .ret a, R => R a
 | .ask i j k, R => i < n ∧ j < n ∧ ∀ b, YT n (k b) R
theorem YT.bind {n : Nat} {α β : Type} {f : α → KasT β} {R : α → Prop} {R' : β → Prop} (h : ∀ a, R a → YT n (f a) R') : ∀ t : KasT α, YT n t R → YT n (t.bind f) R'
 | .ret a, g => h a g
 | .ask i j k, g => ⟨g.1, g.2.1, fun b => YT.bind h (k b) (g.2.2 b)⟩
theorem ZKD {n : Nat} {cmp : Nat → Nat → (Bool → Shared → Prop) → Shared → Prop} {c : Nat → Nat → Bool} {s : Shared} (hc : ∀ i j C, i < n → j < n → C (c i j) s → cmp i j C s) {α : Type} {Q : α → Shared → Prop} {R : α → Prop} : ∀ t : KasT α, YT n t R → Q (evT c t) s → t.kasWp cmp Q s
 | .ret _, _, h => h
 | .ask i j k, g, h => hc i j _ g.1 g.2.1 (ZKD hc (k (c i j)) (g.2.2 _) h)
section
variable {n : Nat}
def Inn (n : Nat) (p : Array Nat) : Prop := 0 < n ∧ ∀ v ∈ p.toList, v < n
theorem Inn.at {p : Array Nat} (h : Inn n p) (i : Nat) : p.getD i 0 < n := by
 by_cases hi : i < p.size
 ·have := Jx (p := p) hi
  exact h.2 _ (Array.mem_toList_iff.mpr (Array.mem_of_getElem? this))
 ·have : p.getD i 0 = 0 := by simp [Array.getD, hi]
  rw [this]
  exact h.1
theorem Inn.perm {p q : Array Nat} (h : Inn n p) (e : q.toList.Perm p.toList) : Inn n q := ⟨h.1, fun v hv => h.2 v (e.mem_iff.mp hv)⟩
theorem Inn.rev {p : Array Nat} (h : Inn n p) (i j : Nat) : Inn n (kas_rev p i j) := h.perm (ZF7 p i j)
theorem ZDk {p : Array Nat} (h : Inn n p) : ∀ f a, YT n (kas_asc p f a) (fun _ => True)
 | 0, _ => trivial
 | f + 1, a => ⟨h.at _, h.at _, fun b => by
  cases b with
  | true => exact trivial
  | false => exact ZDk h f (a + 1)⟩
theorem ZBL : ∀ (f : Nat) {p : Array Nat} (a q : Nat), Inn n p → YT n (kas_desc f p a q) (fun r => Inn n r.1)
 | 0, _, _, _, h => h
 | f + 1, p, a, q, h => ⟨h.at _, h.at _, fun b => by
  cases b with
  | true =>
   show YT n (if q > 0 then kas_desc f (kas_rev p (a - (q + 1)) a) (a + 1) 0 else kas_desc f p (a + 1) 0) _
   split
   ·exact ZBL f _ _ (h.rev _ _)
   ·exact ZBL f _ _ h
  | false =>
   refine ⟨h.at _, h.at _, fun d => ?_⟩
   cases d with
   | true => exact h
   | false => exact ZBL f _ _ h⟩
theorem ZE9 {p : Array Nat} (h : Inn n p) (m k : Nat) : YT n (kas_tail3 m k p) (fun r => Inn n r.2) := by
 unfold kas_tail3
 refine YT.bind (R := fun _ => True) (fun a _ => ?_) _ (ZDk (h.rev _ _) _ _)
 exact h.rev _ _
theorem ZEO {p : Array Nat} (h : Inn n p) (m k : Nat) : YT n (kas_descPart m k p) (fun r => Inn n r.2) := by
 refine YT.bind (R := fun r => Inn n r.1) (fun r hr => ?_) _ (ZBL _ _ _ h)
 show YT n (if r.2.2 > 0 then _ else _) _
 split
 ·exact ZE9 (hr.rev _ _) _ _
 ·exact ZE9 hr _ _
theorem ZIr {p : Array Nat} (h : Inn n p) (k : Nat) : YT n (kas_count k p) (fun r => Inn n r.2) := by
 refine YT.bind (R := fun _ => True) (fun m _ => ?_) _ (ZDk h _ _)
 show YT n (if (m == k) = true then _ else _) _
 split
 ·exact h
 ·split
  ·refine ⟨h.at _, h.at _, fun b => ?_⟩
   cases b with
   | true => exact h
   | false => exact ZEO (h.rev _ _) _ _
  ·exact ZEO h _ _
theorem ZCE {p : Array Nat} (h : Inn n p) (k : Nat) : ∀ f l r, YT n (kas_place p k f l r) (fun _ => True)
 | 0, _, _ => trivial
 | f + 1, l, r => by
  show YT n (if l ≥ r then _ else _) _
  split
  ·exact trivial
  ·refine ⟨h.at _, h.at _, fun b => ?_⟩
   cases b with
   | true => exact ZCE h k f _ _
   | false => exact ZCE h k f _ _
theorem ZGY : ∀ (f : Nat) {p : Array Nat} (k : Nat), Inn n p → YT n (kas_bin f p k) (fun _ => True)
 | 0, _, _, _ => trivial
 | f + 1, p, k, h => YT.bind (R := fun _ => True) (fun l _ => ZGY f _ (h.perm (Array.perm_iff_toList_perm.mp (bubble_perm p k _)))) _ (ZCE h k _ _ _)
theorem ZKE (hn : 0 < n) : YT n (kas_sort n) (fun _ => True) := by
 have h : Inn n (List.toArray (List.range n)) := ⟨hn, fun v hv => by simpa using hv⟩
 refine YT.bind (R := fun r => Inn n r.2) (fun r hr => ?_) _ (ZIr h _)
 show YT n (if r.1 < n then _ else _) _
 split
 ·exact ZGY _ _ hr
 ·exact trivial
end
def ltP (p q : Int × Int) : Bool := decide (p.1 < q.1) || (decide (p.1 = q.1) && decide (p.2 < q.2))
theorem Yc {p q : Int × Int} : ltP p q = true ↔ p.1 < q.1 ∨ (p.1 = q.1 ∧ p.2 < q.2) := by simp [ltP]
theorem YX {p q : Int × Int} : ltP p q = false ↔ ¬ (p.1 < q.1 ∨ (p.1 = q.1 ∧ p.2 < q.2)) := by
 rw [← Yc]; simp
def ZFu (h : Heap) (a : Addr) (v : Value) (p : Int × Int) : Prop := ∃ b t u, v = .ref b ∧ b ≠ a ∧ IsTup h b #[.int p.1 t, .int p.2 u]
def Jo (h : Heap) (a : Addr) (vs : List Value) (l : List (Int × Int)) : Prop := Paired (ZFu h a) vs l
theorem Jo.get {h : Heap} {a : Addr} : ∀ {vs : List Value} {l : List (Int × Int)}, Jo h a vs l → ∀ {i : Nat}, i < l.length → ZFu h a (vs.getD i .none) (l.getD i (0, 0))
 | _, _, .nil, i, hi => absurd hi (Nat.not_lt_zero _)
 | _, _, .cons g t, 0, _ => g
 | _, _, .cons g t, i + 1, hi => by
  have := Jo.get t (i := i) (by simpa using hi)
  simpa using this
theorem Jo.katT {h : Heap} {a : Addr} : ∀ {vs : List Value} {l : List (Int × Int)}, Jo h a vs l → ∃ fs, KatTups h vs fs ∧ fs.length = vs.length ∧ ∀ v ∈ fs, ∃ x t, v = .int x t
 | _, _, .nil => ⟨[], .nil, rfl, fun v hv => by cases hv⟩
 | _, _, @Paired.cons _ _ _ v p _ _ ⟨b, t, u, e, _, o, ho, hc, k, hd⟩ r => by
  obtain ⟨fs, h1, h2, h3⟩ := Jo.katT r
  subst e
  refine ⟨.int p.1 t :: fs, .cons ho hc hd rfl h1, by simp [h2], fun v hv => ?_⟩
  rcases List.mem_cons.mp hv with rfl | hv
  ·exact ⟨_, _, rfl⟩
  ·exact h3 v hv
section
variable {prog : Program} {w : World} {A : Around} {E : Value → Shared → Prop} {s : Shared}
theorem ZHU {a : Addr} {v v' : Value} {p q : Int × Int} {C : Bool → Shared → Prop} (hp : ZFu s.heap a v p) (hq : ZFu s.heap a v' q) (h : C (ltP p q) s) : wpAny (model prog w) A (keyLt' (tuples' true) v v') C E s := by
 obtain ⟨b, t, u, rfl, _, o, ho, hc, k, hd⟩ := hp
 obtain ⟨b', t', u', rfl, _, o', ho', hc', k', hd'⟩ := hq
 refine kat_lt ho hd ho' hd' ?_
 refine kat_cons (wpAny_eqBool_int ?_)
 by_cases e1 : p.1 = q.1
 ·rw [show (p.1 == q.1) = true by simp [e1]]
  refine kat_yes (kat_cons (wpAny_eqBool_int ?_))
  by_cases e2 : p.2 = q.2
  ·rw [show (p.2 == q.2) = true by simp [e2]]
   refine kat_yes (kat_nil ?_)
   have : ltP p q = false := by rw [YX]; omega
   rw [this] at h
   exact h
  ·rw [show (p.2 == q.2) = false by simp [e2]]
   refine kat_no (kat_one _ _ (lt_int ?_))
   have : ltP p q = decide (p.2 < q.2) := by simp [ltP, e1]
   rw [this] at h
   exact h
 ·rw [show (p.1 == q.1) = false by simp [e1]]
  refine kat_no (oneLt_int ?_)
  have : ltP p q = decide (p.1 < q.1) := by simp [ltP, e1]
  rw [this] at h
  exact h
theorem ZEP {a : Addr} {vs : List Value} {l : List (Int × Int)} {n : Nat} {P : Fin → Shared → Prop} (ho : s.heap.get? a = some (seqObj "list" vs.toArray n))
  (hT : Jo s.heap a vs l) (hd : l.Nodup) (h64 : vs.length < 64)
  (h : ∀ (ix : List Nat), ix.Perm (List.range vs.length) → (ix.map fun i => l.getD i (0, 0)).Pairwise (fun p q => ltP p q = true) → P (.done (.ret .none)) { s with heap := sortedHeap s.heap a vs (ix.map fun i => vs.getD i Value.none).toArray }) :
  wpAny (model prog w) A (Builtin.«list.sort» ⟨[.ref a], []⟩) P E s := by
 have hlen : vs.length = l.length := Paired.length hT
 have ha : a < s.heap.objs.size := Heap.lt_size ho
 rw [list_sort_plain]
 refine wpAny_bind (listItems_at ho rfl ?_)
 refine wpAny_bind (listUpdate_at ho rfl ?_ (by rw [List.size_toArray, sizeLine_eq]; omega) (Nat.zero_le _))
 obtain ⟨e1, ho1⟩ : ∃ e1, (s.heap.update a (Obj.mapSeq fun _ => (#[] : Array Value))).get? a = some (seqObj "list" #[] e1) := ⟨_, get?_update_seq ho fun _ => #[]⟩
 refine wpAny_bind (seqEpoch_at ho1 rfl ?_)
 refine wpAny_bind (wpAny_newTuple ?_ (by show vs.length ≤ _; rw [sizeLine_eq]; omega))
 refine wpAny_bind (wpAny_newList ?_ (Nat.zero_le _))
 refine wpAny_holding ?_
 generalize hh : (((s.heap.update a (Obj.mapSeq fun _ => (#[] : Array Value))).push (seqObj "tuple" vs.toArray 0)).push (seqObj "list" #[] 0)) = h3
 have ho3 : h3.get? a = some (seqObj "list" #[] e1) := by rw [← hh]; exact Heap.get?_push_of_some _ (Heap.get?_push_of_some _ ho1)
 have keep : ∀ b o, b ≠ a → s.heap.get? b = some o → h3.get? b = some o := fun b o hb e => by
  rw [← hh]
  exact Heap.get?_push_of_some _ (Heap.get?_push_of_some _ ((Heap.get?_update_other _ _ (Ne.symm hb)).trans e))
 have hT3 : Jo h3 a vs l := Paired.mapP hT fun v p ⟨b, t, u, e, hb, o, hx, r⟩ => ⟨b, t, u, e, hb, o, keep b o hb hx, r⟩
 have done : ∀ (ix : List Nat), ix.Perm (List.range vs.length) → (ix.map fun i => l.getD i (0, 0)).Pairwise (fun p q => ltP p q = true) →
   P (.done (.ret .none)) { s with heap := h3.update a (Obj.mapSeq fun _ => (ix.map fun i => vs.getD i Value.none).toArray) } := fun ix hp hs => by
  have := h ix hp hs
  unfold sortedHeap at this
  rw [hh] at this
  exact this
 show wpAny (model prog w) A _ P E { s with heap := h3 }
 dsimp only
 by_cases h2 : vs.toArray.size < 2
 ·rw [if_pos h2, if_pos h2]
  refine wpAny_bind (wpAny_pure ?_)
  have hsmall : (List.range vs.length).map (fun i => vs.getD i Value.none) = vs := by
   rw [List.size_toArray] at h2
   match vs, h2 with
   | [], _ => rfl
   | [v], _ => rfl
  have hpw : ((List.range vs.length).map fun i => l.getD i (0, 0)).Pairwise (fun p q => ltP p q = true) := by
   rw [List.size_toArray] at h2
   match vs, h2 with
   | [], _ => exact List.Pairwise.nil
   | [v], _ => exact List.pairwise_singleton _ _
  have D := done (List.range vs.length) (List.Perm.refl _) hpw
  rw [hsmall] at D
  show wpAny (model prog w) A ((pure () : StateT SortSt Sem Unit).run (SortSt.mk' general' (vs.toArray.zip vs.toArray) #[] 7 none) >>= _) P E { s with heap := h3 }
  rw [StateT.run_pure]
  refine wpAny_bind (wpAny_pure ?_)
  dsimp only
  have hout : ((arrOf (SortSt.mk' general' (vs.toArray.zip vs.toArray) #[] 7 none)).map (·.2)) = vs.toArray := by
   show ((vs.toArray.zip vs.toArray).map (·.2)) = vs.toArray
   apply Array.toList_inj.mp
   rw [Array.toList_map, Array.toList_zip]
   exact List.map_snd_zip (Nat.le_refl _)
  rw [hout]
  refine wpAny_bind (seqEpoch_at (s := { s with heap := h3 }) ho3 rfl ?_)
  refine wpAny_bind (listUpdate_at (s := { s with heap := h3 }) ho3 rfl ?_ (Nat.zero_le _) (by rw [List.size_toArray, sizeLine_eq]; omega))
  simp only [bne_self_eq_false, Bool.false_eq_true, if_false]
  exact wpAny_pure D
 ·rw [if_neg h2, if_neg h2]
  have h2' : 2 ≤ vs.length := by rw [List.size_toArray] at h2; omega
  obtain ⟨fs, k1, k2, k3⟩ := hT3.katT
  refine wpAny_bind (kat_kind (T := .type "int") (s := { s with heap := h3 }) k1 (by omega) (fun v hv => ?_) (by decide) ?_)
  ·obtain ⟨x, t, rfl⟩ := k3 v hv
   exact Looks.of_pure rfl
  have hkk : tuples' (Value.type "int" != Value.type "tuple") = tuples' true := by
   have : (Value.type "int" != Value.type "tuple") = true := by decide
   rw [this]
  rw [hkk]
  let c : Nat → Nat → Bool := fun i j => ltP (l.getD i (0, 0)) (l.getD j (0, 0))
  have O : Ord c vs.length := by
   refine ⟨fun i j k h1 h2 => ?_, fun i j h1 => ?_, fun i j hi hj hne h1 => ?_⟩
   ·have h1 := Yc.mp h1
    have h2 := Yc.mp h2
    exact Yc.mpr (by omega)
   ·have h1 := Yc.mp h1
    exact YX.mpr (by omega)
   ·have h1 := YX.mp h1
    refine Yc.mpr ?_
    have hne2 : l.getD i (0, 0) ≠ l.getD j (0, 0) := by
     intro e
     have hi' : i < l.length := by omega
     have hj' : j < l.length := by omega
     have hpw := List.pairwise_iff_getElem.mp (List.nodup_iff_pairwise_ne.mp hd)
     have e1 : l.getD i (0, 0) = l[i] := by simp [hi']
     have e2 : l.getD j (0, 0) = l[j] := by simp [hj']
     rw [e1, e2] at e
     rcases Nat.lt_trichotomy i j with z | z | z
     ·exact hpw i j hi' hj' z e
     ·exact hne z
     ·exact hpw j i hj' hi' z e.symm
    have hne3 : ¬ ((l.getD i (0, 0)).1 = (l.getD j (0, 0)).1 ∧ (l.getD i (0, 0)).2 = (l.getD j (0, 0)).2) := fun z => hne2 (Prod.ext z.1 z.2)
    omega
  obtain ⟨S1, S2⟩ := ZOE O (by omega)
  refine wpAny_bind (wpAny_mono (kat_run (E := E) (vs := vs) (ks := vs) (Q := fun st' s' => s' = { s with heap := h3 } ∧ arrOf st' = (evT c (kas_sort vs.length)).map (kas_item (vs.toArray.zip vs.toArray)) ∧ failedOf st' = none)
   (G := fun p s' => s' = { s with heap := h3 } ∧ p = evT c (kas_sort vs.length)) rfl h2' h64 (fun p st' s' a1 a2 a3 a4 => ⟨a4.1, by rw [a2, a4.2], a3⟩)
   (ZKD (c := c) (n := vs.length) (fun i j C hi hj hC => ?_) _ (ZKE (by omega)) ⟨rfl, rfl⟩)) ?_ fun _ _ e => e)
  ·exact ZHU (hT3.get (by omega)) (hT3.get (by omega)) hC
  ·rintro ⟨⟨⟩, st'⟩ s' ⟨rfl, har, hf⟩
   dsimp only
   rw [kat_snds rfl har]
   have hperm : (evT c (kas_sort vs.length)).toList.Perm (List.range vs.length) := S1
   have hsz : (evT c (kas_sort vs.length)).size = vs.length := by have := S1.length_eq; simpa using this
   have hpw : ((evT c (kas_sort vs.length)).toList.map fun i => l.getD i (0, 0)).Pairwise (fun p q => ltP p q = true) := by
    rw [List.pairwise_map, List.pairwise_iff_getElem]
    intro i j hi hj hij
    have := S2 i j hij (by simp at hj; omega)
    have e1 : gt0 (evT c (kas_sort vs.length)) i = (evT c (kas_sort vs.length)).toList[i] := ZEI (by rw [← Array.getElem?_toList, List.getElem?_eq_getElem hi])
    have e2 : gt0 (evT c (kas_sort vs.length)) j = (evT c (kas_sort vs.length)).toList[j] := ZEI (by rw [← Array.getElem?_toList, List.getElem?_eq_getElem hj])
    rw [e1, e2] at this
    exact this
   refine wpAny_bind (seqEpoch_at (s := { s with heap := h3 }) ho3 rfl ?_)
   refine wpAny_bind (listUpdate_at (s := { s with heap := h3 }) ho3 rfl ?_ (Nat.zero_le _) ?_)
   ·rw [hf]
    simp only [bne_self_eq_false, Bool.false_eq_true, if_false]
    exact wpAny_pure (done _ hperm hpw)
   ·show (((evT c (kas_sort vs.length)).toList.map fun i => vs.getD i Value.none).toArray).size ≤ _
    rw [List.size_toArray, List.length_map, Array.length_toList, hsz, sizeLine_eq]
    omega
end
end L2
set_option Elab.async false
set_option linter.all false
set_option maxRecDepth 100000
set_option maxHeartbeats 4000000
namespace L2
open PySem PySem.Spec PyProof.Rows PySem.W
section
variable {X : Cx} {pins : List (Addr × Obj)} {σ : St} {H H' : Hp} {s : Shared} {h' : Heap}
theorem Inv.old (I : Inv X pins σ H s) {b : Addr} {o : HO} (e : H b = some o) : b < s.heap.objs.size := by
 by_cases h : b < s.heap.objs.size
 ·exact h
 ·rw [I.hok.fresh (Nat.le_of_not_lt h)] at e
  cases e
theorem Inv.many {t' : Nat} (I : Inv X pins σ H s) (k : ∀ b u, s.heap.get? b = some u → h'.get? b = some u) (hs : ∀ b, b < s.heap.objs.size → H' b = H b) (new : ∀ b o, s.heap.objs.size ≤ b → H' b = some o → Zz X.prog X.w H' h' b o) :
  Inv X pins σ H' { s with heap := h', toks := t' } := by
 have old : ∀ b o, H b = some o → H' b = some o := fun b o e => (hs b (I.old e)).trans e
 refine I.un ⟨fun b u q _ _ _ => k b u q, fun b u q _ _ _ => ⟨u.slots, k b u q⟩, fun b u q n _ => (hs b (Heap.lt_size q)).trans n, fun b u q _ => ⟨u, k b u q⟩, fun b xs q => old _ _ q, fun b u xs q => old _ _ q, fun b ps q => ⟨#[], by rw [old _ _ q]; simp⟩⟩ fun b u e => ?_
 by_cases hb : b < s.heap.objs.size
 ·rw [hs b hb] at e
  exact (I.hok b u e).stay (fun c v _ q => k c v q) (fun c q => old _ _ q) fun c xs q => old _ _ q
 ·exact new b u (Nat.le_of_not_lt hb) e
end
section
variable {X : Cx} {o : Expr} {to : TE} {apos cpos : Pos}
def ZGZ (to : TE) : (σ : St) → Hp → (Addr → List (Int × Int) → Hp → Prop) → Prop := fun σ H R => to σ H fun x H1 => ∃ a m, x = .ref a ∧ H1 a = some (.dK (Zj m)) ∧ R a m H1
end
theorem ZKF {α : Type} {l : List α} {d : α} {ix : List Nat} (h : ix.Perm (List.range l.length)) : (ix.map fun i => l.getD i d).Perm l := by
 have e : (List.range l.length).map (fun i => l.getD i d) = l := by
  apply List.ext_getElem
  ·simp
  ·intro i h1 h2
   simp at h1 ⊢
   rw [List.getElem?_eq_getElem h1]
   rfl
 have := h.map fun i => l.getD i d
 rw [e] at this
 exact this
def ZFA : Addr → List (Int × Int) → Hp → VK → Prop := fun a m H Q => m.Nodup ∧ m.length < 64 ∧
 ∀ (l : Addr) (vs : List V) (cv : List (Int × Int)) (H' : Hp), H l = none → H' l = some (.lst vs) → ZI H' vs cv → cv.Perm m → cv.Pairwise (fun p q => ltP p q = true) → ZK H H' → Q (.ref l) H'
section
variable {X : Cx} {o : Expr} {to : TE} {apos cpos pos p : Pos}
def ZKG (to : TE) : TE := fun σ H Q => ZGZ to σ H fun a m H1 => ZFA a m H1 Q
end
section
variable {σ : St} {H : Hp} {Q : VK} {to : TE}
def ZRG (x : V) (H : Hp) (Q : VK) : Prop := ∃ a m, x = .ref a ∧ H a = some (.dK (Zj m)) ∧ ZFA a m H Q
theorem ZGa (h : to σ H fun x H1 => ZRG x H1 Q) : ZKG to σ H Q := h
theorem ZCa {m : List (Int × Int)} (h : (m.map (·.1)).Nodup) : m.Nodup := by
 rw [List.nodup_iff_pairwise_ne, List.pairwise_map] at h
 exact List.nodup_iff_pairwise_ne.mpr (h.imp fun hab e => hab (by rw [e]))
end
end L2
set_option Elab.async false
set_option linter.all false
set_option maxRecDepth 100000
set_option maxHeartbeats 4000000
namespace L2
open PySem PySem.Spec PyProof.Rows PySem.W
section
variable {prog : Program} {w : World} {A : Around} {E : Value → Shared → Prop} {s : Shared}
end
end L2
set_option Elab.async false
set_option linter.all false
set_option maxRecDepth 100000
set_option maxHeartbeats 4000000
namespace L2
open PySem PySem.Spec PyProof.Rows PySem.W
section
variable {X : Cx} {pins : List (Addr × Obj)} {σ : St} {H H' : Hp} {s : Shared} {h' : Heap}
end
def SqB (b : Bool) (K : PySem.W.Frag) (H : Hp) (a : Addr) (xs : List V) : Prop := if b then SqL K H a xs else SqT K H a xs
theorem SqB.same {b : Bool} {K : PySem.W.Frag} {H H' : Hp} {a : Addr} {xs : List V} (h : SqB b K H a xs) (s : ZK H H') : SqB b K H' a xs := by
 cases b with
 | true => exact s.seq h
 | false => exact s.seqT h
def Itz (K : PySem.W.Frag) (b1 : Bool) (p1 : Addr) (b2 : Bool) (p2 : Addr) : It :=
 ⟨fun i H => ∃ xs ys, SqB b1 K H p1 xs ∧ SqB b2 K H p2 ys ∧ i < xs.length ∧ i < ys.length,
  fun i H x H' => ∃ T a b, H T = none ∧ x = .ref T ∧ H' = upd H T (.tup [a, b]) ∧ (∀ xs, SqB b1 K H p1 xs → xs[i]? = some a) ∧ ∀ ys, SqB b2 K H p2 ys → ys[i]? = some b,
  fun i H => ∃ xs ys, SqB b1 K H p1 xs ∧ SqB b2 K H p2 ys ∧ (xs.length ≤ i ∨ ys.length ≤ i)⟩
section
variable {X : Cx} {tg : Expr}
def ZRH (K : PySem.W.Frag) (vs : List V) (H : Hp) (R : It → Hp → Prop) : Prop := ∃ b1 b2 l1 l2 xs ys, vs = [.ref l1, .ref l2] ∧ SqB b1 K H l1 xs ∧ SqB b2 K H l2 ys ∧ R (Itz K b1 l1 b2 l2) H
def ZSo (K : PySem.W.Frag) (ta : TA) : TI := fun σ H R => ta σ H fun vs H1 => ZRH K vs H1 R
end
section
variable {K : PySem.W.Frag} {σ : St} {H : Hp} {D : Z8}
theorem ZOw {ta : TA} {R : It → Hp → Prop} (h : ta σ H fun vs H1 => ZRH K vs H1 R) : ZSo K ta σ H R := h
end
end L2
set_option Elab.async false
set_option linter.all false
set_option maxRecDepth 100000
set_option maxHeartbeats 4000000
namespace L2
open PySem PySem.Spec PyProof.Rows
section
variable {X : Cx}
end
def Bn (n : Nat) (x : Int) : Prop := x.natAbs < 2 ^ n
theorem Bn.mono {m n : Nat} {x : Int} (h : Bn m x) (hm : m ≤ n) : Bn n x := Nat.lt_of_lt_of_le h (Nat.pow_le_pow_right (by decide) hm)
theorem Bn.sub {n : Nat} {x y : Int} (h : Bn n x) (g : Bn n y) : Bn (n + 1) (x - y) := by
 unfold Bn at *
 have := Int.natAbs_sub_le x y
 rw [Nat.pow_succ]
 omega
theorem Bn.of {n : Nat} {x : Int} (h1 : -(2 ^ n) < x) (h2 : x < 2 ^ n) : Bn n x := by
 unfold Bn
 have e : ((2 ^ n : Nat) : Int) = (2 : Int) ^ n := by simp
 have : (x.natAbs : Int) < ((2 ^ n : Nat) : Int) := by rw [e]; omega
 exact Int.ofNat_lt.mp this
theorem Bn.lt {n : Nat} {x : Int} (h : Bn n x) : -(2 ^ n) < x ∧ x < 2 ^ n := by
 have e : ((2 ^ n : Nat) : Int) = (2 : Int) ^ n := by simp
 have : (x.natAbs : Int) < ((2 ^ n : Nat) : Int) := Int.ofNat_lt.mpr h
 rw [e] at this
 omega
theorem ZCn {m n : Nat} {x y : Int} (h : Bn m x) (g : Bn n y) (hm : m + n ≤ 8000) : IntMulOk x y := by
 have h1 : Builtin.Int.intBits x ≤ m := intBits_le h
 have h2 : Builtin.Int.intBits y ≤ n := intBits_le g
 unfold IntMulOk
 have : Builtin.Int.intTooBig ((Builtin.Int.intBits x : Int) + (Builtin.Int.intBits y : Int)) = false := by
  unfold Builtin.Int.intTooBig
  refine decide_eq_false ?_
  have hb : (8000 : Int) ≤ bitsLine := by decide
  omega
 rw [this]
 simp
end L2
set_option Elab.async false
set_option linter.all false
set_option maxRecDepth 100000
set_option maxHeartbeats 4000000
namespace L2
open PySem PySem.Spec PyProof.Rows
end L2
set_option Elab.async false
set_option linter.all false
set_option maxRecDepth 100000
set_option maxHeartbeats 4000000
namespace L2
open PySem PySem.Spec PyProof.Rows
section
variable {X : Cx}
end
theorem ZEk : ∀ (ts : List Str) (B : Nat), (∀ t ∈ ts, t.length ≤ B) → (Str.join ", " ts).length ≤ ts.length * (B + 2) := by
 intro ts B hB
 by_cases hne : ts = []
 ·subst hne
  rw [List.length_nil, Nat.zero_mul]
  exact Nat.le_of_eq rfl
 ·have h1 := PySem.join_length_add ts hne
  have h2 : piled ts ≤ ts.length * (B + 2) := by
   clear h1 hne
   induction ts with
   | nil => rw [List.length_nil, Nat.zero_mul, piled_nil]; exact Nat.le_refl _
   | cons t ts ih =>
    have := ih fun x hx => hB x (List.mem_cons_of_mem _ hx)
    have h3 := hB t List.mem_cons_self
    rw [List.length_cons, Nat.succ_mul]
    show piled (t :: ts) ≤ _
    rw [piled_cons]
    omega
  omega
theorem ZEl {i : Int} (h : Bn 1900 i) : ((PyData.int i).shown).length ≤ 1921 ∧ (PyData.int i).showable = true := by
 have hl : i.natAbs.log2 < 1920 := by
  by_cases z : i.natAbs = 0
  ·rw [z]; decide
  ·exact Nat.lt_of_lt_of_le ((Nat.log2_lt z).mpr h) (by decide)
 refine ⟨?_, ?_⟩
 ·rw [PyData.shown_int]
  exact int_text_len_1921 hl
 ·simp only [PyData.showable]
  exact decide_eq_true hl
theorem ZFB {xs : List PyData} {B : Nat} (h : ∀ x ∈ xs, x.shown.length ≤ B) : (PyData.tuple xs).shown.length ≤ xs.length * (B + 2) + 3 := by
 rw [PyData.shown_tuple, J7, J7]
 have h1 : (Str.join ", " (PyData.shownAll xs)).length ≤ xs.length * (B + 2) := by
  have := ZEk (PyData.shownAll xs) B (fun t ht => by
   have : ∀ ys : List PyData, (∀ y ∈ ys, y.shown.length ≤ B) → ∀ t ∈ PyData.shownAll ys, t.length ≤ B := by
    intro ys
    induction ys with
    | nil => intro _ t ht; rw [PyData.shownAll_nil] at ht; cases ht
    | cons y ys ih =>
     intro hy t ht
     rw [PyData.shownAll_cons] at ht
     rcases List.mem_cons.mp ht with rfl | ht
     ·exact hy y List.mem_cons_self
     ·exact ih (fun z hz => hy z (List.mem_cons_of_mem _ hz)) t ht
   exact this xs h t ht)
  rw [PyData.shownAll_length] at this
  exact this
 have h2 : (((if xs.length == 1 then ",)" else ")" : String)) : Str).length ≤ 2 := by split <;> decide
 have h3 : (("(" : Str)).length = 1 := rfl
 omega
theorem ZEm {xs : List PyData} (h : ∀ x ∈ xs, x.showable = true) : PyData.showableAll xs = true := by
 induction xs with
 | nil => simp only [PyData.showableAll]
 | cons x xs ih =>
  simp only [PyData.showableAll]
  rw [h x List.mem_cons_self, ih fun y hy => h y (List.mem_cons_of_mem _ hy)]
  rfl
theorem ZGb {xs : List PyData} (h : ∀ x ∈ xs, x.canLay0 = true) : PyData.canLayAll0 xs = true := by
 induction xs with
 | nil => rfl
 | cons x xs ih =>
  show (PyData.canLay0 x && PyData.canLayAll0 xs) = true
  rw [h x List.mem_cons_self, ih fun y hy => h y (List.mem_cons_of_mem _ hy)]
  rfl
theorem ZGc {xs : List PyData} {B : Nat} (h : ∀ x ∈ xs, x.depth ≤ B) : PyData.depthAll xs ≤ B := by
 induction xs with
 | nil => exact Nat.zero_le _
 | cons x xs ih =>
  have h1 := h x List.mem_cons_self
  have h2 := ih fun y hy => h y (List.mem_cons_of_mem _ hy)
  simp only [PyData.depthAll]
  omega
inductive Zr (H : Hp) : V → Option (List (Int × Int)) → Prop where
 | non : Zr H .non Option.none
 | pr {c : Addr} {qs : List (Int × Int)} (h : PrT H c qs) (hl : qs.length = 4) : Zr H (.ref c) (Option.some qs)
theorem Zr.same {H H' : Hp} {v : V} {o : Option (List (Int × Int))} (h : Zr H v o) (s : ZK H H') : Zr H' v o := by
 cases h with
 | non => exact .non
 | pr e hl => exact .pr (e.same s) hl
theorem Zr.kpL {H H' : Hp} {l : Addr} {xs : List V} {v : V} {o : Option (List (Int × Int))} (h : Zr H v o) (k : Kp l H H') (hl : H l = Option.some (.lst xs)) : Zr H' v o := by
 cases h with
 | non => exact .non
 | pr e hn => exact .pr (e.kpL k hl) hn
inductive Z2 (H : Hp) : List V → List (Option (List (Int × Int))) → Prop where
 | nil : Z2 H [] []
 | cons {v : V} {o : Option (List (Int × Int))} {vs : List V} {os : List (Option (List (Int × Int)))} (h : Zr H v o) (t : Z2 H vs os) : Z2 H (v :: vs) (o :: os)
theorem Z2.mapP {H H' : Hp} (f : ∀ v o, Zr H v o → Zr H' v o) : ∀ {vs : List V} {os : List (Option (List (Int × Int)))}, Z2 H vs os → Z2 H' vs os
 | _, _, .nil => .nil
 | _, _, .cons h t => .cons (f _ _ h) (Z2.mapP f t)
theorem Z2.same {H H' : Hp} {vs : List V} {os : List (Option (List (Int × Int)))} (h : Z2 H vs os) (s : ZK H H') : Z2 H' vs os := h.mapP fun _ _ d => d.same s
theorem Z2.len {H : Hp} : ∀ {vs : List V} {os : List (Option (List (Int × Int)))}, Z2 H vs os → vs.length = os.length
 | _, _, .nil => rfl
 | _, _, .cons _ t => by simp [Z2.len t]
theorem Z2.snoc {H : Hp} : ∀ {vs : List V} {os : List (Option (List (Int × Int)))}, Z2 H vs os → ∀ {v : V} {o : Option (List (Int × Int))}, Zr H v o → Z2 H (vs ++ [v]) (os ++ [o])
 | _, _, .nil, _, _, d => .cons d .nil
 | _, _, .cons h t, _, _, d => .cons h (Z2.snoc t d)
theorem Z2.at {H : Hp} : ∀ {vs : List V} {os : List (Option (List (Int × Int)))}, Z2 H vs os → ∀ {i : Nat} {v : V}, vs[i]? = Option.some v → ∃ o, os[i]? = Option.some o ∧ Zr H v o
 | _, _, .nil, i, v, e => by simp at e
 | _, _, .cons h t, 0, v, e => by simp at e; subst e; exact ⟨_, rfl, h⟩
 | _, _, .cons _ t, i + 1, v, e => by
  obtain ⟨o, h1, h2⟩ := Z2.at t (by simpa using e)
  exact ⟨o, by simpa using h1, h2⟩
def ZDF : Option (List (Int × Int)) → PyData
 | none => .none
 | some qs => .tuple (qs.map ZNW)
theorem Z2.dats {K : PySem.W.Frag} {H : Hp} : ∀ {vs : List V} {os : List (Option (List (Int × Int)))}, Z2 H vs os → Yv K H vs (os.map ZDF)
 | _, _, .nil => .nil
 | _, _, .cons .non t => .cons .non (Z2.dats t)
 | _, _, .cons (.pr ⟨us, g, p⟩ _) t => .cons (.tup (SqT.of g) p.dats) (Z2.dats t)
end L2
set_option Elab.async false
set_option linter.all false
set_option maxRecDepth 100000
set_option maxHeartbeats 4000000
namespace L2
open PySem PySem.Spec PyProof.Rows
section
variable {X : Cx}
def ZSB (p : Addr) (x y : V) (H2 : Hp) (Q : VK) : Prop := H2 p = some (.dK []) ∧ ∃ kvs : List (Key × V), [(x, y)] = kvs.map (fun kv => (kV kv.1, kv.2)) ∧ kvs.length ≤ 15 ∧ Q (.ref p) (upd H2 p (.dK (ZJ6 [] kvs)))
theorem ZME {σ : St} {H : Hp} {Q : VK} {tk tv : TE} (h : ∀ p, H p = none → tk σ (upd H p (.dK [])) fun x H1 => tv σ H1 fun y H2 => ZSB p x y H2 Q) : ZR9 [(tk, tv)] σ H Q := h
inductive JU (K : PySem.W.Frag) (H : Hp) : V → Str → Prop where
 | int {i : Int} (h : Bn 1900 i) : JU K H (.int i) ((toString i : String) : Str)
 | bl (b : Bool) : JU K H (.bl b) (if b then "True" else "False" : Str)
 | non : JU K H .non "None"
 | str {x : Str} (h : (reprText x).length ≤ sizeLine) : JU K H (.str x) (reprText x)
 | dat {a : Addr} {d : PyData} (h : Dat K H (.ref a) d) (h2 : d.showable = true) (h3 : d.hasDict = false) (h4 : d.depth ≤ 60) (h5 : d.shown.length ≤ sizeLine) : JU K H (.ref a) d.shown
 | dct {a : Addr} {k v : Int} (h : H a = Option.some (.dK [(Sum.inl k, .int v)])) (hk : Bn 1900 k) (hv : Bn 1900 v) : JU K H (.ref a) (PyData.dict [(.int k, .int v)]).shown
mutual
theorem Dat.same {K : PySem.W.Frag} {H H' : Hp} (s : ZK H H') : ∀ {x : V} {d : PyData}, Dat K H x d → Dat K H' x d
 | _, _, .non => .non
 | _, _, .bl b => .bl b
 | _, _, .int i => .int i
 | _, _, .str x => .str x
 | _, _, .tup h r => .tup (s.seqT h) (Yv.same s r)
 | _, _, .lst h r => .lst (s.seq h) (Yv.same s r)
theorem Yv.same {K : PySem.W.Frag} {H H' : Hp} (s : ZK H H') : ∀ {x : List V} {d : List PyData}, Yv K H x d → Yv K H' x d
 | _, _, .nil => .nil
 | _, _, .cons h r => .cons (Dat.same s h) (Yv.same s r)
end
theorem Yv.snoc {K : PySem.W.Frag} {H : Hp} : ∀ {xs : List V} {ds : List PyData}, Yv K H xs ds → ∀ {x : V} {d : PyData}, Dat K H x d → Yv K H (xs ++ [x]) (ds ++ [d])
 | _, _, .nil, _, _, h => .cons h .nil
 | _, _, .cons h0 r, _, _, h => .cons h0 (Yv.snoc r h)
theorem JU.same {K : PySem.W.Frag} {H H' : Hp} {x : V} {t : Str} (h : JU K H x t) (s : ZK H H') : JU K H' x t := by
 cases h with
 | int h => exact .int h
 | bl b => exact .bl b
 | non => exact .non
 | str h => exact .str h
 | dat h h2 h3 h4 h5 => exact .dat (h.same s) h2 h3 h4 h5
 | dct h hk hv => exact .dct (s _ _ h) hk hv
theorem ZRI {i : Int} (h : Bn 1900 i) : i.natAbs.log2 < 1920 := by
 by_cases z : i.natAbs = 0
 ·rw [z]; decide
 ·exact Nat.lt_of_lt_of_le ((Nat.log2_lt z).mpr h) (by decide)
theorem ZMF {k v : Int} (hk : Bn 1900 k) (hv : Bn 1900 v) : (PyData.dict [(.int k, .int v)]).shown.length ≤ sizeLine ∧ (PyData.dict [(.int k, .int v)]).showable = true ∧ (PyData.dict [(.int k, .int v)]).depth ≤ 10 := by
 have h1 := ZEl hk
 have h2 := ZEl hv
 refine ⟨?_, ?_, ?_⟩
 ·rw [PyData.shown_dict, J7, J7, PyData.shownKv_cons, PyData.shownKv_nil]
  have hj := ZEk [(PyData.int k).shown ++ ": " ++ (PyData.int v).shown] 3900 (fun t ht => by
   simp only [List.mem_cons, List.not_mem_nil, or_false] at ht
   rw [ht, J7, J7]
   have : ((": " : Str)).length = 2 := rfl
   omega)
  have e1 : (("{" : Str)).length = 1 := rfl
  have e2 : (("}" : Str)).length = 1 := rfl
  rw [e1, e2]
  refine Nat.le_trans (Nat.add_le_add_right (Nat.add_le_add_left hj 1) 1) ?_
  show 1 + 1 * (3900 + 2) + 1 ≤ sizeLine
  decide
 ·simp only [PyData.showable, PyData.showableKv]
  have a1 := h1.2
  have a2 := h2.2
  simp only [PyData.showable] at a1 a2
  rw [a1, a2]
  rfl
 ·simp only [PyData.depth, PyData.depthKv]
  decide
def ZKH (K : PySem.W.Frag) : List V → Hp → VK → Prop := fun xs H Q => ∃ x t, xs = [x] ∧ JU K H x t ∧ Q (.str t) H
theorem ZGd (K : PySem.W.Frag) (hK : X.K = K) (hg : X.A.guards = some []) (hu : X.A.units + 64 < cLine) : Z9 X (.builtin "repr") (ZKH K) := by
 subst hK
 intro pins s σ H xs us Q I r h
 obtain ⟨x, t, rfl, hS, q⟩ := h
 obtain ⟨u, rfl, ru⟩ := r.one
 cases hS with
 | @int i h =>
  obtain ⟨tk, rfl⟩ := (show ∃ t, u = Value.int i t from ru)
  exact PySem.P.repr_of_int (ZRI h) ⟨.str _, H, I.kept (t' := s.toks + 1) fun _ _ e => e, ⟨_, rfl⟩, q⟩
 | bl b =>
  cases (show u = Value.bool b from ru)
  exact PySem.P.repr_of_bool ⟨.str _, H, I.kept (t' := s.toks + 1) fun _ _ e => e, ⟨_, rfl⟩, q⟩
 | non =>
  cases (show u = Value.none from ru)
  exact PySem.P.repr_of_none ⟨.str _, H, I.kept (t' := s.toks + 1) fun _ _ e => e, ⟨_, rfl⟩, q⟩
 | @str x h =>
  obtain ⟨tk, rfl⟩ := (show ∃ t, u = Value.str x t from ru)
  exact PySem.P.repr_of_str ⟨.str _, H, I.kept (t' := s.toks + 1) fun _ _ e => e, ⟨_, rfl⟩, q⟩ h
 | @dat a d hD hs hnd hd hz =>
  obtain ⟨as, ra⟩ := hD.reads I ru
  cases ru
  exact repr_of_reads' ra hs (PyData.noDict_hsm hnd) hg (by omega) (fun _ _ e => e) (fun h' u tk hk => ⟨.str d.shown, H, I.kept (t' := tk) hk, ⟨u, rfl⟩, q⟩) hz
 | @dct a k v h hk hv =>
  cases ru
  obtain ⟨z, hsm, vs, rel, dd⟩ := ZEL I.hok h
  obtain ⟨hz, hs, hd⟩ := ZMF hk hv
  cases rel with
  | @cons p q0 ps qs h0 t0 =>
   cases t0
   obtain ⟨e1, t2, e2⟩ := h0
   obtain ⟨qk, qv⟩ := q0
   simp only at e1 e2
   subst e1 e2
   have ra : Reads s.heap (.ref a) (.dict [(.int k, .int v)]) (a :: ([] ++ [])) := PyProof.V.reads_dictOf (enc := fun (k : Key) => match k with | .inl i => PyData.int i | .inr x => PyData.str x) (fun k key e => by
    rcases YL e with ⟨i, t, rfl, rfl⟩ | ⟨x, t, rfl, rfl⟩
    ·exact .int i t
    ·exact .str x t) dd (.cons (.int v t2) .nil)
   exact repr_of_reads' ra hs (fun _ z => by simp at z; rw [z] at hsm; simp at hsm) hg (by omega) (fun _ _ e => e) (fun h' u tk hk => ⟨.str _, H, I.kept (t' := tk) hk, ⟨u, rfl⟩, q⟩) hz
theorem ZGe {K : PySem.W.Frag} {H : Hp} {Q : VK} {x : V} {t : Str} (h1 : JU K H x t) (h : Q (.str t) H) : ZKH K [x] H Q := ⟨x, t, rfl, h1, h⟩
end
def Sm (n k : Nat) (d : PyData) : Prop := d.shown.length ≤ n ∧ d.showable = true ∧ d.canLay0 = true ∧ d.depth ≤ k
theorem Sm.mono {n k m j : Nat} {d : PyData} (h : Sm n k d) (h1 : n ≤ m) (h2 : k ≤ j) : Sm m j d := ⟨Nat.le_trans h.1 h1, h.2.1, h.2.2.1, Nat.le_trans h.2.2.2 h2⟩
theorem Sm.int {i : Int} (h : Bn 1900 i) : Sm 2000 3 (.int i) := by
 have := ZEl h
 exact ⟨Nat.le_trans this.1 (by decide), this.2, rfl, by simp only [PyData.depth]; decide⟩
theorem Sm.bl (b : Bool) : Sm 2000 3 (.bool b) := by
 refine ⟨?_, by simp only [PyData.showable], rfl, by simp only [PyData.depth]; decide⟩
 rw [PyData.shown_bool]
 cases b <;> decide
theorem Sm.non : Sm 2000 3 .none := by
 refine ⟨?_, by simp only [PyData.showable], rfl, by simp only [PyData.depth]; decide⟩
 rw [PyData.shown_none]
 decide
theorem ZMG {xs : List PyData} {B : Nat} (h : ∀ x ∈ xs, x.shown.length ≤ B) : (PyData.list xs).shown.length ≤ xs.length * (B + 2) + 3 := by
 rw [PyData.shown_list, J7, J7]
 have h1 : (Str.join ", " (PyData.shownAll xs)).length ≤ xs.length * (B + 2) := by
  have := ZEk (PyData.shownAll xs) B (fun t ht => by
   have : ∀ ys : List PyData, (∀ y ∈ ys, y.shown.length ≤ B) → ∀ t ∈ PyData.shownAll ys, t.length ≤ B := by
    intro ys
    induction ys with
    | nil => intro _ t ht; rw [PyData.shownAll_nil] at ht; cases ht
    | cons y ys ih =>
     intro hy t ht
     rw [PyData.shownAll_cons] at ht
     rcases List.mem_cons.mp ht with rfl | ht
     ·exact hy y List.mem_cons_self
     ·exact ih (fun z hz => hy z (List.mem_cons_of_mem _ hz)) t ht
   exact this xs h t ht)
  rw [PyData.shownAll_length] at this
  exact this
 have h2 : (("]" : Str)).length = 1 := rfl
 have h3 : (("[" : Str)).length = 1 := rfl
 omega
theorem Sm.tup {n k : Nat} {xs : List PyData} (h : ∀ x ∈ xs, Sm n k x) (hl : xs.length ≤ 4) : Sm (4 * (n + 2) + 3) (k + 5) (.tuple xs) := by
 refine ⟨?_, ?_, ?_, ?_⟩
 ·have := ZFB fun x hx => (h x hx).1
  have h2 : xs.length * (n + 2) ≤ 4 * (n + 2) := Nat.mul_le_mul_right _ hl
  omega
 ·simp only [PyData.showable]
  exact ZEm fun x hx => (h x hx).2.1
 ·show PyData.canLayAll0 xs = true
  exact ZGb fun x hx => (h x hx).2.2.1
 ·have := ZGc fun x hx => (h x hx).2.2.2
  simp only [PyData.depth]
  omega
theorem Sm.lst {n k : Nat} {xs : List PyData} (h : ∀ x ∈ xs, Sm n k x) (hl : xs.length ≤ 4) : Sm (4 * (n + 2) + 3) (k + 5) (.list xs) := by
 refine ⟨?_, ?_, ?_, ?_⟩
 ·have := ZMG fun x hx => (h x hx).1
  have h2 : xs.length * (n + 2) ≤ 4 * (n + 2) := Nat.mul_le_mul_right _ hl
  omega
 ·simp only [PyData.showable]
  exact ZEm fun x hx => (h x hx).2.1
 ·show PyData.canLayAll0 xs = true
  exact ZGb fun x hx => (h x hx).2.2.1
 ·have := ZGc fun x hx => (h x hx).2.2.2
  simp only [PyData.depth]
  omega
theorem JU.of {K : PySem.W.Frag} {H : Hp} {a : Addr} {d : PyData} (h : Dat K H (.ref a) d) (hs : Sm 100000 50 d) : JU K H (.ref a) d.shown :=
 .dat h hs.2.1 (PyData.hasDict_of_canLay _ hs.2.2.1) (Nat.le_trans hs.2.2.2 (by decide)) (Nat.le_trans hs.1 (by decide))
end L2
set_option Elab.async false
set_option linter.all false
set_option maxRecDepth 100000
set_option maxHeartbeats 4000000
namespace L2
open PySem PySem.Spec PyProof.Rows PySem.W
section
variable {X : Cx} {pins : List (Addr × Obj)} {σ : St} {H : Hp} {s : Shared}
theorem ZFC {h' : Heap} {a : Addr} (I : Inv X pins σ H s) (k : ∀ b o, s.heap.get? b = some o → h'.get? b = some o) (ha : s.heap.objs.size ≤ a) :
  ∀ {us : List V} {m : List (Int × Int)} {its : List Value}, ZI H us m → ZV us its → Jo h' a its m
 | _, _, _, .nil, .nil => .nil
 | _, _, _, .cons (b := p) ⟨b, e, z⟩ t, .cons r q => by
  subst e
  cases r
  obtain ⟨its, rv, hp, _⟩ := I.tuple (SqT.of z)
  obtain ⟨o, ho, hc, n, hd⟩ := hp
  have hb : b < s.heap.objs.size := Heap.lt_size ho
  obtain ⟨u1, u2, e2, r1, r2⟩ := rv.two
  obtain ⟨t1, rfl⟩ := r1
  obtain ⟨t2, rfl⟩ := r2
  subst e2
  exact .cons ⟨b, t1, t2, rfl, fun z => Nat.lt_irrefl _ (Nat.lt_of_lt_of_le (z ▸ hb) ha), o, k _ _ ho, hc, n, hd⟩ (ZFC I k ha t q)
end
section
variable {prog : Program} {w : World} {A : Around} {E : Value → Shared → Prop} {s : Shared}
theorem ZFU {l : Addr} {vs : List Value} {m : List (Int × Int)} {Q : Value → Shared → Prop} (hl : s.heap.IsList l vs.toArray)
  (hT : ∀ h' a, (∀ b o, s.heap.get? b = some o → h'.get? b = some o) → s.heap.objs.size ≤ a → Jo h' a vs m) (hd : m.Nodup) (h64 : vs.length < 64)
  (h : ∀ (ix : List Nat), ix.Perm (List.range vs.length) → (ix.map fun i => m.getD i (0, 0)).Pairwise (fun p q => ltP p q = true) → Q (.ref (s.heap.objs.size + 1)) { s with heap := sortedAll s.heap vs (ix.map fun i => vs.getD i Value.none).toArray }) :
  wpAny (model prog w) A (call (.builtin "sorted") [.ref l]) Q E s := by
 refine Calls.call_function_entry kind_sorted plain_sorted entry_sorted (args_sorted1 _) ?_
 unfold Builtin.«sorted»
 refine wpAny_bind (m := checkCount "sorted" 1 1 _) (wpAny_pure ?_)
 refine wpAny_bind (collect_list hl ?_ (by rw [sizeLine_eq]; omega))
 refine wpAny_bind (wpAny_newList ?_ (by rw [sizeLine_eq]; omega))
 have hsz : ((s.heap.push (seqObj "list" #[] 0)).update s.heap.objs.size (Obj.mapSeq (· ++ vs.toArray))).objs.size = s.heap.objs.size + 1 := by
  rw [Heap.size_update, size_push']
 have hoL : (((s.heap.push (seqObj "list" #[] 0)).update s.heap.objs.size (Obj.mapSeq (· ++ vs.toArray))).push (seqObj "list" vs.toArray 0)).get? (s.heap.objs.size + 1) = some (seqObj "list" vs.toArray 0) := by
  rw [← hsz]; exact Heap.get?_push_size _ rfl
 show wpAny _ _ _ _ _ { s with heap := ((s.heap.push (seqObj "list" #[] 0)).update s.heap.objs.size (Obj.mapSeq (· ++ vs.toArray))).push (seqObj "list" vs.toArray 0) }
 rw [hsz]
 have kp : ∀ b o, s.heap.get? b = some o → (((s.heap.push (seqObj "list" #[] 0)).update s.heap.objs.size (Obj.mapSeq (· ++ vs.toArray))).push (seqObj "list" vs.toArray 0)).get? b = some o := fun b o e =>
  Heap.get?_push_of_some _ ((Heap.get?_update_other _ _ (Ne.symm (Nat.ne_of_lt (Heap.lt_size e)))).trans (Heap.get?_push_of_some _ e))
 refine wpAny_bind (wpAny_holding (wpAny_call_entry slot_list_sort ⟨_, hoL, rfl⟩ entry_list_sort (ZEP (s := { s with heap := ((s.heap.push (seqObj "list" #[] 0)).update s.heap.objs.size (Obj.mapSeq (· ++ vs.toArray))).push (seqObj "list" vs.toArray 0) }) hoL (hT _ _ kp (Nat.le_succ _)) hd h64 fun ix a1 a2 => ⟨_, rfl, ?_⟩) (args_list_sort _)))
 exact wpAny_pure ⟨_, rfl, h ix a1 a2⟩
end
theorem ZOx : ∀ {us : List V} {its : List Value}, ZV us its → ∀ (ix : List Nat), (∀ i ∈ ix, i < us.length) → ZV (ix.map fun i => us.getD i .non) (ix.map fun i => its.getD i Value.none) := by
 intro us its rv ix
 induction ix with
 | nil => intro _; exact .nil
 | cons i ix ih =>
  intro h
  have hi := h i (List.mem_cons_self ..)
  obtain ⟨u, hu, ru⟩ := rv.get (List.getElem?_eq_getElem hi)
  have e1 : us.getD i .non = us[i] := by simp [hi]
  have e2 : its.getD i Value.none = u := by simp [hu]
  refine .cons ?_ (ih fun j hj => h j (List.mem_cons_of_mem _ hj))
  show ZX (us.getD i .non) (its.getD i Value.none)
  rw [e1, e2]
  exact ru
theorem ZMH {H : Hp} {us : List V} {m : List (Int × Int)} (hP : ZI H us m) : ∀ (ix : List Nat), (∀ i ∈ ix, i < us.length) → ZI H (ix.map fun i => us.getD i .non) (ix.map fun i => m.getD i (0, 0)) := by
 intro ix
 induction ix with
 | nil => intro _; exact .nil
 | cons i ix ih =>
  intro h
  have hi := h i (List.mem_cons_self ..)
  obtain ⟨c, p, e, hp, hc⟩ := hP.at (List.getElem?_eq_getElem hi)
  have e1 : us.getD i .non = us[i] := by simp [hi]
  have e2 : m.getD i (0, 0) = p := by simp [hp]
  refine .cons ⟨c, ?_, ?_⟩ (ih fun j hj => h j (List.mem_cons_of_mem _ hj))
  ·show us.getD i .non = _
   rw [e1, e]
  ·show H c = some (.tup [.int (m.getD i (0, 0)).1, .int (m.getD i (0, 0)).2])
   rw [e2]; exact hc
def ZGf (K : PySem.W.Frag) : List V → Hp → VK → Prop := fun xs H Q => ∃ (p : Addr) (us : List V) (m : List (Int × Int)), xs = [.ref p] ∧ SqL K H p us ∧ ZI H us m ∧ m.Nodup ∧ m.length < 64 ∧
 ∀ (l : Addr) (us' : List V) (m' : List (Int × Int)), H l = none → ZI H us' m' → m'.Perm m → m'.Pairwise (fun p q => ltP p q = true) → Q (.ref l) (upd H l (.lst us'))
theorem ZEQ {X : Cx} (K : PySem.W.Frag) (hK : X.K = K) : Z9 X (.builtin "sorted") (ZGf K) := by
 subst hK
 intro pins s σ H xs us Q I r h
 obtain ⟨p, vs, m, rfl, hS, hP, hn, h64, q⟩ := h
 obtain ⟨u, rfl, ru⟩ := r.one
 cases ru
 obtain ⟨its, rv, pl, hz⟩ := I.list hS
 have hlen : vs.length = m.length := hP.length
 have hl2 := rv.length
 refine ZFU (vs := its) pl.isList (fun h' a k ha => ZFC I k ha hP rv) hn (by omega) fun ix a1 a2 => ?_
 have hix : ∀ i ∈ ix, i < vs.length := fun i hi => by
  have := List.mem_range.mp (a1.mem_iff.mp hi)
  omega
 obtain ⟨e, he⟩ := sortedAll_at s.heap its (ix.map fun i => its.getD i Value.none).toArray
 refine ⟨.ref (s.heap.objs.size + 1), upd H (s.heap.objs.size + 1) (.lst (ix.map fun i => vs.getD i .non)), I.laid (t' := s.toks) (fun b o e => sortedAll_old e) (Nat.le_succ _) ?_, rfl, q _ _ (ix.map fun i => m.getD i (0, 0)) (I.hok.fresh (Nat.le_succ _)) (ZMH hP ix hix) (ZKF (by rw [← hlen, hl2]; exact a1)) a2⟩
 refine ⟨?_, _, e, ZOx rv ix hix, he⟩
 have := a1.length_eq
 rw [List.length_map, this, List.length_range, sizeLine_eq]
 omega
theorem ZER {K : PySem.W.Frag} {H : Hp} {Q : VK} {p : Addr} {us : List V} {m : List (Int × Int)} (h1 : SqL K H p us) (h2 : ZI H us m) (h3 : m.Nodup) (h4 : m.length < 64)
  (h : ∀ l us' m' H2, H l = none → H2 l = some (.lst us') → ZI H2 us' m' → m'.Perm m → m'.Pairwise (fun p q => ltP p q = true) → ZK H H2 → Q (.ref l) H2) : ZGf K [.ref p] H Q :=
 ⟨p, us, m, rfl, h1, h2, h3, h4, fun l us' m' n hP a1 a2 => h l us' m' _ n ZS (hP.same (ZK.new n)) a1 a2 (ZK.new n)⟩
def Itv (K : PySem.W.Frag) (l : Addr) (n : Nat) : It :=
 ⟨fun i H => ∃ xs, SqL K H l xs ∧ xs.length = n ∧ i < n, fun i H x H' => H' = H ∧ ∀ xs, SqL K H l xs → xs[n - 1 - i]? = some x, fun i H => n ≤ i⟩
section
variable {X : Cx} {tg : Expr}
def ZRJ (K : PySem.W.Frag) (vs : List V) (H : Hp) (R : It → Hp → Prop) : Prop := ∃ l xs, vs = [.ref l] ∧ SqL K H l xs ∧ R (Itv K l xs.length) H
def ZSp (K : PySem.W.Frag) (ta : TA) : TI := fun σ H R => ta σ H fun vs H1 => ZRJ K vs H1 R
end
section
variable {K : PySem.W.Frag} {σ : St} {H : Hp} {D : Z8}
theorem ZOy {ta : TA} {R : It → Hp → Prop} (h : ta σ H fun vs H1 => ZRJ K vs H1 R) : ZSp K ta σ H R := h
end
def ZGg : List V → Hp → VK → Prop := fun xs H Q => ∃ i j, xs = [.int i, .int j] ∧ ZBI i j ∧ ∀ p, H p = none → Q (.ref p) (upd H p (.tup [.int (i / j), .int (i % j)]))
theorem ZGh {X : Cx} : Z9 X (.builtin "divmod") ZGg := by
 intro pins s σ H xs us Q I r h
 obtain ⟨i, j, rfl, ⟨h1, h2⟩, q⟩ := h
 obtain ⟨u, w', rfl, ⟨t, rfl⟩, ⟨t', rfl⟩⟩ := ZIS r
 refine divmod_int (by omega) ?_ (.inl (PyProof.noPylong_of_log2 h2))
 rw [Int.fdiv_eq_ediv_of_nonneg i (by omega), Int.fmod_eq_emod_of_nonneg i (by omega)]
 have hn : H s.heap.objs.size = none := I.hok.fresh (Nat.le_refl _)
 refine ⟨.ref s.heap.objs.size, _, ?_, rfl, q _ hn⟩
 refine I.laid (fun b o e => Heap.get?_push_of_some _ e) (Nat.le_refl _) ⟨⟨by simp only [List.length_cons, List.length_nil]; rw [sizeLine_eq]; decide, fun z => absurd rfl (z (i / j))⟩, [.int (i / j) s.toks, .int (i % j) (s.toks + 1)], .cons ⟨_, rfl⟩ (.cons ⟨_, rfl⟩ .nil), ?_⟩
 exact ⟨_, Heap.get?_push_size s.heap rfl, rfl, 0, rfl⟩
theorem ZKI {H : Hp} {Q : VK} {i j : Int} (h1 : ZBI i j) (h : ∀ p H2, H p = none → H2 p = some (.tup [.int (i / j), .int (i % j)]) → ZK H H2 → Q (.ref p) H2) : ZGg [.int i, .int j] H Q :=
 ⟨i, j, rfl, h1, fun p hp => h p _ hp ZS (ZK.new hp)⟩
end L2
set_option Elab.async false
set_option linter.all false
set_option maxRecDepth 100000
set_option maxHeartbeats 4000000
namespace L2
open PySem PySem.Spec PyProof.Rows PySem.W
section
variable {X : Cx} {k : Nat} {f : Addr} {fd : FuncData} {ps : List Str} {sp : Sp}
theorem ZDG {pins : List (Addr × Obj)} {σ : St} {H : Hp} {s : Shared} {Q : VK} {us : List Value} {vs : List V} {E1 : Value → Shared → Prop} (F : ZQ X.prog X.w X.K X.mg X.base CX0 k f fd ps sp) (hr : Z0 k X.A.in1) (hb : ZN X.K fd ps [])
  (I : Inv X pins σ H s) (r : ZV vs us) (h : sp vs H Q E0) : wpAny (model X.prog X.w) X.A.in1 (call (.ref f) us) (EP X pins σ Q) E1 s := by
 have hl : (us ++ []).length = ps.length := by rw [List.append_nil, ← r.length]; exact F.len _ _ _ _ h
 refine wpAny_call (codeAny_mono (F.run X.A.in1 X.stack s H ⟨us, []⟩ (us ++ []) vs Q E0 hr I.env0.in1 (hb s us I.kIn hl) (by rw [List.append_nil]; exact r) h) fun r s' hq => ?_)
 cases r with
 | error e => exact False.elim hq
 | ok fl =>
  cases fl with
  | ret u => exact I.after hq
  | next => exact False.elim hq
  | brk => exact False.elim hq
  | cont => exact False.elim hq
theorem Inv.pin2 {pins : List (Addr × Obj)} {σ : St} {H : Hp} {s : Shared} {a b : Addr} {oa ob : Obj} (I : Inv X pins σ H s) (fa : Yh X pins H a) (fb : Yh X pins H b) (ha : s.heap.get? a = some oa) (hb : s.heap.get? b = some ob) (ca : ∀ v, oa.data ≠ .cell v) (cb : ∀ v, ob.data ≠ .cell v) :
  Inv X ((a, oa) :: (b, ob) :: pins) σ H s := I.pins_of fun p hp => by
 rcases List.mem_cons.mp hp with rfl | hp
 ·exact ⟨ha, fa.1, fa.2.1, fa.2.2.1, ca⟩
 ·rcases List.mem_cons.mp hp with rfl | hp
  ·exact ⟨hb, fb.1, fb.2.1, fb.2.2.1, cb⟩
  ·exact I.pin p (List.mem_append_right _ hp)
theorem Inv.unpin2 {pins : List (Addr × Obj)} {σ : St} {H : Hp} {s : Shared} {a b : Addr} {oa ob : Obj} (I : Inv X ((a, oa) :: (b, ob) :: pins) σ H s) : s.heap.get? a = some oa ∧ s.heap.get? b = some ob ∧ Inv X pins σ H s :=
 ⟨(I.pin (a, oa) (List.mem_append_right _ (.head _))).1, (I.pin (b, ob) (List.mem_append_right _ (.tail _ (.head _)))).1, I.pins_of fun p hp => I.pin p (List.mem_append_right _ (.tail _ (.tail _ hp)))⟩
theorem Inv.turnedAt {pins : List (Addr × Obj)} {σ : St} {H : Hp} {s : Shared} {h' : Heap} {t' : Nat} {it : Addr} (I : Inv X pins σ H s) (fa : Yh X pins H it) (k : ∀ b o, b ≠ it → s.heap.get? b = some o → h'.get? b = some o) : Inv X pins σ H { s with heap := h', toks := t' } := by
 obtain ⟨f0, f1, f2, f3, f4, f5⟩ := fa
 exact I.turned k f0 f1 f3 f4 f5
def ZGi (K : PySem.W.Frag) (sp : Sp) (vs : List V) (H : Hp) (Q : VK) : Prop := ∃ (l : Addr) (us : List V) (kf : Nat → Int), vs = [.ref l] ∧ SqL K H l us ∧ us ≠ [] ∧ (∀ i v, us[i]? = some v → ∀ Q : VK, Q (.int (kf i)) H → sp [v] H Q E0) ∧
 ∀ i v, us[i]? = some v → (∀ j, j < us.length → kf i ≤ kf j ∧ (j < i → kf i < kf j)) → Q v H
def ZMI (K : PySem.W.Frag) (sp : Sp) (t : TA) : TE := fun σ H Q => t σ H fun vs H1 => ZGi K sp vs H1 Q
theorem ZHV {K : PySem.W.Frag} {sp : Sp} {t : TA} {σ : St} {H : Hp} {Q : VK} (h : t σ H fun vs H1 => ZGi K sp vs H1 Q) : ZMI K sp t σ H Q := h
theorem ZFV {pins : List (Addr × Obj)} {σ : St} {H : Hp} (hc : X.calm = true) (F : ZQ X.prog X.w X.K X.mg X.base CX0 k f fd ps sp) (hr : Z0 k X.A.in1) (hb : ZN X.K fd ps []) {l I S : Addr} {us : List V} (kf : Nat → Int) (hSI : S ≠ I) (hS : SqT X.K H l us)
  (fI : Yh X pins H I) (fS : Yh X pins H S) (turn : ∀ i v, us[i]? = some v → ∀ Q : VK, Q (.int (kf i)) H → sp [v] H Q E0) {R : Result → Shared → Prop}
  (hR : ∀ i v u s', us[i]? = some v → ZX v u → (∀ j, j < us.length → kf i ≤ kf j ∧ (j < i → kf i < kf j)) → Inv X pins σ H s' → R (.ok (.ret u)) s') :
  ∀ (r j i : Nat) (s : Shared) (v : V) (vb : Value) (tb : Tok) (c : Nat), us.length - (j + 1) = r → j + 1 ≤ us.length → Inv X pins σ H s → s.heap.get? S = some (seqObj "list" #[vb, .int (kf i) tb] c) → s.heap.IsTupleIter I l (j + 1) →
   us[i]? = some v → ZX v vb → i ≤ j → (∀ j', j' ≤ j → kf i ≤ kf j' ∧ (j' < i → kf i < kf j')) →
   codeAny (model X.prog X.w) X.A (.builtin "min.loop" ⟨[.ref I, .ref f, .ref S], []⟩) R s := by
 have hname : (toString "min" ++ toString ".loop" : String) = "min.loop" := by decide
 intro r
 induction r with
 | zero =>
  intro j i s v vb tb c hr' hj J nS hit hv rv hij hbest
  have hin : j + 1 = us.length := by omega
  obtain ⟨its, rvs, p, hz⟩ := J.tuple hS
  have hl := rvs.length
  refine codeAny_builtin PySem.F.entry_min_loop ?_
  rw [Around.under_plainId PySem.F.plain_min_loop _]
  show wpAny _ X.A.in1 (seqItems? (.ref S) >>= _) _ _ _
  refine wpAny_bind (wpAny_seqItems nS rfl ?_)
  show wpAny _ X.A.in1 (tryCatch (pyNext (.ref I)) _ >>= _) _ _ _
  refine wpAny_bind (wpAny_tryCatch (wpAny_pyNext_tuple_end (J.ok.hd hc) hit (show s.heap.IsTuple l its.toArray from p) (by simp; omega) fun h' eb => ?_))
  have J1 : Inv X pins σ H { s with heap := h' } := J.turnedAt (t' := s.toks) fI fun b o hb e => eb b o hb e
  have hS' : h'.get? S = some (seqObj "list" #[vb, .int (kf i) tb] c) := eb S _ hSI nS
  show wpAny _ X.A.in1 (updateSeq S (fun _ => #[]) >>= _) _ _ _
  refine wpAny_bind ?_
  refine wpAny_updateSeq hS' rfl (wpAny_bind (wpAny_letGo (wpAny_pure ?_)))
  exact hR i v vb _ hv rv (fun j' hj' => hbest j' (by omega)) (J1.turnedAt (t' := s.toks) fS fun b o hb e => (Heap.get?_update_other _ _ (Ne.symm hb)).trans e)
 | succ r ih =>
  intro j i s v vb tb c hr' hj J nS hit hv rv hij hbest
  have hlt : j + 1 < us.length := by omega
  obtain ⟨its, rvs, p, hz⟩ := J.tuple hS
  have hx : us[j + 1]? = some us[j + 1] := List.getElem?_eq_getElem hlt
  obtain ⟨u, hu, ru⟩ := rvs.get hx
  refine codeAny_builtin PySem.F.entry_min_loop ?_
  rw [Around.under_plainId PySem.F.plain_min_loop _]
  show wpAny _ X.A.in1 (seqItems? (.ref S) >>= _) _ _ _
  refine wpAny_bind (wpAny_seqItems nS rfl ?_)
  show wpAny _ X.A.in1 (tryCatch (pyNext (.ref I)) _ >>= _) _ _ _
  refine wpAny_bind (wpAny_tryCatch (wpAny_pyNext_tuple_item hit (show s.heap.IsTuple l its.toArray from p) (x := u) (by simpa using hu) fun h' st' sb => ?_))
  have J1 : Inv X pins σ H { s with heap := h' } := J.turnedAt (t' := s.toks) fI fun b o hb e => (sb.2 b hb).trans e
  have hS' : h'.get? S = some (seqObj "list" #[vb, .int (kf i) tb] c) := (sb.2 S hSI).trans nS
  obtain ⟨oI, hoI, hoc, hod⟩ := id st'
  have J2 := J1.pin2 (s := { s with heap := h' }) fS fI hS' hoI (fun v z => by cases z) (fun v z => by rw [hod] at z; cases z)
  show wpAny _ X.A.in1 (tryCatch (holding [u] (call (.ref f) [u])) _ >>= _) _ _ _
  refine wpAny_bind (wpAny_tryCatch (wpAny_holding (wpAny_mono (ZDG (E1 := fun _ _ => False) F hr hb J2 (.cons ru .nil) (turn (j + 1) _ hx (fun v H' => v = .int (kf (j + 1)) ∧ H' = H) ⟨rfl, rfl⟩)) (fun x s'' he => ?_) fun _ _ hF => hF.elim)))
  obtain ⟨v2, H2, J3, r2, e2, e3⟩ := he
  subst e2 e3
  obtain ⟨t2, rfl⟩ := r2
  obtain ⟨nS2, nI2, J4⟩ := J3.unpin2
  have hit2 : s''.heap.IsTupleIter I l (j + 1 + 1) := ⟨oI, nI2, hoc, hod⟩
  show wpAny _ X.A.in1 (tryCatch (holding [u, .int (kf (j + 1)) t2] (richCompare .Lt (.int (kf (j + 1)) t2) (.int (kf i) tb) >>= _)) _ >>= _) _ _ _
  refine wpAny_bind (wpAny_tryCatch (wpAny_holding (wpAny_bind (CmpOf.ints_lt (prog := X.prog) (w := X.w) (A := X.A.in1) (P := fun i v => ∃ t, v = .int (kf i) t) kf (fun i v h => h) (j + 1) i _ _ _ _ _ ⟨t2, rfl⟩ ⟨tb, rfl⟩ ?_))))
  refine wpAny_bind (wpAny_holding (wpAny_truthy_bool ?_))
  refine wpAny_bind (wpAny_letGo (wpAny_pure ?_))
  by_cases hb' : kf (j + 1) < kf i
  ·obtain ⟨c2, hc2⟩ : ∃ c2, (s''.heap.update S (Obj.mapSeq fun _ => #[u, .int (kf (j + 1)) t2])).get? S = some (seqObj "list" #[u, .int (kf (j + 1)) t2] c2) := ⟨_, get?_update_seq nS2 fun _ => #[u, .int (kf (j + 1)) t2]⟩
   simp only [hb', decide_true, if_true]
   refine wpAny_bind ?_
   refine wpAny_updateSeq nS2 rfl (wpAny_bind (wpAny_letGo ?_))
   rw [hname]
   refine wpAny_pure ⟨plainId_quiet PySem.F.plain_min_loop _, ih (j + 1) (j + 1) _ _ u t2 c2 (by omega) hlt (J4.turnedAt (t' := s''.toks) fS fun b o hb e => (Heap.get?_update_other _ _ (Ne.symm hb)).trans e) hc2 ⟨oI, (Heap.get?_update_other _ _ hSI).trans nI2, hoc, hod⟩ hx ru (Nat.le_refl _) fun j' hj' => ?_⟩
   by_cases e : j' = j + 1
   ·subst e
    exact ⟨by omega, fun _ => by omega⟩
   ·have hb1 := hbest j' (by omega)
    have hb2 := hb1.1
    exact ⟨by omega, fun _ => by omega⟩
  ·simp only [hb', decide_false, Bool.false_eq_true, if_false]
   refine wpAny_bind (wpAny_letGo ?_)
   rw [hname]
   refine wpAny_pure ⟨plainId_quiet PySem.F.plain_min_loop _, ih (j + 1) i _ v vb tb c (by omega) hlt J4 nS2 hit2 hv rv (by omega) fun j' hj' => ?_⟩
   by_cases e : j' = j + 1
   ·subst e
    exact ⟨by omega, fun _ => by omega⟩
   ·exact hbest j' (by omega)
theorem ZFW {pins : List (Addr × Obj)} {σ : St} {H : Hp} {s : Shared} {Q : VK} {E1 : Value → Shared → Prop} (hc : X.calm = true) (F : ZQ X.prog X.w X.K X.mg X.base CX0 k f fd ps sp) (hr : Z0 k X.A.in1) (hb : ZN X.K fd ps []) {l : Addr} {us : List V} (kf : Nat → Int) (J : Inv X pins σ H s) (hS : SqT X.K H l us) (hne : us ≠ [])
  (turn : ∀ i v, us[i]? = some v → ∀ Q : VK, Q (.int (kf i)) H → sp [v] H Q E0) (hQ : ∀ i v, us[i]? = some v → (∀ j, j < us.length → kf i ≤ kf j ∧ (j < i → kf i < kf j)) → Q v H) :
  wpAny (model X.prog X.w) X.A (call (.builtin "min") [.ref l] [(Str.ofString "key", .ref f)]) (EP X pins σ Q) E1 s := by
 have hname : (toString "min" ++ toString ".loop" : String) = "min.loop" := by decide
 have hpos : 0 < us.length := List.length_pos_iff.mpr hne
 obtain ⟨its, rvs, p, hz⟩ := J.tuple hS
 have hls : s.heap.IsTuple l its.toArray := p
 refine kmk_tree PySem.F.kind_min PySem.F.plain_min PySem.F.entry_min (kmk_min_key _ _) ?_
 show wpAny _ X.A.in1 (Builtin.Builtins.bindParams "min" ["key", "default"] 0 ⟨[], [(Str.ofString "key", .ref f)]⟩ >>= _) _ _ s
 refine wpAny_bind (wpAny_of_eq (show Builtin.Builtins.bindParams "min" ["key", "default"] 0 ⟨[], [(Str.ofString "key", .ref f)]⟩ = pure [some (.ref f), none] from rfl) ?_)
 refine wpAny_bind (wpAny_pure ?_)
 refine wpAny_bind (wpAny_pyIter_tuple hls ?_)
 refine wpAny_bind (wpAny_newList ?_ (Nat.zero_le _))
 rw [hname]
 refine wpAny_pure ⟨plainId_quiet PySem.F.plain_min_loop _, ?_⟩
 generalize hO : ({ cls := .type "tuple_iterator", data := .fields #[.ref l, .int 0 0] } : Obj) = O
 have hSs : (s.heap.push O).objs.size = s.heap.objs.size + 1 := size_push' ..
 have hSI : (s.heap.push O).objs.size ≠ s.heap.objs.size := by rw [hSs]; exact Nat.ne_of_gt (Nat.lt_succ_self _)
 have gI : ((s.heap.push O).push (seqObj "list" #[] 0)).get? s.heap.objs.size = some O := Heap.get?_push_of_some _ (Heap.get?_push_size _ (by rw [← hO]; rfl))
 have gS : ((s.heap.push O).push (seqObj "list" #[] 0)).get? (s.heap.push O).objs.size = some (seqObj "list" #[] 0) := Heap.get?_push_size _ rfl
 have fI : Yh X pins H s.heap.objs.size := J.fpOk (Nat.le_refl _) (J.hok.fresh (Nat.le_refl _))
 have fS : Yh X pins H (s.heap.push O).objs.size := J.fpOk (by rw [hSs]; exact Nat.le_succ _) (J.hok.fresh (by rw [hSs]; exact Nat.le_succ _))
 have J0 : Inv X pins σ H { s with heap := (s.heap.push O).push (seqObj "list" #[] 0) } := J.kept (t' := s.toks) fun b o e => Heap.get?_push_of_some _ (Heap.get?_push_of_some _ e)
 obtain ⟨its0, rvs0, p0, hz0⟩ := J0.tuple hS
 have hx : us[0]? = some us[0] := List.getElem?_eq_getElem hpos
 obtain ⟨u, hu, ru⟩ := rvs0.get hx
 refine codeAny_builtin PySem.F.entry_min_loop ?_
 rw [Around.under_plainId PySem.F.plain_min_loop _]
 show wpAny _ X.A.in1 (seqItems? (.ref _) >>= _) _ _ _
 refine wpAny_bind (wpAny_seqItems gS rfl ?_)
 show wpAny _ X.A.in1 (tryCatch (pyNext (.ref s.heap.objs.size)) _ >>= _) _ _ _
 refine wpAny_bind (wpAny_tryCatch (wpAny_pyNext_tuple_item (s := { s with heap := (s.heap.push O).push (seqObj "list" #[] 0) }) (i := 0) ⟨O, gI, by rw [← hO], by rw [← hO]; rfl⟩ (show ((s.heap.push O).push (seqObj "list" #[] 0)).IsTuple l its0.toArray from p0) (x := u) (by simpa using hu) fun h' st' sb => ?_))
 have J1 : Inv X pins σ H { s with heap := h' } := J0.turnedAt (t' := s.toks) fI fun b o hb e => (sb.2 b hb).trans e
 have hS' : h'.get? (s.heap.push O).objs.size = some (seqObj "list" #[] 0) := (sb.2 _ hSI).trans gS
 obtain ⟨oI, hoI, hoc, hod⟩ := id st'
 have J2 := J1.pin2 (s := { s with heap := h' }) fS fI hS' hoI (fun v z => by cases z) (fun v z => by rw [hod] at z; cases z)
 show wpAny _ X.A.in1 (tryCatch (holding [u] (call (.ref f) [u])) _ >>= _) _ _ _
 refine wpAny_bind (wpAny_tryCatch (wpAny_holding (wpAny_mono (ZDG (E1 := fun _ _ => False) F hr hb J2 (.cons ru .nil) (turn 0 _ hx (fun v H' => v = .int (kf 0) ∧ H' = H) ⟨rfl, rfl⟩)) (fun x s'' he => ?_) fun _ _ hF => hF.elim)))
 obtain ⟨v2, H2, J3, r2, e2, e3⟩ := he
 subst e2 e3
 obtain ⟨t2, rfl⟩ := r2
 obtain ⟨nS2, nI2, J4⟩ := J3.unpin2
 obtain ⟨c2, hc2⟩ : ∃ c2, (s''.heap.update (s.heap.push O).objs.size (Obj.mapSeq fun _ => #[u, .int (kf 0) t2])).get? (s.heap.push O).objs.size = some (seqObj "list" #[u, .int (kf 0) t2] c2) := ⟨_, get?_update_seq nS2 fun _ => #[u, .int (kf 0) t2]⟩
 show wpAny _ X.A.in1 (updateSeq (s.heap.push O).objs.size (fun _ => #[u, .int (kf 0) t2]) >>= _) _ _ _
 refine wpAny_bind ?_
 refine wpAny_updateSeq nS2 rfl ?_
 rw [hname]
 refine wpAny_pure ⟨plainId_quiet PySem.F.plain_min_loop _, ZFV hc F hr hb kf hSI hS fI fS turn (fun i v u s' hv rv hbest J' => ⟨v, _, J', rv, hQ i v hv hbest⟩) _ 0 0 _ _ u t2 c2 rfl hpos (J4.turnedAt (t' := s''.toks) fS fun b o hb e => (Heap.get?_update_other _ _ (Ne.symm hb)).trans e) hc2 ⟨oI, (Heap.get?_update_other _ _ hSI).trans nI2, hoc, hod⟩ hx ru (Nat.le_refl _) fun j' hj' => ?_⟩
 have e : j' = 0 := by omega
 subst e
 exact ⟨by omega, fun h => absurd h (Nat.lt_irrefl _)⟩
def ZDl (K : PySem.W.Frag) (sp : Sp) (vs : List V) (H : Hp) (Q : VK) : Prop := ∃ (l : Addr) (us : List V) (kf : Nat → Int), vs = [.ref l] ∧ SqT K H l us ∧ us ≠ [] ∧ (∀ i v, us[i]? = some v → ∀ Q : VK, Q (.int (kf i)) H → sp [v] H Q E0) ∧
 ∀ i v, us[i]? = some v → (∀ j, j < us.length → kf i ≤ kf j ∧ (j < i → kf i < kf j)) → Q v H
def ZGj (K : PySem.W.Frag) (sp : Sp) (t : TA) : TE := fun σ H Q => t σ H fun vs H1 => ZDl K sp vs H1 Q
theorem ZIs {x : Str} {e : Expr} {t : TA} {p kp kpos pos : Pos} (K : PySem.W.Frag) (hK : X.K = K) (hc : X.calm = true) (F : ZQ X.prog X.w X.K X.mg X.base CX0 k f fd ps sp) (hr : Z0 (k + 1) X.A) (hgm : Gl X "min") (hmm : X.mg "min" = none) (hg : Gl X x) (hm : X.mg x = some (.ref f)) (hb : ZN X.K fd ps []) (ha : QA X [e] t)
  (hs : Jm e = false := by rfl) (hd : (x == ("__debug__" : Str)) = false := by decide) : QE X (.Call (.Name "min" p) [e] [⟨some "key", .Name x kp, kpos⟩] pos) (ZGj K sp t) := by
 subst hK
 refine ⟨?_⟩
 intro pins s σ H Q I h
 refine wpAny_Call_Name_kw (ZAa I hgm hmm ZF8 ?_ (by decide) (by decide))
 have hse := Jy (e := e) (es := []) (env := X.env) hs
 refine PyProof.Rows.callWith_kw (thn (ha.h pos pins s σ H _ I h) fun us s1 ⟨vs, H1, I1, r1, q1⟩ => PyProof.Rows.kws_cons (Jw I1 hg hm (PyProof.Rows.kws_nil ?_) hd)) (by rw [hse]; rfl) (by rw [hse]; rfl)
 obtain ⟨l, ws, kf, e1, g1, g2, g3, g4⟩ := q1
 subst e1
 obtain ⟨u, rfl, ru⟩ := r1.one
 cases ru
 exact ZFW hc F hr.in1 hb kf I1 g1 g2 g3 g4
theorem ZIt {K : PySem.W.Frag} {H : Hp} {Q : VK} {sp : Sp} {l : Addr} {us : List V} (kf : Nat → Int) (h1 : SqT K H l us) (h2 : us ≠ []) (h3 : ∀ i v, us[i]? = some v → ∀ Q : VK, Q (.int (kf i)) H → sp [v] H Q E0)
 (h : ∀ i v, us[i]? = some v → (∀ j, j < us.length → kf i ≤ kf j ∧ (j < i → kf i < kf j)) → Q v H) : ZDl K sp [.ref l] H Q := ⟨l, us, kf, rfl, h1, h2, h3, h⟩
theorem ZHW {K : PySem.W.Frag} {sp : Sp} {t : TA} {σ : St} {H : Hp} {Q : VK} (h : t σ H fun vs H1 => ZDl K sp vs H1 Q) : ZGj K sp t σ H Q := h
def ZGk (K : PySem.W.Frag) (sp : Sp) (vs : List V) (H : Hp) (Q : VK) : Prop := ∃ (l : Addr) (us : List V) (kf : Nat → Int), vs = [.ref l] ∧ SqL K H l us ∧ us ≠ [] ∧ (∀ i v, us[i]? = some v → ∀ Q : VK, Q (.int (kf i)) H → sp [v] H Q E0) ∧
 ∀ i v, us[i]? = some v → (∀ j, j < us.length → kf i ≥ kf j ∧ (j < i → kf i > kf j)) → Q v H
def ZMJ (K : PySem.W.Frag) (sp : Sp) (t : TA) : TE := fun σ H Q => t σ H fun vs H1 => ZGk K sp vs H1 Q
theorem ZHX {K : PySem.W.Frag} {sp : Sp} {t : TA} {σ : St} {H : Hp} {Q : VK} (h : t σ H fun vs H1 => ZGk K sp vs H1 Q) : ZMJ K sp t σ H Q := h
theorem ZFX {pins : List (Addr × Obj)} {σ : St} {H : Hp} (hc : X.calm = true) (F : ZQ X.prog X.w X.K X.mg X.base CX0 k f fd ps sp) (hr : Z0 k X.A.in1) (hb : ZN X.K fd ps []) {l I S : Addr} {us : List V} (kf : Nat → Int) (hSI : S ≠ I) (hS : SqT X.K H l us)
  (fI : Yh X pins H I) (fS : Yh X pins H S) (turn : ∀ i v, us[i]? = some v → ∀ Q : VK, Q (.int (kf i)) H → sp [v] H Q E0) {R : Result → Shared → Prop}
  (hR : ∀ i v u s', us[i]? = some v → ZX v u → (∀ j, j < us.length → kf i ≥ kf j ∧ (j < i → kf i > kf j)) → Inv X pins σ H s' → R (.ok (.ret u)) s') :
  ∀ (r j i : Nat) (s : Shared) (v : V) (vb : Value) (tb : Tok) (c : Nat), us.length - (j + 1) = r → j + 1 ≤ us.length → Inv X pins σ H s → s.heap.get? S = some (seqObj "list" #[vb, .int (kf i) tb] c) → s.heap.IsTupleIter I l (j + 1) →
   us[i]? = some v → ZX v vb → i ≤ j → (∀ j', j' ≤ j → kf i ≥ kf j' ∧ (j' < i → kf i > kf j')) →
   codeAny (model X.prog X.w) X.A (.builtin "max.loop" ⟨[.ref I, .ref f, .ref S], []⟩) R s := by
 have hname : (toString "max" ++ toString ".loop" : String) = "max.loop" := by decide
 intro r
 induction r with
 | zero =>
  intro j i s v vb tb c hr' hj J nS hit hv rv hij hbest
  have hin : j + 1 = us.length := by omega
  obtain ⟨its, rvs, p, hz⟩ := J.tuple hS
  have hl := rvs.length
  refine codeAny_builtin PySem.F.entry_max_loop ?_
  rw [Around.under_plainId PySem.F.plain_max_loop _]
  show wpAny _ X.A.in1 (seqItems? (.ref S) >>= _) _ _ _
  refine wpAny_bind (wpAny_seqItems nS rfl ?_)
  show wpAny _ X.A.in1 (tryCatch (pyNext (.ref I)) _ >>= _) _ _ _
  refine wpAny_bind (wpAny_tryCatch (wpAny_pyNext_tuple_end (J.ok.hd hc) hit (show s.heap.IsTuple l its.toArray from p) (by simp; omega) fun h' eb => ?_))
  have J1 : Inv X pins σ H { s with heap := h' } := J.turnedAt (t' := s.toks) fI fun b o hb e => eb b o hb e
  have hS' : h'.get? S = some (seqObj "list" #[vb, .int (kf i) tb] c) := eb S _ hSI nS
  show wpAny _ X.A.in1 (updateSeq S (fun _ => #[]) >>= _) _ _ _
  refine wpAny_bind ?_
  refine wpAny_updateSeq hS' rfl (wpAny_bind (wpAny_letGo (wpAny_pure ?_)))
  exact hR i v vb _ hv rv (fun j' hj' => hbest j' (by omega)) (J1.turnedAt (t' := s.toks) fS fun b o hb e => (Heap.get?_update_other _ _ (Ne.symm hb)).trans e)
 | succ r ih =>
  intro j i s v vb tb c hr' hj J nS hit hv rv hij hbest
  have hlt : j + 1 < us.length := by omega
  obtain ⟨its, rvs, p, hz⟩ := J.tuple hS
  have hx : us[j + 1]? = some us[j + 1] := List.getElem?_eq_getElem hlt
  obtain ⟨u, hu, ru⟩ := rvs.get hx
  refine codeAny_builtin PySem.F.entry_max_loop ?_
  rw [Around.under_plainId PySem.F.plain_max_loop _]
  show wpAny _ X.A.in1 (seqItems? (.ref S) >>= _) _ _ _
  refine wpAny_bind (wpAny_seqItems nS rfl ?_)
  show wpAny _ X.A.in1 (tryCatch (pyNext (.ref I)) _ >>= _) _ _ _
  refine wpAny_bind (wpAny_tryCatch (wpAny_pyNext_tuple_item hit (show s.heap.IsTuple l its.toArray from p) (x := u) (by simpa using hu) fun h' st' sb => ?_))
  have J1 : Inv X pins σ H { s with heap := h' } := J.turnedAt (t' := s.toks) fI fun b o hb e => (sb.2 b hb).trans e
  have hS' : h'.get? S = some (seqObj "list" #[vb, .int (kf i) tb] c) := (sb.2 S hSI).trans nS
  obtain ⟨oI, hoI, hoc, hod⟩ := id st'
  have J2 := J1.pin2 (s := { s with heap := h' }) fS fI hS' hoI (fun v z => by cases z) (fun v z => by rw [hod] at z; cases z)
  show wpAny _ X.A.in1 (tryCatch (holding [u] (call (.ref f) [u])) _ >>= _) _ _ _
  refine wpAny_bind (wpAny_tryCatch (wpAny_holding (wpAny_mono (ZDG (E1 := fun _ _ => False) F hr hb J2 (.cons ru .nil) (turn (j + 1) _ hx (fun v H' => v = .int (kf (j + 1)) ∧ H' = H) ⟨rfl, rfl⟩)) (fun x s'' he => ?_) fun _ _ hF => hF.elim)))
  obtain ⟨v2, H2, J3, r2, e2, e3⟩ := he
  subst e2 e3
  obtain ⟨t2, rfl⟩ := r2
  obtain ⟨nS2, nI2, J4⟩ := J3.unpin2
  have hit2 : s''.heap.IsTupleIter I l (j + 1 + 1) := ⟨oI, nI2, hoc, hod⟩
  show wpAny _ X.A.in1 (tryCatch (holding [u, .int (kf (j + 1)) t2] (richCompare .Gt (.int (kf (j + 1)) t2) (.int (kf i) tb) >>= _)) _ >>= _) _ _ _
  refine wpAny_bind (wpAny_tryCatch (wpAny_holding (wpAny_bind (CmpOf.ints_gt (prog := X.prog) (w := X.w) (A := X.A.in1) (P := fun i v => ∃ t, v = .int (kf i) t) kf (fun i v h => h) (j + 1) i _ _ _ _ _ ⟨t2, rfl⟩ ⟨tb, rfl⟩ ?_))))
  refine wpAny_bind (wpAny_holding (wpAny_truthy_bool ?_))
  refine wpAny_bind (wpAny_letGo (wpAny_pure ?_))
  by_cases hb' : kf (j + 1) > kf i
  ·obtain ⟨c2, hc2⟩ : ∃ c2, (s''.heap.update S (Obj.mapSeq fun _ => #[u, .int (kf (j + 1)) t2])).get? S = some (seqObj "list" #[u, .int (kf (j + 1)) t2] c2) := ⟨_, get?_update_seq nS2 fun _ => #[u, .int (kf (j + 1)) t2]⟩
   simp only [hb', decide_true, if_true]
   refine wpAny_bind ?_
   refine wpAny_updateSeq nS2 rfl (wpAny_bind (wpAny_letGo ?_))
   rw [hname]
   refine wpAny_pure ⟨plainId_quiet PySem.F.plain_max_loop _, ih (j + 1) (j + 1) _ _ u t2 c2 (by omega) hlt (J4.turnedAt (t' := s''.toks) fS fun b o hb e => (Heap.get?_update_other _ _ (Ne.symm hb)).trans e) hc2 ⟨oI, (Heap.get?_update_other _ _ hSI).trans nI2, hoc, hod⟩ hx ru (Nat.le_refl _) fun j' hj' => ?_⟩
   by_cases e : j' = j + 1
   ·subst e
    exact ⟨by omega, fun _ => by omega⟩
   ·have hb1 := hbest j' (by omega)
    have hb2 := hb1.1
    exact ⟨by omega, fun _ => by omega⟩
  ·simp only [hb', decide_false, Bool.false_eq_true, if_false]
   refine wpAny_bind (wpAny_letGo ?_)
   rw [hname]
   refine wpAny_pure ⟨plainId_quiet PySem.F.plain_max_loop _, ih (j + 1) i _ v vb tb c (by omega) hlt J4 nS2 hit2 hv rv (by omega) fun j' hj' => ?_⟩
   by_cases e : j' = j + 1
   ·subst e
    exact ⟨by omega, fun _ => by omega⟩
   ·exact hbest j' (by omega)
theorem ZFY {pins : List (Addr × Obj)} {σ : St} {H : Hp} {s : Shared} {Q : VK} {E1 : Value → Shared → Prop} (hc : X.calm = true) (F : ZQ X.prog X.w X.K X.mg X.base CX0 k f fd ps sp) (hr : Z0 k X.A.in1) (hb : ZN X.K fd ps []) {l : Addr} {us : List V} (kf : Nat → Int) (J : Inv X pins σ H s) (hS : SqT X.K H l us) (hne : us ≠ [])
  (turn : ∀ i v, us[i]? = some v → ∀ Q : VK, Q (.int (kf i)) H → sp [v] H Q E0) (hQ : ∀ i v, us[i]? = some v → (∀ j, j < us.length → kf i ≥ kf j ∧ (j < i → kf i > kf j)) → Q v H) :
  wpAny (model X.prog X.w) X.A (call (.builtin "max") [.ref l] [(Str.ofString "key", .ref f)]) (EP X pins σ Q) E1 s := by
 have hname : (toString "max" ++ toString ".loop" : String) = "max.loop" := by decide
 have hpos : 0 < us.length := List.length_pos_iff.mpr hne
 obtain ⟨its, rvs, p, hz⟩ := J.tuple hS
 have hls : s.heap.IsTuple l its.toArray := p
 refine kmk_tree PySem.F.kind_max PySem.F.plain_max PySem.F.entry_max (kmk_max_key _ _) ?_
 show wpAny _ X.A.in1 (Builtin.Builtins.bindParams "max" ["key", "default"] 0 ⟨[], [(Str.ofString "key", .ref f)]⟩ >>= _) _ _ s
 refine wpAny_bind (wpAny_of_eq (show Builtin.Builtins.bindParams "max" ["key", "default"] 0 ⟨[], [(Str.ofString "key", .ref f)]⟩ = pure [some (.ref f), none] from rfl) ?_)
 refine wpAny_bind (wpAny_pure ?_)
 refine wpAny_bind (wpAny_pyIter_tuple hls ?_)
 refine wpAny_bind (wpAny_newList ?_ (Nat.zero_le _))
 rw [hname]
 refine wpAny_pure ⟨plainId_quiet PySem.F.plain_max_loop _, ?_⟩
 generalize hO : ({ cls := .type "tuple_iterator", data := .fields #[.ref l, .int 0 0] } : Obj) = O
 have hSs : (s.heap.push O).objs.size = s.heap.objs.size + 1 := size_push' ..
 have hSI : (s.heap.push O).objs.size ≠ s.heap.objs.size := by rw [hSs]; exact Nat.ne_of_gt (Nat.lt_succ_self _)
 have gI : ((s.heap.push O).push (seqObj "list" #[] 0)).get? s.heap.objs.size = some O := Heap.get?_push_of_some _ (Heap.get?_push_size _ (by rw [← hO]; rfl))
 have gS : ((s.heap.push O).push (seqObj "list" #[] 0)).get? (s.heap.push O).objs.size = some (seqObj "list" #[] 0) := Heap.get?_push_size _ rfl
 have fI : Yh X pins H s.heap.objs.size := J.fpOk (Nat.le_refl _) (J.hok.fresh (Nat.le_refl _))
 have fS : Yh X pins H (s.heap.push O).objs.size := J.fpOk (by rw [hSs]; exact Nat.le_succ _) (J.hok.fresh (by rw [hSs]; exact Nat.le_succ _))
 have J0 : Inv X pins σ H { s with heap := (s.heap.push O).push (seqObj "list" #[] 0) } := J.kept (t' := s.toks) fun b o e => Heap.get?_push_of_some _ (Heap.get?_push_of_some _ e)
 obtain ⟨its0, rvs0, p0, hz0⟩ := J0.tuple hS
 have hx : us[0]? = some us[0] := List.getElem?_eq_getElem hpos
 obtain ⟨u, hu, ru⟩ := rvs0.get hx
 refine codeAny_builtin PySem.F.entry_max_loop ?_
 rw [Around.under_plainId PySem.F.plain_max_loop _]
 show wpAny _ X.A.in1 (seqItems? (.ref _) >>= _) _ _ _
 refine wpAny_bind (wpAny_seqItems gS rfl ?_)
 show wpAny _ X.A.in1 (tryCatch (pyNext (.ref s.heap.objs.size)) _ >>= _) _ _ _
 refine wpAny_bind (wpAny_tryCatch (wpAny_pyNext_tuple_item (s := { s with heap := (s.heap.push O).push (seqObj "list" #[] 0) }) (i := 0) ⟨O, gI, by rw [← hO], by rw [← hO]; rfl⟩ (show ((s.heap.push O).push (seqObj "list" #[] 0)).IsTuple l its0.toArray from p0) (x := u) (by simpa using hu) fun h' st' sb => ?_))
 have J1 : Inv X pins σ H { s with heap := h' } := J0.turnedAt (t' := s.toks) fI fun b o hb e => (sb.2 b hb).trans e
 have hS' : h'.get? (s.heap.push O).objs.size = some (seqObj "list" #[] 0) := (sb.2 _ hSI).trans gS
 obtain ⟨oI, hoI, hoc, hod⟩ := id st'
 have J2 := J1.pin2 (s := { s with heap := h' }) fS fI hS' hoI (fun v z => by cases z) (fun v z => by rw [hod] at z; cases z)
 show wpAny _ X.A.in1 (tryCatch (holding [u] (call (.ref f) [u])) _ >>= _) _ _ _
 refine wpAny_bind (wpAny_tryCatch (wpAny_holding (wpAny_mono (ZDG (E1 := fun _ _ => False) F hr hb J2 (.cons ru .nil) (turn 0 _ hx (fun v H' => v = .int (kf 0) ∧ H' = H) ⟨rfl, rfl⟩)) (fun x s'' he => ?_) fun _ _ hF => hF.elim)))
 obtain ⟨v2, H2, J3, r2, e2, e3⟩ := he
 subst e2 e3
 obtain ⟨t2, rfl⟩ := r2
 obtain ⟨nS2, nI2, J4⟩ := J3.unpin2
 obtain ⟨c2, hc2⟩ : ∃ c2, (s''.heap.update (s.heap.push O).objs.size (Obj.mapSeq fun _ => #[u, .int (kf 0) t2])).get? (s.heap.push O).objs.size = some (seqObj "list" #[u, .int (kf 0) t2] c2) := ⟨_, get?_update_seq nS2 fun _ => #[u, .int (kf 0) t2]⟩
 show wpAny _ X.A.in1 (updateSeq (s.heap.push O).objs.size (fun _ => #[u, .int (kf 0) t2]) >>= _) _ _ _
 refine wpAny_bind ?_
 refine wpAny_updateSeq nS2 rfl ?_
 rw [hname]
 refine wpAny_pure ⟨plainId_quiet PySem.F.plain_max_loop _, ZFX hc F hr hb kf hSI hS fI fS turn (fun i v u s' hv rv hbest J' => ⟨v, _, J', rv, hQ i v hv hbest⟩) _ 0 0 _ _ u t2 c2 rfl hpos (J4.turnedAt (t' := s''.toks) fS fun b o hb e => (Heap.get?_update_other _ _ (Ne.symm hb)).trans e) hc2 ⟨oI, (Heap.get?_update_other _ _ hSI).trans nI2, hoc, hod⟩ hx ru (Nat.le_refl _) fun j' hj' => ?_⟩
 have e : j' = 0 := by omega
 subst e
 exact ⟨by omega, fun h => absurd h (Nat.lt_irrefl _)⟩
def ZDm (K : PySem.W.Frag) (sp : Sp) (vs : List V) (H : Hp) (Q : VK) : Prop := ∃ (l : Addr) (us : List V) (kf : Nat → Int), vs = [.ref l] ∧ SqT K H l us ∧ us ≠ [] ∧ (∀ i v, us[i]? = some v → ∀ Q : VK, Q (.int (kf i)) H → sp [v] H Q E0) ∧
 ∀ i v, us[i]? = some v → (∀ j, j < us.length → kf i ≥ kf j ∧ (j < i → kf i > kf j)) → Q v H
def ZGl (K : PySem.W.Frag) (sp : Sp) (t : TA) : TE := fun σ H Q => t σ H fun vs H1 => ZDm K sp vs H1 Q
theorem ZIu {x : Str} {e : Expr} {t : TA} {p kp kpos pos : Pos} (K : PySem.W.Frag) (hK : X.K = K) (hc : X.calm = true) (F : ZQ X.prog X.w X.K X.mg X.base CX0 k f fd ps sp) (hr : Z0 (k + 1) X.A) (hgm : Gl X "max") (hmm : X.mg "max" = none) (hg : Gl X x) (hm : X.mg x = some (.ref f)) (hb : ZN X.K fd ps []) (ha : QA X [e] t)
  (hs : Jm e = false := by rfl) (hd : (x == ("__debug__" : Str)) = false := by decide) : QE X (.Call (.Name "max" p) [e] [⟨some "key", .Name x kp, kpos⟩] pos) (ZGl K sp t) := by
 subst hK
 refine ⟨?_⟩
 intro pins s σ H Q I h
 refine wpAny_Call_Name_kw (ZAa I hgm hmm ZEK ?_ (by decide) (by decide))
 have hse := Jy (e := e) (es := []) (env := X.env) hs
 refine PyProof.Rows.callWith_kw (thn (ha.h pos pins s σ H _ I h) fun us s1 ⟨vs, H1, I1, r1, q1⟩ => PyProof.Rows.kws_cons (Jw I1 hg hm (PyProof.Rows.kws_nil ?_) hd)) (by rw [hse]; rfl) (by rw [hse]; rfl)
 obtain ⟨l, ws, kf, e1, g1, g2, g3, g4⟩ := q1
 subst e1
 obtain ⟨u, rfl, ru⟩ := r1.one
 cases ru
 exact ZFY hc F hr.in1 hb kf I1 g1 g2 g3 g4
theorem ZIv {K : PySem.W.Frag} {H : Hp} {Q : VK} {sp : Sp} {l : Addr} {us : List V} (kf : Nat → Int) (h1 : SqT K H l us) (h2 : us ≠ []) (h3 : ∀ i v, us[i]? = some v → ∀ Q : VK, Q (.int (kf i)) H → sp [v] H Q E0)
 (h : ∀ i v, us[i]? = some v → (∀ j, j < us.length → kf i ≥ kf j ∧ (j < i → kf i > kf j)) → Q v H) : ZDm K sp [.ref l] H Q := ⟨l, us, kf, rfl, h1, h2, h3, h⟩
theorem ZHY {K : PySem.W.Frag} {sp : Sp} {t : TA} {σ : St} {H : Hp} {Q : VK} (h : t σ H fun vs H1 => ZDm K sp vs H1 Q) : ZGl K sp t σ H Q := h
end
end L2
set_option Elab.async false
set_option linter.all false
set_option maxRecDepth 100000
set_option maxHeartbeats 4000000
namespace L2
open PySem PySem.Spec PyProof.Rows
section
variable {X : Cx}
end
end L2
set_option Elab.async false
set_option linter.all false
set_option maxRecDepth 100000
set_option maxHeartbeats 4000000
namespace L2
open PySem PySem.Spec PyProof.Rows
section
variable {prog : Program} {w : World} {A : Around} {E : Value → Shared → Prop}
end
section
variable {X : Cx}
def ZKJ (p : Addr) (x y : V) (H2 : Hp) (Q : VK) : Prop := ∃ (b : Addr) (ks : List Key), x = .ref b ∧ H2 b = some (.tup (ks.map kV)) ∧ H2 p = some (.dT []) ∧ Q (.ref p) (upd H2 p (.dT [(ks, y)]))
def ZRK (tk tv : TE) : TE := fun σ H Q => ∀ p, H p = none → tk σ (upd H p (.dT [])) fun x H1 => tv σ H1 fun y H2 => ZKJ p x y H2 Q
theorem ZKK {σ : St} {H : Hp} {Q : VK} {tk tv : TE} (h : ∀ p, H p = none → tk σ (upd H p (.dT [])) fun x H1 => tv σ H1 fun y H2 => ZKJ p x y H2 Q) : ZRK tk tv σ H Q := h
end
end L2
set_option Elab.async false
set_option linter.all false
set_option maxRecDepth 100000
set_option maxHeartbeats 4000000
namespace L2
open PySem PySem.Spec PyProof.Rows PySem.W
section
variable {X : Cx} {o e value : Expr} {f m : Str} {pos pos' tpos apos : Pos} {ta tv : TE} {t : TA}
def ZRL (K : PySem.W.Frag) (f : Str) (x : V) (H : Hp) (Q : VK) : Prop := ∃ a C dx fs v, x = .ref a ∧ H a = some (.ins C dx fs) ∧ Cls K C ∧ YD K C f ∧ fs.lookup f = some v ∧ Q v H
def ZNe (K : PySem.W.Frag) (f : Str) (y x : V) (H : Hp) (R : Hp → Prop) : Prop := ∃ a C dx fs, x = .ref a ∧ H a = some (.ins C dx fs) ∧ Cls K C ∧ YD K C f ∧ fs.length < 1000 ∧ R (upd H a (.ins C dx (Zn f y fs)))
theorem Zl (K : PySem.W.Frag) (hK : X.K = K) (he : QE X e ta) (hb : attributeBase e f X.env (eval e X.env) = eval e X.env := by rfl) : QE X (.Attribute e f pos) (ZLX K ta f) := by
 subst hK
 exact ⟨ZQL he.h hb⟩
theorem Yu (K : PySem.W.Frag) (hK : X.K = K) (ho : QE X o ta) (hv : QE X value tv) (hs : Jg value = false := by rfl) : QS X (.Assign [.Attribute o f pos'] value pos) (ZLY K ta tv f) := by
 subst hK
 exact ⟨ZQM ho.h hv.h (ZAJ hs)⟩
theorem ZFD (K : PySem.W.Frag) (hK : X.K = K) (ho : QE X o ta) (hv : QE X value tv) : QS X (.AugAssign (.Attribute o f tpos) .Add value pos) (ZEe K ta tv ZF1 f) := by
 subst hK
 exact ⟨ZJf ho.h hv.h ZQN⟩
section
variable {CX : CXT} {k : Nat} {fa C : Addr} {fd : FuncData} {ps : List Str} {sp : Sp} {dvs : List V} {ds : List Value} {E : XK} {es : List Expr} {x : Str} {p : Pos}
theorem Zw {pl : Sem Bool} (he : QE X o ta) (c : Cls X.K C) (hm : YV X.K C m fa) (F : ZQ X.prog X.w X.K X.mg X.base CX k fa fd ps sp) (hr : Z0 k X.A) (hb : ZN X.K fd ps ds) (hd : ZV dvs ds) (hx : Y2 CX X E) (ha : QA X (e :: es) t) (hns : YM (e :: es) = true := by rfl)
 (ht : eval (.Call (.Attribute o m apos) (e :: es) [] pos) X.env = (do
  let ov ← eval o X.env
  standAt apos.atName
  let (f, first) ← holding [ov] (getMethod ov m pl)
  callWith pos f first (backTo pos (starEach (e :: es) X.env)) (backToKw pos (keywordEach [] X.env))) := by rfl) :
 QE X (.Call (.Attribute o m apos) (e :: es) [] pos) (ZEE C m sp dvs E ta t) := ⟨ZN8 he.h c hm F hr hb hd hx ha.h (Jf hns) (JF (JB hns)) ht⟩
theorem JH {pl : Sem Bool} (he : QE X o ta) (c : Cls X.K C) (hm : YV X.K C m fa) (F : ZQ X.prog X.w X.K X.mg X.base CX k fa fd ps sp) (hr : Z0 k X.A) (hb : ZN X.K fd ps ds) (hd : ZV dvs ds) (hx : Y2 CX X E)
 (ht : eval (.Call (.Attribute o m apos) [] [] pos) X.env = (do
  let ov ← eval o X.env
  standAt apos.atName
  let (f, first) ← holding [ov] (getMethod ov m pl)
  callWith pos f first (backTo pos (starEach [] X.env)) (backToKw pos (keywordEach [] X.env))) := by rfl) :
 QE X (.Call (.Attribute o m apos) [] [] pos) (ZEE C m sp dvs E ta ZF2) := ⟨ZLb he.h c hm F hr hb hd hx ht⟩
theorem ZDH (M : Mk X.K C fa) (F : ZQ X.prog X.w X.K X.mg X.base CX k fa fd ps sp) (hr : Z0 (k + 1) X.A) (hg : Gl X x) (hm : X.mg x = some (.ref C)) (hb : ZN X.K fd ps ds) (hd : ZV dvs ds) (hx : Y2 CX X E) (ha : QA X (e :: es) t)
 (hns : YM (e :: es) = true := by rfl) (hdb : (x == ("__debug__" : Str)) = false := by decide) : QE X (.Call (.Name x p) (e :: es) [] pos) (ZIV C sp dvs E t) := ⟨ZN9 M F hr hg hm hb hd hx ha.h hdb (Jf hns) (JF (JB hns))⟩
end
end
section
variable {K : PySem.W.Frag} {σ : St} {H : Hp} {Q : VK} {D : Z8} {f m : Str} {ta tv : TE} {t : TA} {C : Addr} {sp : Sp} {dvs : List V} {E : XK}
theorem ZOz (h : ta σ H fun x H1 => ZRL K f x H1 Q) : ZLX K ta f σ H Q := h
theorem Z3 {a dx : Addr} {fs : List (Str × V)} {v : V} (h1 : H a = some (.ins C dx fs)) (c : Cls K C) (n : YD K C f) (l : fs.lookup f = some v) (q : Q v H) : ZRL K f (.ref a) H Q := ⟨a, C, dx, fs, v, rfl, h1, c, n, l, q⟩
theorem ZMK (h : tv σ H fun y H1 => ta σ H1 fun x H2 => ZNe K f y x H2 (D.nx σ)) : ZLY K ta tv f D σ H := h
theorem Yg {a dx : Addr} {fs : List (Str × V)} {y : V} {R : Hp → Prop} (h1 : H a = some (.ins C dx fs)) (c : Cls K C) (n : YD K C f) (l : fs.length < 1000) (q : ∀ H2, H2 a = some (.ins C dx (Zn f y fs)) → Kp a H H2 → R H2) : ZNe K f y (.ref a) H R := ⟨a, C, dx, fs, rfl, h1, c, n, l, q _ ZS Kp.upd⟩
def ZH4 (K : PySem.W.Frag) (f : Str) (tv : TE) (σ : St) (R : Hp → Prop) (x : V) (H : Hp) : Prop := ∃ a C dx fs v, x = .ref a ∧ H a = some (.ins C dx fs) ∧ Cls K C ∧ YD K C f ∧ fs.lookup f = some v ∧
 tv σ H fun y H2 => ZF1 v y H2 fun z H3 => ∃ dx' fs', H3 a = some (.ins C dx' fs') ∧ fs'.length < 1000 ∧ R (upd H3 a (.ins C dx' (Zn f z fs')))
theorem ZIw (h : ta σ H fun x H1 => ZH4 K f tv σ (D.nx σ) x H1) : ZEe K ta tv ZF1 f D σ H := h
def ZES (C : Addr) (m : Str) (x : V) (H : Hp) (R : Prop) : Prop := ∃ a dx fs, x = .ref a ∧ H a = some (.ins C dx fs) ∧ fs.lookup m = none ∧ R
theorem ZML (h : ta σ H fun x H1 => ZES C m x H1 (t σ H1 fun vs H2 => sp (x :: (vs ++ dvs)) H2 Q E)) : ZEE C m sp dvs E ta t σ H Q := h
theorem Zf {a dx : Addr} {fs : List (Str × V)} {R : Prop} (h1 : H a = some (.ins C dx fs)) (l : fs.lookup m = none) (q : R) : ZES C m (.ref a) H R := ⟨a, dx, fs, rfl, h1, l, q⟩
def ZFv (C : Addr) (sp : Sp) (dvs : List V) (E : XK) (vs : List V) (H : Hp) (Q : VK) : Prop := ∀ x dx, H x = none → H dx = none → dx ≠ x → sp (.ref x :: (vs ++ dvs)) (upd (upd H dx (.own x)) x (.ins C dx [])) (fun v H2 => v = .non ∧ Q (.ref x) H2) E
theorem ZMM (h : t σ H fun vs H1 => ZFv C sp dvs E vs H1 Q) : ZIV C sp dvs E t σ H Q := h
theorem ZDI {vs : List V} (h : ∀ x dx H2, H x = none → H2 x = some (.ins C dx []) → ZK H H2 → sp (.ref x :: (vs ++ dvs)) H2 (fun v H3 => v = .non ∧ Q (.ref x) H3) E) : ZFv C sp dvs E vs H Q := fun x dx hx hdx hne =>
 h x dx _ hx ZS fun b o e => by rw [Za (ZY e hx), Za (ZY e hdx)]; exact e
end
structure ZDn (K : PySem.W.Frag) (x qual : Str) (st : Stmt) (f : Addr) (fd : FuncData) : Prop where
 ex : ∃ (oc : Value) (od : Option Addr) (dV kV doc pm : Value) (an : Option Addr) (cdv ct : Value) (osl : Array (Option Value)),
  fd = PySem.W.fnOf x qual (YK st) (Z5 st) (ZF st) dV kV doc pm an cdv ct ∧ K.lookup f = some ⟨oc, od, .func fd, osl⟩ ∧ PySem.W.codeIn K cdv qual = true
 kp : PySem.W.keepIn K (.ref f) = true
theorem ZDn.ok {P : Program} {w : World} {K : PySem.W.Frag} {mg : Str → Option Value} {base : Heap} {x qual : Str} {st : Stmt} {f : Addr} {fd : FuncData} {N ps : List Str} {k : Nat} {sp : Sp} (F : ZDn K x qual st f fd) (S : ZP N ps (ZF st)) (len : ∀ vs H Q E, sp vs H Q E → vs.length = ps.length)
  (hbody : ∀ (cdv : Value) (A : Around) (outer : List Env) (s : Shared) (H : Hp) (vs : List V) (Q : VK) (E : XK), Z0 k (A.deeper (envOfC qual (ZF st) s.heap.objs.size f cdv)) → sp vs H Q E →
   ∃ t, PSs (ZCj CX0 P w K mg base N qual (ZF st) f cdv A outer s H E).nox (Z5 st) t ∧ t { nx := fun _ H' => Q .non H', rt := Q } (start N vs) H) : ZQ P w K mg base CX0 (k + 1) f fd ps sp := by
 obtain ⟨oc, od, dV, kV, doc, pm, an, cdv, ct, osl, rfl, lk, hcd⟩ := F.ex
 refine ZFr lk hcd S len fun A outer s H vs Q E hr hsp => ?_
 obtain ⟨t, h, q⟩ := hbody cdv A outer s H vs Q E hr hsp
 exact ⟨t, h.nox, q⟩
section
variable {K : PySem.W.Frag} {σ : St} {H : Hp} {Q : VK} {f : Str} {tv td ty : TE} {C : Addr}
theorem ZET {a dx : Addr} {fs : List (Str × V)} {v : V} {R : Hp → Prop} (h1 : H a = some (.ins C dx fs)) (c : Cls K C) (n : YD K C f) (l : fs.lookup f = some v)
 (q : tv σ H fun y H2 => ZF1 v y H2 fun z H3 => ∃ dx' fs', H3 a = some (.ins C dx' fs') ∧ fs'.length < 1000 ∧ R (upd H3 a (.ins C dx' (Zn f z fs')))) : ZH4 K f tv σ R (.ref a) H := ⟨a, C, dx, fs, v, rfl, h1, c, n, l, q⟩
def ZCo (a : Addr) (y : V) (H : Hp) (Q : VK) : Prop := ∃ o, YY H a y o ∧ Q (o.getD .non) H
def ZGm (ty : TE) (σ : St) (Q : VK) (x : V) (H : Hp) : Prop := ∃ a, x = .ref a ∧ IsD H a ∧ ty σ H fun y H2 => ZCo a y H2 Q
theorem ZKL (h : td σ H fun x H1 => ZGm ty σ Q x H1) : ZGM td ty σ H Q := h
theorem ZCp {a : Addr} {kvs : List (List Key × V)} (h1 : H a = some (.dT kvs)) (q : ty σ H fun y H2 => ZCo a y H2 Q) : ZGm ty σ Q (.ref a) H := ⟨a, rfl, .inr ⟨kvs, .inl h1⟩, q⟩
theorem ZDo {a b : Addr} {kvs : List (List Key × V)} {k : List Key} (h1 : H a = some (.dT kvs)) (hb : H b = some (.tup (k.map kV))) (q : Q ((Zh kvs k).getD .non) H) : ZCo a (.ref b) H Q := ⟨_, YY.t h1 hb, q⟩
theorem ZFE {a : Addr} {kvs : List (Key × V)} (h1 : H a = some (.dK kvs)) (q : ty σ H fun y H2 => ZCo a y H2 Q) : ZGm ty σ Q (.ref a) H := ⟨a, rfl, .inl ⟨kvs, .inl h1⟩, q⟩
theorem ZGn {a : Addr} {m : List (Int × Int)} {i : Int} (h1 : H a = some (.dK (Zj m))) (q : Q (((Ze m i).map V.int).getD .non) H) : ZCo a (.int i) H Q := ⟨_, YY.k (k := Sum.inl i) h1, by rw [Jb]; exact q⟩
theorem ZA0 {a b : Addr} {kvs : List (List Key × V)} {k : List Key} {v : V} {R : Hp → Prop} (h1 : H a = some (.dT kvs)) (hb : H b = some (.tup (k.map kV))) (hz : kvs.length < sizeLine) (h : ∀ H2, H2 a = some (.dT (Yj kvs k v)) → Kp a H H2 → R H2) : ZIn v (.ref a) (.ref b) H R :=
 ⟨a, _, rfl, ZCC.t h1 hb hz, h _ ZS Kp.upd⟩
end
section
variable {X : Cx} {o e : Expr} {apos cpos pos p : Pos} {td ty to : TE}
theorem ZA1 (hu : X.A.units + 1 < cLine) (ho : QE X o td) (he : QE X e ty) (m : M1 X o "get" apos e cpos := by exact ⟨rfl, rfl, rfl, rfl⟩) : QE X (.Call (.Attribute o "get" apos) [e] [] cpos) (ZGM td ty) := ⟨ZL5 hu ho.h he.h m⟩
theorem ZDp : QE X (.Dict [] [] pos) ZGL := ⟨ZL4⟩
def ZKM (H : Hp) (Q : VK) : Prop := ∀ p, H p = none → Q (.ref p) (upd H p (.dT []))
theorem ZKN {σ : St} {H : Hp} {Q : VK} (h : ZKM H Q) : ZGL σ H Q := h
theorem ZDq {H : Hp} {Q : VK} (h : ∀ p H2, H p = none → H2 p = some (.dT []) → ZK H H2 → Q (.ref p) H2) : ZKM H Q := fun p hp => h p _ hp ZS (ZK.new hp)
def ZH5 (a : Addr) (m : List (Int × Int)) (H : Hp) (Q : VK) : Prop := m.length ≤ 1000 ∧ ∀ (l : Addr) (vs : List V) (H' : Hp), H l = none → H' l = some (.lst vs) → ZI H' vs m → ZK H H' → Q (.ref l) H'
def ZO0 (to : TE) : TE := fun σ H Q => ZGZ to σ H fun a m H1 => ZH5 a m H1 Q
def ZO1 (x : V) (H : Hp) (Q : VK) : Prop := ∃ a m, x = .ref a ∧ H a = some (.dK (Zj m)) ∧ ZH5 a m H Q
theorem ZIx {σ : St} {H : Hp} {Q : VK} (h : to σ H fun x H1 => ZO1 x H1 Q) : ZO0 to σ H Q := h
end
theorem ZH6 {K : PySem.W.Frag} {x qual : Str} {st : Stmt} {f : Addr} {oc : Value} {od an : Option Addr} {osl : Array (Option Value)} {dV kV doc pm cdv ct : Value} (l : K.lookup f = some ⟨oc, od, .func (PySem.W.fnOf x qual (YK st) (Z5 st) (ZF st) dV kV doc pm an cdv ct), osl⟩)
 (c : PySem.W.codeIn K cdv qual = true) (k : PySem.W.keepIn K (.ref f) = true) : ZDn K x qual st f (PySem.W.fnOf x qual (YK st) (Z5 st) (ZF st) dV kV doc pm an cdv ct) := ⟨⟨oc, od, dV, kV, doc, pm, an, cdv, ct, osl, rfl, l, c⟩, k⟩
def ZH7 (K : PySem.W.Frag) (fd : FuncData) (ps : List Str) (x : Str) : Prop := ∀ (s : Shared) (u v : Value), K.In s.heap → BindsTo s fd ⟨[u], [(x, v)]⟩ (ps.zip [u, v])
section
variable {X : Cx} {k : Nat} {f C : Addr} {fd : FuncData} {ps : List Str} {sp : Sp} {x kw : Str} {p pos kpos : Pos} {e : Expr} {te : TE} {E : XK} {CX : CXT}
def ZRM (C : Addr) (sp : Sp) (E : XK) (te : TE) : TE := fun σ H Q => te σ H fun v H1 => ZFv C sp [] E [v] H1 Q
theorem ZKO {σ : St} {H : Hp} {Q : VK} (h : te σ H fun v H1 => ZFv C sp [] E [v] H1 Q) : ZRM C sp E te σ H Q := h
end
end L2
set_option Elab.async false
set_option linter.all false
set_option maxRecDepth 100000
set_option maxHeartbeats 4000000
namespace L2
open PySem PySem.Spec PyProof.Rows PySem.W
theorem Zz.there {P : Program} {w : World} {H : Hp} {h : Heap} {a : Addr} {o : HO} (x : Zz P w H h a o) : ∃ ob, h.get? a = some ob := by
 cases o with
 | lst xs => obtain ⟨_, _, _, _, e⟩ := x; exact ⟨_, e⟩
 | tup xs => obtain ⟨_, _, _, p⟩ := x; obtain ⟨o, e, _⟩ := p; exact ⟨_, e⟩
 | dK kvs => obtain ⟨_, _, _, _, o, _, _, e, _⟩ := x; exact ⟨_, e⟩
 | dT kvs => obtain ⟨_, _, _, _, o, _, _, e, _⟩ := x; exact ⟨_, e⟩
 | set S n => obtain ⟨o, _, _, _, e, _⟩ := x; exact ⟨_, e⟩
 | ins C dx fs => obtain ⟨_, _, _, e, _⟩ := x; exact ⟨_, e⟩
 | own y => exact x
 | xd fs => obtain ⟨_, ⟨_, _, _, e, _⟩, _⟩ := x; exact ⟨_, e⟩
 | rng lo hi => obtain ⟨_, _, _, e⟩ := x; exact ⟨_, e⟩
 | frz ob u => obtain ⟨e, _⟩ := x; exact ⟨_, e⟩
 | tbl ps => exact ⟨_, (show h.get? a = some _ from x)⟩
 | met f y => exact ⟨_, (show h.get? a = some _ from x)⟩
 | ext φ => obtain ⟨_, e, _⟩ := x; exact e
def Cov (B : Heap) (H' : Hp) (h0 h' : Heap) (fs : List Addr) : Prop := ∀ b o, h'.get? b = some o → b ∉ fs → ((∃ u, H' b = some u) ∨ ∃ o0, h0.get? b = some o0) → B.get? b = some o
def CX1 (P : Program) (w : World) : CXT := fun l H s E ev s' => ∃ (e : Addr) (C a0 : Value) (B : Heap) (H' : Hp), ev = .ref e ∧ s'.os = s.os ∧ AllBare s'.gens ∧ Un (frs l) [] H H' s.heap s'.heap ∧ HOk P w H' s'.heap ∧
 s.heap.get? e = none ∧ H' e = none ∧ Heap.FlyingW B l e C a0 s'.heap ∧ Cov B H' s.heap s'.heap (frs l) ∧ E C none H'
section
variable {P : Program} {w : World} {H H' : Hp} {h0 h' h'' B : Heap} {fs : List Addr}
theorem ZA2 (hok : HOk P w H' h') (un : Un fs [] H H' h0 h') (cov : Cov B H' h0 h' fs) (st : B.StaysIn h'') (up : h'.UpToSlots h'') (fr : ∀ b ∈ fs, H' b = none ∧ ∃ o, h'.get? b = some o ∧ ∀ vs, o.data ≠ .fields vs) :
  HOk P w H' h'' ∧ Un fs [] H H' h0 h'' ∧ Cov B H' h0 h'' fs := by
 have trk : ∀ b u, H' b = some u → b ∉ fs := fun b u e hb => by rw [(fr b hb).1] at e; cases e
 have old : ∀ b o0, h0.get? b = some o0 → ∃ o', h''.get? b = some o' := fun b o0 e => by
  obtain ⟨o', e'⟩ := un.there b o0 e (by simp)
  by_cases hb : b ∈ fs
  ·obtain ⟨_, o, ho, hd⟩ := fr b hb
   obtain ⟨sl, q⟩ := up b o ho hd
   exact ⟨_, q⟩
  ·exact ⟨o', st _ _ (cov b o' e' hb (.inr ⟨o0, e⟩))⟩
 refine ⟨fun b u e => (hok b u e).stay (fun c v hc q => ?_) (fun _ q => q) fun _ _ q => q, ⟨fun b o e n hb hx => ?_, fun b o e n hb hx => ?_, un.free, fun b o e _ => old b o e, un.tups, un.frzs, un.tbls⟩, fun b o e hb ht => ?_⟩
 ·have hc' : ∃ u, H' c = some u := by
   rcases hc with rfl | hc
   ·exact ⟨_, e⟩
   ·exact ⟨_, hc⟩
  obtain ⟨u', hu'⟩ := hc'
  exact st _ _ (cov c v q (trk c u' hu') (.inl ⟨u', hu'⟩))
 ·exact st _ _ (cov b o (un.keep b o e n hb hx) hb (.inr ⟨o, e⟩))
 ·obtain ⟨sl, q⟩ := un.slot b o e n hb hx
  obtain ⟨_, o2, ho2, hd⟩ := fr b hb
  rw [q] at ho2
  cases ho2
  obtain ⟨sl2, q2⟩ := up b _ q hd
  exact ⟨sl2, q2⟩
 ·have : ∃ o1, h'.get? b = some o1 := by
   rcases ht with ⟨u, hu⟩ | ⟨o0, ho0⟩
   ·exact (hok b u hu).there
   ·exact un.there b o0 ho0 (by simp)
  obtain ⟨o1, h1⟩ := this
  have hB := cov b o1 h1 hb ht
  have := st _ _ hB
  rw [e] at this
  cases this
  exact hB
end
section
variable {P : Program} {w : World} {K : PySem.W.Frag} {mg : Str → Option Value} {base : Heap} {N : List Str} {qual : Str} {scope : Scope} {f : Addr} {cd : Value} {A : Around} {outer : List Env} {s : Shared} {H : Hp} {E : XK}
abbrev cxE (P : Program) (w : World) (K : PySem.W.Frag) (mg : Str → Option Value) (base : Heap) (N : List Str) (qual : Str) (scope : Scope) (f : Addr) (cd : Value) (A : Around) (outer : List Env) (s : Shared) (H : Hp) (E : XK) : Cx := ZCj (CX1 P w) P w K mg base N qual scope f cd A outer s H E
theorem ZDr {env : Env} {l : List Env} {L : Addr} (h : env.frame = some L) : frs (env :: l) = L :: frs l := by
 unfold frs
 rw [List.filterMap_cons, h]
theorem ZBt {X : Cx} {pins : List (Addr × Obj)} {σ : St} {H1 : Hp} {s1 : Shared} (I : Inv X pins σ H1 s1) {B h : Heap} {l : List Env} (hl : h.FunFrames B l) (hs : ∀ b ∈ frs l, b ∈ frs X.stack) : ∀ b ∈ frs l, H1 b = none ∧ ∃ o, h.get? b = some o ∧ ∀ vs, o.data ≠ .fields vs :=
 fun b hb => ⟨I.stkFree b (hs b hb), (hl.mem hb).2⟩
theorem ZBM : Y2 (CX1 P w) (cxE P w K mg base N qual scope f cd A outer s H E) E := by
 intro pins σ H1 s1 ev s' I hc
 obtain ⟨e, C, a0, B, H', rfl, os, bare, un, hok, hen, heH, fl, cov, q⟩ := hc
 have I2 := I.call' (ch := []) os un hok bare (fun b z => absurd z (by simp))
 have hfr : (cxE P w K mg base N qual scope f cd A outer s H E).A.frames = some ((cxE P w K mg base N qual scope f cd A outer s H E).env :: outer) := I.ok.frames
 show wpAny (model P w) _ (leaving _ (.ref e)) _ _ s'
 refine wpAny_leaves_onW (L := s.heap.objs.size) hfr rfl fl fun h'' fl2 up => ?_
 have nL : ∀ b o, s.heap.get? b = some o → b ≠ s.heap.objs.size := fun b o e => Nat.ne_of_lt (Heap.lt_size e)
 have efr : frs ((cxE P w K mg base N qual scope f cd A outer s H E).env :: outer) = s.heap.objs.size :: frs outer := ZDr rfl
 have un2 : Un (frs outer) [] H H' s.heap s'.heap := I2.base
 have cov2 : Cov B H' s.heap s'.heap (frs outer) := fun b o hb hn ht => by
  refine cov b o hb (fun z => ?_) (ht.imp id fun ⟨o0, h0⟩ => I.base.there b o0 h0 (show b ∉ ([] : List Addr) by simp))
  have z2 : b ∈ s.heap.objs.size :: frs outer := by rw [← efr]; exact z
  rcases List.mem_cons.mp z2 with rfl | z2
  ·rcases ht with ⟨u, hu⟩ | ⟨o0, h0⟩
   ·have z3 : H' s.heap.objs.size = none := I2.free
    rw [z3] at hu; cases hu
   ·exact nL _ _ h0 rfl
  ·exact hn z2
 have flo : s'.heap.FunFrames B outer := by
  obtain ⟨_, _, ⟨_, _, k⟩, _⟩ := fl
  exact k
 obtain ⟨hok3, un3, cov3⟩ := ZA2 hok un2 cov2 fl2.1 up (ZBt I2 flo fun b hb => by
  show b ∈ frs ((cxE P w K mg base N qual scope f cd A outer s H E).env :: outer)
  rw [efr]; exact List.mem_cons_of_mem _ hb)
 refine ⟨e, C, a0, B, H', rfl, I2.os, bare, un3, hok3, ?_, heH, fl2, cov3, q⟩
 cases z : s.heap.get? e with
 | none => rfl
 | some o =>
  obtain ⟨o', e'⟩ := I.base.there e o z (show e ∉ ([] : List Addr) by simp)
  rw [hen] at e'; cases e'
end
theorem ZH8 {K : PySem.W.Frag} {h : Heap} {C : Addr} {bmB : List Value} {newId : String} (X : K.In h) (q : excIn K C bmB newId = true) :
  ∃ bm N nm q bs hdct sn sub ab col dd k0 k1 k2 k3 k5 mN, h.get? C = some (excClassObj nm q C N bs bm hdct sn sub ab col dd k0 k1 k2 k3 k5 newId) ∧ h.Ns N mN ∧ mN "__init__" = none ∧ OwnTail h bmB bm := by
 unfold excIn at q
 split at q
 ·rename_i dd cd sl ho
  split at q
  ·rename_i C' bm k0 k1 k2 k3 n k5 hm hs
   simp only [Bool.and_eq_true, beq_iff_eq, Bool.not_eq_true'] at q
   obtain ⟨⟨⟨⟨⟨rfl, rfl⟩, hdel⟩, ht⟩, hok⟩, hni⟩ := q
   obtain ⟨nm, bs, mro, ns, qn, hd, sn, sub, ab, col, del⟩ := cd
   dsimp only at hm hdel hok hni
   subst hm hdel
   have hsl : sl = #[k0, k1, k2, k3, some (.builtin n), k5] := by
    obtain ⟨l⟩ := sl
    simp only at hs
    rw [hs]
   subst hsl
   exact ⟨bm, ns, nm, qn, bs, hd, sn, sub, ab, col, dd, k0, k1, k2, k3, k5, _, X _ _ ho, .of_isNs (isNs_of_in X hok), nsMap_none_of_in X hok hni, tail_of_in X ht⟩
  ·cases q
 ·cases q
def ZCq (K : PySem.W.Frag) (C : Addr) : Prop := excIn K C [.type "ValueError", .type "Exception", .type "BaseException", .type "object"] "ValueError.__new__" = true
section
variable {P : Program} {w : World} {K : PySem.W.Frag} {mg : Str → Option Value} {base : Heap} {N : List Str} {qual : Str} {scope : Scope} {f : Addr} {cd : Value} {A : Around} {outer : List Env} {s : Shared} {H : Hp} {E : XK}
 {x : Str} {np cpos pos : Pos} {e₀ : Expr} {es : List Expr} {t : TA} {C : Addr}
def ZGo (E : XK) (C : Addr) (t : TA) : TS := fun _ σ H => t σ H fun vs H1 => vs.length ≤ sizeLine ∧ E (.ref C) none H1
theorem ZMN (hC : ZCq K C) (hg : Gl (cxE P w K mg base N qual scope f cd A outer s H E) x) (hm : mg x = some (.ref C)) (ha : PA (cxE P w K mg base N qual scope f cd A outer s H E) (e₀ :: es) t)
  (hdb : (x == ("__debug__" : Str)) = false := by decide)
  (he : starEach (e₀ :: es) (cxE P w K mg base N qual scope f cd A outer s H E).env = (false, eval e₀ (cxE P w K mg base N qual scope f cd A outer s H E).env) :: starEach es (cxE P w K mg base N qual scope f cd A outer s H E).env := by rfl)
  (hpl : (backTo cpos (starEach es (cxE P w K mg base N qual scope f cd A outer s H E).env)).any (·.1) = false := by rfl) :
  PS (cxE P w K mg base N qual scope f cd A outer s H E) (.Raise (some (.Call (.Name x np) (e₀ :: es) [] cpos)) none pos) (ZGo E C t) := by
 intro pins s1 σ H1 D I h
 have hh : (cxE P w K mg base N qual scope f cd A outer s H E).A.handled = none := I.ok.hd rfl
 obtain ⟨bm, N', nm, qn, bs, hdct, sn, sub, ab, col, dd, k0, k1, k2, k3, k5, mN, hCo, hN, hni, TL⟩ := ZH8 I.ok.mod.kin hC
 have FB := PySem.F.excBase_ValueError
 refine wpAny_Raise_call_subT (C := C) (nm := nm) (q := qn) (N := N') (bs := bs) (bm := bm) (hdct := hdct) (sn := sn) (sub := sub) (ab := ab) (col := col) (dd := dd) (k0 := k0) (k1 := k1) (k2 := k2) (k3 := k3) (k5 := k5)
  FB (mN := mN) (TL.hasType FB.hasBase) hh (by rw [he]; show (false || (backTo cpos (starEach es _)).any (·.1)) = false; rw [hpl]; rfl) hni (Jw I hg hm ⟨rfl, ?_⟩ hdb)
 have hA := ha cpos pins s1 σ H1 _ I h
 rw [he] at hA ⊢
 refine Calls.evalArgs_plain (wpAny_mono hA (fun vs s2 ⟨xs, H2, I2, r, z, q⟩ => ⟨rfl, by rw [← r.length]; exact z, I2.bk _ _ hCo, hN.keeps I2.bk, TL.keeps I2.bk, fun h' e hx => ?_⟩) fun _ _ y => y)
 -- the exception is made: it leaves the frame
 have hfr : (cxE P w K mg base N qual scope f cd A outer s H E).A.frames = some ((cxE P w K mg base N qual scope f cd A outer s H E).env :: outer) := I.ok.frames
 have efr : frs ((cxE P w K mg base N qual scope f cd A outer s H E).env :: outer) = s.heap.objs.size :: frs outer := ZDr rfl
 have stk := I2.stack
 have hin : ∀ env ∈ ((cxE P w K mg base N qual scope f cd A outer s H E).env :: outer), ∀ b, env.frame = some b → b ∈ frs ((cxE P w K mg base N qual scope f cd A outer s H E).env :: outer) := fun env he b hb => List.mem_filterMap.mpr ⟨env, he, hb⟩
 show wpAny (model P w) _ (leaving _ (.ref e)) _ _ { s2 with heap := h' }
 refine wpAny_leaves_madeW (base := hideAll s2.heap (frs ((cxE P w K mg base N qual scope f cd A outer s H E).env :: outer))) (L := s.heap.objs.size) hfr rfl (fun b o q => of_hideAll _ q) (funFrames_hide stk hin) hx fun h'' t' fl2 htup hbt up => ?_
 have I3 : Inv (cxE P w K mg base N qual scope f cd A outer s H E) pins σ H2 { s2 with heap := h' } := I2.kept (h' := h') (t' := s2.toks) hx.keeps
 have cov : Cov (hideAll s2.heap (frs ((cxE P w K mg base N qual scope f cd A outer s H E).env :: outer))) H2 s.heap h' (frs outer) := fun b o hb hn ht => by
  have : ∃ o1, s2.heap.get? b = some o1 := by
   rcases ht with ⟨u, hu⟩ | ⟨o0, ho0⟩
   ·exact (I2.hok b u hu).there
   ·exact I2.base.there b o0 ho0 (show b ∉ ([] : List Addr) by simp)
  obtain ⟨o1, h1⟩ := this
  have h2 := hx.keeps _ _ h1
  rw [hb] at h2
  cases h2
  refine hideAll_get _ h1 fun z => ?_
  rw [efr] at z
  rcases List.mem_cons.mp z with rfl | z
  ·rcases ht with ⟨u, hu⟩ | ⟨o0, h0⟩
   ·have z3 : H2 s.heap.objs.size = none := I2.free
    rw [z3] at hu; cases hu
   ·exact Nat.lt_irrefl _ (Heap.lt_size h0)
  ·exact hn z
 have flo : h'.FunFrames (hideAll s2.heap (frs ((cxE P w K mg base N qual scope f cd A outer s H E).env :: outer))) outer := by
  obtain ⟨_, _, k⟩ := (funFrames_hide stk hin : s2.heap.FunFrames (hideAll s2.heap (frs ((cxE P w K mg base N qual scope f cd A outer s H E).env :: outer))) ((cxE P w K mg base N qual scope f cd A outer s H E).env :: outer))
  exact k.of_keeps fun b o hb _ => ⟨o, hx.keeps b o hb, rfl⟩
 obtain ⟨hok3, un3, cov3⟩ := ZA2 (I3.hok) (show Un (frs outer) [] H H2 s.heap h' from I3.base) cov fl2.1 up (ZBt I3 flo fun b hb => by
  show b ∈ frs ((cxE P w K mg base N qual scope f cd A outer s H E).env :: outer)
  rw [efr]; exact List.mem_cons_of_mem _ hb)
 refine ⟨e, .ref C, .ref t', _, H2, rfl, I2.os, I2.bare, un3, hok3, ?_, ?_, fl2, cov3, q⟩
 ·cases z : s.heap.get? e with
  | none => rfl
  | some o =>
   obtain ⟨o', e'⟩ := I2.base.there e o z (show e ∉ ([] : List Addr) by simp)
   rw [hx.new] at e'; cases e'
 ·cases z : H2 e with
  | none => rfl
  | some u =>
   obtain ⟨o', e'⟩ := (I2.hok e u z).there
   rw [hx.new] at e'; cases e'
end
section
variable {P : Program} {w : World} {K : PySem.W.Frag} {mg : Str → Option Value} {base : Heap}
theorem ZQ.lift {k : Nat} {f : Addr} {fd : FuncData} {ps : List Str} {sp : Sp} (F : ZQ P w K mg base CX0 k f fd ps sp) : ZQ P w K mg base (CX1 P w) k f fd ps sp :=
 ⟨F.len, fun A outer s H args us vs Q E hr he hb hv hs => codeAny_mono (F.run A outer s H args us vs Q E hr he hb hv hs) fun r s' h => by
  cases r with
  | error e => exact h.elim
  | ok fl => cases fl <;> exact h⟩
theorem ZQ.or {k : Nat} {CX : CXT} {f : Addr} {fd : FuncData} {ps : List Str} {sp sq : Sp} (F : ZQ P w K mg base CX k f fd ps sp) (G : ZQ P w K mg base CX k f fd ps sq) : ZQ P w K mg base CX k f fd ps (fun vs H Q E => sp vs H Q E ∨ sq vs H Q E) :=
 ⟨fun vs H Q E h => h.elim (F.len vs H Q E) (G.len vs H Q E), fun A outer s H args us vs Q E hr he hb hv hs => hs.elim (F.run A outer s H args us vs Q E hr he hb hv) (G.run A outer s H args us vs Q E hr he hb hv)⟩
theorem Fun.okx {x qual : Str} {st : Stmt} {f : Addr} {fd : FuncData} {N ps : List Str} {k : Nat} {sp : Sp} (F : Fun K x qual st f fd) (S : ZP N ps (ZF st)) (len : ∀ vs H Q E, sp vs H Q E → vs.length = ps.length)
  (hbody : ∀ (cdv : Value) (A : Around) (outer : List Env) (s : Shared) (H : Hp) (vs : List V) (Q : VK) (E : XK), Z0 k (A.deeper (envOfC qual (ZF st) s.heap.objs.size f cdv)) → sp vs H Q E →
   ∃ t, PSs (cxE P w K mg base N qual (ZF st) f cdv A outer s H E) (Z5 st) t ∧ t { nx := fun _ H' => Q .non H', rt := Q } (start N vs) H) : ZQ P w K mg base (CX1 P w) (k + 1) f fd ps sp := by
 obtain ⟨oc, od, kV, doc, pm, an, cdv, ct, osl, rfl, lk, hcd⟩ := F.ex
 exact ZFr lk hcd S len fun A outer s H vs Q E hr hsp => hbody cdv A outer s H vs Q E hr hsp
theorem ZDn.okx {x qual : Str} {st : Stmt} {f : Addr} {fd : FuncData} {N ps : List Str} {k : Nat} {sp : Sp} (F : ZDn K x qual st f fd) (S : ZP N ps (ZF st)) (len : ∀ vs H Q E, sp vs H Q E → vs.length = ps.length)
  (hbody : ∀ (cdv : Value) (A : Around) (outer : List Env) (s : Shared) (H : Hp) (vs : List V) (Q : VK) (E : XK), Z0 k (A.deeper (envOfC qual (ZF st) s.heap.objs.size f cdv)) → sp vs H Q E →
   ∃ t, PSs (cxE P w K mg base N qual (ZF st) f cdv A outer s H E) (Z5 st) t ∧ t { nx := fun _ H' => Q .non H', rt := Q } (start N vs) H) : ZQ P w K mg base (CX1 P w) (k + 1) f fd ps sp := by
 obtain ⟨oc, od, dV, kV, doc, pm, an, cdv, ct, osl, rfl, lk, hcd⟩ := F.ex
 exact ZFr lk hcd S len fun A outer s H vs Q E hr hsp => hbody cdv A outer s H vs Q E hr hsp
end
end L2
set_option Elab.async false
set_option linter.all false
set_option maxRecDepth 100000
set_option maxHeartbeats 4000000
namespace L2
open PySem PySem.Spec PyProof.Rows PySem.W
section
variable {M : Model} {A : Around} {E : Value → Shared → Prop} {s : Shared}
end
section
variable {X : Cx} {pins : List (Addr × Obj)} {σ : St} {H : Hp} {s : Shared}
end
def ZEn (e : Addr) (C : Value) : HO := .ext fun h => ∃ oe, h.get? e = some oe ∧ oe.cls = C
abbrev Cx.suite (X : Cx) (e : Addr) : Cx := { X with A := X.A.mark (some (.ref e)), calm := false, xe := fun _ _ => False }
section
variable {X : Cx} {pins : List (Addr × Obj)} {σ : St} {H : Hp} {s : Shared} {e : Addr}
theorem Inv.around {A' : Around} {xe' : Value → Shared → Prop} (I : Inv X pins σ H s) (hf : A'.frames = X.A.frames) : Inv { X with A := A', calm := false, xe := xe' } pins σ H s :=
 ⟨⟨I.ok.mod, I.ok.kind, I.ok.glob, I.ok.blt, I.ok.above, I.ok.inj, I.ok.has, I.ok.cab, (fun z => nomatch z), hf.trans I.ok.frames, I.ok.stk, I.ok.exf, I.ok.bs, I.ok.bsz, I.ok.noex, I.ok.exfs, I.ok.funs, I.ok.frf⟩,
  I.os, I.bare, I.base, I.loc, I.cell, I.free, I.freeC, I.pin, I.hok, I.len⟩
theorem Inv.toSuite (I : Inv X pins σ H s) : Inv (X.suite e) pins σ H s := I.around rfl
theorem Inv.ofSuite (ok : X.Ok) (I : Inv (X.suite e) pins σ H s) : Inv X pins σ H s :=
 ⟨ok, I.os, I.bare, I.base, I.loc, I.cell, I.free, I.freeC, I.pin, I.hok, I.len⟩
theorem Inv.track {u : HO} (I : Inv X pins σ H s) (h1 : X.s₀.heap.get? e = none) (h2 : H e = none) (h3 : e ≠ X.env.locals) (h4 : ∀ x c, X.env.cells.lookup x = some c → c ≠ e) (h5 : ∀ p ∈ X.pn ++ pins, p.1 ≠ e) (new : Zz X.prog X.w (upd H e u) s.heap e u) : Inv X pins σ (upd H e u) s := by
 have ne : ∀ b o, X.s₀.heap.get? b = some o → b ≠ e := fun b o q z => by rw [z, h1] at q; cases q
 refine ⟨I.ok, I.os, I.bare, ⟨I.base.keep, I.base.slot, fun b o q n hx => ?_, I.base.there, fun b xs q => ?_, fun b o xs q => ?_, fun b ps q => ?_⟩, I.loc, I.cell, ?_, fun x c q => ?_, fun p hp => ?_, fun b v q => ?_, I.len⟩
 ·rw [Za (ne b o q)]; exact I.base.free b o q n hx
 ·have := I.base.tups b xs q
  rw [Za (ZY this h2)]; exact this
 ·have := I.base.frzs b o xs q
  rw [Za (ZY this h2)]; exact this
 ·obtain ⟨m, z⟩ := I.base.tbls b ps q
  exact ⟨m, by rw [Za (ZY z h2)]; exact z⟩
 ·rw [Za (Ne.symm h3)]; exact I.free
 ·rw [Za (h4 x c q)]; exact I.freeC x c q
 ·obtain ⟨a, b, c⟩ := I.pin p hp
  exact ⟨a, by rw [Za (h5 p hp)]; exact b, c⟩
 ·by_cases hb : b = e
  ·subst hb; rw [ZS] at q; cases q; exact new
  ·rw [Za hb] at q
   exact (I.hok b v q).stay (fun _ _ _ q => q) (fun c r => by rw [Za (ZY r h2)]; exact r) fun c xs r => by rw [Za (ZY r h2)]; exact r
end
def Fl (X : Cx) (H1 : Hp) (s0 : Shared) (e : Addr) (C : Value) (H' : Hp) (s3 : Shared) : Prop := ∃ (a0 : Value) (B : Heap), s3.os = s0.os ∧ AllBare s3.gens ∧ Un (frs X.stack) [] H1 H' s0.heap s3.heap ∧ HOk X.prog X.w H' s3.heap ∧
 s0.heap.get? e = none ∧ H' e = none ∧ Heap.FlyingW B X.stack e C a0 s3.heap ∧ Cov B H' s0.heap s3.heap (frs X.stack)
section
variable {X : Cx} {pins : List (Addr × Obj)} {σ : St} {H1 H' : Hp} {s0 s3 : Shared} {e : Addr} {C : Value}
theorem Fl.inv (F : Fl X H1 s0 e C H' s3) (I : Inv X pins σ H1 s0) : Inv X pins σ H' s3 := by
 obtain ⟨a0, B, os, bare, un, hok, _⟩ := F
 exact I.call' (ch := []) os un hok bare (fun b z => absurd z (by simp))
theorem ZO2 {P : Program} {w : World} {H : Hp} {h : Heap} {e : Addr} {oe : Obj} {C : Value} (he : h.get? e = some oe) (hc : oe.cls = C) : Zz P w (upd H e (ZEn e C)) h e (ZEn e C) := ⟨⟨oe, he, hc⟩, ⟨oe, he⟩, fun h1 h2 ⟨o, q, c⟩ k => ⟨o, k o q, c⟩⟩
theorem Fl.suite (F : Fl X H1 s0 e C H' s3) (I : Inv X pins σ H1 s0) (hst : X.stack = X.env :: X.outer) (hfr : X.env.frame = some X.env.locals) (hex : X.ex = []) : ∃ oe, oe.cls = C ∧ s3.heap.get? e = some oe ∧ H' e = none ∧ Inv (X.suite e) pins σ (upd H' e (ZEn e C)) s3 := by
 have I3 := F.inv I
 obtain ⟨a0, B, os, bare, un, hok, hen, heH, fl, cov⟩ := F
 obtain ⟨oe, vs, T, oT, ts, he, hc, hd, _⟩ := fl.2.2.2
 have nfr : e ∉ frs X.stack := fun z => by
  obtain ⟨_, o, ho, hn⟩ := fl.2.2.1.mem z
  rw [he] at ho; cases ho
  exact hn vs hd
 have efr : frs X.stack = X.env.locals :: X.fs := by rw [hst]; exact ZDr hfr
 rw [efr] at nfr
 refine ⟨oe, hc.1, he, heH, (I3.track (u := ZEn e C) ?_ heH (fun z => nfr (by rw [z]; exact List.mem_cons_self)) (fun x c q z => ?_) (fun p hp z => ?_) (ZO2 he hc.1)).toSuite⟩
 ·cases z : X.s₀.heap.get? e with
  | none => rfl
  | some o =>
   obtain ⟨o', e'⟩ := I.base.there e o z (by rw [hex]; simp)
   rw [hen] at e'; cases e'
 ·obtain ⟨v, o, ho, hdc⟩ := I3.cell x c q
  rw [z, he] at ho; cases ho
  rw [hd] at hdc; cases hdc
 ·have := (I.pin p hp).1
  rw [z, hen] at this; cases this
theorem Fl.step {h' : Heap} {g : Shared → Shared} (F : Fl X H1 s0 e C H' s3) (I : Inv X pins σ H1 s0) {l : Prop} (st : ∀ a0 B, Heap.FlyingW B X.stack e C a0 s3.heap → Heap.FlyingW B X.stack e C a0 h') (up : s3.heap.UpToSlots h') : Fl X H1 s0 e C H' { s3 with heap := h' } := by
 have I3 := F.inv I
 obtain ⟨a0, B, os, bare, un, hok, hen, heH, fl, cov⟩ := F
 have fl2 := st a0 B fl
 obtain ⟨hok3, un3, cov3⟩ := ZA2 hok un cov fl2.1 up (ZBt I3 fl.2.2.1 fun b hb => hb)
 exact ⟨a0, B, os, bare, un3, hok3, hen, heH, fl2, cov3⟩
end
abbrev TX := St → Hp → VK → XK → Prop
def XP (X : Cx) (pins : List (Addr × Obj)) (σ : St) (E : XK) (ev : Value) (s' : Shared) : Prop := ∃ H1 s1 e C H', Inv X pins σ H1 s1 ∧ ev = .ref e ∧ Fl X H1 s1 e C H' s' ∧ E C none H'
structure QX (X : Cx) (e : Expr) (t : TX) : Prop where
 h : ∀ (pins : List (Addr × Obj)) (s : Shared) (σ : St) (H : Hp) (Q : VK) (E : XK), Inv X pins σ H s → t σ H Q E → wpAny (model X.prog X.w) X.A (eval e X.env) (EP X pins σ Q) (XP X pins σ E) s
section
variable {X : Cx} {k : Nat} {f C : Addr} {fd : FuncData} {ps : List Str} {sp : Sp} {dvs : List V} {ds : List Value} {E : XK} {x m : Str} {p pos apos : Pos} {e o : Expr} {es : List Expr} {ta : TE} {t : TA}
theorem PA.nox {es : List Expr} {t : TA} (h : PA X.nox es t) : PA X es t := fun pos pins s σ H Q I hw =>
 wpAny_mono (h pos pins s σ H Q (I.wish _) hw) (fun _ _ ⟨vs, H', I', r, q⟩ => ⟨vs, H', I'.unwish, r, q⟩) fun _ _ z => False.elim z
theorem ZO3 {pins : List (Addr × Obj)} {σ : St} {H : Hp} {s : Shared} {Q : VK} {us : List Value} {vs : List V} (F : ZQ X.prog X.w X.K X.mg X.base (CX1 X.prog X.w) k f fd ps sp) (hr : Z0 k X.A) (hb : ZN X.K fd ps ds) (hd : ZV dvs ds)
  (I : Inv X pins σ H s) (r : ZV vs us) (h : sp (vs ++ dvs) H Q E) : wpAny (model X.prog X.w) X.A (call (.ref f) us) (EP X pins σ Q) (XP X pins σ E) s := by
 have r2 : ZV (vs ++ dvs) (us ++ ds) := r.append hd
 have hl : (us ++ ds).length = ps.length := by rw [← r2.length]; exact F.len _ _ _ _ h
 refine wpAny_call (codeAny_mono (F.run X.A X.stack s H ⟨us, []⟩ (us ++ ds) (vs ++ dvs) Q E hr I.env0 (hb s us I.kIn hl) r2 h) fun r s' hq => ?_)
 cases r with
 | error e =>
  obtain ⟨e, C, a0, B, H', rfl, q1, q2, q3, q4, q5, q6, q7, q8, q⟩ := hq
  exact ⟨H, s, e, C, H', I, rfl, ⟨a0, B, q1, q2, q3, q4, q5, q6, q7, q8⟩, q⟩
 | ok fl =>
  cases fl with
  | ret u => exact I.after hq
  | next => exact False.elim hq
  | brk => exact False.elim hq
  | cont => exact False.elim hq
def ZKP (sp : Sp) (dvs : List V) (t : TA) : TX := fun σ H Q E => t σ H fun vs H1 => sp (vs ++ dvs) H1 Q E
def ZRN (C : Addr) (m : Str) (sp : Sp) (dvs : List V) (ta : TE) (t : TA) : TX := fun σ H Q E => ta σ H fun x H1 => ZES C m x H1 (t σ H1 fun vs H2 => sp (x :: (vs ++ dvs)) H2 Q E)
theorem ZO4 (F : ZQ X.prog X.w X.K X.mg X.base (CX1 X.prog X.w) k f fd ps sp) (hr : Z0 k X.A) (hg : Gl X x) (hm : X.mg x = some (.ref f)) (hk : PySem.W.keepIn X.K (.ref f) = true) (hb : ZN X.K fd ps ds) (hd : ZV dvs ds)
  (ha : QA X.nox (e :: es) t) (hns : YM (e :: es) = true := by rfl) (hdb : (x == ("__debug__" : Str)) = false := by decide) : QX X (.Call (.Name x p) (e :: es) [] pos) (ZKP sp dvs t) := by
 refine ⟨?_⟩
 intro pins s σ H Q E I h
 refine wpAny_Call_Name_kw (Jw I hg hm ?_ hdb)
 refine PySem.W.callWith_K (h₀ := X.base) I.ok.mod.kin hk (wpAny_mono (ha.h pos pins s σ H _ (I.wish _) h) (fun us s1 ⟨vs, H1, I1, r, q⟩ => ⟨I1.kIn, ?_⟩) fun _ _ z => False.elim z) (Jf hns) (JF (JB hns))
 exact ZO3 F hr hb hd I1.unwish r q
end
abbrev TBX := Z8 → XK → St → Hp → Prop
structure QBX (X : Cx) (st : List Stmt) (t : TBX) : Prop where
 h : ∀ (pins : List (Addr × Obj)) (s : Shared) (σ : St) (H : Hp) (D : Z8) (E : XK), Inv X pins σ H s → t D E σ H → wpAny (model X.prog X.w) X.A (execs st X.env) (SP X pins D) (XP X pins σ E) s
def ZKQ (t : TX) : TBX := fun D E σ H => t σ H (fun _ H1 => D.nx σ H1) E
def ZSC (t : TX) (i : Nat) : TBX := fun D E σ H => t σ H (fun v H1 => D.nx (σ.set i (some v)) H1) E
section
variable {X : Cx} {e : Expr} {t : TX} {pos pos' : Pos} {x : Str} {i : Nat}
theorem one_bx {st : Stmt} {E : Value → Shared → Prop} {pins : List (Addr × Obj)} {D : Z8} {s : Shared} (h : wpAny (model X.prog X.w) X.A (exec st X.env) (SP X pins D) E s) : wpAny (model X.prog X.w) X.A (execs [st] X.env) (SP X pins D) E s := by
 refine wpAny_execs_cons (thn h fun f s1 q => ?_)
 cases f with
 | next => exact wpAny_execs_nil q
 | ret v => exact q
 | brk => exact q
 | cont => exact q
theorem ZMO (he : QX X e t) (hs : Jg e = false := by rfl) : QBX X [.Expr e pos] (ZKQ t) := ⟨fun pins s σ H D E I h =>
 one_bx (wpAny_Expr_any (thn (he.h pins s σ H _ E I h) fun v s1 ⟨x, H1, I1, r1, q1⟩ => ⟨σ, H1, I1, q1⟩) I.quiet (ZAJ hs))⟩
end
abbrev TH := Value → Z8 → St → Hp → Prop
structure QH (X : Cx) (hs : List ExceptHandler) (t : TH) : Prop where
 h : ∀ (pins : List (Addr × Obj)) (σ : St) (H1 : Hp) (s0 : Shared) (e : Addr) (C : Value) (H' : Hp) (s3 : Shared) (D : Z8), Inv X pins σ H1 s0 → Fl X H1 s0 e C H' s3 → t C D σ H' → wpAny (model X.prog X.w) X.A (handleBy (.ref e) X.env hs) (SP X pins D) X.xe s3
section
variable {X : Cx}
def ZSq : TH := fun _ _ _ _ => False
theorem ZRO : QH X [] ZSq := ⟨fun _ _ _ _ _ _ _ _ _ _ _ h => False.elim h⟩
theorem ZKR {M : Model} {A : Around} {E : Value → Shared → Prop} {s : Shared} {K : PySem.W.Frag} {T e : Addr} {oe : Obj} {b : Bool} {Q : Bool → Shared → Prop} (hK : K.In s.heap) (hT : ZCq K T) (he : s.heap.get? e = some oe) (hsub : subIn K oe.cls (.ref T) = some b) (hq : Q b s) : wpAny M A (excMatches (.ref e) (.ref T)) Q E s := by
 obtain ⟨bm, N', nm, qn, bs, hdct, sn, sub, ab, col, dd, k0, k1, k2, k3, k5, mN, hC, hN, hni, TL⟩ := ZH8 hK hT
 obtain ⟨h, g, d, tk, os⟩ := s
 have hbase := TL.hasType PySem.F.excBase_ValueError.hasBase
 have hcB : (Value.ref T :: bm).contains (.type "BaseException") = true := by rw [List.contains_cons, hbase, Bool.or_true]
 have f := tc_notTuple
 have L := looks_subIn (M := M) hK hsub
 unfold excMatches
 repeat (first | with_reducible refine wpAny_loadPart_at he ?_ | with_reducible refine wpAny_loadPart_at hC ?_ | (with_reducible refine wpAny_isSubtype_exc hC ?_; rw [hcB]) | with_reducible refine L.at ?_ | wp_step)
 cases b <;> (wp_walk; exact hq)
theorem SP.ofSuite {pins : List (Addr × Obj)} {e : Addr} {D : Z8} {f : Flow} {s' : Shared} (ok : X.Ok) (h : SP (X.suite e) pins D f s') : SP X pins D f s' := by
 cases f with
 | next => obtain ⟨σ', H', I, q⟩ := h; exact ⟨σ', H', I.ofSuite ok, q⟩
 | brk => obtain ⟨σ', H', I, q⟩ := h; exact ⟨σ', H', I.ofSuite ok, q⟩
 | cont => obtain ⟨σ', H', I, q⟩ := h; exact ⟨σ', H', I.ofSuite ok, q⟩
 | ret u => obtain ⟨v, σ', H', I, r, q⟩ := h; exact ⟨v, σ', H', I.ofSuite ok, r, q⟩
abbrev Z8.gone (D : Z8) (i : Nat) : Z8 := { nx := fun σ H => D.nx (σ.set i none) H, rt := D.rt, bk := fun σ H => D.bk (σ.set i none) H, ct := fun σ H => D.ct (σ.set i none) H }
variable {x n : Str} {np pos : Pos} {T : Addr} {b₀ : Stmt} {suite : List Stmt} {Yt : List ExceptHandler} {ts : Addr → TS} {tr : TH} {i : Nat}
def ZCr (C : Value) (H : Hp) (R : Addr → Hp → Prop) : Prop := ∀ e, H e = none → R e (upd H e (ZEn e C))
def ZBu (K : PySem.W.Frag) (T : Addr) (C : Value) (A B : Prop) : Prop := ∃ b, subIn K C (.ref T) = some b ∧ if b = true then A else B
def tH0 (K : PySem.W.Frag) (T : Addr) (ts : Addr → TS) (tr : TH) : TH := fun C D σ H => ZBu K T C (ZCr C H fun e H2 => ts e D σ H2) (tr C D σ H)
def tHN (K : PySem.W.Frag) (T : Addr) (i : Nat) (ts : Addr → TS) (tr : TH) : TH := fun C D σ H => ZBu K T C (ZCr C H fun e H2 => ts e (D.gone i) (σ.set i (some (.ref e))) H2) (tr C D σ H)
theorem ZMP (K : PySem.W.Frag) (hK : X.K = K) (hst : X.stack = X.env :: X.outer) (hfr : X.env.frame = some X.env.locals) (hex : X.ex = []) (hg : Gl X x) (hm : X.mg x = some (.ref T)) (hT : ZCq K T)
  (hs : ∀ e : Addr, QB (X.suite e) (b₀ :: suite) (ts e)) (hr : QH X Yt tr) (hdb : (x == ("__debug__" : Str)) = false := by decide) :
  QH X (.ExceptHandler (some (.Name x np)) none (b₀ :: suite) pos :: Yt) (tH0 K T ts tr) := by
 subst hK
 refine ⟨?_⟩
 intro pins σ H1 s0 e C H' s3 D I F h
 obtain ⟨oe, rfl, he3, heH, IS⟩ := F.suite I hst hfr hex
 obtain ⟨b, hsub, h⟩ := h
 refine wpAny_handleBy_cons (codeAny_handlers_test ?_) (by intro q; cases q)
 refine Jw IS hg hm ?_ hdb
 refine ZKR IS.kIn hT he3 hsub ?_
 cases b with
 | false => exact hr.h pins σ H1 s0 e _ H' s3 D I F h
 | true =>
  refine codeAny_handlers_suite ?_
  have F2 := F
  obtain ⟨a0, B, q1, q2, q3, q4, q5, q6, q7, q8⟩ := F2
  refine lands_againW q7 fun h' fl' up => ?_
  have I3 := F.inv I
  obtain ⟨hok3, un3, cov3⟩ := ZA2 q4 q3 q8 fl'.1 up (ZBt I3 q7.2.2.1 fun b hb => hb)
  have F3 : Fl X H1 s0 e oe.cls H' { s3 with heap := h' } := ⟨a0, B, q1, q2, un3, hok3, q5, q6, fl', cov3⟩
  obtain ⟨oe4, ec4, _, _, IS4⟩ := F3.suite I hst hfr hex
  have := (hs e).h pins _ σ _ D IS4 (h e q6)
  exact wpAny_mono this (fun f s5 hsp => SP.ofSuite I.ok hsp) fun _ _ z => False.elim z
end
section
variable {X : Cx} {body : List Stmt} {h₀ : ExceptHandler} {hs : List ExceptHandler} {pos : Pos} {tb : TBX} {th : TH}
def ZRP (tb : TBX) (th : TH) : TS := fun D σ H => tb D (fun C _ H' => th C D σ H') σ H
theorem ZRQ (hst : X.stack = X.env :: X.outer) (hfr : X.env.frame = some X.env.locals) (hb : QBX X body tb) (hh : QH X (h₀ :: hs) th) : QS X (.Try body (h₀ :: hs) [] [] pos) (ZRP tb th) := by
 refine ⟨?_⟩
 intro pins s σ H D I h
 refine wpAny_Try_except (wpAny_mono (hb.h pins s σ H D _ I h) (fun f s1 q => ?_) fun ev s1 ⟨H1, s0, e, C, H', I1, eq, F, q⟩ => ?_)
 ·cases f with
  | next => exact wpAny_execs_nil q
  | brk => exact q
  | cont => exact q
  | ret u => exact q
 ·subst eq
  have I3 := F.inv I1
  have F2 := F
  obtain ⟨a0, B, q1, q2, q3, q4, q5, q6, q7, q8⟩ := F2
  have hfrs : X.A.frames = some (X.env :: X.outer) := by rw [← hst]; exact I.ok.frames
  have q7' : Heap.FlyingW B (X.env :: X.outer) e C a0 s1.heap := by rw [← hst]; exact q7
  refine wpAny_looks_onW hfrs hfr q7' fun h4 hheld up4 => ?_
  refine wpAny_landsW hheld fun h5 fl5 up5 => ?_
  have fl5' : Heap.FlyingW B X.stack e C a0 h5 := by rw [hst]; exact fl5
  obtain ⟨hok3, un3, cov3⟩ := ZA2 q4 q3 q8 fl5'.1 (up4.trans up5) (ZBt I3 q7.2.2.1 fun b hb => hb)
  exact hh.h pins σ H1 s0 e C H' { s1 with heap := h5 } D I1 ⟨a0, B, q1, q2, un3, hok3, q5, q6, fl5', cov3⟩ q
end
end L2
set_option Elab.async false
set_option linter.all false
set_option maxRecDepth 100000
set_option maxHeartbeats 4000000
namespace L2
open PySem PySem.Spec PyProof.Rows PySem.W PySem.Builtin PySem.Builtin.ObjectAttr PySem.Builtin.Getset_descriptor
structure ZIy (K : PySem.W.Frag) (C : Addr) : Prop where
 ga : findIn K (.ref C) "__getattribute__" = some (some (.builtin "BaseException.__getattribute__"))
 gt : findIn K (.ref C) "__getattr__" = some none
 cl : findIn K (.ref C) "__class__" = some (some (.builtin "object.__class__"))
 ob : mroIn K C (.type "object") = some true
 be : mroIn K C (.type "BaseException") = some true
section
variable {prog : Program} {w : World} {A : Around} {E : Value → Shared → Prop} {h : Heap} {g : Array GenState} {d : Drawn} {t : Nat} {os : OsState} {a C : Addr} {o : Obj} {K : PySem.W.Frag}
end
section
variable {K : PySem.W.Frag}
end
section
variable {X : Cx}
end
section
variable {X : Cx} {k : Nat} {f : Addr} {fd : FuncData} {ps : List Str} {sp : Sp} {dvs : List V} {ds : List Value} {x : Str} {p pos : Pos} {e : Expr} {es : List Expr} {t : TA}
end
section
variable {K : PySem.W.Frag} {σ : St} {H : Hp} {Q : VK} {D : Z8} {E : XK} {C T e : Addr} {t : TA} {tb : TBX} {th : TH} {ts : Addr → TS} {tr : TH} {i : Nat}
def ZKS (E : XK) (C : Addr) (vs : List V) (H : Hp) : Prop := vs.length ≤ sizeLine ∧ E (.ref C) none H
theorem ZKT (h : t σ H fun vs H1 => ZKS E C vs H1) : ZGo E C t D σ H := h
theorem ZGp {vs : List V} (h : vs.length ≤ 1000) (q : E (.ref C) none H) : ZKS E C vs H := ⟨Nat.le_trans h (by decide), q⟩
theorem ZRR (h : tb D (fun C _ H' => th C D σ H') σ H) : ZRP tb th D σ H := h
theorem ZMQ {sp : Sp} {dvs : List V} (h : t σ H fun vs H1 => sp (vs ++ dvs) H1 Q E) : ZKP sp dvs t σ H Q E := h
theorem ZMR {m : Str} {sp : Sp} {dvs : List V} {ta : TE} (h : ta σ H fun x H1 => ZES C m x H1 (t σ H1 fun vs H2 => sp (x :: (vs ++ dvs)) H2 Q E)) : ZRN C m sp dvs ta t σ H Q E := h
theorem ZMS {u : TX} (h : u σ H (fun _ H1 => D.nx σ H1) E) : ZKQ u D E σ H := h
theorem ZO5 {u : TX} (h : u σ H (fun v H1 => D.nx (σ.set i (some v)) H1) E) : ZSC u i D E σ H := h
theorem ZKU {C : Value} {A B : Prop} {b : Bool} (hs : subIn K C (.ref T) = some b) (h : if b = true then A else B) : ZBu K T C A B := ⟨b, hs, h⟩
theorem ZSD {C : Value} (h : ZBu K T C (ZCr C H fun e H2 => ts e D σ H2) (tr C D σ H)) : tH0 K T ts tr C D σ H := h
theorem ZSE {C : Value} (h : ZBu K T C (ZCr C H fun e H2 => ts e (D.gone i) (σ.set i (some (.ref e))) H2) (tr C D σ H)) : tHN K T i ts tr C D σ H := h
theorem ZMT {C : Value} {R : Addr → Hp → Prop} (h : ∀ e H2, H e = none → H2 e = some (ZEn e C) → ZK H H2 → R e H2) : ZCr C H R := fun e he => h e _ he ZS (ZK.new he)
end
end L2
namespace L2
open PySem PySem.Spec PyProof.Rows PySem.W
section
variable {P : Program} {w : World} {K : PySem.W.Frag} {mg : Str → Option Value} {base : Heap} {N : List Str} {qual : Str} {scope : Scope} {f : Addr} {cd : Value} {A : Around} {outer : List Env} {s : Shared} {H : Hp} {E : XK}
 {x : Str} {np cpos pos : Pos} {e₀ : Expr} {es : List Expr} {t : TA} {C : Addr}
theorem ZMU (hC : ZCq K C) (hg : Gl (cxE P w K mg base N qual scope f cd A outer s H E) x) (hm : mg x = some (.ref C)) (ha : QA (cxE P w K mg base N qual scope f cd A outer s H E) (e₀ :: es) t)
 (hns : YM (e₀ :: es) = true := by rfl) (hdb : (x == ("__debug__" : Str)) = false := by decide) :
 QS (cxE P w K mg base N qual scope f cd A outer s H E) (.Raise (some (.Call (.Name x np) (e₀ :: es) [] cpos)) none pos) (ZGo E C t) := ⟨ZMN hC hg hm ha.h hdb (Jf hns) (JF (JB hns))⟩
end
end L2
set_option Elab.async false
set_option linter.all false
set_option maxRecDepth 100000
set_option maxHeartbeats 4000000
namespace L2
open PySem PySem.Spec PyProof.Rows PySem.W
section
variable {X : Cx}
end
end L2
set_option Elab.async false
set_option linter.all false
set_option maxRecDepth 100000
set_option maxHeartbeats 4000000
namespace L2
open PySem PySem.Spec PyProof.Rows PySem.W
section
variable {X : Cx}
def Its (z : Str) : It := ⟨fun i _ => i < z.cps.size, fun i H x H' => H' = H ∧ ∃ c, z.cps.toList[i]? = some c ∧ x = .str ⟨#[c]⟩, fun i _ => z.cps.size ≤ i⟩
def ZGq (x : V) (H : Hp) (R : It → Hp → Prop) : Prop := ∃ z, x = .str z ∧ R (Its z) H
def ZSr (tl : TE) : TI := fun σ H R => tl σ H fun x H1 => ZGq x H1 R
def rF2 (x1 x2 : Str) (i : Int) (y : V) (H : Hp) (Q : VK) : Prop := ∃ j : Int, y = .int j ∧ j.natAbs.log2 < 1900 ∧ Q (.str (Str.ofString (toString i) ++ x1 ++ Str.ofString (toString j) ++ x2)) H
def rF1 (x1 x2 : Str) (tb : TE) (σ : St) (x : V) (H : Hp) (Q : VK) : Prop := ∃ i : Int, x = .int i ∧ i.natAbs.log2 < 1900 ∧ tb σ H fun y H2 => rF2 x1 x2 i y H2 Q
def tF4 (x1 x2 : Str) (ta tb : TE) : TE := fun σ H Q => ta σ H fun x H1 => rF1 x1 x2 tb σ x H1 Q
end
section
variable {K : PySem.W.Frag} {H : Hp} {Q : VK} {σ : St}
theorem ZO6 {tl : TE} {R : It → Hp → Prop} (h : tl σ H fun x H1 => ZGq x H1 R) : ZSr tl σ H R := h
theorem ZMV {z : Str} {R : It → Hp → Prop} (h : R (Its z) H) : ZGq (.str z) H R := ⟨z, rfl, h⟩
theorem ZSF {x1 x2 : Str} {ta tb : TE} (h : ta σ H fun x H1 => rF1 x1 x2 tb σ x H1 Q) : tF4 x1 x2 ta tb σ H Q := h
variable {D : Z8}
end
end L2
set_option Elab.async false
set_option linter.all false
set_option maxRecDepth 100000
set_option maxHeartbeats 4000000
namespace L2
open PySem PySem.Spec PyProof.Rows PySem.W
section
variable {M : Model} {A : Around} {Er : Value → Shared → Prop} {s : Shared} {Bs : Heap} {l outer : List Env} {env : Env} {x L : Addr} {c0 a0 fl : Value}
end
section
variable {P : Program} {w : World} {H H' : Hp} {h0 h' h'' Bs : Heap} {fs ex : List Addr}
def gone (B : Heap) (c : Addr) : Heap := B.update c fun o => { o with data := .freed }
end
section
variable {P : Program} {w : World} {K : PySem.W.Frag} {mg : Str → Option Value} {base : Heap} {N : List Str} {qual : Str} {scope : Scope} {f : Addr} {cd : Value} {A : Around} {outer : List Env} {s : Shared} {H : Hp} {E : XK}
end
def ZRS (own : Nat) (ks : List Nat) (wi : TI) (g : TG) (tt : TT) (te : TX) (E : XK) : TE := fun σ H Q => wi σ H fun J H1 => ∀ l, H1 l = none →
 ∃ W : Nat → Nat → St → Hp → Prop, (∃ m, W 0 m (ZAo own ks σ) (upd H1 l (.lst []))) ∧ ∀ i m σ' H', W i m σ' H' →
  (J.stop i H' ∧ Q (.ref l) H') ∨ (J.go i H' ∧ ∃ N : St → Hp → Prop, (∀ σ2 H2, N σ2 H2 → ∃ m', m' < m ∧ W (i + 1) m' σ2 H2) ∧
   ∀ x H'', J.yld i H' x H'' → g x σ' H'' fun σ2 H2 => tt σ2 H2 fun b H3 =>
    if b = true then te σ2 H3 (fun v H4 => ∃ xs, H4 l = some (.lst xs) ∧ xs.length < sizeLine ∧ N σ2 (upd H4 l (.lst (xs ++ [v])))) E else N σ2 H3)
section
variable {X : Cx}
end
section
variable {P : Program} {w : World} {K : PySem.W.Frag} {mg : Str → Option Value} {base : Heap} {N : List Str} {qual : Str} {scope : Scope} {f : Addr} {cd : Value} {A : Around} {outer : List Env} {s : Shared} {H : Hp} {E : XK}
end
end L2
set_option Elab.async false
set_option linter.all false
set_option maxRecDepth 100000
set_option maxHeartbeats 4000000
namespace L2
open PySem PySem.Spec PyProof.Rows
def fl (low tall : Int) (q : Int × Int) : Int := (q.1 - low * q.2) / (tall * q.2)
def YH (cv : List (Int × Int)) (b e : Int) : List (Int × Int) := cv.filter fun p => decide (b ≤ p.1) && decide (p.1 < e)
end L2
set_option Elab.async false
set_option linter.all false
set_option maxRecDepth 100000
set_option maxHeartbeats 4000000
namespace L2
open PySem PySem.Spec PyProof.Rows PySem.W
def InT (cv : List (Int × Int)) : Prop := ∀ p ∈ cv, (-(10 ^ 64) < p.1 ∧ p.1 < 10 ^ 64) ∧ -(10 ^ 64) < p.2 ∧ p.2 < 10 ^ 64
end L2
set_option Elab.async false
set_option linter.all false
set_option maxRecDepth 100000
set_option maxHeartbeats 4000000
namespace L2
open PySem PySem.Spec PyProof.Rows PySem.W
section
variable {X : Cx}
def ZSG (t : TX) : TX := fun σ H Q E => t σ H (fun v H1 => ZGC 1 (.lst [v]) H1 Q) E
theorem ZO7 {t : TX} {σ : St} {H : Hp} {Q : VK} {E : XK} (h : t σ H (fun v H1 => ZGC 1 (.lst [v]) H1 Q) E) : ZSG t σ H Q E := h
end
def ZRT (J : It) (g : TG) (tt : TT) (te : TX) (l : Addr) (σ0 : St) (H : Hp) (Q : VK) (E : XK) : Prop :=
 ∃ W : Nat → Nat → St → Hp → Prop, (∃ m, W 0 m σ0 (upd H l (.lst []))) ∧ ∀ i m σ' H', W i m σ' H' →
  (J.stop i H' ∧ Q (.ref l) H') ∨ (J.go i H' ∧ ∃ N : St → Hp → Prop, (∀ σ2 H2, N σ2 H2 → ∃ m', m' < m ∧ W (i + 1) m' σ2 H2) ∧
   ∀ x H'', J.yld i H' x H'' → g x σ' H'' fun σ2 H2 => tt σ2 H2 fun b H3 =>
    if b = true then te σ2 H3 (fun v H4 => ∃ xs, H4 l = some (.lst xs) ∧ xs.length < sizeLine ∧ N σ2 (upd H4 l (.lst (xs ++ [v])))) E else N σ2 H3)
theorem ZMW {own : Nat} {ks : List Nat} {wi : TI} {g : TG} {tt : TT} {te : TX} {E : XK} {σ : St} {H : Hp} {Q : VK} (h : wi σ H fun J H1 => ∀ l, H1 l = none → ZRT J g tt te l (ZAo own ks σ) H1 Q E) : ZRS own ks wi g tt te E σ H Q := h
end L2
set_option Elab.async false
set_option linter.all false
set_option maxRecDepth 100000
set_option maxHeartbeats 4000000
namespace L2
open PySem PySem.Spec PyProof.Rows
theorem ZBv {cv : List (Int × Int)} (h : Asc cv) {i j : Nat} (hi : i < cv.length) (hj : j < cv.length) (hij : i < j) : cv[i].1 < cv[j].1 := List.pairwise_iff_getElem.mp h i j hi hj hij
theorem col_of {b y m t : Int} (hy : 0 < y) (h1 : b ≤ t) (h2 : t < b + m * y) : ∃ j, 0 ≤ j ∧ j < m ∧ b + j * y ≤ t ∧ t < b + j * y + y := by
 refine ⟨(t - b) / y, Int.ediv_nonneg (by omega) (by omega), ?_, ?_, ?_⟩
 ·exact Int.ediv_lt_of_lt_mul hy (by omega)
 ·have := Int.ediv_mul_le (t - b) (Int.ne_of_gt hy)
  omega
 ·have := Int.lt_ediv_add_one_mul_self (t - b) hy
  rw [Int.add_mul, Int.one_mul] at this
  omega
theorem YF {cv : List (Int × Int)} {b e : Int} {p : Int × Int} : p ∈ YH cv b e ↔ p ∈ cv ∧ b ≤ p.1 ∧ p.1 < e := by
 unfold YH
 rw [List.mem_filter]
 simp
end L2
set_option Elab.async false
set_option linter.all false
set_option maxRecDepth 100000
set_option maxHeartbeats 1000000
namespace L2
open PySem PySem.Spec PyProof.Rows
def Is4 (cv : List (Int × Int)) (o : Option (List (Int × Int))) : Prop :=
 (o = none ∧ cv = []) ∨ ∃ q0 q1 q2 q3 : Int × Int, o = some [q0, q1, q2, q3] ∧ q0 ∈ cv ∧ q1 ∈ cv ∧ q2 ∈ cv ∧ q3 ∈ cv ∧
  ∀ p ∈ cv, q0.1 ≤ p.1 ∧ p.1 ≤ q1.1 ∧ (q2.2 < p.2 ∨ (q2.2 = p.2 ∧ q2.1 ≤ p.1)) ∧ (p.2 < q3.2 ∨ (p.2 = q3.2 ∧ q3.1 ≤ p.1))
theorem Is4.join {c1 c2 : List (Int × Int)} {a0 a1 a2 a3 b0 b1 b2 b3 : Int × Int} (h : Is4 c1 (some [a0, a1, a2, a3])) (g : Is4 c2 (some [b0, b1, b2, b3])) (hlt : ∀ p ∈ c1, ∀ q ∈ c2, p.1 < q.1) :
  Is4 (c1 ++ c2) (some [a0, b1, if a2.2 ≤ b2.2 then a2 else b2, if b3.2 ≤ a3.2 then a3 else b3]) := by
 rcases h with ⟨e, _⟩ | ⟨q0, q1, q2, q3, e, m0, m1, m2, m3, hb⟩
 ·cases e
 rcases g with ⟨e', _⟩ | ⟨r0, r1, r2, r3, e', n0, n1, n2, n3, gb⟩
 ·cases e'
 cases e
 cases e'
 refine .inr ⟨_, _, _, _, rfl, List.mem_append_left _ m0, List.mem_append_right _ n1, ?_, ?_, fun p hp => ?_⟩
 ·split
  ·exact List.mem_append_left _ m2
  ·exact List.mem_append_right _ n2
 ·split
  ·exact List.mem_append_left _ m3
  ·exact List.mem_append_right _ n3
 ·rcases List.mem_append.mp hp with hp | hp
  ·have k1 := hb p hp
   have k2 := hlt p hp _ n1
   have k3 := hlt p hp _ n2
   have k4 := hlt p hp _ n3
   refine ⟨k1.1, by omega, ?_, ?_⟩
   ·split <;> omega
   ·split <;> omega
  ·have k1 := gb p hp
   have k2 := hlt _ m0 p hp
   have k3 := hlt _ m2 p hp
   have k4 := hlt _ m3 p hp
   refine ⟨by omega, k1.2.1, ?_, ?_⟩
   ·split <;> omega
   ·split <;> omega
theorem Is4.mem {cv : List (Int × Int)} {qs : List (Int × Int)} (h : Is4 cv (some qs)) : ∀ q ∈ qs, q ∈ cv := by
 rcases h with ⟨e, _⟩ | ⟨q0, q1, q2, q3, e, m0, m1, m2, m3, _⟩
 ·cases e
 ·cases e
  intro q hq
  simp only [List.mem_cons, List.not_mem_nil, or_false] at hq
  rcases hq with rfl | rfl | rfl | rfl <;> assumption
theorem Is4.nil : Is4 [] none := .inl ⟨rfl, rfl⟩
theorem Is4.of_none {cv : List (Int × Int)} (h : Is4 cv none) : cv = [] := by
 rcases h with ⟨_, e⟩ | ⟨q0, q1, q2, q3, e, _⟩
 ·exact e
 ·cases e
theorem Is4.sorted {cv lo hi : List (Int × Int)} {p0 p1 l0 h0 : Int × Int} (ha : Asc cv) (e0 : cv[0]? = some p0) (e1 : cv[cv.length - 1]? = some p1)
  (hl : lo.Perm (cv.map fun p => (p.2, p.1))) (hh : hi.Perm (cv.map fun p => (-p.2, p.1))) (sl : lo.Pairwise fun p q => ltP p q = true) (sh : hi.Pairwise fun p q => ltP p q = true) (f0 : lo[0]? = some l0) (g0 : hi[0]? = some h0) :
  Is4 cv (some [p0, p1, (l0.2, l0.1), (h0.2, -h0.1)]) := by
 have fst : ∀ {xs : List (Int × Int)} {x : Int × Int}, xs.Pairwise (fun p q => ltP p q = true) → xs[0]? = some x → x ∈ xs ∧ ∀ y ∈ xs, y = x ∨ ltP x y = true := by
  intro xs x hs hx
  cases xs with
  | nil => cases hx
  | cons z zs =>
   have : z = x := by simpa using hx
   subst this
   refine ⟨List.mem_cons_self .., fun y hy => ?_⟩
   rcases List.mem_cons.mp hy with rfl | hy
   ·exact .inl rfl
   ·exact .inr ((List.pairwise_cons.mp hs).1 y hy)
 obtain ⟨ml, bl⟩ := fst sl f0
 obtain ⟨mh, bh⟩ := fst sh g0
 obtain ⟨r2, hr2, er2⟩ := List.mem_map.mp (hl.mem_iff.mp ml)
 obtain ⟨r3, hr3, er3⟩ := List.mem_map.mp (hh.mem_iff.mp mh)
 have x2 : (l0.2, l0.1) = r2 := by rw [← er2]
 have x3 : (h0.2, -h0.1) = r3 := by rw [← er3]; simp
 rw [x2, x3]
 refine .inr ⟨p0, p1, r2, r3, rfl, List.mem_of_getElem? e0, List.mem_of_getElem? e1, hr2, hr3, fun p hp => ?_⟩
 obtain ⟨j, hj, rfl⟩ := List.getElem_of_mem hp
 obtain ⟨z0, y0⟩ := List.getElem?_eq_some_iff.mp e0
 obtain ⟨z1, y1⟩ := List.getElem?_eq_some_iff.mp e1
 have c2 := bl (cv[j].2, cv[j].1) (hl.mem_iff.mpr (List.mem_map.mpr ⟨_, List.getElem_mem hj, rfl⟩))
 have c3 := bh (-cv[j].2, cv[j].1) (hh.mem_iff.mpr (List.mem_map.mpr ⟨_, List.getElem_mem hj, rfl⟩))
 refine ⟨?_, ?_, ?_, ?_⟩
 ·by_cases h : j = 0
  ·subst h; rw [y0]; exact Int.le_refl _
  ·have := ZBv ha z0 hj (by omega)
   rw [y0] at this
   omega
 ·by_cases h : j = cv.length - 1
  ·subst h; rw [y1]; exact Int.le_refl _
  ·have := ZBv ha hj z1 (by omega)
   rw [y1] at this
   omega
 ·rw [← er2] at c2
  rcases c2 with c2 | c2
  ·have w1 := congrArg Prod.fst c2
   have w2 := congrArg Prod.snd c2
   simp only at w1 w2
   exact .inr ⟨w1.symm, by omega⟩
  ·have := Yc.mp c2
   simp only at this
   omega
 ·rw [← er3] at c3
  rcases c3 with c3 | c3
  ·have w1 := congrArg Prod.fst c3
   have w2 := congrArg Prod.snd c3
   simp only at w1 w2
   exact .inr ⟨by omega, by omega⟩
  ·have := Yc.mp c3
   simp only at this
   omega
theorem ZO8 {o : Option (List (Int × Int))} (hb : ∀ qs, o = some qs → qs.length ≤ 4 ∧ ∀ q ∈ qs, Bn 200 q.1 ∧ Bn 200 q.2) : Sm 40000 30 (ZDF o) := by
 cases o with
 | none => exact Sm.non.mono (by decide) (by decide)
 | some qs =>
  refine (Sm.tup (n := 9000) (k := 20) (fun x hx => ?_) (by rw [List.length_map]; exact (hb qs rfl).1)).mono (by decide) (by decide)
  obtain ⟨q, hq, rfl⟩ := List.mem_map.mp hx
  have := (hb qs rfl).2 q hq
  exact (Sm.tup (xs := [.int q.1, .int q.2]) (n := 2000) (k := 10) (fun x hx => by
   simp only [List.mem_cons, List.not_mem_nil, or_false] at hx
   rcases hx with rfl | rfl
   ·exact (Sm.int (this.1.mono (by decide))).mono (by decide) (by decide)
   ·exact (Sm.int (this.2.mono (by decide))).mono (by decide) (by decide)) (by show 2 ≤ 4; decide)).mono (by decide) (by decide)
end L2
set_option Elab.async false
set_option linter.all false
set_option maxRecDepth 100000
set_option maxHeartbeats 1000000
namespace L2
open PySem PySem.Spec PyProof.Rows
theorem Is4.minmax {cv : List (Int × Int)} {p0 p1 p2 p3 : Int × Int} {i2 i3 : Nat} (ha : Asc cv) (e0 : cv[0]? = some p0) (e1 : cv[cv.length - 1]? = some p1) (e2 : cv[i2]? = some p2) (e3 : cv[i3]? = some p3)
  (h2 : ∀ j, j < cv.length → (cv.getD i2 (0, 0)).2 ≤ (cv.getD j (0, 0)).2 ∧ (j < i2 → (cv.getD i2 (0, 0)).2 < (cv.getD j (0, 0)).2))
  (h3 : ∀ j, j < cv.length → (cv.getD i3 (0, 0)).2 ≥ (cv.getD j (0, 0)).2 ∧ (j < i3 → (cv.getD i3 (0, 0)).2 > (cv.getD j (0, 0)).2)) : Is4 cv (some [p0, p1, p2, p3]) := by
 obtain ⟨z0, y0⟩ := List.getElem?_eq_some_iff.mp e0
 obtain ⟨z1, y1⟩ := List.getElem?_eq_some_iff.mp e1
 obtain ⟨z2, y2⟩ := List.getElem?_eq_some_iff.mp e2
 obtain ⟨z3, y3⟩ := List.getElem?_eq_some_iff.mp e3
 have d : ∀ {j : Nat} (hj : j < cv.length), cv.getD j (0, 0) = cv[j] := fun {j} hj => by simp [hj]
 refine .inr ⟨p0, p1, p2, p3, rfl, List.mem_of_getElem? e0, List.mem_of_getElem? e1, List.mem_of_getElem? e2, List.mem_of_getElem? e3, fun p hp => ?_⟩
 obtain ⟨j, hj, rfl⟩ := List.getElem_of_mem hp
 have k2 := h2 j hj
 have k3 := h3 j hj
 rw [d z2, d hj, y2] at k2
 rw [d z3, d hj, y3] at k3
 refine ⟨?_, ?_, ?_, ?_⟩
 ·by_cases h : j = 0
  ·subst h; rw [y0]; exact Int.le_refl _
  ·have := ZBv ha z0 hj (by omega)
   rw [y0] at this
   omega
 ·by_cases h : j = cv.length - 1
  ·subst h; rw [y1]; exact Int.le_refl _
  ·have := ZBv ha hj z1 (by omega)
   rw [y1] at this
   omega
 ·by_cases h : i2 < j
  ·have := ZBv ha z2 hj h
   rw [y2] at this
   omega
  ·by_cases h' : j = i2
   ·subst h'; rw [y2]; omega
   ·have := k2.2 (by omega)
    omega
 ·by_cases h : i3 < j
  ·have := ZBv ha z3 hj h
   rw [y3] at this
   omega
  ·by_cases h' : j = i3
   ·subst h'; rw [y3]; omega
   ·have := k3.2 (by omega)
    omega
theorem ZO9 {b y t i : Int} (hy : 0 < y) : (b + i * y ≤ t ∧ t < b + i * y + y) ↔ (t - b) / y = i := by
 have h1 := Int.emod_add_mul_ediv (t - b) y
 have h2 := Int.emod_nonneg (t - b) (show y ≠ 0 by omega)
 have h3 := Int.emod_lt_of_pos (t - b) hy
 constructor
 ·rintro ⟨g1, g2⟩
  refine (Int.ediv_emod_unique hy (r := t - b - i * y) (q := i)).mpr ⟨?_, by omega, by omega⟩ |>.1
  rw [Int.mul_comm y i]
  omega
 ·intro e
  rw [e, Int.mul_comm y i] at h1
  constructor <;> omega
theorem ZIz {cv : List (Int × Int)} {j : Nat} {q : Int × Int} {x z : Int} (h : cv[j]? = some q) : YH (cv.take (j + 1)) x z = YH (cv.take j) x z ++ (if (decide (x ≤ q.1) && decide (q.1 < z)) = true then [q] else []) := by
 rw [List.take_succ, h, YH, List.filter_append]
 congr 1
 simp only [Option.toList, List.filter_cons, List.filter_nil]
def ZAe (cv : List (Int × Int)) (b y : Int) (m : Nat) (fs : List (Option (List (Int × Int)))) : Prop := fs.length = m ∧ ∀ (k : Nat) o, fs[k]? = some o → Is4 (YH cv (b + (k : Int) * y) (b + (k : Int) * y + y)) o
theorem ZAe.mem {cv : List (Int × Int)} {b y : Int} {m : Nat} {fs : List (Option (List (Int × Int)))} (h : ZAe cv b y m fs) {qs : List (Int × Int)} (hq : some qs ∈ fs) : qs.length ≤ 4 ∧ ∀ q ∈ qs, q ∈ cv := by
 obtain ⟨k, hk, e⟩ := List.getElem_of_mem hq
 have h1 := h.2 k _ (List.getElem?_eq_getElem hk)
 rw [e] at h1
 refine ⟨?_, fun q hq' => (YF.mp (h1.mem q hq')).1⟩
 rcases h1 with ⟨z, _⟩ | ⟨q0, q1, q2, q3, z, _⟩
 ·cases z
 ·cases z
  exact Nat.le_refl _
theorem ZEU {K : PySem.W.Frag} {H : Hp} {t : Addr} {us : List V} {fs : List (Option (List (Int × Int)))} (f : H t = some (.tup us)) (h : Z2 H us fs) (hb : ∀ qs, some qs ∈ fs → qs.length ≤ 4 ∧ ∀ q ∈ qs, Bn 200 q.1 ∧ Bn 200 q.2) (hl : fs.length ≤ 210) :
  JU K H (.ref t) (PyData.tuple (fs.map ZDF)).shown := by
 have fo : ∀ x ∈ fs.map ZDF, Sm 40000 30 x := fun x hx => by
  obtain ⟨o, ho, rfl⟩ := List.mem_map.mp hx
  exact ZO8 fun qs e => hb qs (e ▸ ho)
 refine .dat (.tup (SqT.of f) h.dats) ?_ ?_ ?_ ?_
 ·simp only [PyData.showable]
  exact ZEm fun x hx => (fo x hx).2.1
 ·refine PyData.hasDict_of_canLay _ ?_
  show PyData.canLayAll0 (fs.map ZDF) = true
  exact ZGb fun x hx => (fo x hx).2.2.1
 ·have := ZGc (B := 30) fun x hx => (fo x hx).2.2.2
  simp only [PyData.depth]
  omega
 ·refine Nat.le_trans (ZFB (B := 40000) fun x hx => (fo x hx).1) ?_
  rw [List.length_map]
  have : fs.length * (40000 + 2) ≤ 210 * (40000 + 2) := Nat.mul_le_mul_right _ hl
  exact Nat.le_trans (Nat.add_le_add_right this 3) (by decide)
end L2
set_option Elab.async false
set_option linter.all false
set_option maxRecDepth 100000
set_option maxHeartbeats 4000000
namespace L2
open PySem PySem.Spec PyProof.Rows
def Ch (e : Int) : Int → List (Int × Int) → Int → Prop
 | x, [], y => x = y
 | x, p :: r, y => (0 ≤ p.1 ∧ p.1 ≤ 40) ∧ p.2 * 2 ^ p.1.toNat = x ∧ x + 2 ^ p.1.toNat ≤ e ∧ (p.1 < 40 → x % (2 * 2 ^ p.1.toNat) = 0 → x + 2 * 2 ^ p.1.toNat ≤ e → False) ∧ Ch e (x + 2 ^ p.1.toNat) r y
theorem Y5 (k : Nat) : (0 : Int) < 2 ^ k := Int.pow_pos (by decide)
theorem Ch.le {e : Int} : ∀ {r : List (Int × Int)} {x y : Int}, Ch e x r y → x ≤ y
 | [], _, _, h => by cases h; exact Int.le_refl _
 | p :: r, x, y, h => by
  have := Ch.le h.2.2.2.2
  have := Y5 p.1.toNat
  omega
theorem Ch.snoc {e : Int} {p : Int × Int} : ∀ {r : List (Int × Int)} {x y : Int}, Ch e x r y → (0 ≤ p.1 ∧ p.1 ≤ 40) → p.2 * 2 ^ p.1.toNat = y → y + 2 ^ p.1.toNat ≤ e → (p.1 < 40 → y % (2 * 2 ^ p.1.toNat) = 0 → y + 2 * 2 ^ p.1.toNat ≤ e → False) → Ch e x (r ++ [p]) (y + 2 ^ p.1.toNat)
 | [], _, _, h, h1, h2, h3, h4 => by cases h; exact ⟨h1, h2, h3, h4, rfl⟩
 | _ :: _, _, _, h, h1, h2, h3, h4 => ⟨h.1, h.2.1, h.2.2.1, h.2.2.2.1, Ch.snoc h.2.2.2.2 h1 h2 h3 h4⟩
theorem ZCF {a b : Nat} (h : a ≤ b) : (2 : Int) ^ a ≤ 2 ^ b := by
 obtain ⟨c, rfl⟩ := Nat.exists_eq_add_of_le h
 rw [Int.pow_add]
 have h1 := Y5 a
 have h2 := Y5 c
 have h3 : (2 : Int) ^ a * 1 ≤ 2 ^ a * 2 ^ c := Int.mul_le_mul_of_nonneg_left (by omega) (by omega)
 omega
theorem ZBY {a b : Nat} (h : a ≤ b) : (2 : Int) ^ a ∣ 2 ^ b := by
 obtain ⟨c, rfl⟩ := Nat.exists_eq_add_of_le h
 rw [Int.pow_add]
 exact Int.dvd_mul_right _ _
theorem ZCG (k : Nat) : (2 : Int) * 2 ^ k = 2 ^ (k + 1) := by rw [Int.pow_succ]; omega
def Few (e : Int) (n : Nat) (x : Int) : Prop := ((2 : Int) ^ n ∣ x ∧ n ≤ 40 ∧ -(2 ^ 40) + (n : Int) ≤ x) ∨ ∃ m : Nat, (2 : Int) ^ m ∣ x ∧ e - x < 2 ^ m ∧ n + m ≤ 80
theorem Few.len {e x : Int} {n : Nat} (h : Few e n x) : n ≤ 80 := by
 rcases h with h | ⟨m, h⟩ <;> omega
theorem ZKV {a : Nat} {x : Int} (h : (2 : Int) ^ a ∣ x) (h1 : -(2 ^ a) < x) (h2 : x < 2 ^ a) : x = 0 := by
 obtain ⟨c, rfl⟩ := h
 have hp := Y5 a
 have hc : c = 0 := by
  by_cases h0 : c ≤ -1
  ·have : (2 : Int) ^ a * c ≤ 2 ^ a * (-1) := Int.mul_le_mul_of_nonneg_left h0 (by omega)
   omega
  ·by_cases h0' : 1 ≤ c
   ·have : (2 : Int) ^ a * 1 ≤ 2 ^ a * c := Int.mul_le_mul_of_nonneg_left h0' (by omega)
    omega
   ·omega
 rw [hc, Int.mul_zero]
theorem ZGr {e x : Int} {L : Nat} (he : e ≤ 2 ^ 40) (hx : -(2 ^ 40) ≤ x) (h1 : (2 : Int) ^ L ∣ x) (h2 : x + 2 ^ L ≤ e) : L ≤ 40 := by
 have hc : L ≤ 40 ∨ L = 41 ∨ 42 ≤ L := by omega
 rcases hc with h | rfl | h
 ·exact h
 ·exfalso
  obtain ⟨c, hc⟩ := h1
  have e1 : (2 : Int) ^ 41 = 2199023255552 := by decide
  have e2 : (2 : Int) ^ 40 = 1099511627776 := by decide
  rw [e1] at h2 hc
  rw [e2] at he hx
  omega
 ·exfalso
  have h3 := ZCF h
  have e1 : (2 : Int) ^ 42 = 4398046511104 := by decide
  have e2 : (2 : Int) ^ 40 = 1099511627776 := by decide
  rw [e1] at h3
  rw [e2] at he hx
  omega
theorem Few.step {e x : Int} {n L : Nat} (he : e ≤ 2 ^ 40) (hx : -(2 ^ 40) ≤ x) (h : Few e n x) (h1 : (2 : Int) ^ L ∣ x) (h2 : x + 2 ^ L ≤ e) (h3 : (2 : Int) ^ (L + 1) ∣ x → x + 2 ^ (L + 1) ≤ e → False) : Few e (n + 1) (x + 2 ^ L) := by
 have hL := ZGr he hx h1 h2
 have hp := Y5 L
 have es : (2 : Int) ^ (L + 1) = 2 * 2 ^ L := (ZCG L).symm
 rcases h with ⟨hd, hn, hb⟩ | ⟨m, hd, hm, hnm⟩
 ·by_cases ha : (2 : Int) ^ (L + 1) ∣ x
  ·-- limited by the end
   have h4 : ¬ x + 2 ^ (L + 1) ≤ e := fun z => h3 ha z
   by_cases h40 : L = 40
   ·subst h40
    have e2 : (2 : Int) ^ 40 = 1099511627776 := by decide
    have e3 : (2 : Int) ^ (40 + 1) = 2199023255552 := by decide
    have hx0 : x = 0 := ZKV ha (by rw [e3]; rw [e2] at hx; omega) (by rw [e3]; rw [e2] at h2 he; omega)
    subst hx0
    right
    refine ⟨0, Int.one_dvd _, ?_, by omega⟩
    rw [e2] at he h2 ⊢
    show e - (0 + 1099511627776) < 1
    omega
   ·right
    exact ⟨L, Int.dvd_add h1 (Int.dvd_refl _), by omega, by omega⟩
  ·-- limited by where it begins
   have hLn : n ≤ L := by
    by_cases hlt : n ≤ L
    ·exact hlt
    ·exact absurd (Int.dvd_trans (ZBY (by omega)) hd) ha
   have hd' : (2 : Int) ^ (L + 1) ∣ x + 2 ^ L := by
    obtain ⟨c, hc⟩ := h1
    have hodd : c % 2 = 1 := by
     by_cases h0 : c % 2 = 0
     ·exfalso
      apply ha
      refine ⟨c / 2, ?_⟩
      have : c = 2 * (c / 2) := by omega
      rw [hc, es]
      rw [Int.mul_comm 2 ((2 : Int) ^ L), Int.mul_assoc, ← this]
     ·omega
    refine ⟨(c + 1) / 2, ?_⟩
    have : c + 1 = 2 * ((c + 1) / 2) := by omega
    have h5 : x + 2 ^ L = 2 ^ L * (c + 1) := by rw [hc, Int.mul_add, Int.mul_one]
    rw [h5, es, Int.mul_comm 2 ((2 : Int) ^ L), Int.mul_assoc, ← this]
   left
   refine ⟨Int.dvd_trans (ZBY (by omega)) hd', ?_, by omega⟩
   by_cases h40 : L = 40
   ·subst h40
    have e2 : (2 : Int) ^ 40 = 1099511627776 := by decide
    obtain ⟨c, hc⟩ := h1
    rw [e2] at hc he h2 hx hb
    have : c ≠ 0 := by
     rintro rfl
     apply ha
     rw [hc]
     exact ⟨0, by omega⟩
    omega
   ·omega
 ·have hlt : L < m := by
   by_cases hlt : L < m
   ·exact hlt
   ·have := ZCF (show m ≤ L by omega)
    omega
  have ha : (2 : Int) ^ (L + 1) ∣ x := Int.dvd_trans (ZBY (by omega)) hd
  have h4 : ¬ x + 2 ^ (L + 1) ≤ e := fun z => h3 ha z
  right
  exact ⟨L, Int.dvd_add h1 (Int.dvd_refl _), by omega, by omega⟩
theorem Few.start {e b : Int} (hb : -(2 ^ 40) ≤ b) : Few e 0 b := .inl ⟨Int.one_dvd _, by omega, by simpa using hb⟩
end L2
set_option Elab.async false
set_option linter.all false
set_option maxRecDepth 100000
set_option maxHeartbeats 1000000
namespace L2
open PySem PySem.Spec PyProof.Rows
theorem Is4.congr {a b : List (Int × Int)} {o : Option (List (Int × Int))} (h : Is4 a o) (e : ∀ p, p ∈ a ↔ p ∈ b) : Is4 b o := by
 rcases h with ⟨h1, h2⟩ | ⟨q0, q1, q2, q3, h1, m0, m1, m2, m3, hb⟩
 ·refine .inl ⟨h1, ?_⟩
  cases b with
  | nil => rfl
  | cons p ps =>
   have := (e p).mpr List.mem_cons_self
   rw [h2] at this
   cases this
 ·exact .inr ⟨q0, q1, q2, q3, h1, (e _).mp m0, (e _).mp m1, (e _).mp m2, (e _).mp m3, fun p hp => hb p ((e p).mpr hp)⟩
theorem Is4.uniqueD {cv : List (Int × Int)} {o o' : Option (List (Int × Int))} (ha : ∀ p ∈ cv, ∀ q ∈ cv, p.1 = q.1 → p = q) (h : Is4 cv o) (g : Is4 cv o') : o = o' := by
 rcases h with ⟨e, hc⟩ | ⟨q0, q1, q2, q3, e, m0, m1, m2, m3, hb⟩
 ·rcases g with ⟨e', _⟩ | ⟨r0, r1, r2, r3, e', n0, _⟩
  ·rw [e, e']
  ·rw [hc] at n0; cases n0
 ·rcases g with ⟨e', hc⟩ | ⟨r0, r1, r2, r3, e', n0, n1, n2, n3, gb⟩
  ·rw [hc] at m0; cases m0
  ·have a0 := hb r0 n0
   have a1 := hb r1 n1
   have a2 := hb r2 n2
   have a3 := hb r3 n3
   have b0 := gb q0 m0
   have b1 := gb q1 m1
   have b2 := gb q2 m2
   have b3 := gb q3 m3
   have e0 : q0 = r0 := ha _ m0 _ n0 (by omega)
   have e1 : q1 = r1 := ha _ m1 _ n1 (by omega)
   have e2 : q2 = r2 := ha _ m2 _ n2 (by omega)
   have e3 : q3 = r3 := ha _ m3 _ n3 (by omega)
   rw [e, e', e0, e1, e2, e3]
theorem Is4.one (p : Int × Int) : Is4 [p] (some [p, p, p, p]) := .inr ⟨p, p, p, p, rfl, List.mem_cons_self, List.mem_cons_self, List.mem_cons_self, List.mem_cons_self, fun q hq => by
 rw [List.mem_singleton.mp hq]
 exact ⟨Int.le_refl _, Int.le_refl _, .inr ⟨rfl, Int.le_refl _⟩, .inr ⟨rfl, Int.le_refl _⟩⟩⟩
def inS (sm : List (Int × Int)) (l : Nat) (s : Int) : List (Int × Int) := YH sm (s * 2 ^ l) (s * 2 ^ l + 2 ^ l)
theorem Jk {sm : List (Int × Int)} {l : Nat} {s : Int} {p : Int × Int} : p ∈ inS sm l s ↔ p ∈ sm ∧ p.1 / 2 ^ l = s := by
 unfold inS
 rw [YF]
 have := ZO9 (b := 0) (t := p.1) (i := s) (Y5 l)
 rw [Int.sub_zero, Int.zero_add] at this
 rw [this]
theorem ZGs (x : Int) (l : Nat) : x / 2 ^ (l + 1) = x / 2 ^ l / 2 := by
 rw [Int.pow_succ, ← Int.ediv_ediv_of_nonneg (Int.le_of_lt (Y5 l))]
theorem ZMX {sm : List (Int × Int)} {l : Nat} {s : Int} {p : Int × Int} : p ∈ inS sm l (2 * s) ++ inS sm l (2 * s + 1) ↔ p ∈ inS sm (l + 1) s := by
 rw [List.mem_append, Jk, Jk, Jk, ZGs]
 constructor
 ·rintro (⟨h1, h2⟩ | ⟨h1, h2⟩)
  ·exact ⟨h1, by omega⟩
  ·exact ⟨h1, by omega⟩
 ·rintro ⟨h1, h2⟩
  have : p.1 / 2 ^ l = 2 * s ∨ p.1 / 2 ^ l = 2 * s + 1 := by omega
  rcases this with h | h
  ·exact .inl ⟨h1, h⟩
  ·exact .inr ⟨h1, h⟩
theorem ZRU {sm : List (Int × Int)} {l : Nat} {a b : Int} (hab : a < b) : ∀ p ∈ inS sm l a, ∀ q ∈ inS sm l b, p.1 < q.1 := by
 intro p hp q hq
 have h1 := (Jk.mp hp).2
 have h2 := (Jk.mp hq).2
 by_cases h : p.1 < q.1
 ·exact h
 ·have := Int.ediv_le_ediv (Y5 l) (show q.1 ≤ p.1 by omega)
  omega
theorem ZEV {sm : List (Int × Int)} {b x e : Int} (h1 : b ≤ x) (h2 : x ≤ e) (p : Int × Int) : p ∈ YH sm b x ++ YH sm x e ↔ p ∈ YH sm b e := by
 rw [List.mem_append, YF, YF, YF]
 constructor
 ·rintro (⟨g1, g2, g3⟩ | ⟨g1, g2, g3⟩)
  ·exact ⟨g1, g2, by omega⟩
  ·exact ⟨g1, by omega, g3⟩
 ·rintro ⟨g1, g2, g3⟩
  by_cases h : p.1 < x
  ·exact .inl ⟨g1, g2, h⟩
  ·exact .inr ⟨g1, by omega, g3⟩
theorem ZGt {sm : List (Int × Int)} {b x e : Int} : ∀ p ∈ YH sm b x, ∀ q ∈ YH sm x e, p.1 < q.1 := by
 intro p hp q hq
 have h1 := (YF.mp hp).2
 have h2 := (YF.mp hq).2
 omega
theorem Yb {m : List (Int × Int)} (hn : (m.map (·.1)).Nodup) {t h : Int} {q : Int × Int} : q ∈ YO m t h ↔ (q.1 ≠ t ∧ q ∈ m) ∨ q = (t, h) := by
 obtain ⟨a, b⟩ := q
 rw [← YA (JG hn), ZMC, ← YA hn]
 by_cases e : a = t
 ·subst e
  simp only [if_true, Option.some.injEq, ne_eq, not_true_eq_false, false_and, false_or, Prod.mk.injEq, true_and]
  exact eq_comm
 ·simp [e]
def kOf (l : Nat) (s : Int) : List Key := [Sum.inl (l : Int), Sum.inl s]
theorem ZPA {l l' : Nat} {s s' : Int} (h : kOf l s = kOf l' s') : l = l' ∧ s = s' := by
 unfold kOf at h
 simp only [List.cons.injEq, Sum.inl.injEq, and_true] at h
 exact ⟨by omega, h.2⟩
def Yk (H : Hp) (kvs : List (List Key × V)) (sm : List (Int × Int)) (G : Nat → Int → Prop) : Prop := ∀ (l : Nat) (s : Int), l ≤ 40 → G l s → ∃ o, Zr H ((Zh kvs (kOf l s)).getD .non) o ∧ Is4 (inS sm l s) o
theorem Yk.same {H H' : Hp} {kvs : List (List Key × V)} {sm : List (Int × Int)} {G : Nat → Int → Prop} (h : Yk H kvs sm G) (s : ZK H H') : Yk H' kvs sm G := fun l s' hl g => by
 obtain ⟨o, h1, h2⟩ := h l s' hl g
 exact ⟨o, h1.same s, h2⟩
theorem PrT.kpX {H H' : Hp} {a d : Addr} {cv : List (Int × Int)} {ob : HO} (h : PrT H a cv) (k : Kp d H H') (hd : H d = some ob) (hn : ∀ xs, ob ≠ .tup xs) : PrT H' a cv := by
 obtain ⟨us, g, p⟩ := h
 have ne : ∀ {b : Addr} {xs : List V}, H b = some (.tup xs) → H' b = some (.tup xs) := fun {b xs} e => k _ _ e fun z => by
  subst z
  rw [hd] at e
  exact hn _ (Option.some.inj e)
 exact ⟨us, ne g, Paired.mapP p fun _ _ ⟨a, e, z⟩ => ⟨a, e, ne z⟩⟩
theorem Zr.kpX {H H' : Hp} {d : Addr} {v : V} {o : Option (List (Int × Int))} {ob : HO} (h : Zr H v o) (k : Kp d H H') (hd : H d = some ob) (hn : ∀ xs, ob ≠ .tup xs) : Zr H' v o := by
 cases h with
 | non => exact .non
 | pr e hl => exact .pr (e.kpX k hd hn) hl
theorem Yk.kpX {H H' : Hp} {kvs : List (List Key × V)} {sm : List (Int × Int)} {G : Nat → Int → Prop} {d : Addr} {ob : HO} (h : Yk H kvs sm G) (k : Kp d H H') (hd : H d = some ob) (hn : ∀ xs, ob ≠ .tup xs) : Yk H' kvs sm G := fun l s' hl g => by
 obtain ⟨o, h1, h2⟩ := h l s' hl g
 exact ⟨o, h1.kpX k hd hn, h2⟩
theorem Yk.other {H : Hp} {kvs : List (List Key × V)} {sm sm' : List (Int × Int)} {t : Int} (h : Yk H kvs sm fun _ _ => True) (e : ∀ q : Int × Int, q.1 ≠ t → (q ∈ sm ↔ q ∈ sm')) : Yk H kvs sm' fun l s => s ≠ t / 2 ^ l := fun l s hl g => by
 obtain ⟨o, h1, h2⟩ := h l s hl trivial
 refine ⟨o, h1, h2.congr fun p => ?_⟩
 rw [Jk, Jk]
 constructor
 ·rintro ⟨g1, g2⟩
  exact ⟨(e p fun z => g (by rw [← g2, z])).mp g1, g2⟩
 ·rintro ⟨g1, g2⟩
  exact ⟨(e p fun z => g (by rw [← g2, z])).mpr g1, g2⟩
theorem Yk.put {H' : Hp} {kvs : List (List Key × V)} {sm : List (Int × Int)} {G : Nat → Int → Prop} {t : Int} {i : Nat} {v : V} {o : Option (List (Int × Int))} (h : Yk H' kvs sm G) (hv : Zr H' v o) (ho : Is4 (inS sm i (t / 2 ^ i)) o) :
  Yk H' (Yj kvs (kOf i (t / 2 ^ i)) v) sm fun l s => G l s ∨ (l = i ∧ s = t / 2 ^ l) := fun l s hl g => by
 by_cases e : kOf l s = kOf i (t / 2 ^ i)
 ·obtain ⟨rfl, rfl⟩ := ZPA e
  refine ⟨o, ?_, ho⟩
  rw [ZAO, if_pos rfl]
  exact hv
 ·rcases g with g | ⟨rfl, rfl⟩
  ·obtain ⟨o', h1, h2⟩ := h l s hl g
   refine ⟨o', ?_, h2⟩
   rw [ZAO, if_neg e]
   exact h1
  ·exact absurd rfl e
theorem Yk.mono {H : Hp} {kvs : List (List Key × V)} {sm : List (Int × Int)} {G G' : Nat → Int → Prop} (h : Yk H kvs sm G) (g : ∀ l s, l ≤ 40 → G' l s → G l s) : Yk H kvs sm G' := fun l s hl hg => h l s hl (g l s hl hg)
theorem Yk.tups {H H' : Hp} {kvs : List (List Key × V)} {sm : List (Int × Int)} {G : Nat → Int → Prop} (h : Yk H kvs sm G) (t : ∀ b xs, H b = some (.tup xs) → H' b = some (.tup xs)) : Yk H' kvs sm G := fun l s hl g => by
 obtain ⟨o, h1, h2⟩ := h l s hl g
 refine ⟨o, ?_, h2⟩
 generalize (Zh kvs (kOf l s)).getD .non = v at h1
 cases h1 with
 | non => exact .non
 | pr e hl =>
  obtain ⟨us, g, p⟩ := e
  exact .pr ⟨us, t _ _ g, Paired.mapP p fun _ _ ⟨a, e, z⟩ => ⟨a, e, t _ _ z⟩⟩ hl
end L2
set_option Elab.async false
set_option linter.all false
set_option maxRecDepth 100000
set_option maxHeartbeats 4000000
namespace L2
open PySem PySem.Spec PyProof.Rows PySem.W
def YU (m : List (Int × Int)) (t : Int) : List (Int × Int) := m.filter fun p => decide (p.1 ≠ t)
theorem ZH9 (m : List (Int × Int)) (t : Int) : Yn (Zj m) (.inl t) = Zj (YU m t) := by
 unfold Yn Zj YU
 rw [List.filter_map]
 congr 1
 apply List.filter_congr
 intro p _
 simp [dkE, Function.comp]
theorem Ys {m : List (Int × Int)} {t : Int} {q : Int × Int} : q ∈ YU m t ↔ q.1 ≠ t ∧ q ∈ m := by
 unfold YU
 rw [List.mem_filter, decide_eq_true_iff, and_comm]
theorem Yz {m : List (Int × Int)} {t : Int} (n : (m.map (·.1)).Nodup) : ((YU m t).map (·.1)).Nodup := n.sublist ((List.filter_sublist).map _)
theorem ZBN (m : List (Int × Int)) (t : Int) : (YU m t).length ≤ m.length := List.length_filter_le _ _
def Eqv (m m' : List (Int × Int)) : Prop := ∀ q : Int × Int, q ∈ m ↔ q ∈ m'
theorem Eqv.get {m m' : List (Int × Int)} (h : Eqv m m') (n : (m.map (·.1)).Nodup) (n' : (m'.map (·.1)).Nodup) (t : Int) : Ze m t = Ze m' t := by
 cases hg : Ze m' t with
 | some v => rw [YA n, h]; exact (YA n').mp hg
 | none =>
  cases hm : Ze m t with
  | none => rfl
  | some v =>
   rw [YA n, h, ← YA n', hg] at hm
   cases hm
theorem Eqv.put {m m' : List (Int × Int)} (h : Eqv m m') (n : (m.map (·.1)).Nodup) (n' : (m'.map (·.1)).Nodup) (t v : Int) : Eqv (YO m t v) (YO m' t v) := fun q => by rw [Yb n, Yb n', h q]
theorem Eqv.drop {m m' : List (Int × Int)} (h : Eqv m m') (t : Int) : Eqv (YU m t) (YU m' t) := fun q => by rw [Ys, Ys, h q]
theorem Eqv.symm {m m' : List (Int × Int)} (h : Eqv m m') : Eqv m' m := fun q => (h q).symm
theorem Eqv.trans {a b c : List (Int × Int)} (h : Eqv a b) (g : Eqv b c) : Eqv a c := fun q => (h q).trans (g q)
theorem Eqv.refl (m : List (Int × Int)) : Eqv m m := fun _ => Iff.rfl
theorem ZKW {m : List (Int × Int)} {t v : Int} (n : (m.map (·.1)).Nodup) (hg : Ze m t = some v) : Eqv (YO (YU m t) t v) m := fun q => by
 rw [Yb (Yz n), Ys]
 obtain ⟨x, y⟩ := q
 constructor
 ·rintro (⟨_, _, h⟩ | h)
  ·exact h
  ·rw [h]; exact (YA n).mp hg
 ·intro h
  by_cases e : x = t
  ·subst e
   have := (YA n).mpr h
   rw [hg] at this
   cases this
   exact .inr rfl
  ·exact .inl ⟨e, e, h⟩
theorem ZKX {m : List (Int × Int)} {t v : Int} (n : (m.map (·.1)).Nodup) (hg : Ze m t = none) : Eqv (YU (YO m t v) t) m := fun q => by
 rw [Ys, Yb n]
 constructor
 ·rintro ⟨h, (h' | h')⟩
  ·exact h'.2
  ·exact absurd (by rw [h']) h
 ·intro h
  have : q.1 ≠ t := fun e => by
   rw [J6] at hg
   exact hg (List.mem_map.mpr ⟨q, h, e⟩)
  exact ⟨this, .inl ⟨this, h⟩⟩
theorem ZMY {m : List (Int × Int)} {t u v : Int} (n : (m.map (·.1)).Nodup) (hg : Ze m t = some u) : Eqv (YO (YO m t v) t u) m := fun q => by
 rw [Yb (JG n), Yb n]
 obtain ⟨x, y⟩ := q
 constructor
 ·rintro (⟨h, (h' | h')⟩ | h)
  ·exact h'.2
  ·exact absurd (by rw [h']) h
  ·rw [h]; exact (YA n).mp hg
 ·intro h
  by_cases e : x = t
  ·subst e
   have := (YA n).mpr h
   rw [hg] at this
   cases this
   exact .inr rfl
  ·exact .inl ⟨e, .inl ⟨e, h⟩⟩
section
variable {X : Cx} {o e : Expr} {apos cpos pos p : Pos} {td ty to : TE}
theorem ZMZ (ho : QE X o td) (he : QE X e ty) (m : M1 X o "pop" apos e cpos := by exact ⟨rfl, rfl, rfl, rfl⟩) : QE X (.Call (.Attribute o "pop" apos) [e] [] cpos) (ZGO td ty) := ⟨ZL7 ho.h he.h m⟩
def ZMa : R2 := fun y x H Q => ∃ a o, x = .ref a ∧ YY H a y o ∧ Q (.bl o.isSome) H
def ZDs : R2 := fun y x H Q => ∃ a o, x = .ref a ∧ YY H a y o ∧ Q (.bl (!o.isSome)) H
theorem ZDJ (hu : X.A.units + 1 < cLine) : OpR X (compareOp .In) ZMa := by
 intro pins s σ H x y v u Q I rx ry h
 obtain ⟨a, ov, rfl, g, q⟩ := h
 obtain rfl : u = Value.ref a := ry
 exact ZSj hu I g rx fun s3 I3 => ⟨.bl ov.isSome, H, I3, rfl, q⟩
theorem ZEW (hu : X.A.units + 1 < cLine) : OpR X (compareOp .NotIn) ZDs := by
 intro pins s σ H x y v u Q I rx ry h
 obtain ⟨a, ov, rfl, g, q⟩ := h
 obtain rfl : u = Value.ref a := ry
 exact ZOk hu I g rx fun s3 I3 => ⟨.bl (!ov.isSome), H, I3, rfl, q⟩
end
section
variable {K : PySem.W.Frag} {σ : St} {H : Hp} {Q : VK} {td ty : TE} {a b : Addr} {m m' : List (Int × Int)} {i v : Int}
def ZGu (a : Addr) (y : V) (H : Hp) (Q : VK) : Prop := ∃ kvs k v, H a = some (.dK kvs) ∧ y = kV k ∧ Zh kvs k = some v ∧ Q v (upd H a (.dK (Yn kvs k)))
def ZKY (ty : TE) (σ : St) (Q : VK) (x : V) (H : Hp) : Prop := ∃ a, x = .ref a ∧ IsD H a ∧ ty σ H fun y H2 => ZGu a y H2 Q
theorem ZMb (h : td σ H fun x H1 => ZKY ty σ Q x H1) : ZGO td ty σ H Q := h
theorem ZMc {kvs : List (Key × V)} (h1 : H a = some (.dK kvs)) (q : ty σ H fun y H2 => ZGu a y H2 Q) : ZKY ty σ Q (.ref a) H := ⟨a, rfl, .inl ⟨kvs, .inl h1⟩, q⟩
theorem ZMd (h1 : H a = some (.dK (Zj m))) (l : Ze m i = some v) (q : ∀ H2, H2 a = some (.dK (Zj (YU m i))) → Kp a H H2 → Q (.int v) H2) : ZGu a (.int i) H Q :=
 ⟨Zj m, .inl i, .int v, h1, rfl, by rw [Jb, l]; rfl, by rw [ZH9]; exact q _ ZS Kp.upd⟩
theorem ZPB (h1 : H a = some (.dK (Zj m))) (q : Q (.bl (Ze m i).isSome) H) : ZMa (.int i) (.ref a) H Q := ⟨a, _, rfl, YY.k (k := Sum.inl i) h1, by rw [Jb, Option.isSome_map]; exact q⟩
theorem ZI0 (h1 : H a = some (.dK (Zj m))) (q : Q (.bl (!(Ze m i).isSome)) H) : ZDs (.int i) (.ref a) H Q := ⟨a, _, rfl, YY.k (k := Sum.inl i) h1, by rw [Jb, Option.isSome_map]; exact q⟩
theorem ZKZ {l : Addr} {xs : List V} {y : V} (h : H l = some (.lst (xs ++ [y]))) (q : ∀ H2, H2 l = some (.lst xs) → Kp l H H2 → Q y H2) : ZQW (.ref l) [] H Q :=
 ⟨l, xs ++ [y], y, rfl, rfl, h, by simp, by rw [List.dropLast_concat]; exact q _ ZS Kp.upd⟩
end
def ItS (lo c : Int) (n : Nat) : It := ⟨fun i _ => i < n, fun i H x H' => H' = H ∧ x = .int (lo + i * c), fun i _ => n ≤ i⟩
section
variable {X : Cx} {tg : Expr}
def ZNf (vs : List V) (H : Hp) (R : It → Hp → Prop) : Prop := ∃ i j c : Int, vs = [.int i, .int j, .int c] ∧ (0 < c ∧ c < 1000000 ∧ -(2 ^ 60) ≤ i ∧ i < 2 ^ 60 ∧ -(2 ^ 60) ≤ j ∧ j < 2 ^ 60) ∧ R (ItS i c ((j - i + c - 1) / c).toNat) H
def ZSH (ta : TA) : TI := fun σ H R => ta σ H fun vs H1 => ZNf vs H1 R
end
section
variable {σ : St} {H : Hp}
theorem ZPC {ta : TA} {R : It → Hp → Prop} (h : ta σ H fun vs H1 => ZNf vs H1 R) : ZSH ta σ H R := h
end
end L2
namespace L2
open PySem PySem.Spec PyProof.Rows PySem.W
def ZKa (K : PySem.W.Frag) : R2 := fun x y H Q => ∃ p q xs, x = .ref p ∧ y = .ref q ∧ SqL K H p xs ∧ SqL K H q [] ∧ Q (.bl xs.isEmpty) H
section
variable {X : Cx}
theorem ZGv (K : PySem.W.Frag) (hK : X.K = K) (hu : X.A.units + 1 < cLine) : OpR X (compareOp .Eq) (ZKa K) := by
 subst hK
 intro pins s σ H x y v u Q I rx ry h
 obtain ⟨p, q, xs, rfl, rfl, h1, h2, k⟩ := h
 obtain rfl : v = Value.ref p := rx
 obtain rfl : u = Value.ref q := ry
 obtain ⟨its, rv, pl, hz⟩ := I.list h1
 obtain ⟨its2, rv2, pl2, hz2⟩ := I.list h2
 cases rv2
 have hlen := rv.length
 cases xs with
 | nil =>
  cases rv
  refine SeqAt.eq_listAt (e := fun _ => true) pl.isList pl2.isList rfl (by omega) (fun j h1 _ => absurd h1 (by simp)) ⟨.bl true, H, I, rfl, k⟩
 | cons x xs =>
  refine SeqAt.eq_list_lengthsAt pl.isList pl2.isList ?_ (by omega) ⟨.bl false, H, I, rfl, k⟩
  simp only [List.length_cons] at hlen
  simp only [List.size_toArray, List.length_nil, bne_iff_ne, ne_eq]
  omega
end
section
variable {K : PySem.W.Frag} {H : Hp} {Q : VK} {p q : Addr} {xs : List V}
theorem ZDt (h1 : SqL K H p xs) (h2 : SqL K H q []) (k : Q (.bl xs.isEmpty) H) : ZKa K (.ref p) (.ref q) H Q := ⟨p, q, xs, rfl, rfl, h1, h2, k⟩
end
end L2
namespace L2
open PySem PySem.Spec PyProof.Rows PySem.W
section
variable {K : PySem.W.Frag} {H : Hp} {Q : VK} {a b : Addr} {l m : List Int}
end
end L2
namespace L2
theorem Eqv.len {m m' : List (Int × Int)} (h : Eqv m m') (n : (m.map (·.1)).Nodup) (n' : (m'.map (·.1)).Nodup) : m.length = m'.length :=
 ((List.perm_ext_iff_of_nodup (ZCa n) (ZCa n')).mpr h).length_eq
theorem ZKb {cv : List (Int × Int)} (h : Asc cv) : (cv.map (·.1)).Nodup := by
 rw [List.nodup_iff_pairwise_ne, List.pairwise_map]
 exact h.imp fun {a b} hab e => by omega
end L2
namespace L2
open PySem PySem.Spec PyProof.Rows PySem.W
def FrL (l : List Addr) (H H' : Hp) : Prop := ∀ b o, H b = some o → b ∉ l → H' b = some o
theorem FrL.trans {l : List Addr} {H H1 H2 : Hp} (h : FrL l H H1) (g : FrL l H1 H2) : FrL l H H2 := fun b o e n => g b o (h b o e n) n
theorem FrL.mono {l l' : List Addr} {H H' : Hp} (h : FrL l H H') (s : ∀ b ∈ l, b ∈ l') : FrL l' H H' := fun b o e n => h b o e fun z => n (s b z)
theorem FrL.same {l : List Addr} {H H' : Hp} (h : ZK H H') : FrL l H H' := fun b o e _ => h b o e
theorem FrL.kp {l : List Addr} {H H' : Hp} {q : Addr} (h : Kp q H H') (m : q ∈ l) : FrL l H H' := fun b o e n => h b o e fun z => n (z ▸ m)
theorem FrL.fresh {l : List Addr} {H0 H H' : Hp} (f : FrL l H H') (s : ZK H0 H) (n : ∀ b ∈ l, H0 b = none) : ZK H0 H' := fun b o e => f _ _ (s _ _ e) fun z => by rw [n b z] at e; cases e
theorem ZPD {H0 H : Hp} {b : Addr} (s : ZK H0 H) (e : H b = none) : H0 b = none := by
 cases e2 : H0 b with
 | none => rfl
 | some o => rw [s _ _ e2] at e; cases e
theorem Pot.noTup {H : Hp} {q : Addr} (h : Pot H q) : ∀ xs, H q ≠ some (.tup xs) := fun xs e => by
 obtain ⟨u, v, e2, _⟩ := h
 rw [e2] at e; cases e
theorem PrT.frL {H H' : Hp} {u : Addr} {cv : List (Int × Int)} {l : List Addr} (h : PrT H u cv) (f : FrL l H H') (nt : ∀ b ∈ l, ∀ xs, H b ≠ some (.tup xs)) : PrT H' u cv := by
 obtain ⟨us, h1, h2⟩ := h
 have kt : ∀ b xs, H b = some (.tup xs) → H' b = some (.tup xs) := fun b xs e => f _ _ e fun z => nt b z xs e
 exact ⟨us, kt _ _ h1, Paired.mapP h2 fun _ _ ⟨a, e, z⟩ => ⟨a, e, kt _ _ z⟩⟩
theorem PrT.tups {H H' : Hp} {u : Addr} {cv : List (Int × Int)} (h : PrT H u cv) (t : ∀ b xs, H b = some (.tup xs) → H' b = some (.tup xs)) : PrT H' u cv := by
 obtain ⟨us, h1, h2⟩ := h
 exact ⟨us, t _ _ h1, Paired.mapP h2 fun _ _ ⟨a, e, z⟩ => ⟨a, e, t _ _ z⟩⟩
end L2
namespace L2
theorem ZKc {c : TT} {t u : TS} {D : Z8} {σ : St} {H : Hp} (h : ZDc c t u D σ H) : ZDc c t u D σ H := h
theorem J8 {t : TS} {D : Z8} {σ : St} {H : Hp} (P : St → Hp → Prop) (h1 : ∀ σ' H', P σ' H' → D.nx σ' H') (h2 : ∀ D' : Z8, D'.rt = D.rt → (∀ σ' H', P σ' H' → D'.nx σ' H') → t D' σ H) : t D σ H := h2 D rfl h1
end L2
set_option Elab.async false
set_option linter.all false
set_option maxRecDepth 100000
set_option maxHeartbeats 4000000
namespace L2
open PySem PySem.Spec PyProof.Rows PySem.W
theorem Zr.dat {K : PySem.W.Frag} {H : Hp} {v : V} {o : Option (List (Int × Int))} (h : Zr H v o) : Dat K H v (ZDF o) := by
 cases h with
 | non => exact .non
 | pr h hl =>
  obtain ⟨us, g, p⟩ := h
  exact .tup (SqT.of g) p.dats
section
variable {K : PySem.W.Frag} {H : Hp} {Q : VK} {x y : V} {o o' : Option (List (Int × Int))} {a b : Addr} {us ws : List V} {fs gs : List (Option (List (Int × Int)))}
end
theorem Zr.tups {H H' : Hp} {v : V} {o : Option (List (Int × Int))} (h : Zr H v o) (t : ∀ b xs, H b = some (.tup xs) → H' b = some (.tup xs)) : Zr H' v o := by
 cases h with
 | non => exact .non
 | pr e hn => exact .pr (e.tups t) hn
theorem Z2.tups {H H' : Hp} {vs : List V} {os : List (Option (List (Int × Int)))} (h : Z2 H vs os) (t : ∀ b xs, H b = some (.tup xs) → H' b = some (.tup xs)) : Z2 H' vs os := h.mapP fun _ _ d => d.tups t
theorem ZKd {m m' : List (Int × Int)} (h : Eqv m m') (b e : Int) : ∀ p, p ∈ YH m b e ↔ p ∈ YH m' b e := fun p => by rw [YF, YF, h p]
theorem ZKe {m : List (Int × Int)} (n : (m.map (·.1)).Nodup) : ∀ p ∈ m, ∀ q ∈ m, p.1 = q.1 → p = q := fun p hp q hq e => by
 obtain ⟨x, y⟩ := p
 obtain ⟨z, w⟩ := q
 have e : x = z := e
 subst e
 have h1 := (YA n).mpr hp
 have h2 := (YA n).mpr hq
 rw [h1] at h2
 cases h2
 rfl
theorem ZMe {m m' : List (Int × Int)} {b e : Int} {o o' : Option (List (Int × Int))} (hv : Eqv m m') (n : (m.map (·.1)).Nodup) (h : Is4 (YH m b e) o) (g : Is4 (YH m' b e) o') : o = o' :=
 Is4.uniqueD (fun p hp q hq => ZKe n p (YF.mp hp).1 q (YF.mp hq).1) h (g.congr fun p => (ZKd hv b e p).symm)
theorem ZHZ {m m' : List (Int × Int)} {b y : Int} {k : Nat} {fs gs : List (Option (List (Int × Int)))} (hv : Eqv m m') (n : (m.map (·.1)).Nodup) (h : ZAe m b y k fs) (g : ZAe m' b y k gs) : fs = gs := by
 refine List.ext_getElem (by rw [h.1, g.1]) fun i h1 h2 => ?_
 exact ZMe hv n (h.2 i _ (List.getElem?_eq_getElem h1)) (g.2 i _ (List.getElem?_eq_getElem h2))
theorem ZPE {c : TT} {t u : TS} {D : Z8} {σ : St} {H : Hp} (P : St → Hp → Prop) (h1 : ∀ σ' H', P σ' H' → u D σ' H') (h2 : ∀ u' : TS, (∀ σ' H', P σ' H' → u' D σ' H') → ZDc c t u' D σ H) : ZDc c t u D σ H := h2 u h1
end L2
set_option Elab.async false
set_option linter.all false
set_option maxRecDepth 100000
set_option maxHeartbeats 4000000
namespace L2
open PySem PySem.Spec PyProof.Rows PySem.W
def Itk (d : Addr) (o : Obj) (kvs : List (Key × V)) : It := ⟨fun i H => H d = some (.frz o (.dK kvs)) ∧ i < kvs.length, fun i H x H' => H' = H ∧ ∃ p, kvs[i]? = some p ∧ x = kV p.1, fun i H => H d = some (.frz o (.dK kvs)) ∧ kvs.length ≤ i⟩
theorem ZKf {P : Program} {w : World} {k : Key} {u : Value} (h : (Z4 P w).is k u = true) : ZX (kV k) u := by
 rcases YL h with ⟨i, t, rfl, rfl⟩ | ⟨x, t, rfl, rfl⟩
 ·exact ⟨t, rfl⟩
 ·exact ⟨t, rfl⟩
theorem ZSI {kvs : List (Key × V)} {vs : List (Key × Value)} (h : KV kvs vs) : ∀ {i : Nat} {p : Key × V}, kvs[i]? = some p → ∃ q, vs[i]? = some q ∧ q.1 = p.1 := by
 unfold KV at h
 induction h with
 | nil => intro i p e; simp at e
 | @cons a b as bs h t ih =>
  intro i p e
  cases i with
  | zero =>
   simp at e
   subst e
   exact ⟨b, rfl, h.1.symm⟩
  | succ i =>
   obtain ⟨q, h1, h2⟩ := ih (i := i) (p := p) (by simpa using e)
   exact ⟨q, by simpa using h1, h2⟩
theorem ZKg {P : Program} {w : World} {K : PySem.W.Frag} {tg : Expr} (d it : Addr) (o : Obj) (kvs : List (Key × V)) (es : Array DictEntry) (ep : Nat) (ho : o.data = .dict es ep) : ZF0 P w K tg (Itk d o kvs) [it] it (fun i h => h.IsKeyIter it d i kvs.length ep) where
 mem := by simp
 obj := fun i h st b hb => by
  have e : b = it := by simpa using hb
  subst e
  obtain ⟨o, e, c, d⟩ := st
  exact ⟨o, e, fun v z => by rw [d] at z; cases z⟩
 keep := fun i h h' st k => st.at fun o e => k it (by simp) o e
 item := by
  intro X hP hw hK hc i pins s σ H E I hf st hg
  subst hP hw hK
  obtain ⟨hd, hi⟩ := hg
  obtain ⟨f0, f1, f2, f3, f4, f5⟩ := hf it (by simp)
  obtain ⟨hob, z, hsm, vs, rel, dd⟩ := (show Zz X.prog X.w H s.heap d (.frz o (.dK kvs)) from I.hok d _ hd)
  obtain ⟨ep', dd⟩ := dd.dictAt
  obtain ⟨o2, es2, g1, g2, g3, g4⟩ := id dd
  rw [hob] at g1
  cases g1
  rw [ho] at g3
  cases g3
  have hlen : kvs.length = vs.length := rel.length
  obtain ⟨q, hq, eq⟩ := ZSI rel (List.getElem?_eq_getElem hi)
  rw [hlen] at st
  refine wpAny_pyNext_dict_item (knd := Z4 X.prog X.w) (k := q.1) (v := q.2) st dd hq fun key h' hkey hit' hs' => ?_
  have I1 : Inv X pins σ H { s with heap := h' } := I.turned (t' := s.toks) (fun b o hb e => (hs'.2 b hb).trans e) f0 f1 f3 f4 f5
  obtain ⟨o3, e3, c3, d3⟩ := id hit'
  refine ⟨key, rfl, ZFm (s := { s with heap := h' }) e3 c3 d3 (by decide) ⟨kV kvs[i].1, H, I1, ?_, ⟨rfl, _, List.getElem?_eq_getElem hi, rfl⟩, ?_, fun b hb => (hf b hb).1⟩⟩
  ·rw [← eq]; exact ZKf hkey
  ·rw [hlen]; exact hit'
 done := by
  intro X hP hw hK hc i pins s σ H E I hf st hg
  subst hP hw hK
  obtain ⟨hd, hi⟩ := hg
  obtain ⟨f0, f1, f2, f3, f4, f5⟩ := hf it (by simp)
  obtain ⟨hob, z, hsm, vs, rel, dd⟩ := (show Zz X.prog X.w H s.heap d (.frz o (.dK kvs)) from I.hok d _ hd)
  obtain ⟨ep', dd⟩ := dd.dictAt
  obtain ⟨o2, es2, g1, g2, g3, g4⟩ := id dd
  rw [hob] at g1
  cases g1
  rw [ho] at g3
  cases g3
  have hlen : kvs.length = vs.length := rel.length
  rw [hlen] at st
  exact wpAny_pyNext_dict_end (knd := Z4 X.prog X.w) (I.ok.hd hc) st dd (List.getElem?_eq_none (by omega)) fun h' eb => ⟨rfl, I.turned (t' := s.toks) (fun b o hb e => eb b o hb e) f0 f1 f3 f4 f5⟩
 self := fun _ _ _ _ _ st h => wpAny_pyIter_keyiter st h
def ZDK (X : Cx) (d : Addr) : Prop := ∀ o u, X.H₀ d ≠ some (.frz o u)
def ZGw (X : Cx) (R : It → Hp → Prop) (v : V) (H : Hp) : Prop := ∃ d kvs, v = .ref d ∧ H d = some (.dK kvs) ∧ ∀ o, ZDK X d → R (Itk d o kvs) (upd H d (.frz o (.dK kvs)))
def ZNg (X : Cx) (te : TE) : TI := fun σ H R => te σ H fun v H1 => ZGw X R v H1
section
variable {X : Cx} {tg e : Expr} {te t : TE}
theorem ZPF (he : QE X e te) : QI X tg e (ZNg X te) := by
 refine ⟨?_⟩
 intro pins s σ H R I h
 refine thn (he.h pins s σ H _ I h) fun u s1 ⟨x, H1, I1, rx, d, kvs, ex, hd, q⟩ => ?_
 subst ex
 obtain rfl : u = Value.ref d := rx
 obtain ⟨z, hsm, vs, rel, dd⟩ := ZEL I1.hok hd
 obtain ⟨ep, dda⟩ := dd.dictAt
 obtain ⟨o, es, ho, hx, hdat, hk, hpr, hn⟩ := id dda
 have hnf : ZDK X d := fun o u e => by
  have := I1.base.frzs d o u e
  rw [hd] at this
  cases this
 have hlen : kvs.length = vs.length := rel.length
 -- frozen
 have I2 : Inv X pins σ (upd H1 d (.frz o (.dK kvs))) s1 := by
  have := ZBs (h' := s1.heap) (t' := s1.toks) (ob := .frz o (.dK kvs)) I1 (by rw [hd]; exact True.intro) (Heap.SameBut.refl _ _) ⟨o, ho⟩ ⟨ho, ZGJ z hsm rel dd⟩
  exact this
 refine wpAny_pyIter_dict (knd := Z4 X.prog X.w) hsm dda ?_
 refine ⟨s1.heap.objs.size, [s1.heap.objs.size], _, _, _, rfl, I2.kept (t' := s1.toks) fun b o e => Heap.get?_push_of_some _ e, ZKg d _ o kvs es ep hdat, ?_, fun b hb => ?_, q o hnf⟩
 ·rw [hlen]
  exact ⟨_, Heap.get?_push_size _ rfl, rfl, rfl⟩
 ·have e : b = s1.heap.objs.size := by simpa using hb
  subst e
  exact I2.fpOk (Nat.le_refl _) (I2.hok.fresh (Nat.le_refl _))
theorem Inv.thaw {pins : List (Addr × Obj)} {σ : St} {H : Hp} {s : Shared} {d : Addr} {o : Obj} {u : HO} (I : Inv X pins σ H s) (hd : H d = some (.frz o u)) (nf : ZDK X d) (hu : Mut (some u)) : Inv X pins σ (upd H d u) s := by
 have hne : ∀ b ob, H b = some ob → (∀ o u, ob ≠ .frz o u) → b ≠ d := fun b ob e n z => by rw [z, hd] at e; cases e; exact n _ _ rfl
 have hnn : ∀ b, H b = none → b ≠ d := fun b e z => by rw [z, hd] at e; cases e
 obtain ⟨ho, hou⟩ := (show Zz X.prog X.w H s.heap d (.frz o u) from I.hok d _ hd)
 have base := I.base
 refine ⟨I.ok, I.os, I.bare, ⟨base.keep, base.slot, fun b ob e n hx => ?_, base.there, fun b xs e => ?_, fun b ob v e => ?_, fun b ps e => ?_⟩, I.loc, I.cell, ?_, fun x c e => ?_, fun p hp => ?_, fun b ob e => ?_, I.len⟩
 ·have := base.free b ob e n hx
  rw [Za (hnn b this)]; exact this
 ·have := base.tups b xs e
  rw [Za (hne b _ this fun _ _ z => by cases z)]; exact this
 ·have h1 := base.frzs b ob v e
  have : b ≠ d := fun z => by subst z; exact nf _ _ e
  rw [Za this]; exact h1
 ·obtain ⟨more, h1⟩ := base.tbls b ps e
  exact ⟨more, by rw [Za (hne b _ h1 fun _ _ z => by cases z)]; exact h1⟩
 ·rw [Za (hnn _ I.free)]; exact I.free
 ·rw [Za (hnn _ (I.freeC x c e))]; exact I.freeC x c e
 ·obtain ⟨h1, h2, h3⟩ := I.pin p hp
  exact ⟨h1, by rw [Za (hnn _ h2)]; exact h2, h3⟩
 ·by_cases hb : b = d
  ·subst hb
   rw [ZS] at e
   cases e
   exact hou.stay (fun c v _ r => r) (fun c r => by rw [Za (hne c _ r fun _ _ z => by cases z)]; exact r) fun c xs r => by rw [Za (hne c _ r fun _ _ z => by cases z)]; exact r
  ·rw [Za hb] at e
   exact (I.hok b _ e).stay (fun c v _ r => r) (fun c r => by rw [Za (hne c _ r fun _ _ z => by cases z)]; exact r) fun c xs r => by rw [Za (hne c _ r fun _ _ z => by cases z)]; exact r
def ZI1 (X : Cx) (v : V) (H : Hp) (Q : VK) : Prop := ∃ d o u, ZDK X d ∧ H d = some (.frz o u) ∧ Mut (some u) ∧ Q v (upd H d u)
def ZNh (X : Cx) (t : TE) : TE := fun σ H Q => t σ H fun v H' => ZI1 X v H' Q
theorem ZPG (h : QE X e t) : QE X e (ZNh X t) := by
 refine ⟨?_⟩
 intro pins s σ H Q I hq
 refine thn (h.h pins s σ H _ I hq) fun u s1 ⟨x, H1, I1, rx, d, o, v, nf, hd, hm, q⟩ => ?_
 exact ⟨x, _, I1.thaw hd nf hm, rx, q⟩
end
end L2
namespace L2
open PySem PySem.Spec PyProof.Rows PySem.W
section
variable {X : Cx} {σ : St} {H : Hp} {Q : VK} {R : It → Hp → Prop} {te t : TE} {d : Addr} {m : List (Int × Int)}
theorem ZMf (h : te σ H fun v H1 => ZGw X R v H1) : ZNg X te σ H R := h
theorem ZRV (h1 : H d = some (.dK (Zj m))) (h : ∀ o H2, ZDK X d → H2 d = some (.frz o (.dK (Zj m))) → Kp d H H2 → R (Itk d o (Zj m)) H2) : ZGw X R (.ref d) H := ⟨d, _, rfl, h1, fun o nf => h o _ nf ZS Kp.upd⟩
theorem ZMg (h : t σ H fun v H' => ZI1 X v H' Q) : ZNh X t σ H Q := h
theorem ZPH {v : V} {o : Obj} (nf : ZDK X d) (hd : H d = some (.frz o (.dK (Zj m)))) (q : ∀ H2, H2 d = some (.dK (Zj m)) → Kp d H H2 → Q v H2) : ZI1 X v H Q := ⟨d, o, _, nf, hd, True.intro, q _ ZS Kp.upd⟩
theorem ZMh {o : Obj} {t v : Int} (h1 : H d = some (.frz o (.dK (Zj m)))) (h2 : Ze m t = some v) (h : Q (.int v) H) : ZIm (.ref d) (.int t) H Q :=
 ⟨d, _, rfl, .inl ⟨Zj m, .inl t, .inr ⟨o, h1⟩, rfl, by rw [Jb, h2]; rfl⟩, h⟩
theorem ZSJ {i : Nat} (hi : i < m.length) : (Zj m)[i]? = some (dkE m[i]) := by
 unfold Zj
 rw [List.getElem?_map, List.getElem?_eq_getElem hi]
 rfl
end
end L2
set_option Elab.async false
set_option linter.all false
set_option maxRecDepth 100000
set_option maxHeartbeats 4000000
namespace L2
open PySem PySem.Spec PyProof.Rows PySem.W
section
variable {K : Type} [DecidableEq K]
def ZAq (xs : List (K × Addr × Value)) (k : K) : List (K × Addr × Value) := xs.filter fun x => decide (x.1 ≠ k)
theorem ZFF {α β : Type} (f : α → β) : ∀ (l : List α) (j : Nat), (l.map f).eraseIdx j = (l.eraseIdx j).map f
 | [], _ => rfl
 | _ :: _, 0 => rfl
 | x :: l, j + 1 => congrArg (f x :: ·) (ZFF f l j)
theorem ZI2 {k : K} : ∀ {xs : List (K × Addr × Value)}, k ∉ xs.map (·.1) → ZAq xs k = xs := fun {xs} h => by
 unfold ZAq
 rw [List.filter_eq_self]
 intro x hx
 simp only [decide_eq_true_eq]
 exact fun e => h (List.mem_map.mpr ⟨x, hx, e⟩)
theorem ZDS {k : K} {p : Addr × Value} : ∀ {xs : List (K × Addr × Value)} {j : Nat}, (xs.map (·.1)).Nodup → xs[j]? = some (k, p) → xs.eraseIdx j = ZAq xs k
 | [], j, _, h => by simp at h
 | x :: xs, 0, n, h => by
  simp at h
  subst h
  rw [List.map_cons, List.nodup_cons] at n
  rw [List.eraseIdx_cons_zero]
  unfold ZAq
  rw [List.filter_cons_of_neg (by simp)]
  exact (ZI2 n.1).symm
 | x :: xs, j + 1, n, h => by
  rw [List.map_cons, List.nodup_cons] at n
  have h' : xs[j]? = some (k, p) := by simpa using h
  have hne : x.1 ≠ k := fun e => n.1 (by rw [e]; exact List.mem_map.mpr ⟨(k, p), List.mem_of_getElem? h', rfl⟩)
  rw [List.eraseIdx_cons_succ]
  unfold ZAq
  rw [List.filter_cons_of_pos (by simpa using hne)]
  congr 1
  exact ZDS n.2 h'
variable {prog : Program} {w : World} {knd : HeapKind prog w K} {A : Around} {E : Value → Shared → Prop} {s : Shared} {d a : Addr} {k : K} {xs : List (K × Addr × Value)}
theorem ZMi {Q : Option DictEntry → Shared → Prop} (hu : knd.room A) (hkey : knd.is s.heap k a) (hm : s.heap.DictOfH knd d xs) (hsz : xs.length ≤ sizeLine)
  (hnone : atKey xs k = none → Q none { s with toks := s.toks + knd.draws k })
  (hsome : ∀ e p, atKey xs k = some p → e.val = p.2 → ∀ h', h'.DictOfH knd d (ZAq xs k) → Heap.SameBut d s.heap h' → Q (some e) { s with heap := h', toks := s.toks + knd.draws k }) :
  wpAny (model prog w) A (Builtin.Dict.takeOut d (.ref a)) Q E s := by
 obtain ⟨o, es, ep, ho, hc, hd, he, his, hn⟩ := hm
 unfold Builtin.Dict.takeOut
 try with_reducible refine wpAny_holding ?_
 refine wpAny_bind (knd.pyHash hu hkey (wpAny_bind (wpAny_dictFind_heap (s := { s with toks := s.toks + knd.draws k }) hu hkey ho hd he his hn ?_ ?_)))
 ·intro hno
  exact wpAny_pure (hnone (atKey_none_of_get hno))
 ·intro j p hj
  refine wpAny_bind (wpAny_dictEntries (s := { s with toks := s.toks + knd.draws k }) ho hd ?_)
  rw [entry_at he j, hj]
  refine wpAny_bind (wpAny_updateDictKeys (hz := by have e := size_of_entries he; omega) (s := { s with toks := s.toks + knd.draws k }) ho hd (wpAny_pure (hsome _ p (atKey_of_get hn hj) rfl _ ⟨_, _, ep + 1, Heap.get?_update_self _ ho (Obj.isFreed_of_dict (Obj.data_mapDictKeys hd _)),
   hc.mapDictKeys _, Obj.data_mapDictKeys hd _, ?_, ?_, ?_⟩ (Heap.SameBut.update ..))))
  ·rw [← ZDS hn hj, ← ZFF, ← he]
   obtain ⟨l⟩ := es
   simp
  ·intro x hx
   exact knd.keeps (his x (List.mem_filter.mp hx).1) ho hd (Heap.SameBut.update ..)
  ·exact hn.sublist ((List.filter_sublist).map _)
theorem ZHa (knd : HeapKind prog w K) (d a : Addr) (hd : (d == sysModules) = false) (dflt : Value) :
  MeetsIn prog w (Builtin.«dict.pop» ⟨[.ref d, .ref a, dflt], []⟩) (fun A R s => knd.room A.in1 ∧ ∃ k xs, knd.is s.heap k a ∧ s.heap.DictOfH knd d xs ∧ xs.length ≤ sizeLine ∧
   (∀ p, atKey xs k = some p → ∀ h', h'.DictOfH knd d (ZAq xs k) → Heap.SameBut d s.heap h' → ∀ t, R (.ok (.ret p.2)) { s with heap := h', toks := t }) ∧
   (atKey xs k = none → ∀ t, R (.ok (.ret dflt)) { s with toks := t })) :=
 .of_wp fun A R s ⟨hu, k, xs, hkey, hm, hsz, h1, h2⟩ => by
  have hd' := hd
  unfold Builtin.«dict.pop»
  refine wpAny_bind ?_
  unfold Builtin.Dict.keyAndDefault
  refine wpAny_bind (wpAny_notOrdered_dict hm.typeIs ?_)
  show wpAny _ _ (pure (d, Value.ref a, some dflt)) _ _ s
  refine wpAny_pure ?_
  obtain ⟨o, es, ep, ho, hc, hdd, he, his, hn⟩ := id hm
  have hkp : (keyPart (Value.ref a)).isSome = false := rfl
  simp only [hkp, Bool.false_eq_true, if_false]
  refine wpAny_bind (wpAny_dictEntries ho hdd (wpAny_bind (wpAny_pure ?_)))
  by_cases hem : es.isEmpty = true
  ·rw [if_pos hem]
   have hx : xs = [] := by
    have := size_of_entries he
    have h0 : es.size = 0 := by simpa [Array.isEmpty] using hem
    exact List.length_eq_zero_iff.mp (by omega)
   subst hx
   refine wpAny_bind (wpAny_rule (wpAny_bind (wpAny_pure ?_)))
   simp only [Option.isNone_none, if_true]
   refine wpAny_bind (wpAny_missedRemoval_other hd ?_)
   exact wpAny_bind (wpAny_rule (wpAny_pure ⟨dflt, rfl, h2 rfl _⟩))
  ·rw [if_neg hem]
   refine wpAny_bind (ZMi hu hkey hm hsz (fun hno => ?_) fun e p hp hev h' hm' hs' => ?_)
   ·simp only [Option.isNone_none, if_true]
    refine wpAny_bind (wpAny_missedRemoval_other hd ?_)
    exact wpAny_bind (wpAny_rule (wpAny_pure ⟨dflt, rfl, h2 hno _⟩))
   ·simp only [Option.isNone_some, Bool.false_eq_true, if_false]
    exact wpAny_bind (wpAny_letGo (wpAny_pure ⟨e.val, rfl, by rw [hev]; exact h1 p hp h' hm' hs' _⟩))
end
theorem KT.dropT {H : Hp} {kvs : List (List Key × V)} {xs : List (List Key × Addr × Value)} (r : KT H kvs xs) (k : List Key) : KT H (Yn kvs k) (ZAq xs k) := by
 unfold Yn ZAq
 induction r with
 | nil => exact .nil
 | @cons p q ps qs h t ih =>
  by_cases e : p.1 = k
  ·rw [List.filter_cons_of_neg (by simpa using e), List.filter_cons_of_neg (by simpa using h.1.symm.trans e)]
   exact ih
  ·rw [List.filter_cons_of_pos (by simpa using e), List.filter_cons_of_pos (by simpa using fun z => e (h.1.trans z))]
   exact .cons h ih
section
variable {X : Cx} {pins : List (Addr × Obj)} {σ : St} {H : Hp} {s : Shared} {a b : Addr} {kvs : List (List Key × V)} {k : List Key} {A : Around} {E : Value → Shared → Prop}
theorem ZRW {z : V} {r : Value} {Q : Value → Shared → Prop} (hu : A.units + 1 < cLine) (I : Inv X pins σ H s) (e : H a = some (.dT kvs)) (eb : H b = some (.tup (k.map kV))) (rz : ZX z r)
  (h1 : ∀ v, Zh kvs k = some v → ∀ w' s', Inv X pins σ (upd H a (.dT (Yn kvs k))) s' → ZX v w' → Q w' s') (h2 : Zh kvs k = none → ∀ s', Inv X pins σ H s' → Q r s') :
  wpAny (model X.prog X.w) A (call (.builtin "dict.pop") [.ref a, .ref b, r]) Q E s := by
 obtain ⟨z, hd, xs, rel, dd⟩ := ZNY I.hok e
 have hz : xs.length ≤ sizeLine := by rw [← Paired.length rel]; exact z
 refine call_meetsIn PySem.F.slot_dict_pop dd.typeIs PySem.F.entry_dict_pop (PySem.F.args_dict_pop_3 _ _ _) (ZHa (tupleKind (Z4 X.prog X.w)) a b hd r) ⟨tupleKind_room_in1 hu, k, xs, ZAd I.hok eb, dd, hz, fun p hp h' dd' hs t => ?_, fun hn t => ?_⟩
 ·have hv := rel.val k
  rw [hp] at hv
  cases hk : Zh kvs k with
  | none => rw [hk] at hv; exact hv.elim
  | some v =>
   rw [hk] at hv
   refine h1 v hk _ _ ?_ hv
   obtain ⟨q, es, ep, hq, g2, g3, g4, _, g5⟩ := dd'
   refine ZBs I (by rw [e]; exact True.intro) hs ⟨q, hq⟩ ⟨Nat.le_trans (List.length_filter_le _ _) z, hd, _, (rel.dropT k).keeps fun c ys ec => ?_, q, es, ep, hq, g2, g3, g4, g5⟩
   rw [Za (ZNR ec e (fun z => nomatch z))]
   exact ec
 ·have hv := rel.val k
  rw [hn] at hv
  cases hk : Zh kvs k with
  | some v => rw [hk] at hv; exact hv.elim
  | none => exact h2 hk _ (I.tok _)
end
def ZGx (a : Addr) (y z : V) (H : Hp) (Q : VK) : Prop := ∃ kvs k b, H a = some (.dT kvs) ∧ y = .ref b ∧ H b = some (.tup (k.map kV)) ∧
 (∀ v, Zh kvs k = some v → Q v (upd H a (.dT (Yn kvs k)))) ∧ (Zh kvs k = none → Q z H)
def ZEo (ty tx : TE) (σ : St) (Q : VK) (x : V) (H : Hp) : Prop := ∃ a, x = .ref a ∧ IsD H a ∧ ty σ H fun y H2 => tx σ H2 fun z H3 => ZGx a y z H3 Q
def ZGy (td ty tx : TE) : TE := fun σ H Q => td σ H fun x H1 => ZEo ty tx σ Q x H1
theorem ZMj {X : Cx} {o e f : Expr} {apos cpos : Pos} {td ty tx : TE} (hu : X.A.units + 1 < cLine) (ho : PE X o td) (he : PE X e ty) (hf : PE X f tx) (m : M2 X o "pop" apos e f cpos) : PE X (.Call (.Attribute o "pop" apos) [e, f] [] cpos) (ZGy td ty tx) := by
 intro pins s σ H Q I h
 refine wpAny_Call_method m.base m.few m.line PySem.F.plainAttrs_dict PySem.F.slot_dict_pop PySem.F.type_dict_pop (thn (ho pins s σ H _ I h) fun u s1 ⟨x, H1, I1, rx, a, ex, d, q1⟩ => ?_)
 subst ex
 obtain rfl : u = Value.ref a := rx
 obtain ⟨t1, t2, _⟩ := ZCm I1 d
 refine ⟨t1, t2, ?_⟩
 rw [m.trees]
 refine Calls.callWith_builtin rfl (Calls.evalArgs_plain (Calls.spliced_cons (thn (he pins s1 σ H1 _ I1 q1) fun iv s2 ⟨y, H2, I2, ry, q2⟩ =>
  Calls.spliced_cons (thn (hf pins s2 σ H2 _ I2 q2) fun fv s3 ⟨z, H3, I3, rz, kvs, k, b, ea, ey, eb, q3, q4⟩ => Calls.spliced_nil ?_))))
 subst ey
 obtain rfl : iv = Value.ref b := ry
 exact ZRW hu I3 ea eb rz (fun v l w' s4 I4 rw' => ⟨v, _, I4, rw', q3 v l⟩) fun l s4 I4 => ⟨z, H3, I4, rz, q4 l⟩
section
variable {X : Cx} {o e f : Expr} {apos cpos pos p : Pos} {td ty tx : TE}
theorem ZMk (hu : X.A.units + 1 < cLine) (ho : QE X o td) (he : QE X e ty) (hf : QE X f tx) (m : M2 X o "pop" apos e f cpos := by exact ⟨rfl, rfl, rfl, rfl⟩) : QE X (.Call (.Attribute o "pop" apos) [e, f] [] cpos) (ZGy td ty tx) := ⟨ZMj hu ho.h he.h hf.h m⟩
variable {σ : St} {H : Hp} {Q : VK} {a b : Addr} {kvs : List (List Key × V)} {k : List Key} {z : V}
theorem ZKh (h : td σ H fun x H1 => ZEo ty tx σ Q x H1) : ZGy td ty tx σ H Q := h
theorem ZKi (h1 : H a = some (.dT kvs)) (q : ty σ H fun y H2 => tx σ H2 fun z H3 => ZGx a y z H3 Q) : ZEo ty tx σ Q (.ref a) H := ⟨a, rfl, .inr ⟨kvs, .inl h1⟩, q⟩
theorem ZI3 (h : Zh kvs k = none) : Yn kvs k = kvs := by
 unfold Yn
 rw [List.filter_eq_self]
 intro x hx
 simp only [decide_eq_true_eq]
 intro e
 unfold Zh at h
 rw [Option.map_eq_none_iff, List.find?_eq_none] at h
 exact h x hx (by simpa using e)
theorem ZMl (h1 : H a = some (.dT kvs)) (hb : H b = some (.tup (k.map kV))) (q : ∀ v H2, H2 a = some (.dT (Yn kvs k)) → Kp a H H2 → Q v H2) : ZGx a (.ref b) z H Q :=
 ⟨kvs, k, b, h1, rfl, hb, fun v _ => q v _ ZS Kp.upd, fun l => q z H (by rw [ZI3 l]; exact h1) fun _ _ e _ => e⟩
theorem ZEp (h1 : H a = some (.dT kvs)) (hb : H b = some (.tup (k.map kV))) (q : Q (.bl (Zh kvs k).isSome) H) : ZMa (.ref b) (.ref a) H Q := ⟨a, _, rfl, YY.t h1 hb, q⟩
theorem ZI4 (h1 : H a = some (.dT kvs)) (hb : H b = some (.tup (k.map kV))) (q : Q (.bl (!(Zh kvs k).isSome)) H) : ZDs (.ref b) (.ref a) H Q := ⟨a, _, rfl, YY.t h1 hb, q⟩
end
end L2
set_option Elab.async false
set_option linter.all false
set_option maxRecDepth 100000
set_option maxHeartbeats 4000000
namespace L2
open PySem PySem.Spec PyProof.Rows PySem.W
def ZCH (n : Nat) : List V := (List.range n).map fun (i : Nat) => V.int (i : Int)
def ZDu (vs : List V) (H : Hp) (Q : VK) : Prop := ∃ j : Int, vs = [.int j] ∧ 0 ≤ j ∧ j ≤ 1000 ∧ ∀ l, H l = none → Q (.ref l) (upd H l (.lst (ZCH j.toNat)))
def ZGz (ta : TA) : TE := fun σ H Q => ta σ H fun vs H1 => ZDu vs H1 Q
theorem ZMm : ∀ (n : Nat) (its : List Value), its.length = n → (∀ (j : Nat) v, its[j]? = some v → ∃ t, v = Value.int (j : Int) t) → ZV (ZCH n) its := by
 intro n
 induction n with
 | zero =>
  intro its h _
  obtain rfl := List.length_eq_zero_iff.mp h
  exact .nil
 | succ n ih =>
  intro its h g
  have hl : n < its.length := by omega
  have e : its = its.take n ++ [its[n]] := by
   rw [← List.take_succ_eq_append_getElem hl, List.take_of_length_le (by omega)]
  have h1 : ZV (ZCH n) (its.take n) := ih _ (by rw [List.length_take]; omega) fun j v hv => by
   rw [List.getElem?_take] at hv
   split at hv
   ·exact g j v hv
   ·cases hv
  rw [e]
  have : ZCH (n + 1) = ZCH n ++ [V.int (n : Int)] := by unfold ZCH; rw [List.range_succ, List.map_append]; rfl
  rw [this]
  obtain ⟨t, ht⟩ := g n _ (List.getElem?_eq_getElem hl)
  exact Paired.snoc h1 ⟨t, ht⟩
section
variable {X : Cx} {a : Expr} {ta : TA} {p p2 pos pos2 : Pos}
theorem ZI5 (hc : X.calm = true) (hgl : Gl X "list") (hml : X.mg "list" = none) (hg : Gl X "range") (hm : X.mg "range" = none) (ha : QA X [a] ta) (hs : Jm a = false := by rfl) :
  QE X (.Call (.Name "list" p) [.Call (.Name "range" p2) [a] [] pos2] [] pos) (ZGz ta) := by
 refine ⟨?_⟩
 intro pins s σ H Q I h
 refine wpAny_Call_Name_kw (ZAa I hgl hml ZOH ?_ (by decide) (by decide))
 refine PyProof.Rows.callWith_type1 ?_ rfl rfl
 show wpAny _ _ (spliced ((false, eval (.Call (.Name "range" p2) [a] [] pos2) X.env) :: backTo pos (starEach [] X.env))) _ _ s
 refine Calls.spliced_cons ?_
 refine Call_ (ZAa I hg hm boot_range (PyProof.Rows.callWith_type1 (thn (ha.h pos2 pins s σ H _ I h) fun us s1 ⟨vs, H1, I1, r1, q1⟩ => ?_) (Jy hs) rfl))
 obtain ⟨j, e, q1, q2, q⟩ := q1
 subst e
 cases r1 with
 | cons r rr =>
  cases rr
  obtain ⟨t, rfl⟩ := r
  refine call_range_1 (Calls.spliced_nil ?_)
  have I2 : Inv X pins σ H1 { s1 with heap := s1.heap.push { cls := .type "range", data := .fields #[.int 0 s1.toks, .int j t, .int 1 (s1.toks + 1)] }, toks := s1.toks + 1 + 1 } := I1.kept fun b o e => Heap.get?_push_of_some _ e
  refine call_list_range (n := j.toNat) (I1.ok.hd hc) (IsRange.new ..) (small_one (by omega) (by omega) (by omega) (by omega)) ?_ (by omega) fun h' tk acc' c' hk hS hI => ?_
  ·rw [rangeSize_one]; split <;> omega
  ·refine ⟨.ref _, _, I2.laid (o := .lst (ZCH j.toNat)) (t' := tk) hk (Nat.le_refl _) ?_, rfl, q _ (I2.hok.fresh (Nat.le_refl _))⟩
   refine ⟨?_, acc'.toList, c', ZMm _ _ ?_ fun i v hv => ?_, ?_⟩
   ·unfold ZCH; rw [List.length_map, List.length_range]; show _ ≤ 2 ^ 24; omega
   ·rw [Array.length_toList]; exact hI.1
   ·obtain ⟨t, ht⟩ := hI.2 i v (by rw [← Array.getElem?_toList]; exact hv)
    exact ⟨t, by rw [ht]; simp⟩
   ·rw [hS]
theorem ZHb {σ : St} {H : Hp} {Q : VK} (h : ta σ H fun vs H1 => ZDu vs H1 Q) : ZGz ta σ H Q := h
theorem ZI6 {H : Hp} {Q : VK} {j : Int} (h0 : 0 ≤ j) (h1 : j ≤ 1000) (q : ∀ l H2, H l = none → H2 l = some (.lst (ZCH j.toNat)) → ZK H H2 → Q (.ref l) H2) : ZDu [.int j] H Q :=
 ⟨j, rfl, h0, h1, fun l hl => q l _ hl ZS (ZK.new hl)⟩
end
end L2
set_option Elab.async false
set_option linter.all false
set_option maxRecDepth 100000
set_option maxHeartbeats 4000000
namespace L2
open PySem PySem.Spec PyProof.Rows PySem.W
theorem ZKj {X : Cx} (K : PySem.W.Frag) (h : X.K = K) : OpR X (compareOp .In) (rIn K false) := h ▸ ZJk
def YQ (l : List Nat) : List V := l.map fun (i : Nat) => V.int (i : Int)
theorem ZKk (l : List Nat) : (YQ l).all ZAV = true := by
 unfold YQ
 rw [List.all_map]
 simp [List.all_eq_true, ZAV, Function.comp]
theorem ZG0 (k : Nat) : ∀ l : List Nat, inV (.int (k : Int)) (YQ l) = decide (k ∈ l)
 | [] => rfl
 | x :: l => by
  have ih := ZG0 k l
  unfold inV YQ at ih ⊢
  rw [List.map_cons, List.any_cons, ih]
  by_cases e : x = k
  ·subst e; simp [eqV]
  ·have : ¬ ((x : Int) = (k : Int)) := by omega
   simp [eqV, this, e, Ne.symm e]
theorem ZKl {K : PySem.W.Frag} {H : Hp} {Q : VK} {p : Addr} {l : List Nat} {i : Int} {k : Nat} (hi : i = (k : Int)) (h1 : H p = some (.lst (YQ l))) (q : Q (.bl (decide (k ∈ l))) H) : rIn K false (.int i) (.ref p) H Q :=
 ⟨p, _, rfl, .inl (SqL.of h1), rfl, ZKk l, by subst hi; rw [if_neg (by decide), ZG0]; exact q⟩
end L2
set_option Elab.async false
set_option linter.all false
set_option maxRecDepth 100000
set_option maxHeartbeats 4000000
namespace L2
open PySem PySem.Spec PyProof.Rows PySem.W
section
variable {prog : Program} {w : World} {A : Around} {E : Value → Shared → Prop} {s : Shared}
theorem ZFG {x y : Int} {t u : Tok} {Q : Value → Shared → Prop} (h : Q (.bool (decide (x < y))) s) : wpAny (model prog w) A (richCompare .Lt (.int x t) (.int y u)) Q E s :=
 richCompare_gives (op := .Lt) (typeIs_int s _ t) (typeIs_int s _ u) F.slot_int_lt F.entry_int_lt (F.args_int_lt_2 _ _) (gives_int_lt _ _ t u) (fun x => nomatch x) h
theorem ZG1 {a b : Addr} {oa ob : Obj} {na nb : Nat} {p q : Int × Int} {t1 t2 u1 u2 : Tok} {P : Fin → Shared → Prop} (hoa : s.heap.get? a = some oa) (hda : oa.data = .seq #[.int p.1 t1, .int p.2 t2] na)
  (hob : s.heap.get? b = some ob) (hdb : ob.data = .seq #[.int q.1 u1, .int q.2 u2] nb) (hT : s.TypeIs (.ref b) "tuple") (h : P (.done (.ret (.bool (ltP p q)))) s) :
  wpAny (model prog w) A (Builtin.«tuple.__lt__» ⟨[.ref a, .ref b], []⟩) P E s := by
 show wpAny _ _ (isInstance (.ref b) (.type "tuple") >>= _) _ _ s
 refine wpAny_bind (wpAny_isInstance hT isSubtype_tuple_tuple ?_)
 simp only [Bool.not_true, Bool.false_eq_true, if_false]
 refine wpAny_bind (wpAny_tupleItemsOf hoa hda ?_)
 refine wpAny_bind (wpAny_tupleItemsOf hob hdb ?_)
 refine wpAny_bind ?_
 simp only [List.zip_cons_cons, List.zip_nil_left, List.forIn_cons, List.forIn_nil]
 refine wpAny_bind (wpAny_bind (wpAny_eqBool_int ?_))
 by_cases e1 : p.1 = q.1
 ·rw [show (p.1 == q.1) = true by simpa using e1]
  simp only [Bool.not_true, Bool.false_eq_true, if_false]
  refine wpAny_pure ?_
  refine wpAny_bind (wpAny_bind (wpAny_eqBool_int ?_))
  by_cases e2 : p.2 = q.2
  ·rw [show (p.2 == q.2) = true by simpa using e2]
   simp only [Bool.not_true, Bool.false_eq_true, if_false]
   refine wpAny_pure (wpAny_pure ?_)
   have hl : ltP p q = false := YX.mpr (by omega)
   rw [hl] at h
   exact wpAny_pure h
  ·rw [show (p.2 == q.2) = false by simpa using e2]
   simp only [Bool.not_false, if_true]
   have hl : ltP p q = decide (p.2 < q.2) := by
    rw [Bool.eq_iff_iff, Yc, decide_eq_true_iff]
    omega
   rw [hl] at h
   exact wpAny_bind (wpAny_rule (wpAny_bind (ZFG (wpAny_bind (wpAny_pure (wpAny_pure (wpAny_pure (wpAny_pure h))))))))
 ·rw [show (p.1 == q.1) = false by simpa using e1]
  simp only [Bool.not_false, if_true]
  have hl : ltP p q = decide (p.1 < q.1) := by
   rw [Bool.eq_iff_iff, Yc, decide_eq_true_iff]
   omega
  rw [hl] at h
  exact wpAny_bind (wpAny_rule (wpAny_bind (ZFG (wpAny_bind (wpAny_pure (wpAny_pure (wpAny_pure (wpAny_pure h))))))))
theorem ZFH {x y : Int} {t u : Tok} {Q : Value → Shared → Prop} (h : Q (.bool (decide (x > y))) s) : wpAny (model prog w) A (richCompare .Gt (.int x t) (.int y u)) Q E s :=
 richCompare_gives (op := .Gt) (typeIs_int s _ t) (typeIs_int s _ u) F.slot_int_gt F.entry_int_gt (F.args_int_gt_2 _ _) (gives_int_gt _ _ t u) (fun x => nomatch x) h
theorem ZG2 {a b : Addr} {oa ob : Obj} {na nb : Nat} {p q : Int × Int} {t1 t2 u1 u2 : Tok} {P : Fin → Shared → Prop} (hoa : s.heap.get? a = some oa) (hda : oa.data = .seq #[.int p.1 t1, .int p.2 t2] na)
  (hob : s.heap.get? b = some ob) (hdb : ob.data = .seq #[.int q.1 u1, .int q.2 u2] nb) (hT : s.TypeIs (.ref b) "tuple") (h : P (.done (.ret (.bool (ltP q p)))) s) :
  wpAny (model prog w) A (Builtin.«tuple.__gt__» ⟨[.ref a, .ref b], []⟩) P E s := by
 show wpAny _ _ (isInstance (.ref b) (.type "tuple") >>= _) _ _ s
 refine wpAny_bind (wpAny_isInstance hT isSubtype_tuple_tuple ?_)
 simp only [Bool.not_true, Bool.false_eq_true, if_false]
 refine wpAny_bind (wpAny_tupleItemsOf hoa hda ?_)
 refine wpAny_bind (wpAny_tupleItemsOf hob hdb ?_)
 refine wpAny_bind ?_
 simp only [List.zip_cons_cons, List.zip_nil_left, List.forIn_cons, List.forIn_nil]
 refine wpAny_bind (wpAny_bind (wpAny_eqBool_int ?_))
 by_cases e1 : p.1 = q.1
 ·rw [show (p.1 == q.1) = true by simpa using e1]
  simp only [Bool.not_true, Bool.false_eq_true, if_false]
  refine wpAny_pure ?_
  refine wpAny_bind (wpAny_bind (wpAny_eqBool_int ?_))
  by_cases e2 : p.2 = q.2
  ·rw [show (p.2 == q.2) = true by simpa using e2]
   simp only [Bool.not_true, Bool.false_eq_true, if_false]
   refine wpAny_pure (wpAny_pure ?_)
   have hl : ltP q p = false := YX.mpr (by omega)
   rw [hl] at h
   exact wpAny_pure h
  ·rw [show (p.2 == q.2) = false by simpa using e2]
   simp only [Bool.not_false, if_true]
   have hl : ltP q p = decide (p.2 > q.2) := by
    rw [Bool.eq_iff_iff, Yc, decide_eq_true_iff]
    omega
   rw [hl] at h
   exact wpAny_bind (wpAny_rule (wpAny_bind (ZFH (wpAny_bind (wpAny_pure (wpAny_pure (wpAny_pure (wpAny_pure h))))))))
 ·rw [show (p.1 == q.1) = false by simpa using e1]
  simp only [Bool.not_false, if_true]
  have hl : ltP q p = decide (p.1 > q.1) := by
   rw [Bool.eq_iff_iff, Yc, decide_eq_true_iff]
   omega
  rw [hl] at h
  exact wpAny_bind (wpAny_rule (wpAny_bind (ZFH (wpAny_bind (wpAny_pure (wpAny_pure (wpAny_pure (wpAny_pure h))))))))
theorem ZI7 {a b : Addr} {oa ob : Obj} {na nb : Nat} {p q : Int × Int} {t1 t2 u1 u2 : Tok} {Q : Value → Shared → Prop} (hu : A.units < cLine) (hoa : s.heap.get? a = some oa) (hda : oa.data = .seq #[.int p.1 t1, .int p.2 t2] na)
  (hob : s.heap.get? b = some ob) (hdb : ob.data = .seq #[.int q.1 u1, .int q.2 u2] nb) (hTa : s.TypeIs (.ref a) "tuple") (hT : s.TypeIs (.ref b) "tuple") (h : Q (.bool (ltP p q)) s) :
  wpAny (model prog w) A (richCompare .Lt (.ref a) (.ref b)) Q E s :=
 wpAny_richCompare_same_room hTa hT F.slot_tuple_lt (wpAny_call_entry F.slot_tuple_lt hTa F.entry_tuple_lt (ZG1 hoa hda hob hdb hT ⟨_, rfl, (fun z => nomatch z), h⟩) (F.args_tuple_lt_2 _ _)) hu
theorem ZI8 {a b : Addr} {oa ob : Obj} {na nb : Nat} {p q : Int × Int} {t1 t2 u1 u2 : Tok} {Q : Value → Shared → Prop} (hu : A.units < cLine) (hoa : s.heap.get? a = some oa) (hda : oa.data = .seq #[.int p.1 t1, .int p.2 t2] na)
  (hob : s.heap.get? b = some ob) (hdb : ob.data = .seq #[.int q.1 u1, .int q.2 u2] nb) (hTa : s.TypeIs (.ref a) "tuple") (hT : s.TypeIs (.ref b) "tuple") (h : Q (.bool (ltP q p)) s) :
  wpAny (model prog w) A (richCompare .Gt (.ref a) (.ref b)) Q E s :=
 wpAny_richCompare_same_room hTa hT F.slot_tuple_gt (wpAny_call_entry F.slot_tuple_gt hTa F.entry_tuple_gt (ZG2 hoa hda hob hdb hT ⟨_, rfl, (fun z => nomatch z), h⟩) (F.args_tuple_gt_2 _ _)) hu
end
end L2
set_option Elab.async false
set_option linter.all false
set_option maxRecDepth 100000
set_option maxHeartbeats 4000000
namespace L2
open PySem PySem.Spec PyProof.Rows PySem.W
theorem ZCI {P : Program} {w : World} {H : Hp} {h : Heap} {a : Addr} {p : Int × Int} (ok : HOk P w H h) (e : H a = some (.tup [.int p.1, .int p.2])) : ∃ t1 t2 n o, h.get? a = some o ∧ o.data = .seq #[.int p.1 t1, .int p.2 t2] n ∧ o.cls = .type "tuple" := by
 obtain ⟨_, its, r, o, h1, h2, n, h3⟩ := (show Zz P w H h a (.tup [.int p.1, .int p.2]) from ok a _ e)
 cases r with
 | cons r1 r =>
  cases r with
  | cons r2 r =>
   cases r
   obtain ⟨t1, rfl⟩ := r1
   obtain ⟨t2, rfl⟩ := r2
   exact ⟨t1, t2, n, o, h1, h3, by first | exact h2.1 | exact h2⟩
theorem ZFZ {X : Cx} {pins : List (Addr × Obj)} {σ : St} {H : Hp} (hc : X.calm = true) (hu : X.A.units + 1 < cLine) {l I S : Addr} {us : List V} {prs : List (Int × Int)} (hSI : S ≠ I) (hS : SqL X.K H l us) (hP : ZI H us prs)
  (fI : Yh X pins H I) (fS : Yh X pins H S) {R : Result → Shared → Prop}
  (hR : ∀ i v u s', us[i]? = some v → ZX v u → (∀ j, j < us.length → ltP (prs.getD j (0, 0)) (prs.getD i (0, 0)) = false) → Inv X pins σ H s' → R (.ok (.ret u)) s') :
  ∀ (r j i : Nat) (s : Shared) (v : V) (vb : Value) (c : Nat), us.length - (j + 1) = r → j + 1 ≤ us.length → Inv X pins σ H s → s.heap.get? S = some (seqObj "list" #[vb, vb] c) → s.heap.IsListIter I l (j + 1) →
   us[i]? = some v → ZX v vb → i ≤ j → (∀ j', j' ≤ j → ltP (prs.getD j' (0, 0)) (prs.getD i (0, 0)) = false) →
   codeAny (model X.prog X.w) X.A (.builtin "min.loop" ⟨[.ref I, .none, .ref S], []⟩) R s := by
 have hname : (toString "min" ++ toString ".loop" : String) = "min.loop" := by decide
 intro r
 induction r with
 | zero =>
  intro j i s v vb c hr' hj J nS hit hv rv hij hbest
  have hin : j + 1 = us.length := by omega
  obtain ⟨its, rvs, p, hz⟩ := J.list hS
  have hl := rvs.length
  refine codeAny_builtin PySem.F.entry_min_loop ?_
  rw [Around.under_plainId PySem.F.plain_min_loop _]
  show wpAny _ X.A.in1 (seqItems? (.ref S) >>= _) _ _ _
  refine wpAny_bind (wpAny_seqItems nS rfl ?_)
  show wpAny _ X.A.in1 (tryCatch (pyNext (.ref I)) _ >>= _) _ _ _
  refine wpAny_bind (wpAny_tryCatch (wpAny_pyNext_list_end (J.ok.hd hc) hit (show s.heap.IsList l its.toArray from p.isList) (by simp; omega) fun h' eb => ?_))
  have J1 : Inv X pins σ H { s with heap := h' } := J.turnedAt (t' := s.toks) fI fun b o hb e => eb b o hb e
  have hS' : h'.get? S = some (seqObj "list" #[vb, vb] c) := eb S _ hSI nS
  show wpAny _ X.A.in1 (updateSeq S (fun _ => #[]) >>= _) _ _ _
  refine wpAny_bind ?_
  refine wpAny_updateSeq hS' rfl (wpAny_bind (wpAny_letGo (wpAny_pure ?_)))
  exact hR i v vb _ hv rv (fun j' hj' => hbest j' (by omega)) (J1.turnedAt (t' := s.toks) fS fun b o hb e => (Heap.get?_update_other _ _ (Ne.symm hb)).trans e)
 | succ r ih =>
  intro j i s v vb c hr' hj J nS hit hv rv hij hbest
  have hlt : j + 1 < us.length := by omega
  obtain ⟨its, rvs, p, hz⟩ := J.list hS
  have hx : us[j + 1]? = some us[j + 1] := List.getElem?_eq_getElem hlt
  obtain ⟨u, hu', ru⟩ := rvs.get hx
  refine codeAny_builtin PySem.F.entry_min_loop ?_
  rw [Around.under_plainId PySem.F.plain_min_loop _]
  show wpAny _ X.A.in1 (seqItems? (.ref S) >>= _) _ _ _
  refine wpAny_bind (wpAny_seqItems nS rfl ?_)
  show wpAny _ X.A.in1 (tryCatch (pyNext (.ref I)) _ >>= _) _ _ _
  refine wpAny_bind (wpAny_tryCatch (wpAny_pyNext_list_item hit (show s.heap.IsList l its.toArray from p.isList) (x := u) (by simpa using hu') fun h' st' sb => ?_))
  have J1 : Inv X pins σ H { s with heap := h' } := J.turnedAt (t' := s.toks) fI fun b o hb e => (sb.2 b hb).trans e
  have hS' : h'.get? S = some (seqObj "list" #[vb, vb] c) := (sb.2 S hSI).trans nS
  obtain ⟨oI, hoI, hoc, hod⟩ := id st'
  obtain ⟨ca, pa, ea, hpa, hca⟩ := hP.at hx
  obtain ⟨cb, pb, eb, hpb, hcb⟩ := hP.at hv
  have hpa' : prs.getD (j + 1) (0, 0) = pa := by rw [List.getD, hpa]; rfl
  have hpb' : prs.getD i (0, 0) = pb := by rw [List.getD, hpb]; rfl
  rw [ea] at ru
  cases (show u = Value.ref ca from ru)
  have rv0 := rv
  rw [eb] at rv0
  cases (show vb = Value.ref cb from rv0)
  obtain ⟨ta1, ta2, na, oa, ga1, ga2, ga3⟩ := ZCI J1.hok hca
  obtain ⟨tb1, tb2, nb, ob, gb1, gb2, gb3⟩ := ZCI J1.hok hcb
  show wpAny _ X.A.in1 (tryCatch (holding [.ref ca, .ref ca] (richCompare .Lt (.ref ca) (.ref cb) >>= _)) _ >>= _) _ _ _
  refine wpAny_bind (wpAny_tryCatch (wpAny_holding (wpAny_bind (ZI7 (s := { s with heap := h' }) hu ga1 ga2 gb1 gb2 ⟨_, ga1, ga3⟩ ⟨_, gb1, gb3⟩ ?_))))
  refine wpAny_bind (wpAny_holding (wpAny_truthy_bool ?_))
  refine wpAny_bind (wpAny_letGo (wpAny_pure ?_))
  cases hb' : ltP pa pb with
  | true =>
   obtain ⟨c2, hc2⟩ : ∃ c2, (h'.update S (Obj.mapSeq fun _ => #[.ref ca, .ref ca])).get? S = some (seqObj "list" #[.ref ca, .ref ca] c2) := ⟨_, get?_update_seq hS' fun _ => #[.ref ca, .ref ca]⟩
   simp only [if_true]
   refine wpAny_bind ?_
   refine wpAny_updateSeq hS' rfl (wpAny_bind (wpAny_letGo ?_))
   rw [hname]
   refine wpAny_pure ⟨plainId_quiet PySem.F.plain_min_loop _, ih (j + 1) (j + 1) _ _ (.ref ca) c2 (by omega) hlt (J1.turnedAt (t' := s.toks) fS fun b o hb e => (Heap.get?_update_other _ _ (Ne.symm hb)).trans e) hc2 ⟨oI, (Heap.get?_update_other _ _ hSI).trans hoI, hoc, hod⟩ hx (by rw [ea]; rfl) (Nat.le_refl _) fun j' hj' => ?_⟩
   rw [hpa']
   have hb1 := Yc.mp hb'
   rw [YX]
   by_cases e : j' = j + 1
   ·subst e
    rw [hpa']
    omega
   ·have hb2 := hbest j' (by omega)
    rw [hpb', YX] at hb2
    omega
  | false =>
   simp only [Bool.false_eq_true, if_false]
   refine wpAny_bind (wpAny_letGo ?_)
   rw [hname]
   refine wpAny_pure ⟨plainId_quiet PySem.F.plain_min_loop _, ih (j + 1) i _ v (.ref cb) c (by omega) hlt J1 hS' ⟨oI, hoI, hoc, hod⟩ hv rv (by omega) fun j' hj' => ?_⟩
   by_cases e : j' = j + 1
   ·subst e
    rw [hpa', hpb']
    exact hb'
   ·exact hbest j' (by omega)
theorem ZFa {X : Cx} {pins : List (Addr × Obj)} {σ : St} {H : Hp} (hc : X.calm = true) (hu : X.A.units + 1 < cLine) {l I S : Addr} {us : List V} {prs : List (Int × Int)} (hSI : S ≠ I) (hS : SqL X.K H l us) (hP : ZI H us prs)
  (fI : Yh X pins H I) (fS : Yh X pins H S) {R : Result → Shared → Prop}
  (hR : ∀ i v u s', us[i]? = some v → ZX v u → (∀ j, j < us.length → ltP (prs.getD i (0, 0)) (prs.getD j (0, 0)) = false) → Inv X pins σ H s' → R (.ok (.ret u)) s') :
  ∀ (r j i : Nat) (s : Shared) (v : V) (vb : Value) (c : Nat), us.length - (j + 1) = r → j + 1 ≤ us.length → Inv X pins σ H s → s.heap.get? S = some (seqObj "list" #[vb, vb] c) → s.heap.IsListIter I l (j + 1) →
   us[i]? = some v → ZX v vb → i ≤ j → (∀ j', j' ≤ j → ltP (prs.getD i (0, 0)) (prs.getD j' (0, 0)) = false) →
   codeAny (model X.prog X.w) X.A (.builtin "max.loop" ⟨[.ref I, .none, .ref S], []⟩) R s := by
 have hname : (toString "max" ++ toString ".loop" : String) = "max.loop" := by decide
 intro r
 induction r with
 | zero =>
  intro j i s v vb c hr' hj J nS hit hv rv hij hbest
  have hin : j + 1 = us.length := by omega
  obtain ⟨its, rvs, p, hz⟩ := J.list hS
  have hl := rvs.length
  refine codeAny_builtin PySem.F.entry_max_loop ?_
  rw [Around.under_plainId PySem.F.plain_max_loop _]
  show wpAny _ X.A.in1 (seqItems? (.ref S) >>= _) _ _ _
  refine wpAny_bind (wpAny_seqItems nS rfl ?_)
  show wpAny _ X.A.in1 (tryCatch (pyNext (.ref I)) _ >>= _) _ _ _
  refine wpAny_bind (wpAny_tryCatch (wpAny_pyNext_list_end (J.ok.hd hc) hit (show s.heap.IsList l its.toArray from p.isList) (by simp; omega) fun h' eb => ?_))
  have J1 : Inv X pins σ H { s with heap := h' } := J.turnedAt (t' := s.toks) fI fun b o hb e => eb b o hb e
  have hS' : h'.get? S = some (seqObj "list" #[vb, vb] c) := eb S _ hSI nS
  show wpAny _ X.A.in1 (updateSeq S (fun _ => #[]) >>= _) _ _ _
  refine wpAny_bind ?_
  refine wpAny_updateSeq hS' rfl (wpAny_bind (wpAny_letGo (wpAny_pure ?_)))
  exact hR i v vb _ hv rv (fun j' hj' => hbest j' (by omega)) (J1.turnedAt (t' := s.toks) fS fun b o hb e => (Heap.get?_update_other _ _ (Ne.symm hb)).trans e)
 | succ r ih =>
  intro j i s v vb c hr' hj J nS hit hv rv hij hbest
  have hlt : j + 1 < us.length := by omega
  obtain ⟨its, rvs, p, hz⟩ := J.list hS
  have hx : us[j + 1]? = some us[j + 1] := List.getElem?_eq_getElem hlt
  obtain ⟨u, hu', ru⟩ := rvs.get hx
  refine codeAny_builtin PySem.F.entry_max_loop ?_
  rw [Around.under_plainId PySem.F.plain_max_loop _]
  show wpAny _ X.A.in1 (seqItems? (.ref S) >>= _) _ _ _
  refine wpAny_bind (wpAny_seqItems nS rfl ?_)
  show wpAny _ X.A.in1 (tryCatch (pyNext (.ref I)) _ >>= _) _ _ _
  refine wpAny_bind (wpAny_tryCatch (wpAny_pyNext_list_item hit (show s.heap.IsList l its.toArray from p.isList) (x := u) (by simpa using hu') fun h' st' sb => ?_))
  have J1 : Inv X pins σ H { s with heap := h' } := J.turnedAt (t' := s.toks) fI fun b o hb e => (sb.2 b hb).trans e
  have hS' : h'.get? S = some (seqObj "list" #[vb, vb] c) := (sb.2 S hSI).trans nS
  obtain ⟨oI, hoI, hoc, hod⟩ := id st'
  obtain ⟨ca, pa, ea, hpa, hca⟩ := hP.at hx
  obtain ⟨cb, pb, eb, hpb, hcb⟩ := hP.at hv
  have hpa' : prs.getD (j + 1) (0, 0) = pa := by rw [List.getD, hpa]; rfl
  have hpb' : prs.getD i (0, 0) = pb := by rw [List.getD, hpb]; rfl
  rw [ea] at ru
  cases (show u = Value.ref ca from ru)
  have rv0 := rv
  rw [eb] at rv0
  cases (show vb = Value.ref cb from rv0)
  obtain ⟨ta1, ta2, na, oa, ga1, ga2, ga3⟩ := ZCI J1.hok hca
  obtain ⟨tb1, tb2, nb, ob, gb1, gb2, gb3⟩ := ZCI J1.hok hcb
  show wpAny _ X.A.in1 (tryCatch (holding [.ref ca, .ref ca] (richCompare .Gt (.ref ca) (.ref cb) >>= _)) _ >>= _) _ _ _
  refine wpAny_bind (wpAny_tryCatch (wpAny_holding (wpAny_bind (ZI8 (s := { s with heap := h' }) hu ga1 ga2 gb1 gb2 ⟨_, ga1, ga3⟩ ⟨_, gb1, gb3⟩ ?_))))
  refine wpAny_bind (wpAny_holding (wpAny_truthy_bool ?_))
  refine wpAny_bind (wpAny_letGo (wpAny_pure ?_))
  cases hb' : ltP pb pa with
  | true =>
   obtain ⟨c2, hc2⟩ : ∃ c2, (h'.update S (Obj.mapSeq fun _ => #[.ref ca, .ref ca])).get? S = some (seqObj "list" #[.ref ca, .ref ca] c2) := ⟨_, get?_update_seq hS' fun _ => #[.ref ca, .ref ca]⟩
   simp only [if_true]
   refine wpAny_bind ?_
   refine wpAny_updateSeq hS' rfl (wpAny_bind (wpAny_letGo ?_))
   rw [hname]
   refine wpAny_pure ⟨plainId_quiet PySem.F.plain_max_loop _, ih (j + 1) (j + 1) _ _ (.ref ca) c2 (by omega) hlt (J1.turnedAt (t' := s.toks) fS fun b o hb e => (Heap.get?_update_other _ _ (Ne.symm hb)).trans e) hc2 ⟨oI, (Heap.get?_update_other _ _ hSI).trans hoI, hoc, hod⟩ hx (by rw [ea]; rfl) (Nat.le_refl _) fun j' hj' => ?_⟩
   rw [hpa']
   have hb1 := Yc.mp hb'
   rw [YX]
   by_cases e : j' = j + 1
   ·subst e
    rw [hpa']
    omega
   ·have hb2 := hbest j' (by omega)
    rw [hpb', YX] at hb2
    omega
  | false =>
   simp only [Bool.false_eq_true, if_false]
   refine wpAny_bind (wpAny_letGo ?_)
   rw [hname]
   refine wpAny_pure ⟨plainId_quiet PySem.F.plain_max_loop _, ih (j + 1) i _ v (.ref cb) c (by omega) hlt J1 hS' ⟨oI, hoI, hoc, hod⟩ hv rv (by omega) fun j' hj' => ?_⟩
   by_cases e : j' = j + 1
   ·subst e
    rw [hpa', hpb']
    exact hb'
   ·exact hbest j' (by omega)
theorem ZEq {X : Cx} {pins : List (Addr × Obj)} {σ : St} {H : Hp} {s : Shared} {Q : VK} {E1 : Value → Shared → Prop} (hc : X.calm = true) (hu : X.A.units + 1 < cLine) {l : Addr} {us : List V} {prs : List (Int × Int)} (J : Inv X pins σ H s) (hS : SqL X.K H l us) (hP : ZI H us prs) (hne : us ≠ [])
  (hQ : ∀ i v, us[i]? = some v → (∀ j, j < us.length → ltP (prs.getD j (0, 0)) (prs.getD i (0, 0)) = false) → Q v H) :
  wpAny (model X.prog X.w) X.A (call (.builtin "min") [.ref l]) (EP X pins σ Q) E1 s := by
 have hname : (toString "min" ++ toString ".loop" : String) = "min.loop" := by decide
 have hpos : 0 < us.length := List.length_pos_iff.mpr hne
 obtain ⟨its, rvs, p, hz⟩ := J.list hS
 have hls : s.heap.IsList l its.toArray := p.isList
 refine call_function_tree PySem.F.kind_min PySem.F.plain_min PySem.F.entry_min (PySem.F.args_min1 _) ?_
 show wpAny _ X.A.in1 (Builtin.Builtins.bindParams "min" ["key", "default"] 0 ⟨[], []⟩ >>= _) _ _ s
 refine wpAny_bind (wpAny_of_eq (show Builtin.Builtins.bindParams "min" ["key", "default"] 0 ⟨[], []⟩ = pure [none, none] from rfl) ?_)
 refine wpAny_bind (wpAny_pure ?_)
 refine wpAny_bind (wpAny_pyIter_list hls ?_)
 refine wpAny_bind (wpAny_newList ?_ (Nat.zero_le _))
 rw [hname]
 refine wpAny_pure ⟨plainId_quiet PySem.F.plain_min_loop _, ?_⟩
 generalize hO : ({ cls := .type "list_iterator", data := .fields #[.ref l, .int 0 0] } : Obj) = O
 have hSs : (s.heap.push O).objs.size = s.heap.objs.size + 1 := size_push' ..
 have hSI : (s.heap.push O).objs.size ≠ s.heap.objs.size := by rw [hSs]; exact Nat.ne_of_gt (Nat.lt_succ_self _)
 have gI : ((s.heap.push O).push (seqObj "list" #[] 0)).get? s.heap.objs.size = some O := Heap.get?_push_of_some _ (Heap.get?_push_size _ (by rw [← hO]; rfl))
 have gS : ((s.heap.push O).push (seqObj "list" #[] 0)).get? (s.heap.push O).objs.size = some (seqObj "list" #[] 0) := Heap.get?_push_size _ rfl
 have fI : Yh X pins H s.heap.objs.size := J.fpOk (Nat.le_refl _) (J.hok.fresh (Nat.le_refl _))
 have fS : Yh X pins H (s.heap.push O).objs.size := J.fpOk (by rw [hSs]; exact Nat.le_succ _) (J.hok.fresh (by rw [hSs]; exact Nat.le_succ _))
 have J0 : Inv X pins σ H { s with heap := (s.heap.push O).push (seqObj "list" #[] 0) } := J.kept (t' := s.toks) fun b o e => Heap.get?_push_of_some _ (Heap.get?_push_of_some _ e)
 obtain ⟨its0, rvs0, p0, hz0⟩ := J0.list hS
 have hx : us[0]? = some us[0] := List.getElem?_eq_getElem hpos
 obtain ⟨u, hu', ru⟩ := rvs0.get hx
 refine codeAny_builtin PySem.F.entry_min_loop ?_
 rw [Around.under_plainId PySem.F.plain_min_loop _]
 show wpAny _ X.A.in1 (seqItems? (.ref _) >>= _) _ _ _
 refine wpAny_bind (wpAny_seqItems gS rfl ?_)
 show wpAny _ X.A.in1 (tryCatch (pyNext (.ref s.heap.objs.size)) _ >>= _) _ _ _
 refine wpAny_bind (wpAny_tryCatch (wpAny_pyNext_list_item (s := { s with heap := (s.heap.push O).push (seqObj "list" #[] 0) }) (i := 0) ⟨O, gI, by rw [← hO], by rw [← hO]; rfl⟩ (show ((s.heap.push O).push (seqObj "list" #[] 0)).IsList l its0.toArray from p0.isList) (x := u) (by simpa using hu') fun h' st' sb => ?_))
 have J1 : Inv X pins σ H { s with heap := h' } := J0.turnedAt (t' := s.toks) fI fun b o hb e => (sb.2 b hb).trans e
 have hS' : h'.get? (s.heap.push O).objs.size = some (seqObj "list" #[] 0) := (sb.2 _ hSI).trans gS
 obtain ⟨oI, hoI, hoc, hod⟩ := id st'
 obtain ⟨c2, hc2⟩ : ∃ c2, (h'.update (s.heap.push O).objs.size (Obj.mapSeq fun _ => #[u, u])).get? (s.heap.push O).objs.size = some (seqObj "list" #[u, u] c2) := ⟨_, get?_update_seq hS' fun _ => #[u, u]⟩
 show wpAny _ X.A.in1 (updateSeq (s.heap.push O).objs.size (fun _ => #[u, u]) >>= _) _ _ _
 refine wpAny_bind ?_
 refine wpAny_updateSeq hS' rfl ?_
 rw [hname]
 refine wpAny_pure ⟨plainId_quiet PySem.F.plain_min_loop _, ZFZ hc hu hSI hS hP fI fS (fun i v u s' hv rv hbest J' => ⟨v, _, J', rv, hQ i v hv hbest⟩) _ 0 0 _ _ u c2 rfl hpos (J1.turnedAt (t' := s.toks) fS fun b o hb e => (Heap.get?_update_other _ _ (Ne.symm hb)).trans e) hc2 ⟨oI, (Heap.get?_update_other _ _ hSI).trans hoI, hoc, hod⟩ hx ru (Nat.le_refl _) fun j' hj' => ?_⟩
 have e : j' = 0 := by omega
 subst e
 rw [YX]
 omega
def ZNi (K : PySem.W.Frag) : List V → Hp → VK → Prop := fun xs H Q => ∃ (l : Addr) (us : List V) (prs : List (Int × Int)), xs = [.ref l] ∧ SqL K H l us ∧ ZI H us prs ∧ us ≠ [] ∧ ∀ i v, us[i]? = some v → (∀ j, j < us.length → ltP (prs.getD j (0, 0)) (prs.getD i (0, 0)) = false) → Q v H
theorem ZPI {X : Cx} (K : PySem.W.Frag) (hK : X.K = K) (hc : X.calm = true) (hu : X.A.units + 1 < cLine) : Z9 X (.builtin "min") (ZNi K) := by
 subst hK
 intro pins s σ H xs us Q I r h
 obtain ⟨l, vs, prs, rfl, hS, hP, hne, q⟩ := h
 obtain ⟨u, rfl, ru⟩ := r.one
 cases ru
 exact ZEq hc hu I hS hP hne q
theorem ZPJ {K : PySem.W.Frag} {H : Hp} {Q : VK} {l : Addr} {prs : List (Int × Int)} (h : PrL H l prs) (hne : prs ≠ []) (q : ∀ c r, r ∈ prs → H c = some (.tup [.int r.1, .int r.2]) → (∀ r' ∈ prs, ltP r' r = false) → Q (.ref c) H) : ZNi K [.ref l] H Q := by
 obtain ⟨us, f, hP⟩ := h
 have hl := hP.length
 refine ⟨l, us, prs, rfl, SqL.of f, hP, fun z => hne (List.length_eq_zero_iff.mp (by rw [← hl, z]; rfl)), fun i v hv hb => ?_⟩
 obtain ⟨c, r, rfl, hr, hc⟩ := hP.at hv
 refine q c r (List.mem_of_getElem? hr) hc fun r' hr' => ?_
 obtain ⟨j, hj, e⟩ := List.getElem_of_mem hr'
 have := hb j (by omega)
 rw [List.getD, List.getD, hr, List.getElem?_eq_getElem hj, e] at this
 exact this
theorem ZEr {X : Cx} {pins : List (Addr × Obj)} {σ : St} {H : Hp} {s : Shared} {Q : VK} {E1 : Value → Shared → Prop} (hc : X.calm = true) (hu : X.A.units + 1 < cLine) {l : Addr} {us : List V} {prs : List (Int × Int)} (J : Inv X pins σ H s) (hS : SqL X.K H l us) (hP : ZI H us prs) (hne : us ≠ [])
  (hQ : ∀ i v, us[i]? = some v → (∀ j, j < us.length → ltP (prs.getD i (0, 0)) (prs.getD j (0, 0)) = false) → Q v H) :
  wpAny (model X.prog X.w) X.A (call (.builtin "max") [.ref l]) (EP X pins σ Q) E1 s := by
 have hname : (toString "max" ++ toString ".loop" : String) = "max.loop" := by decide
 have hpos : 0 < us.length := List.length_pos_iff.mpr hne
 obtain ⟨its, rvs, p, hz⟩ := J.list hS
 have hls : s.heap.IsList l its.toArray := p.isList
 refine call_function_tree PySem.F.kind_max PySem.F.plain_max PySem.F.entry_max (PySem.F.args_max1 _) ?_
 show wpAny _ X.A.in1 (Builtin.Builtins.bindParams "max" ["key", "default"] 0 ⟨[], []⟩ >>= _) _ _ s
 refine wpAny_bind (wpAny_of_eq (show Builtin.Builtins.bindParams "max" ["key", "default"] 0 ⟨[], []⟩ = pure [none, none] from rfl) ?_)
 refine wpAny_bind (wpAny_pure ?_)
 refine wpAny_bind (wpAny_pyIter_list hls ?_)
 refine wpAny_bind (wpAny_newList ?_ (Nat.zero_le _))
 rw [hname]
 refine wpAny_pure ⟨plainId_quiet PySem.F.plain_max_loop _, ?_⟩
 generalize hO : ({ cls := .type "list_iterator", data := .fields #[.ref l, .int 0 0] } : Obj) = O
 have hSs : (s.heap.push O).objs.size = s.heap.objs.size + 1 := size_push' ..
 have hSI : (s.heap.push O).objs.size ≠ s.heap.objs.size := by rw [hSs]; exact Nat.ne_of_gt (Nat.lt_succ_self _)
 have gI : ((s.heap.push O).push (seqObj "list" #[] 0)).get? s.heap.objs.size = some O := Heap.get?_push_of_some _ (Heap.get?_push_size _ (by rw [← hO]; rfl))
 have gS : ((s.heap.push O).push (seqObj "list" #[] 0)).get? (s.heap.push O).objs.size = some (seqObj "list" #[] 0) := Heap.get?_push_size _ rfl
 have fI : Yh X pins H s.heap.objs.size := J.fpOk (Nat.le_refl _) (J.hok.fresh (Nat.le_refl _))
 have fS : Yh X pins H (s.heap.push O).objs.size := J.fpOk (by rw [hSs]; exact Nat.le_succ _) (J.hok.fresh (by rw [hSs]; exact Nat.le_succ _))
 have J0 : Inv X pins σ H { s with heap := (s.heap.push O).push (seqObj "list" #[] 0) } := J.kept (t' := s.toks) fun b o e => Heap.get?_push_of_some _ (Heap.get?_push_of_some _ e)
 obtain ⟨its0, rvs0, p0, hz0⟩ := J0.list hS
 have hx : us[0]? = some us[0] := List.getElem?_eq_getElem hpos
 obtain ⟨u, hu', ru⟩ := rvs0.get hx
 refine codeAny_builtin PySem.F.entry_max_loop ?_
 rw [Around.under_plainId PySem.F.plain_max_loop _]
 show wpAny _ X.A.in1 (seqItems? (.ref _) >>= _) _ _ _
 refine wpAny_bind (wpAny_seqItems gS rfl ?_)
 show wpAny _ X.A.in1 (tryCatch (pyNext (.ref s.heap.objs.size)) _ >>= _) _ _ _
 refine wpAny_bind (wpAny_tryCatch (wpAny_pyNext_list_item (s := { s with heap := (s.heap.push O).push (seqObj "list" #[] 0) }) (i := 0) ⟨O, gI, by rw [← hO], by rw [← hO]; rfl⟩ (show ((s.heap.push O).push (seqObj "list" #[] 0)).IsList l its0.toArray from p0.isList) (x := u) (by simpa using hu') fun h' st' sb => ?_))
 have J1 : Inv X pins σ H { s with heap := h' } := J0.turnedAt (t' := s.toks) fI fun b o hb e => (sb.2 b hb).trans e
 have hS' : h'.get? (s.heap.push O).objs.size = some (seqObj "list" #[] 0) := (sb.2 _ hSI).trans gS
 obtain ⟨oI, hoI, hoc, hod⟩ := id st'
 obtain ⟨c2, hc2⟩ : ∃ c2, (h'.update (s.heap.push O).objs.size (Obj.mapSeq fun _ => #[u, u])).get? (s.heap.push O).objs.size = some (seqObj "list" #[u, u] c2) := ⟨_, get?_update_seq hS' fun _ => #[u, u]⟩
 show wpAny _ X.A.in1 (updateSeq (s.heap.push O).objs.size (fun _ => #[u, u]) >>= _) _ _ _
 refine wpAny_bind ?_
 refine wpAny_updateSeq hS' rfl ?_
 rw [hname]
 refine wpAny_pure ⟨plainId_quiet PySem.F.plain_max_loop _, ZFa hc hu hSI hS hP fI fS (fun i v u s' hv rv hbest J' => ⟨v, _, J', rv, hQ i v hv hbest⟩) _ 0 0 _ _ u c2 rfl hpos (J1.turnedAt (t' := s.toks) fS fun b o hb e => (Heap.get?_update_other _ _ (Ne.symm hb)).trans e) hc2 ⟨oI, (Heap.get?_update_other _ _ hSI).trans hoI, hoc, hod⟩ hx ru (Nat.le_refl _) fun j' hj' => ?_⟩
 have e : j' = 0 := by omega
 subst e
 rw [YX]
 omega
def ZNj (K : PySem.W.Frag) : List V → Hp → VK → Prop := fun xs H Q => ∃ (l : Addr) (us : List V) (prs : List (Int × Int)), xs = [.ref l] ∧ SqL K H l us ∧ ZI H us prs ∧ us ≠ [] ∧ ∀ i v, us[i]? = some v → (∀ j, j < us.length → ltP (prs.getD i (0, 0)) (prs.getD j (0, 0)) = false) → Q v H
theorem ZPK {X : Cx} (K : PySem.W.Frag) (hK : X.K = K) (hc : X.calm = true) (hu : X.A.units + 1 < cLine) : Z9 X (.builtin "max") (ZNj K) := by
 subst hK
 intro pins s σ H xs us Q I r h
 obtain ⟨l, vs, prs, rfl, hS, hP, hne, q⟩ := h
 obtain ⟨u, rfl, ru⟩ := r.one
 cases ru
 exact ZEr hc hu I hS hP hne q
theorem ZPL {K : PySem.W.Frag} {H : Hp} {Q : VK} {l : Addr} {prs : List (Int × Int)} (h : PrL H l prs) (hne : prs ≠ []) (q : ∀ c r, r ∈ prs → H c = some (.tup [.int r.1, .int r.2]) → (∀ r' ∈ prs, ltP r r' = false) → Q (.ref c) H) : ZNj K [.ref l] H Q := by
 obtain ⟨us, f, hP⟩ := h
 have hl := hP.length
 refine ⟨l, us, prs, rfl, SqL.of f, hP, fun z => hne (List.length_eq_zero_iff.mp (by rw [← hl, z]; rfl)), fun i v hv hb => ?_⟩
 obtain ⟨c, r, rfl, hr, hc⟩ := hP.at hv
 refine q c r (List.mem_of_getElem? hr) hc fun r' hr' => ?_
 obtain ⟨j, hj, e⟩ := List.getElem_of_mem hr'
 have := hb j (by omega)
 rw [List.getD, List.getD, hr, List.getElem?_eq_getElem hj, e] at this
 exact this
end L2
set_option Elab.async false
set_option linter.all false
set_option maxRecDepth 100000
set_option maxHeartbeats 4000000
namespace L2
open PySem PySem.Spec PyProof.Rows PySem.W
structure ZI9 (K : Frag) (x : Str) (C : Addr) : Prop where
 a : nsIn K mainGlobals x = some (some (.ref C))
 ex : excIn K C [.type "ValueError", .type "Exception", .type "BaseException", .type "object"] "ValueError.__new__" = true
 ga : findIn K (.ref C) "__getattribute__" = some (some (.builtin "BaseException.__getattribute__"))
 gt : findIn K (.ref C) "__getattr__" = some none
 cl : findIn K (.ref C) "__class__" = some (some (.builtin "object.__class__"))
 ob : mroIn K C (.type "object") = some true
 be : mroIn K C (.type "BaseException") = some true
structure ZMn (K : Frag) (x : Str) (C : Addr) : Prop where
 a : nsIn K mainGlobals x = some (some (.ref C))
 pg : plainGet K C Str.empty = true
 hd : hasDictIn K C = true
 po : plainOver K C = true
 sa : findIn K (.ref C) "__setattr__" = some (some (.builtin "object.__setattr__"))
 mi : makesIn K C = true
 kc : keepIn K (.ref C) = true
section
variable {K : Frag} {x qual : Str} {st : Stmt} {f : Addr} {fd : FuncData}
theorem Fun.b0 (F : Fun K x qual st f fd) (h : ∀ (kV doc pm : Value) (an : Option Addr) (cdv ct : Value), bindArgs (fnOf x qual (YK st) (Z5 st) (ZF st) .none kV doc pm an cdv ct) ⟨[], []⟩ = pure []) : ZN K fd [] [] := F.binds fun _ _ _ _ _ _ us hl => match us, hl with | [], _ => h _ _ _ _ _ _
theorem Fun.b1 {p : Str} (F : Fun K x qual st f fd) (h : ∀ (kV doc pm : Value) (an : Option Addr) (cdv ct u : Value), bindArgs (fnOf x qual (YK st) (Z5 st) (ZF st) .none kV doc pm an cdv ct) ⟨[u], []⟩ = pure ([p].zip [u])) : ZN K fd [p] [] := F.binds fun _ _ _ _ _ _ us hl => match us, hl with | [_], _ => h _ _ _ _ _ _ _
theorem Fun.b2 {p q : Str} (F : Fun K x qual st f fd) (h : ∀ (kV doc pm : Value) (an : Option Addr) (cdv ct u v : Value), bindArgs (fnOf x qual (YK st) (Z5 st) (ZF st) .none kV doc pm an cdv ct) ⟨[u, v], []⟩ = pure ([p, q].zip [u, v])) : ZN K fd [p, q] [] := F.binds fun _ _ _ _ _ _ us hl => match us, hl with | [_, _], _ => h _ _ _ _ _ _ _ _
theorem Fun.b3 {p q r : Str} (F : Fun K x qual st f fd) (h : ∀ (kV doc pm : Value) (an : Option Addr) (cdv ct u v y : Value), bindArgs (fnOf x qual (YK st) (Z5 st) (ZF st) .none kV doc pm an cdv ct) ⟨[u, v, y], []⟩ = pure ([p, q, r].zip [u, v, y])) : ZN K fd [p, q, r] [] := F.binds fun _ _ _ _ _ _ us hl => match us, hl with | [_, _, _], _ => h _ _ _ _ _ _ _ _ _
theorem Fun.b4 {p q r t : Str} (F : Fun K x qual st f fd) (h : ∀ (kV doc pm : Value) (an : Option Addr) (cdv ct u v y z : Value), bindArgs (fnOf x qual (YK st) (Z5 st) (ZF st) .none kV doc pm an cdv ct) ⟨[u, v, y, z], []⟩ = pure ([p, q, r, t].zip [u, v, y, z])) : ZN K fd [p, q, r, t] [] := F.binds fun _ _ _ _ _ _ us hl => match us, hl with | [_, _, _, _], _ => h _ _ _ _ _ _ _ _ _ _
theorem Fun.b5 {p q r t t' : Str} (F : Fun K x qual st f fd) (h : ∀ (kV doc pm : Value) (an : Option Addr) (cdv ct u v y z z' : Value), bindArgs (fnOf x qual (YK st) (Z5 st) (ZF st) .none kV doc pm an cdv ct) ⟨[u, v, y, z, z'], []⟩ = pure ([p, q, r, t, t'].zip [u, v, y, z, z'])) : ZN K fd [p, q, r, t, t'] [] := F.binds fun _ _ _ _ _ _ us hl => match us, hl with | [_, _, _, _, _], _ => h _ _ _ _ _ _ _ _ _ _ _
end
end L2
set_option Elab.async false
set_option linter.all false
set_option maxRecDepth 100000
set_option maxHeartbeats 4000000
namespace L2
open PySem PySem.Spec PyProof.Rows PySem.W
def ZG3 (K : PySem.W.Frag) : R2 := fun x y H Q => ∃ (p : Addr) (xs : List V) (i : Nat) (v : V), x = .ref p ∧ y = .int (i : Int) ∧ SqL K H p xs ∧ xs[i]? = some v ∧ Q v H
section
variable {X : Cx} {o i e f value : Expr} {tpos pos apos cpos : Pos} {to ti te td ty tx : TE}
theorem ZKm : ZQE X (ZG3 X.K) := by
 intro pins s σ H x y v u Q I rx ry h
 obtain ⟨p, xs, i, z, rfl, rfl, hq, he, q⟩ := h
 cases rx
 obtain ⟨t, rfl⟩ := ry
 obtain ⟨its, r, pl, hz⟩ := I.list hq
 obtain ⟨w, ew, rw'⟩ := r.get he
 have hl := r.length
 have hn := ZCh
 have hi := (List.getElem?_eq_some_iff.mp he).1
 have hs : sizeLine = 16777216 := sizeLine_eq
 exact wpAny_getItem_list pl.isList (by omega) (by omega) (by simpa using ew) ⟨z, H, I, rw', q⟩
theorem ZPM (K : PySem.W.Frag) (hK : X.K = K) (ho : QE X o to) (hi : QE X i ti) (he : QE X e te)
  (ha : ∀ ov iv new, augStore i ov iv new = (do holding [new, ov, iv] (setItem ov iv new); release [new, ov, iv] []; pure .next) := by intros; rfl) : QS X (.AugAssign (.Subscript o i tpos) .Add e pos) (ZIM to ti te (ZG3 K) (ipI fun i j => i + j) ZEG) := by
 subst hK
 exact ⟨ZNw ho.h hi.h ZKm he.h ZQF Jt ha⟩
theorem ZMo (hu : X.A.units + 1 < cLine) (ho : QE X o td) (he : QE X e ty) (hf : QE X f tx) (m : M2 X o "get" apos e f cpos := by exact ⟨rfl, rfl, rfl, rfl⟩) : QE X (.Call (.Attribute o "get" apos) [e, f] [] cpos) (ZGN td ty tx) := ⟨ZL6 hu ho.h he.h hf.h m⟩
theorem ZMp (ho : QE X o td) (he : QE X e ty) (hf : QE X f tx) (m : M2 X o "pop" apos e f cpos := by exact ⟨rfl, rfl, rfl, rfl⟩) : QE X (.Call (.Attribute o "pop" apos) [e, f] [] cpos) (ZGP td ty tx) := ⟨ZL8 ho.h he.h hf.h m⟩
def ZNk : List V → Hp → VK → Prop := fun xs H Q => ∃ a kvs, xs = [.ref a] ∧ H a = some (.dK kvs) ∧ Q (.int kvs.length) H
theorem ZIA : Z9 X (.builtin "len") ZNk := by
 intro pins s σ H xs us Q I r h
 obtain ⟨a, kvs, rfl, e, q⟩ := h
 obtain ⟨u, rfl, rx⟩ := ZFo r
 cases rx
 exact ZR8 I (.inl e) fun t s' I' => ⟨.int kvs.length, H, I', ⟨t, rfl⟩, q⟩
end
section
variable {K : PySem.W.Frag} {σ : St} {H : Hp} {Q : VK} {D : Z8} {to ti te td ty tx : TE} {a p : Addr} {m : List (Int × Int)} {i : Int}
theorem ZMq (h : to σ H fun o H1 => ti σ H1 fun i H2 => ZG3 K o i H2 fun x H3 => te σ H3 fun y H4 => ipI (fun i j => i + j) x y H4 fun z H5 => ZEG o i z H5 (D.nx σ)) : ZIM to ti te (ZG3 K) (ipI fun i j => i + j) ZEG D σ H := h
theorem ZRX {xs : List V} {j : Nat} {v : V} (h1 : SqL K H p xs) (hi : i = (j : Int)) (h2 : xs[j]? = some v) (h : Q v H) : ZG3 K (.ref p) (.int i) H Q := ⟨p, xs, j, v, rfl, by rw [hi], h1, h2, h⟩
theorem ZMr {i j : Int} (h : Q (.int (i + j)) H) : ipI (fun i j => i + j) (.int i) (.int j) H Q := ⟨i, j, rfl, rfl, h⟩
def ZEs (a : Addr) (y z : V) (H : Hp) (Q : VK) : Prop := ∃ o, YY H a y o ∧ Q (o.getD z) H
def ZIB (ty tx : TE) (σ : St) (Q : VK) (x : V) (H : Hp) : Prop := ∃ a, x = .ref a ∧ IsD H a ∧ ty σ H fun y H2 => tx σ H2 fun z H3 => ZEs a y z H3 Q
theorem ZKn (h : td σ H fun x H1 => ZIB ty tx σ Q x H1) : ZGN td ty tx σ H Q := h
theorem ZKo (h1 : H a = some (.dK (Zj m))) (q : ty σ H fun y H2 => tx σ H2 fun z H3 => ZEs a y z H3 Q) : ZIB ty tx σ Q (.ref a) H := ⟨a, rfl, .inl ⟨_, .inl h1⟩, q⟩
theorem ZMs {z : V} (h1 : H a = some (.dK (Zj m))) (q : Q (((Ze m i).map V.int).getD z) H) : ZEs a (.int i) z H Q := ⟨_, YY.k (k := Sum.inl i) h1, by rw [Jb]; exact q⟩
def ZEt (a : Addr) (y z : V) (H : Hp) (Q : VK) : Prop := ∃ kvs k, H a = some (.dK kvs) ∧ y = kV k ∧ (∀ v, Zh kvs k = some v → Q v (upd H a (.dK (Yn kvs k)))) ∧ (Zh kvs k = none → Q z H)
def ZIC (ty tx : TE) (σ : St) (Q : VK) (x : V) (H : Hp) : Prop := ∃ a, x = .ref a ∧ IsD H a ∧ ty σ H fun y H2 => tx σ H2 fun z H3 => ZEt a y z H3 Q
theorem ZKp (h : td σ H fun x H1 => ZIC ty tx σ Q x H1) : ZGP td ty tx σ H Q := h
theorem ZKq (h1 : H a = some (.dK (Zj m))) (q : ty σ H fun y H2 => tx σ H2 fun z H3 => ZEt a y z H3 Q) : ZIC ty tx σ Q (.ref a) H := ⟨a, rfl, .inl ⟨_, .inl h1⟩, q⟩
theorem ZJA (h : Ze m i = none) : YU m i = m := by
 unfold YU
 rw [List.filter_eq_self]
 intro q hq
 simp only [decide_eq_true_eq]
 intro e
 exact J6.mp h (List.mem_map.mpr ⟨q, hq, e⟩)
theorem ZMt {z : V} (h1 : H a = some (.dK (Zj m))) (q : ∀ v H2, H2 a = some (.dK (Zj (YU m i))) → Kp a H H2 → Q v H2) : ZEt a (.int i) z H Q :=
 ⟨Zj m, Sum.inl i, h1, rfl, fun v _ => q v _ (by rw [← ZH9]; exact ZS) Kp.upd, fun l => q z H (by
  rw [Jb, Option.map_eq_none_iff] at l
  rw [ZJA l]; exact h1) fun _ _ e _ => e⟩
theorem ZID (h1 : H a = some (.dK (Zj m))) (q : Q (.int (m.length : Int)) H) : ZNk [.ref a] H Q := ⟨a, _, rfl, h1, by rw [show (Zj m).length = m.length from List.length_map _]; exact q⟩
end
end L2
set_option Elab.async false
set_option linter.all false
set_option maxRecDepth 100000
set_option maxHeartbeats 4000000
namespace L2
open PySem PySem.Spec PyProof.Rows PySem.W
section
variable {X : Cx} {e : Expr} {pos : Pos} {te : TE}
theorem ZPN {tg : Expr} {g : TG} (he : QE X e te) (hg : QG X tg g) (hs : swapsWithSole [tg] e pos.line X.env = pure false := by rfl) (hw : swappedStores [tg] e X.env = pure none := by rfl)
 (h1 : (assignEach [tg] X.env).map (·.2) = [assign tg X.env] := by rfl) : QS X (.Assign [tg] e pos) (ZDe te g) := ⟨ZJV he.h hg.h hs hw h1⟩
end
end L2
set_option Elab.async false
set_option linter.all false
set_option maxRecDepth 100000
set_option maxHeartbeats 1000000
namespace My
open PySem L2
local macro_rules | `(tactic| walk_at "w") => `(tactic| repeat walk_at "rd")
local macro_rules | `(tactic| walk_at "s") => `(tactic| simp only [L2.start, List.length_cons, List.length_nil, List.map_cons, List.map_nil, Nat.reduceAdd, Nat.reduceSub, List.replicate_succ, List.replicate_zero, List.cons_append, List.nil_append])
local macro_rules | `(tactic| walk_at "o") => `(tactic| first | exact Or.inl rfl | exact Or.inr rfl)
def top (i : Nat) : Stmt := PySem.Challenge.pw_fourpoints_k73_whole_views_of_changing_s.main.body.getD i (.Pass ⟨0, 0, 0, 0⟩)
abbrev ZIE : Stmt := top 0
abbrev ZCJ : Stmt := top 8
abbrev ZBZ : Stmt := top 10
abbrev ZCK : Stmt := top 11
abbrev J9 : Stmt := top 12
abbrev ZEu : Stmt := top 13
abbrev ZCs : Stmt := top 14
abbrev ZCL : Stmt := top 15
abbrev ZAQ : Stmt := top 16
abbrev ZBa : Stmt := top 18
abbrev ZCt : Stmt := top 19
abbrev ZDv : Stmt := top 20
abbrev ZBb : Stmt := top 24
abbrev ZAA : Stmt := top 25
abbrev ZA3 : Stmt := top 26
abbrev ZAR : Stmt := top 27
abbrev ZBc : Stmt := top 28
abbrev ZCu : Stmt := top 29
abbrev YI : Stmt := Zq (top 30) 0
abbrev ZCM : Stmt := Zq (top 30) 1
abbrev ZBd : Stmt := Zq (top 30) 2
abbrev ZA4 : Stmt := Zq (top 30) 3
abbrev ZBe : Stmt := Zq (top 30) 4
abbrev ZAB : Stmt := Zq (top 30) 5
abbrev ZDT : Stmt := Zq (top 30) 6
abbrev ZCN : Stmt := top 32
abbrev ZAC : Stmt := Zq (top 33) 0
abbrev ZAD : Stmt := Zq (top 33) 1
abbrev ZAg : Stmt := Zq (top 33) 2
abbrev ZCv : Stmt := Zq (top 33) 3
abbrev ZBf : Stmt := Zq (top 33) 4
abbrev ZAh : Stmt := Zq (top 33) 5
abbrev ZAS : Stmt := Zq (top 33) 6
abbrev ZAT : Stmt := Zq (top 33) 7
abbrev YB : Stmt := Zq (top 35) 0
abbrev ZBg : Stmt := Zq (top 35) 1
abbrev ZA5 : Stmt := Zq (top 35) 2
abbrev ZBw : Stmt := Zq (top 35) 3
abbrev JI : Stmt := Zq (top 35) 4
abbrev ZCO : Stmt := Zq (top 35) 5
abbrev ZAi : Stmt := Zq (top 35) 6
abbrev ZA6 : Stmt := Zq (top 35) 7
abbrev ZAj : Stmt := Zq (top 35) 8
abbrev ZA7 : Stmt := Zq (top 35) 9
abbrev ZCb : Stmt := Zq (top 35) 10
abbrev ZCw : Stmt := Zq (top 35) 11
abbrev ZCc : Stmt := Zq (top 35) 12
abbrev ZCx : Stmt := Zq (top 35) 13
abbrev ZDw : Stmt := top 37
abbrev ZEv : Stmt := top 38
abbrev ZDx : Stmt := top 39
abbrev ZG4 : Stmt := top 40
abbrev ZCP : Stmt := top 41
abbrev ZCQ : Stmt := top 42
abbrev ZCR : Stmt := top 43
abbrev ZDy : Stmt := top 44
abbrev ZCy : Stmt := top 45
abbrev ZA8 : Stmt := top 46
abbrev ZBO : Stmt := top 47
abbrev ZDz : Stmt := top 48
abbrev ZG5 : Stmt := top 49
abbrev ZBP : Stmt := top 50
abbrev ZCS : Stmt := top 51
abbrev ZD0 : Stmt := top 52
abbrev ZCz : Stmt := top 53
abbrev ZC0 : Stmt := top 54
abbrev JW : Stmt := top 55
set_option genInjectivity false in
set_option genSizeOf false in
set_option genSizeOfSpec false in
structure Ad where
 f__wall : Addr
 d__wall : FuncData
 f_is_whole : Addr
 d_is_whole : FuncData
 f_column_of : Addr
 d_column_of : FuncData
 f_times_of : Addr
 d_times_of : FuncData
 f_columns_of : Addr
 d_columns_of : FuncData
 f_moved : Addr
 d_moved : FuncData
 f_widened : Addr
 d_widened : FuncData
 f_narrowed : Addr
 d_narrowed : FuncData
 f_with_columns : Addr
 d_with_columns : FuncData
 f_height_of : Addr
 d_height_of : FuncData
 f_four_of : Addr
 d_four_of : FuncData
 f_joined : Addr
 d_joined : FuncData
 f_is_border : Addr
 d_is_border : FuncData
 f_check_borders : Addr
 d_check_borders : FuncData
 f_check_time : Addr
 d_check_time : FuncData
 f_check_window : Addr
 d_check_window : FuncData
 f_stretches : Addr
 d_stretches : FuncData
 f_longest : Addr
 d_longest : FuncData
 f_Tree___init__ : Addr
 d_Tree___init__ : FuncData
 f_Tree_put : Addr
 d_Tree_put : FuncData
 f_Tree_take : Addr
 d_Tree_take : FuncData
 f_Tree_renew : Addr
 d_Tree_renew : FuncData
 f_Tree_four : Addr
 d_Tree_four : FuncData
 f_Tree_fours : Addr
 d_Tree_fours : FuncData
 f_Tree_told : Addr
 d_Tree_told : FuncData
 f_known_in : Addr
 d_known_in : FuncData
 f_View___init__ : Addr
 d_View___init__ : FuncData
 f_View_fours : Addr
 d_View_fours : FuncData
 f_View_forget : Addr
 d_View_forget : FuncData
 f_View_on : Addr
 d_View_on : FuncData
 f_View_wide : Addr
 d_View_wide : FuncData
 f_View_narrow : Addr
 d_View_narrow : FuncData
 f_View_columns : Addr
 d_View_columns : FuncData
 f_View_step_to : Addr
 d_View_step_to : FuncData
 f_Store___init__ : Addr
 d_Store___init__ : FuncData
 f_Store_put : Addr
 d_Store_put : FuncData
 f_Store_take : Addr
 d_Store_take : FuncData
 f_Store_height : Addr
 d_Store_height : FuncData
 f_Store_check_sample : Addr
 d_Store_check_sample : FuncData
 f_Store_do : Addr
 d_Store_do : FuncData
 f_Store_bring : Addr
 d_Store_bring : FuncData
 f_Store_undo : Addr
 d_Store_undo : FuncData
 f_Store_times : Addr
 d_Store_times : FuncData
 f_Store_four : Addr
 d_Store_four : FuncData
 f_Store_fours : Addr
 d_Store_fours : FuncData
 f_Store_told : Addr
 d_Store_told : FuncData
 f_Store_watch : Addr
 d_Store_watch : FuncData
 f_Store_news : Addr
 d_Store_news : FuncData
 f_l_cell : Addr
 d_l_cell : FuncData
 f_l_pot : Addr
 d_l_pot : FuncData
 f_l_draw : Addr
 d_l_draw : FuncData
 f_l_in : Addr
 d_l_in : FuncData
 f_l_within : Addr
 d_l_within : FuncData
 f_l_height : Addr
 d_l_height : FuncData
 f_l_window : Addr
 d_l_window : FuncData
 f_l_time : Addr
 d_l_time : FuncData
 f_l_curve : Addr
 d_l_curve : FuncData
 f_l_four : Addr
 d_l_four : FuncData
 f_l_fours : Addr
 d_l_fours : FuncData
 f_l_step : Addr
 d_l_step : FuncData
 f_l_go : Addr
 d_l_go : FuncData
 f_l_known : Addr
 d_l_known : FuncData
 f_l_column : Addr
 d_l_column : FuncData
 f_l_deed : Addr
 d_l_deed : FuncData
 f_l_asked : Addr
 d_l_asked : FuncData
 f_l_moved : Addr
 d_l_moved : FuncData
 f_law : Addr
 d_law : FuncData
 C_Tree : Addr
 C_View : Addr
 C_Store : Addr
 C_NoColumn : Addr
 C_NotHalf : Addr
 C_OutOfTimes : Addr
 C_NoSample : Addr
 c_TOP_LEVEL : Tok
 c_TIMES_END : Tok
structure Txt (K : PySem.W.Frag) (mg : Str → Option Value) (a : Ad) : Prop where
 F__wall : Fun K "_wall" "_wall" ZIE a.f__wall a.d__wall
 b__wall : ZN K a.d__wall ["k"] []
 m__wall : mg "_wall" = some (.ref a.f__wall)
 F_is_whole : Fun K "is_whole" "is_whole" ZCJ a.f_is_whole a.d_is_whole
 b_is_whole : ZN K a.d_is_whole ["thing"] []
 m_is_whole : mg "is_whole" = some (.ref a.f_is_whole)
 F_column_of : Fun K "column_of" "column_of" ZBZ a.f_column_of a.d_column_of
 b_column_of : ZN K a.d_column_of ["window", "t"] []
 m_column_of : mg "column_of" = some (.ref a.f_column_of)
 F_times_of : Fun K "times_of" "times_of" ZCK a.f_times_of a.d_times_of
 b_times_of : ZN K a.d_times_of ["window", "k"] []
 m_times_of : mg "times_of" = some (.ref a.f_times_of)
 F_columns_of : Fun K "columns_of" "columns_of" J9 a.f_columns_of a.d_columns_of
 b_columns_of : ZN K a.d_columns_of ["window"] []
 m_columns_of : mg "columns_of" = some (.ref a.f_columns_of)
 F_moved : Fun K "moved" "moved" ZEu a.f_moved a.d_moved
 b_moved : ZN K a.d_moved ["window", "c"] []
 m_moved : mg "moved" = some (.ref a.f_moved)
 F_widened : Fun K "widened" "widened" ZCs a.f_widened a.d_widened
 b_widened : ZN K a.d_widened ["window"] []
 m_widened : mg "widened" = some (.ref a.f_widened)
 F_narrowed : Fun K "narrowed" "narrowed" ZCL a.f_narrowed a.d_narrowed
 b_narrowed : ZN K a.d_narrowed ["window"] []
 m_narrowed : mg "narrowed" = some (.ref a.f_narrowed)
 F_with_columns : Fun K "with_columns" "with_columns" ZAQ a.f_with_columns a.d_with_columns
 b_with_columns : ZN K a.d_with_columns ["window", "n"] []
 m_with_columns : mg "with_columns" = some (.ref a.f_with_columns)
 F_height_of : Fun K "height_of" "height_of" ZBa a.f_height_of a.d_height_of
 b_height_of : ZN K a.d_height_of ["sample"] []
 m_height_of : mg "height_of" = some (.ref a.f_height_of)
 F_four_of : Fun K "four_of" "four_of" ZCt a.f_four_of a.d_four_of
 b_four_of : ZN K a.d_four_of ["curve"] []
 m_four_of : mg "four_of" = some (.ref a.f_four_of)
 F_joined : Fun K "joined" "joined" ZDv a.f_joined a.d_joined
 b_joined : ZN K a.d_joined ["one", "other"] []
 m_joined : mg "joined" = some (.ref a.f_joined)
 F_is_border : Fun K "is_border" "is_border" ZBb a.f_is_border a.d_is_border
 b_is_border : ZN K a.d_is_border ["thing"] []
 m_is_border : mg "is_border" = some (.ref a.f_is_border)
 F_check_borders : Fun K "check_borders" "check_borders" ZAA a.f_check_borders a.d_check_borders
 b_check_borders : ZN K a.d_check_borders ["begin", "end"] []
 m_check_borders : mg "check_borders" = some (.ref a.f_check_borders)
 F_check_time : Fun K "check_time" "check_time" ZA3 a.f_check_time a.d_check_time
 b_check_time : ZN K a.d_check_time ["t"] []
 m_check_time : mg "check_time" = some (.ref a.f_check_time)
 F_check_window : Fun K "check_window" "check_window" ZAR a.f_check_window a.d_check_window
 b_check_window : ZN K a.d_check_window ["window"] []
 m_check_window : mg "check_window" = some (.ref a.f_check_window)
 F_stretches : Fun K "stretches" "stretches" ZBc a.f_stretches a.d_stretches
 b_stretches : ZN K a.d_stretches ["begin", "end"] []
 m_stretches : mg "stretches" = some (.ref a.f_stretches)
 F_longest : Fun K "longest" "longest" ZCu a.f_longest a.d_longest
 b_longest : ZN K a.d_longest ["first", "end"] []
 m_longest : mg "longest" = some (.ref a.f_longest)
 F_Tree___init__ : ZDn K "__init__" "Tree.__init__" YI a.f_Tree___init__ a.d_Tree___init__
 b_Tree___init__ : ZN K a.d_Tree___init__ ["self", "curve"] []
 bd_Tree___init__ : ZN K a.d_Tree___init__ ["self", "curve"] [Value.none]
 bk_Tree___init__ : ZH7 K a.d_Tree___init__ ["self", "curve"] "curve"
 F_Tree_put : Fun K "put" "Tree.put" ZCM a.f_Tree_put a.d_Tree_put
 b_Tree_put : ZN K a.d_Tree_put ["self", "t", "h"] []
 M_Tree_put : YV K a.C_Tree "put" a.f_Tree_put
 F_Tree_take : Fun K "take" "Tree.take" ZBd a.f_Tree_take a.d_Tree_take
 b_Tree_take : ZN K a.d_Tree_take ["self", "t"] []
 M_Tree_take : YV K a.C_Tree "take" a.f_Tree_take
 F_Tree_renew : Fun K "renew" "Tree.renew" ZA4 a.f_Tree_renew a.d_Tree_renew
 b_Tree_renew : ZN K a.d_Tree_renew ["self", "t", "four"] []
 M_Tree_renew : YV K a.C_Tree "renew" a.f_Tree_renew
 F_Tree_four : Fun K "four" "Tree.four" ZBe a.f_Tree_four a.d_Tree_four
 b_Tree_four : ZN K a.d_Tree_four ["self", "begin", "end"] []
 M_Tree_four : YV K a.C_Tree "four" a.f_Tree_four
 F_Tree_fours : Fun K "fours" "Tree.fours" ZAB a.f_Tree_fours a.d_Tree_fours
 b_Tree_fours : ZN K a.d_Tree_fours ["self", "window"] []
 M_Tree_fours : YV K a.C_Tree "fours" a.f_Tree_fours
 F_Tree_told : Fun K "told" "Tree.told" ZDT a.f_Tree_told a.d_Tree_told
 b_Tree_told : ZN K a.d_Tree_told ["self"] []
 M_Tree_told : YV K a.C_Tree "told" a.f_Tree_told
 F_known_in : Fun K "known_in" "known_in" ZCN a.f_known_in a.d_known_in
 b_known_in : ZN K a.d_known_in ["known", "window"] []
 m_known_in : mg "known_in" = some (.ref a.f_known_in)
 F_View___init__ : Fun K "__init__" "View.__init__" ZAC a.f_View___init__ a.d_View___init__
 b_View___init__ : ZN K a.d_View___init__ ["self", "store", "window"] []
 F_View_fours : Fun K "fours" "View.fours" ZAD a.f_View_fours a.d_View_fours
 b_View_fours : ZN K a.d_View_fours ["self"] []
 M_View_fours : YV K a.C_View "fours" a.f_View_fours
 F_View_forget : Fun K "forget" "View.forget" ZAg a.f_View_forget a.d_View_forget
 b_View_forget : ZN K a.d_View_forget ["self"] []
 M_View_forget : YV K a.C_View "forget" a.f_View_forget
 F_View_on : Fun K "on" "View.on" ZCv a.f_View_on a.d_View_on
 b_View_on : ZN K a.d_View_on ["self", "c"] []
 M_View_on : YV K a.C_View "on" a.f_View_on
 F_View_wide : Fun K "wide" "View.wide" ZBf a.f_View_wide a.d_View_wide
 b_View_wide : ZN K a.d_View_wide ["self"] []
 M_View_wide : YV K a.C_View "wide" a.f_View_wide
 F_View_narrow : Fun K "narrow" "View.narrow" ZAh a.f_View_narrow a.d_View_narrow
 b_View_narrow : ZN K a.d_View_narrow ["self"] []
 M_View_narrow : YV K a.C_View "narrow" a.f_View_narrow
 F_View_columns : Fun K "columns" "View.columns" ZAS a.f_View_columns a.d_View_columns
 b_View_columns : ZN K a.d_View_columns ["self", "n"] []
 M_View_columns : YV K a.C_View "columns" a.f_View_columns
 F_View_step_to : Fun K "step_to" "View.step_to" ZAT a.f_View_step_to a.d_View_step_to
 b_View_step_to : ZN K a.d_View_step_to ["self", "window"] []
 M_View_step_to : YV K a.C_View "step_to" a.f_View_step_to
 F_Store___init__ : ZDn K "__init__" "Store.__init__" YB a.f_Store___init__ a.d_Store___init__
 b_Store___init__ : ZN K a.d_Store___init__ ["self", "curve"] []
 bd_Store___init__ : ZN K a.d_Store___init__ ["self", "curve"] [Value.none]
 bk_Store___init__ : ZH7 K a.d_Store___init__ ["self", "curve"] "curve"
 F_Store_put : Fun K "put" "Store.put" ZBg a.f_Store_put a.d_Store_put
 b_Store_put : ZN K a.d_Store_put ["self", "t", "h"] []
 M_Store_put : YV K a.C_Store "put" a.f_Store_put
 F_Store_take : Fun K "take" "Store.take" ZA5 a.f_Store_take a.d_Store_take
 b_Store_take : ZN K a.d_Store_take ["self", "t"] []
 M_Store_take : YV K a.C_Store "take" a.f_Store_take
 F_Store_height : Fun K "height" "Store.height" ZBw a.f_Store_height a.d_Store_height
 b_Store_height : ZN K a.d_Store_height ["self", "t"] []
 M_Store_height : YV K a.C_Store "height" a.f_Store_height
 F_Store_check_sample : Fun K "check_sample" "Store.check_sample" JI a.f_Store_check_sample a.d_Store_check_sample
 b_Store_check_sample : ZN K a.d_Store_check_sample ["self", "t"] []
 M_Store_check_sample : YV K a.C_Store "check_sample" a.f_Store_check_sample
 F_Store_do : Fun K "do" "Store.do" ZCO a.f_Store_do a.d_Store_do
 b_Store_do : ZN K a.d_Store_do ["self", "t", "h"] []
 M_Store_do : YV K a.C_Store "do" a.f_Store_do
 F_Store_bring : Fun K "bring" "Store.bring" ZAi a.f_Store_bring a.d_Store_bring
 b_Store_bring : ZN K a.d_Store_bring ["self", "t", "h"] []
 M_Store_bring : YV K a.C_Store "bring" a.f_Store_bring
 F_Store_undo : Fun K "undo" "Store.undo" ZA6 a.f_Store_undo a.d_Store_undo
 b_Store_undo : ZN K a.d_Store_undo ["self"] []
 M_Store_undo : YV K a.C_Store "undo" a.f_Store_undo
 F_Store_times : Fun K "times" "Store.times" ZAj a.f_Store_times a.d_Store_times
 b_Store_times : ZN K a.d_Store_times ["self"] []
 M_Store_times : YV K a.C_Store "times" a.f_Store_times
 F_Store_four : Fun K "four" "Store.four" ZA7 a.f_Store_four a.d_Store_four
 b_Store_four : ZN K a.d_Store_four ["self", "begin", "end"] []
 M_Store_four : YV K a.C_Store "four" a.f_Store_four
 F_Store_fours : Fun K "fours" "Store.fours" ZCb a.f_Store_fours a.d_Store_fours
 b_Store_fours : ZN K a.d_Store_fours ["self", "window"] []
 M_Store_fours : YV K a.C_Store "fours" a.f_Store_fours
 F_Store_told : Fun K "told" "Store.told" ZCw a.f_Store_told a.d_Store_told
 b_Store_told : ZN K a.d_Store_told ["self"] []
 M_Store_told : YV K a.C_Store "told" a.f_Store_told
 F_Store_watch : Fun K "watch" "Store.watch" ZCc a.f_Store_watch a.d_Store_watch
 b_Store_watch : ZN K a.d_Store_watch ["self", "window"] []
 M_Store_watch : YV K a.C_Store "watch" a.f_Store_watch
 F_Store_news : Fun K "news" "Store.news" ZCx a.f_Store_news a.d_Store_news
 b_Store_news : ZN K a.d_Store_news ["self", "number"] []
 M_Store_news : YV K a.C_Store "news" a.f_Store_news
 F_l_cell : Fun K "_law_cell" "_law_cell" ZDw a.f_l_cell a.d_l_cell
 b_l_cell : ZN K a.d_l_cell ["_law_script", "_law_k"] []
 m_l_cell : mg "_law_cell" = some (.ref a.f_l_cell)
 F_l_pot : Fun K "_law_pot" "_law_pot" ZEv a.f_l_pot a.d_l_pot
 b_l_pot : ZN K a.d_l_pot ["_law_cell_here"] []
 m_l_pot : mg "_law_pot" = some (.ref a.f_l_pot)
 F_l_draw : Fun K "_law_draw" "_law_draw" ZDx a.f_l_draw a.d_l_draw
 b_l_draw : ZN K a.d_l_draw ["_law_pot_here", "_law_many"] []
 m_l_draw : mg "_law_draw" = some (.ref a.f_l_draw)
 F_l_in : Fun K "_law_in" "_law_in" ZG4 a.f_l_in a.d_l_in
 b_l_in : ZN K a.d_l_in ["_law_t"] []
 m_l_in : mg "_law_in" = some (.ref a.f_l_in)
 F_l_within : Fun K "_law_within" "_law_within" ZCP a.f_l_within a.d_l_within
 b_l_within : ZN K a.d_l_within ["_law_window_here"] []
 m_l_within : mg "_law_within" = some (.ref a.f_l_within)
 F_l_height : Fun K "_law_height" "_law_height" ZCQ a.f_l_height a.d_l_height
 b_l_height : ZN K a.d_l_height ["_law_pot_here"] []
 m_l_height : mg "_law_height" = some (.ref a.f_l_height)
 F_l_window : Fun K "_law_window" "_law_window" ZCR a.f_l_window a.d_l_window
 b_l_window : ZN K a.d_l_window ["_law_pot_here"] []
 m_l_window : mg "_law_window" = some (.ref a.f_l_window)
 F_l_time : Fun K "_law_time" "_law_time" ZDy a.f_l_time a.d_l_time
 b_l_time : ZN K a.d_l_time ["_law_pot_here", "_law_window_here"] []
 m_l_time : mg "_law_time" = some (.ref a.f_l_time)
 F_l_curve : Fun K "_law_curve" "_law_curve" ZCy a.f_l_curve a.d_l_curve
 b_l_curve : ZN K a.d_l_curve ["_law_pot_here", "_law_window_here"] []
 m_l_curve : mg "_law_curve" = some (.ref a.f_l_curve)
 F_l_four : Fun K "_law_four" "_law_four" ZA8 a.f_l_four a.d_l_four
 b_l_four : ZN K a.d_l_four ["_law_some"] []
 m_l_four : mg "_law_four" = some (.ref a.f_l_four)
 F_l_fours : Fun K "_law_fours" "_law_fours" ZBO a.f_l_fours a.d_l_fours
 b_l_fours : ZN K a.d_l_fours ["_law_made", "_law_window_here"] []
 m_l_fours : mg "_law_fours" = some (.ref a.f_l_fours)
 F_l_step : Fun K "_law_step" "_law_step" ZDz a.f_l_step a.d_l_step
 b_l_step : ZN K a.d_l_step ["_law_pot_here", "_law_window_here"] []
 m_l_step : mg "_law_step" = some (.ref a.f_l_step)
 F_l_go : Fun K "_law_go" "_law_go" ZG5 a.f_l_go a.d_l_go
 b_l_go : ZN K a.d_l_go ["_law_view", "_law_step_here"] []
 m_l_go : mg "_law_go" = some (.ref a.f_l_go)
 F_l_known : Fun K "_law_known" "_law_known" ZBP a.f_l_known a.d_l_known
 b_l_known : ZN K a.d_l_known ["_law_step_here", "_law_window_here", "_law_known_here"] []
 m_l_known : mg "_law_known" = some (.ref a.f_l_known)
 F_l_column : Fun K "_law_column" "_law_column" ZCS a.f_l_column a.d_l_column
 b_l_column : ZN K a.d_l_column ["_law_window_here", "_law_t"] []
 m_l_column : mg "_law_column" = some (.ref a.f_l_column)
 F_l_deed : Fun K "_law_deed" "_law_deed" ZD0 a.f_l_deed a.d_l_deed
 b_l_deed : ZN K a.d_l_deed ["_law_pot_here", "_law_store", "_law_made", "_law_done", "_law_window_here"] []
 m_l_deed : mg "_law_deed" = some (.ref a.f_l_deed)
 F_l_asked : Fun K "_law_asked" "_law_asked" ZCz a.f_l_asked a.d_l_asked
 b_l_asked : ZN K a.d_l_asked ["_law_view", "_law_own", "_law_made"] []
 m_l_asked : mg "_law_asked" = some (.ref a.f_l_asked)
 F_l_moved : Fun K "_law_moved" "_law_moved" ZC0 a.f_l_moved a.d_l_moved
 b_l_moved : ZN K a.d_l_moved ["_law_pot_here", "_law_view", "_law_own"] []
 m_l_moved : mg "_law_moved" = some (.ref a.f_l_moved)
 F_law : Fun K "law" "law" JW a.f_law a.d_law
 b_law : ZN K a.d_law ["_law_script"] []
 m_law : mg "law" = some (.ref a.f_law)
 c_Tree : Cls K a.C_Tree
 m_Tree : mg "Tree" = some (.ref a.C_Tree)
 Mk_Tree : Mk K a.C_Tree a.f_Tree___init__
 n_Tree_looks : YD K a.C_Tree "looks"
 n_Tree_samples : YD K a.C_Tree "samples"
 n_Tree_kept_fours : YD K a.C_Tree "kept_fours"
 c_View : Cls K a.C_View
 m_View : mg "View" = some (.ref a.C_View)
 Mk_View : Mk K a.C_View a.f_View___init__
 n_View_source : YD K a.C_View "source"
 n_View_window : YD K a.C_View "window"
 n_View_asked : YD K a.C_View "asked"
 n_View_known : YD K a.C_View "known"
 n_View_seen : YD K a.C_View "seen"
 c_Store : Cls K a.C_Store
 m_Store : mg "Store" = some (.ref a.C_Store)
 Mk_Store : Mk K a.C_Store a.f_Store___init__
 n_Store_tree : YD K a.C_Store "tree"
 n_Store_deeds : YD K a.C_Store "deeds"
 n_Store_done : YD K a.C_Store "done"
 n_Store_watches : YD K a.C_Store "watches"
 x_NoColumn : ZCq K a.C_NoColumn
 y_NoColumn : ZIy K a.C_NoColumn
 m_NoColumn : mg "NoColumn" = some (.ref a.C_NoColumn)
 x_NotHalf : ZCq K a.C_NotHalf
 y_NotHalf : ZIy K a.C_NotHalf
 m_NotHalf : mg "NotHalf" = some (.ref a.C_NotHalf)
 x_OutOfTimes : ZCq K a.C_OutOfTimes
 y_OutOfTimes : ZIy K a.C_OutOfTimes
 m_OutOfTimes : mg "OutOfTimes" = some (.ref a.C_OutOfTimes)
 x_NoSample : ZCq K a.C_NoSample
 y_NoSample : ZIy K a.C_NoSample
 m_NoSample : mg "NoSample" = some (.ref a.C_NoSample)
 u_NoColumn_NoColumn : PySem.W.subIn K (.ref a.C_NoColumn) (.ref a.C_NoColumn) = some true
 k_NoColumn_NoColumn : PySem.W.kitOne K (.ref a.C_NoColumn) (.ref a.C_NoColumn) = some true
 u_NoColumn_NotHalf : PySem.W.subIn K (.ref a.C_NoColumn) (.ref a.C_NotHalf) = some false
 k_NoColumn_NotHalf : PySem.W.kitOne K (.ref a.C_NoColumn) (.ref a.C_NotHalf) = some false
 u_NoColumn_OutOfTimes : PySem.W.subIn K (.ref a.C_NoColumn) (.ref a.C_OutOfTimes) = some false
 k_NoColumn_OutOfTimes : PySem.W.kitOne K (.ref a.C_NoColumn) (.ref a.C_OutOfTimes) = some false
 u_NoColumn_NoSample : PySem.W.subIn K (.ref a.C_NoColumn) (.ref a.C_NoSample) = some false
 k_NoColumn_NoSample : PySem.W.kitOne K (.ref a.C_NoColumn) (.ref a.C_NoSample) = some false
 u_NotHalf_NoColumn : PySem.W.subIn K (.ref a.C_NotHalf) (.ref a.C_NoColumn) = some false
 k_NotHalf_NoColumn : PySem.W.kitOne K (.ref a.C_NotHalf) (.ref a.C_NoColumn) = some false
 u_NotHalf_NotHalf : PySem.W.subIn K (.ref a.C_NotHalf) (.ref a.C_NotHalf) = some true
 k_NotHalf_NotHalf : PySem.W.kitOne K (.ref a.C_NotHalf) (.ref a.C_NotHalf) = some true
 u_NotHalf_OutOfTimes : PySem.W.subIn K (.ref a.C_NotHalf) (.ref a.C_OutOfTimes) = some false
 k_NotHalf_OutOfTimes : PySem.W.kitOne K (.ref a.C_NotHalf) (.ref a.C_OutOfTimes) = some false
 u_NotHalf_NoSample : PySem.W.subIn K (.ref a.C_NotHalf) (.ref a.C_NoSample) = some false
 k_NotHalf_NoSample : PySem.W.kitOne K (.ref a.C_NotHalf) (.ref a.C_NoSample) = some false
 u_OutOfTimes_NoColumn : PySem.W.subIn K (.ref a.C_OutOfTimes) (.ref a.C_NoColumn) = some false
 k_OutOfTimes_NoColumn : PySem.W.kitOne K (.ref a.C_OutOfTimes) (.ref a.C_NoColumn) = some false
 u_OutOfTimes_NotHalf : PySem.W.subIn K (.ref a.C_OutOfTimes) (.ref a.C_NotHalf) = some false
 k_OutOfTimes_NotHalf : PySem.W.kitOne K (.ref a.C_OutOfTimes) (.ref a.C_NotHalf) = some false
 u_OutOfTimes_OutOfTimes : PySem.W.subIn K (.ref a.C_OutOfTimes) (.ref a.C_OutOfTimes) = some true
 k_OutOfTimes_OutOfTimes : PySem.W.kitOne K (.ref a.C_OutOfTimes) (.ref a.C_OutOfTimes) = some true
 u_OutOfTimes_NoSample : PySem.W.subIn K (.ref a.C_OutOfTimes) (.ref a.C_NoSample) = some false
 k_OutOfTimes_NoSample : PySem.W.kitOne K (.ref a.C_OutOfTimes) (.ref a.C_NoSample) = some false
 u_NoSample_NoColumn : PySem.W.subIn K (.ref a.C_NoSample) (.ref a.C_NoColumn) = some false
 k_NoSample_NoColumn : PySem.W.kitOne K (.ref a.C_NoSample) (.ref a.C_NoColumn) = some false
 u_NoSample_NotHalf : PySem.W.subIn K (.ref a.C_NoSample) (.ref a.C_NotHalf) = some false
 k_NoSample_NotHalf : PySem.W.kitOne K (.ref a.C_NoSample) (.ref a.C_NotHalf) = some false
 u_NoSample_OutOfTimes : PySem.W.subIn K (.ref a.C_NoSample) (.ref a.C_OutOfTimes) = some false
 k_NoSample_OutOfTimes : PySem.W.kitOne K (.ref a.C_NoSample) (.ref a.C_OutOfTimes) = some false
 u_NoSample_NoSample : PySem.W.subIn K (.ref a.C_NoSample) (.ref a.C_NoSample) = some true
 k_NoSample_NoSample : PySem.W.kitOne K (.ref a.C_NoSample) (.ref a.C_NoSample) = some true
 m_TOP_LEVEL : mg "TOP_LEVEL" = some (.int 40 a.c_TOP_LEVEL)
 m_TIMES_END : mg "TIMES_END" = some (.int 1099511627776 a.c_TIMES_END)
 z_ValueError : mg "ValueError" = none
 z_abs : mg "abs" = none
 z_bool : mg "bool" = none
 z_divmod : mg "divmod" = none
 z_int : mg "int" = none
 z_isinstance : mg "isinstance" = none
 z_len : mg "len" = none
 z_list : mg "list" = none
 z_max : mg "max" = none
 z_min : mg "min" = none
 z_range : mg "range" = none
 z_repr : mg "repr" = none
 z_sorted : mg "sorted" = none
 z_tuple : mg "tuple" = none
local macro_rules | `(tactic| walk_at "sd") => `(tactic| first
 | (show (0 : Int) < _; omega)
 | decide
 | exact ZSb (by omega) (by omega)
 | exact ZSc (by omega) (by omega)
 | exact ZBI.of (k := 250) (by omega) (by omega) (by decide)
 | exact Or.inr ⟨by omega, by omega⟩
 | exact Or.inl ⟨by omega, by omega⟩
 | exact ZGA (by omega) (by omega) (by decide))
local macro_rules | `(tactic| walk_at "hp") => `(tactic| first
 | assumption
 | exact ZS
 | (rw [Za (by assumption)]; assumption)
 | (rw [Za (Ne.symm (by assumption))]; assumption)
 | (rw [Za (by assumption)]; rw [Za (by assumption)]; assumption))
local macro_rules | `(tactic| walk_at "rd") => `(tactic| first
 | with_reducible refine ZJw ?_
 | with_reducible refine ZSF ?_
 | with_reducible refine ZMW ?_
 | with_reducible refine ZO7 ?_
 | with_reducible refine ZO6 ?_
 | with_reducible refine ZMV ?_
 | with_reducible refine ZKT ?_
 | with_reducible refine ZRR ?_
 | with_reducible refine ZMS ?_
 | with_reducible refine ZO5 ?_
 | with_reducible refine ZMQ ?_
 | with_reducible refine ZMR ?_
 | with_reducible refine ZSD ?_
 | with_reducible refine ZSE ?_
 | with_reducible refine ZMb ?_
 | with_reducible refine ZPC ?_
 | with_reducible refine ZL9 ?_
 | with_reducible refine ZME ?_
 | with_reducible refine ZOw ?_
 | with_reducible refine ZOy ?_
 | with_reducible refine ZOz ?_
 | with_reducible refine ZMK ?_
 | with_reducible refine ZIw ?_
 | with_reducible refine ZML ?_
 | with_reducible refine ZMM ?_
 | with_reducible refine ZKO ?_
 | with_reducible refine ZKL ?_
 | with_reducible refine ZKN ?_
 | with_reducible refine ZIx ?_
 | with_reducible refine ZKK ?_
 | with_reducible refine ZHV ?_
 | with_reducible refine ZHX ?_
 | with_reducible refine ZHW ?_
 | with_reducible refine ZHY ?_
 | with_reducible refine ZGa ?_
 | with_reducible refine ZOv ?_
 | with_reducible refine ZRF ?_
 | with_reducible refine ZOt ?_
 | with_reducible refine ZRC ?_
 | with_reducible refine ZOu ?_
 | with_reducible refine ZMA ?_
 | with_reducible refine ZMB ?_
 | ((with_reducible refine' ZRB ?e ?_); (case e => rfl))
 | with_reducible refine ZQg ?_
 | with_reducible refine ZOJ ?_
 | with_reducible refine ZOK ?_
 | with_reducible refine ZOL ?_
 | with_reducible refine ZQh ?_
 | with_reducible refine ZLs ?_
 | with_reducible refine ZOM ?_
 | with_reducible refine ZLt ?_
 | with_reducible refine ZON ?_
 | with_reducible refine ZQi ?_
 | with_reducible refine ZOO ?_
 | with_reducible refine ZSf ?_
 | with_reducible refine ZQk ?_
 | with_reducible refine ZRy ?_
 | with_reducible refine ZQl ?_
 | with_reducible refine ZOP ?_
 | with_reducible refine ZQm ?_
 | with_reducible refine ZOQ ?_
 | with_reducible refine ZRz ?_
 | ((with_reducible refine' ZQn ?e ?_); (case e => rfl))
 | with_reducible refine ZSg ?_
 | with_reducible refine ZR0 ?_
 | with_reducible refine ZR1 ?_
 | with_reducible refine ZR2 ?_
 | ((with_reducible refine ZGB (C := ZLQ) ?c ?_); (case c => exact ZGA (by decide) (by decide) (by decide)); (simp only [Int.reduceToNat, Int.reducePow]))
 | ((with_reducible refine ZGB ?c ?_); (case c => walk_at "sd"))
 | with_reducible refine ZSh ?_
 | with_reducible refine ZQo ?_
 | with_reducible refine ZQp ?_
 | with_reducible refine ZR3 ?_
 | with_reducible refine ZOR ?_
 | with_reducible refine ZOS ?_
 | with_reducible refine ZQq ?_
 | with_reducible refine ZQr ?_
 | with_reducible refine ZQs ?_
 | with_reducible refine ZLu ?_
 | with_reducible refine ZOe ?_
 | with_reducible refine ZQj ?_
 | with_reducible refine ZOV ?_
 | with_reducible refine ZQu ?_
 | with_reducible refine ZQv ?_
 | with_reducible refine ZQw ?_
 | with_reducible refine ZSi ?_
 | with_reducible refine ZR5 ?_
 | with_reducible refine ZJz ?_
 | with_reducible refine ZOb ?_
 | with_reducible refine ZQx ?_
 | with_reducible refine ZOY ?_
 | with_reducible refine ZQy ?_
 | with_reducible refine ZOZ ?_
 | ((with_reducible refine' ZOW ?s ?_); (case s => first | assumption | exact SqL.of (by assumption)))
 | ((with_reducible refine' ZOX ?s ?_); (case s => first | assumption | exact SqT.of (by assumption)))
 | with_reducible refine ZQt ?_
 | with_reducible refine ZOT ?_
 | with_reducible refine ZOU ?_
 | with_reducible refine ZOc ?_
 | with_reducible refine ZOj ?_
 | with_reducible refine ZLx ?_
 | with_reducible refine ZR7 ?_
 | with_reducible refine ZOd ?_
 | with_reducible refine ZLv ?_
 | ((with_reducible refine' ZQ2 ?s ?_); (case s => first | assumption | exact SqT.of (by assumption)))
 | ((with_reducible refine' ZJ0 ?s ?_); (case s => first | assumption | exact SqL.of (by assumption)))
 | ((with_reducible refine' JM ?s ?e ?_); (case s => exact SqL.of (by assumption)); (case e => rfl))
 | ((with_reducible refine' ZGD ?s ?e ?_); (case s => first | assumption | exact SqT.of (by assumption)); (case e => rfl))
 | ((with_reducible refine' ZOa ?s ?e ?_); (case s => first | assumption | exact SqT.of (by assumption)); (case e => rfl)))
local macro_rules | `(tactic| walk_at "ri") => `(tactic| ((fail_if_success with_reducible refine ZKc ?_); walk_at "rd"))
local macro_rules | `(tactic| walk_at "rd") => `(tactic| first
 | with_reducible refine ZMf ?_
 | with_reducible refine ZMg ?_
 | with_reducible refine ZMq ?_
 | with_reducible refine ZKn ?_
 | with_reducible refine ZKp ?_
 | with_reducible refine ZHb ?_
 | with_reducible refine ZMr ?_)
theorem ZSs (K : PySem.W.Frag) : PySem.W.kitOne K (.type "bool") (.type "int") = some true := by kernel_rfl
theorem ZKr (K : PySem.W.Frag) : PySem.W.kitOne K (.type "int") (.type "int") = some true := by kernel_rfl
theorem ZSS (K : PySem.W.Frag) : PySem.W.kitOne K (.type "NoneType") (.type "int") = some false := by kernel_rfl
theorem ZST (K : PySem.W.Frag) : PySem.W.kitOne K (.type "bool") (.type "bool") = some true := by kernel_rfl
theorem ZJB (K : PySem.W.Frag) : PySem.W.kitOne K (.type "int") (.type "bool") = some false := by kernel_rfl
theorem ZSU (K : PySem.W.Frag) : PySem.W.kitOne K (.type "tuple") (.type "tuple") = some true := by kernel_rfl
section
variable {P : Program} {w : World} {K : PySem.W.Frag} {mg : Str → Option Value} {base : Heap} {a : Ad}
def ZG6 : Sp := fun vs H Q _ => ∃ (c : Addr) (x y : Int), vs = [.ref c] ∧ H c = some (.tup [.int x, .int y]) ∧ Q (.int y) H
theorem ZG7 : ZP ["sample"] ["sample"] (ZF ZBa) := ⟨rfl, rfl, rfl, by decide +kernel, rfl, by decide +kernel, by decide +kernel⟩
theorem Y6 (T : Txt K mg a) : ZQ P w K mg base CX0 1 a.f_height_of a.d_height_of ["sample"] ZG6 := by
 refine T.F_height_of.ok ZG7 (fun vs H Q E h => ?_) (fun cdv A outer s H vs Q E hr h => ?_)
 ·obtain ⟨c, x, y, rfl, _⟩ := h
  rfl
 ·obtain ⟨c, x, y, rfl, hc, q⟩ := h
  refine ⟨_, QB.h (ZE (ZZ (ZU (Zd K rfl) (qv 0) ZC))), ?_⟩
  walk_at "s"
  walk_at "w"
  exact q
end
section
variable {P : Program} {w : World} {K : PySem.W.Frag} {mg : Str → Option Value} {base : Heap} {a : Ad}
def ZMu (K : PySem.W.Frag) : Sp := fun vs H Q _ => ∃ (v1 v2 : V) (o1 o2 : Option (List (Int × Int))) (c1 c2 : List (Int × Int)), vs = [v1, v2] ∧ Zr H v1 o1 ∧ Is4 c1 o1 ∧ Zr H v2 o2 ∧ Is4 c2 o2 ∧ (∀ p ∈ c1, ∀ q ∈ c2, p.1 < q.1) ∧
 ∀ (v : V) (o : Option (List (Int × Int))) (H' : Hp), Zr H' v o → Is4 (c1 ++ c2) o → ZK H H' → Q v H'
theorem ZFI {H : Hp} {v : V} {c : List (Int × Int)} {qs : List (Int × Int)} (h : Zr H v (some qs)) (g : Is4 c (some qs)) : ∃ (l : Addr) (q0 q1 q2 q3 : Int × Int) (a0 a1 a2 a3 : Addr), v = .ref l ∧ qs = [q0, q1, q2, q3] ∧ H l = some (.tup [.ref a0, .ref a1, .ref a2, .ref a3]) ∧
  H a0 = some (.tup [.int q0.1, .int q0.2]) ∧ H a1 = some (.tup [.int q1.1, .int q1.2]) ∧ H a2 = some (.tup [.int q2.1, .int q2.2]) ∧ H a3 = some (.tup [.int q3.1, .int q3.2]) := by
 cases h with
 | @pr l qs h hl =>
  obtain ⟨us, f, hP⟩ := h
  rcases g with ⟨e, _⟩ | ⟨q0, q1, q2, q3, e, _⟩
  ·cases e
  ·cases e
   cases hP with
   | cons h0 t => cases t with
    | cons h1 t => cases t with
     | cons h2 t => cases t with
      | cons h3 t =>
       cases t
       obtain ⟨a0, rfl, e0⟩ := h0
       obtain ⟨a1, rfl, e1⟩ := h1
       obtain ⟨a2, rfl, e2⟩ := h2
       obtain ⟨a3, rfl, e3⟩ := h3
       exact ⟨l, q0, q1, q2, q3, a0, a1, a2, a3, rfl, rfl, f, e0, e1, e2, e3⟩
theorem ZC1 : ZP ["one", "other", "lowest", "highest"] ["one", "other"] (ZF ZDv) := ⟨rfl, rfl, rfl, by decide +kernel, rfl, by decide +kernel, by decide +kernel⟩
theorem ZC2 (T : Txt K mg a) : ZQ P w K mg base CX0 2 a.f_joined a.d_joined ["one", "other"] (ZMu K) := by
 refine T.F_joined.ok ZC1 (fun vs H Q E h => ?_) (fun cdv A outer s H vs Q E hr h => ?_)
 ·obtain ⟨v1, v2, o1, o2, c1, c2, rfl, _⟩ := h
  rfl
 ·obtain ⟨v1, v2, o1, o2, c1, c2, rfl, h1, g1, h2, g2, hlt, k⟩ := h
  refine ⟨_, QB.h (ZD (Zk (ZW (ZBm) (qv 0) YN (Zb _)) (ZE (ZZ (qv 1))) Zi) (ZD (Zk (ZW (ZBm) (qv 1) YN (Zb _)) (ZE (ZZ (qv 0))) Zi) (ZD (ZM (i := 2) ZC1.nd rfl (by walk_at "o") (ZB8 (ZW (ZAn) (ZG (Y6 T) hr rfl T.m_height_of T.F_height_of.kp T.b_height_of .nil ZJ (ZA (ZU (Zd K rfl) (qv 0) ZC) ZB)) (ZG (Y6 T) hr rfl T.m_height_of T.F_height_of.kp T.b_height_of .nil ZJ (ZA (ZU (Zd K rfl) (qv 1) ZC) ZB)) (Zb _)) (ZU (Zd K rfl) (qv 0) ZC) (ZU (Zd K rfl) (qv 1) ZC))) (ZD (ZM (i := 3) ZC1.nd rfl (by walk_at "o") (ZB8 (ZW (ZNS) (ZG (Y6 T) hr rfl T.m_height_of T.F_height_of.kp T.b_height_of .nil ZJ (ZA (ZU (Zd K rfl) (qv 0) ZC) ZB)) (ZG (Y6 T) hr rfl T.m_height_of T.F_height_of.kp T.b_height_of .nil ZJ (ZA (ZU (Zd K rfl) (qv 1) ZC) ZB)) (Zb _)) (ZU (Zd K rfl) (qv 0) ZC) (ZU (Zd K rfl) (qv 1) ZC))) (ZE (ZZ (Zg (ZA (ZU (Zd K rfl) (qv 0) ZC) (ZA (ZU (Zd K rfl) (qv 1) ZC) (ZA (qv 2) (ZA (qv 3) ZB))))))))))), ?_⟩
  walk_at "s"
  walk_at "w"
  cases o1 with
  | none =>
   cases h1
   refine Zu (fun _ => ?_) (fun h => absurd rfl h)
   walk_at "w"
   refine k v2 o2 H h2 ?_ (ZK.refl H)
   rw [g1.of_none, List.nil_append]
   exact g2
  | some qs1 =>
   obtain ⟨l1, q0, q1, q2, q3, a0, a1, a2, a3, rfl, rfl, f1, e0, e1, e2, e3⟩ := ZFI h1 g1
   refine Zu (fun h => by cases h) (fun _ => ?_)
   walk_at "w"
   cases o2 with
   | none =>
    cases h2
    refine Zu (fun _ => ?_) (fun h => absurd rfl h)
    walk_at "w"
    refine k (.ref l1) _ H h1 ?_ (ZK.refl H)
    rw [g2.of_none, List.append_nil]
    exact g1
   | some qs2 =>
    obtain ⟨l2, r0, r1, r2, r3, b0, b1, b2, b3, rfl, rfl, f2, d0, d1, d2, d3⟩ := ZFI h2 g2
    refine Zu (fun h => by cases h) (fun _ => ?_)
    walk_at "w"
    refine ⟨a2, _, _, rfl, e2, ?_⟩
    walk_at "w"
    refine ⟨b2, _, _, rfl, d2, ?_⟩
    walk_at "w"
    have J := g1.join g2 hlt
    have fin : ∀ (x y : Addr) (p2 p3 : Int × Int), H x = some (.tup [.int p2.1, .int p2.2]) → H y = some (.tup [.int p3.1, .int p3.2]) → Is4 (c1 ++ c2) (some [q0, r1, p2, p3]) → ∀ l H', H l = none → H' l = some (.tup [.ref a0, .ref b1, .ref x, .ref y]) → ZK H H' → Q (.ref l) H' := fun x y p2 p3 hx hy J l H' n' f' S' =>
     k (.ref l) _ H' (.pr ⟨_, f', .cons ⟨a0, rfl, S' _ _ e0⟩ (.cons ⟨b1, rfl, S' _ _ d1⟩ (.cons ⟨x, rfl, S' _ _ hx⟩ (.cons ⟨y, rfl, S' _ _ hy⟩ .nil)))⟩ rfl) J S'
    have part2 : ∀ (x : Addr) (p2 : Int × Int), True := fun _ _ => trivial
    refine Zu (fun hl => ?_) (fun hl => ?_)
    ·walk_at "w"
     refine ⟨a3, _, _, rfl, e3, ?_⟩
     walk_at "w"
     refine ⟨b3, _, _, rfl, d3, ?_⟩
     walk_at "w"
     refine Zu (fun hh => ?_) (fun hh => ?_)
     ·walk_at "w"
      rw [if_pos hl, if_pos hh] at J
      exact ZR (by show 4 ≤ sizeLine; decide) fun l H' n' f' S' => fin _ _ _ _ e2 e3 J l H' n' f' S'
     ·walk_at "w"
      rw [if_pos hl, if_neg hh] at J
      exact ZR (by show 4 ≤ sizeLine; decide) fun l H' n' f' S' => fin _ _ _ _ e2 d3 J l H' n' f' S'
    ·walk_at "w"
     refine ⟨a3, _, _, rfl, e3, ?_⟩
     walk_at "w"
     refine ⟨b3, _, _, rfl, d3, ?_⟩
     walk_at "w"
     refine Zu (fun hh => ?_) (fun hh => ?_)
     ·walk_at "w"
      rw [if_neg hl, if_pos hh] at J
      exact ZR (by show 4 ≤ sizeLine; decide) fun l H' n' f' S' => fin _ _ _ _ d2 e3 J l H' n' f' S'
     ·walk_at "w"
      rw [if_neg hl, if_neg hh] at J
      exact ZR (by show 4 ≤ sizeLine; decide) fun l H' n' f' S' => fin _ _ _ _ d2 d3 J l H' n' f' S'
end
section
variable {P : Program} {w : World} {K : PySem.W.Frag} {mg : Str → Option Value} {base : Heap} {a : Ad}
theorem ZPO {xs : List V} {v : V} (h : xs[xs.length - 1]? = some v) : atI xs (-1) = some v := by
 have hlt := (List.getElem?_eq_some_iff.mp h).1
 unfold atI ixN
 rw [if_neg (by decide), if_pos (by omega)]
 have : ((-1 : Int) + (xs.length : Int)).toNat = xs.length - 1 := by omega
 rw [this]
 exact h
def ZMv (K : PySem.W.Frag) : Sp := fun vs H Q _ => ∃ (l : Addr) (cv : List (Int × Int)), vs = [.ref l] ∧ PrT H l cv ∧ Asc cv ∧
 ∀ (v : V) (o : Option (List (Int × Int))) (H' : Hp), Zr H' v o → Is4 cv o → ZK H H' → Q v H'
theorem ZJC : ZP ["curve"] ["curve"] (ZF ZCt) := ⟨rfl, rfl, rfl, by decide +kernel, rfl, by decide +kernel, by decide +kernel⟩
theorem ZJD (T : Txt K mg a) : ZQ P w K mg base CX0 3 a.f_four_of a.d_four_of ["curve"] (ZMv K) := by
 refine T.F_four_of.ok ZJC (fun vs H Q E h => ?_) (fun cdv A outer s H vs Q E hr h => ?_)
 ·obtain ⟨l, cv, rfl, _⟩ := h
  rfl
 ·obtain ⟨l, cv, rfl, ⟨us, gL, pL⟩, hasc, k⟩ := h
  have hul : us.length = cv.length := pL.length
  refine ⟨_, QB.h (ZD (Zk (ZW (YG) (Zo (ZBr K rfl) rfl T.z_len ZAc (ZA (qv 0) ZB)) ZC (Zb _)) (ZE (ZZ YN)) Zi) (ZE (ZZ (Zg (ZA (ZU (Zd K rfl) (qv 0) ZC) (ZA (ZU (Zd K rfl) (qv 0) (ZB7 ZAy ZC)) (ZA (ZIs K rfl rfl (Y6 T) hr rfl T.z_min rfl T.m_height_of T.b_height_of (ZA (qv 0) ZB)) (ZA (ZIu K rfl rfl (Y6 T) hr rfl T.z_max rfl T.m_height_of T.b_height_of (ZA (qv 0) ZB)) ZB)))))))), ?_⟩
  walk_at "s"
  walk_at "w"
  refine Zu (fun h => ?_) (fun h => ?_)
  ·walk_at "w"
   have : cv = [] := List.length_eq_zero_iff.mp (by have h := V.int.inj h; omega)
   exact k _ none H .non (.inl ⟨rfl, this⟩) (ZK.refl H)
  ·have hpos : 0 < us.length := by
    rcases Nat.eq_zero_or_pos us.length with z | z
    ·exact absurd (by rw [z]; rfl) h
    ·exact z
   have hne : us ≠ [] := List.length_pos_iff.mp hpos
   obtain ⟨c0, q0, ec0, hq0, hc0⟩ := pL.at (List.getElem?_eq_getElem hpos)
   obtain ⟨c1, q1, ec1, hq1, hc1⟩ := pL.at (List.getElem?_eq_getElem (show us.length - 1 < us.length by omega))
   have hx0 : us[0]? = some (.ref c0) := by rw [List.getElem?_eq_getElem hpos, ec0]
   have hx1 : us[us.length - 1]? = some (.ref c1) := by rw [List.getElem?_eq_getElem (show us.length - 1 < us.length by omega), ec1]
   have turn : ∀ i v, us[i]? = some v → ∀ Q : VK, Q (.int (cv.getD i (0, 0)).2) H → ZG6 [v] H Q E0 := fun i v hv Q q => by
    obtain ⟨c, p, rfl, hp, hc⟩ := pL.at hv
    have e : cv.getD i (0, 0) = p := by simp [hp]
    rw [e] at q
    exact ⟨c, p.1, p.2, rfl, hc, q⟩
   walk_at "w"
   refine ZGD (SqT.of gL) (ZBk (j := 0) hx0) ?_
   walk_at "w"
   refine ZGD (SqT.of gL) (ZPO hx1) ?_
   walk_at "w"
   refine ZIt (fun i => (cv.getD i (0, 0)).2) (SqT.of gL) hne turn fun i2 v2 hv2 hb2 => ?_
   walk_at "w"
   refine ZIv (fun i => (cv.getD i (0, 0)).2) (SqT.of gL) hne turn fun i3 v3 hv3 hb3 => ?_
   obtain ⟨c2, q2, rfl, hq2, hc2⟩ := pL.at hv2
   obtain ⟨c3, q3, rfl, hq3, hc3⟩ := pL.at hv3
   walk_at "w"
   refine ZR (by show 4 ≤ sizeLine; decide) fun c4 H4 n4 f4 S4 => ?_
   have hP4 : ZI H4 [.ref c0, .ref c1, .ref c2, .ref c3] [q0, q1, q2, q3] := .cons ⟨c0, rfl, S4 _ _ hc0⟩ (.cons ⟨c1, rfl, S4 _ _ hc1⟩ (.cons ⟨c2, rfl, S4 _ _ hc2⟩ (.cons ⟨c3, rfl, S4 _ _ hc3⟩ .nil)))
   rw [hul] at hq1 hb2 hb3
   exact k _ (some [q0, q1, q2, q3]) H4 (.pr ⟨_, f4, hP4⟩ rfl) (Is4.minmax hasc hq0 hq1 hq2 hq3 hb2 hb3) S4
end
section
variable {P : Program} {w : World} {K : PySem.W.Frag} {mg : Str → Option Value} {base : Heap} {a : Ad}
def InT (x : Int) : Prop := -1099511627776 ≤ x ∧ x ≤ 1099511627776
def ZPP : Sp := fun vs H Q _ => ∃ i : Int, vs = [.int i] ∧ Q (.bl true) H
theorem ZHc : ZP ["thing"] ["thing"] (ZF ZCJ) := ⟨rfl, rfl, rfl, by decide +kernel, rfl, by decide +kernel, by decide +kernel⟩
theorem ZBh (T : Txt K mg a) : ZQ P w K mg base CX0 1 a.f_is_whole a.d_is_whole ["thing"] ZPP := by
 refine T.F_is_whole.ok ZHc (fun vs H Q E h => ?_) (fun cdv A outer s H vs Q E hr h => ?_)
 ·obtain ⟨i, rfl, _⟩ := h
  rfl
 ·obtain ⟨i, rfl, q⟩ := h
  refine ⟨_, QB.h (ZE (ZZ (ZCl (Zo (ZJ2 K rfl) rfl T.z_isinstance ZCZ (ZA (qv 0) (ZA (ZH1 (v := .ty "int") rfl T.z_int ZQZ rfl) ZB))) (ZCk (ZQ4 (Zo (ZJ2 K rfl) rfl T.z_isinstance ZCZ (ZA (qv 0) (ZA (ZH1 (v := .ty "bool") rfl T.z_bool ZOG rfl) ZB)))))))), ?_⟩
  walk_at "s"
  walk_at "w"
  refine ZJx (.int i) (ZKr _) (ZQj (YJ ?_))
  walk_at "w"
  refine ZJx (.int i) (ZJB _) ?_
  walk_at "w"
  exact q
def ZMw : Sp := fun vs H Q _ => ∃ i : Int, vs = [.int i] ∧ ((InT i ∧ Q (.bl true) H) ∨ (¬ InT i ∧ Q (.bl false) H))
theorem ZG8 : ZP ["thing"] ["thing"] (ZF ZBb) := ⟨rfl, rfl, rfl, by decide +kernel, rfl, by decide +kernel, by decide +kernel⟩
theorem Jc (T : Txt K mg a) : ZQ P w K mg base CX0 2 a.f_is_border a.d_is_border ["thing"] ZMw := by
 refine T.F_is_border.ok ZG8 (fun vs H Q E h => ?_) (fun cdv A outer s H vs Q E hr h => ?_)
 ·obtain ⟨i, rfl, _⟩ := h
  rfl
 ·obtain ⟨i, rfl, h⟩ := h
  refine ⟨_, QB.h (ZE (ZZ (ZCl (ZG (ZBh T) hr rfl T.m_is_whole T.F_is_whole.kp T.b_is_whole .nil ZJ (ZA (qv 0) ZB)) (ZCk (ZLw ZAn ZAn (ZB7 ZAy (ZDD (v := .int 1099511627776) rfl T.m_TIMES_END ⟨_, rfl⟩)) (qv 0) (ZDD (v := .int 1099511627776) rfl T.m_TIMES_END ⟨_, rfl⟩)))))), ?_⟩
  walk_at "s"
  walk_at "w"
  refine ⟨i, rfl, ?_⟩
  walk_at "w"
  refine YJ ?_
  walk_at "w"
  unfold InT at h
  refine Zu (fun h1 => ?_) (fun h1 => ?_)
  ·walk_at "w"
   rcases h with ⟨hi, q⟩ | ⟨hi, q⟩
   ·rw [decide_eq_true hi.2]
    exact q
   ·rw [decide_eq_false fun z => hi ⟨by omega, z⟩]
    exact q
  ·rcases h with ⟨hi, q⟩ | ⟨hi, q⟩
   ·exact absurd hi.1 (by omega)
   ·walk_at "w"
    exact q
def ZPQ : Sp := fun vs H Q _ => ∃ b e : Int, vs = [.int b, .int e] ∧ InT b ∧ InT e ∧ Q .non H
theorem ZA9 : ZP ["begin", "end"] ["begin", "end"] (ZF ZAA) := ⟨rfl, rfl, rfl, by decide +kernel, rfl, by decide +kernel, by decide +kernel⟩
theorem ZBA (T : Txt K mg a) : ZQ P w K mg base CX0 3 a.f_check_borders a.d_check_borders ["begin", "end"] ZPQ := by
 refine T.F_check_borders.ok ZA9 (fun vs H Q E h => ?_) (fun cdv A outer s H vs Q E hr h => ?_)
 ·obtain ⟨b, e, rfl, _⟩ := h
  rfl
 ·obtain ⟨b, e, rfl, hb, he, q⟩ := h
  refine ⟨_, QB.h (ZE (Zk (QW.pt (ZDE (JO (Y3 (ZG (Jc T) hr rfl T.m_is_border T.F_is_border.kp T.b_is_border .nil ZJ (ZA (qv 0) ZB)))) (ZBp (JO (Y3 (ZG (Jc T) hr rfl T.m_is_border T.F_is_border.kp T.b_is_border .nil ZJ (ZA (qv 1) ZB))))))) (ZE Ja) Zi)), ?_⟩
  walk_at "s"
  walk_at "w"
  refine ⟨b, rfl, .inl ⟨hb, ?_⟩⟩
  walk_at "w"
  refine Z1 ?_
  walk_at "w"
  refine ⟨e, rfl, .inl ⟨he, ?_⟩⟩
  walk_at "w"
  refine Z1 ?_
  walk_at "w"
  exact q
def ZKs : Sp := fun vs H Q _ => ∃ x e : Int, vs = [.int x, .int e] ∧ InT x ∧ InT e ∧ x < e ∧
 ∀ (t : Addr) (L : Nat) (H' : Hp), H' t = some (.tup [.int L, .int (2 ^ L)]) → (2 : Int) ^ L ∣ x → x + 2 ^ L ≤ e → ((2 : Int) ^ (L + 1) ∣ x → x + 2 ^ (L + 1) ≤ e → False) → ZK H H' → Q (.ref t) H'
theorem ZAE : ZP ["first", "end", "level", "size"] ["first", "end"] (ZF ZCu) := ⟨rfl, rfl, rfl, by decide +kernel, rfl, by decide +kernel, by decide +kernel⟩
theorem ZJE (T : Txt K mg a) : ZQ P w K mg base CX0 1 a.f_longest a.d_longest ["first", "end"] ZKs := by
 refine T.F_longest.ok ZAE (fun vs H Q E h => ?_) (fun cdv A outer s H vs Q E hr h => ?_)
 ·obtain ⟨b, e, rfl, _⟩ := h
  rfl
 ·obtain ⟨x, e, rfl, hx, he, hxe, k⟩ := h
  unfold InT at hx he
  refine ⟨_, QB.h (ZD (ZM (i := 2) ZAE.nd rfl (by walk_at "o") ZC) (ZD (ZM (i := 3) ZAE.nd rfl (by walk_at "o") ZC) (ZD (ZGG PassesOwn.never (QW.pt (Jn (ZW (YG) (ZL ZAb (qv 0) (ZL Zv ZC (qv 3))) ZC (Zb _)) (JR (ZW (ZAn) (ZL YC (qv 0) (ZL Zv ZC (qv 3))) (qv 1) (Zb _))))) (ZD (ZGW (i := 2) ZAE.nd rfl (by walk_at "o") ZHo ZC) (ZE (ZGW (i := 3) ZAE.nd rfl (by walk_at "o") ZNz ZC)))) (ZE (ZZ (Zg (ZA (qv 2) (ZA (qv 3) ZB)))))))), ?_⟩
  walk_at "s"
  walk_at "w"
  refine ZGX (fun σ H' => H' = H ∧ ∃ L : Nat, ∃ z : Int, z = 2 ^ L ∧ σ = [some (.int x), some (.int e), some (.int L), some (.int z)] ∧ z ∣ x ∧ x + z ≤ e) (fun σ H' => match σ with | [_, _, some (.int l), some (.int z)] => (2199023255552 - z).toNat | _ => 0) ?_ ?_
  ·exact ⟨rfl, 0, 1, rfl, rfl, Int.one_dvd _, by omega⟩
  ·rintro σ H' ⟨rfl, L, z, hz, rfl, hd, hle⟩
   have hp : 0 < z := by rw [hz]; exact Y5 L
   have hz2 : z ≤ 2199023255552 := by omega
   walk_at "w"
   rw [Yr]
   refine Zu (fun h1 => ?_) (fun h1 => ?_)
   ·walk_at "w"
    refine Zu (fun h2 => ?_) (fun h2 => ?_)
    ·refine ZH3 ?_
     walk_at "w"
     refine ⟨⟨rfl, L + 1, z * 2, ?_, ?_, ?_, by omega⟩, ?_⟩
     ·rw [hz, Int.pow_succ]
     ·show [some (V.int x), some (V.int e), some (V.int ((L : Int) + 1)), some (V.int (z * 2))] = _
      rfl
     ·rw [Int.mul_comm]; exact Int.dvd_of_emod_eq_zero h1
     ·show (2199023255552 - z * 2).toNat < (2199023255552 - z).toNat
      omega
    ·walk_at "w"
     refine ZR (by show 2 ≤ sizeLine; decide) fun t H2 n2 f2 S2 => ?_
     subst hz
     refine k t L H2 f2 hd hle (fun _ h4 => h2 ?_) S2
     rw [ZCG]; exact h4
   ·refine Z1 ?_
    walk_at "w"
    refine ZR (by show 2 ≤ sizeLine; decide) fun t H2 n2 f2 S2 => ?_
    subst hz
    refine k t L H2 f2 hd hle (fun h3 _ => h1 ?_) S2
    rw [ZCG]; exact Int.emod_eq_zero_of_dvd h3
def ZC3 (b e : Int) : Int := if e > b then e else b
def ZHd : Sp := fun vs H Q _ => ∃ b e : Int, vs = [.int b, .int e] ∧ InT b ∧ InT e ∧
 ∀ (t : Addr) (prs : List (Int × Int)) (H' : Hp), PrT H' t prs → Ch e b prs (ZC3 b e) → prs.length ≤ 80 → ZK H H' → Q (.ref t) H'
theorem Y7 : ZP ["begin", "end", "found", "first", "level", "size"] ["begin", "end"] (ZF ZBc) := ⟨rfl, rfl, rfl, by decide +kernel, rfl, by decide +kernel, by decide +kernel⟩
theorem ZG9 (T : Txt K mg a) : ZQ P w K mg base CX0 4 a.f_stretches a.d_stretches ["begin", "end"] ZHd := by
 refine T.F_stretches.ok Y7 (fun vs H Q E h => ?_) (fun cdv A outer s H vs Q E hr h => ?_)
 ·obtain ⟨b, e, rfl, _⟩ := h
  rfl
 ·obtain ⟨b, e, rfl, hb, he, k⟩ := h
  refine ⟨_, QB.h (ZD (Zc (ZG (ZBA T) hr rfl T.m_check_borders T.F_check_borders.kp T.b_check_borders .nil ZJ (ZA (qv 0) (ZA (qv 1) ZB)))) (ZD (ZM (i := 2) Y7.nd rfl (by walk_at "o") (Yd ZB)) (ZD (ZM (i := 3) Y7.nd rfl (by walk_at "o") (qv 0)) (ZD (ZGG PassesOwn.never (ZW (ZDA) (qv 3) (qv 1) (Zb _)) (ZD (YZ (ZG (ZJE T) (hr.mono (by decide)) rfl T.m_longest T.F_longest.kp T.b_longest .nil ZJ (ZA (qv 3) (ZA (qv 1) ZB))) (YS (n := 2) K rfl rfl (ZT (ZO (i := 4) Y7.nd rfl (by walk_at "o")) (ZT (ZO (i := 5) Y7.nd rfl (by walk_at "o")) YE)))) (ZD (Zc (ZCA PySem.F.plainAttrs_list PySem.F.slot_list_append PySem.F.type_list_append JA (qv 2) (ZA (Zg (ZA (qv 4) (ZA (ZL JZ (qv 3) (qv 5)) ZB))) ZB))) (ZE (ZGW (i := 3) Y7.nd rfl (by walk_at "o") ZHo (qv 5)))))) (ZE (ZZ (Ji (ZAN K rfl) rfl T.z_tuple ZAI (ZA (qv 2) ZB)))))))), ?_⟩
  walk_at "s"
  walk_at "w"
  refine ⟨b, e, rfl, hb, he, ?_⟩
  unfold InT at hb he
  walk_at "w"
  refine ZR (by show 0 ≤ sizeLine; decide) fun l H1 n1 f1 S1 => ?_
  walk_at "w"
  have e40 : (2 : Int) ^ 40 = 1099511627776 := by decide
  refine ZGX (fun σ H' => ZK H H' ∧ ∃ (x : Int) (prs : List (Int × Int)), (∃ v4 v5, σ = [some (.int b), some (.int e), some (.ref l), some (.int x), v4, v5]) ∧ PrL H' l prs ∧ Ch e b prs x ∧ Few e prs.length x ∧ x ≤ ZC3 b e ∧ b ≤ x) (fun σ H' => match σ with | [_, _, _, some (.int x), _, _] => (e - x).toNat | _ => 0) ?_ ?_
  ·exact ⟨S1, b, [], ⟨_, _, rfl⟩, ⟨[], f1, .nil⟩, rfl, Few.start (by rw [e40]; omega), by unfold ZC3; split <;> omega, Int.le_refl _⟩
  ·rintro σ H' ⟨S', x, prs, ⟨v4, v5, rfl⟩, ⟨vs, f', hP⟩, hch, hfew, hmx, hbx⟩
   walk_at "w"
   refine Zu (fun hxe => ?_) (fun hxe => ?_)
   ·refine ZH3 ?_
    walk_at "w"
    refine ⟨x, e, rfl, ⟨by omega, by omega⟩, he, hxe, fun t L H2 f2 hd hle hmax S2 => ?_⟩
    have hL : L ≤ 40 := ZGr (by rw [e40]; omega) (by rw [e40]; omega) hd hle
    have hp := Y5 L
    have hL2 := ZCF hL
    rw [e40] at hL2
    have hfs := Few.step (by rw [e40]; omega) (by rw [e40]; omega) hfew hd hle hmax
    generalize hz : (2 : Int) ^ L = z at *
    walk_at "w"
    refine ⟨tyL (S2 _ _ f'), ?_⟩
    walk_at "w"
    refine ZR (by show 2 ≤ sizeLine; decide) fun t3 H3 n3 f3 S3 => ?_
    have fl := S3 _ _ (S2 _ _ f')
    walk_at "w"
    refine JC fl ?_ fun H4 f4 K4 => ?_
    ·rw [hP.length]
     exact Nat.lt_of_le_of_lt hfew.len (by decide)
    walk_at "w"
    have hxz : x / z * z = x := Int.ediv_mul_cancel hd
    refine ⟨⟨((S'.trans S2).trans S3).kpN n1 K4, x + z, prs ++ [((L : Int), x / z)], ⟨_, _, rfl⟩, ⟨_, f4, ?_⟩, ?_, ?_, ?_, by omega⟩, ?_⟩
    ·exact ZI.kpL K4 fl ((hP.same (S2.trans S3)).snoc f3)
    ·have := Ch.snoc (p := ((L : Int), x / z)) hch ⟨by simp, by simp; omega⟩ (by rw [show ((L : Int), x / z).1.toNat = L from Int.toNat_natCast L, hz]; exact hxz) (by rw [show ((L : Int), x / z).1.toNat = L from Int.toNat_natCast L, hz]; exact hle) (by
      rw [show ((L : Int), x / z).1.toNat = L from Int.toNat_natCast L, hz]
      intro _ h5 h6
      have ez : (2 : Int) ^ (L + 1) = 2 * z := by rw [← ZCG, hz]
      refine hmax ?_ ?_
      ·rw [ez]; exact Int.dvd_of_emod_eq_zero h5
      ·rw [ez]; exact h6)
     rw [show ((L : Int), x / z).1.toNat = L from Int.toNat_natCast L, hz] at this
     exact this
    ·rw [List.length_append]; exact hfs
    ·unfold ZC3; split <;> omega
    ·show (e - (x + z)).toNat < (e - x).toNat
     omega
   ·walk_at "w"
    refine ZAx (SqL.of f') fun t H2 n2 f2 S2 => ?_
    have ex : x = ZC3 b e := by
     unfold ZC3 at hmx ⊢
     split <;> rename_i hh
     ·rw [if_pos hh] at hmx; omega
     ·rw [if_neg hh] at hmx; omega
    rw [ex] at hch
    exact k t prs H2 ⟨vs, f2, hP.same S2⟩ hch hfew.len (S'.trans S2)
end
section
variable {P : Program} {w : World} {K : PySem.W.Frag} {mg : Str → Option Value} {base : Heap} {a : Ad}
def ZPR (K : PySem.W.Frag) : Sp := fun vs H Q _ => ∃ (p : Addr) (b y m k : Int), vs = [.ref p, .int k] ∧ H p = some (.tup [.int b, .int y, .int m]) ∧ 0 ≤ k ∧ k < m ∧ m ≤ 1000 ∧
 ∀ (u : Addr) (H' : Hp), H u = none → H' u = some (.tup [.int (b + k * y), .int (b + k * y + y)]) → ZK H H' → Q (.ref u) H'
theorem Jp : ZP ["window", "k", "begin", "wide", "many", "first"] ["window", "k"] (ZF ZCK) := ⟨rfl, rfl, rfl, by decide +kernel, rfl, by decide +kernel, by decide +kernel⟩
theorem ZDU (T : Txt K mg a) : ZQ P w K mg base CX0 2 a.f_times_of a.d_times_of ["window", "k"] (ZPR K) := by
 refine T.F_times_of.ok Jp (fun vs H Q E h => ?_) (fun cdv A outer s H vs Q E hr h => ?_)
 ·obtain ⟨p, b, y, m, k, rfl, _⟩ := h
  rfl
 ·obtain ⟨p, b, y, m, n, rfl, hT, h0, h1, h2, k⟩ := h
  refine ⟨_, QB.h (ZD (YZ (qv 0) (YS (n := 3) K rfl rfl (ZT (ZO (i := 2) Jp.nd rfl (by walk_at "o")) (ZT (ZO (i := 3) Jp.nd rfl (by walk_at "o")) (ZT (ZO (i := 4) Jp.nd rfl (by walk_at "o")) YE))))) (ZD (Zk (QW.pt (ZDE (JO (Y3 (ZG (ZBh T) hr rfl T.m_is_whole T.F_is_whole.kp T.b_is_whole .nil ZJ (ZA (qv 1) ZB)))) (ZBp (JO (ZB9 ZAn ZDA ZC (qv 1) (qv 4)))))) (ZE Ja) Zi) (ZD (ZM (i := 5) Jp.nd rfl (by walk_at "o") (ZL YC (qv 2) (ZL Zv (qv 1) (qv 3)))) (ZE (ZZ (Zg (ZA (qv 5) (ZA (ZL YC (qv 5) (qv 3)) ZB)))))))), ?_⟩
  walk_at "s"
  walk_at "w"
  refine ⟨n, rfl, ?_⟩
  walk_at "w"
  refine Z1 ?_
  walk_at "w"
  refine Zu (fun _ => ?_) (fun h => absurd h0 h)
  walk_at "w"
  rw [decide_eq_true h1]
  refine Z1 ?_
  walk_at "w"
  exact ZR (by show 2 ≤ sizeLine; decide) fun u H2 n2 f2 S2 => k u H2 n2 f2 S2
def ZAX (b y : Int) (n : Nat) : List (Int × Int) := (List.range n).map fun (i : Nat) => (b + (i : Int) * y, b + (i : Int) * y + y)
theorem ZAf (b y : Int) (n : Nat) : (ZAX b y n).length = n := by rw [ZAX, List.length_map, List.length_range]
theorem ZEX (b y : Int) (n : Nat) : ZAX b y (n + 1) = ZAX b y n ++ [(b + (n : Int) * y, b + (n : Int) * y + y)] := by rw [ZAX, List.range_succ, List.map_append]; rfl
theorem ZCT {b y : Int} {n i : Nat} {p : Int × Int} (h : (ZAX b y n)[i]? = some p) : p = (b + (i : Int) * y, b + (i : Int) * y + y) := by
 rw [ZAX, List.getElem?_map] at h
 obtain ⟨j, hj, rfl⟩ := Option.map_eq_some_iff.mp h
 rw [List.getElem?_range (by have := (List.getElem?_eq_some_iff.mp hj).1; rwa [List.length_range] at this)] at hj
 rw [← Option.some.inj hj]
def ZKt (K : PySem.W.Frag) : Sp := fun vs H Q _ => ∃ (p : Addr) (b y m : Int), vs = [.ref p] ∧ H p = some (.tup [.int b, .int y, .int m]) ∧ 1 ≤ m ∧ m ≤ 1000 ∧
 ∀ (l : Addr) (us : List V) (H' : Hp), H l = none → H' l = some (.lst us) → ZI H' us (ZAX b y m.toNat) → ZK H H' → Q (.ref l) H'
theorem ZFb : ZP ["window"] ["window"] (ZF J9) := ⟨rfl, rfl, rfl, by decide +kernel, rfl, by decide +kernel, by decide +kernel⟩
theorem ZAk (T : Txt K mg a) : ZQ P w K mg base CX0 3 a.f_columns_of a.d_columns_of ["window"] (ZKt K) := by
 refine T.F_columns_of.ok ZFb (fun vs H Q E h => ?_) (fun cdv A outer s H vs Q E hr h => ?_)
 ·obtain ⟨p, b, y, m, rfl, _⟩ := h
  rfl
 ·obtain ⟨p, b, y, m, rfl, hT, h1, h2, k⟩ := h
  refine ⟨_, QB.h (ZE (ZZ (Jj (N := ["window"]) (sc := ZF J9) (own := ["k"]) (caps := ["window"]) (ks := [0]) rfl rfl rfl ⟨rfl, by decide +kernel, by decide +kernel, by decide +kernel, by decide +kernel, rfl, by decide +kernel⟩ (Jz rfl T.z_range (ZA (ZU (Zd K rfl) (qv 0) ZC) ZB)) (fun _ _ _ _ _ => ZO (i := 0) (show List.Nodup (α := Str) ["k", "window"] from by decide +kernel) rfl (by walk_at "o") (.inr rfl)) (fun _ _ _ _ _ => ZAM) (fun _ _ _ _ _ => ZG (ZDU T) hr rfl T.m_times_of T.F_times_of.kp T.b_times_of .nil ZJ (ZA (qv 1) (ZA (qv 0) ZB)))))), ?_⟩
  walk_at "s"
  walk_at "w"
  refine ZBn (by omega) (by omega) ?_
  intro l n1
  refine Jh m.toNat (fun i σ' H' => (∃ o, σ' = [o, some (.ref p)]) ∧ ZK H H' ∧ ∃ vs, H' l = some (.lst vs) ∧ ZI H' vs (ZAX b y i)) ?_ ?_ ?_
  ·exact ⟨⟨none, rfl⟩, ZK.new n1, [], ZS, .nil⟩
  ·rintro σ H2 ⟨_, S2, vs, f2, hP⟩
   refine ⟨Nat.le_refl _, ?_⟩
   walk_at "w"
   exact k l vs H2 n1 f2 hP S2
  ·rintro i σ H2 hi ⟨⟨o, rfl⟩, S2, vs, f2, hP⟩
   refine ⟨hi, ?_⟩
   rintro x H'' ⟨rfl, rfl⟩
   walk_at "w"
   refine YJ ?_
   walk_at "w"
   refine ⟨p, b, y, m, _, rfl, S2 _ _ hT, by omega, by omega, by omega, fun u H3 n3 f3 S3 => ?_⟩
   have e0 : (0 + (i : Int)) = (i : Int) := by omega
   rw [e0] at f3
   refine ⟨vs, S3 _ _ f2, ?_, ⟨_, rfl⟩, (S2.trans S3).kpN n1 Kp.upd, vs ++ [.ref u], ZS, ?_⟩
   ·rw [hP.length, ZAf]
    exact Nat.lt_of_lt_of_le hi (Nat.le_trans (show m.toNat ≤ 1000 by omega) (by decide))
   ·rw [ZEX]
    exact ZI.kpL Kp.upd (S3 _ _ f2) ((hP.same S3).snoc (p := (b + (i : Int) * y, b + (i : Int) * y + y)) f3)
end
def tfl (n : Int) (d1 d2 : Addr) : List (Str × V) := [("looks", V.int n), ("samples", V.ref d1), ("kept_fours", V.ref d2)]
theorem sn1 : (("samples" : Str) == "looks") = false := by decide +kernel
theorem sn2 : (("kept_fours" : Str) == "looks") = false := by decide +kernel
theorem sn3 : (("kept_fours" : Str) == "samples") = false := by decide +kernel
theorem ZBQ {n : Int} {d1 d2 : Addr} : (tfl n d1 d2).lookup ("looks" : Str) = some (.int n) := by
 unfold tfl
 rw [List.lookup_cons, beq_self_eq_true]
theorem ZAY {n : Int} {d1 d2 : Addr} : (tfl n d1 d2).lookup ("samples" : Str) = some (.ref d1) := by
 unfold tfl
 rw [List.lookup_cons, sn1, List.lookup_cons, beq_self_eq_true]
theorem ZD1 {n : Int} {d1 d2 : Addr} : (tfl n d1 d2).lookup ("kept_fours" : Str) = some (.ref d2) := by
 unfold tfl
 rw [List.lookup_cons, sn2, List.lookup_cons, sn3, List.lookup_cons, beq_self_eq_true]
theorem ZBB {n : Int} {d1 d2 : Addr} {m : Str} (h1 : (m == ("looks" : Str)) = false) (h2 : (m == ("samples" : Str)) = false) (h3 : (m == ("kept_fours" : Str)) = false) : (tfl n d1 d2).lookup m = none := by
 unfold tfl
 rw [List.lookup_cons, h1, List.lookup_cons, h2, List.lookup_cons, h3]
 rfl
theorem ZPS {n n' : Int} {d1 d2 : Addr} : Zn "looks" (.int n') (tfl n d1 d2) = tfl n' d1 d2 := by
 show (if ("looks" : Str) = "looks" then [(("looks" : Str), V.int n')] ++ _ else _) = _
 rw [if_pos rfl]
 rfl
theorem ZPT {d1 d2 : Addr} : Zn "kept_fours" (.ref d2) (Zn "samples" (.ref d1) (Zn "looks" (.int 0) [])) = tfl 0 d1 d2 := by
 have e1 : ¬ ("looks" : Str) = "samples" := by decide +kernel
 have e2 : ¬ ("looks" : Str) = "kept_fours" := by decide +kernel
 have e3 : ¬ ("samples" : Str) = "kept_fours" := by decide +kernel
 show Zn "kept_fours" (.ref d2) (Zn "samples" (.ref d1) [(("looks" : Str), V.int 0)]) = _
 rw [show Zn "samples" (.ref d1) [(("looks" : Str), V.int 0)] = (if ("looks" : Str) = "samples" then [(("looks" : Str), V.ref d1)] else (("looks" : Str), V.int 0) :: Zn "samples" (.ref d1) []) from rfl, if_neg e1]
 show (if ("looks" : Str) = "kept_fours" then _ else (("looks" : Str), V.int 0) :: (if ("samples" : Str) = "kept_fours" then _ else (("samples" : Str), V.ref d1) :: Zn "kept_fours" (.ref d2) [])) = _
 rw [if_neg e2, if_neg e3]
 rfl
def Zp (C : Addr) (H : Hp) (p : Addr) (n : Int) (d1 d2 : Addr) (sm : List (Int × Int)) (c : Nat) : Prop :=
 ∃ dx kvs, H p = some (.ins C dx (tfl n d1 d2)) ∧ H d1 = some (.dK (Zj sm)) ∧ H d2 = some (.dT kvs) ∧ (sm.map (·.1)).Nodup ∧ Yk H kvs sm (fun _ _ => True) ∧ kvs.length ≤ 41 * c
theorem Zp.same {C : Addr} {H H' : Hp} {p d1 d2 : Addr} {n : Int} {sm : List (Int × Int)} {c : Nat} (h : Zp C H p n d1 d2 sm c) (s : ZK H H') : Zp C H' p n d1 d2 sm c := by
 obtain ⟨dx, kvs, h1, h2, h3, h4, h5, h6⟩ := h
 exact ⟨dx, kvs, s _ _ h1, s _ _ h2, s _ _ h3, h4, h5.same s, h6⟩
def Fr3 (p d1 d2 : Addr) (H H' : Hp) : Prop := ∀ b o, H b = some o → b ≠ p → b ≠ d1 → b ≠ d2 → H' b = some o
section
variable {P : Program} {w : World} {K : PySem.W.Frag} {mg : Str → Option Value} {base : Heap} {a : Ad}
local macro_rules | `(tactic| walk_at "rd") => `(tactic| first
 | with_reducible refine Z3 (by assumption) (‹Txt _ _ _›).c_Tree (‹Txt _ _ _›).n_Tree_looks ZBQ ?_
 | with_reducible refine Z3 (by assumption) (‹Txt _ _ _›).c_Tree (‹Txt _ _ _›).n_Tree_samples ZAY ?_
 | with_reducible refine Z3 (by assumption) (‹Txt _ _ _›).c_Tree (‹Txt _ _ _›).n_Tree_kept_fours ZD1 ?_)
def Tm (t : Int) : Prop := -1099511627776 ≤ t ∧ t < 1099511627776
def ZMx : Sp := fun vs H Q _ => ∃ t : Int, vs = [.int t] ∧ Tm t ∧ Q .non H
theorem ZFc : ZP ["t"] ["t"] (ZF ZA3) := ⟨rfl, rfl, rfl, by decide +kernel, rfl, by decide +kernel, by decide +kernel⟩
theorem ZCd (T : Txt K mg a) : ZQ P w K mg base CX0 3 a.f_check_time a.d_check_time ["t"] ZMx := by
 refine T.F_check_time.ok ZFc (fun vs H Q E h => ?_) (fun cdv A outer s H vs Q E hr h => ?_)
 ·obtain ⟨t, rfl, _⟩ := h
  rfl
 ·obtain ⟨t, rfl, ht, q⟩ := h
  unfold Tm at ht
  refine ⟨_, QB.h (ZE (Zk (QW.pt (ZDE (JO (Y3 (ZG (Jc T) hr rfl T.m_is_border T.F_is_border.kp T.b_is_border .nil ZJ (ZA (qv 0) ZB)))) (ZBp (ZW (YG) (qv 0) (ZDD (v := .int 1099511627776) rfl T.m_TIMES_END ⟨_, rfl⟩) (Zb _))))) (ZE Ja) Zi)), ?_⟩
  walk_at "s"
  walk_at "w"
  refine ⟨t, rfl, .inl ⟨⟨by omega, by omega⟩, ?_⟩⟩
  walk_at "w"
  refine Z1 ?_
  walk_at "w"
  rw [Yr]
  refine Zu (fun h => ?_) (fun h => ?_)
  ·exfalso
   omega
  ·walk_at "w"
   exact q
def ZPU (C : Addr) : Sp := fun vs H Q _ => ∃ (p d1 d2 dx : Addr) (n t : Int) (v : V) (o : Option (List (Int × Int))) (sm : List (Int × Int)) (kvs : List (List Key × V)) (c : Nat), vs = [.ref p, .int t, v] ∧ H p = some (.ins C dx (tfl n d1 d2)) ∧ H d1 = some (.dK (Zj sm)) ∧ H d2 = some (.dT kvs) ∧ (sm.map (·.1)).Nodup ∧
 Yk H kvs sm (fun l s => s ≠ t / 2 ^ l) ∧ kvs.length ≤ 41 * c ∧ c ≤ 1000 ∧ Zr H v o ∧ Is4 (inS sm 0 t) o ∧ ∀ H', Zp C H' p n d1 d2 sm (c + 1) → Kp d2 H H' → Q .non H'
theorem JQ : ZP ["self", "t", "four", "s", "level", "halves"] ["self", "t", "four"] (ZF ZA4) := ⟨rfl, rfl, rfl, by decide +kernel, rfl, by decide +kernel, by decide +kernel⟩
theorem ZCe (T : Txt K mg a) : ZQ P w K mg base CX0 3 a.f_Tree_renew a.d_Tree_renew ["self", "t", "four"] (ZPU a.C_Tree) := by
 refine T.F_Tree_renew.ok JQ (fun vs H Q E h => ?_) (fun cdv A outer s H vs Q E hr h => ?_)
 ·obtain ⟨p, d1, d2, dx, n, t, v, o, sm, kvs, c, rfl, _⟩ := h
  rfl
 ·obtain ⟨p, d1, d2, dx, n, t, v, o, sm, kvs, c, rfl, hp, h1, h2, hnd, hkf, hlen, hc, hv, ho, k⟩ := h
  have hu := JE hr
  have np2 : p ≠ d2 := fun z => by subst z; rw [hp] at h2; cases h2
  have n12 : d1 ≠ d2 := fun z => by subst z; rw [h1] at h2; cases h2
  refine ⟨_, QB.h (ZD (J5 hu (qv 2) (Zl K rfl (qv 0)) (Zg (ZA ZC (ZA (qv 1) ZB)))) (ZD (ZM (i := 3) JQ.nd rfl (by walk_at "o") (qv 1)) (ZE (JP PassesOwn.never rfl (Jz rfl T.z_range (ZA (ZDD (v := .int 40) rfl T.m_TOP_LEVEL ⟨_, rfl⟩) ZB)) (ZO (i := 4) JQ.nd rfl (by walk_at "o")) (ZD (ZM (i := 3) JQ.nd rfl (by walk_at "o") (ZL JZ (qv 3) ZC)) (ZD (ZM (i := 5) JQ.nd rfl (by walk_at "o") (Zg (ZA (ZA1 hu (Zl K rfl (qv 0)) (Zg (ZA (qv 4) (ZA (ZL Zv ZC (qv 3)) ZB)))) (ZA (ZA1 hu (Zl K rfl (qv 0)) (Zg (ZA (qv 4) (ZA (ZL YC (ZL Zv ZC (qv 3)) ZC) ZB)))) ZB)))) (ZE (J5 hu (ZG (ZC2 T) hr rfl T.m_joined T.F_joined.kp T.b_joined .nil ZJ (ZA (ZU (Zd K rfl) (qv 5) ZC) (ZA (ZU (Zd K rfl) (qv 5) ZC) ZB))) (Zl K rfl (qv 0)) (Zg (ZA (ZL YC (qv 4) ZC) (ZA (qv 3) ZB))))))))))), ?_⟩
  walk_at "s"
  walk_at "w"
  refine ZR (by show 2 ≤ sizeLine; decide) fun b3 H3 n3 f3 S3 => ?_
  walk_at "w"
  refine ZA0 (k := kOf 0 t) (S3 _ _ h2) f3 (Nat.lt_of_le_of_lt (show kvs.length ≤ 41000 by omega) (by decide)) fun H4 f4 K4 => ?_
  have K04 : Kp d2 H H4 := (Kp.same S3).trans K4
  have nt : ∀ (l : List (List Key × V)) (xs : List V), HO.dT l ≠ .tup xs := fun l xs z => by cases z
  have e0 : t / 2 ^ 0 = t := by simp
  have hk4 : Yk H4 (Yj kvs (kOf 0 t) v) sm (fun l s => s ≠ t / 2 ^ l ∨ l ≤ 0) := by
   have h := ((hkf.same S3).put (i := 0) (t := t) (hv.same S3) (by rw [e0]; exact ho)).kpX K4 (S3 _ _ h2) (nt _)
   rw [e0] at h
   refine h.mono fun l s hl g => ?_
   rcases g with g | g
   ·exact .inl g
   ·have : l = 0 := by omega
    subst this
    by_cases e : s = t / 2 ^ 0
    ·exact .inr ⟨rfl, e⟩
    ·exact .inl e
  have hl4 : (Yj kvs (kOf 0 t) v).length ≤ 41 * c + 1 := Nat.le_trans (JS _ _ _) (by omega)
  walk_at "w"
  refine ZBn (by decide) (by decide) (ZDC (fun i σ H' => (∃ v4 v5, σ = [some (.ref p), some (.int t), some v, some (.int (t / 2 ^ i)), v4, v5]) ∧ Kp d2 H H' ∧ ∃ kvs', H' d2 = some (.dT kvs') ∧ Yk H' kvs' sm (fun l s => s ≠ t / 2 ^ l ∨ l ≤ i) ∧ kvs'.length ≤ 41 * c + 1 + i) ?_ ?_ ?_)
  ·exact ⟨⟨none, none, by rw [e0]; rfl⟩, K04, _, f4, hk4, hl4⟩
  ·rintro i σ H5 hi ⟨⟨v4, v5, rfl⟩, K5, kv5, f5, hk5, hl5⟩
   have hi40 : i < 40 := hi
   have hp5 := K5 _ _ hp np2
   have ez : (0 + (i : Int)) = (i : Int) := by omega
   rw [ez]
   walk_at "w"
   generalize hs : t / 2 ^ i / 2 = s
   have hs1 : t / 2 ^ (i + 1) = s := by rw [ZGs, hs]
   refine ZCp f5 ?_
   walk_at "w"
   refine ZR (by show 2 ≤ sizeLine; decide) fun b6 H6 n6 f6 S6 => ?_
   refine ZDo (k := kOf i (2 * s)) (S6 _ _ f5) f6 ?_
   have hp6 := S6 _ _ hp5
   have f56 := S6 _ _ f5
   walk_at "w"
   refine ZCp f56 ?_
   walk_at "w"
   refine ZR (by show 2 ≤ sizeLine; decide) fun b7 H7 n7 f7 S7 => ?_
   refine ZDo (k := kOf i (2 * s + 1)) (S7 _ _ f56) f7 ?_
   have S57 := S6.trans S7
   walk_at "w"
   refine ZR (by show 2 ≤ sizeLine; decide) fun b8 H8 n8 f8 S8 => ?_
   have S58 := S57.trans S8
   have hk8 := hk5.same S58
   obtain ⟨oa, ha1, ha2⟩ := hk8 i (2 * s) (by omega) (.inr (Nat.le_refl _))
   obtain ⟨ob, hb1, hb2⟩ := hk8 i (2 * s + 1) (by omega) (.inr (Nat.le_refl _))
   walk_at "w"
   refine ⟨_, _, oa, ob, _, _, rfl, ha1, ha2, hb1, hb2, ZRU (by omega), fun v9 o9 H9 h9 g9 S9 => ?_⟩
   have g9 : Is4 (inS sm (i + 1) s) o9 := g9.congr fun q => ZMX
   have S59 := S58.trans S9
   have hp9 := S59 _ _ hp5
   walk_at "w"
   refine ZR (by show 2 ≤ sizeLine; decide) fun b10 H10 n10 f10 S10 => ?_
   have S510 := S59.trans S10
   have f510 := S510 _ _ f5
   refine ZA0 (k := kOf (i + 1) s) f510 ?_ (Nat.lt_of_le_of_lt (show kv5.length ≤ 42000 by omega) (by decide)) fun H11 f11 K11 => ?_
   ·rw [f10]
    show some (HO.tup [V.int ((i : Int) + 1), V.int s]) = some (HO.tup [V.int ((i + 1 : Nat) : Int), V.int s])
    rw [show ((i + 1 : Nat) : Int) = (i : Int) + 1 by omega]
   walk_at "w"
   refine ⟨⟨some (.int i), some (.ref b8), by rw [hs1]; rfl⟩, (K5.then S510).trans K11, _, f11, ?_, Nat.le_trans (JS _ _ _) (by omega)⟩
   have h := ((hk5.same S510).put (i := i + 1) (t := t) (h9.same S10) (by rw [hs1]; exact g9)).kpX K11 f510 (nt _)
   rw [hs1] at h
   refine h.mono fun l s' hl g => ?_
   rcases g with g | g
   ·exact .inl (.inl g)
   ·by_cases e : l = i + 1
    ·by_cases e2 : s' = t / 2 ^ l
     ·exact .inr ⟨e, e2⟩
     ·exact .inl (.inl e2)
    ·exact .inl (.inr (by omega))
  ·rintro σ H5 ⟨⟨v4, v5, rfl⟩, K5, kv5, f5, hk5, hl5⟩
   walk_at "w"
   refine k H5 ⟨dx, kv5, K5 _ _ hp np2, K5 _ _ h1 n12, f5, hnd, hk5.mono fun l s hl _ => .inr hl, ?_⟩ K5
   have : kv5.length ≤ 41 * c + 1 + 40 := hl5
   omega
def ZRY (C : Addr) : Sp := fun vs H Q _ => ∃ (p d1 d2 : Addr) (n t h : Int) (sm : List (Int × Int)) (c : Nat), vs = [.ref p, .int t, .int h] ∧ Zp C H p n d1 d2 sm c ∧ Tm t ∧ c ≤ 1000 ∧ sm.length ≤ 1000 ∧
 ∀ H', Zp C H' p n d1 d2 (YO sm t h) (c + 1) → Fr3 p d1 d2 H H' → Q .non H'
theorem ZHe : ZP ["self", "t", "h"] ["self", "t", "h"] (ZF ZCM) := ⟨rfl, rfl, rfl, by decide +kernel, rfl, by decide +kernel, by decide +kernel⟩
theorem ZDV (T : Txt K mg a) : ZQ P w K mg base CX0 4 a.f_Tree_put a.d_Tree_put ["self", "t", "h"] (ZRY a.C_Tree) := by
 refine T.F_Tree_put.ok ZHe (fun vs H Q E h => ?_) (fun cdv A outer s H vs Q E hr h => ?_)
 ·obtain ⟨p, d1, d2, n, t, h, sm, c, rfl, _⟩ := h
  rfl
 ·obtain ⟨p, d1, d2, n, t, x, sm, c, rfl, ⟨dx, kvs, hp, h1, h2, hnd, hkf, hlen⟩, ht, hc, hsl, k⟩ := h
  have hu := JE hr
  have np1 : p ≠ d1 := fun z => by subst z; rw [hp] at h1; cases h1
  have n21 : d2 ≠ d1 := fun z => by subst z; rw [h1] at h2; cases h2
  refine ⟨_, QB.h (ZD (Zc (ZG (ZCd T) hr rfl T.m_check_time T.F_check_time.kp T.b_check_time .nil ZJ (ZA (qv 1) ZB))) (ZD (J5 hu (qv 2) (Zl K rfl (qv 0)) (qv 1)) (ZE (Zc (Zw (qv 0) T.c_Tree T.M_Tree_renew (ZCe T) hr T.b_Tree_renew .nil ZJ (ZA (qv 1) (ZA (ZG (ZJD T) hr rfl T.m_four_of T.F_four_of.kp T.b_four_of .nil ZJ (ZA (Zg (ZA (Zg (ZA (qv 1) (ZA (qv 2) ZB))) ZB)) ZB)) ZB))))))), ?_⟩
  walk_at "s"
  walk_at "w"
  refine ⟨t, rfl, ht, ?_⟩
  walk_at "w"
  refine ZDj h1 (Nat.lt_of_le_of_lt hsl (by decide)) fun H3 f3 K3 => ?_
  have hp3 := K3 _ _ hp np1
  have h23 := K3 _ _ h2 n21
  have hk3 : Yk H3 kvs (YO sm t x) (fun l s => s ≠ t / 2 ^ l) := (Yk.other hkf fun q hq => by
   rw [Yb hnd]
   constructor
   ·exact fun z => .inl ⟨hq, z⟩
   ·rintro (z | z)
    ·exact z.2
    ·exact absurd (by rw [z]) hq).kpX K3 h1 (fun xs z => by cases z)
  walk_at "w"
  refine Zf hp3 (ZBB (by decide +kernel) (by decide +kernel) (by decide +kernel)) ?_
  walk_at "w"
  refine ZR (by show 2 ≤ sizeLine; decide) fun b4 H4 n4 f4 S4 => ?_
  walk_at "w"
  refine ZR (by show 1 ≤ sizeLine; decide) fun b5 H5 n5 f5 S5 => ?_
  walk_at "w"
  refine ⟨b5, [(t, x)], rfl, ⟨_, f5, .cons ⟨b4, rfl, S5 _ _ f4⟩ .nil⟩, List.pairwise_singleton _ _, fun v6 o6 H6 h6 g6 S6 => ?_⟩
  have S36 := S4.trans (S5.trans S6)
  walk_at "w"
  refine ⟨p, d1, d2, dx, n, t, v6, o6, YO sm t x, kvs, c, rfl, S36 _ _ hp3, S36 _ _ f3, S36 _ _ h23, JG hnd, hk3.same S36, hlen, hc, h6, g6.congr fun q => ?_, fun H7 hT7 K7 => ?_⟩
  ·rw [List.mem_singleton, Jk, Yb hnd]
   simp only [Int.pow_zero, Int.ediv_one]
   constructor
   ·rintro rfl
    exact ⟨.inr rfl, rfl⟩
   ·rintro ⟨h1 | h1, h2⟩
    ·exact absurd h2 h1.1
    ·exact h1
  ·walk_at "w"
   exact k H7 hT7 fun b o e e1 e2 e3 => K7 _ _ (S36 _ _ (K3 _ _ e e2)) e3
def ZPV (C : Addr) : Sp := fun vs H Q _ => ∃ (p dx : Addr) (x : V) (cv : List (Int × Int)), vs = [.ref p, x] ∧ H p = some (.ins C dx []) ∧ ((x = .non ∧ cv = []) ∨ ∃ t, x = .ref t ∧ PrT H t cv) ∧ (cv.map (·.1)).Nodup ∧ (∀ q ∈ cv, Tm q.1) ∧ cv.length ≤ 100 ∧
 ∀ (d1 d2 : Addr) (sm : List (Int × Int)) (H' : Hp), H d1 = none → H d2 = none → Zp C H' p 0 d1 d2 sm cv.length → (∀ q, q ∈ sm ↔ q ∈ cv) → sm.length ≤ cv.length → Kp p H H' → Q .non H'
theorem Ju : ZP ["self", "curve", "t", "h"] ["self", "curve"] (ZF YI) := ⟨rfl, rfl, rfl, by decide +kernel, rfl, by decide +kernel, by decide +kernel⟩
theorem ZD2 (T : Txt K mg a) : ZQ P w K mg base CX0 5 a.f_Tree___init__ a.d_Tree___init__ ["self", "curve"] (ZPV a.C_Tree) := by
 refine T.F_Tree___init__.ok Ju (fun vs H Q E h => ?_) (fun cdv A outer s H vs Q E hr h => ?_)
 ·obtain ⟨p, dx, x, cv, rfl, _⟩ := h
  rfl
 ·obtain ⟨p, dx, x, cv, rfl, hp, hx, hnd, htm, hlen, k⟩ := h
  refine ⟨_, QB.h (ZD (Yu K rfl (qv 0) ZC) (ZD (Yu K rfl (qv 0) ZGS) (ZD (Yu K rfl (qv 0) ZDp) (ZE (Zk (ZW (ZEh) (qv 1) YN (Zb _)) (ZE (JP PassesOwn.never rfl (ZGH K rfl (qv 1)) (YS (n := 2) K rfl rfl (ZT (ZO (i := 2) Ju.nd rfl (by walk_at "o")) (ZT (ZO (i := 3) Ju.nd rfl (by walk_at "o")) YE))) (ZE (Zc (Zw (qv 0) T.c_Tree T.M_Tree_put (ZDV T) hr T.b_Tree_put .nil ZJ (ZA (qv 2) (ZA (qv 3) ZB))))))) Zi))))), ?_⟩
  walk_at "s"
  walk_at "w"
  refine Yg hp T.c_Tree T.n_Tree_looks (by show 0 < 1000; decide) fun H1 f1 K1 => ?_
  walk_at "w"
  refine ZGV fun d1 H2 n2 f2 S2 => ?_
  have hp2 := S2 _ _ f1
  have nd1 : d1 ≠ p := fun z => by rw [z, f1] at n2; cases n2
  walk_at "w"
  refine Yg hp2 T.c_Tree T.n_Tree_samples (by show 1 < 1000; decide) fun H3 f3 K3 => ?_
  have f23 := K3 _ _ f2 nd1
  walk_at "w"
  refine ZDq fun d2 H4 n4 f4 S4 => ?_
  have hp4 := S4 _ _ f3
  have nd2 : d2 ≠ p := fun z => by rw [z, f3] at n4; cases n4
  walk_at "w"
  refine Yg hp4 T.c_Tree T.n_Tree_kept_fours (by show 2 < 1000; decide) fun H5 f5 K5 => ?_
  have f5 : H5 p = some (.ins a.C_Tree dx (tfl 0 d1 d2)) := by rw [f5, ZPT]
  have K05 : Kp p H H5 := (((K1.then S2).trans K3).then S4).trans K5
  have f25 := K5 _ _ (S4 _ _ f23) nd1
  have f45 := K5 _ _ f4 nd2
  have hn1 : H d1 = none := by
   cases e : H d1 with
   | none => rfl
   | some o =>
    have := K1 _ _ e nd1
    rw [n2] at this
    cases this
  have hn2 : H d2 = none := by
   cases e : H d2 with
   | none => rfl
   | some o =>
    have := ((K1.then S2).trans K3) _ _ e nd2
    rw [n4] at this
    cases this
  have hT5 : Zp a.C_Tree H5 p 0 d1 d2 [] 0 := ⟨dx, [], f5, f25, f45, List.nodup_nil, fun l s hl _ => ⟨none, .non, .inl ⟨rfl, rfl⟩⟩, Nat.le_refl _⟩
  walk_at "w"
  rcases hx with ⟨rfl, rfl⟩ | ⟨t, rfl, hT⟩
  ·refine ZFs (fun h => absurd rfl h) (fun _ => ?_)
   walk_at "w"
   exact k d1 d2 [] H5 hn1 hn2 hT5 (fun q => Iff.rfl) (Nat.le_refl _) K05
  ·refine ZFs (fun _ => ?_) (fun h => by cases h)
   obtain ⟨us, g, hP⟩ := hT
   have ntp : ∀ {b : Addr} {xs : List V}, H b = some (.tup xs) → b ≠ p := fun e z => by rw [z, hp] at e; cases e
   have g5 := K05 _ _ g (ntp g)
   walk_at "w"
   refine ZEi (xs := us) (fun i σ H' => (∃ v2 v3, σ = [some (.ref p), some (.ref t), v2, v3]) ∧ Kp p H H' ∧ ∃ sm, Zp a.C_Tree H' p 0 d1 d2 sm i ∧ (∀ q, q ∈ sm ↔ q ∈ cv.take i) ∧ sm.length ≤ i) ?_ ?_ ?_ ?_
   ·exact ⟨⟨_, _, rfl⟩, K05, [], hT5, fun q => by rw [List.take_zero], Nat.le_refl _⟩
   ·rintro i σ H6 _ ⟨_, K6, _⟩
    exact SqT.of (K6 _ _ g (ntp g))
   ·rintro i x σ H6 hx ⟨⟨v2, v3, rfl⟩, K6, sm, hT6, hm6, hl6⟩
    obtain ⟨cc, q, rfl, hq, hc⟩ := hP.at hx
    have hc6 := K6 _ _ hc (ntp hc)
    obtain ⟨dx6, kv6, hp6, h16, h26, hnd6, hkf6, hlen6⟩ := id hT6
    have hi : i < cv.length := (List.getElem?_eq_some_iff.mp hq).1
    walk_at "w"
    refine Zf hp6 (ZBB (by decide +kernel) (by decide +kernel) (by decide +kernel)) ?_
    walk_at "w"
    refine ⟨p, d1, d2, 0, q.1, q.2, sm, i, rfl, hT6, htm q (List.mem_of_getElem? hq), by omega, by omega, fun H7 hT7 Fr7 => ?_⟩
    walk_at "w"
    refine ⟨⟨_, _, rfl⟩, fun b o e nb => Fr7 _ _ (K6 _ _ e nb) nb (fun z => by rw [z, hn1] at e; cases e) (fun z => by rw [z, hn2] at e; cases e), YO sm q.1 q.2, hT7, fun r => ?_, Nat.le_trans (ZCD _ _ _) (by omega)⟩
    rw [Yb hnd6, List.take_succ, hq, List.mem_append, hm6]
    have hne : ∀ r ∈ cv.take i, r.1 ≠ q.1 := fun r hr e => by
     obtain ⟨j, hj, rfl⟩ := List.getElem_of_mem hr
     rw [List.length_take] at hj
     rw [List.getElem_take] at e
     obtain ⟨z2, y2⟩ := List.getElem?_eq_some_iff.mp hq
     have : (cv.map (·.1))[j]'(by rw [List.length_map]; omega) = (cv.map (·.1))[i]'(by rw [List.length_map]; omega) := by
      rw [List.getElem_map, List.getElem_map, y2]
      exact e
     have := (List.getElem_inj hnd).mp this
     omega
    constructor
    ·rintro (h | h)
     ·exact .inl h.2
     ·exact .inr (by rw [h]; exact List.mem_cons_self)
    ·rintro (h | h)
     ·exact .inl ⟨hne r h, h⟩
     ·exact .inr (by simpa using h)
   ·rintro σ H6 ⟨⟨v2, v3, rfl⟩, K6, sm, hT6, hm6, hl6⟩
    rw [hP.length] at hT6 hm6 hl6
    rw [List.take_length] at hm6
    walk_at "w"
    exact k d1 d2 sm H6 hn1 hn2 hT6 hm6 hl6 K6
end
theorem Zp.kpX {C : Addr} {H H' : Hp} {p d1 d2 l : Addr} {n : Int} {sm : List (Int × Int)} {c : Nat} {xs : List V} (h : Zp C H p n d1 d2 sm c) (k : Kp l H H') (hl : H l = some (.lst xs)) : Zp C H' p n d1 d2 sm c := by
 obtain ⟨dx, kvs, h1, h2, h3, h4, h5, h6⟩ := h
 exact ⟨dx, kvs, k _ _ h1 (fun z => by rw [z, hl] at h1; cases h1), k _ _ h2 (fun z => by rw [z, hl] at h2; cases h2), k _ _ h3 (fun z => by rw [z, hl] at h3; cases h3), h4, h5.kpX k hl (fun _ z => by cases z), h6⟩
theorem Zp.fr {C : Addr} {H H' : Hp} {p d1 d2 p' d1' d2' : Addr} {n n' : Int} {sm sm' : List (Int × Int)} {c c' : Nat} (h : Zp C H p n d1 d2 sm c) (g : Zp C H p' n' d1' d2' sm' c') (f : Fr3 p' d1' d2' H H') (e0 : p ≠ p') (e1 : d1 ≠ d1') (e2 : d2 ≠ d2') : Zp C H' p n d1 d2 sm c := by
 obtain ⟨dx, kvs, h1, h2, h3, h4, h5, h6⟩ := h
 obtain ⟨dy, kws, g1, g2, g3, _⟩ := g
 refine ⟨dx, kvs, f _ _ h1 e0 (fun z => by rw [z, g2] at h1; cases h1) (fun z => by rw [z, g3] at h1; cases h1), f _ _ h2 (fun z => by rw [z, g1] at h2; cases h2) e1 (fun z => by rw [z, g3] at h2; cases h2), f _ _ h3 (fun z => by rw [z, g1] at h3; cases h3) (fun z => by rw [z, g2] at h3; cases h3) e2, h4, h5.tups fun b xs e => ?_, h6⟩
 exact f _ _ e (fun z => by rw [z, g1] at e; cases e) (fun z => by rw [z, g2] at e; cases e) (fun z => by rw [z, g3] at e; cases e)
theorem ZRZ {p d1 d2 : Addr} {H H' : Hp} (h : Kp p H H') : Fr3 p d1 d2 H H' := fun b o e e1 _ _ => h b o e e1
theorem Zp.keepT {C : Addr} {H H' : Hp} {p d1 d2 : Addr} {n : Int} {sm : List (Int × Int)} {c : Nat} (g : Zp C H p n d1 d2 sm c) (f : Fr3 p d1 d2 H H') {b : Addr} {xs : List V} (e : H b = some (.tup xs)) : H' b = some (.tup xs) := by
 obtain ⟨dy, kws, g1, g2, g3, _⟩ := g
 exact f _ _ e (fun z => by rw [z, g1] at e; cases e) (fun z => by rw [z, g2] at e; cases e) (fun z => by rw [z, g3] at e; cases e)
theorem Zp.keepL {C : Addr} {H H' : Hp} {p d1 d2 : Addr} {n : Int} {sm : List (Int × Int)} {c : Nat} (g : Zp C H p n d1 d2 sm c) (f : Fr3 p d1 d2 H H') {b : Addr} {xs : List V} (e : H b = some (.lst xs)) : H' b = some (.lst xs) := by
 obtain ⟨dy, kws, g1, g2, g3, _⟩ := g
 exact f _ _ e (fun z => by rw [z, g1] at e; cases e) (fun z => by rw [z, g2] at e; cases e) (fun z => by rw [z, g3] at e; cases e)
theorem Zp.keepP {C : Addr} {H H' : Hp} {p d1 d2 : Addr} {n : Int} {sm : List (Int × Int)} {c : Nat} (g : Zp C H p n d1 d2 sm c) (f : Fr3 p d1 d2 H H') {b : Addr} {cv : List (Int × Int)} (e : PrT H b cv) : PrT H' b cv := by
 obtain ⟨us, h1, h2⟩ := e
 exact ⟨us, g.keepT f h1, Paired.mapP h2 fun _ _ ⟨a, e, z⟩ => ⟨a, e, g.keepT f z⟩⟩
theorem Zp.nd {C : Addr} {H : Hp} {p d1 d2 : Addr} {n : Int} {sm : List (Int × Int)} {c : Nat} (g : Zp C H p n d1 d2 sm c) : (sm.map (·.1)).Nodup := by
 obtain ⟨dy, kws, g1, g2, g3, g4, _⟩ := g
 exact g4
section
variable {P : Program} {w : World} {K : PySem.W.Frag} {mg : Str → Option Value} {base : Heap} {a : Ad}
local macro_rules | `(tactic| walk_at "rd") => `(tactic| first
 | with_reducible refine Z3 (by assumption) (‹Txt _ _ _›).c_Tree (‹Txt _ _ _›).n_Tree_looks ZBQ ?_
 | with_reducible refine Z3 (by assumption) (‹Txt _ _ _›).c_Tree (‹Txt _ _ _›).n_Tree_samples ZAY ?_
 | with_reducible refine Z3 (by assumption) (‹Txt _ _ _›).c_Tree (‹Txt _ _ _›).n_Tree_kept_fours ZD1 ?_)
def ZPW (C : Addr) : Sp := fun vs H Q _ => ∃ (p d1 d2 : Addr) (n b e : Int) (sm : List (Int × Int)) (c : Nat), vs = [.ref p, .int b, .int e] ∧ Zp C H p n d1 d2 sm c ∧ InT b ∧ InT e ∧
 ∀ (v : V) (o : Option (List (Int × Int))) (prs : List (Int × Int)) (H' : Hp), Zr H' v o → Is4 (YH sm b e) o → Ch e b prs (ZC3 b e) → Zp C H' p (n + prs.length) d1 d2 sm c → Kp p H H' → Q v H'
theorem Ch.cut {e : Int} : ∀ {prs : List (Int × Int)} {x y : Int}, Ch e x prs y → ∀ {i : Nat} {q : Int × Int}, prs[i]? = some q → ∃ z, Ch e x (prs.take i) z ∧ (0 ≤ q.1 ∧ q.1 ≤ 40) ∧ q.2 * 2 ^ q.1.toNat = z ∧ Ch e x (prs.take (i + 1)) (z + 2 ^ q.1.toNat)
 | [], _, _, _, i, q, h => by simp at h
 | p :: r, x, y, hc, 0, q, h => by
  have : p = q := by simpa using h
  subst this
  obtain ⟨h1, h2, h3, h4, h5⟩ := hc
  exact ⟨x, rfl, h1, h2, h1, h2, h3, h4, rfl⟩
 | p :: r, x, y, hc, i + 1, q, h => by
  obtain ⟨h1, h2, h3, h4, h5⟩ := hc
  obtain ⟨z, g1, g2, g3, g4⟩ := Ch.cut h5 (i := i) (q := q) (by simpa using h)
  exact ⟨z, ⟨h1, h2, h3, h4, g1⟩, g2, g3, h1, h2, h3, h4, g4⟩
theorem Ch.fun {e : Int} : ∀ {prs : List (Int × Int)} {x y z : Int}, Ch e x prs y → Ch e x prs z → y = z
 | [], _, _, _, h, g => h.symm.trans g
 | p :: r, x, y, z, h, g => Ch.fun h.2.2.2.2 g.2.2.2.2
theorem Jd : ZP ["self", "begin", "end", "four", "parts", "stretch"] ["self", "begin", "end"] (ZF ZBe) := ⟨rfl, rfl, rfl, by decide +kernel, rfl, by decide +kernel, by decide +kernel⟩
theorem ZC4 (T : Txt K mg a) : ZQ P w K mg base CX0 5 a.f_Tree_four a.d_Tree_four ["self", "begin", "end"] (ZPW a.C_Tree) := by
 refine T.F_Tree_four.ok Jd (fun vs H Q E h => ?_) (fun cdv A outer s H vs Q E hr h => ?_)
 ·obtain ⟨p, d1, d2, n, b, e, sm, c, rfl, _⟩ := h
  rfl
 ·obtain ⟨p, d1, d2, n, b, e, sm, c, rfl, hTr, hb, he, k⟩ := h
  have hu := JE hr
  obtain ⟨dx, kvs, hp, h1, h2, hnd, hkf, hlen⟩ := id hTr
  refine ⟨_, QB.h (ZD (ZM (i := 3) Jd.nd rfl (by walk_at "o") YN) (ZD (ZM (i := 4) Jd.nd rfl (by walk_at "o") (ZG (ZG9 T) hr rfl T.m_stretches T.F_stretches.kp T.b_stretches .nil ZJ (ZA (qv 1) (ZA (qv 2) ZB)))) (ZD (JP PassesOwn.never rfl (ZGH K rfl (qv 4)) (ZO (i := 5) Jd.nd rfl (by walk_at "o")) (ZE (ZM (i := 3) Jd.nd rfl (by walk_at "o") (ZG (ZC2 T) (hr.mono (by decide)) rfl T.m_joined T.F_joined.kp T.b_joined .nil ZJ (ZA (qv 3) (ZA (ZA1 hu (Zl K rfl (qv 0)) (qv 5)) ZB)))))) (ZD (ZFD K rfl (qv 0) (Zo (ZBr K rfl) rfl T.z_len ZAc (ZA (qv 4) ZB))) (ZE (ZZ (qv 3))))))), ?_⟩
  walk_at "s"
  walk_at "w"
  refine ⟨b, e, rfl, hb, he, fun t prs H1 hT1 hch hpl S1 => ?_⟩
  obtain ⟨us, g1, hP1⟩ := hT1
  have hp1 := S1 _ _ hp
  walk_at "w"
  refine ZEi (xs := us) (fun i σ H' => (∃ v v5, σ = [some (.ref p), some (.int b), some (.int e), some v, some (.ref t), v5] ∧ ∃ o z, Zr H' v o ∧ Ch e b (prs.take i) z ∧ Is4 (YH sm b z) o) ∧ ZK H1 H') ?_ ?_ ?_ ?_
  ·refine ⟨⟨_, _, rfl, none, b, .non, rfl, .inl ⟨rfl, ?_⟩⟩, ZK.refl _⟩
   cases e0 : YH sm b b with
   | nil => rfl
   | cons q qs =>
    have := (YF.mp (show q ∈ YH sm b b by rw [e0]; exact List.mem_cons_self)).2
    omega
  ·rintro i σ H' _ ⟨_, S'⟩
   exact SqT.of (S' _ _ g1)
  ·rintro i x σ H2 hx ⟨⟨v, v5, rfl, o, z, hv, hz, ho⟩, S2⟩
   obtain ⟨cc, q, rfl, hq, hc⟩ := (hP1.same S2).at hx
   obtain ⟨z', hz', hq1, hq2, hz2⟩ := Ch.cut hch hq
   obtain rfl := Ch.fun hz hz'
   have S02 := S1.trans S2
   obtain ⟨l, hl⟩ : ∃ l : Nat, q.1 = (l : Int) := ⟨q.1.toNat, by omega⟩
   have hln : q.1.toNat = l := by omega
   rw [hln] at hq2 hz2
   have hp2 := S02 _ _ hp
   have h22 := S02 _ _ h2
   obtain ⟨o2, hf2, hi2⟩ := (hkf.same S02) l q.2 (by omega) trivial
   have e4 : inS sm l q.2 = YH sm z (z + 2 ^ l) := by unfold inS; rw [hq2]
   rw [e4] at hi2
   walk_at "w"
   refine ZCp h22 ?_
   walk_at "w"
   refine ZDo (k := kOf l q.2) h22 (by rw [hc, hl]; rfl) ?_
   refine ⟨v, _, o, o2, _, _, rfl, hv, ho, hf2, hi2, ZGt, fun v3 o3 H3 h3 g3 S3 => ?_⟩
   walk_at "w"
   refine ⟨⟨_, _, rfl, o3, z + 2 ^ l, h3, hz2, g3.congr fun r => ZEV hz.le (by have := Y5 l; omega) r⟩, S2.trans S3⟩
  ·rintro σ H2 ⟨⟨v, v5, rfl, o, z, hv, hz, ho⟩, S2⟩
   rw [hP1.length, List.take_length] at hz
   obtain rfl := Ch.fun hz hch
   have S02 := S1.trans S2
   have hp2 := S02 _ _ hp
   have g2 := S2 _ _ g1
   have hul : us.length = prs.length := hP1.length
   walk_at "w"
   refine ZET hp2 T.c_Tree T.n_Tree_looks ZBQ ?_
   walk_at "w"
   refine ⟨n, _, rfl, rfl, dx, _, hp2, by show 3 < 1000; decide, ?_⟩
   rw [ZPS]
   have f3 : (upd H2 p (.ins a.C_Tree dx (tfl (n + (us.length : Int)) d1 d2))) p = some (.ins a.C_Tree dx (tfl (n + (us.length : Int)) d1 d2)) := ZS
   have K3 : Kp p H2 (upd H2 p (.ins a.C_Tree dx (tfl (n + (us.length : Int)) d1 d2))) := Kp.upd
   generalize upd H2 p (.ins a.C_Tree dx (tfl (n + (us.length : Int)) d1 d2)) = H3 at f3 K3
   have ntp : ∀ (xs : List V), HO.ins a.C_Tree dx (tfl n d1 d2) ≠ .tup xs := fun xs z => by cases z
   walk_at "w"
   refine k v o prs H3 (hv.kpX K3 hp2 ntp) (ho.congr fun r => ?_) hch ⟨dx, kvs, by rw [← hul]; exact f3, K3 _ _ (S02 _ _ h1) (fun z => by rw [z, hp] at h1; cases h1), K3 _ _ (S02 _ _ h2) (fun z => by rw [z, hp] at h2; cases h2), hnd, (hkf.same S02).kpX K3 hp2 ntp, hlen⟩ ((Kp.same S02).trans K3)
   rw [YF, YF]
   unfold ZC3
   split
   ·exact Iff.rfl
   ·constructor
    ·rintro ⟨_, g1, g2⟩
     omega
    ·rintro ⟨_, g1, g2⟩
     omega
end
section
variable {P : Program} {w : World} {K : PySem.W.Frag} {mg : Str → Option Value} {base : Heap} {a : Ad}
local macro_rules | `(tactic| walk_at "rd") => `(tactic| first
 | with_reducible refine Z3 (by assumption) (‹Txt _ _ _›).c_Tree (‹Txt _ _ _›).n_Tree_looks ZBQ ?_
 | with_reducible refine Z3 (by assumption) (‹Txt _ _ _›).c_Tree (‹Txt _ _ _›).n_Tree_samples ZAY ?_
 | with_reducible refine Z3 (by assumption) (‹Txt _ _ _›).c_Tree (‹Txt _ _ _›).n_Tree_kept_fours ZD1 ?_)
def ZMy : Sp := fun vs H Q _ => ∃ (p : Addr) (b y m : Int), vs = [.ref p] ∧ H p = some (.tup [.int b, .int y, .int m]) ∧ 0 ≤ m ∧ m ≤ 1000 ∧ InT b ∧ InT (b + m * y) ∧ Q .non H
theorem YR : ZP ["window", "begin", "wide", "many"] ["window"] (ZF ZAR) := ⟨rfl, rfl, rfl, by decide +kernel, rfl, by decide +kernel, by decide +kernel⟩
theorem ZAF (T : Txt K mg a) : ZQ P w K mg base CX0 4 a.f_check_window a.d_check_window ["window"] ZMy := by
 refine T.F_check_window.ok YR (fun vs H Q E h => ?_) (fun cdv A outer s H vs Q E hr h => ?_)
 ·obtain ⟨p, b, y, m, rfl, _⟩ := h
  rfl
 ·obtain ⟨p, b, y, m, rfl, hp, h0, h1, hb, he, q⟩ := h
  refine ⟨_, QB.h (ZD (YZ (qv 0) (YS (n := 3) K rfl rfl (ZT (ZO (i := 1) YR.nd rfl (by walk_at "o")) (ZT (ZO (i := 2) YR.nd rfl (by walk_at "o")) (ZT (ZO (i := 3) YR.nd rfl (by walk_at "o")) YE))))) (ZE (Zc (ZG (ZBA T) hr rfl T.m_check_borders T.F_check_borders.kp T.b_check_borders .nil ZJ (ZA (qv 1) (ZA (ZL YC (qv 1) (ZL Zv (qv 3) (qv 2))) ZB)))))), ?_⟩
  walk_at "s"
  walk_at "w"
  refine ⟨b, b + m * y, rfl, hb, he, ?_⟩
  walk_at "w"
  exact q
def Yl (H : Hp) (q : Addr) (b y m : Int) : Prop := H q = some (.tup [.int b, .int y, .int m]) ∧ 0 < y ∧ 1 ≤ m ∧ m ≤ 100 ∧ InT b ∧ InT (b + m * y)
theorem Yl.col {H : Hp} {q : Addr} {b y m : Int} (h : Yl H q b y m) {k : Int} (h0 : 0 ≤ k) (h1 : k < m) : InT (b + k * y) ∧ InT (b + k * y + y) := by
 obtain ⟨_, hy, _, _, hb, he⟩ := h
 have g1 : 0 ≤ k * y := Int.mul_nonneg h0 (by omega)
 have g2 : (k + 1) * y ≤ m * y := Int.mul_le_mul_of_nonneg_right (by omega) (by omega)
 rw [Int.add_mul, Int.one_mul] at g2
 unfold InT at *
 constructor <;> constructor <;> omega
def ZMz (C : Addr) : Sp := fun vs H Q _ => ∃ (p q d1 d2 : Addr) (n b y m : Int) (sm : List (Int × Int)) (c : Nat), vs = [.ref p, .ref q] ∧ Zp C H p n d1 d2 sm c ∧ Yl H q b y m ∧
 ∀ (u : Addr) (us : List V) (fs : List (Option (List (Int × Int)))) (n' : Int) (H' : Hp), H' u = some (.tup us) → Z2 H' us fs → ZAe sm b y m.toNat fs → Zp C H' p n' d1 d2 sm c → Kp p H H' → Q (.ref u) H'
theorem ZFd : ZP ["self", "window"] ["self", "window"] (ZF ZAB) := ⟨rfl, rfl, rfl, by decide +kernel, rfl, by decide +kernel, by decide +kernel⟩
theorem ZPt (T : Txt K mg a) : ZQ P w K mg base CX0 6 a.f_Tree_fours a.d_Tree_fours ["self", "window"] (ZMz a.C_Tree) := by
 refine T.F_Tree_fours.ok ZFd (fun vs H Q E h => ?_) (fun cdv A outer s H vs Q E hr h => ?_)
 ·obtain ⟨p, q, d1, d2, n, b, y, m, sm, c, rfl, _⟩ := h
  rfl
 ·obtain ⟨p, q, d1, d2, n, b, y, m, sm, c, rfl, hTr, hW, k⟩ := h
  obtain ⟨hq, hy, hm1, hm2, hb, he⟩ := id hW
  refine ⟨_, QB.h (ZD (Zc (ZG (ZAF T) (hr.mono (by decide)) rfl T.m_check_window T.F_check_window.kp T.b_check_window .nil ZJ (ZA (qv 1) ZB))) (ZE (ZZ (Ji (ZAN K rfl) rfl T.z_tuple ZAI (ZA (Jj (N := ["self", "window"]) (sc := ZF ZAB) (own := ["first", "behind"]) (caps := ["self"]) (ks := [0]) rfl rfl rfl ⟨rfl, by decide +kernel, by decide +kernel, by decide +kernel, by decide +kernel, rfl, by decide +kernel⟩ (Y4 K rfl (ZG (ZAk T) (hr.mono (by decide)) rfl T.m_columns_of T.F_columns_of.kp T.b_columns_of .nil ZJ (ZA (qv 1) ZB))) (fun _ _ _ _ _ => YS (n := 2) K rfl rfl (ZT (ZO (i := 0) (show List.Nodup (α := Str) ["first", "behind", "self"] from by decide +kernel) rfl (by walk_at "o") (.inr rfl)) (ZT (ZO (i := 1) (show List.Nodup (α := Str) ["first", "behind", "self"] from by decide +kernel) rfl (by walk_at "o") (.inr rfl)) YE))) (fun _ _ _ _ _ => ZAM) (fun _ _ _ _ _ => Zw (qv 2) T.c_Tree T.M_Tree_four (ZC4 T) hr T.b_Tree_four .nil ZJ (ZA (qv 0) (ZA (qv 1) ZB)))) ZB))))), ?_⟩
  walk_at "s"
  walk_at "w"
  refine ⟨q, b, y, m, rfl, hq, by omega, by omega, hb, he, ?_⟩
  walk_at "w"
  refine ⟨q, b, y, m, rfl, hq, hm1, by omega, fun l0 us0 H1 n1 f1 hP1 S1 => ?_⟩
  have hT1 := hTr.same S1
  have np1 : ∀ {b : Addr} {xs : List V}, H1 b = some (.tup xs) → b ≠ p := fun e z => by
   obtain ⟨dy, kws, g1, _⟩ := hT1
   rw [z, g1] at e; cases e
  have nl1 : l0 ≠ p := fun z => by
   obtain ⟨dy, kws, g1, _⟩ := hT1
   rw [z, g1] at f1; cases f1
  walk_at "w"
  intro l n2
  have nlp : l ≠ p := fun z => by
   obtain ⟨dy, kws, g1, _⟩ := hT1
   rw [z, g1] at n2; cases n2
  refine Jh m.toNat (fun i σ' H' => (∃ o1 o2, σ' = [o1, o2, some (.ref p)]) ∧ Kp p H1 H' ∧ (∃ n', Zp a.C_Tree H' p n' d1 d2 sm c) ∧ ∃ vs fs, H' l = some (.lst vs) ∧ Z2 H' vs fs ∧ fs.length = i ∧ ∀ (k : Nat) o, fs[k]? = some o → Is4 (YH sm (b + (k : Int) * y) (b + (k : Int) * y + y)) o) ?_ ?_ ?_
  ·exact ⟨⟨none, none, rfl⟩, Kp.same (ZK.new n2), ⟨n, hT1.same (ZK.new n2)⟩, [], [], ZS, .nil, rfl, fun k o h => by simp at h⟩
  ·rintro σ' H2 ⟨_, K2, ⟨n', hT2⟩, vs, fs, f2, hF2, hfl, hO2⟩
   refine ⟨⟨_, SqL.of (K2 _ _ f1 nl1), by rw [hP1.length, ZAf]; exact Nat.le_refl _⟩, ?_⟩
   walk_at "w"
   refine ZAx (SqL.of f2) fun u H3 n3 f3 S3 => ?_
   exact k u vs fs n' H3 f3 (hF2.same S3) ⟨hfl, hO2⟩ (hT2.same S3) (((Kp.same S1).trans K2).then S3)
  ·rintro i σ' H2 hi ⟨⟨o1, o2, rfl⟩, K2, ⟨n', hT2⟩, vs, fs, f2, hF2, hfl, hO2⟩
   have hi2 : i < us0.length := by rw [hP1.length, ZAf]; exact hi
   have f12 := K2 _ _ f1 nl1
   refine ⟨⟨_, _, SqL.of f12, List.getElem?_eq_getElem hi2⟩, ?_⟩
   rintro x H'' ⟨rfl, hx⟩
   have hx := hx _ (SqL.of f12)
   obtain ⟨u, pr, rfl, hpr, f3⟩ := hP1.at hx
   have hpr := ZCT hpr
   subst hpr
   have f32 := K2 _ _ f3 (np1 f3)
   obtain ⟨w1, w2⟩ := hW.col (k := (i : Int)) (by omega) (by omega)
   obtain ⟨dx, kvs, hp2, _⟩ := id hT2
   walk_at "w"
   refine YJ ?_
   walk_at "w"
   refine Zf hp2 (ZBB (by decide +kernel) (by decide +kernel) (by decide +kernel)) ?_
   walk_at "w"
   refine ⟨p, d1, d2, n', _, _, sm, c, rfl, hT2, w1, w2, fun v o3 prs H3 h3 g3 _ hT3 K3 => ?_⟩
   have fl3 := K3 _ _ f2 nlp
   have hF3 : Z2 H3 vs fs := hF2.mapP fun _ _ d => d.kpX K3 hp2 (fun _ z => by cases z)
   refine ⟨vs, fl3, ?_, ⟨_, _, rfl⟩, ?_, ⟨_, hT3.kpX Kp.upd fl3⟩, vs ++ [v], fs ++ [o3], ZS, (hF3.snoc h3).mapP fun _ _ d => d.kpL Kp.upd fl3, by simp [hfl], ?_⟩
   ·rw [hF2.len, hfl]
    exact Nat.lt_of_lt_of_le (show i < 100 by omega) (by decide)
   ·intro b' o' e nb
    rw [Za (fun z => by rw [z, n2] at e; cases e)]
    exact (K2.trans K3) b' o' e nb
   ·intro k' o' h'
    rw [List.getElem?_append] at h'
    split at h'
    ·exact hO2 k' o' h'
    ·have : k' = i := by
      have := (List.getElem?_eq_some_iff.mp h').1
      simp at this
      omega
     subst this
     rw [hfl, Nat.sub_self] at h'
     have : o3 = o' := by simpa using h'
     subst this
     exact g3
end
def sfl (tr dd dn wt : Addr) : List (Str × V) := [("tree", V.ref tr), ("deeds", V.ref dd), ("done", V.ref dn), ("watches", V.ref wt)]
section
variable {tr dd dn wt : Addr}
theorem sg1 : (("deeds" : Str) == "tree") = false := by decide +kernel
theorem sg2 : (("done" : Str) == "tree") = false := by decide +kernel
theorem sg3 : (("done" : Str) == "deeds") = false := by decide +kernel
theorem sg4 : (("watches" : Str) == "tree") = false := by decide +kernel
theorem sg5 : (("watches" : Str) == "deeds") = false := by decide +kernel
theorem sg6 : (("watches" : Str) == "done") = false := by decide +kernel
theorem ZM0 : (sfl tr dd dn wt).lookup ("tree" : Str) = some (.ref tr) := by
 unfold sfl
 rw [List.lookup_cons, beq_self_eq_true]
theorem ZKu : (sfl tr dd dn wt).lookup ("deeds" : Str) = some (.ref dd) := by
 unfold sfl
 rw [List.lookup_cons, sg1, List.lookup_cons, beq_self_eq_true]
theorem ZM1 : (sfl tr dd dn wt).lookup ("done" : Str) = some (.ref dn) := by
 unfold sfl
 rw [List.lookup_cons, sg2, List.lookup_cons, sg3, List.lookup_cons, beq_self_eq_true]
theorem ZHf : (sfl tr dd dn wt).lookup ("watches" : Str) = some (.ref wt) := by
 unfold sfl
 rw [List.lookup_cons, sg4, List.lookup_cons, sg5, List.lookup_cons, sg6, List.lookup_cons, beq_self_eq_true]
theorem Jq {m : Str} (h1 : (m == ("tree" : Str)) = false) (h2 : (m == ("deeds" : Str)) = false) (h3 : (m == ("done" : Str)) = false) (h4 : (m == ("watches" : Str)) = false) : (sfl tr dd dn wt).lookup m = none := by
 unfold sfl
 rw [List.lookup_cons, h1, List.lookup_cons, h2, List.lookup_cons, h3, List.lookup_cons, h4]
 rfl
theorem ZPX : Zn "watches" (.ref wt) (Zn "done" (.ref dn) (Zn "deeds" (.ref dd) (Zn "tree" (.ref tr) []))) = sfl tr dd dn wt := by
 have e1 : ¬ ("tree" : Str) = "deeds" := by decide +kernel
 have e2 : ¬ ("tree" : Str) = "done" := by decide +kernel
 have e3 : ¬ ("deeds" : Str) = "done" := by decide +kernel
 have e4 : ¬ ("tree" : Str) = "watches" := by decide +kernel
 have e5 : ¬ ("deeds" : Str) = "watches" := by decide +kernel
 have e6 : ¬ ("done" : Str) = "watches" := by decide +kernel
 show Zn "watches" (.ref wt) (Zn "done" (.ref dn) (Zn "deeds" (.ref dd) [(("tree" : Str), V.ref tr)])) = _
 rw [show Zn "deeds" (.ref dd) [(("tree" : Str), V.ref tr)] = (if ("tree" : Str) = "deeds" then _ else (("tree" : Str), V.ref tr) :: Zn "deeds" (.ref dd) []) from rfl, if_neg e1]
 rw [show Zn "done" (.ref dn) ((("tree" : Str), V.ref tr) :: Zn "deeds" (.ref dd) []) = (if ("tree" : Str) = "done" then _ else (("tree" : Str), V.ref tr) :: (if ("deeds" : Str) = "done" then _ else (("deeds" : Str), V.ref dd) :: Zn "done" (.ref dn) [])) from rfl, if_neg e2, if_neg e3]
 show (if ("tree" : Str) = "watches" then _ else (("tree" : Str), V.ref tr) :: (if ("deeds" : Str) = "watches" then _ else (("deeds" : Str), V.ref dd) :: (if ("done" : Str) = "watches" then _ else (("done" : Str), V.ref dn) :: Zn "watches" (.ref wt) []))) = _
 rw [if_neg e4, if_neg e5, if_neg e6]
 rfl
theorem ZRa {n : Int} {d1 d2 : Addr} : sfl tr dd dn wt ≠ tfl n d1 d2 := fun h => by
 have := congrArg List.length h
 simp [sfl, tfl] at this
end
structure SA where
 p : Addr
 tr : Addr
 d1 : Addr
 d2 : Addr
 dd : Addr
 dn : Addr
 wt : Addr
def SA.ls (S : SA) : List Addr := [S.dd, S.dn, S.wt]
def SA.own (S : SA) : List Addr := [S.tr, S.d1, S.d2, S.dd, S.dn, S.wt]
def ZAU : Option Int → V
 | none => .non
 | some i => .int i
theorem ZHA (o : Option Int) : (o.map V.int).getD .non = ZAU o := by cases o <;> rfl
def Zx (H : Hp) (vs : List V) (ds : List (Int × Option Int)) : Prop := Paired (fun v (q : Int × Option Int) => ∃ b, v = .ref b ∧ H b = some (.tup [.int q.1, ZAU q.2])) vs ds
theorem Zx.tups {H H' : Hp} {vs : List V} {ds : List (Int × Option Int)} (h : Zx H vs ds) (t : ∀ b xs, H b = some (.tup xs) → H' b = some (.tup xs)) : Zx H' vs ds := Paired.mapP h fun _ _ ⟨b, e, z⟩ => ⟨b, e, t _ _ z⟩
theorem Zx.snoc {H : Hp} : ∀ {vs : List V} {ds : List (Int × Option Int)}, Zx H vs ds → ∀ {b : Addr} {q : Int × Option Int}, H b = some (.tup [.int q.1, ZAU q.2]) → Zx H (vs ++ [.ref b]) (ds ++ [q])
 | _, _, .nil, _, _, e => .cons ⟨_, rfl, e⟩ .nil
 | _, _, .cons h t, _, _, e => .cons h (Zx.snoc t e)
theorem Zx.unsnoc {H : Hp} {q : Int × Option Int} : ∀ {ds : List (Int × Option Int)} {vs : List V}, Zx H vs (ds ++ [q]) → ∃ us b, vs = us ++ [.ref b] ∧ Zx H us ds ∧ H b = some (.tup [.int q.1, ZAU q.2])
 | [], _, h => by
  cases h with
  | cons h t =>
   cases t
   obtain ⟨b, rfl, e⟩ := h
   exact ⟨[], b, rfl, .nil, e⟩
 | d :: ds, _, h => by
  cases h with
  | cons h t =>
   obtain ⟨us, b, e1, e2, e3⟩ := Zx.unsnoc t
   subst e1
   exact ⟨_ :: us, b, rfl, .cons h e2, e3⟩
theorem Zx.nil_of {H : Hp} {vs : List V} (h : Zx H vs []) : vs = [] := by cases h; rfl
theorem Zx.len {H : Hp} {vs : List V} {ds : List (Int × Option Int)} (h : Zx H vs ds) : vs.length = ds.length := Paired.length h
def ZH (a : Ad) (H : Hp) (S : SA) (n : Int) (sm : List (Int × Int)) (c : Nat) (ds : List (Int × Option Int)) (ts : List Int) (ws : List V) : Prop :=
 ∃ dx vs, H S.p = some (.ins a.C_Store dx (sfl S.tr S.dd S.dn S.wt)) ∧ Zp a.C_Tree H S.tr n S.d1 S.d2 sm c ∧ H S.dd = some (.lst vs) ∧ Zx H vs ds ∧ H S.dn = some (.lst (ts.map V.int)) ∧ H S.wt = some (.lst ws) ∧ S.dd ≠ S.dn ∧ S.dd ≠ S.wt ∧ S.dn ≠ S.wt
def FrS (S : SA) (H H' : Hp) : Prop := ∀ b o, H b = some o → b ∉ S.own → H' b = some o
theorem FrS.trans {S : SA} {H H1 H2 : Hp} (h : FrS S H H1) (g : FrS S H1 H2) : FrS S H H2 := fun b o e n => g b o (h b o e n) n
theorem FrS.same {S : SA} {H H' : Hp} (h : ZK H H') : FrS S H H' := fun b o e _ => h b o e
theorem FrS.kp {S : SA} {H H' : Hp} {q : Addr} (h : Kp q H H') (m : q ∈ S.own) : FrS S H H' := fun b o e n => h b o e fun z => n (z ▸ m)
theorem FrS.fr3 {S : SA} {H H' : Hp} (h : Fr3 S.tr S.d1 S.d2 H H') : FrS S H H' := fun b o e n => h b o e (fun z => n (by simp [SA.own, z])) (fun z => n (by simp [SA.own, z])) (fun z => n (by simp [SA.own, z]))
section
variable {a : Ad} {H H' : Hp} {S : SA} {n : Int} {sm : List (Int × Int)} {c : Nat} {ds : List (Int × Option Int)} {ts : List Int} {ws : List V}
theorem ZH.tree (h : ZH a H S n sm c ds ts ws) : Zp a.C_Tree H S.tr n S.d1 S.d2 sm c := let ⟨_, _, _, h, _⟩ := h; h
theorem ZH.nd (h : ZH a H S n sm c ds ts ws) : (sm.map (·.1)).Nodup := h.tree.nd
theorem ZH.same (h : ZH a H S n sm c ds ts ws) (s : ZK H H') : ZH a H' S n sm c ds ts ws := by
 obtain ⟨dx, vs, h1, h2, h3, h4, h5, h6, h7⟩ := h
 exact ⟨dx, vs, s _ _ h1, h2.same s, s _ _ h3, h4.tups fun b xs e => s _ _ e, s _ _ h5, s _ _ h6, h7⟩
theorem ZH.nown (h : ZH a H S n sm c ds ts ws) {b : Addr} {o : HO} (e : H b = some o) (h1 : ∀ C dx fs, o ≠ .ins C dx fs) (h2 : (∃ m, o = .dK m) → b ≠ S.d1) (h3 : ∀ m, o ≠ .dT m) (h4 : (∃ m, o = .lst m) → b ∉ S.ls) : b ∉ S.own := by
 obtain ⟨dx, vs, g1, ⟨dy, kvs, t1, t2, t3, _⟩, g3, g4, g5, g6, _⟩ := h
 intro z
 simp only [SA.own, List.mem_cons, List.not_mem_nil, or_false] at z
 rcases z with z | z | z | z | z | z
 ·rw [z, t1] at e; exact h1 _ _ _ (Option.some.inj e).symm
 ·exact h2 ⟨_, (by rw [z, t2] at e; exact (Option.some.inj e).symm)⟩ z
 ·rw [z, t3] at e; exact h3 _ (Option.some.inj e).symm
 ·exact h4 ⟨_, (by rw [z, g3] at e; exact (Option.some.inj e).symm)⟩ (by simp [SA.ls, z])
 ·exact h4 ⟨_, (by rw [z, g5] at e; exact (Option.some.inj e).symm)⟩ (by simp [SA.ls, z])
 ·exact h4 ⟨_, (by rw [z, g6] at e; exact (Option.some.inj e).symm)⟩ (by simp [SA.ls, z])
theorem ZH.keepT (h : ZH a H S n sm c ds ts ws) (f : FrS S H H') {b : Addr} {xs : List V} (e : H b = some (.tup xs)) : H' b = some (.tup xs) :=
 f _ _ e (h.nown e (fun _ _ _ z => by cases z) (fun ⟨_, z⟩ => by cases z) (fun _ z => by cases z) (fun ⟨_, z⟩ => by cases z))
theorem ZH.keepL (h : ZH a H S n sm c ds ts ws) (f : FrS S H H') {b : Addr} {xs : List V} (e : H b = some (.lst xs)) (nb : b ∉ S.ls) : H' b = some (.lst xs) :=
 f _ _ e (h.nown e (fun _ _ _ z => by cases z) (fun ⟨_, z⟩ => by cases z) (fun _ z => by cases z) fun _ => nb)
theorem ZH.keepD (h : ZH a H S n sm c ds ts ws) (f : FrS S H H') {b : Addr} {m : List (Key × V)} (e : H b = some (.dK m)) (nb : b ≠ S.d1) : H' b = some (.dK m) :=
 f _ _ e (h.nown e (fun _ _ _ z => by cases z) (fun _ => nb) (fun _ z => by cases z) (fun ⟨_, z⟩ => by cases z))
theorem ZH.keepP (h : ZH a H S n sm c ds ts ws) (f : FrS S H H') {b : Addr} {cv : List (Int × Int)} (e : PrT H b cv) : PrT H' b cv := by
 obtain ⟨us, h1, h2⟩ := e
 exact ⟨us, h.keepT f h1, Paired.mapP h2 fun _ _ ⟨a, e, z⟩ => ⟨a, e, h.keepT f z⟩⟩
theorem ZH.keepPot (h : ZH a H S n sm c ds ts ws) (f : FrS S H H') {q : Addr} (e : Pot H q) (nb : q ∉ S.ls) : Pot H' q := by
 obtain ⟨u, v, e, z⟩ := e
 exact ⟨u, v, h.keepL f e nb, z⟩
theorem ZH.keepSq {K : PySem.W.Frag} (h : ZH a H S n sm c ds ts ws) (f : FrS S H H') {s : Addr} {xs : List V} (e : SqL K H s xs) (nb : s ∉ S.ls) : SqL K H' s xs := by
 rcases e with (e | ⟨o, e⟩) | e
 ·exact .inl (.inl (h.keepL f e nb))
 ·exact .inl (.inr ⟨o, f _ _ e (h.nown e (fun _ _ _ z => by cases z) (fun ⟨_, z⟩ => by cases z) (fun _ z => by cases z) (fun ⟨_, z⟩ => by cases z))⟩)
 ·exact .inr e
theorem ZH.kpL (h : ZH a H S n sm c ds ts ws) {q : Addr} {xs : List V} (k : Kp q H H') (hq : H q = some (.lst xs)) (nq : q ∉ S.ls) : ZH a H' S n sm c ds ts ws := by
 obtain ⟨dx, vs, h1, h2, h3, h4, h5, h6, h7⟩ := h
 simp only [SA.ls, List.mem_cons, List.not_mem_nil, or_false, not_or] at nq
 exact ⟨dx, vs, k _ _ h1 (fun z => by rw [z, hq] at h1; cases h1), h2.kpX k hq, k _ _ h3 (Ne.symm nq.1), h4.tups (fun b xs e => k _ _ e (fun z => by rw [z, hq] at e; cases e)), k _ _ h5 (Ne.symm nq.2.1), k _ _ h6 (Ne.symm nq.2.2), h7⟩
theorem ZH.pot (h : ZH a H S n sm c ds ts ws) {q : Addr} (hp : Pot H q) (k : Kp q H H') (nq : q ∉ S.ls) : ZH a H' S n sm c ds ts ws := by
 obtain ⟨u, v, e, _⟩ := hp
 exact h.kpL k e nq
theorem ZH.kpD (h : ZH a H S n sm c ds ts ws) {q : Addr} {m : List (Key × V)} (k : Kp q H H') (hq : H q = some (.dK m)) (nq : q ≠ S.d1) : ZH a H' S n sm c ds ts ws := by
 obtain ⟨dx, vs, h1, ⟨dy, kvs, t1, t2, t3, t4, t5, t6⟩, h3, h4, h5, h6, h7⟩ := h
 refine ⟨dx, vs, k _ _ h1 (fun z => by rw [z, hq] at h1; cases h1), ⟨dy, kvs, k _ _ t1 (fun z => by rw [z, hq] at t1; cases t1), k _ _ t2 (Ne.symm nq), k _ _ t3 (fun z => by rw [z, hq] at t3; cases t3), t4, t5.kpX k hq (fun _ z => by cases z), t6⟩, k _ _ h3 (fun z => by rw [z, hq] at h3; cases h3), h4.tups (fun b xs e => k _ _ e (fun z => by rw [z, hq] at e; cases e)), k _ _ h5 (fun z => by rw [z, hq] at h5; cases h5), k _ _ h6 (fun z => by rw [z, hq] at h6; cases h6), h7⟩
theorem ZH.fresh (h : ZH a H S n sm c ds ts ws) {q : Addr} (hq : H q = none) : q ∉ S.ls ∧ q ≠ S.d1 := by
 obtain ⟨dx, vs, h1, ⟨dy, kvs, t1, t2, t3, t4, t5, t6⟩, h3, h4, h5, h6, h7⟩ := h
 refine ⟨fun z => ?_, fun z => by rw [z, t2] at hq; cases hq⟩
 simp only [SA.ls, List.mem_cons, List.not_mem_nil, or_false] at z
 rcases z with z | z | z
 ·rw [z, h3] at hq; cases hq
 ·rw [z, h5] at hq; cases hq
 ·rw [z, h6] at hq; cases hq
theorem ZH.fr3 (h : ZH a H S n sm c ds ts ws) {n' : Int} {sm' : List (Int × Int)} {c' : Nat} (f : Fr3 S.tr S.d1 S.d2 H H') (t : Zp a.C_Tree H' S.tr n' S.d1 S.d2 sm' c') : ZH a H' S n' sm' c' ds ts ws := by
 obtain ⟨dx, vs, h1, h2, h3, h4, h5, h6, h7⟩ := h
 refine ⟨dx, vs, ?_, t, h2.keepL f h3, h4.tups (fun b xs e => h2.keepT f e), h2.keepL f h5, h2.keepL f h6, h7⟩
 obtain ⟨dy, kvs, t1, t2, t3, _⟩ := h2
 exact f _ _ h1 (fun z => by rw [z, t1] at h1; injection h1 with h1; injection h1 with _ _ h3; exact ZRa h3.symm) (fun z => by rw [z, t2] at h1; cases h1) (fun z => by rw [z, t3] at h1; cases h1)
theorem ZH.kpDone (h : ZH a H S n sm c ds ts ws) {ts' : List Int} (k : Kp S.dn H H') (f : H' S.dn = some (.lst (ts'.map V.int))) : ZH a H' S n sm c ds ts' ws := by
 obtain ⟨dx, vs, h1, h2, h3, h4, h5, h6, h7, h8, h9⟩ := h
 exact ⟨dx, vs, k _ _ h1 (fun z => by rw [z, h5] at h1; cases h1), h2.kpX k h5, k _ _ h3 h7, h4.tups (fun b xs e => k _ _ e (fun z => by rw [z, h5] at e; cases e)), f, k _ _ h6 (Ne.symm h9), h7, h8, h9⟩
theorem ZH.kpDeeds (h : ZH a H S n sm c ds ts ws) {ds' : List (Int × Option Int)} {vs' : List V} (k : Kp S.dd H H') (f : H' S.dd = some (.lst vs')) (g : Zx H' vs' ds') : ZH a H' S n sm c ds' ts ws := by
 obtain ⟨dx, vs, h1, h2, h3, h4, h5, h6, h7, h8, h9⟩ := h
 exact ⟨dx, vs', k _ _ h1 (fun z => by rw [z, h3] at h1; cases h1), h2.kpX k h3, f, g, k _ _ h5 (Ne.symm h7), k _ _ h6 (Ne.symm h8), h7, h8, h9⟩
end
def Z7 (m : List (Int × Int)) (t : Int) : Option Int → List (Int × Int)
 | none => YU m t
 | some h => YO m t h
theorem ZSK (m : List (Int × Int)) (t : Int) (o : Option Int) : (Z7 m t o).length ≤ m.length + 1 := by
 cases o with
 | none => exact Nat.le_succ_of_le (ZBN m t)
 | some h => exact ZCD m t h
section
variable {P : Program} {w : World} {K : PySem.W.Frag} {mg : Str → Option Value} {base : Heap} {a : Ad}
local macro_rules | `(tactic| walk_at "rd") => `(tactic| first
 | with_reducible refine Z3 (by assumption) (‹Txt _ _ _›).c_Tree (‹Txt _ _ _›).n_Tree_samples ZAY ?_
 | with_reducible refine Z3 (by assumption) (‹Txt _ _ _›).c_Store (‹Txt _ _ _›).n_Store_tree ZM0 ?_
 | with_reducible refine Z3 (by assumption) (‹Txt _ _ _›).c_Store (‹Txt _ _ _›).n_Store_deeds ZKu ?_
 | with_reducible refine Z3 (by assumption) (‹Txt _ _ _›).c_Store (‹Txt _ _ _›).n_Store_done ZM1 ?_
 | with_reducible refine Z3 (by assumption) (‹Txt _ _ _›).c_Store (‹Txt _ _ _›).n_Store_watches ZHf ?_)
def ZPY (C : Addr) : Sp := fun vs H Q _ => ∃ (p d1 d2 : Addr) (n t v : Int) (sm : List (Int × Int)) (c : Nat), vs = [.ref p, .int t] ∧ Zp C H p n d1 d2 sm c ∧ Ze sm t = some v ∧ c ≤ 1000 ∧
 ∀ H', Zp C H' p n d1 d2 (YU sm t) (c + 1) → Fr3 p d1 d2 H H' → Q .non H'
theorem ZHB : ZP ["self", "t"] ["self", "t"] (ZF ZBd) := ⟨rfl, rfl, rfl, by decide +kernel, rfl, by decide +kernel, by decide +kernel⟩
theorem ZHC (T : Txt K mg a) : ZQ P w K mg base CX0 4 a.f_Tree_take a.d_Tree_take ["self", "t"] (ZPY a.C_Tree) := by
 refine T.F_Tree_take.ok ZHB (fun vs H Q E h => ?_) (fun cdv A outer s H vs Q E hr h => ?_)
 ·obtain ⟨p, d1, d2, n, t, v, sm, c, rfl, _⟩ := h
  rfl
 ·obtain ⟨p, d1, d2, n, t, v, sm, c, rfl, ⟨dx, kvs, hp, h1, h2, hnd, hkf, hlen⟩, hg, hc, k⟩ := h
  have np1 : p ≠ d1 := fun z => by subst z; rw [hp] at h1; cases h1
  have n21 : d2 ≠ d1 := fun z => by subst z; rw [h1] at h2; cases h2
  refine ⟨_, QB.h (ZD (Zc (ZMZ (Zl K rfl (qv 0)) (qv 1))) (ZE (Zc (Zw (qv 0) T.c_Tree T.M_Tree_renew (ZCe T) hr T.b_Tree_renew .nil ZJ (ZA (qv 1) (ZA YN ZB)))))), ?_⟩
  walk_at "s"
  walk_at "w"
  refine ZMc h1 ?_
  walk_at "w"
  refine ZMd h1 hg fun H3 f3 K3 => ?_
  have hp3 := K3 _ _ hp np1
  have h23 := K3 _ _ h2 n21
  have hk3 : Yk H3 kvs (YU sm t) (fun l s => s ≠ t / 2 ^ l) := (Yk.other hkf fun q hq => by
   rw [Ys]
   exact ⟨fun z => ⟨hq, z⟩, fun z => z.2⟩).kpX K3 h1 (fun xs z => by cases z)
  walk_at "w"
  refine Zf hp3 (ZBB (by decide +kernel) (by decide +kernel) (by decide +kernel)) ?_
  walk_at "w"
  refine ⟨p, d1, d2, dx, n, t, .non, none, YU sm t, kvs, c, rfl, hp3, f3, h23, Yz hnd, hk3, hlen, hc, .non, .inl ⟨rfl, ?_⟩, fun H7 hT7 K7 => ?_⟩
  ·cases e : inS (YU sm t) 0 t with
   | nil => rfl
   | cons q qs =>
    have hq : q ∈ inS (YU sm t) 0 t := by rw [e]; exact List.mem_cons_self
    rw [Jk, Ys] at hq
    simp only [Int.pow_zero, Int.ediv_one] at hq
    exact absurd hq.2 hq.1.1
  ·walk_at "w"
   exact k H7 hT7 fun b o e e1 e2 e3 => K7 _ _ (K3 _ _ e e2) e3
def ZPZ (a : Ad) : Sp := fun vs H Q _ => ∃ (p dx : Addr) (x : V) (cv : List (Int × Int)), vs = [.ref p, x] ∧ H p = some (.ins a.C_Store dx []) ∧ ((x = .non ∧ cv = []) ∨ ∃ t, x = .ref t ∧ PrT H t cv) ∧ (cv.map (·.1)).Nodup ∧ (∀ q ∈ cv, Tm q.1) ∧ cv.length ≤ 100 ∧
 ∀ (S : SA) (sm : List (Int × Int)) (H' : Hp), S.p = p → (∀ b ∈ S.own, H b = none) → ZH a H' S 0 sm cv.length [] [] [] → (∀ q, q ∈ sm ↔ q ∈ cv) → sm.length ≤ cv.length → Kp p H H' → Q .non H'
theorem ZDM : ZP ["self", "curve"] ["self", "curve"] (ZF YB) := ⟨rfl, rfl, rfl, by decide +kernel, rfl, by decide +kernel, by decide +kernel⟩
theorem ZDN (T : Txt K mg a) : ZQ P w K mg base CX0 7 a.f_Store___init__ a.d_Store___init__ ["self", "curve"] (ZPZ a) := by
 refine T.F_Store___init__.ok ZDM (fun vs H Q E h => ?_) (fun cdv A outer s H vs Q E hr h => ?_)
 ·obtain ⟨p, dx, x, cv, rfl, _⟩ := h
  rfl
 ·obtain ⟨p, dx, x, cv, rfl, hp, hx, hnd, htm, hlen, k⟩ := h
  refine ⟨_, QB.h (ZD (Yu K rfl (qv 0) (ZDH T.Mk_Tree (ZD2 T) hr rfl T.m_Tree T.b_Tree___init__ .nil ZJ (ZA (qv 1) ZB))) (ZD (Yu K rfl (qv 0) (Yd ZB)) (ZD (Yu K rfl (qv 0) (Yd ZB)) (ZE (Yu K rfl (qv 0) (Yd ZB)))))), ?_⟩
  walk_at "s"
  walk_at "w"
  refine ZDI fun tr dt H1 n1 f1 S1 => ?_
  refine ⟨tr, dt, x, cv, rfl, f1, ?_, hnd, htm, hlen, fun d1 d2 sm H2 m1 m2 hT2 hm hl K2 => ⟨rfl, ?_⟩⟩
  ·rcases hx with h | ⟨t, h1, h2⟩
   ·exact .inl h
   ·exact .inr ⟨t, h1, h2.same S1⟩
  have S02 : ZK H H2 := fun b o e => K2 _ _ (S1 _ _ e) (ZY e n1)
  have hp2 := S02 _ _ hp
  have nt : tr ≠ p := fun z => by rw [z, hp] at n1; cases n1
  have free : ∀ {b : Addr}, H1 b = none → H b = none := fun {b} e => by
   cases e2 : H b with
   | none => rfl
   | some o => rw [S1 _ _ e2] at e; cases e
  have free2 : ∀ {b : Addr}, H2 b = none → H b = none := fun {b} e => by
   cases e2 : H b with
   | none => rfl
   | some o => rw [S02 _ _ e2] at e; cases e
  walk_at "w"
  refine Yg hp2 T.c_Store T.n_Store_tree (by show 0 < 1000; decide) fun H3 f3 K3 => ?_
  walk_at "w"
  refine ZR (by show 0 ≤ sizeLine; decide) fun dd H4 n4 f4 S4 => ?_
  have np4 : dd ≠ p := fun z => by rw [z, f3] at n4; cases n4
  walk_at "w"
  refine Yg (S4 _ _ f3) T.c_Store T.n_Store_deeds (by show 1 < 1000; decide) fun H5 f5 K5 => ?_
  walk_at "w"
  refine ZR (by show 0 ≤ sizeLine; decide) fun dn H6 n6 f6 S6 => ?_
  have np6 : dn ≠ p := fun z => by rw [z, f5] at n6; cases n6
  walk_at "w"
  refine Yg (S6 _ _ f5) T.c_Store T.n_Store_done (by show 2 < 1000; decide) fun H7 f7 K7 => ?_
  walk_at "w"
  refine ZR (by show 0 ≤ sizeLine; decide) fun wt H8 n8 f8 S8 => ?_
  have np8 : wt ≠ p := fun z => by rw [z, f7] at n8; cases n8
  walk_at "w"
  refine Yg (S8 _ _ f7) T.c_Store T.n_Store_watches (by show 3 < 1000; decide) fun H9 f9 K9 => ?_
  rw [ZPX] at f9
  have K29 : Kp p H2 H9 := (((((K3.then S4).trans K5).then S6).trans K7).then S8).trans K9
  have K24 : Kp p H2 H5 := (K3.then S4).trans K5
  have K26 : Kp p H2 H7 := (K24.then S6).trans K7
  have g4 : H9 dd = some (.lst []) := K9 _ _ (S8 _ _ (K7 _ _ (S6 _ _ (K5 _ _ f4 np4)) np4)) np4
  have g6 : H9 dn = some (.lst []) := K9 _ _ (S8 _ _ (K7 _ _ f6 np6)) np6
  have g8 : H9 wt = some (.lst []) := K9 _ _ f8 np8
  have e46 : dd ≠ dn := fun z => by rw [← z, K5 _ _ f4 np4] at n6; cases n6
  have e48 : dd ≠ wt := fun z => by rw [← z, K7 _ _ (S6 _ _ (K5 _ _ f4 np4)) np4] at n8; cases n8
  have e68 : dn ≠ wt := fun z => by rw [← z, K7 _ _ f6 np6] at n8; cases n8
  have hT9 : Zp a.C_Tree H9 tr 0 d1 d2 sm cv.length := by
   obtain ⟨dy, kvs, t1, t2, t3, t4, t5, t6⟩ := hT2
   have nt2 : ∀ {b : Addr} {xs : List V}, H2 b = some (.tup xs) → H9 b = some (.tup xs) := fun e => K29 _ _ e (fun z => by rw [z, hp2] at e; cases e)
   exact ⟨dy, kvs, K29 _ _ t1 nt, K29 _ _ t2 (fun z => by rw [z, hp2] at t2; cases t2), K29 _ _ t3 (fun z => by rw [z, hp2] at t3; cases t3), t4, t5.tups (fun b xs e => nt2 e), t6⟩
  have fr4 : H dd = none := by
   cases e : H dd with
   | none => rfl
   | some o => rw [K3 _ _ (S02 _ _ e) np4] at n4; cases n4
  have fr6 : H dn = none := by
   cases e : H dn with
   | none => rfl
   | some o => rw [K24 _ _ (S02 _ _ e) np6] at n6; cases n6
  have fr8 : H wt = none := by
   cases e : H wt with
   | none => rfl
   | some o => rw [K26 _ _ (S02 _ _ e) np8] at n8; cases n8
  walk_at "w"
  refine k ⟨p, tr, d1, d2, dd, dn, wt⟩ sm H9 rfl (fun b hb => ?_) ⟨dx, [], f9, hT9, g4, .nil, g6, g8, e46, e48, e68⟩ hm hl ((Kp.same S02).trans K29)
  simp only [SA.own, List.mem_cons, List.not_mem_nil, or_false] at hb
  rcases hb with rfl | rfl | rfl | rfl | rfl | rfl
  ·exact n1
  ·exact free m1
  ·exact free m2
  ·exact fr4
  ·exact fr6
  ·exact fr8
def ZM2 (a : Ad) : Sp := fun vs H Q _ => ∃ (S : SA) (n t : Int) (o : Option Int) (sm : List (Int × Int)) (c : Nat) (ds : List (Int × Option Int)) (ts : List Int) (ws : List V), vs = [.ref S.p, .int t, ZAU o] ∧ ZH a H S n sm c ds ts ws ∧
 Tm t ∧ (o = none → (Ze sm t).isSome = true) ∧ c ≤ 900 ∧ sm.length ≤ 900 ∧ ts.length ≤ 900 ∧
 ∀ H', ZH a H' S n (Z7 sm t o) (c + 1) ds (ts ++ [t]) ws → FrS S H H' → Q .non H'
theorem ZEw : ZP ["self", "t", "h"] ["self", "t", "h"] (ZF ZAi) := ⟨rfl, rfl, rfl, by decide +kernel, rfl, by decide +kernel, by decide +kernel⟩
theorem ZBx (T : Txt K mg a) : ZQ P w K mg base CX0 5 a.f_Store_bring a.d_Store_bring ["self", "t", "h"] (ZM2 a) := by
 refine T.F_Store_bring.ok ZEw (fun vs H Q E h => ?_) (fun cdv A outer s H vs Q E hr h => ?_)
 ·obtain ⟨S, n, t, o, sm, c, ds, ts, ws, rfl, _⟩ := h
  rfl
 ·obtain ⟨S, n, t, o, sm, c, ds, ts, ws, rfl, hS, ht, ho, hc, hsl, htl, k⟩ := h
  refine ⟨_, QB.h (ZD (Zk (ZW (ZBm) (qv 2) YN (Zb _)) (ZE (Zc (Zw (Zl K rfl (qv 0)) T.c_Tree T.M_Tree_take (ZHC T) hr T.b_Tree_take .nil ZJ (ZA (qv 1) ZB)))) (ZE (Zc (Zw (Zl K rfl (qv 0)) T.c_Tree T.M_Tree_put (ZDV T) hr T.b_Tree_put .nil ZJ (ZA (qv 1) (ZA (qv 2) ZB)))))) (ZE (Zc (ZCA PySem.F.plainAttrs_list PySem.F.slot_list_append PySem.F.type_list_append JA (Zl K rfl (qv 0)) (ZA (qv 1) ZB))))), ?_⟩
  walk_at "s"
  have fin : ∀ H1, Zp a.C_Tree H1 S.tr n S.d1 S.d2 (Z7 sm t o) (c + 1) → Fr3 S.tr S.d1 S.d2 H H1 → ZH a H1 S n (Z7 sm t o) (c + 1) ds ts ws := fun H1 hT F => hS.fr3 F hT
  obtain ⟨dx, vs, hp, hT, _⟩ := id hS
  obtain ⟨dy, kvs, hq, _⟩ := id hT
  walk_at "w"
  cases o with
  | none =>
   obtain ⟨v, hv⟩ := Option.isSome_iff_exists.mp (ho rfl)
   refine Zu (fun _ => ?_) (fun h => absurd rfl h)
   walk_at "w"
   refine Zf hq (ZBB (by decide +kernel) (by decide +kernel) (by decide +kernel)) ?_
   walk_at "w"
   refine ⟨S.tr, S.d1, S.d2, n, t, v, sm, c, rfl, hT, hv, by omega, fun H1 hT1 F1 => ?_⟩
   have hS1 := fin H1 hT1 F1
   obtain ⟨dx1, vs1, hp1, hT1', hd1, hD1, hn1, hw1, hne⟩ := id hS1
   walk_at "w"
   refine ⟨tyL hn1, ?_⟩
   walk_at "w"
   refine JC hn1 (by rw [List.length_map]; exact Nat.lt_of_le_of_lt htl (by decide)) fun H2 f2 K2 => ?_
   walk_at "w"
   exact k H2 (hS1.kpDone K2 (by rw [List.map_append]; exact f2)) ((FrS.fr3 F1).trans (.kp K2 (by simp [SA.own])))
  | some h =>
   refine Zu (fun h => by simp [ZAU] at h) (fun _ => ?_)
   walk_at "w"
   refine Zf hq (ZBB (by decide +kernel) (by decide +kernel) (by decide +kernel)) ?_
   walk_at "w"
   refine ⟨S.tr, S.d1, S.d2, n, t, h, sm, c, rfl, hT, ht, by omega, by omega, fun H1 hT1 F1 => ?_⟩
   have hS1 := fin H1 hT1 F1
   obtain ⟨dx1, vs1, hp1, hT1', hd1, hD1, hn1, hw1, hne⟩ := id hS1
   walk_at "w"
   refine ⟨tyL hn1, ?_⟩
   walk_at "w"
   refine JC hn1 (by rw [List.length_map]; exact Nat.lt_of_le_of_lt htl (by decide)) fun H2 f2 K2 => ?_
   walk_at "w"
   exact k H2 (hS1.kpDone K2 (by rw [List.map_append]; exact f2)) ((FrS.fr3 F1).trans (.kp K2 (by simp [SA.own])))
def ZSL (a : Ad) : Sp := fun vs H Q _ => ∃ (S : SA) (n t : Int) (o : Option Int) (sm : List (Int × Int)) (c : Nat) (ds : List (Int × Option Int)) (ts : List Int) (ws : List V), vs = [.ref S.p, .int t, ZAU o] ∧ ZH a H S n sm c ds ts ws ∧
 Tm t ∧ (o = none → (Ze sm t).isSome = true) ∧ c ≤ 900 ∧ sm.length ≤ 900 ∧ ts.length ≤ 900 ∧ ds.length ≤ 900 ∧
 ∀ H', ZH a H' S n (Z7 sm t o) (c + 1) (ds ++ [(t, Ze sm t)]) (ts ++ [t]) ws → FrS S H H' → Q (ZAU (Ze sm t)) H'
theorem ZDW : ZP ["self", "t", "h", "before"] ["self", "t", "h"] (ZF ZCO) := ⟨rfl, rfl, rfl, by decide +kernel, rfl, by decide +kernel, by decide +kernel⟩
theorem ZDX (T : Txt K mg a) : ZQ P w K mg base CX0 6 a.f_Store_do a.d_Store_do ["self", "t", "h"] (ZSL a) := by
 refine T.F_Store_do.ok ZDW (fun vs H Q E h => ?_) (fun cdv A outer s H vs Q E hr h => ?_)
 ·obtain ⟨S, n, t, o, sm, c, ds, ts, ws, rfl, _⟩ := h
  rfl
 ·obtain ⟨S, n, t, o, sm, c, ds, ts, ws, rfl, hS, ht, ho, hc, hsl, htl, hdl, k⟩ := h
  have hu := JE hr
  refine ⟨_, QB.h (ZD (ZM (i := 3) ZDW.nd rfl (by walk_at "o") (ZA1 hu (Zl K rfl (Zl K rfl (qv 0))) (qv 1))) (ZD (Zc (Zw (qv 0) T.c_Store T.M_Store_bring (ZBx T) hr T.b_Store_bring .nil ZJ (ZA (qv 1) (ZA (qv 2) ZB)))) (ZD (Zc (ZCA PySem.F.plainAttrs_list PySem.F.slot_list_append PySem.F.type_list_append JA (Zl K rfl (qv 0)) (ZA (Zg (ZA (qv 1) (ZA (qv 3) ZB))) ZB))) (ZE (ZZ (qv 3)))))), ?_⟩
  walk_at "s"
  obtain ⟨dx, vs, hp, hT, _⟩ := id hS
  obtain ⟨dy, kvs, hq, hd1, _⟩ := id hT
  walk_at "w"
  refine ZFE hd1 ?_
  walk_at "w"
  refine ZGn hd1 ?_
  rw [ZHA]
  walk_at "w"
  refine Zf hp (Jq (by decide +kernel) (by decide +kernel) (by decide +kernel) (by decide +kernel)) ?_
  walk_at "w"
  refine ⟨S, n, t, o, sm, c, ds, ts, ws, rfl, hS, ht, ho, hc, hsl, htl, fun H1 hS1 F1 => ?_⟩
  obtain ⟨dx1, vs1, hp1, hT1, hd1, hD1, _⟩ := id hS1
  walk_at "w"
  refine ⟨tyL hd1, ?_⟩
  walk_at "w"
  refine ZR (by show 2 ≤ sizeLine; decide) fun b H2 n2 f2 S2 => ?_
  walk_at "w"
  refine JC (S2 _ _ hd1) (by rw [hD1.len]; exact Nat.lt_of_le_of_lt hdl (by decide)) fun H3 f3 K3 => ?_
  have nt : ∀ {b : Addr} {xs : List V}, H2 b = some (.tup xs) → H3 b = some (.tup xs) := fun e => K3 _ _ e (fun z => by rw [z, S2 _ _ hd1] at e; cases e)
  walk_at "w"
  exact k H3 ((hS1.same S2).kpDeeds K3 f3 (((hD1.tups fun b xs e => S2 _ _ e).tups fun b xs e => nt e).snoc (q := (t, Ze sm t)) (nt f2))) ((F1.trans (.same S2)).trans (.kp K3 (by simp [SA.own])))
def ZRb (a : Ad) : Sp := fun vs H Q _ => ∃ (S : SA) (n t h : Int) (sm : List (Int × Int)) (c : Nat) (ds : List (Int × Option Int)) (ts : List Int) (ws : List V), vs = [.ref S.p, .int t, .int h] ∧ ZH a H S n sm c ds ts ws ∧
 Tm t ∧ c ≤ 900 ∧ sm.length ≤ 900 ∧ ts.length ≤ 900 ∧ ds.length ≤ 900 ∧
 ∀ H', ZH a H' S n (YO sm t h) (c + 1) (ds ++ [(t, Ze sm t)]) (ts ++ [t]) ws → FrS S H H' → Q (ZAU (Ze sm t)) H'
theorem ZHD : ZP ["self", "t", "h"] ["self", "t", "h"] (ZF ZBg) := ⟨rfl, rfl, rfl, by decide +kernel, rfl, by decide +kernel, by decide +kernel⟩
theorem ZHE (T : Txt K mg a) : ZQ P w K mg base CX0 7 a.f_Store_put a.d_Store_put ["self", "t", "h"] (ZRb a) := by
 refine T.F_Store_put.ok ZHD (fun vs H Q E h => ?_) (fun cdv A outer s H vs Q E hr h => ?_)
 ·obtain ⟨S, n, t, h, sm, c, ds, ts, ws, rfl, _⟩ := h
  rfl
 ·obtain ⟨S, n, t, h, sm, c, ds, ts, ws, rfl, hS, ht, hc, hsl, htl, hdl, k⟩ := h
  refine ⟨_, QB.h (ZD (Zc (ZG (ZCd T) (hr.mono (by decide)) rfl T.m_check_time T.F_check_time.kp T.b_check_time .nil ZJ (ZA (qv 1) ZB))) (ZE (ZZ (Zw (qv 0) T.c_Store T.M_Store_do (ZDX T) hr T.b_Store_do .nil ZJ (ZA (qv 1) (ZA (qv 2) ZB)))))), ?_⟩
  walk_at "s"
  obtain ⟨dx, vs, hp, hT, _⟩ := id hS
  walk_at "w"
  refine ⟨t, rfl, ht, ?_⟩
  walk_at "w"
  refine Zf hp (Jq (by decide +kernel) (by decide +kernel) (by decide +kernel) (by decide +kernel)) ?_
  walk_at "w"
  exact ⟨S, n, t, some h, sm, c, ds, ts, ws, rfl, hS, ht, (fun z => by cases z), hc, hsl, htl, hdl, fun H1 hS1 F1 => k H1 hS1 F1⟩
def ZM3 (a : Ad) : Sp := fun vs H Q _ => ∃ (S : SA) (n t v : Int) (sm : List (Int × Int)) (c : Nat) (ds : List (Int × Option Int)) (ts : List Int) (ws : List V), vs = [.ref S.p, .int t] ∧ ZH a H S n sm c ds ts ws ∧ Ze sm t = some v ∧ Q .non H
theorem ZBy : ZP ["self", "t"] ["self", "t"] (ZF JI) := ⟨rfl, rfl, rfl, by decide +kernel, rfl, by decide +kernel, by decide +kernel⟩
theorem ZBz (T : Txt K mg a) : ZQ P w K mg base CX0 2 a.f_Store_check_sample a.d_Store_check_sample ["self", "t"] (ZM3 a) := by
 refine T.F_Store_check_sample.ok ZBy (fun vs H Q E h => ?_) (fun cdv A outer s H vs Q E hr h => ?_)
 ·obtain ⟨S, n, t, v, sm, c, ds, ts, ws, rfl, _⟩ := h
  rfl
 ·obtain ⟨S, n, t, v, sm, c, ds, ts, ws, rfl, hS, hg, q⟩ := h
  have hu := JE hr
  refine ⟨_, QB.h (ZE (Zk (QW.pt (ZDE (JO (Y3 (ZG (ZBh T) hr rfl T.m_is_whole T.F_is_whole.kp T.b_is_whole .nil ZJ (ZA (qv 1) ZB)))) (ZBp (ZW (ZEW hu) (qv 1) (Zl K rfl (Zl K rfl (qv 0))) (by with_unfolding_all rfl))))) (ZE Ja) Zi)), ?_⟩
  walk_at "s"
  obtain ⟨dx, vs, hp, hT, _⟩ := id hS
  obtain ⟨dy, kvs, hq, hd1, _⟩ := id hT
  walk_at "w"
  refine ⟨t, rfl, ?_⟩
  walk_at "w"
  refine Z1 ?_
  walk_at "w"
  refine ZI0 hd1 ?_
  rw [hg]
  walk_at "w"
  refine Z1 ?_
  walk_at "w"
  exact q
def ZPa (a : Ad) : Sp := fun vs H Q _ => ∃ (S : SA) (n t v : Int) (sm : List (Int × Int)) (c : Nat) (ds : List (Int × Option Int)) (ts : List Int) (ws : List V), vs = [.ref S.p, .int t] ∧ ZH a H S n sm c ds ts ws ∧
 Tm t ∧ Ze sm t = some v ∧ c ≤ 900 ∧ sm.length ≤ 900 ∧ ts.length ≤ 900 ∧ ds.length ≤ 900 ∧
 ∀ H', ZH a H' S n (YU sm t) (c + 1) (ds ++ [(t, some v)]) (ts ++ [t]) ws → FrS S H H' → Q (.int v) H'
theorem ZFe : ZP ["self", "t"] ["self", "t"] (ZF ZA5) := ⟨rfl, rfl, rfl, by decide +kernel, rfl, by decide +kernel, by decide +kernel⟩
theorem ZFf (T : Txt K mg a) : ZQ P w K mg base CX0 7 a.f_Store_take a.d_Store_take ["self", "t"] (ZPa a) := by
 refine T.F_Store_take.ok ZFe (fun vs H Q E h => ?_) (fun cdv A outer s H vs Q E hr h => ?_)
 ·obtain ⟨S, n, t, v, sm, c, ds, ts, ws, rfl, _⟩ := h
  rfl
 ·obtain ⟨S, n, t, v, sm, c, ds, ts, ws, rfl, hS, ht, hg, hc, hsl, htl, hdl, k⟩ := h
  refine ⟨_, QB.h (ZD (Zc (Zw (qv 0) T.c_Store T.M_Store_check_sample (ZBz T) (hr.mono (by decide)) T.b_Store_check_sample .nil ZJ (ZA (qv 1) ZB))) (ZE (ZZ (Zw (qv 0) T.c_Store T.M_Store_do (ZDX T) hr T.b_Store_do .nil ZJ (ZA (qv 1) (ZA YN ZB)))))), ?_⟩
  walk_at "s"
  obtain ⟨dx, vs, hp, hT, _⟩ := id hS
  walk_at "w"
  refine Zf hp (Jq (by decide +kernel) (by decide +kernel) (by decide +kernel) (by decide +kernel)) ?_
  walk_at "w"
  refine ⟨S, n, t, v, sm, c, ds, ts, ws, rfl, hS, hg, ?_⟩
  walk_at "w"
  refine Zf hp (Jq (by decide +kernel) (by decide +kernel) (by decide +kernel) (by decide +kernel)) ?_
  walk_at "w"
  refine ⟨S, n, t, none, sm, c, ds, ts, ws, rfl, hS, ht, (fun _ => by rw [hg]; rfl), hc, hsl, htl, hdl, fun H1 hS1 F1 => ?_⟩
  rw [hg] at hS1 ⊢
  exact k H1 hS1 F1
def ZPb (a : Ad) : Sp := fun vs H Q _ => ∃ (S : SA) (n : Int) (sm : List (Int × Int)) (c : Nat) (ds : List (Int × Option Int)) (ts : List Int) (ws : List V), vs = [.ref S.p] ∧ ZH a H S n sm c ds ts ws ∧
  ((ds = [] ∧ Q (.bl false) H) ∨ ∃ ds' t o, ds = ds' ++ [(t, o)] ∧ Tm t ∧ (o = none → (Ze sm t).isSome = true) ∧ c ≤ 900 ∧ sm.length ≤ 900 ∧ ts.length ≤ 900 ∧
    ∀ H', ZH a H' S n (Z7 sm t o) (c + 1) ds' (ts ++ [t]) ws → FrS S H H' → Q (.bl true) H')
theorem ZAl : ZP ["self", "t", "before"] ["self"] (ZF ZA6) := ⟨rfl, rfl, rfl, by decide +kernel, rfl, by decide +kernel, by decide +kernel⟩
theorem ZFg (T : Txt K mg a) : ZQ P w K mg base CX0 6 a.f_Store_undo a.d_Store_undo ["self"] (ZPb a) := by
 refine T.F_Store_undo.ok ZAl (fun vs H Q E h => ?_) (fun cdv A outer s H vs Q E hr h => ?_)
 ·obtain ⟨S, n, sm, c, ds, ts, ws, rfl, _⟩ := h
  rfl
 ·obtain ⟨S, n, sm, c, ds, ts, ws, rfl, hS, k⟩ := h
  refine ⟨_, QB.h (ZD (Zk (ZW (YG) (Zo (ZBr K rfl) rfl T.z_len ZAc (ZA (Zl K rfl (qv 0)) ZB)) ZC (Zb _)) (ZE (ZZ ZB6)) Zi) (ZD (YZ (ZKC PySem.F.plainAttrs_list PySem.F.slot_list_pop PySem.F.type_list_pop ZJm (Zl K rfl (qv 0))) (YS (n := 2) K rfl rfl (ZT (ZO (i := 1) ZAl.nd rfl (by walk_at "o")) (ZT (ZO (i := 2) ZAl.nd rfl (by walk_at "o")) YE)))) (ZD (Zc (Zw (qv 0) T.c_Store T.M_Store_bring (ZBx T) hr T.b_Store_bring .nil ZJ (ZA (qv 1) (ZA (qv 2) ZB)))) (ZE (ZZ ZB6))))), ?_⟩
  walk_at "s"
  obtain ⟨dx, vs, hp, hT, hd, hD, _⟩ := id hS
  have hvl := hD.len
  walk_at "w"
  rw [Yr]
  rcases k with ⟨rfl, q⟩ | ⟨ds', t, o, rfl, ht, ho, hc, hsl, htl, k⟩
  ·refine Zu (fun _ => ?_) (fun h => absurd (by rw [hvl]; rfl) h)
   walk_at "w"
   exact q
  ·refine Zu (fun h => ?_) (fun _ => ?_)
   ·rw [hvl, List.length_append] at h
    simp at h
    omega
   obtain ⟨us, b, rfl, hD', hb⟩ := hD.unsnoc
   walk_at "w"
   refine ⟨tyL hd, ?_⟩
   refine ZKZ hd fun H1 f1 K1 => ?_
   have hb1 := K1 _ _ hb (fun z => by rw [z, hd] at hb; cases hb)
   have nt : ∀ {b : Addr} {xs : List V}, H b = some (.tup xs) → H1 b = some (.tup xs) := fun e => K1 _ _ e (fun z => by rw [z, hd] at e; cases e)
   have hS1 := hS.kpDeeds K1 f1 (hD'.tups fun b xs e => nt e)
   obtain ⟨dx1, vs1, hp1, _⟩ := id hS1
   walk_at "w"
   refine Zf hp1 (Jq (by decide +kernel) (by decide +kernel) (by decide +kernel) (by decide +kernel)) ?_
   walk_at "w"
   refine ⟨S, n, t, o, sm, c, ds', ts, ws, rfl, hS1, ht, ho, hc, hsl, htl, fun H2 hS2 F2 => ?_⟩
   walk_at "w"
   exact k H2 hS2 ((FrS.kp K1 (by simp [SA.own])).trans F2)
def ZPc (a : Ad) : Sp := fun vs H Q _ => ∃ (S : SA) (n b e : Int) (sm : List (Int × Int)) (c : Nat) (ds : List (Int × Option Int)) (ts : List Int) (ws : List V), vs = [.ref S.p, .int b, .int e] ∧ ZH a H S n sm c ds ts ws ∧ InT b ∧ InT e ∧
 ∀ (v : V) (o : Option (List (Int × Int))) (n' : Int) (H' : Hp), Zr H' v o → Is4 (YH sm b e) o → ZH a H' S n' sm c ds ts ws → Kp S.tr H H' → Q v H'
theorem ZFh : ZP ["self", "begin", "end"] ["self", "begin", "end"] (ZF ZA7) := ⟨rfl, rfl, rfl, by decide +kernel, rfl, by decide +kernel, by decide +kernel⟩
theorem ZFi (T : Txt K mg a) : ZQ P w K mg base CX0 6 a.f_Store_four a.d_Store_four ["self", "begin", "end"] (ZPc a) := by
 refine T.F_Store_four.ok ZFh (fun vs H Q E h => ?_) (fun cdv A outer s H vs Q E hr h => ?_)
 ·obtain ⟨S, n, b, e, sm, c, ds, ts, ws, rfl, _⟩ := h
  rfl
 ·obtain ⟨S, n, b, e, sm, c, ds, ts, ws, rfl, hS, hb, he, k⟩ := h
  refine ⟨_, QB.h (ZE (ZZ (Zw (Zl K rfl (qv 0)) T.c_Tree T.M_Tree_four (ZC4 T) hr T.b_Tree_four .nil ZJ (ZA (qv 1) (ZA (qv 2) ZB))))), ?_⟩
  walk_at "s"
  obtain ⟨dx, vs, hp, hT, _⟩ := id hS
  obtain ⟨dy, kvs, hq, hd1, _⟩ := id hT
  walk_at "w"
  refine Zf hq (ZBB (by decide +kernel) (by decide +kernel) (by decide +kernel)) ?_
  walk_at "w"
  exact ⟨S.tr, S.d1, S.d2, n, b, e, sm, c, rfl, hT, hb, he, fun v o prs H1 h1 g1 _ hT1 K1 => k v o _ H1 h1 g1 (hS.fr3 (ZRZ K1) hT1) K1⟩
def ZM4 (a : Ad) : Sp := fun vs H Q _ => ∃ (S : SA) (n : Int) (sm : List (Int × Int)) (c : Nat) (ds : List (Int × Option Int)) (ts : List Int) (ws : List V), vs = [.ref S.p] ∧ ZH a H S n sm c ds ts ws ∧
 ∀ u H', H' u = some (.tup (ts.map V.int)) → ZK H H' → Q (.ref u) H'
theorem ZEx : ZP ["self"] ["self"] (ZF ZAj) := ⟨rfl, rfl, rfl, by decide +kernel, rfl, by decide +kernel, by decide +kernel⟩
theorem ZEy (T : Txt K mg a) : ZQ P w K mg base CX0 1 a.f_Store_times a.d_Store_times ["self"] (ZM4 a) := by
 refine T.F_Store_times.ok ZEx (fun vs H Q E h => ?_) (fun cdv A outer s H vs Q E hr h => ?_)
 ·obtain ⟨S, n, sm, c, ds, ts, ws, rfl, _⟩ := h
  rfl
 ·obtain ⟨S, n, sm, c, ds, ts, ws, rfl, hS, k⟩ := h
  refine ⟨_, QB.h (ZE (ZZ (Ji (ZAN K rfl) rfl T.z_tuple ZAI (ZA (Zl K rfl (qv 0)) ZB)))), ?_⟩
  walk_at "s"
  obtain ⟨dx, vs, hp, hT, hd, hD, hn, _⟩ := id hS
  walk_at "w"
  exact ZAx (SqL.of hn) fun u H3 n3 f3 S3 => k u H3 f3 S3
end
theorem FrL.ofS {S : SA} {l : List Addr} {H H' : Hp} (h : FrS S H H') (m : ∀ b ∈ S.own, b ∈ l) : FrL l H H' := fun b o e n => h b o e fun z => n (m b z)
section
variable {a : Ad} {H H' : Hp} {S : SA} {n : Int} {sm : List (Int × Int)} {c : Nat} {ds : List (Int × Option Int)} {ts : List Int} {ws : List V}
theorem ZH.live (h : ZH a H S n sm c ds ts ws) : ∀ b ∈ S.p :: S.own, ∃ o, H b = some o := by
 obtain ⟨dx, vs, h1, ⟨dy, kvs, t1, t2, t3, _⟩, h3, h4, h5, h6, h7⟩ := h
 intro b hb
 simp only [SA.own, List.mem_cons, List.not_mem_nil, or_false] at hb
 rcases hb with rfl | rfl | rfl | rfl | rfl | rfl | rfl
 ·exact ⟨_, h1⟩
 ·exact ⟨_, t1⟩
 ·exact ⟨_, t2⟩
 ·exact ⟨_, t3⟩
 ·exact ⟨_, h3⟩
 ·exact ⟨_, h5⟩
 ·exact ⟨_, h6⟩
theorem ZH.noTup (h : ZH a H S n sm c ds ts ws) : ∀ b ∈ S.own, ∀ xs, H b ≠ some (.tup xs) := by
 obtain ⟨dx, vs, h1, ⟨dy, kvs, t1, t2, t3, _⟩, h3, h4, h5, h6, h7⟩ := h
 intro b hb xs e
 simp only [SA.own, List.mem_cons, List.not_mem_nil, or_false] at hb
 rcases hb with rfl | rfl | rfl | rfl | rfl | rfl
 ·rw [t1] at e; cases e
 ·rw [t2] at e; cases e
 ·rw [t3] at e; cases e
 ·rw [h3] at e; cases e
 ·rw [h5] at e; cases e
 ·rw [h6] at e; cases e
theorem ZH.frL (h : ZH a H S n sm c ds ts ws) {l : List Addr} (f : FrL l H H') (d : ∀ b ∈ l, b ∉ S.p :: S.own) (nt : ∀ b ∈ l, ∀ xs, H b ≠ some (.tup xs)) : ZH a H' S n sm c ds ts ws := by
 obtain ⟨dx, vs, h1, ⟨dy, kvs, t1, t2, t3, t4, t5, t6⟩, h3, h4, h5, h6, h7⟩ := h
 have k : ∀ b o, H b = some o → b ∈ S.p :: S.own → H' b = some o := fun b o e m => f _ _ e fun z => d b z m
 have kt : ∀ b xs, H b = some (.tup xs) → H' b = some (.tup xs) := fun b xs e => f _ _ e fun z => nt b z xs e
 exact ⟨dx, vs, k _ _ h1 (by simp), ⟨dy, kvs, k _ _ t1 (by simp [SA.own]), k _ _ t2 (by simp [SA.own]), k _ _ t3 (by simp [SA.own]), t4, t5.tups kt, t6⟩, k _ _ h3 (by simp [SA.own]), h4.tups kt, k _ _ h5 (by simp [SA.own]), k _ _ h6 (by simp [SA.own]), h7⟩
theorem ZH.apart (h : ZH a H S n sm c ds ts ws) {l : List Addr} (m : ∀ b ∈ l, H b = none) : ∀ b ∈ l, b ∉ S.p :: S.own := fun b hb z => by
 obtain ⟨o, e⟩ := h.live b z
 rw [m b hb] at e; cases e
theorem SA.ls_own {S : SA} {b : Addr} (h : b ∈ S.ls) : b ∈ S.own := by
 simp only [SA.ls, SA.own, List.mem_cons, List.not_mem_nil, or_false] at *
 rcases h with h | h | h <;> simp [h]
end
section
variable {P : Program} {w : World} {K : PySem.W.Frag} {mg : Str → Option Value} {base : Heap} {a : Ad}
def ZHF (b y m t : Int) : V := if 0 ≤ (t - b) / y ∧ (t - b) / y < m then .int ((t - b) / y) else .non
def ZPd : Sp := fun vs H Q _ => ∃ (p : Addr) (b y m t : Int), vs = [.ref p, .int t] ∧ H p = some (.tup [.int b, .int y, .int m]) ∧ 0 < y ∧ y < 2 ^ 250 ∧ Q (ZHF b y m t) H
theorem Je : ZP ["window", "t", "begin", "wide", "many", "k"] ["window", "t"] (ZF ZBZ) := ⟨rfl, rfl, rfl, by decide +kernel, rfl, by decide +kernel, by decide +kernel⟩
theorem ZHG (T : Txt K mg a) : ZQ P w K mg base CX0 1 a.f_column_of a.d_column_of ["window", "t"] ZPd := by
 refine T.F_column_of.ok Je (fun vs H Q E h => ?_) (fun cdv A outer s H vs Q E hr h => ?_)
 ·obtain ⟨p, b, y, m, t, rfl, _⟩ := h
  rfl
 ·obtain ⟨p, b, y, m, t, rfl, hT, hy, hy2, q⟩ := h
  refine ⟨_, QB.h (ZD (YZ (qv 0) (YS (n := 3) K rfl rfl (ZT (ZO (i := 2) Je.nd rfl (by walk_at "o")) (ZT (ZO (i := 3) Je.nd rfl (by walk_at "o")) (ZT (ZO (i := 4) Je.nd rfl (by walk_at "o")) YE))))) (ZD (ZM (i := 5) Je.nd rfl (by walk_at "o") (ZL JZ (ZL Yi (qv 1) (qv 2)) (qv 3))) (ZE (ZZ (ZB8 (ZB9 ZAn ZDA ZC (qv 5) (qv 4)) (qv 5) YN))))), ?_⟩
  walk_at "s"
  walk_at "w"
  refine Zu (fun h1 => ?_) (fun h1 => ?_)
  ·walk_at "w"
   refine Zu (fun h2 => ?_) (fun h2 => ?_)
   ·walk_at "w"
    unfold ZHF at q
    rw [if_pos ⟨h1, h2⟩] at q
    exact q
   ·walk_at "w"
    unfold ZHF at q
    rw [if_neg (fun z => h2 z.2)] at q
    exact q
  ·walk_at "w"
   refine Z1 ?_
   walk_at "w"
   unfold ZHF at q
   rw [if_neg (fun z => h1 z.1)] at q
   exact q
end
abbrev win (b y m : Int) : List V := [.int b, .int y, .int m]
def ZPe (K : PySem.W.Frag) : Sp := fun vs H Q _ => ∃ (t : Addr) (b y m c : Int), vs = [.ref t, .int c] ∧ SqT K H t (win b y m) ∧ IntMulOk c y ∧ ∀ (u : Addr) (H' : Hp), H u = none → H' u = some (.tup (win (b + c * y) y m)) → ZK H H' → Q (.ref u) H'
def ZKv (K : PySem.W.Frag) : Sp := fun vs H Q _ => ∃ (t : Addr) (b y m : Int), vs = [.ref t] ∧ SqT K H t (win b y m) ∧ ∀ (u : Addr) (H' : Hp), H u = none → H' u = some (.tup (win b (y * 2) m)) → ZK H H' → Q (.ref u) H'
def ZJF (K : PySem.W.Frag) : Sp := fun vs H Q _ => ∃ (t : Addr) (b y m : Int), vs = [.ref t] ∧ SqT K H t (win b y m) ∧ y % 2 = 0 ∧ ∀ (u : Addr) (H' : Hp), H u = none → H' u = some (.tup (win b (y / 2) m)) → ZK H H' → Q (.ref u) H'
def ZPf (K : PySem.W.Frag) : Sp := fun vs H Q _ => ∃ (t : Addr) (b y m n : Int), vs = [.ref t, .int n] ∧ SqT K H t (win b y m) ∧ ∀ (u : Addr) (H' : Hp), H u = none → H' u = some (.tup (win b y n)) → ZK H H' → Q (.ref u) H'
section
variable {P : Program} {w : World} {K : PySem.W.Frag} {mg : Str → Option Value} {base : Heap} {a : Ad}
theorem ZCU : ZP ["window", "c", "begin", "wide", "many"] ["window", "c"] (ZF ZEu) := ⟨rfl, rfl, rfl, by decide +kernel, rfl, by decide +kernel, by decide +kernel⟩
theorem ZHH (T : Txt K mg a) : ZQ P w K mg base CX0 1 a.f_moved a.d_moved ["window", "c"] (ZPe K) := by
 refine T.F_moved.ok ZCU (fun vs H Q E h => ?_) (fun cdv A outer s H vs Q E hr h => ?_)
 ·obtain ⟨t, b, y, m, c, rfl, _⟩ := h
  rfl
 ·obtain ⟨t, b, y, m, c, rfl, hT, hm, k⟩ := h
  refine ⟨_, QB.h (ZD (YZ (qv 0) (YS (n := 3) K rfl rfl (ZT (ZO (i := 2) ZCU.nd rfl (by walk_at "o")) (ZT (ZO (i := 3) ZCU.nd rfl (by walk_at "o")) (ZT (ZO (i := 4) ZCU.nd rfl (by walk_at "o")) YE))))) (ZE (ZZ (Zg (ZA (ZL YC (qv 2) (ZL Zv (qv 1) (qv 3))) (ZA (qv 3) (ZA (qv 4) ZB))))))), ?_⟩
  walk_at "s"
  walk_at "w"
  refine ZGB hm ?_
  walk_at "w"
  exact ZR (by show 3 ≤ sizeLine; decide) fun u H2 hu f2 S2 => k u H2 hu f2 S2
theorem ZAr : ZP ["window", "begin", "wide", "many"] ["window"] (ZF ZCs) := ⟨rfl, rfl, rfl, by decide +kernel, rfl, by decide +kernel, by decide +kernel⟩
theorem ZEY (T : Txt K mg a) : ZQ P w K mg base CX0 1 a.f_widened a.d_widened ["window"] (ZKv K) := by
 refine T.F_widened.ok ZAr (fun vs H Q E h => ?_) (fun cdv A outer s H vs Q E hr h => ?_)
 ·obtain ⟨t, b, y, m, rfl, _⟩ := h
  rfl
 ·obtain ⟨t, b, y, m, rfl, hT, k⟩ := h
  refine ⟨_, QB.h (ZD (YZ (qv 0) (YS (n := 3) K rfl rfl (ZT (ZO (i := 1) ZAr.nd rfl (by walk_at "o")) (ZT (ZO (i := 2) ZAr.nd rfl (by walk_at "o")) (ZT (ZO (i := 3) ZAr.nd rfl (by walk_at "o")) YE))))) (ZE (ZZ (Zg (ZA (qv 1) (ZA (ZL Zv (qv 2) ZC) (ZA (qv 3) ZB))))))), ?_⟩
  walk_at "s"
  walk_at "w"
  exact ZR (by show 3 ≤ sizeLine; decide) fun u H2 hu f2 S2 => k u H2 hu f2 S2
theorem ZAZ : ZP ["window", "begin", "wide", "many"] ["window"] (ZF ZCL) := ⟨rfl, rfl, rfl, by decide +kernel, rfl, by decide +kernel, by decide +kernel⟩
theorem ZHg (T : Txt K mg a) : ZQ P w K mg base CX0 1 a.f_narrowed a.d_narrowed ["window"] (ZJF K) := by
 refine T.F_narrowed.ok ZAZ (fun vs H Q E h => ?_) (fun cdv A outer s H vs Q E hr h => ?_)
 ·obtain ⟨t, b, y, m, rfl, _⟩ := h
  rfl
 ·obtain ⟨t, b, y, m, rfl, hT, hy, k⟩ := h
  refine ⟨_, QB.h (ZD (YZ (qv 0) (YS (n := 3) K rfl rfl (ZT (ZO (i := 1) ZAZ.nd rfl (by walk_at "o")) (ZT (ZO (i := 2) ZAZ.nd rfl (by walk_at "o")) (ZT (ZO (i := 3) ZAZ.nd rfl (by walk_at "o")) YE))))) (ZD (Zk (ZW (YG) (ZL ZAb (qv 2) ZC) ZC (Zb _)) (ZE Ja) Zi) (ZE (ZZ (Zg (ZA (qv 1) (ZA (ZL JZ (qv 2) ZC) (ZA (qv 3) ZB)))))))), ?_⟩
  walk_at "s"
  walk_at "w"
  rw [Yr]
  refine Zu (fun h => absurd h (by omega)) (fun _ => ?_)
  walk_at "w"
  exact ZR (by show 3 ≤ sizeLine; decide) fun u H2 hu f2 S2 => k u H2 hu f2 S2
theorem ZEZ : ZP ["window", "n"] ["window", "n"] (ZF ZAQ) := ⟨rfl, rfl, rfl, by decide +kernel, rfl, by decide +kernel, by decide +kernel⟩
theorem ZBR (T : Txt K mg a) : ZQ P w K mg base CX0 1 a.f_with_columns a.d_with_columns ["window", "n"] (ZPf K) := by
 refine T.F_with_columns.ok ZEZ (fun vs H Q E h => ?_) (fun cdv A outer s H vs Q E hr h => ?_)
 ·obtain ⟨t, b, y, m, n, rfl, _⟩ := h
  rfl
 ·obtain ⟨t, b, y, m, n, rfl, hT, k⟩ := h
  refine ⟨_, QB.h (ZE (ZZ (Zg (ZA (ZU (Zd K rfl) (qv 0) ZC) (ZA (ZU (Zd K rfl) (qv 0) ZC) (ZA (qv 1) ZB)))))), ?_⟩
  walk_at "s"
  walk_at "w"
  exact ZR (by show 3 ≤ sizeLine; decide) fun u H2 hu f2 S2 => k u H2 hu f2 S2
end
def kx (x z : Int) : List Key := [Sum.inl x, Sum.inl z]
theorem ZEa {x z x' z' : Int} (h : kx x z = kx x' z') : x = x' ∧ z = z' := by
 unfold kx at h
 injection h with h1 h2
 injection h2 with h2 _
 exact ⟨Sum.inl.inj h1, Sum.inl.inj h2⟩
theorem ZC5 {κ : Type} [DecidableEq κ] (k j : κ) : ∀ kvs : List (κ × V), Zh (Yn kvs k) j = if j = k then none else Zh kvs j
 | [] => by split <;> rfl
 | p :: r => by
  have ih := ZC5 k j r
  unfold Yn at ih ⊢
  by_cases e : p.1 = k
  ·rw [List.filter_cons_of_neg (by simpa using e), ih]
   split
   ·rfl
   ·rw [YW (fun z => ‹¬ j = k› (z.symm.trans e))]
  ·rw [List.filter_cons_of_pos (by simpa using e)]
   by_cases e2 : p.1 = j
   ·rw [Ya e2, Ya e2, if_neg (fun z => e (e2.trans z))]
   ·rw [YW e2, YW e2, ih]
def ZBC (H : Hp) (sm : List (Int × Int)) (x z : Int) (v : V) : Prop := ∃ o, Zr H v o ∧ Is4 (YH sm x z) o
theorem ZBC.tups {H H' : Hp} {sm : List (Int × Int)} {x z : Int} {v : V} (h : ZBC H sm x z v) (t : ∀ b xs, H b = some (.tup xs) → H' b = some (.tup xs)) : ZBC H' sm x z v :=
 let ⟨o, h1, h2⟩ := h; ⟨o, h1.tups t, h2⟩
def Col (b y m x z : Int) : Prop := ∃ k : Int, 0 ≤ k ∧ k < m ∧ x = b + k * y ∧ z = b + k * y + y
def has (kvs : List (List Key × V)) (x z : Int) : Bool := (Zh kvs (kx x z)).isSome
theorem ZBD {kvs : List (List Key × V)} {x z : Int} {v : V} (h : Zh kvs (kx x z) = some v) : has kvs x z = true := by unfold has; rw [h]; rfl
theorem ZBE {kvs : List (List Key × V)} {x z : Int} (h : Zh kvs (kx x z) = none) : has kvs x z = false := by unfold has; rw [h]; rfl
theorem ZIF {kvs : List (List Key × V)} {x z x' z' : Int} {v : V} : has (Yj kvs (kx x z) v) x' z' = (decide (x' = x ∧ z' = z) || has kvs x' z') := by
 unfold has
 rw [ZAO]
 by_cases e : kx x' z' = kx x z
 ·rw [if_pos e, decide_eq_true (ZEa e)]; rfl
 ·rw [if_neg e, decide_eq_false (fun h => e (by rw [h.1, h.2]))]; rfl
def Kin (kvs : List (List Key × V)) (x z : Int) : Prop := has kvs x z = true ∨ (has kvs x ((x + z) / 2) = true ∧ has kvs ((x + z) / 2) z = true)
def ZKw : Sp := fun vs H Q _ => ∃ (d q : Addr) (b y m : Int) (kvs : List (List Key × V)) (sm : List (Int × Int)), vs = [.ref d, .ref q] ∧ H d = some (.dT kvs) ∧ Yl H q b y m ∧
 (∀ x z v, Zh kvs (kx x z) = some v → ZBC H sm x z v) ∧
 ∀ (d' : Addr) (kvs' : List (List Key × V)) (H' : Hp), H d' = none → H' d' = some (.dT kvs') → kvs'.length ≤ m.toNat → (∀ x z v, Zh kvs' (kx x z) = some v → Col b y m x z ∧ ZBC H' sm x z v) →
  (∀ x z, Col b y m x z → (has kvs' x z = true ↔ Kin kvs x z)) → ZK H H' → Q (.ref d') H'
section
variable {P : Program} {w : World} {K : PySem.W.Frag} {mg : Str → Option Value} {base : Heap} {a : Ad}
theorem Jr : ZP ["known", "window", "staying", "first", "behind", "middle"] ["known", "window"] (ZF ZCN) := ⟨rfl, rfl, rfl, by decide +kernel, rfl, by decide +kernel, by decide +kernel⟩
theorem ZHh (T : Txt K mg a) : ZQ P w K mg base CX0 4 a.f_known_in a.d_known_in ["known", "window"] ZKw := by
 refine T.F_known_in.ok Jr (fun vs H Q E h => ?_) (fun cdv A outer s H vs Q E hr h => ?_)
 ·obtain ⟨d, q, b, y, m, kvs, sm, rfl, _⟩ := h
  rfl
 ·obtain ⟨d, q, b, y, m, kvs, sm, rfl, hd, hW, hg, k⟩ := h
  have hu := JE hr
  obtain ⟨hq, hy, hm1, hm2, hb, he⟩ := id hW
  refine ⟨_, QB.h (ZD (ZM (i := 2) Jr.nd rfl (by walk_at "o") ZDp) (ZD (JP PassesOwn.never rfl (Y4 K rfl (ZG (ZAk T) hr rfl T.m_columns_of T.F_columns_of.kp T.b_columns_of .nil ZJ (ZA (qv 1) ZB))) (YS (n := 2) K rfl rfl (ZT (ZO (i := 3) Jr.nd rfl (by walk_at "o")) (ZT (ZO (i := 4) Jr.nd rfl (by walk_at "o")) YE))) (ZD (ZM (i := 5) Jr.nd rfl (by walk_at "o") (ZL JZ (ZL YC (qv 3) (qv 4)) ZC)) (ZE (Zk (ZW (ZDJ hu) (Zg (ZA (qv 3) (ZA (qv 4) ZB))) (qv 0) (by with_unfolding_all rfl)) (ZE (J5 hu (ZAP hu (qv 0) (Zg (ZA (qv 3) (ZA (qv 4) ZB)))) (qv 2) (Zg (ZA (qv 3) (ZA (qv 4) ZB))))) (ZE (Zk (QW.pt (Jn (ZW (ZDJ hu) (Zg (ZA (qv 3) (ZA (qv 5) ZB))) (qv 0) (by with_unfolding_all rfl)) (JR (ZW (ZDJ hu) (Zg (ZA (qv 5) (ZA (qv 4) ZB))) (qv 0) (by with_unfolding_all rfl))))) (ZE (J5 hu (ZG (ZC2 T) (hr.mono (by decide)) rfl T.m_joined T.F_joined.kp T.b_joined .nil ZJ (ZA (ZAP hu (qv 0) (Zg (ZA (qv 3) (ZA (qv 5) ZB)))) (ZA (ZAP hu (qv 0) (Zg (ZA (qv 5) (ZA (qv 4) ZB)))) ZB))) (qv 2) (Zg (ZA (qv 3) (ZA (qv 4) ZB))))) Zi)))))) (ZE (ZZ (qv 2))))), ?_⟩
  walk_at "s"
  walk_at "w"
  refine ZDq fun d' H1 n1 f1 S1 => ?_
  have nd : d ≠ d' := ZY hd n1
  walk_at "w"
  refine ⟨q, b, y, m, rfl, S1 _ _ hq, hm1, by omega, fun l us H2 n2 f2 hP2 S2 => ?_⟩
  have nl : l ≠ d' := fun z => by rw [z, f1] at n2; cases n2
  have hul : us.length = m.toNat := by rw [hP2.length, ZAf]
  have S02 := S1.trans S2
  walk_at "w"
  refine ZBo (xs := us) (fun i σ H' => (∃ v3 v4 v5, σ = [some (.ref d), some (.ref q), some (.ref d'), v3, v4, v5]) ∧ Kp d' H2 H' ∧ ∃ kvs', H' d' = some (.dT kvs') ∧ kvs'.length ≤ i ∧
   (∀ x z v, Zh kvs' (kx x z) = some v → (∃ j : Nat, j < i ∧ x = b + (j : Int) * y ∧ z = b + (j : Int) * y + y) ∧ ZBC H' sm x z v) ∧ ∀ j : Nat, j < i → (has kvs' (b + (j : Int) * y) (b + (j : Int) * y + y) = true ↔ Kin kvs (b + (j : Int) * y) (b + (j : Int) * y + y))) ?_ ?_ ?_ ?_
  ·exact ⟨⟨_, _, _, rfl⟩, fun _ _ e _ => e, [], S2 _ _ f1, Nat.le_refl _, fun x z v h => (by cases h), fun j h => (by omega)⟩
  ·rintro i σ H3 _ ⟨_, K3, _⟩
   exact SqL.of (K3 _ _ f2 nl)
  ·rintro i x σ H3 hx ⟨⟨v3, v4, v5, rfl⟩, K3, kvs', f3, hl3, hG3, hI3⟩
   obtain ⟨cc, pq, rfl, hpq, hc⟩ := hP2.at hx
   have hil : i < m.toNat := by rw [← hul]; exact (List.getElem?_eq_some_iff.mp hx).1
   obtain rfl := ZCT hpq
   have ntd : ∀ {H' : Hp} {kv : List (List Key × V)}, H' d' = some (.dT kv) → ∀ {e : Addr} {xs : List V}, H' e = some (.tup xs) → e ≠ d' := fun h e xs g z => by rw [z, h] at g; cases g
   have hc3 := K3 _ _ hc (ntd (S2 _ _ f1) hc)
   have hd3 := K3 _ _ (S02 _ _ hd) nd
   have nt03 : ∀ b xs, H b = some (.tup xs) → H3 b = some (.tup xs) := fun b xs e => K3 _ _ (S02 _ _ e) (ZY e n1)
   have hz : kvs'.length < sizeLine := by show _ < 2 ^ 24; omega
   generalize hX : b + (i : Int) * y = X at hc3 hpq
   have hold : ∀ {H' : Hp} {v' : V}, H' d' = some (.dT (Yj kvs' (kx X (X + y)) v')) → ZBC H' sm X (X + y) v' → (∀ b xs, H3 b = some (.tup xs) → H' b = some (.tup xs)) → Kin kvs X (X + y) →
     (Yj kvs' (kx X (X + y)) v').length ≤ i + 1 ∧ (∀ x z v, Zh (Yj kvs' (kx X (X + y)) v') (kx x z) = some v → (∃ j : Nat, j < i + 1 ∧ x = b + (j : Int) * y ∧ z = b + (j : Int) * y + y) ∧ ZBC H' sm x z v) ∧
     ∀ j : Nat, j < i + 1 → (has (Yj kvs' (kx X (X + y)) v') (b + (j : Int) * y) (b + (j : Int) * y + y) = true ↔ Kin kvs (b + (j : Int) * y) (b + (j : Int) * y + y)) := fun {H' v'} _ hv ht hk => by
    refine ⟨by have := JS kvs' (kx X (X + y)) v'; omega, fun x z v h => ?_, fun j hj => ?_⟩
    ·rw [ZAO] at h
     split at h
     ·rename_i e
      obtain ⟨rfl, rfl⟩ := ZEa e
      cases h
      exact ⟨⟨i, by omega, hX.symm, by rw [hX]⟩, hv⟩
     ·obtain ⟨⟨j, hj, e1, e2⟩, g⟩ := hG3 _ _ _ h
      exact ⟨⟨j, by omega, e1, e2⟩, g.tups ht⟩
    ·rw [ZIF]
     by_cases e : j = i
     ·subst e
      rw [hX]
      simp [hk]
     ·have hne : ¬ (b + (j : Int) * y = X ∧ b + (j : Int) * y + y = X + y) := fun z => by
       have h1 : (j : Int) * y = (i : Int) * y := by omega
       have := Int.eq_of_mul_eq_mul_right (by omega) h1
       omega
      rw [decide_eq_false hne, Bool.false_or]
      exact hI3 j (by omega)
   have hskip : ∀ {H' : Hp}, (∀ b xs, H3 b = some (.tup xs) → H' b = some (.tup xs)) → ¬ Kin kvs X (X + y) →
     kvs'.length ≤ i + 1 ∧ (∀ x z v, Zh kvs' (kx x z) = some v → (∃ j : Nat, j < i + 1 ∧ x = b + (j : Int) * y ∧ z = b + (j : Int) * y + y) ∧ ZBC H' sm x z v) ∧
     ∀ j : Nat, j < i + 1 → (has kvs' (b + (j : Int) * y) (b + (j : Int) * y + y) = true ↔ Kin kvs (b + (j : Int) * y) (b + (j : Int) * y + y)) := fun {H'} ht hk => by
    refine ⟨by omega, fun x z v h => ?_, fun j hj => ?_⟩
    ·obtain ⟨⟨j, hj, e1, e2⟩, g⟩ := hG3 _ _ _ h
     exact ⟨⟨j, by omega, e1, e2⟩, g.tups ht⟩
    ·by_cases e : j = i
     ·subst e
      rw [hX]
      refine ⟨fun h => ?_, fun h => absurd h hk⟩
      unfold has at h
      obtain ⟨v, hv⟩ := Option.isSome_iff_exists.mp h
      obtain ⟨⟨j', hj', e1, _⟩, _⟩ := hG3 _ _ _ hv
      have h1 : (j : Int) * y = (j' : Int) * y := by omega
      have := Int.eq_of_mul_eq_mul_right (by omega) h1
      omega
     ·exact hI3 j (by omega)
   have g2 : (2 : Nat) ≤ sizeLine := by decide
   have hM : X ≤ (X + (X + y)) / 2 ∧ (X + (X + y)) / 2 ≤ X + y := by omega
   walk_at "w"
   refine ZR g2 fun u4 H4 n4 f4 S4 => ?_
   walk_at "w"
   refine ZEp (k := kx X (X + y)) (S4 _ _ hd3) f4 ?_
   cases hk : Zh kvs (kx X (X + y)) with
   | some v =>
    walk_at "w"
    refine YJ ?_
    walk_at "w"
    refine ZR g2 fun u5 H5 n5 f5 S5 => ?_
    have hd5 := S5 _ _ (S4 _ _ hd3)
    walk_at "w"
    refine ⟨d, v, rfl, by rw [← hk]; exact YY.t (k := kx X (X + y)) hd5 f5, ?_⟩
    walk_at "w"
    refine ZR g2 fun u6 H6 n6 f6 S6 => ?_
    have S36 := (S4.trans S5).trans S6
    have f36 := S36 _ _ f3
    walk_at "w"
    refine ZA0 (k := kx X (X + y)) f36 f6 hz fun H7 f7 K7 => ?_
    have nt7 : ∀ b xs, H3 b = some (.tup xs) → H7 b = some (.tup xs) := fun b xs e => K7 _ _ (S36 _ _ e) (ntd f3 e)
    walk_at "w"
    exact ⟨⟨_, _, _, rfl⟩, (K3.then S36).trans K7, _, f7, hold f7 ((hg _ _ _ hk).tups fun b xs e => nt7 _ _ (nt03 _ _ e)) nt7 (.inl (ZBD hk))⟩
   | none =>
    walk_at "w"
    refine Z1 ?_
    walk_at "w"
    refine ZR g2 fun u5 H5 n5 f5 S5 => ?_
    have hd5 := S5 _ _ (S4 _ _ hd3)
    walk_at "w"
    refine ZEp (k := kx X ((X + (X + y)) / 2)) hd5 f5 ?_
    cases hk1 : Zh kvs (kx X ((X + (X + y)) / 2)) with
    | none =>
     have S35 := S4.trans S5
     walk_at "w"
     refine Z1 ?_
     walk_at "w"
     exact ⟨⟨_, _, _, rfl⟩, K3.then S35, _, S35 _ _ f3, hskip (fun b xs e => S35 _ _ e) fun z => by
      rcases z with z | z
      ·rw [ZBE hk] at z; cases z
      ·rw [ZBE hk1] at z; cases z.1⟩
    | some v1 =>
     walk_at "w"
     refine YJ ?_
     walk_at "w"
     refine ZR g2 fun u6 H6 n6 f6 S6 => ?_
     have hd6 := S6 _ _ hd5
     have S36 := (S4.trans S5).trans S6
     walk_at "w"
     refine ZEp (k := kx ((X + (X + y)) / 2) (X + y)) hd6 f6 ?_
     cases hk2 : Zh kvs (kx ((X + (X + y)) / 2) (X + y)) with
     | none =>
      walk_at "w"
      refine Z1 ?_
      walk_at "w"
      exact ⟨⟨_, _, _, rfl⟩, K3.then S36, _, S36 _ _ f3, hskip (fun b xs e => S36 _ _ e) fun z => by
       rcases z with z | z
       ·rw [ZBE hk] at z; cases z
       ·rw [ZBE hk2] at z; cases z.2⟩
     | some v2 =>
      walk_at "w"
      refine YJ ?_
      walk_at "w"
      refine ZR g2 fun u7 H7 n7 f7 S7 => ?_
      have hd7 := S7 _ _ hd6
      walk_at "w"
      refine ⟨d, v1, rfl, by rw [← hk1]; exact YY.t (k := kx X ((X + (X + y)) / 2)) hd7 f7, ?_⟩
      walk_at "w"
      refine ZR g2 fun u8 H8 n8 f8 S8 => ?_
      have hd8 := S8 _ _ hd7
      have S38 := (S36.trans S7).trans S8
      walk_at "w"
      refine ⟨d, v2, rfl, by rw [← hk2]; exact YY.t (k := kx ((X + (X + y)) / 2) (X + y)) hd8 f8, ?_⟩
      obtain ⟨o1, i1, i2⟩ := (hg _ _ _ hk1).tups (H' := H8) fun b xs e => S38 _ _ (nt03 _ _ e)
      obtain ⟨o2, j1, j2⟩ := (hg _ _ _ hk2).tups (H' := H8) fun b xs e => S38 _ _ (nt03 _ _ e)
      walk_at "w"
      refine ⟨v1, v2, o1, o2, _, _, rfl, i1, i2, j1, j2, ZGt, fun v9 o9 H9 h9 g9 S9 => ?_⟩
      walk_at "w"
      refine ZR g2 fun u10 H10 n10 f10 S10 => ?_
      have S310 := (S38.trans S9).trans S10
      have f310 := S310 _ _ f3
      walk_at "w"
      refine ZA0 (k := kx X (X + y)) f310 f10 hz fun H11 f11 K11 => ?_
      have nt11 : ∀ b xs, H10 b = some (.tup xs) → H11 b = some (.tup xs) := fun b xs e => K11 _ _ e (ntd f310 e)
      walk_at "w"
      exact ⟨⟨_, _, _, rfl⟩, (K3.then S310).trans K11, _, f11, hold f11 ⟨o9, (h9.tups fun b xs e => S10 _ _ e).tups nt11, g9.congr fun r => ZEV hM.1 hM.2 r⟩ (fun b xs e => nt11 _ _ (S310 _ _ e)) (.inr ⟨ZBD hk1, ZBD hk2⟩)⟩
  ·rintro σ H3 ⟨⟨v3, v4, v5, rfl⟩, K3, kvs', f3, hl3, hG3, hI3⟩
   rw [hul] at hl3 hG3 hI3
   walk_at "w"
   refine k d' kvs' H3 n1 f3 hl3 (fun x z v h => ?_) (fun x z h => ?_) fun b o e => K3 _ _ (S02 _ _ e) (ZY e n1)
   ·obtain ⟨⟨j, hj, e1, e2⟩, g⟩ := hG3 _ _ _ h
    exact ⟨⟨j, by omega, by omega, e1, e2⟩, g⟩
   ·obtain ⟨j, h0, h1, rfl, rfl⟩ := h
    have := hI3 j.toNat (by omega)
    rwa [Int.toNat_of_nonneg h0] at this
end
def vfl (s q d : Addr) (n e : Int) : List (Str × V) := [("source", V.ref s), ("window", V.ref q), ("asked", V.int n), ("known", V.ref d), ("seen", V.int e)]
section
variable {s q d q' d' : Addr} {n e n' e' : Int}
theorem vn1 : (("window" : Str) == "source") = false := by decide +kernel
theorem vn2 : (("asked" : Str) == "source") = false := by decide +kernel
theorem vn3 : (("asked" : Str) == "window") = false := by decide +kernel
theorem vn4 : (("known" : Str) == "source") = false := by decide +kernel
theorem vn5 : (("known" : Str) == "window") = false := by decide +kernel
theorem vn6 : (("known" : Str) == "asked") = false := by decide +kernel
theorem vn7 : (("seen" : Str) == "source") = false := by decide +kernel
theorem vn8 : (("seen" : Str) == "window") = false := by decide +kernel
theorem vn9 : (("seen" : Str) == "asked") = false := by decide +kernel
theorem ZM5 : (("seen" : Str) == "known") = false := by decide +kernel
theorem ZCV : (vfl s q d n e).lookup ("source" : Str) = some (.ref s) := by
 unfold vfl
 rw [List.lookup_cons, beq_self_eq_true]
theorem ZAs : (vfl s q d n e).lookup ("window" : Str) = some (.ref q) := by
 unfold vfl
 rw [List.lookup_cons, vn1, List.lookup_cons, beq_self_eq_true]
theorem ZBS : (vfl s q d n e).lookup ("asked" : Str) = some (.int n) := by
 unfold vfl
 rw [List.lookup_cons, vn2, List.lookup_cons, vn3, List.lookup_cons, beq_self_eq_true]
theorem ZC6 : (vfl s q d n e).lookup ("known" : Str) = some (.ref d) := by
 unfold vfl
 rw [List.lookup_cons, vn4, List.lookup_cons, vn5, List.lookup_cons, vn6, List.lookup_cons, beq_self_eq_true]
theorem ZHI : (vfl s q d n e).lookup ("seen" : Str) = some (.int e) := by
 unfold vfl
 rw [List.lookup_cons, vn7, List.lookup_cons, vn8, List.lookup_cons, vn9, List.lookup_cons, ZM5, List.lookup_cons, beq_self_eq_true]
theorem Ym {m : Str} (h1 : (m == ("source" : Str)) = false) (h2 : (m == ("window" : Str)) = false) (h3 : (m == ("asked" : Str)) = false) (h4 : (m == ("known" : Str)) = false) (h5 : (m == ("seen" : Str)) = false) : (vfl s q d n e).lookup m = none := by
 unfold vfl
 rw [List.lookup_cons, h1, List.lookup_cons, h2, List.lookup_cons, h3, List.lookup_cons, h4, List.lookup_cons, h5]
 rfl
theorem ZCW (f : Str) (v u : V) (r : List (Str × V)) : Zn f v ((f, u) :: r) = (f, v) :: r := by
 show (if f = f then _ else _) = _
 rw [if_pos rfl]
theorem Zy {f g : Str} (h : (f == g) = false) (v u : V) (r : List (Str × V)) : Zn f v ((g, u) :: r) = (g, u) :: Zn f v r := by
 show (if g = f then _ else _) = _
 rw [if_neg (fun z => by rw [z, beq_self_eq_true] at h; cases h)]
theorem ZBF (f : Str) (v : V) : Zn f v [] = [(f, v)] := rfl
theorem ZM6 : Zn "window" (.ref q') (vfl s q d n e) = vfl s q' d n e := by
 unfold vfl
 rw [Zy vn1, ZCW]
theorem ZM7 : Zn "asked" (.int n') (vfl s q d n e) = vfl s q d n' e := by
 unfold vfl
 rw [Zy vn2, Zy vn3, ZCW]
theorem ZM8 : Zn "known" (.ref d') (vfl s q d n e) = vfl s q d' n e := by
 unfold vfl
 rw [Zy vn4, Zy vn5, Zy vn6, ZCW]
theorem ZM9 : Zn "seen" (.int e') (vfl s q d n e) = vfl s q d n e' := by
 unfold vfl
 rw [Zy vn7, Zy vn8, Zy vn9, Zy ZM5, ZCW]
theorem ZPg : Zn "seen" (.int e) (Zn "known" (.ref d) (Zn "asked" (.int n) (Zn "window" (.ref q) (Zn "source" (.ref s) [])))) = vfl s q d n e := by
 unfold vfl
 rw [ZBF, Zy vn1, ZBF, Zy vn2, Zy vn3, ZBF, Zy vn4, Zy vn5, Zy vn6, ZBF, Zy vn7, Zy vn8, Zy vn9, Zy ZM5, ZBF]
end
def ZD3 (H : Hp) (kvs : List (List Key × V)) (sm : List (Int × Int)) (b y m : Int) (bad : List Int) : Prop :=
 ∀ x z u, Zh kvs (kx x z) = some u → Col b y m x z ∧ ((∃ t ∈ bad, x ≤ t ∧ t < z) ∨ ZBC H sm x z u)
theorem ZD3.tups {H H' : Hp} {kvs : List (List Key × V)} {sm : List (Int × Int)} {b y m : Int} {bad : List Int} (h : ZD3 H kvs sm b y m bad) (t : ∀ b xs, H b = some (.tup xs) → H' b = some (.tup xs)) : ZD3 H' kvs sm b y m bad := fun x z u e =>
 ⟨(h x z u e).1, (h x z u e).2.imp id fun g => g.tups t⟩
def Z6 (a : Ad) (H : Hp) (S : SA) (v d : Addr) (b y m n : Int) (kvs : List (List Key × V)) (e : Nat) (sm : List (Int × Int)) (ts : List Int) : Prop :=
 ∃ dx q, H v = some (.ins a.C_View dx (vfl S.p q d n (e : Int))) ∧ Yl H q b y m ∧ H d = some (.dT kvs) ∧ ZD3 H kvs sm b y m (ts.drop e) ∧ v ∉ S.p :: S.own ∧ d ∉ S.p :: S.own
section
variable {a : Ad} {H H' : Hp} {S : SA} {v d : Addr} {b y m n : Int} {kvs : List (List Key × V)} {e : Nat} {sm : List (Int × Int)} {ts : List Int}
theorem Z6.frL (h : Z6 a H S v d b y m n kvs e sm ts) {l : List Addr} (f : FrL l H H') (nv : v ∉ l) (nd : d ∉ l) (nt : ∀ b ∈ l, ∀ xs, H b ≠ some (.tup xs)) : Z6 a H' S v d b y m n kvs e sm ts := by
 obtain ⟨dx, q, h1, h2, h3, h4, h5⟩ := h
 have kt : ∀ b xs, H b = some (.tup xs) → H' b = some (.tup xs) := fun b xs e => f _ _ e fun z => nt b z xs e
 exact ⟨dx, q, f _ _ h1 nv, ⟨kt _ _ h2.1, h2.2⟩, f _ _ h3 nd, h4.tups kt, h5⟩
theorem Z6.same (h : Z6 a H S v d b y m n kvs e sm ts) (s : ZK H H') : Z6 a H' S v d b y m n kvs e sm ts := h.frL (l := []) (FrL.same s) (by simp) (by simp) (by simp)
theorem Z6.ne (h : Z6 a H S v d b y m n kvs e sm ts) : v ≠ d := fun z => by
 obtain ⟨dx, q, h1, h2, h3, _⟩ := h
 rw [z, h3] at h1; cases h1
theorem Z6.noTup (h : Z6 a H S v d b y m n kvs e sm ts) : ∀ b ∈ [v, d], ∀ xs, H b ≠ some (.tup xs) := by
 obtain ⟨dx, q, h1, h2, h3, _⟩ := h
 intro b hb xs e
 simp only [List.mem_cons, List.not_mem_nil, or_false] at hb
 rcases hb with rfl | rfl
 ·rw [h1] at e; cases e
 ·rw [h3] at e; cases e
end
theorem JJ {H : Hp} {q : Addr} {b y m : Int} (h : Yl H q b y m) : y ≤ 2199023255552 := by
 obtain ⟨_, hy, h1, h2, hb, he⟩ := h
 have : 0 ≤ (m - 1) * y := Int.mul_nonneg (by omega) (by omega)
 rw [Int.sub_mul, Int.one_mul] at this
 unfold InT at hb he
 omega
theorem ZNA (xs : List V) (e : Nat) : JT xs (some (e : Int)) none = xs.drop e := by
 unfold JT
 rw [HT.sIx_nat, HT.sIx_none]
 by_cases h : e ≤ xs.length
 ·rw [Nat.min_eq_left h, List.take_of_length_le (by rw [List.length_drop]; exact Nat.le_refl _)]
 ·rw [Nat.min_eq_right (by omega), List.drop_length, List.take_nil, List.drop_of_length_le (by omega)]
theorem col_of {b y m x z t : Int} (hy : 0 < y) (h : Col b y m x z) (h1 : x ≤ t) (h2 : t < z) : 0 ≤ (t - b) / y ∧ (t - b) / y < m ∧ x = b + (t - b) / y * y ∧ z = b + (t - b) / y * y + y := by
 obtain ⟨k, k0, k1, rfl, rfl⟩ := h
 have hk : (t - b) / y = k := by
  have hq := Int.mul_ediv_add_emod (t - b) y
  have r0 := Int.emod_nonneg (t - b) (by omega : y ≠ 0)
  have r1 := Int.emod_lt_of_pos (t - b) hy
  generalize (t - b) / y = c at hq
  rw [Int.mul_comm] at hq
  rcases Int.lt_trichotomy c k with h | h | h
  ·have := Int.mul_le_mul_of_nonneg_right (show c + 1 ≤ k by omega) (show 0 ≤ y by omega)
   rw [Int.add_mul, Int.one_mul] at this
   omega
  ·exact h
  ·have := Int.mul_le_mul_of_nonneg_right (show k + 1 ≤ c by omega) (show 0 ≤ y by omega)
   rw [Int.add_mul, Int.one_mul] at this
   omega
 rw [hk]
 exact ⟨k0, k1, rfl, rfl⟩
theorem ZKx {b y t : Int} (hy : 0 < y) : b + (t - b) / y * y ≤ t ∧ t < b + (t - b) / y * y + y := by
 have hq := Int.mul_ediv_add_emod (t - b) y
 have r0 := Int.emod_nonneg (t - b) (by omega : y ≠ 0)
 have r1 := Int.emod_lt_of_pos (t - b) hy
 rw [Int.mul_comm] at hq
 omega
theorem ZNB {kvs : List (List Key × V)} {x z x' z' : Int} : has (Yn kvs (kx x z)) x' z' = (!decide (x' = x ∧ z' = z) && has kvs x' z') := by
 unfold has
 rw [ZC5]
 by_cases e : kx x' z' = kx x z
 ·rw [if_pos e, decide_eq_true (ZEa e)]; rfl
 ·rw [if_neg e, decide_eq_false (fun h => e (by rw [h.1, h.2]))]; rfl
def hit (bad : List Int) (x z : Int) : Prop := ∃ t ∈ bad, x ≤ t ∧ t < z
def ZNC (a : Ad) : Sp := fun vs H Q _ => ∃ (S : SA) (v d : Addr) (b y m k n : Int) (kvs : List (List Key × V)) (e : Nat) (sm : List (Int × Int)) (c : Nat) (ds : List (Int × Option Int)) (ts : List Int) (ws : List V), vs = [.ref v] ∧ ZH a H S n sm c ds ts ws ∧ Z6 a H S v d b y m k kvs e sm ts ∧ ts.length ≤ 10000 ∧
 ∀ kvs' H', Z6 a H' S v d b y m k kvs' ts.length sm ts → ZH a H' S n sm c ds ts ws → (∀ x z, has kvs' x z = true ↔ has kvs x z = true ∧ ¬ hit (ts.drop e) x z) → kvs'.length ≤ kvs.length → FrL [v, d] H H' → Q .non H'
section
variable {P : Program} {w : World} {K : PySem.W.Frag} {mg : Str → Option Value} {base : Heap} {a : Ad}
local macro_rules | `(tactic| walk_at "rd") => `(tactic| first
 | with_reducible refine Z3 (by assumption) (‹Txt _ _ _›).c_View (‹Txt _ _ _›).n_View_source ZCV ?_
 | with_reducible refine Z3 (by assumption) (‹Txt _ _ _›).c_View (‹Txt _ _ _›).n_View_window ZAs ?_
 | with_reducible refine Z3 (by assumption) (‹Txt _ _ _›).c_View (‹Txt _ _ _›).n_View_asked ZBS ?_
 | with_reducible refine Z3 (by assumption) (‹Txt _ _ _›).c_View (‹Txt _ _ _›).n_View_known ZC6 ?_
 | with_reducible refine Z3 (by assumption) (‹Txt _ _ _›).c_View (‹Txt _ _ _›).n_View_seen ZHI ?_
 | with_reducible refine ZKh ?_)
theorem Jl : ZP ["self", "times", "t", "k"] ["self"] (ZF ZAg) := ⟨rfl, rfl, rfl, by decide +kernel, rfl, by decide +kernel, by decide +kernel⟩
theorem ZB0 (T : Txt K mg a) : ZQ P w K mg base CX0 3 a.f_View_forget a.d_View_forget ["self"] (ZNC a) := by
 refine T.F_View_forget.ok Jl (fun vs H Q E h => ?_) (fun cdv A outer s H vs Q E hr h => ?_)
 ·obtain ⟨S, v, d, b, y, m, k, n, kvs, e, sm, c, ds, ts, ws, rfl, _⟩ := h
  rfl
 ·obtain ⟨S, v, d, b, y, m, k, n, kvs, e, sm, c, ds, ts, ws, rfl, hS, hV, hlen, kk⟩ := h
  have hu := JE hr
  obtain ⟨dx, q, hv, hW, hd, hk, av, ad⟩ := id hV
  obtain ⟨sx, svs, sp, _⟩ := id hS
  have hy := hW.2.1
  have hy2 := JJ hW
  have hvd := hV.ne
  refine ⟨_, QB.h (ZD (ZM (i := 1) Jl.nd rfl (by walk_at "o") (JH (Zl K rfl (qv 0)) T.c_Store T.M_Store_times (ZEy T) (hr.mono (by decide)) T.b_Store_times .nil ZJ)) (ZD (JP PassesOwn.never rfl (ZGH K rfl (ZGF (ZOq K rfl) (qv 1) (ZEj (Zl K rfl (qv 0))) ZOg)) (ZO (i := 2) Jl.nd rfl (by walk_at "o")) (ZD (ZM (i := 3) Jl.nd rfl (by walk_at "o") (ZG (ZHG T) (hr.mono (by decide)) rfl T.m_column_of T.F_column_of.kp T.b_column_of .nil ZJ (ZA (Zl K rfl (qv 0)) (ZA (qv 2) ZB)))) (ZE (Zk (ZW (ZEh) (qv 3) YN (Zb _)) (ZE (Zc (ZMk hu (Zl K rfl (qv 0)) (ZG (ZDU T) hr rfl T.m_times_of T.F_times_of.kp T.b_times_of .nil ZJ (ZA (Zl K rfl (qv 0)) (ZA (qv 3) ZB))) YN))) Zi)))) (ZE (Yu K rfl (qv 0) (Zo (ZBr K rfl) rfl T.z_len ZAc (ZA (qv 1) ZB)))))), ?_⟩
  walk_at "s"
  walk_at "w"
  refine Zf sp (Jq (by decide +kernel) (by decide +kernel) (by decide +kernel) (by decide +kernel)) ?_
  refine ⟨S, n, sm, c, ds, ts, ws, rfl, hS, fun u H1 f1 S1 => ?_⟩
  have hv1 := S1 _ _ hv
  walk_at "w"
  refine ZKB f1 fun u2 H2 f2 S2 => ?_
  rw [ZNA, ← List.map_drop] at f2
  have S02 := S1.trans S2
  have hv2 := S02 _ _ hv
  have f12 := S2 _ _ f1
  have hW2 : Yl H2 q b y m := ⟨S02 _ _ hW.1, hW.2⟩
  have ntd : ∀ {e : Addr} {xs : List V}, H2 e = some (.tup xs) → e ≠ d := fun g z => by rw [z, S02 _ _ hd] at g; cases g
  walk_at "w"
  refine ZEi (xs := (ts.drop e).map V.int) (fun i σ H' => (∃ v2 v3, σ = [some (.ref v), some (.ref u), v2, v3]) ∧ Kp d H2 H' ∧ ∃ kvs', H' d = some (.dT kvs') ∧ kvs'.length ≤ kvs.length ∧ (∀ x z w, Zh kvs' (kx x z) = some w → Zh kvs (kx x z) = some w) ∧ ∀ x z, has kvs' x z = true ↔ has kvs x z = true ∧ ¬ hit ((ts.drop e).take i) x z) ?_ ?_ ?_ ?_
  ·exact ⟨⟨_, _, rfl⟩, fun _ _ e _ => e, kvs, S02 _ _ hd, Nat.le_refl _, fun _ _ _ h => h, fun x z => ⟨fun h => ⟨h, fun ⟨t, ht, _⟩ => by rw [List.take_zero] at ht; cases ht⟩, fun h => h.1⟩⟩
  ·rintro i σ H3 _ ⟨_, K3, _⟩
   exact SqT.of (K3 _ _ f2 (ntd f2))
  ·rintro i x σ H3 hx ⟨⟨v2, v3, rfl⟩, K3, kvs', f3, hl3, hs3, hh3⟩
   rw [List.getElem?_map] at hx
   obtain ⟨t, ht, rfl⟩ := Option.map_eq_some_iff.mp hx
   have hv3 := K3 _ _ hv2 hvd
   have hW3 := K3 _ _ hW2.1 (ntd hW2.1)
   have htk : ∀ x z, hit ((ts.drop e).take (i + 1)) x z ↔ hit ((ts.drop e).take i) x z ∨ (x ≤ t ∧ t < z) := fun x z => by
    unfold hit
    rw [List.take_succ, ht]
    constructor
    ·rintro ⟨t', h1, h2⟩
     rcases List.mem_append.mp h1 with h1 | h1
     ·exact .inl ⟨t', h1, h2⟩
     ·obtain rfl : t' = t := by simpa using h1
      exact .inr h2
    ·rintro (⟨t', h1, h2⟩ | h)
     ·exact ⟨t', List.mem_append_left _ h1, h2⟩
     ·exact ⟨t, List.mem_append_right _ (by simp), h⟩
   walk_at "w"
   refine ⟨q, b, y, m, t, rfl, hW3, hy, by omega, ?_⟩
   walk_at "w"
   unfold ZHF
   by_cases hc : 0 ≤ (t - b) / y ∧ (t - b) / y < m
   ·rw [if_pos hc]
    walk_at "w"
    refine ZFs (fun _ => ?_) (fun h => by cases h)
    walk_at "w"
    refine ZKi f3 ?_
    walk_at "w"
    refine ⟨q, b, y, m, _, rfl, hW3, hc.1, hc.2, by have := hW.2.2.2.1; omega, fun u4 H4 n4 f4 S4 => ?_⟩
    walk_at "w"
    refine ZMl (k := kx (b + (t - b) / y * y) (b + (t - b) / y * y + y)) (S4 _ _ f3) f4 fun w5 H5 f5 K5 => ?_
    walk_at "w"
    refine ⟨⟨_, _, rfl⟩, (K3.then S4).trans K5, _, f5, Nat.le_trans (List.length_filter_le _ _) hl3, fun x z w h => ?_, fun x z => ?_⟩
    ·rw [ZC5] at h
     split at h
     ·cases h
     ·exact hs3 _ _ _ h
    ·rw [ZNB, htk, Bool.and_eq_true, hh3]
     have hin := ZKx (b := b) (t := t) hy
     constructor
     ·rintro ⟨h1, h2, h3⟩
      refine ⟨h2, fun h => ?_⟩
      rcases h with h | h
      ·exact h3 h
      ·obtain ⟨w, hw⟩ := Option.isSome_iff_exists.mp h2
       obtain ⟨_, _, e1, e2⟩ := col_of hy (hk _ _ _ hw).1 h.1 h.2
       rw [decide_eq_true ⟨e1, e2⟩] at h1
       cases h1
     ·rintro ⟨h1, h2⟩
      refine ⟨?_, h1, fun h => h2 (.inl h)⟩
      rw [decide_eq_false (fun h => h2 (.inr (by rw [h.1, h.2]; exact hin)))]
      rfl
   ·rw [if_neg hc]
    walk_at "w"
    refine ZFs (fun h => absurd rfl h) (fun _ => ?_)
    walk_at "w"
    refine ⟨⟨_, _, rfl⟩, K3, _, f3, hl3, hs3, fun x z => ?_⟩
    rw [htk, hh3]
    refine and_congr_right fun h1 => not_congr ⟨.inl, fun h => ?_⟩
    rcases h with h | h
    ·exact h
    ·obtain ⟨w, hw⟩ := Option.isSome_iff_exists.mp h1
     obtain ⟨e1, e2, _⟩ := col_of hy (hk _ _ _ hw).1 h.1 h.2
     exact absurd ⟨e1, e2⟩ hc
  ·rintro σ H3 ⟨⟨v2, v3, rfl⟩, K3, kvs', f3, hl3, hs3, hh3⟩
   rw [List.length_map, List.take_length] at hh3
   have hv3 := K3 _ _ hv2 hvd
   have f13 := K3 _ _ f12 (ntd f12)
   walk_at "w"
   refine Yg hv3 T.c_View T.n_View_seen (by show 5 < 1000; decide) fun H4 f4 K4 => ?_
   rw [ZM9, List.length_map] at f4
   have F02 : FrL [v, d] H H4 := ((FrL.same S02).trans (FrL.kp K3 (by simp))).trans (FrL.kp K4 (by simp))
   have kt : ∀ b xs, H b = some (.tup xs) → H4 b = some (.tup xs) := fun b xs e => F02 _ _ e fun z => hV.noTup b z xs e
   have hF : ∀ x z u, Zh kvs' (kx x z) = some u → Col b y m x z ∧ ZBC H sm x z u := fun x z u h => by
    obtain ⟨h1, h2⟩ := hk _ _ _ (hs3 _ _ _ h)
    refine ⟨h1, h2.resolve_left fun hh => ?_⟩
    exact ((hh3 x z).mp (ZBD h)).2 hh
   walk_at "w"
   refine kk kvs' H4 ⟨dx, q, f4, ⟨kt _ _ hW.1, hW.2⟩, K4 _ _ f3 (Ne.symm hvd), fun x z u h => ⟨(hF x z u h).1, .inr ((hF x z u h).2.tups kt)⟩, av, ad⟩ (hS.frL F02 (fun b hb => ?_) hV.noTup) hh3 hl3 F02
   simp only [List.mem_cons, List.not_mem_nil, or_false] at hb
   rcases hb with rfl | rfl
   ·exact av
   ·exact ad
end
def ZAG (kvs : List (List Key × V)) (b y : Int) (N : Nat) : Nat := ((ZAX b y N).filter fun p => !has kvs p.1 p.2).length
theorem ZFJ (kvs : List (List Key × V)) (b y : Int) (i : Nat) : ZAG kvs b y (i + 1) = ZAG kvs b y i + if has kvs (b + (i : Int) * y) (b + (i : Int) * y + y) = true then 0 else 1 := by
 unfold ZAG
 rw [ZEX, List.filter_append, List.length_append]
 congr 1
 cases hh : has kvs (b + (i : Int) * y) (b + (i : Int) * y + y) with
 | true => rw [List.filter_cons_of_neg (by simp [hh])]; rfl
 | false => rw [List.filter_cons_of_pos (by simp [hh])]; rfl
def ZND (a : Ad) : Sp := fun vs H Q _ => ∃ (S : SA) (v d : Addr) (b y m k n : Int) (kvs : List (List Key × V)) (e : Nat) (sm : List (Int × Int)) (c : Nat) (ds : List (Int × Option Int)) (ts : List Int) (ws : List V), vs = [.ref v] ∧ ZH a H S n sm c ds ts ws ∧ Z6 a H S v d b y m k kvs e sm ts ∧ ts.length ≤ 10000 ∧ kvs.length ≤ 100000 ∧
 ∀ (u : Addr) (us : List V) (fs : List (Option (List (Int × Int)))) (kvs1 kvs' : List (List Key × V)) (n' : Int) (H' : Hp), H' u = some (.tup us) → Z2 H' us fs → ZAe sm b y m.toNat fs → (∀ x z, has kvs1 x z = true ↔ has kvs x z = true ∧ ¬ hit (ts.drop e) x z) →
  Z6 a H' S v d b y m (k + (ZAG kvs1 b y m.toNat : Int)) kvs' ts.length sm ts → ZH a H' S n' sm c ds ts ws → (∀ x z, Col b y m x z → has kvs' x z = true) → kvs'.length ≤ kvs.length + m.toNat → FrL [v, d, S.tr] H H' → Q (.ref u) H'
section
variable {P : Program} {w : World} {K : PySem.W.Frag} {mg : Str → Option Value} {base : Heap} {a : Ad}
local macro_rules | `(tactic| walk_at "rd") => `(tactic| first
 | with_reducible refine Z3 (by assumption) (‹Txt _ _ _›).c_View (‹Txt _ _ _›).n_View_source ZCV ?_
 | with_reducible refine Z3 (by assumption) (‹Txt _ _ _›).c_View (‹Txt _ _ _›).n_View_window ZAs ?_
 | with_reducible refine Z3 (by assumption) (‹Txt _ _ _›).c_View (‹Txt _ _ _›).n_View_asked ZBS ?_
 | with_reducible refine Z3 (by assumption) (‹Txt _ _ _›).c_View (‹Txt _ _ _›).n_View_known ZC6 ?_
 | with_reducible refine Z3 (by assumption) (‹Txt _ _ _›).c_View (‹Txt _ _ _›).n_View_seen ZHI ?_)
theorem Js : ZP ["self", "columns", "first", "behind"] ["self"] (ZF ZAD) := ⟨rfl, rfl, rfl, by decide +kernel, rfl, by decide +kernel, by decide +kernel⟩
theorem ZFj (T : Txt K mg a) : ZQ P w K mg base CX0 7 a.f_View_fours a.d_View_fours ["self"] (ZND a) := by
 refine T.F_View_fours.ok Js (fun vs H Q E h => ?_) (fun cdv A outer s H vs Q E hr h => ?_)
 ·obtain ⟨S, v, d, b, y, m, k, n, kvs, e, sm, c, ds, ts, ws, rfl, _⟩ := h
  rfl
 ·obtain ⟨S, v, d, b, y, m, k, n, kvs, e, sm, c, ds, ts, ws, rfl, hS, hV, hlen, hkl, kk⟩ := h
  have hu := JE hr
  obtain ⟨dx, q, hv, hW, hd, hk, av, ad⟩ := id hV
  have hvd := hV.ne
  have tro : S.tr ∈ S.p :: S.own := by simp [SA.own]
  have hvt : v ≠ S.tr := fun z => av (z ▸ tro)
  have hdt : d ≠ S.tr := fun z => ad (z ▸ tro)
  have apart : ∀ b ∈ [v, d], b ∉ S.p :: S.own := fun b hb => by
   simp only [List.mem_cons, List.not_mem_nil, or_false] at hb
   rcases hb with rfl | rfl
   ·exact av
   ·exact ad
  refine ⟨_, QB.h (ZD (Zc (JH (qv 0) T.c_View T.M_View_forget (ZB0 T) (hr.mono (by decide)) T.b_View_forget .nil ZJ)) (ZD (ZM (i := 1) Js.nd rfl (by walk_at "o") (ZG (ZAk T) (hr.mono (by decide)) rfl T.m_columns_of T.F_columns_of.kp T.b_columns_of .nil ZJ (ZA (Zl K rfl (qv 0)) ZB))) (ZD (JP PassesOwn.never rfl (Y4 K rfl (qv 1)) (YS (n := 2) K rfl rfl (ZT (ZO (i := 2) Js.nd rfl (by walk_at "o")) (ZT (ZO (i := 3) Js.nd rfl (by walk_at "o")) YE))) (ZE (Zk (ZW (ZEW hu) (Zg (ZA (qv 2) (ZA (qv 3) ZB))) (Zl K rfl (qv 0)) (by with_unfolding_all rfl)) (ZD (J5 hu (Zw (Zl K rfl (qv 0)) T.c_Store T.M_Store_four (ZFi T) hr T.b_Store_four .nil ZJ (ZA (qv 2) (ZA (qv 3) ZB))) (Zl K rfl (qv 0)) (Zg (ZA (qv 2) (ZA (qv 3) ZB)))) (ZE (ZFD K rfl (qv 0) ZC))) Zi))) (ZE (ZZ (Ji (ZAN K rfl) rfl T.z_tuple ZAI (ZA (Jj (N := ["self", "columns", "first", "behind"]) (sc := ZF ZAD) (own := ["times"]) (caps := ["self"]) (ks := [0]) rfl rfl rfl ⟨rfl, by decide +kernel, by decide +kernel, by decide +kernel, by decide +kernel, rfl, by decide +kernel⟩ (Y4 K rfl (qv 1)) (fun _ _ _ _ _ => ZO (i := 0) (show List.Nodup (α := Str) ["times", "self"] from by decide +kernel) rfl (by walk_at "o") (.inr rfl)) (fun _ _ _ _ _ => ZAM) (fun _ _ _ _ _ => ZAP hu (Zl K rfl (qv 1)) (qv 0))) ZB))))))), ?_⟩
  walk_at "s"
  walk_at "w"
  refine Zf hv (Ym (by decide +kernel) (by decide +kernel) (by decide +kernel) (by decide +kernel) (by decide +kernel)) ?_
  refine ⟨S, v, d, b, y, m, k, n, kvs, e, sm, c, ds, ts, ws, rfl, hS, hV, hlen, fun kvs1 H1 hV1 hS1 hh1 hl1 F1 => ?_⟩
  obtain ⟨dx1, q1, hv1, hW1, hd1, hk1, _⟩ := id hV1
  obtain ⟨hq1, hy, hm1, hm2, hb, he⟩ := id hW1
  walk_at "w"
  refine ⟨q1, b, y, m, rfl, hq1, hm1, by omega, fun l us0 H2 n2 f2 hP2 S2 => ?_⟩
  have hul : us0.length = m.toNat := by rw [hP2.length, ZAf]
  have lne : l ∉ [v, d, S.tr] := fun z => by
   simp only [List.mem_cons, List.not_mem_nil, or_false] at z
   obtain ⟨o, ho⟩ := hS1.live _ tro
   rcases z with rfl | rfl | rfl
   ·rw [hv1] at n2; cases n2
   ·rw [hd1] at n2; cases n2
   ·rw [ho] at n2; cases n2
  have hV2 := hV1.same S2
  have hS2 := hS1.same S2
  have nt2 : ∀ b ∈ [v, d, S.tr], ∀ xs, H2 b ≠ some (.tup xs) := fun b hb xs => by
   simp only [List.mem_cons, List.not_mem_nil, or_false] at hb
   rcases hb with rfl | rfl | rfl
   ·exact hV2.noTup _ (by simp) xs
   ·exact hV2.noTup _ (by simp) xs
   ·exact hS2.noTup _ (by simp [SA.own]) xs
  walk_at "w"
  refine ZBo (xs := us0) (fun i σ H' => (∃ v2 v3, σ = [some (.ref v), some (.ref l), v2, v3]) ∧ FrL [v, d, S.tr] H2 H' ∧ ∃ kvs' n', Z6 a H' S v d b y m (k + (ZAG kvs1 b y i : Int)) kvs' ts.length sm ts ∧ ZH a H' S n' sm c ds ts ws ∧ kvs'.length ≤ kvs1.length + i ∧
   ∀ x z, has kvs' x z = true ↔ has kvs1 x z = true ∨ ∃ j : Nat, j < i ∧ x = b + (j : Int) * y ∧ z = b + (j : Int) * y + y) ?_ ?_ ?_ ?_
  ·refine ⟨⟨_, _, rfl⟩, fun _ _ e _ => e, kvs1, n, ?_, hS2, Nat.le_refl _, fun x z => ⟨.inl, fun h => h.resolve_right fun ⟨j, hj, _⟩ => by omega⟩⟩
   rw [show ZAG kvs1 b y 0 = 0 from rfl]
   simpa using hV2
  ·rintro i σ H3 _ ⟨_, F3, _⟩
   exact SqL.of (F3 _ _ f2 lne)
  ·rintro i x σ H3 hx ⟨⟨v2, v3, rfl⟩, F3, kvs', n3, hV3, hS3, hl3, hh3⟩
   obtain ⟨cc, pq, rfl, hpq, hc⟩ := hP2.at hx
   have hil : i < m.toNat := by rw [← hul]; exact (List.getElem?_eq_some_iff.mp hx).1
   obtain rfl := ZCT hpq
   have hc3 := F3 _ _ hc fun z => nt2 _ z _ hc
   obtain ⟨w1, w2⟩ := hW1.col (k := (i : Int)) (by omega) (by omega)
   obtain ⟨dx3, q3, hv3, hW3, hd3, hk3, _⟩ := id hV3
   have hms := ZFJ kvs1 b y i
   have hnj : ∀ j : Nat, j < i → ¬ (b + (i : Int) * y = b + (j : Int) * y ∧ b + (i : Int) * y + y = b + (j : Int) * y + y) := fun j hj z => by
    have h1 : (i : Int) * y = (j : Int) * y := by omega
    have := Int.eq_of_mul_eq_mul_right (by omega) h1
    omega
   have hcol : Col b y m (b + (i : Int) * y) (b + (i : Int) * y + y) := ⟨i, by omega, by omega, rfl, rfl⟩
   have hsucc : ∀ x z, (∃ j : Nat, j < i + 1 ∧ x = b + (j : Int) * y ∧ z = b + (j : Int) * y + y) ↔ (∃ j : Nat, j < i ∧ x = b + (j : Int) * y ∧ z = b + (j : Int) * y + y) ∨ (x = b + (i : Int) * y ∧ z = b + (i : Int) * y + y) := fun x z => by
    constructor
    ·rintro ⟨j, hj, e1, e2⟩
     by_cases ej : j = i
     ·subst ej; exact .inr ⟨e1, e2⟩
     ·exact .inl ⟨j, by omega, e1, e2⟩
    ·rintro (⟨j, hj, e⟩ | e)
     ·exact ⟨j, by omega, e⟩
     ·exact ⟨i, by omega, e⟩
   generalize b + (i : Int) * y = X at *
   have g2 : (2 : Nat) ≤ sizeLine := by decide
   walk_at "w"
   refine ZR g2 fun u4 H4 n4 f4 S4 => ?_
   have hv4 := S4 _ _ hv3
   have hd4 := S4 _ _ hd3
   walk_at "w"
   refine ZI4 (k := kx X (X + y)) hd4 f4 ?_
   cases hkx : Zh kvs' (kx X (X + y)) with
   | some w =>
    walk_at "w"
    refine Z1 ?_
    walk_at "w"
    have hh : has kvs1 X (X + y) = true := ((hh3 _ _).mp (ZBD hkx)).resolve_right fun ⟨j, hj, e⟩ => hnj j hj e
    rw [if_pos hh] at hms
    refine ⟨⟨_, _, rfl⟩, F3.trans (FrL.same S4), kvs', n3, ?_, hS3.same S4, by omega, fun x z => ?_⟩
    ·rw [hms]; exact hV3.same S4
    ·rw [hh3, hsucc]
     constructor
     ·rintro (h | h)
      ·exact .inl h
      ·exact .inr (.inl h)
     ·rintro (h | h | ⟨rfl, rfl⟩)
      ·exact .inl h
      ·exact .inr h
      ·exact .inl hh
   | none =>
    obtain ⟨sx, svs, sp, _⟩ := id (hS3.same S4)
    walk_at "w"
    refine YJ ?_
    walk_at "w"
    refine Zf sp (Jq (by decide +kernel) (by decide +kernel) (by decide +kernel) (by decide +kernel)) ?_
    walk_at "w"
    refine ⟨S, n3, _, _, sm, c, ds, ts, ws, rfl, hS3.same S4, w1, w2, fun v5 o5 n5 H5 h5 g5 hS5 K5 => ?_⟩
    have hv5 := K5 _ _ hv4 hvt
    have hd5 := K5 _ _ hd4 hdt
    walk_at "w"
    refine ZR g2 fun u6 H6 n6 f6 S6 => ?_
    have hd6 := S6 _ _ hd5
    have hv6 := S6 _ _ hv5
    walk_at "w"
    refine ZA0 (k := kx X (X + y)) hd6 f6 (by show _ < 2 ^ 24; omega) fun H7 f7 K7 => ?_
    have hv7 := K7 _ _ hv6 hvd
    walk_at "w"
    refine ZET hv7 T.c_View T.n_View_asked ZBS ?_
    walk_at "w"
    refine ⟨_, _, rfl, rfl, dx3, _, hv7, by show 5 < 1000; decide, ?_⟩
    rw [ZM7]
    have hh : ¬ has kvs1 X (X + y) = true := fun h => by
     have := (hh3 X (X + y)).mpr (.inl h)
     rw [ZBE hkx] at this; cases this
    rw [if_neg hh] at hms
    have f8 : (upd H7 v (.ins a.C_View dx3 (vfl S.p q3 d (k + (ZAG kvs1 b y i : Int) + 1) (ts.length : Int)))) v = some (.ins a.C_View dx3 (vfl S.p q3 d (k + (ZAG kvs1 b y i : Int) + 1) (ts.length : Int))) := ZS
    have K8 : Kp v H7 (upd H7 v (.ins a.C_View dx3 (vfl S.p q3 d (k + (ZAG kvs1 b y i : Int) + 1) (ts.length : Int)))) := Kp.upd
    generalize upd H7 v (.ins a.C_View dx3 (vfl S.p q3 d (k + (ZAG kvs1 b y i : Int) + 1) (ts.length : Int))) = H8 at f8 K8 ⊢
    have F68 : FrL [v, d] H6 H8 := (FrL.kp K7 (by simp)).trans (FrL.kp K8 (by simp))
    have F38 : FrL [v, d, S.tr] H3 H8 := (((FrL.same S4).trans (FrL.kp K5 (by simp))).trans (FrL.same S6)).trans (F68.mono fun b hb => by simp only [List.mem_cons, List.not_mem_nil, or_false] at hb ⊢; rcases hb with h | h <;> simp [h])
    have nt6 : ∀ b ∈ [v, d], ∀ xs, H6 b ≠ some (.tup xs) := fun b hb xs z => by
     simp only [List.mem_cons, List.not_mem_nil, or_false] at hb
     rcases hb with rfl | rfl
     ·rw [hv6] at z; cases z
     ·rw [hd6] at z; cases z
    have kt6 : ∀ b xs, H6 b = some (.tup xs) → H8 b = some (.tup xs) := fun b xs e => F68 _ _ e fun z => nt6 b z xs e
    have kt3 : ∀ b xs, H3 b = some (.tup xs) → H8 b = some (.tup xs) := fun b xs e => kt6 _ _ (S6 _ _ (K5 _ _ (S4 _ _ e) fun z => hS3.noTup b (by rw [z]; simp [SA.own]) xs e))
    have ek : (k + (ZAG kvs1 b y (i + 1) : Int)) = k + (ZAG kvs1 b y i : Int) + 1 := by omega
    walk_at "w"
    refine ⟨⟨_, _, rfl⟩, F3.trans F38, _, n5, ⟨dx3, q3, by rw [ek]; exact f8, ⟨kt3 _ _ hW3.1, hW3.2⟩, K8 _ _ f7 (Ne.symm hvd), fun x z u h => ?_, av, ad⟩, (hS5.same S6).frL F68 apart nt6, ?_, fun x z => ?_⟩
    ·rw [ZAO] at h
     split at h
     ·rename_i e
      obtain ⟨rfl, rfl⟩ := ZEa e
      cases h
      exact ⟨hcol, .inr ⟨o5, (h5.tups fun b xs e => S6 _ _ e).tups kt6, g5⟩⟩
     ·exact ⟨(hk3 _ _ _ h).1, (hk3 _ _ _ h).2.imp id fun g => g.tups kt3⟩
    ·have := JS kvs' (kx X (X + y)) v5
     omega
    ·rw [ZIF, Bool.or_eq_true, decide_eq_true_iff, hh3, hsucc]
     constructor
     ·rintro (h | h | h)
      ·exact .inr (.inr h)
      ·exact .inl h
      ·exact .inr (.inl h)
     ·rintro (h | h | h)
      ·exact .inr (.inl h)
      ·exact .inr (.inr h)
      ·exact .inl h
  ·rintro σ H3 ⟨⟨v2, v3, rfl⟩, F3, kvs', n3, hV3, hS3, hl3, hh3⟩
   rw [hul] at hV3 hl3 hh3
   have hall : ∀ x z, Col b y m x z → has kvs' x z = true := fun x z h => by
    obtain ⟨j, h0, h1, e1, e2⟩ := h
    exact (hh3 x z).mpr (.inr ⟨j.toNat, by omega, by rw [Int.toNat_of_nonneg h0]; exact e1, by rw [Int.toNat_of_nonneg h0]; exact e2⟩)
   have f23 := F3 _ _ f2 lne
   obtain ⟨dx3, q3, hv3, hW3, hd3, hk3, _⟩ := id hV3
   rw [List.drop_length] at hk3
   walk_at "w"
   intro l2 n4
   refine Jh m.toNat (fun i σ' H' => (∃ o1, σ' = [o1, some (.ref v)]) ∧ ZK H3 H' ∧ ∃ vs fs, H' l2 = some (.lst vs) ∧ Z2 H' vs fs ∧ fs.length = i ∧ ∀ (k : Nat) o, fs[k]? = some o → Is4 (YH sm (b + (k : Int) * y) (b + (k : Int) * y + y)) o) ?_ ?_ ?_
   ·exact ⟨⟨none, rfl⟩, ZK.new n4, [], [], ZS, .nil, rfl, fun k o h => by simp at h⟩
   ·rintro σ' H5 ⟨_, S5, vs, fs, f5, hF5, hfl, hO5⟩
    refine ⟨⟨_, SqL.of (S5 _ _ f23), by rw [hul]; exact Nat.le_refl _⟩, ?_⟩
    walk_at "w"
    refine ZAx (SqL.of f5) fun u H6 n6 f6 S6 => ?_
    have S36 := S5.trans S6
    refine kk u vs fs kvs1 kvs' n3 H6 f6 (hF5.same S6) ⟨hfl, hO5⟩ hh1 (hV3.same S36) (hS3.same S36) hall (by omega) ?_
    exact (((F1.mono fun b hb => by simp only [List.mem_cons, List.not_mem_nil, or_false] at hb ⊢; rcases hb with h | h <;> simp [h]).trans (FrL.same S2)).trans F3).trans (FrL.same S36)
   ·rintro i σ' H5 hi ⟨⟨o1, rfl⟩, S5, vs, fs, f5, hF5, hfl, hO5⟩
    have hi2 : i < us0.length := by rw [hul]; exact hi
    have f25 := S5 _ _ f23
    refine ⟨⟨_, _, SqL.of f25, List.getElem?_eq_getElem hi2⟩, ?_⟩
    rintro x H'' ⟨rfl, hx⟩
    have hx := hx _ (SqL.of f25)
    obtain ⟨u, pr, rfl, hpr, f6⟩ := hP2.at hx
    have hpr := ZCT hpr
    subst hpr
    have f65 := S5 _ _ (F3 _ _ f6 fun z => nt2 _ z _ f6)
    have hv5 := S5 _ _ hv3
    have hd5 := S5 _ _ hd3
    have hcol : Col b y m (b + (i : Int) * y) (b + (i : Int) * y + y) := ⟨i, by omega, by omega, rfl, rfl⟩
    obtain ⟨w, hw⟩ := Option.isSome_iff_exists.mp (hall _ _ hcol)
    obtain ⟨o6, g6, i6⟩ := ((hk3 _ _ _ hw).2.resolve_left fun ⟨t, ht, _⟩ => by cases ht).tups (H' := H'') fun b xs e => S5 _ _ e
    walk_at "w"
    refine YJ ?_
    walk_at "w"
    refine ⟨d, w, rfl, by rw [← hw]; exact YY.t (k := kx (b + (i : Int) * y) (b + (i : Int) * y + y)) hd5 f65, ?_⟩
    refine ⟨vs, f5, ?_, ⟨_, rfl⟩, S5.kpN n4 Kp.upd, vs ++ [w], fs ++ [o6], ZS, (hF5.snoc g6).mapP fun _ _ d => d.kpL Kp.upd f5, by simp [hfl], ?_⟩
    ·rw [hF5.len, hfl]
     exact Nat.lt_of_lt_of_le (show i < 100 by omega) (by decide)
    ·intro k' o' h'
     rw [List.getElem?_append] at h'
     split at h'
     ·exact hO5 k' o' h'
     ·have : k' = i := by
       have := (List.getElem?_eq_some_iff.mp h').1
       simp at this
       omega
      subst this
      rw [hfl, Nat.sub_self] at h'
      have : o6 = o' := by simpa using h'
      subst this
      exact i6
end
def ZBi (b y m : Int) : Prop := 0 < y ∧ 1 ≤ m ∧ m ≤ 100 ∧ InT b ∧ InT (b + m * y)
def ZPh (a : Ad) : Sp := fun vs H Q _ => ∃ (S : SA) (p dx q : Addr) (b y m n : Int) (sm : List (Int × Int)) (c : Nat) (ds : List (Int × Option Int)) (ts : List Int) (ws : List V), vs = [.ref p, .ref S.p, .ref q] ∧ H p = some (.ins a.C_View dx []) ∧ ZH a H S n sm c ds ts ws ∧ Yl H q b y m ∧ p ∉ S.p :: S.own ∧
 ∀ d H', H d = none → Z6 a H' S p d b y m 0 [] 0 sm ts → ZH a H' S n sm c ds ts ws → Kp p H H' → Q .non H'
def ZAt (a : Ad) (H : Hp) (S : SA) (v d : Addr) (k n : Int) (kvs : List (List Key × V)) (e : Nat) (sm : List (Int × Int)) (c : Nat) (ds : List (Int × Option Int)) (ts : List Int) (ws : List V) (b' y' m' : Int) (Q : VK) : Prop :=
 ∀ (d' : Addr) (kvs1 kvs' : List (List Key × V)) (H' : Hp), H d' = none → (∀ x z, has kvs1 x z = true ↔ has kvs x z = true ∧ ¬ hit (ts.drop e) x z) → (∀ x z, Col b' y' m' x z → (has kvs' x z = true ↔ Kin kvs1 x z)) → kvs'.length ≤ m'.toNat →
  Z6 a H' S v d' b' y' m' k kvs' ts.length sm ts → ZH a H' S n sm c ds ts ws → FrL [v, d] H H' → Q .non H'
theorem ZAt.at {a : Ad} {H H1 : Hp} {S : SA} {v d : Addr} {k n : Int} {kvs : List (List Key × V)} {e : Nat} {sm : List (Int × Int)} {c : Nat} {ds : List (Int × Option Int)} {ts : List Int} {ws : List V} {b' y' m' : Int} {Q : VK} (h : ZAt a H S v d k n kvs e sm c ds ts ws b' y' m' Q) (s : ZK H H1) : ZAt a H1 S v d k n kvs e sm c ds ts ws b' y' m' Q :=
 fun d' kvs1 kvs' H' n' h1 h2 h3 h4 h5 f => h d' kvs1 kvs' H' (ZPD s n') h1 h2 h3 h4 h5 ((FrL.same s).trans f)
def ZNE (a : Ad) : Sp := fun vs H Q _ => ∃ (S : SA) (v d q : Addr) (b y m k n b' y' m' : Int) (kvs : List (List Key × V)) (e : Nat) (sm : List (Int × Int)) (c : Nat) (ds : List (Int × Option Int)) (ts : List Int) (ws : List V), vs = [.ref v, .ref q] ∧ ZH a H S n sm c ds ts ws ∧ Z6 a H S v d b y m k kvs e sm ts ∧ ts.length ≤ 10000 ∧ Yl H q b' y' m' ∧
 ZAt a H S v d k n kvs e sm c ds ts ws b' y' m' Q
def ZSM (a : Ad) : Sp := fun vs H Q _ => ∃ (S : SA) (v d : Addr) (b y m k n j : Int) (kvs : List (List Key × V)) (e : Nat) (sm : List (Int × Int)) (c : Nat) (ds : List (Int × Option Int)) (ts : List Int) (ws : List V), vs = [.ref v, .int j] ∧ ZH a H S n sm c ds ts ws ∧ Z6 a H S v d b y m k kvs e sm ts ∧ ts.length ≤ 10000 ∧ IntMulOk j y ∧ ZBi (b + j * y) y m ∧
 ZAt a H S v d k n kvs e sm c ds ts ws (b + j * y) y m Q
def ZPi (a : Ad) : Sp := fun vs H Q _ => ∃ (S : SA) (v d : Addr) (b y m k n : Int) (kvs : List (List Key × V)) (e : Nat) (sm : List (Int × Int)) (c : Nat) (ds : List (Int × Option Int)) (ts : List Int) (ws : List V), vs = [.ref v] ∧ ZH a H S n sm c ds ts ws ∧ Z6 a H S v d b y m k kvs e sm ts ∧ ts.length ≤ 10000 ∧ ZBi b (y * 2) m ∧
 ZAt a H S v d k n kvs e sm c ds ts ws b (y * 2) m Q
def ZKy (a : Ad) : Sp := fun vs H Q _ => ∃ (S : SA) (v d : Addr) (b y m k n : Int) (kvs : List (List Key × V)) (e : Nat) (sm : List (Int × Int)) (c : Nat) (ds : List (Int × Option Int)) (ts : List Int) (ws : List V), vs = [.ref v] ∧ ZH a H S n sm c ds ts ws ∧ Z6 a H S v d b y m k kvs e sm ts ∧ ts.length ≤ 10000 ∧ y % 2 = 0 ∧ ZBi b (y / 2) m ∧
 ZAt a H S v d k n kvs e sm c ds ts ws b (y / 2) m Q
def ZPj (a : Ad) : Sp := fun vs H Q _ => ∃ (S : SA) (v d : Addr) (b y m k n j : Int) (kvs : List (List Key × V)) (e : Nat) (sm : List (Int × Int)) (c : Nat) (ds : List (Int × Option Int)) (ts : List Int) (ws : List V), vs = [.ref v, .int j] ∧ ZH a H S n sm c ds ts ws ∧ Z6 a H S v d b y m k kvs e sm ts ∧ ts.length ≤ 10000 ∧ ZBi b y j ∧
 ZAt a H S v d k n kvs e sm c ds ts ws b y j Q
section
variable {P : Program} {w : World} {K : PySem.W.Frag} {mg : Str → Option Value} {base : Heap} {a : Ad}
local macro_rules | `(tactic| walk_at "rd") => `(tactic| first
 | with_reducible refine Z3 (by assumption) (‹Txt _ _ _›).c_View (‹Txt _ _ _›).n_View_source ZCV ?_
 | with_reducible refine Z3 (by assumption) (‹Txt _ _ _›).c_View (‹Txt _ _ _›).n_View_window ZAs ?_
 | with_reducible refine Z3 (by assumption) (‹Txt _ _ _›).c_View (‹Txt _ _ _›).n_View_known ZC6 ?_)
theorem ZD4 : ZP ["self", "store", "window"] ["self", "store", "window"] (ZF ZAC) := ⟨rfl, rfl, rfl, by decide +kernel, rfl, by decide +kernel, by decide +kernel⟩
theorem ZBG (T : Txt K mg a) : ZQ P w K mg base CX0 5 a.f_View___init__ a.d_View___init__ ["self", "store", "window"] (ZPh a) := by
 refine T.F_View___init__.ok ZD4 (fun vs H Q E h => ?_) (fun cdv A outer s H vs Q E hr h => ?_)
 ·obtain ⟨S, p, dx, q, b, y, m, n, sm, c, ds, ts, ws, rfl, _⟩ := h
  rfl
 ·obtain ⟨S, p, dx, q, b, y, m, n, sm, c, ds, ts, ws, rfl, hp, hS, hW, ap, kk⟩ := h
  obtain ⟨hq, hy, hm1, hm2, hb, he⟩ := id hW
  refine ⟨_, QB.h (ZD (Zc (ZG (ZAF T) hr rfl T.m_check_window T.F_check_window.kp T.b_check_window .nil ZJ (ZA (qv 2) ZB))) (ZD (Yu K rfl (qv 0) (qv 1)) (ZD (Yu K rfl (qv 0) (qv 2)) (ZD (Yu K rfl (qv 0) ZC) (ZD (Yu K rfl (qv 0) ZDp) (ZE (Yu K rfl (qv 0) ZC))))))), ?_⟩
  walk_at "s"
  walk_at "w"
  refine ⟨q, b, y, m, rfl, hq, by omega, by omega, hb, he, ?_⟩
  walk_at "w"
  refine Yg hp T.c_View T.n_View_source (by show 0 < 1000; decide) fun H1 f1 K1 => ?_
  walk_at "w"
  refine Yg f1 T.c_View T.n_View_window (by show 1 < 1000; decide) fun H2 f2 K2 => ?_
  walk_at "w"
  refine Yg f2 T.c_View T.n_View_asked (by show 2 < 1000; decide) fun H3 f3 K3 => ?_
  walk_at "w"
  refine ZDq fun d H4 n4 f4 S4 => ?_
  have nd : d ≠ p := fun z => by rw [z, f3] at n4; cases n4
  walk_at "w"
  refine Yg (S4 _ _ f3) T.c_View T.n_View_known (by show 3 < 1000; decide) fun H5 f5 K5 => ?_
  walk_at "w"
  refine Yg f5 T.c_View T.n_View_seen (by show 4 < 1000; decide) fun H6 f6 K6 => ?_
  rw [ZPg] at f6
  have K03 : Kp p H H3 := (K1.trans K2).trans K3
  have K06 : Kp p H H6 := ((K03.then S4).trans K5).trans K6
  have n0 : H d = none := by
   cases e : H d with
   | none => rfl
   | some o => rw [K03 _ _ e nd] at n4; cases n4
  have hnt : ∀ b ∈ [p], ∀ xs, H b ≠ some (.tup xs) := fun b hb xs e => by
   obtain rfl : b = p := by simpa using hb
   rw [hp] at e; cases e
  have hS6 := hS.frL (FrL.kp K06 (l := [p]) (by simp)) (fun b hb => by obtain rfl : b = p := (by simpa using hb); exact ap) hnt
  walk_at "w"
  refine kk d H6 n0 ⟨dx, q, f6, ⟨K06 _ _ hq (fun z => hnt q (by simp [z]) _ hq), hW.2⟩, K6 _ _ (K5 _ _ f4 nd) nd, fun x z u h => (by cases h), ap, hS.apart (l := [d]) (fun b hb => by obtain rfl : b = d := (by simpa using hb); exact n0) d (by simp)⟩ hS6 K06
theorem ZBT : ZP ["self", "window"] ["self", "window"] (ZF ZAT) := ⟨rfl, rfl, rfl, by decide +kernel, rfl, by decide +kernel, by decide +kernel⟩
theorem JX (T : Txt K mg a) : ZQ P w K mg base CX0 5 a.f_View_step_to a.d_View_step_to ["self", "window"] (ZNE a) := by
 refine T.F_View_step_to.ok ZBT (fun vs H Q E h => ?_) (fun cdv A outer s H vs Q E hr h => ?_)
 ·obtain ⟨S, v, d, q, b, y, m, k, n, b', y', m', kvs, e, sm, c, ds, ts, ws, rfl, _⟩ := h
  rfl
 ·obtain ⟨S, v, d, q, b, y, m, k, n, b', y', m', kvs, e, sm, c, ds, ts, ws, rfl, hS, hV, hlen, hW, kk⟩ := h
  obtain ⟨hq, hy, hm1, hm2, hb, he⟩ := id hW
  obtain ⟨dx, q0, hv, hW0, hd, hk, av, ad⟩ := id hV
  refine ⟨_, QB.h (ZD (Zc (ZG (ZAF T) hr rfl T.m_check_window T.F_check_window.kp T.b_check_window .nil ZJ (ZA (qv 1) ZB))) (ZD (Zc (JH (qv 0) T.c_View T.M_View_forget (ZB0 T) (hr.mono (by decide)) T.b_View_forget .nil ZJ)) (ZD (Yu K rfl (qv 0) (ZG (ZHh T) hr rfl T.m_known_in T.F_known_in.kp T.b_known_in .nil ZJ (ZA (Zl K rfl (qv 0)) (ZA (qv 1) ZB)))) (ZE (Yu K rfl (qv 0) (qv 1)))))), ?_⟩
  walk_at "s"
  walk_at "w"
  refine ⟨q, b', y', m', rfl, hq, by omega, by omega, hb, he, ?_⟩
  walk_at "w"
  refine Zf hv (Ym (by decide +kernel) (by decide +kernel) (by decide +kernel) (by decide +kernel) (by decide +kernel)) ?_
  refine ⟨S, v, d, b, y, m, k, n, kvs, e, sm, c, ds, ts, ws, rfl, hS, hV, hlen, fun kvs1 H1 hV1 hS1 hh1 hl1 F1 => ?_⟩
  obtain ⟨dx1, q1, hv1, hW1, hd1, hk1, _⟩ := id hV1
  rw [List.drop_length] at hk1
  have hWn : Yl H1 q b' y' m' := ⟨F1 _ _ hq fun z => hV.noTup _ z _ hq, hW.2⟩
  walk_at "w"
  refine ⟨d, q, b', y', m', kvs1, sm, rfl, hd1, hWn, fun x z u h => (hk1 x z u h).2.resolve_left fun ⟨t, ht, _⟩ => (by cases ht), fun d2 kvs2 H2 n2 f2 hl2 hg2 hi2 S2 => ?_⟩
  have hv2 := S2 _ _ hv1
  have nd2 : d2 ≠ v := fun z => by rw [z, hv1] at n2; cases n2
  walk_at "w"
  refine Yg hv2 T.c_View T.n_View_known (by show 5 < 1000; decide) fun H3 f3 K3 => ?_
  rw [ZM8] at f3
  walk_at "w"
  refine Yg f3 T.c_View T.n_View_window (by show 5 < 1000; decide) fun H4 f4 K4 => ?_
  rw [ZM6] at f4
  have K24 := K3.trans K4
  have nt2 : ∀ b ∈ [v], ∀ xs, H2 b ≠ some (.tup xs) := fun b hb xs e => by
   obtain rfl : b = v := by simpa using hb
   rw [hv2] at e; cases e
  have kt2 : ∀ b xs, H2 b = some (.tup xs) → H4 b = some (.tup xs) := fun b xs e => K24 _ _ e fun z => nt2 b (by simp [z]) xs e
  have n0 : H d2 = none := by
   cases e : H d2 with
   | none => rfl
   | some o =>
    by_cases z : d2 ∈ [v, d]
    ·simp only [List.mem_cons, List.not_mem_nil, or_false] at z
     rcases z with z | z
     ·exact absurd z nd2
     ·rw [z, hd1] at n2; cases n2
    ·rw [F1 _ _ e z] at n2; cases n2
  walk_at "w"
  refine kk d2 kvs1 kvs2 H4 n0 hh1 hi2 hl2 ⟨dx1, q, f4, ⟨kt2 _ _ (S2 _ _ hWn.1), hW.2⟩, K24 _ _ f2 nd2, fun x z u h => ⟨(hg2 x z u h).1, .inr ((hg2 x z u h).2.tups kt2)⟩, av, ?_⟩ ((hS1.same S2).frL (FrL.kp K24 (l := [v]) (by simp)) (fun b hb => by obtain rfl : b = v := (by simpa using hb); exact av) nt2) ((F1.trans (FrL.same S2)).trans (FrL.kp K24 (by simp)))
  exact hS.apart (l := [d2]) (fun b hb => by obtain rfl : b = d2 := (by simpa using hb); exact n0) d2 (by simp)
theorem ZEb : ZP ["self", "c"] ["self", "c"] (ZF ZCv) := ⟨rfl, rfl, rfl, by decide +kernel, rfl, by decide +kernel, by decide +kernel⟩
theorem ZJG (T : Txt K mg a) : ZQ P w K mg base CX0 6 a.f_View_on a.d_View_on ["self", "c"] (ZSM a) := by
 refine T.F_View_on.ok ZEb (fun vs H Q E h => ?_) (fun cdv A outer s H vs Q E hr h => ?_)
 ·obtain ⟨S, v, d, b, y, m, k, n, j, kvs, e, sm, c, ds, ts, ws, rfl, _⟩ := h
  rfl
 ·obtain ⟨S, v, d, b, y, m, k, n, j, kvs, e, sm, c, ds, ts, ws, rfl, hS, hV, hlen, hj, hw, kk⟩ := h
  obtain ⟨dx, q, hv, hW, hd, hk, av, ad⟩ := id hV
  refine ⟨_, QB.h (ZE (Zc (Zw (qv 0) T.c_View T.M_View_step_to (JX T) hr T.b_View_step_to .nil ZJ (ZA (ZG (ZHH T) (hr.mono (by decide)) rfl T.m_moved T.F_moved.kp T.b_moved .nil ZJ (ZA (Zl K rfl (qv 0)) (ZA (qv 1) ZB))) ZB)))), ?_⟩
  walk_at "s"
  walk_at "w"
  refine Zf hv (Ym (by decide +kernel) (by decide +kernel) (by decide +kernel) (by decide +kernel) (by decide +kernel)) ?_
  walk_at "w"
  refine ⟨q, b, y, m, j, rfl, SqT.of hW.1, hj, fun u H1 n1 f1 S1 => ?_⟩
  walk_at "w"
  exact ⟨S, v, d, u, b, y, m, k, n, _, _, _, kvs, e, sm, c, ds, ts, ws, rfl, hS.same S1, hV.same S1, hlen, ⟨f1, hw⟩, kk.at S1⟩
theorem ZC7 : ZP ["self"] ["self"] (ZF ZBf) := ⟨rfl, rfl, rfl, by decide +kernel, rfl, by decide +kernel, by decide +kernel⟩
theorem ZHJ (T : Txt K mg a) : ZQ P w K mg base CX0 6 a.f_View_wide a.d_View_wide ["self"] (ZPi a) := by
 refine T.F_View_wide.ok ZC7 (fun vs H Q E h => ?_) (fun cdv A outer s H vs Q E hr h => ?_)
 ·obtain ⟨S, v, d, b, y, m, k, n, kvs, e, sm, c, ds, ts, ws, rfl, _⟩ := h
  rfl
 ·obtain ⟨S, v, d, b, y, m, k, n, kvs, e, sm, c, ds, ts, ws, rfl, hS, hV, hlen, hw, kk⟩ := h
  obtain ⟨dx, q, hv, hW, hd, hk, av, ad⟩ := id hV
  refine ⟨_, QB.h (ZE (Zc (Zw (qv 0) T.c_View T.M_View_step_to (JX T) hr T.b_View_step_to .nil ZJ (ZA (ZG (ZEY T) (hr.mono (by decide)) rfl T.m_widened T.F_widened.kp T.b_widened .nil ZJ (ZA (Zl K rfl (qv 0)) ZB)) ZB)))), ?_⟩
  walk_at "s"
  walk_at "w"
  refine Zf hv (Ym (by decide +kernel) (by decide +kernel) (by decide +kernel) (by decide +kernel) (by decide +kernel)) ?_
  walk_at "w"
  refine ⟨q, b, y, m, rfl, SqT.of hW.1, fun u H1 n1 f1 S1 => ?_⟩
  walk_at "w"
  exact ⟨S, v, d, u, b, y, m, k, n, _, _, _, kvs, e, sm, c, ds, ts, ws, rfl, hS.same S1, hV.same S1, hlen, ⟨f1, hw⟩, kk.at S1⟩
theorem ZEz : ZP ["self"] ["self"] (ZF ZAh) := ⟨rfl, rfl, rfl, by decide +kernel, rfl, by decide +kernel, by decide +kernel⟩
theorem ZB1 (T : Txt K mg a) : ZQ P w K mg base CX0 6 a.f_View_narrow a.d_View_narrow ["self"] (ZKy a) := by
 refine T.F_View_narrow.ok ZEz (fun vs H Q E h => ?_) (fun cdv A outer s H vs Q E hr h => ?_)
 ·obtain ⟨S, v, d, b, y, m, k, n, kvs, e, sm, c, ds, ts, ws, rfl, _⟩ := h
  rfl
 ·obtain ⟨S, v, d, b, y, m, k, n, kvs, e, sm, c, ds, ts, ws, rfl, hS, hV, hlen, h2, hw, kk⟩ := h
  obtain ⟨dx, q, hv, hW, hd, hk, av, ad⟩ := id hV
  refine ⟨_, QB.h (ZE (Zc (Zw (qv 0) T.c_View T.M_View_step_to (JX T) hr T.b_View_step_to .nil ZJ (ZA (ZG (ZHg T) (hr.mono (by decide)) rfl T.m_narrowed T.F_narrowed.kp T.b_narrowed .nil ZJ (ZA (Zl K rfl (qv 0)) ZB)) ZB)))), ?_⟩
  walk_at "s"
  walk_at "w"
  refine Zf hv (Ym (by decide +kernel) (by decide +kernel) (by decide +kernel) (by decide +kernel) (by decide +kernel)) ?_
  walk_at "w"
  refine ⟨q, b, y, m, rfl, SqT.of hW.1, h2, fun u H1 n1 f1 S1 => ?_⟩
  walk_at "w"
  exact ⟨S, v, d, u, b, y, m, k, n, _, _, _, kvs, e, sm, c, ds, ts, ws, rfl, hS.same S1, hV.same S1, hlen, ⟨f1, hw⟩, kk.at S1⟩
theorem ZBU : ZP ["self", "n"] ["self", "n"] (ZF ZAS) := ⟨rfl, rfl, rfl, by decide +kernel, rfl, by decide +kernel, by decide +kernel⟩
theorem ZEc (T : Txt K mg a) : ZQ P w K mg base CX0 6 a.f_View_columns a.d_View_columns ["self", "n"] (ZPj a) := by
 refine T.F_View_columns.ok ZBU (fun vs H Q E h => ?_) (fun cdv A outer s H vs Q E hr h => ?_)
 ·obtain ⟨S, v, d, b, y, m, k, n, j, kvs, e, sm, c, ds, ts, ws, rfl, _⟩ := h
  rfl
 ·obtain ⟨S, v, d, b, y, m, k, n, j, kvs, e, sm, c, ds, ts, ws, rfl, hS, hV, hlen, hw, kk⟩ := h
  obtain ⟨dx, q, hv, hW, hd, hk, av, ad⟩ := id hV
  refine ⟨_, QB.h (ZE (Zc (Zw (qv 0) T.c_View T.M_View_step_to (JX T) hr T.b_View_step_to .nil ZJ (ZA (ZG (ZBR T) (hr.mono (by decide)) rfl T.m_with_columns T.F_with_columns.kp T.b_with_columns .nil ZJ (ZA (Zl K rfl (qv 0)) (ZA (qv 1) ZB))) ZB)))), ?_⟩
  walk_at "s"
  walk_at "w"
  refine Zf hv (Ym (by decide +kernel) (by decide +kernel) (by decide +kernel) (by decide +kernel) (by decide +kernel)) ?_
  walk_at "w"
  refine ⟨q, b, y, m, j, rfl, SqT.of hW.1, fun u H1 n1 f1 S1 => ?_⟩
  walk_at "w"
  exact ⟨S, v, d, u, b, y, m, k, n, _, _, _, kvs, e, sm, c, ds, ts, ws, rfl, hS.same S1, hV.same S1, hlen, ⟨f1, hw⟩, kk.at S1⟩
end
section
variable {P : Program} {w : World} {K : PySem.W.Frag} {mg : Str → Option Value} {base : Heap} {a : Ad}
local macro_rules | `(tactic| walk_at "rd") => `(tactic| first
 | with_reducible refine Z3 (by assumption) (‹Txt _ _ _›).c_View (‹Txt _ _ _›).n_View_window ZAs ?_)
def ZNF (C : Addr) : Sp := fun vs H _ E => ∃ b e : Int, vs = [.int b, .int e] ∧ ¬ (InT b ∧ InT e) ∧ E (.ref C) none H
theorem ZDO (T : Txt K mg a) : ZQ P w K mg base (CX1 P w) 3 a.f_check_borders a.d_check_borders ["begin", "end"] (ZNF a.C_OutOfTimes) := by
 refine T.F_check_borders.okx ZA9 (fun vs H Q E h => ?_) (fun cdv A outer s H vs Q E hr h => ?_)
 ·obtain ⟨b, e, rfl, _⟩ := h
  rfl
 ·obtain ⟨b, e, rfl, hn, q⟩ := h
  refine ⟨_, QB.h (ZE (Zk (QW.pt (ZDE (JO (Y3 (ZG (Jc T) hr rfl T.m_is_border T.F_is_border.kp T.b_is_border .nil ZJ (ZA (qv 0) ZB)))) (ZBp (JO (Y3 (ZG (Jc T) hr rfl T.m_is_border T.F_is_border.kp T.b_is_border .nil ZJ (ZA (qv 1) ZB))))))) (ZE (ZMU T.x_OutOfTimes rfl T.m_OutOfTimes (ZA JN ZB))) Zi)), ?_⟩
  walk_at "s"
  walk_at "w"
  by_cases hb : InT b
  ·refine ⟨b, rfl, .inl ⟨hb, ?_⟩⟩
   walk_at "w"
   refine Z1 ?_
   walk_at "w"
   refine ⟨e, rfl, .inr ⟨fun he => hn ⟨hb, he⟩, ?_⟩⟩
   walk_at "w"
   refine YJ ?_
   walk_at "w"
   exact ZGp (by decide) q
  ·refine ⟨b, rfl, .inr ⟨hb, ?_⟩⟩
   walk_at "w"
   refine YJ ?_
   walk_at "w"
   exact ZGp (by decide) q
def ZRc (D : Addr) : Sp := fun vs H _ E => ∃ (p : Addr) (b y m : Int), vs = [.ref p] ∧ H p = some (.tup [.int b, .int y, .int m]) ∧ 0 ≤ m ∧ m ≤ 1000 ∧ ¬ (InT b ∧ InT (b + m * y)) ∧ E (.ref D) none H
theorem ZD5 (T : Txt K mg a) : ZQ P w K mg base (CX1 P w) 4 a.f_check_window a.d_check_window ["window"] (ZRc a.C_OutOfTimes) := by
 refine T.F_check_window.okx YR (fun vs H Q E h => ?_) (fun cdv A outer s H vs Q E hr h => ?_)
 ·obtain ⟨p, b, y, m, rfl, _⟩ := h
  rfl
 ·obtain ⟨p, b, y, m, rfl, hp, h0, h1, hn, q⟩ := h
  refine ⟨_, QB.h (ZD (YZ (qv 0) (YS (n := 3) K rfl rfl (ZT (ZO (i := 1) YR.nd rfl (by walk_at "o")) (ZT (ZO (i := 2) YR.nd rfl (by walk_at "o")) (ZT (ZO (i := 3) YR.nd rfl (by walk_at "o")) YE))))) (ZE (Zc (ZG (ZDO T) hr rfl T.m_check_borders T.F_check_borders.kp T.b_check_borders .nil ZBM (ZA (qv 1) (ZA (ZL YC (qv 1) (ZL Zv (qv 3) (qv 2))) ZB)))))), ?_⟩
  walk_at "s"
  walk_at "w"
  exact ⟨b, b + m * y, rfl, hn, q⟩
def ZPk (D : Addr) : Sp := fun vs H _ E => ∃ (v : V) (p : Addr) (b y m : Int), vs = [v, .ref p] ∧ H p = some (.tup [.int b, .int y, .int m]) ∧ 0 ≤ m ∧ m ≤ 1000 ∧ ¬ (InT b ∧ InT (b + m * y)) ∧ E (.ref D) none H
theorem Jv (T : Txt K mg a) : ZQ P w K mg base (CX1 P w) 5 a.f_View_step_to a.d_View_step_to ["self", "window"] (ZPk a.C_OutOfTimes) := by
 refine T.F_View_step_to.okx ZBT (fun vs H Q E h => ?_) (fun cdv A outer s H vs Q E hr h => ?_)
 ·obtain ⟨v, p, b, y, m, rfl, _⟩ := h
  rfl
 ·obtain ⟨v, p, b, y, m, rfl, hp, h0, h1, hn, q⟩ := h
  refine ⟨_, QB.h (ZD (Zc (ZG (ZD5 T) hr rfl T.m_check_window T.F_check_window.kp T.b_check_window .nil ZBM (ZA (qv 1) ZB))) (ZD Ja (ZD Ja (ZE Ja)))), ?_⟩
  walk_at "s"
  walk_at "w"
  exact ⟨p, b, y, m, rfl, hp, h0, h1, hn, q⟩
def ZFw (a : Ad) (H : Hp) (v : Addr) (b y m : Int) : Prop := ∃ dx s q d n e, H v = some (.ins a.C_View dx (vfl s q d n e)) ∧ Yl H q b y m
def ZSN (a : Ad) : Sp := fun vs H _ E => ∃ (v : Addr) (b y m j : Int), vs = [.ref v, .int j] ∧ ZFw a H v b y m ∧ IntMulOk j y ∧ ¬ (InT (b + j * y) ∧ InT (b + j * y + m * y)) ∧ ∀ H', ZK H H' → E (.ref a.C_OutOfTimes) none H'
theorem ZHi (T : Txt K mg a) : ZQ P w K mg base (CX1 P w) 6 a.f_View_on a.d_View_on ["self", "c"] (ZSN a) := by
 refine T.F_View_on.okx ZEb (fun vs H Q E h => ?_) (fun cdv A outer s H vs Q E hr h => ?_)
 ·obtain ⟨v, b, y, m, j, rfl, _⟩ := h
  rfl
 ·obtain ⟨v, b, y, m, j, rfl, ⟨dx, s0, q, d, n, e, hv, hW⟩, hj, hn, k⟩ := h
  refine ⟨_, QB.h (ZE (Zc (Zw (qv 0) T.c_View T.M_View_step_to (Jv T) hr T.b_View_step_to .nil ZBM (ZA (ZG (ZHH T) (hr.mono (by decide)) rfl T.m_moved T.F_moved.kp T.b_moved .nil ZJ (ZA (Zl K rfl (qv 0)) (ZA (qv 1) ZB))) ZB)))), ?_⟩
  walk_at "s"
  walk_at "w"
  refine Zf hv (Ym (by decide +kernel) (by decide +kernel) (by decide +kernel) (by decide +kernel) (by decide +kernel)) ?_
  walk_at "w"
  refine ⟨q, b, y, m, j, rfl, SqT.of hW.1, hj, fun u H1 n1 f1 S1 => ?_⟩
  walk_at "w"
  exact ⟨_, u, _, _, _, rfl, f1, by have := hW.2.2.1; omega, by have := hW.2.2.2.1; omega, hn, k H1 S1⟩
def ZPl (a : Ad) : Sp := fun vs H _ E => ∃ (v : Addr) (b y m : Int), vs = [.ref v] ∧ ZFw a H v b y m ∧ ¬ (InT b ∧ InT (b + m * (y * 2))) ∧ ∀ H', ZK H H' → E (.ref a.C_OutOfTimes) none H'
theorem ZFk (T : Txt K mg a) : ZQ P w K mg base (CX1 P w) 6 a.f_View_wide a.d_View_wide ["self"] (ZPl a) := by
 refine T.F_View_wide.okx ZC7 (fun vs H Q E h => ?_) (fun cdv A outer s H vs Q E hr h => ?_)
 ·obtain ⟨v, b, y, m, rfl, _⟩ := h
  rfl
 ·obtain ⟨v, b, y, m, rfl, ⟨dx, s0, q, d, n, e, hv, hW⟩, hn, k⟩ := h
  refine ⟨_, QB.h (ZE (Zc (Zw (qv 0) T.c_View T.M_View_step_to (Jv T) hr T.b_View_step_to .nil ZBM (ZA (ZG (ZEY T) (hr.mono (by decide)) rfl T.m_widened T.F_widened.kp T.b_widened .nil ZJ (ZA (Zl K rfl (qv 0)) ZB)) ZB)))), ?_⟩
  walk_at "s"
  walk_at "w"
  refine Zf hv (Ym (by decide +kernel) (by decide +kernel) (by decide +kernel) (by decide +kernel) (by decide +kernel)) ?_
  walk_at "w"
  refine ⟨q, b, y, m, rfl, SqT.of hW.1, fun u H1 n1 f1 S1 => ?_⟩
  walk_at "w"
  exact ⟨_, u, _, _, _, rfl, f1, by have := hW.2.2.1; omega, by have := hW.2.2.2.1; omega, hn, k H1 S1⟩
def ZPm (a : Ad) : Sp := fun vs H _ E => ∃ (v : Addr) (b y m j : Int), vs = [.ref v, .int j] ∧ ZFw a H v b y m ∧ 0 ≤ j ∧ j ≤ 1000 ∧ ¬ (InT b ∧ InT (b + j * y)) ∧ ∀ H', ZK H H' → E (.ref a.C_OutOfTimes) none H'
theorem ZD6 (T : Txt K mg a) : ZQ P w K mg base (CX1 P w) 6 a.f_View_columns a.d_View_columns ["self", "n"] (ZPm a) := by
 refine T.F_View_columns.okx ZBU (fun vs H Q E h => ?_) (fun cdv A outer s H vs Q E hr h => ?_)
 ·obtain ⟨v, b, y, m, j, rfl, _⟩ := h
  rfl
 ·obtain ⟨v, b, y, m, j, rfl, ⟨dx, s0, q, d, n, e, hv, hW⟩, hj0, hj1, hn, k⟩ := h
  refine ⟨_, QB.h (ZE (Zc (Zw (qv 0) T.c_View T.M_View_step_to (Jv T) hr T.b_View_step_to .nil ZBM (ZA (ZG (ZBR T) (hr.mono (by decide)) rfl T.m_with_columns T.F_with_columns.kp T.b_with_columns .nil ZJ (ZA (Zl K rfl (qv 0)) (ZA (qv 1) ZB))) ZB)))), ?_⟩
  walk_at "s"
  walk_at "w"
  refine Zf hv (Ym (by decide +kernel) (by decide +kernel) (by decide +kernel) (by decide +kernel) (by decide +kernel)) ?_
  walk_at "w"
  refine ⟨q, b, y, m, j, rfl, SqT.of hW.1, fun u H1 n1 f1 S1 => ?_⟩
  walk_at "w"
  exact ⟨_, u, _, _, _, rfl, f1, hj0, hj1, hn, k H1 S1⟩
end
def BP (cv : List (Int × Int)) : Prop := ∀ p ∈ cv, Bn 200 p.1 ∧ Bn 200 p.2
theorem ZSt {x : Int} (h1 : -2000000000 < x) (h2 : x < 2000000000) : Bn 200 x := (show Bn 32 x by unfold Bn; omega).mono (by decide)
theorem ZSz {x : Int} (h1 : -(10 ^ 59) - 1000 < x) (h2 : x < 10 ^ 59 + 1000) : Bn 200 x := Bn.of (Int.lt_of_le_of_lt (show (-(2 ^ 200) : Int) ≤ -(10 ^ 59) - 1000 by decide) h1) (Int.lt_of_lt_of_le h2 (by decide))
def ZRd (K : PySem.W.Frag) : Sp := fun vs H Q _ => ∃ (s : Addr) (ns : List Int) (k : Int), vs = [.ref s, .int k] ∧ SqL K H s (ns.map V.int) ∧ 0 ≤ k ∧ Q (.int (ns.getD k.toNat 0)) H
def ZSO : Sp := fun vs H Q _ => ∃ c : Int, vs = [.int c] ∧ ∀ (p : Addr) (H' : Hp), H p = none → Pot H' p → ZK H H' → Q (.ref p) H'
def ZRe : Sp := fun vs H Q _ => ∃ (p : Addr) (n : Int), vs = [.ref p, .int n] ∧ Pot H p ∧ 0 < n ∧ n < 2 ^ 250 ∧ ∀ (d : Int) (H' : Hp), 0 ≤ d → d < n → Pot H' p → Kp p H H' → Q (.int d) H'
def ZSP : Sp := fun vs H Q _ => ∃ p : Addr, vs = [.ref p] ∧ Pot H p ∧ ∀ (x : Int) (H' : Hp), -(10 ^ 59) < x → x < 10 ^ 59 → Pot H' p → Kp p H H' → Q (.int x) H'
section
variable {P : Program} {w : World} {K : PySem.W.Frag} {mg : Str → Option Value} {base : Heap} {a : Ad}
theorem ZHK {H : Hp} {Q : VK} {l : Addr} {ns : List Int} {d : Int} (h : H l = some (.lst (ns.map V.int))) (h0 : 0 ≤ d) (h1 : d < (ns.length : Int)) (q : ∀ n ∈ ns, Q (.int n) H) : ZIZ K (.ref l) (.int d) H Q := by
 obtain ⟨n, rfl⟩ : ∃ n : Nat, d = (n : Int) := ⟨d.toNat, by omega⟩
 have hn : n < ns.length := by omega
 refine JM (v := .int ns[n]) (SqL.of h) (ZBk ?_) (q _ (List.getElem_mem hn))
 rw [List.getElem?_map, List.getElem?_eq_getElem hn]
 rfl
theorem ZNG {m : List (Int × Int)} {t h : Int} (R : Int × Int → Prop) (hm : ∀ q ∈ m, R q) (hn : R (t, h)) : ∀ q ∈ YO m t h, R q := by
 intro q hq
 unfold YO at hq
 split at hq
 ·obtain ⟨kv, h1, rfl⟩ := List.mem_map.mp hq
  split
  ·rename_i e
   rw [e]
   exact hn
  ·exact hm _ h1
 ·rcases List.mem_append.mp hq with h1 | h1
  ·exact hm _ h1
  ·simp only [List.mem_cons, List.not_mem_nil, or_false] at h1
   rw [h1]
   exact hn
theorem ZKz : ZP ["_law_script", "_law_k"] ["_law_script", "_law_k"] (ZF ZDw) := ⟨rfl, rfl, rfl, by decide +kernel, rfl, by decide +kernel, by decide +kernel⟩
theorem ZFK (T : Txt K mg a) : ZQ P w K mg base CX0 1 a.f_l_cell a.d_l_cell ["_law_script", "_law_k"] (ZRd K) := by
 refine T.F_l_cell.ok ZKz (fun vs H Q E h => ?_) (fun cdv A outer s H vs Q E hr h => ?_)
 ·obtain ⟨p, ns, k, rfl, _⟩ := h
  rfl
 ·obtain ⟨p, ns, k, rfl, hS, hk, q⟩ := h
  refine ⟨_, QB.h (ZD (Zk (ZW (ZDA) (qv 1) (Zo (ZBr K rfl) rfl T.z_len ZAc (ZA (qv 0) ZB)) (Zb _)) (ZE (ZZ (ZU (Zm K rfl) (qv 0) (qv 1)))) Zi) (ZE (ZZ ZC))), ?_⟩
  walk_at "s"
  walk_at "w"
  rw [List.length_map]
  refine Zu (fun h => ?_) (fun h => ?_)
  ·walk_at "w"
   obtain ⟨n, rfl⟩ : ∃ n : Nat, k = (n : Int) := ⟨k.toNat, by omega⟩
   have hk2 : n < ns.length := by omega
   refine JM (v := .int (ns.getD n 0)) hS (ZBk ?_) q
   rw [List.getElem?_map, List.getElem?_eq_getElem hk2]
   simp [List.getD, hk2]
  ·walk_at "w"
   have e : ns.getD k.toNat 0 = 0 := by
    rw [List.getD, List.getElem?_eq_none (by omega)]
    rfl
   rw [e] at q
   exact q
theorem ZNH : ZP ["_law_cell_here"] ["_law_cell_here"] (ZF ZEv) := ⟨rfl, rfl, rfl, by decide +kernel, rfl, by decide +kernel, by decide +kernel⟩
theorem ZHL (T : Txt K mg a) : ZQ P w K mg base CX0 1 a.f_l_pot a.d_l_pot ["_law_cell_here"] ZSO := by
 refine T.F_l_pot.ok ZNH (fun vs H Q E h => ?_) (fun cdv A outer s H vs Q E hr h => ?_)
 ·obtain ⟨c, rfl, _⟩ := h
  rfl
 ·obtain ⟨c, rfl, k⟩ := h
  refine ⟨_, QB.h (ZE (ZZ (Yd (ZA (Zo (ZJv rfl) rfl T.z_max ZEK (ZA ZC (ZA (ZL Yi (Zo ZJu rfl T.z_abs ZJs (ZA (qv 0) ZB)) (ZL Yx ZC ZC)) ZB))) (ZA (ZL YC (ZL ZAb (Zo ZJu rfl T.z_abs ZJs (ZA (qv 0) ZB)) ZC) ZC) ZB))))), ?_⟩
  walk_at "s"
  walk_at "w"
  refine ZR (by show 2 ≤ sizeLine; decide) fun p H2 hp f2 S2 => ?_
  refine k p H2 hp ⟨_, _, f2, ?_, Int.add_nonneg (Int.emod_nonneg _ (by decide)) (by decide), Int.lt_of_lt_of_le (Int.add_lt_add_right (Int.emod_lt_of_pos _ (by decide)) 1) (by decide)⟩ S2
  split <;> omega
theorem ZFL : ZP ["_law_pot_here", "_law_many", "_law_digit"] ["_law_pot_here", "_law_many"] (ZF ZDx) := ⟨rfl, rfl, rfl, by decide +kernel, rfl, by decide +kernel, by decide +kernel⟩
theorem Zt (T : Txt K mg a) : ZQ P w K mg base CX0 1 a.f_l_draw a.d_l_draw ["_law_pot_here", "_law_many"] ZRe := by
 refine T.F_l_draw.ok ZFL (fun vs H Q E h => ?_) (fun cdv A outer s H vs Q E hr h => ?_)
 ·obtain ⟨p, n, rfl, _⟩ := h
  rfl
 ·obtain ⟨p, n, rfl, ⟨x, y, hp, hx, hy, hy2⟩, hn, hn2, k⟩ := h
  have hdiv : ∀ i : Int, ZBI i n := fun i => ZBI.of (k := 250) hn hn2 (by decide)
  refine ⟨_, QB.h (ZD (Zk (ZW (ZD9) (ZU (Zm K rfl) (qv 0) ZC) ZC (Zb _)) (ZD (YZ (Zo ZGh rfl T.z_divmod ZJ9 (ZA (ZU (Zm K rfl) (qv 0) ZC) (ZA (qv 1) ZB))) (YS (n := 2) K rfl rfl (ZT (ZBq (qv 0) ZC Jt) (ZT (ZO (i := 2) ZFL.nd rfl (by walk_at "o")) YE)))) (ZE (ZZ (qv 2)))) Zi) (ZD (YZ (ZL ZAb (ZL YC (ZL Zv (ZU (Zm K rfl) (qv 0) ZC) ZC) ZC) ZC) (ZBq (qv 0) ZC Jt)) (ZE (ZZ (ZL ZAb (ZL JZ (ZL ZAb (ZL Zv (ZU (Zm K rfl) (qv 0) ZC) (ZU (Zm K rfl) (qv 0) ZC)) ZC) ZC) (qv 1)))))), ?_⟩
  walk_at "s"
  walk_at "w"
  refine Zu (fun h => ?_) (fun h => ?_)
  ·walk_at "w"
   refine ZKI (hdiv _) fun c H2 n2 f2 S2 => ?_
   have hp2 := S2 _ _ hp
   walk_at "w"
   refine ZAK hp2 (by rfl) fun H3 f3 K3 => ?_
   walk_at "w"
   exact k _ _ (Int.emod_nonneg _ (by omega)) (Int.emod_lt_of_pos _ hn) ⟨_, _, f3, Int.ediv_nonneg hx (by omega), hy, hy2⟩ (fun q o e nq => K3 q o (S2 q o e) nq)
  ·walk_at "w"
   refine ZAK hp (by rfl) fun H2 f2 K2 => ?_
   generalize hz : (y * 48271 + 11) % 2147483647 = z at f2
   have h0 : 0 ≤ z := by rw [← hz]; exact Int.emod_nonneg _ (by decide)
   have h1 : z < 2147483647 := by rw [← hz]; exact Int.emod_lt_of_pos _ (by decide)
   have f2 : H2 p = some (.lst [V.int x, V.int z]) := f2
   walk_at "w"
   exact k _ _ (Int.emod_nonneg _ (by omega)) (Int.emod_lt_of_pos _ hn) ⟨_, _, f2, hx, h0, by omega⟩ (fun q o e nq => K2 q o e nq)
end
def ZSu : Sp := fun vs H Q _ => ∃ t : Int, vs = [.int t] ∧ ∀ x : Int, Tm x → Q (.int x) H
def ZNI : Sp := fun vs H Q _ => ∃ (q : Addr) (b y m : Int), vs = [.ref q] ∧ H q = some (.tup [.int b, .int y, .int m]) ∧ IntMulOk y m ∧ Q (.bl (decide (-1099511627776 ≤ b) && decide (b + y * m ≤ 1099511627776))) H
def ZNJ : Sp := fun vs H Q _ => ∃ p : Addr, vs = [.ref p] ∧ Pot H p ∧ ∀ (q : Addr) (b y m : Int) (H' : Hp), Yl H' q b y m → m ≤ 9 → Pot H' p → Kp p H H' → Q (.ref q) H'
def ZRf : Sp := fun vs H Q _ => ∃ (p q : Addr) (b y m : Int), vs = [.ref p, .ref q] ∧ Pot H p ∧ Yl H q b y m ∧ ∀ (x : Int) (H' : Hp), Tm x → Pot H' p → Kp p H H' → Q (.int x) H'
def ZNK : Sp := fun vs H Q _ => ∃ (p q : Addr) (b y m : Int), vs = [.ref p, .ref q] ∧ Pot H p ∧ Yl H q b y m ∧
 ∀ (d : Addr) (ps : List (Int × Int)) (H' : Hp), H d = none → H' d = some (.dK (Zj ps)) → (ps.map (·.1)).Nodup → ps.length ≤ 24 → (∀ r ∈ ps, Tm r.1 ∧ -(10 ^ 59) < r.2 ∧ r.2 < 10 ^ 59) → Pot H' p → Kp p H H' → Q (.ref d) H'
def ZK0 (n : Str) (c b y m b' y' m' : Int) : Prop :=
 (n = "wide" ∧ b' = b ∧ y' = 2 * y ∧ m' = m) ∨ (n = "narrow" ∧ y % 2 = 0 ∧ b' = b ∧ y' = y / 2 ∧ m' = m) ∨ (n = "columns" ∧ 1 ≤ c ∧ c ≤ 12 ∧ b' = b ∧ y' = y ∧ m' = c) ∨ (n = "on" ∧ -1099511627776 ≤ c ∧ c < 1099511627776 ∧ b' = b + c * y ∧ y' = y ∧ m' = m)
def ZEd (H : Hp) (u : Addr) (b y m b' y' m' : Int) : Prop := ∃ (n : Str) (c : Int) (q : Addr), H u = some (.tup [.str n, .int c, .ref q]) ∧ H q = some (.tup [.int b', .int y', .int m']) ∧ ZK0 n c b y m b' y' m'
def ZRg : Sp := fun vs H Q _ => ∃ (p q : Addr) (b y m : Int), vs = [.ref p, .ref q] ∧ Pot H p ∧ Yl H q b y m ∧
 ∀ (u : Addr) (b' y' m' : Int) (H' : Hp), ZEd H' u b y m b' y' m' → Pot H' p → Kp p H H' → Q (.ref u) H'
section
variable {P : Program} {w : World} {K : PySem.W.Frag} {mg : Str → Option Value} {base : Heap} {a : Ad}
theorem ZHj : ZP ["_law_pot_here"] ["_law_pot_here"] (ZF ZCQ) := ⟨rfl, rfl, rfl, by decide +kernel, rfl, by decide +kernel, by decide +kernel⟩
theorem ZDY (T : Txt K mg a) : ZQ P w K mg base CX0 2 a.f_l_height a.d_l_height ["_law_pot_here"] ZSP := by
 refine T.F_l_height.ok ZHj (fun vs H Q E h => ?_) (fun cdv A outer s H vs Q E hr h => ?_)
 ·obtain ⟨p, rfl, _⟩ := h
  rfl
 ·obtain ⟨p, rfl, hp, k⟩ := h
  have sm : ∀ x : Int, -2000000000 < x → x < 2000000000 → -(10 ^ 59) < x ∧ x < 10 ^ 59 := fun x h1 h2 => ⟨Int.lt_of_le_of_lt (by decide) h1, Int.lt_of_lt_of_le h2 (by decide)⟩
  refine ⟨_, QB.h (ZD (Zk (ZW (ZD9) (ZG (Zt T) hr rfl T.m_l_draw T.F_l_draw.kp T.b_l_draw .nil ZJ (ZA (qv 0) (ZA ZC ZB))) ZC (Zb _)) (ZE (ZZ (ZL Yi (ZG (Zt T) hr rfl T.m_l_draw T.F_l_draw.kp T.b_l_draw .nil ZJ (ZA (qv 0) (ZA ZC ZB))) ZC))) Zi) (ZE (ZZ (ZL YC (ZL Yi (ZL ZAb (ZL Zv (ZG (Zt T) hr rfl T.m_l_draw T.F_l_draw.kp T.b_l_draw .nil ZJ (ZA (qv 0) (ZA (ZL Yi (ZL Zv ZC (ZL Yx ZC ZC)) ZC) ZB))) (ZL Yx ZC ZC)) (ZL Yi (ZL Zv ZC (ZL Yx ZC ZC)) ZC)) (ZL Yx ZC ZC)) ZC)))), ?_⟩
  walk_at "s"
  walk_at "w"
  refine ⟨p, _, rfl, hp, by decide, by decide, fun d1 H1 h1 h1' P1 K1 => ?_⟩
  walk_at "w"
  refine Zu (fun _ => ?_) (fun _ => ?_)
  ·walk_at "w"
   refine ⟨p, _, rfl, P1, by decide, by decide, fun d2 H2 h2 h2' P2 K2 => ?_⟩
   walk_at "w"
   have hb := sm (d2 - 2) (by omega) (by omega)
   exact k _ H2 hb.1 hb.2 P2 (K1.trans K2)
  walk_at "w"
  refine ⟨p, _, rfl, P1, by decide, by decide, fun d2 H2 h2 h2' P2 K2 => ?_⟩
  have hbd : Bn 200 d2 := Bn.of (Int.lt_of_lt_of_le (by decide) h2) (Int.lt_trans h2' (by decide))
  walk_at "w"
  refine ZGB (ZCn hbd (show Bn 190 _ by unfold Bn; decide) (by decide)) ?_
  walk_at "w"
  generalize hz : _ % (2 * 100000000000000000000000000000000000000000000000000000000000 - 1 : Int) = z
  have g0 : 0 ≤ z := by rw [← hz]; exact Int.emod_nonneg _ (by decide)
  have g1 : z < 2 * 100000000000000000000000000000000000000000000000000000000000 - 1 := by rw [← hz]; exact Int.emod_lt_of_pos _ (by decide)
  exact k _ H2 (by omega) (by omega) P2 (K1.trans K2)
theorem ZPn : ZP ["_law_t"] ["_law_t"] (ZF ZG4) := ⟨rfl, rfl, rfl, by decide +kernel, rfl, by decide +kernel, by decide +kernel⟩
theorem ZPo (T : Txt K mg a) : ZQ P w K mg base CX0 1 a.f_l_in a.d_l_in ["_law_t"] ZSu := by
 refine T.F_l_in.ok ZPn (fun vs H Q E h => ?_) (fun cdv A outer s H vs Q E hr h => ?_)
 ·obtain ⟨t, rfl, _⟩ := h
  rfl
 ·obtain ⟨t, rfl, k⟩ := h
  refine ⟨_, QB.h (ZE (ZZ (Zo (ZJv rfl) rfl T.z_max ZEK (ZA (ZB7 ZAy (ZL Yx ZC ZC)) (ZA (Zo (ZQf rfl) rfl T.z_min ZF8 (ZA (ZL Yi (ZL Yx ZC ZC) ZC) (ZA (qv 0) ZB))) ZB))))), ?_⟩
  walk_at "s"
  walk_at "w"
  refine k _ ?_
  unfold Tm
  repeat' split
  all_goals omega
theorem ZHk : ZP ["_law_window_here"] ["_law_window_here"] (ZF ZCP) := ⟨rfl, rfl, rfl, by decide +kernel, rfl, by decide +kernel, by decide +kernel⟩
theorem ZBj (T : Txt K mg a) : ZQ P w K mg base CX0 1 a.f_l_within a.d_l_within ["_law_window_here"] ZNI := by
 refine T.F_l_within.ok ZHk (fun vs H Q E h => ?_) (fun cdv A outer s H vs Q E hr h => ?_)
 ·obtain ⟨q, b, y, m, rfl, _⟩ := h
  rfl
 ·obtain ⟨q, b, y, m, rfl, hq, hm, k⟩ := h
  refine ⟨_, QB.h (ZE (ZZ (ZCl (ZAL (ZNS) (ZU (Zd K rfl) (qv 0) ZC) (ZB7 ZAy (ZL Yx ZC ZC)) (Zb _)) (ZCk (ZAL (ZAn) (ZL YC (ZU (Zd K rfl) (qv 0) ZC) (ZL Zv (ZU (Zd K rfl) (qv 0) ZC) (ZU (Zd K rfl) (qv 0) ZC))) (ZL Yx ZC ZC) (Zb _)))))), ?_⟩
  walk_at "s"
  walk_at "w"
  refine Zu (fun h => ?_) (fun h => ?_)
  ·walk_at "w"
   refine ZGB hm ?_
   walk_at "w"
   rw [decide_eq_true h, Bool.true_and] at k
   exact k
  ·rw [decide_eq_false h, Bool.false_and] at k
   exact k
theorem Y0 : ZP ["_law_pot_here", "_law_wide", "_law_many", "_law_place", "_law_begin"] ["_law_pot_here"] (ZF ZCR) := ⟨rfl, rfl, rfl, by decide +kernel, rfl, by decide +kernel, by decide +kernel⟩
theorem ZHl (T : Txt K mg a) : ZQ P w K mg base CX0 2 a.f_l_window a.d_l_window ["_law_pot_here"] ZNJ := by
 refine T.F_l_window.ok Y0 (fun vs H Q E h => ?_) (fun cdv A outer s H vs Q E hr h => ?_)
 ·obtain ⟨p, rfl, _⟩ := h
  rfl
 ·obtain ⟨p, rfl, hp, k⟩ := h
  refine ⟨_, QB.h (ZD (ZM (i := 1) Y0.nd rfl (by walk_at "o") (ZL YC ZC (ZG (Zt T) hr rfl T.m_l_draw T.F_l_draw.kp T.b_l_draw .nil ZJ (ZA (qv 0) (ZA (ZU (Zm K rfl) (Yd (ZA ZC (ZA ZC (ZA (ZL Yx ZC ZC) ZB)))) (ZG (Zt T) hr rfl T.m_l_draw T.F_l_draw.kp T.b_l_draw .nil ZJ (ZA (qv 0) (ZA ZC ZB)))) ZB))))) (ZD (ZM (i := 2) Y0.nd rfl (by walk_at "o") (ZL YC ZC (ZG (Zt T) hr rfl T.m_l_draw T.F_l_draw.kp T.b_l_draw .nil ZJ (ZA (qv 0) (ZA ZC ZB))))) (ZD (ZM (i := 3) Y0.nd rfl (by walk_at "o") (ZG (Zt T) hr rfl T.m_l_draw T.F_l_draw.kp T.b_l_draw .nil ZJ (ZA (qv 0) (ZA ZC ZB)))) (ZD (ZM (i := 4) Y0.nd rfl (by walk_at "o") (ZL Yi (ZG (Zt T) hr rfl T.m_l_draw T.F_l_draw.kp T.b_l_draw .nil ZJ (ZA (qv 0) (ZA ZC ZB))) ZC)) (ZD (Zk (ZW (YG) (qv 3) ZC (Zb _)) (ZE (ZM (i := 4) Y0.nd rfl (by walk_at "o") (ZL YC (ZB7 ZAy (ZL Yx ZC ZC)) (ZL Zv (ZG (Zt T) hr rfl T.m_l_draw T.F_l_draw.kp T.b_l_draw .nil ZJ (ZA (qv 0) (ZA ZC ZB))) (qv 1))))) Zi) (ZD (Zk (ZW (YG) (qv 3) ZC (Zb _)) (ZE (ZM (i := 4) Y0.nd rfl (by walk_at "o") (ZL Yi (ZL Yi (ZL Yx ZC ZC) (ZL Zv (qv 1) (qv 2))) (ZG (Zt T) hr rfl T.m_l_draw T.F_l_draw.kp T.b_l_draw .nil ZJ (ZA (qv 0) (ZA ZC ZB)))))) Zi) (ZE (ZZ (Zg (ZA (qv 4) (ZA (qv 1) (ZA (qv 2) ZB)))))))))))), ?_⟩
  walk_at "s"
  walk_at "w"
  refine ZR (by show 3 ≤ sizeLine; decide) fun l H1 n1 f1 S1 => ?_
  have hne1 := hp.neN n1
  walk_at "w"
  refine ⟨p, _, rfl, hp.same S1, by decide, by decide, fun d2 H2 h2 h2' P2 K2 => ?_⟩
  walk_at "w"
  refine ZHK (ns := [_, _, _]) (K2 _ _ f1 hne1) h2 (by simpa using h2') fun n hn => ?_
  have hn2 : 0 < n ∧ n ≤ 17179869184 := by
   simp only [List.mem_cons, List.not_mem_nil, or_false] at hn
   rcases hn with rfl | rfl | rfl <;> decide
  walk_at "w"
  refine ⟨p, _, rfl, P2, hn2.1, Int.lt_of_le_of_lt hn2.2 (by decide), fun d3 H3 h3 h3' P3 K3 => ?_⟩
  walk_at "w"
  refine ⟨p, _, rfl, P3, by decide, by decide, fun d4 H4 h4 h4' P4 K4 => ?_⟩
  walk_at "w"
  refine ⟨p, _, rfl, P4, by decide, by decide, fun d5 H5 h5 h5' P5 K5 => ?_⟩
  walk_at "w"
  refine ⟨p, _, rfl, P5, by decide, by decide, fun d6 H6 h6 h6' P6 K6 => ?_⟩
  have K16 : Kp p H H6 := (((((Kp.same S1).trans K2).trans K3).trans K4).trans K5).trans K6
  have hy : 0 < 1 + d3 ∧ 1 + d3 ≤ 17179869184 := by omega
  have hm : 0 < 1 + d4 ∧ 1 + d4 ≤ 9 := by omega
  have hym : (1 + d4) * (1 + d3) ≤ 9 * 17179869184 := Int.mul_le_mul hm.2 hy.2 (by omega) (by decide)
  have hym0 : 0 ≤ (1 + d4) * (1 + d3) := Int.mul_nonneg (by omega) (by omega)
  have fin : ∀ (b : Int) (H' : Hp) (q : Addr), H' q = some (.tup [.int b, .int (1 + d3), .int (1 + d4)]) → -1099511627776 ≤ b → b + (1 + d4) * (1 + d3) ≤ 1099511627776 → Yl H' q b (1 + d3) (1 + d4) := fun b H' q hq hb hb2 =>
   ⟨hq, by omega, by omega, by omega, ⟨by omega, by omega⟩, ⟨by omega, by omega⟩⟩
  walk_at "w"
  rw [Yr]
  refine Zu (fun e0 => ?_) (fun e0 => ?_)
  ·walk_at "w"
   refine ⟨p, _, rfl, P6, by decide, by decide, fun d7 H7 h7 h7' P7 K7 => ?_⟩
   have hd7 : d7 = 0 ∨ d7 = 1 ∨ d7 = 2 := by omega
   walk_at "w"
   rw [Yr]
   refine Zu (fun h => absurd (e0.symm.trans h) (by decide)) (fun _ => ?_)
   walk_at "w"
   refine ZR (by show 3 ≤ sizeLine; decide) fun q H8 n8 f8 S8 => ?_
   refine k q _ _ _ H8 (fin _ _ _ f8 ?_ ?_) (by omega) (P7.same S8) ((K16.trans K7).then S8)
   ·rcases hd7 with rfl | rfl | rfl <;> omega
   ·rcases hd7 with rfl | rfl | rfl <;> omega
  ·walk_at "w"
   rw [Yr]
   refine Zu (fun e1 => ?_) (fun e1 => ?_)
   ·walk_at "w"
    refine ⟨p, _, rfl, P6, by decide, by decide, fun d7 H7 h7 h7' P7 K7 => ?_⟩
    walk_at "w"
    refine ZR (by show 3 ≤ sizeLine; decide) fun q H8 n8 f8 S8 => ?_
    rw [Int.mul_comm] at f8
    exact k q _ _ _ H8 (fin _ _ _ f8 (by omega) (by omega)) (by omega) (P7.same S8) ((K16.trans K7).then S8)
   ·walk_at "w"
    refine ZR (by show 3 ≤ sizeLine; decide) fun q H8 n8 f8 S8 => ?_
    exact k q _ _ _ H8 (fin _ _ _ f8 (by omega) (by omega)) (by omega) (P6.same S8) (K16.then S8)
theorem ZBV : ZP ["_law_pot_here", "_law_window_here", "_law_begin", "_law_wide", "_law_many"] ["_law_pot_here", "_law_window_here"] (ZF ZDy) := ⟨rfl, rfl, rfl, by decide +kernel, rfl, by decide +kernel, by decide +kernel⟩
theorem ZFM (T : Txt K mg a) : ZQ P w K mg base CX0 2 a.f_l_time a.d_l_time ["_law_pot_here", "_law_window_here"] ZRf := by
 refine T.F_l_time.ok ZBV (fun vs H Q E h => ?_) (fun cdv A outer s H vs Q E hr h => ?_)
 ·obtain ⟨p, q, b, y, m, rfl, _⟩ := h
  rfl
 ·obtain ⟨p, q, b, y, m, rfl, hp, hW, k⟩ := h
  have hy2 := JJ hW
  obtain ⟨hq, hy, hm1, hm2, hb, he⟩ := id hW
  have g0 : 0 < y * (m + 4) := Int.mul_pos hy (by omega)
  have g1 : y * (m + 4) ≤ 2199023255552 * 104 := Int.mul_le_mul hy2 (by omega) (by omega) (by decide)
  refine ⟨_, QB.h (ZD (YZ (qv 1) (YS (n := 3) K rfl rfl (ZT (ZO (i := 2) ZBV.nd rfl (by walk_at "o")) (ZT (ZO (i := 3) ZBV.nd rfl (by walk_at "o")) (ZT (ZO (i := 4) ZBV.nd rfl (by walk_at "o")) YE))))) (ZE (ZZ (ZG (ZPo T) hr rfl T.m_l_in T.F_l_in.kp T.b_l_in .nil ZJ (ZA (ZL YC (ZL Yi (qv 2) (ZL Zv ZC (qv 3))) (ZG (Zt T) hr rfl T.m_l_draw T.F_l_draw.kp T.b_l_draw .nil ZJ (ZA (qv 0) (ZA (ZL Zv (qv 3) (ZL YC (qv 4) ZC)) ZB)))) ZB))))), ?_⟩
  walk_at "s"
  walk_at "w"
  refine ⟨p, _, rfl, hp, g0, Int.lt_of_le_of_lt g1 (by decide), fun d1 H1 h1 h1' P1 K1 => ?_⟩
  walk_at "w"
  refine ⟨_, rfl, fun x hx => ?_⟩
  walk_at "w"
  exact k x H1 hx P1 K1
theorem ZAu : ZP ["_law_pot_here", "_law_window_here", "_law_made", "_law_k", "_law_t"] ["_law_pot_here", "_law_window_here"] (ZF ZCy) := ⟨rfl, rfl, rfl, by decide +kernel, rfl, by decide +kernel, by decide +kernel⟩
theorem ZJH (T : Txt K mg a) : ZQ P w K mg base CX0 3 a.f_l_curve a.d_l_curve ["_law_pot_here", "_law_window_here"] ZNK := by
 refine T.F_l_curve.ok ZAu (fun vs H Q E h => ?_) (fun cdv A outer s H vs Q E hr h => ?_)
 ·obtain ⟨p, q, b, y, m, rfl, _⟩ := h
  rfl
 ·obtain ⟨p, q, b, y, m, rfl, hp, hW, k⟩ := h
  have hu := JE hr
  have nqp : q ≠ p := fun z => by
   obtain ⟨u, v, e, _⟩ := hp
   have := hW.1
   rw [z, e] at this; cases this
  refine ⟨_, QB.h (ZD (ZM (i := 2) ZAu.nd rfl (by walk_at "o") ZGS) (ZD (JP PassesOwn.never rfl (Jz rfl T.z_range (ZA (ZG (Zt T) (hr.mono (by decide)) rfl T.m_l_draw T.F_l_draw.kp T.b_l_draw .nil ZJ (ZA (qv 0) (ZA ZC ZB))) ZB)) (ZO (i := 3) ZAu.nd rfl (by walk_at "o")) (ZD (ZM (i := 4) ZAu.nd rfl (by walk_at "o") (ZG (ZFM T) hr rfl T.m_l_time T.F_l_time.kp T.b_l_time .nil ZJ (ZA (qv 0) (ZA (qv 1) ZB)))) (ZE (J5 hu (ZG (ZDY T) hr rfl T.m_l_height T.F_l_height.kp T.b_l_height .nil ZJ (ZA (qv 0) ZB)) (qv 2) (qv 4))))) (ZE (ZZ (qv 2))))), ?_⟩
  walk_at "s"
  walk_at "w"
  refine ZGV fun d H1 n1 f1 S1 => ?_
  have P1 := hp.same S1
  have hned := hp.neN n1
  walk_at "w"
  refine ⟨p, _, rfl, P1, by decide, by decide, fun d2 H2 h2 h2' P2 K2 => ?_⟩
  have f2 := K2 _ _ f1 hned
  have KA : Kp p H H2 := (Kp.same S1).trans K2
  walk_at "w"
  refine ZBn (by omega) (by omega) (ZDC (fun i σ H' => (∃ v3 v4, σ = [some (.ref p), some (.ref q), some (.ref d), v3, v4]) ∧ Pot H' p ∧ Kp p H H' ∧ ∃ ps : List (Int × Int), H' d = some (.dK (Zj ps)) ∧ (ps.map (·.1)).Nodup ∧ ps.length ≤ i ∧ ∀ r ∈ ps, Tm r.1 ∧ -(10 ^ 59) < r.2 ∧ r.2 < 10 ^ 59) ?_ ?_ ?_)
  ·exact ⟨⟨_, _, rfl⟩, P2, KA, [], f2, List.nodup_nil, Nat.zero_le _, fun q hq => by simp at hq⟩
  ·rintro i σ H3 hi ⟨⟨v3, v4, rfl⟩, P3, K3, ps, f3, hnd, hl, hbp⟩
   have hlt : ps.length < sizeLine := by show _ < 2 ^ 24; omega
   walk_at "w"
   refine ⟨p, q, b, y, m, rfl, P3, ⟨K3 _ _ hW.1 nqp, hW.2⟩, fun t H4 ht P4 K4 => ?_⟩
   walk_at "w"
   refine ⟨p, rfl, P4, fun x H5 hx1 hx2 P5 K5 => ?_⟩
   have f5 := K5 _ _ (K4 _ _ f3 hned) hned
   walk_at "w"
   refine ZDj f5 hlt fun H6 f6 K6 => ?_
   walk_at "w"
   exact ⟨⟨_, _, rfl⟩, P5.kp K6 hned.symm, fun c o e nc => K6 c o (K5 c o (K4 c o (K3 c o e nc) nc) nc) (ZY e n1), _, f6, JG hnd, Nat.le_trans (ZCD _ _ _) (by omega), ZNG _ hbp ⟨ht, hx1, hx2⟩⟩
  ·rintro σ H3 ⟨⟨v3, v4, rfl⟩, P3, K3, ps, f3, hnd, hl, hbp⟩
   walk_at "w"
   exact k d ps H3 n1 f3 hnd (by omega) hbp P3 K3
theorem JD : ZP ["_law_pot_here", "_law_window_here", "_law_begin", "_law_wide", "_law_many", "_law_way", "_law_n", "_law_c"] ["_law_pot_here", "_law_window_here"] (ZF ZDz) := ⟨rfl, rfl, rfl, by decide +kernel, rfl, by decide +kernel, by decide +kernel⟩
theorem ZFN (T : Txt K mg a) : ZQ P w K mg base CX0 2 a.f_l_step a.d_l_step ["_law_pot_here", "_law_window_here"] ZRg := by
 refine T.F_l_step.ok JD (fun vs H Q E h => ?_) (fun cdv A outer s H vs Q E hr h => ?_)
 ·obtain ⟨p, q, b, y, m, rfl, _⟩ := h
  rfl
 ·obtain ⟨p, q, b, y, m, rfl, hp, hW, k⟩ := h
  have hy2 := JJ hW
  obtain ⟨hq, hy, hm1, hm2, hb, he⟩ := id hW
  have g3 : (3 : Nat) ≤ sizeLine := by decide
  refine ⟨_, QB.h (ZD (YZ (qv 1) (YS (n := 3) K rfl rfl (ZT (ZO (i := 2) JD.nd rfl (by walk_at "o")) (ZT (ZO (i := 3) JD.nd rfl (by walk_at "o")) (ZT (ZO (i := 4) JD.nd rfl (by walk_at "o")) YE))))) (ZD (ZM (i := 5) JD.nd rfl (by walk_at "o") (ZG (Zt T) hr rfl T.m_l_draw T.F_l_draw.kp T.b_l_draw .nil ZJ (ZA (qv 0) (ZA ZC ZB)))) (ZD (Zk (ZW (YG) (qv 5) ZC (Zb _)) (ZE (ZZ (Zg (ZA JN (ZA ZC (ZA (Zg (ZA (qv 2) (ZA (ZL Zv ZC (qv 3)) (ZA (qv 4) ZB)))) ZB)))))) Zi) (ZD (Zk (QW.pt (Jn (ZW (YG) (qv 5) ZC (Zb _)) (JR (ZW (YG) (ZL ZAb (qv 3) ZC) ZC (Zb _))))) (ZE (ZZ (Zg (ZA JN (ZA ZC (ZA (Zg (ZA (qv 2) (ZA (ZL JZ (qv 3) ZC) (ZA (qv 4) ZB)))) ZB)))))) Zi) (ZD (Zk (ZW (YG) (qv 5) ZC (Zb _)) (ZD (ZM (i := 6) JD.nd rfl (by walk_at "o") (ZL YC ZC (ZG (Zt T) hr rfl T.m_l_draw T.F_l_draw.kp T.b_l_draw .nil ZJ (ZA (qv 0) (ZA ZC ZB))))) (ZE (ZZ (Zg (ZA JN (ZA (qv 6) (ZA (Zg (ZA (qv 2) (ZA (qv 3) (ZA (qv 6) ZB)))) ZB))))))) Zi) (ZD (ZM (i := 7) JD.nd rfl (by walk_at "o") (ZL Yi (ZG (Zt T) hr rfl T.m_l_draw T.F_l_draw.kp T.b_l_draw .nil ZJ (ZA (qv 0) (ZA ZC ZB))) ZC)) (ZD (Zk (ZW (YG) (qv 5) ZC (Zb _)) (ZE (ZM (i := 7) JD.nd rfl (by walk_at "o") (ZL Yi (ZG (Zt T) hr rfl T.m_l_draw T.F_l_draw.kp T.b_l_draw .nil ZJ (ZA (qv 0) (ZA (ZL Yx ZC ZC) ZB))) (ZL Yx ZC ZC)))) Zi) (ZE (ZZ (Zg (ZA JN (ZA (qv 7) (ZA (Zg (ZA (ZL YC (qv 2) (ZL Zv (qv 7) (qv 3))) (ZA (qv 3) (ZA (qv 4) ZB)))) ZB))))))))))))), ?_⟩
  walk_at "s"
  walk_at "w"
  refine ⟨p, _, rfl, hp, by decide, by decide, fun d1 H1 h1 h1' P1 K1 => ?_⟩
  walk_at "w"
  rw [Yr]
  refine Zu (fun e0 => ?_) (fun e0 => ?_)
  ·walk_at "w"
   refine ZR g3 fun w2 H2 n2 f2 S2 => ?_
   walk_at "w"
   refine ZR g3 fun u3 H3 n3 f3 S3 => ?_
   exact k u3 _ _ _ H3 ⟨_, _, w2, f3, S3 _ _ f2, .inl ⟨rfl, rfl, rfl, rfl⟩⟩ ((P1.same S2).same S3) ((K1.then S2).then S3)
  repeat walk_at "ri"
  refine J8 (fun σ' H' => σ' = [some (.ref p), some (.ref q), some (.int b), some (.int y), some (.int m), some (.int d1), none, none] ∧ H' = H1) ?_ ?_
  ·rintro σ' H' ⟨rfl, rfl⟩
   walk_at "w"
   rw [Yr]
   refine Zu (fun e2 => ?_) (fun e2 => ?_)
   ·walk_at "w"
    refine ⟨p, _, rfl, P1, by decide, by decide, fun d2 H2 h2 h2' P2 K2 => ?_⟩
    walk_at "w"
    refine ZR g3 fun w3 H3 n3 f3 S3 => ?_
    walk_at "w"
    refine ZR g3 fun u4 H4 n4 f4 S4 => ?_
    exact k u4 _ _ _ H4 ⟨_, _, w3, f4, S4 _ _ f3, .inr (.inr (.inl ⟨rfl, by omega, by omega, rfl, rfl, rfl⟩))⟩ ((P2.same S3).same S4) (((K1.trans K2).then S3).then S4)
   walk_at "w"
   refine ⟨p, _, rfl, P1, by decide, by decide, fun d2 H2 h2 h2' P2 K2 => ?_⟩
   walk_at "w"
   rw [Yr]
   refine Zu (fun e3 => ?_) (fun e3 => ?_)
   ·walk_at "w"
    refine ⟨p, _, rfl, P2, by decide, by decide, fun d3 H3 h3 h3' P3 K3 => ?_⟩
    walk_at "w"
    refine ZR g3 fun w4 H4 n4 f4 S4 => ?_
    walk_at "w"
    refine ZR g3 fun u5 H5 n5 f5 S5 => ?_
    exact k u5 _ _ _ H5 ⟨_, _, w4, f5, S5 _ _ f4, .inr (.inr (.inr ⟨rfl, by omega, by omega, rfl, rfl, rfl⟩))⟩ ((P3.same S4).same S5) ((((K1.trans K2).trans K3).then S4).then S5)
   ·walk_at "w"
    refine ZR g3 fun w4 H4 n4 f4 S4 => ?_
    walk_at "w"
    refine ZR g3 fun u5 H5 n5 f5 S5 => ?_
    exact k u5 _ _ _ H5 ⟨_, _, w4, f5, S5 _ _ f4, .inr (.inr (.inr ⟨rfl, by omega, by omega, rfl, rfl, rfl⟩))⟩ ((P2.same S4).same S5) (((K1.trans K2).then S4).then S5)
  ·intro D' hrt hD'
   walk_at "w"
   rw [Yr]
   refine Zu (fun e1 => ?_) (fun e1 => ?_)
   ·walk_at "w"
    rw [Yr]
    refine Zu (fun e2 => ?_) (fun e2 => ?_)
    ·walk_at "w"
     refine ZR g3 fun w2 H2 n2 f2 S2 => ?_
     walk_at "w"
     refine ZR g3 fun u3 H3 n3 f3 S3 => ?_
     rw [hrt]
     exact k u3 _ _ _ H3 ⟨_, _, w2, f3, S3 _ _ f2, .inr (.inl ⟨rfl, e2, rfl, rfl, rfl⟩)⟩ ((P1.same S2).same S3) ((K1.then S2).then S3)
    ·walk_at "w"
     exact hD' _ _ ⟨rfl, rfl⟩
   ·walk_at "w"
    exact hD' _ _ ⟨rfl, rfl⟩
def ZRh (a : Ad) : Sp := fun vs H Q _ => ∃ (S : SA) (v d u : Addr) (b y m k n b' y' m' : Int) (kvs : List (List Key × V)) (e : Nat) (sm : List (Int × Int)) (c : Nat) (ds : List (Int × Option Int)) (ts : List Int) (ws : List V), vs = [.ref v, .ref u] ∧ ZH a H S n sm c ds ts ws ∧ Z6 a H S v d b y m k kvs e sm ts ∧ ts.length ≤ 10000 ∧ ZEd H u b y m b' y' m' ∧ ZBi b' y' m' ∧
 ZAt a H S v d k n kvs e sm c ds ts ws b' y' m' (fun _ H' => Q (.bl true) H')
theorem Yw : ZP ["_law_view", "_law_step_here", "_law_told"] ["_law_view", "_law_step_here"] (ZF ZG5) := ⟨rfl, rfl, rfl, by decide +kernel, rfl, by decide +kernel, by decide +kernel⟩
theorem ZPp (T : Txt K mg a) : ZQ P w K mg base CX0 7 a.f_l_go a.d_l_go ["_law_view", "_law_step_here"] (ZRh a) := by
 refine T.F_l_go.ok Yw (fun vs H Q E h => ?_) (fun cdv A outer s H vs Q E hr h => ?_)
 ·obtain ⟨S, v, d, u, b, y, m, k, n, b', y', m', kvs, e, sm, c, ds, ts, ws, rfl, _⟩ := h
  rfl
 ·obtain ⟨S, v, d, u, b, y, m, k, n, b', y', m', kvs, e, sm, c, ds, ts, ws, rfl, hS, hV, hlen, ⟨nm, j, q, hu1, hq, hst⟩, hw, kk⟩ := h
  obtain ⟨dx, q0, hv, hW, hd, hk, av, ad⟩ := id hV
  have hy2 := JJ hW
  refine ⟨_, QB.h (ZD (ZM (i := 2) Yw.nd rfl (by walk_at "o") YN) (ZD (Zk (ZW (YG) (ZU (Zd K rfl) (qv 1) ZC) JN (Zb _)) (ZE (ZM (i := 2) Yw.nd rfl (by walk_at "o") (JH (qv 0) T.c_View T.M_View_wide (ZHJ T) hr T.b_View_wide .nil ZJ))) (ZE (Zk (ZW (YG) (ZU (Zd K rfl) (qv 1) ZC) JN (Zb _)) (ZE (ZM (i := 2) Yw.nd rfl (by walk_at "o") (JH (qv 0) T.c_View T.M_View_narrow (ZB1 T) hr T.b_View_narrow .nil ZJ))) (ZE (Zk (ZW (YG) (ZU (Zd K rfl) (qv 1) ZC) JN (Zb _)) (ZE (ZM (i := 2) Yw.nd rfl (by walk_at "o") (Zw (qv 0) T.c_View T.M_View_columns (ZEc T) hr T.b_View_columns .nil ZJ (ZA (ZU (Zd K rfl) (qv 1) ZC) ZB)))) (ZE (ZM (i := 2) Yw.nd rfl (by walk_at "o") (Zw (qv 0) T.c_View T.M_View_on (ZJG T) hr T.b_View_on .nil ZJ (ZA (ZU (Zd K rfl) (qv 1) ZC) ZB))))))))) (ZE (ZZ (ZAL (ZBm) (qv 2) YN (Zb _)))))), ?_⟩
  walk_at "s"
  walk_at "w"
  have ne1 : (("narrow" : Str) = "wide") = False := eq_false (by decide +kernel)
  have ne2 : (("columns" : Str) = "wide") = False := eq_false (by decide +kernel)
  have ne3 : (("on" : Str) = "wide") = False := eq_false (by decide +kernel)
  have ne4 : (("columns" : Str) = "narrow") = False := eq_false (by decide +kernel)
  have ne5 : (("on" : Str) = "narrow") = False := eq_false (by decide +kernel)
  have ne6 : (("on" : Str) = "columns") = False := eq_false (by decide +kernel)
  rcases hst with ⟨rfl, rfl, rfl, rfl⟩ | ⟨rfl, h2, rfl, rfl, rfl⟩ | ⟨rfl, h1, h2, rfl, rfl, rfl⟩ | ⟨rfl, h1, h2, rfl, rfl, rfl⟩
  ·refine Ye ?_
   rw [decide_eq_true rfl]
   walk_at "w"
   refine YJ ?_
   walk_at "w"
   refine Zf hv (Ym (by decide +kernel) (by decide +kernel) (by decide +kernel) (by decide +kernel) (by decide +kernel)) ?_
   rw [Int.mul_comm] at hw kk
   refine ⟨S, v, d, b', y, m', k, n, kvs, e, sm, c, ds, ts, ws, rfl, hS, hV, hlen, hw, fun d' kvs1 kvs' H' n' g1 g2 g3 g4 g5 F => ?_⟩
   walk_at "w"
   exact kk d' kvs1 kvs' H' n' g1 g2 g3 g4 g5 F
  ·refine Ye ?_
   rw [decide_eq_false (by rw [ne1]; exact id)]
   walk_at "w"
   refine Z1 ?_
   walk_at "w"
   refine Ye ?_
   rw [decide_eq_true rfl]
   walk_at "w"
   refine YJ ?_
   walk_at "w"
   refine Zf hv (Ym (by decide +kernel) (by decide +kernel) (by decide +kernel) (by decide +kernel) (by decide +kernel)) ?_
   refine ⟨S, v, d, b', y, m', k, n, kvs, e, sm, c, ds, ts, ws, rfl, hS, hV, hlen, h2, hw, fun d' kvs1 kvs' H' n' g1 g2 g3 g4 g5 F => ?_⟩
   walk_at "w"
   exact kk d' kvs1 kvs' H' n' g1 g2 g3 g4 g5 F
  ·refine Ye ?_
   rw [decide_eq_false (by rw [ne2]; exact id)]
   walk_at "w"
   refine Z1 ?_
   walk_at "w"
   refine Ye ?_
   rw [decide_eq_false (by rw [ne4]; exact id)]
   walk_at "w"
   refine Z1 ?_
   walk_at "w"
   refine Ye ?_
   rw [decide_eq_true rfl]
   walk_at "w"
   refine YJ ?_
   walk_at "w"
   refine Zf hv (Ym (by decide +kernel) (by decide +kernel) (by decide +kernel) (by decide +kernel) (by decide +kernel)) ?_
   walk_at "w"
   refine ⟨S, v, d, b', y', m, k, n, m', kvs, e, sm, c, ds, ts, ws, rfl, hS, hV, hlen, hw, fun d' kvs1 kvs' H' n' g1 g2 g3 g4 g5 F => ?_⟩
   walk_at "w"
   exact kk d' kvs1 kvs' H' n' g1 g2 g3 g4 g5 F
  ·refine Ye ?_
   rw [decide_eq_false (by rw [ne3]; exact id)]
   walk_at "w"
   refine Z1 ?_
   walk_at "w"
   refine Ye ?_
   rw [decide_eq_false (by rw [ne5]; exact id)]
   walk_at "w"
   refine Z1 ?_
   walk_at "w"
   refine Ye ?_
   rw [decide_eq_false (by rw [ne6]; exact id)]
   walk_at "w"
   refine Z1 ?_
   walk_at "w"
   refine Zf hv (Ym (by decide +kernel) (by decide +kernel) (by decide +kernel) (by decide +kernel) (by decide +kernel)) ?_
   walk_at "w"
   refine ⟨S, v, d, b, y', m', k, n, j, kvs, e, sm, c, ds, ts, ws, rfl, hS, hV, hlen, ZCn (m := 42) (n := 43) (by unfold Bn; omega) (by have := hw.1; unfold Bn; omega) (by decide), hw, fun d' kvs1 kvs' H' n' g1 g2 g3 g4 g5 F => ?_⟩
   walk_at "w"
   exact kk d' kvs1 kvs' H' n' g1 g2 g3 g4 g5 F
end
theorem ZDZ {cv : List (Int × Int)} (h : (cv.map (·.1)).Nodup) (f : Int × Int → Int) : (cv.map fun p => (f p, p.1)).Nodup := by
 unfold List.Nodup at *
 rw [List.pairwise_map] at *
 exact h.imp fun h z => h (congrArg (·.2) z)
theorem ZRi {cv lo hi : List (Int × Int)} {q0 q1 l0 h0 : Int × Int} (m0 : q0 ∈ cv) (b0 : ∀ r ∈ cv, ltP r q0 = false) (m1 : q1 ∈ cv) (b1 : ∀ r ∈ cv, ltP q1 r = false)
  (hl : lo.Perm (cv.map fun p => (p.2, p.1))) (hh : hi.Perm (cv.map fun p => (-p.2, p.1))) (sl : lo.Pairwise fun p q => ltP p q = true) (sh : hi.Pairwise fun p q => ltP p q = true) (f0 : lo[0]? = some l0) (g0 : hi[0]? = some h0) :
  Is4 cv (some [q0, q1, (l0.2, l0.1), (h0.2, -h0.1)]) := by
 have fst : ∀ {xs : List (Int × Int)} {x : Int × Int}, xs.Pairwise (fun p q => ltP p q = true) → xs[0]? = some x → x ∈ xs ∧ ∀ y ∈ xs, y = x ∨ ltP x y = true := by
  intro xs x hs hx
  cases xs with
  | nil => cases hx
  | cons z zs =>
   have : z = x := by simpa using hx
   subst this
   refine ⟨List.mem_cons_self .., fun y hy => ?_⟩
   rcases List.mem_cons.mp hy with rfl | hy
   ·exact .inl rfl
   ·exact .inr ((List.pairwise_cons.mp hs).1 y hy)
 obtain ⟨ml, bl⟩ := fst sl f0
 obtain ⟨mh, bh⟩ := fst sh g0
 obtain ⟨r2, hr2, er2⟩ := List.mem_map.mp (hl.mem_iff.mp ml)
 obtain ⟨r3, hr3, er3⟩ := List.mem_map.mp (hh.mem_iff.mp mh)
 have x2 : (l0.2, l0.1) = r2 := by rw [← er2]
 have x3 : (h0.2, -h0.1) = r3 := by rw [← er3]; simp
 rw [x2, x3]
 refine .inr ⟨q0, q1, r2, r3, rfl, m0, m1, hr2, hr3, fun p hp => ?_⟩
 have c0 := YX.mp (b0 p hp)
 have c1 := YX.mp (b1 p hp)
 have c2 := bl (p.2, p.1) (hl.mem_iff.mpr (List.mem_map.mpr ⟨_, hp, rfl⟩))
 have c3 := bh (-p.2, p.1) (hh.mem_iff.mpr (List.mem_map.mpr ⟨_, hp, rfl⟩))
 rw [← er2, Yc, Prod.mk.injEq] at c2
 rw [← er3, Yc, Prod.mk.injEq] at c3
 refine ⟨by omega, by omega, ?_, ?_⟩ <;> omega
section
variable {P : Program} {w : World} {K : PySem.W.Frag} {mg : Str → Option Value} {base : Heap} {a : Ad}
def ZNL : Sp := fun vs H Q _ => ∃ (l : Addr) (m : List (Int × Int)), vs = [.ref l] ∧ PrL H l m ∧ (m.map (·.1)).Nodup ∧ m.length < 64 ∧
 ∀ (v : V) (o : Option (List (Int × Int))) (H' : Hp), Zr H' v o → Is4 m o → ZK H H' → Q v H'
theorem ZC8 : ZP ["_law_some", "_law_low", "_law_high"] ["_law_some"] (ZF ZA8) := ⟨rfl, rfl, rfl, by decide +kernel, rfl, by decide +kernel, by decide +kernel⟩
theorem ZK1 (T : Txt K mg a) : ZQ P w K mg base CX0 1 a.f_l_four a.d_l_four ["_law_some"] ZNL := by
 refine T.F_l_four.ok ZC8 (fun vs H Q E h => ?_) (fun cdv A outer s H vs Q E hr h => ?_)
 ·obtain ⟨l, m, rfl, _⟩ := h
  rfl
 ·obtain ⟨t, cv, rfl, hT, hnd, hlen, k⟩ := h
  have hu := JE hr
  have hu64 := hr.units
  refine ⟨_, QB.h (ZD (Zk (ZW (ZGv K rfl hu) (qv 0) (Yd ZB) (Zb _)) (ZE (ZZ YN)) Zi) (ZD (ZM (i := 1) ZC8.nd rfl (by walk_at "o") (ZU (Zm K rfl) (Zo (ZEQ K rfl) rfl T.z_sorted ZBJ (ZA (Jj (N := ["_law_some", "_law_low", "_law_high"]) (sc := ZF ZA8) (own := ["_law_t", "_law_h"]) (caps := []) (ks := []) rfl rfl rfl ⟨rfl, by decide +kernel, by decide +kernel, by decide +kernel, by decide +kernel, rfl, by decide +kernel⟩ (Y4 K rfl (qv 0)) (fun _ _ _ _ _ => YS (n := 2) K rfl rfl (ZT (ZO (i := 0) (show List.Nodup (α := Str) ["_law_t", "_law_h"] from by decide +kernel) rfl (by walk_at "o") (.inr rfl)) (ZT (ZO (i := 1) (show List.Nodup (α := Str) ["_law_t", "_law_h"] from by decide +kernel) rfl (by walk_at "o") (.inr rfl)) YE))) (fun _ _ _ _ _ => ZAM) (fun _ _ _ _ _ => Zg (ZA (qv 1) (ZA (qv 0) ZB)))) ZB)) ZC)) (ZD (ZM (i := 2) ZC8.nd rfl (by walk_at "o") (ZU (Zm K rfl) (Zo (ZEQ K rfl) rfl T.z_sorted ZBJ (ZA (Jj (N := ["_law_some", "_law_low", "_law_high"]) (sc := ZF ZA8) (own := ["_law_t", "_law_h"]) (caps := []) (ks := []) rfl rfl rfl ⟨rfl, by decide +kernel, by decide +kernel, by decide +kernel, by decide +kernel, rfl, by decide +kernel⟩ (Y4 K rfl (qv 0)) (fun _ _ _ _ _ => YS (n := 2) K rfl rfl (ZT (ZO (i := 0) (show List.Nodup (α := Str) ["_law_t", "_law_h"] from by decide +kernel) rfl (by walk_at "o") (.inr rfl)) (ZT (ZO (i := 1) (show List.Nodup (α := Str) ["_law_t", "_law_h"] from by decide +kernel) rfl (by walk_at "o") (.inr rfl)) YE))) (fun _ _ _ _ _ => ZAM) (fun _ _ _ _ _ => Zg (ZA (ZB7 ZAy (qv 1)) (ZA (qv 0) ZB)))) ZB)) ZC)) (ZE (ZZ (Zg (ZA (Zo (ZPI K rfl rfl hu) rfl T.z_min ZF8 (ZA (qv 0) ZB)) (ZA (Zo (ZPK K rfl rfl hu) rfl T.z_max ZEK (ZA (qv 0) ZB)) (ZA (Zg (ZA (ZU (Zd K rfl) (qv 1) ZC) (ZA (ZU (Zd K rfl) (qv 1) ZC) ZB))) (ZA (Zg (ZA (ZU (Zd K rfl) (qv 2) ZC) (ZA (ZB7 ZAy (ZU (Zd K rfl) (qv 2) ZC)) ZB))) ZB)))))))))), ?_⟩
  walk_at "s"
  walk_at "w"
  refine ZR (by show 0 ≤ sizeLine; decide) fun e0 H0 n0 f0 S0 => ?_
  obtain ⟨us, gT0, pT0⟩ := hT
  have gT := S0 _ _ gT0
  have pT := pT0.same S0
  have hul : us.length = cv.length := pT.length
  refine ZDt (SqL.of gT) (SqL.of f0) ?_
  by_cases hne : cv = []
  ·have : us = [] := List.length_eq_zero_iff.mp (by rw [hul, hne]; rfl)
   rw [this]
   walk_at "w"
   refine YJ ?_
   walk_at "w"
   exact k _ none H0 .non (.inl ⟨rfl, hne⟩) S0
  have hpos : 0 < cv.length := List.length_pos_iff.mpr hne
  rw [show us.isEmpty = false by cases us with | nil => simp at hul; omega | cons _ _ => rfl]
  walk_at "w"
  refine Z1 ?_
  walk_at "w"
  intro l n1
  refine Jh cv.length (fun i' σ' H' => (∃ o1 o2, σ' = [o1, o2]) ∧ ZK H0 H' ∧ ∃ vs, H' l = some (.lst vs) ∧ ZI H' vs ((cv.take i').map fun p => (p.2, p.1))) ?_ ?_ ?_
  ·exact ⟨⟨none, none, rfl⟩, ZK.new n1, [], ZS, .nil⟩
  ·rintro σ' H1 ⟨_, S1, vs1, f1, hP1⟩
   refine ⟨⟨_, SqL.of (S1 _ _ gT), by rw [hul]; exact Nat.le_refl _⟩, ?_⟩
   rw [List.take_length] at hP1
   walk_at "w"
   refine ZER (SqL.of f1) hP1 (ZDZ hnd fun p => p.2) (by rw [List.length_map]; exact hlen) fun l2 us2 lo H2 n2 f2 hP2 perm2 pw2 S2 => ?_
   have hlo : lo.length = cv.length := by rw [perm2.length_eq, List.length_map]
   obtain ⟨c2, p2, ec2, hp2, hc2⟩ := hP2.at (List.getElem?_eq_getElem (show 0 < us2.length by rw [hP2.length, hlo]; exact hpos))
   have hx2 : us2[0]? = some (.ref c2) := by rw [List.getElem?_eq_getElem (show 0 < us2.length by rw [hP2.length, hlo]; exact hpos), ec2]
   walk_at "w"
   refine JM (SqL.of f2) (ZBk (j := 0) hx2) ?_
   have S02 := S1.trans S2
   have gT2 := S02 _ _ gT
   walk_at "w"
   intro l3 n3
   refine Jh cv.length (fun i' σ' H' => (∃ o1 o2, σ' = [o1, o2]) ∧ ZK H2 H' ∧ ∃ vs, H' l3 = some (.lst vs) ∧ ZI H' vs ((cv.take i').map fun p => (-p.2, p.1))) ?_ ?_ ?_
   ·exact ⟨⟨none, none, rfl⟩, ZK.new n3, [], ZS, .nil⟩
   ·rintro σ'' H3 ⟨_, S3, vs3, f3, hP3⟩
    have S03 := S02.trans S3
    refine ⟨⟨_, SqL.of (S03 _ _ gT), by rw [hul]; exact Nat.le_refl _⟩, ?_⟩
    rw [List.take_length] at hP3
    walk_at "w"
    refine ZER (SqL.of f3) hP3 (ZDZ hnd fun p => -p.2) (by rw [List.length_map]; exact hlen) fun l4 us4 hi H4 n4 f4 hP4 perm4 pw4 S4 => ?_
    have hhi : hi.length = cv.length := by rw [perm4.length_eq, List.length_map]
    obtain ⟨c4, p4, ec4, hp4, hc4⟩ := hP4.at (List.getElem?_eq_getElem (show 0 < us4.length by rw [hP4.length, hhi]; exact hpos))
    have hx4 : us4[0]? = some (.ref c4) := by rw [List.getElem?_eq_getElem (show 0 < us4.length by rw [hP4.length, hhi]; exact hpos), ec4]
    walk_at "w"
    refine JM (SqL.of f4) (ZBk (j := 0) hx4) ?_
    have S04 := S03.trans S4
    have hT4 : PrL H4 t cv := ⟨us, S04 _ _ gT, pT.same S04⟩
    have hc2' := S4 _ _ (S3 _ _ hc2)
    walk_at "w"
    refine ZPJ hT4 hne fun c0 q0 m0 hc0 b0 => ?_
    walk_at "w"
    refine ZPL hT4 hne fun c1 q1 m1 hc1 b1 => ?_
    walk_at "w"
    refine ZR (by show 2 ≤ sizeLine; decide) fun c5 H5 n5 f5 S5 => ?_
    have hc4' := S5 _ _ hc4
    walk_at "w"
    refine ZR (by show 2 ≤ sizeLine; decide) fun c6 H6 n6 f6 S6 => ?_
    walk_at "w"
    refine ZR (by show 4 ≤ sizeLine; decide) fun c7 H7 n7 f7 S7 => ?_
    have S47 := S5.trans (S6.trans S7)
    have hP7 : ZI H7 [.ref c0, .ref c1, .ref c5, .ref c6] [q0, q1, (p2.2, p2.1), (p4.2, -p4.1)] := .cons ⟨c0, rfl, S47 _ _ hc0⟩ (.cons ⟨c1, rfl, S47 _ _ hc1⟩ (.cons ⟨c5, rfl, S7 _ _ (S6 _ _ f5)⟩ (.cons ⟨c6, rfl, S7 _ _ f6⟩ .nil)))
    exact k _ (some [q0, q1, (p2.2, p2.1), (p4.2, -p4.1)]) H7 (.pr ⟨_, f7, hP7⟩ rfl) (ZRi m0 b0 m1 b1 perm2 perm4 pw2 pw4 hp2 hp4) (S0.trans (S04.trans S47))
   ·rintro i' σ'' H3 hi' ⟨⟨o1, o2, rfl⟩, S3, vs, f, hPc⟩
    have S03 := S02.trans S3
    have hi2 : i' < us.length := by rw [hul]; exact hi'
    refine ⟨⟨_, _, SqL.of (S03 _ _ gT), List.getElem?_eq_getElem hi2⟩, ?_⟩
    rintro v H'' ⟨rfl, hv⟩
    have hv := hv _ (SqL.of (S03 _ _ gT))
    obtain ⟨c, q, rfl, hq, hc⟩ := (pT.same S03).at hv
    have e3 : (cv.take (i' + 1)).map (fun p => (-p.2, p.1)) = (cv.take i').map (fun p => (-p.2, p.1)) ++ [(-q.2, q.1)] := by rw [List.take_succ, hq, List.map_append]; rfl
    walk_at "w"
    refine YJ ?_
    walk_at "w"
    refine ZR (by show 2 ≤ sizeLine; decide) fun t4 H4 n4 f4 S4 => ?_
    refine ⟨vs, S4 _ _ f, ?_, ⟨_, _, rfl⟩, (S3.trans S4).kpN n3 Kp.upd, _, ZS, ?_⟩
    ·rw [hPc.length, List.length_map, List.length_take]
     exact Nat.lt_of_le_of_lt (Nat.min_le_left _ _) (Nat.lt_of_lt_of_le (show i' < 64 by omega) (by decide))
    ·rw [e3]
     exact ZI.kpL Kp.upd (S4 _ _ f) ((hPc.same S4).snoc (p := (-q.2, q.1)) f4)
  ·rintro i' σ' H1 hi' ⟨⟨o1, o2, rfl⟩, S1, vs, f, hPc⟩
   have hi2 : i' < us.length := by rw [hul]; exact hi'
   refine ⟨⟨_, _, SqL.of (S1 _ _ gT), List.getElem?_eq_getElem hi2⟩, ?_⟩
   rintro v H'' ⟨rfl, hv⟩
   have hv := hv _ (SqL.of (S1 _ _ gT))
   obtain ⟨c, q, rfl, hq, hc⟩ := (pT.same S1).at hv
   have e3 : (cv.take (i' + 1)).map (fun p => (p.2, p.1)) = (cv.take i').map (fun p => (p.2, p.1)) ++ [(q.2, q.1)] := by rw [List.take_succ, hq, List.map_append]; rfl
   walk_at "w"
   refine YJ ?_
   walk_at "w"
   refine ZR (by show 2 ≤ sizeLine; decide) fun t4 H4 n4 f4 S4 => ?_
   refine ⟨vs, S4 _ _ f, ?_, ⟨_, _, rfl⟩, (S1.trans S4).kpN n1 Kp.upd, _, ZS, ?_⟩
   ·rw [hPc.length, List.length_map, List.length_take]
    exact Nat.lt_of_le_of_lt (Nat.min_le_left _ _) (Nat.lt_of_lt_of_le (show i' < 64 by omega) (by decide))
   ·rw [e3]
    exact ZI.kpL Kp.upd (S4 _ _ f) ((hPc.same S4).snoc (p := (q.2, q.1)) f4)
def ZNM : Sp := fun vs H Q _ => ∃ (d q : Addr) (m : List (Int × Int)) (b y k : Int), vs = [.ref d, .ref q] ∧ H d = some (.dK (Zj m)) ∧ (m.map (·.1)).Nodup ∧ m.length < 64 ∧ Yl H q b y k ∧
 ∀ (u : Addr) (us : List V) (fs : List (Option (List (Int × Int)))) (H' : Hp), H' u = some (.tup us) → Z2 H' us fs → ZAe m b y k.toNat fs → ZK H H' → Q (.ref u) H'
theorem JK : ZP ["_law_made", "_law_window_here", "_law_begin", "_law_wide", "_law_many", "_law_columns", "_law_k", "_law_first"] ["_law_made", "_law_window_here"] (ZF ZBO) := ⟨rfl, rfl, rfl, by decide +kernel, rfl, by decide +kernel, by decide +kernel⟩
theorem ZJI (T : Txt K mg a) : ZQ P w K mg base CX0 2 a.f_l_fours a.d_l_fours ["_law_made", "_law_window_here"] ZNM := by
 refine T.F_l_fours.ok JK (fun vs H Q E h => ?_) (fun cdv A outer s H vs Q E hr h => ?_)
 ·obtain ⟨d, q, m, b, y, k, rfl, _⟩ := h
  rfl
 ·obtain ⟨d, q, m, b, y, kk, rfl, hd, hnd, hlen, ⟨hq, hy, hk1, hk2, _⟩, k⟩ := h
  have hu := JE hr
  have hu64 := hr.units
  refine ⟨_, QB.h (ZD (YZ (qv 1) (YS (n := 3) K rfl rfl (ZT (ZO (i := 2) JK.nd rfl (by walk_at "o")) (ZT (ZO (i := 3) JK.nd rfl (by walk_at "o")) (ZT (ZO (i := 4) JK.nd rfl (by walk_at "o")) YE))))) (ZD (ZM (i := 5) JK.nd rfl (by walk_at "o") (Yd ZB)) (ZD (JP PassesOwn.never rfl (Jz rfl T.z_range (ZA (qv 4) ZB)) (ZO (i := 6) JK.nd rfl (by walk_at "o")) (ZD (ZM (i := 7) JK.nd rfl (by walk_at "o") (ZL YC (qv 2) (ZL Zv (qv 6) (qv 3)))) (ZE (Zc (ZCA PySem.F.plainAttrs_list PySem.F.slot_list_append PySem.F.type_list_append JA (qv 5) (ZA (ZG (ZK1 T) hr rfl T.m_l_four T.F_l_four.kp T.b_l_four .nil ZJ (ZA (ZPG (Jj (N := ["_law_made", "_law_window_here", "_law_begin", "_law_wide", "_law_many", "_law_columns", "_law_k", "_law_first"]) (sc := ZF ZBO) (own := ["_law_t"]) (caps := ["_law_made", "_law_first", "_law_wide"]) (ks := [0, 7, 3]) rfl rfl rfl ⟨rfl, by decide +kernel, by decide +kernel, by decide +kernel, by decide +kernel, rfl, by decide +kernel⟩ (ZPF (qv 0)) (fun _ _ _ _ _ => ZO (i := 0) (show List.Nodup (α := Str) ["_law_t", "_law_made", "_law_first", "_law_wide"] from by decide +kernel) rfl (by walk_at "o") (.inr rfl)) (fun _ _ _ _ _ => ZDi (ZB9 ZAn ZDA (qv 2) (qv 0) (ZL YC (qv 2) (qv 3)))) (fun _ _ _ _ _ => Zg (ZA (qv 0) (ZA (ZAP hu (qv 1) (qv 0)) ZB))))) ZB)) ZB)))))) (ZE (ZZ (Ji (ZAN K rfl) rfl T.z_tuple ZAI (ZA (qv 5) ZB))))))), ?_⟩
  walk_at "s"
  walk_at "w"
  refine ZR (by show 0 ≤ sizeLine; decide) fun l H1 n1 f1 S1 => ?_
  walk_at "w"
  refine ZBn (by omega) (by omega) (ZDC (fun i σ H' => (∃ v6 v7, σ = [some (.ref d), some (.ref q), some (.int b), some (.int y), some (.int kk), some (.ref l), v6, v7]) ∧ ZK H H' ∧ ∃ vs fs, H' l = some (.lst vs) ∧ Z2 H' vs fs ∧ fs.length = i ∧ ∀ (k : Nat) o, fs[k]? = some o → Is4 (YH m (b + (k : Int) * y) (b + (k : Int) * y + y)) o) ?_ ?_ ?_)
  ·exact ⟨⟨_, _, rfl⟩, S1, [], [], f1, .nil, rfl, fun k o h => by simp at h⟩
  ·rintro i σ H2 hi ⟨⟨v6, v7, rfl⟩, S2, vs, fs, f2, hF2, hfl, hO2⟩
   have e0 : (0 + (i : Int)) = (i : Int) := by omega
   have hi2 : (i : Int) < 100 := by omega
   rw [e0]
   walk_at "w"
   generalize hx : b + (i : Int) * y = x
   refine ⟨tyL f2, ?_⟩
   walk_at "w"
   have hd2 := S2 _ _ hd
   refine ZRV hd2 fun o H3 nf f3 K3 => ?_
   intro l4 n4
   have nl4 : l4 ≠ d := fun z => by rw [z, f3] at n4; cases n4
   refine Jh m.length (fun i' σ' H' => (∃ o, σ' = [o, some (.ref d), some (.int x), some (.int y)]) ∧ ZK H3 H' ∧ ∃ vs, H' l4 = some (.lst vs) ∧ ZI H' vs (YH (m.take i') x (x + y))) ?_ ?_ ?_
   ·exact ⟨⟨none, rfl⟩, ZK.new n4, [], ZS, .nil⟩
   ·rintro σ' H4 ⟨_, S4, vs4, f4, hP4⟩
    refine ⟨⟨S4 _ _ f3, by simp [Zj]⟩, ?_⟩
    rw [List.take_length] at hP4
    refine ZPH nf (S4 _ _ f3) fun H5 f5 K5 => ?_
    have S25 : ZK H2 H5 := fun b o e => by
     by_cases z : b = d
     ·subst z; rw [hd2] at e; cases e; exact f5
     ·exact K5 _ _ (S4 _ _ (K3 _ _ e z)) z
    have hP5 : ZI H5 vs4 (YH m x (x + y)) := Paired.mapP hP4 fun _ _ ⟨b, e, z⟩ => ⟨b, e, K5 _ _ z (fun c => by rw [c, S4 _ _ f3] at z; cases z)⟩
    have f45 := K5 _ _ f4 nl4
    walk_at "w"
    refine ⟨l4, YH m x (x + y), rfl, ⟨vs4, f45, hP5⟩, hnd.sublist ((List.filter_sublist).map _), Nat.lt_of_le_of_lt (List.length_filter_le _ _) hlen, fun fv o7 H7 hf7 ho7 S7 => ?_⟩
    have f27 := S7 _ _ (S25 _ _ f2)
    walk_at "w"
    refine JC f27 (by rw [hF2.len, hfl]; exact Nat.lt_of_lt_of_le (show i < 1000 by omega) (by decide)) fun H8 f8 K8 => ?_
    walk_at "w"
    refine ⟨⟨_, _, rfl⟩, ?_, vs ++ [fv], fs ++ [o7], f8, (((hF2.same S25).same S7).snoc hf7).mapP fun _ _ d => d.kpL K8 f27, by simp [hfl], ?_⟩
    ·exact fun b o e => K8 _ _ (S7 _ _ (S25 _ _ (S2 _ _ e))) (ZY e n1)
    ·intro k' o' h'
     rw [List.getElem?_append] at h'
     split at h'
     ·exact hO2 k' o' h'
     ·have : k' = i := by
       have := (List.getElem?_eq_some_iff.mp h').1
       simp at this
       omega
      subst this
      rw [hfl, Nat.sub_self] at h'
      have : o7 = o' := by simpa using h'
      subst this
      rw [hx]
      exact ho7
   ·rintro i' σ' H4 hi' ⟨⟨o4, rfl⟩, S4, vs4, f4, hPc⟩
    refine ⟨⟨S4 _ _ f3, by simpa [Zj] using hi'⟩, ?_⟩
    rintro v H'' ⟨rfl, p', hp', rfl⟩
    have hq1 : m[i']? = some m[i'] := List.getElem?_eq_getElem hi'
    rw [ZSJ hi'] at hp'
    cases hp'
    have hg : Ze m m[i'].1 = some m[i'].2 := (YA hnd).mpr (List.getElem_mem hi')
    have e4 := ZIz (x := x) (z := x + y) hq1
    show ZB4 0 (.int m[i'].1) _ _ _
    walk_at "w"
    refine Zu (fun h1 => ?_) (fun h1 => ?_)
    ·walk_at "w"
     refine Zu (fun h2 => ?_) (fun h2 => ?_)
     ·walk_at "w"
      refine ZMh (S4 _ _ f3) hg ?_
      walk_at "w"
      refine ZR (by show 2 ≤ sizeLine; decide) fun c5 H5 n5 hc5 S5 => ?_
      have f45 := S5 _ _ f4
      refine ⟨vs4, f45, ?_, ⟨_, rfl⟩, (S4.trans S5).kpN n4 Kp.upd, _, ZS, ?_⟩
      ·rw [hPc.length]
       refine Nat.lt_of_le_of_lt (List.length_filter_le _ _) ?_
       rw [List.length_take]
       exact Nat.lt_of_le_of_lt (Nat.min_le_left _ _) (Nat.lt_of_lt_of_le (show i' < 64 by omega) (by decide))
      ·rw [e4, decide_eq_true h1, decide_eq_true h2, Bool.and_self, if_pos rfl]
       exact ZI.kpL Kp.upd f45 ((hPc.same S5).snoc hc5)
     ·refine ⟨⟨_, rfl⟩, S4, vs4, f4, ?_⟩
      rw [e4, decide_eq_false h2, Bool.and_false, if_neg (by decide), List.append_nil]
      exact hPc
    ·walk_at "w"
     refine Z1 ?_
     refine ⟨⟨_, rfl⟩, S4, vs4, f4, ?_⟩
     rw [e4, decide_eq_false h1, Bool.false_and, if_neg (by decide), List.append_nil]
     exact hPc
  ·rintro σ H2 ⟨⟨v6, v7, rfl⟩, S2, vs, fs, f2, hF2, hfl, hO2⟩
   walk_at "w"
   refine ZAx (SqL.of f2) fun u H3 n3 f3 S3 => ?_
   exact k u vs fs H3 f3 (hF2.same S3) ⟨hfl, hO2⟩ (S2.trans S3)
end
def cols (kvs : List (List Key × V)) (b y : Int) (N : Nat) : List Nat := (List.range N).filter fun (j : Nat) => has kvs (b + (j : Int) * y) (b + (j : Int) * y + y)
theorem ZSv {kvs : List (List Key × V)} {b y : Int} {N j : Nat} : j ∈ cols kvs b y N ↔ j < N ∧ has kvs (b + (j : Int) * y) (b + (j : Int) * y + y) = true := by
 unfold cols
 rw [List.mem_filter, List.mem_range]
theorem ZFO (kvs : List (List Key × V)) (b y : Int) (N : Nat) : ZAG kvs b y N + (cols kvs b y N).length = N := by
 induction N with
 | zero => rfl
 | succ n ih =>
  rw [ZFJ]
  unfold cols at ih ⊢
  rw [List.range_succ, List.filter_append, List.length_append]
  cases hh : has kvs (b + (n : Int) * y) (b + (n : Int) * y + y) with
  | true => rw [List.filter_cons_of_pos (by simp [hh]), if_pos rfl]; simp only [List.filter_nil, List.length_cons, List.length_nil]; omega
  | false => rw [List.filter_cons_of_neg (by simp [hh]), if_neg (by decide)]; simp only [List.filter_nil, List.length_nil]; omega
def ZPq : Sp := fun vs H Q _ => ∃ (u q l : Addr) (b y m b' y' m' : Int) (ks : List Nat), vs = [.ref u, .ref q, .ref l] ∧ ZEd H u b y m b' y' m' ∧ Yl H q b y m ∧ ZBi b' y' m' ∧ H l = some (.lst (YQ ks)) ∧ ks.Nodup ∧ ks.length ≤ 1000 ∧ (∀ j ∈ ks, (j : Int) < m) ∧
 ∀ (l' : Addr) (H' : Hp), H l' = none → H' l' = some (.lst (YQ ((List.range m'.toNat).filter fun (k : Nat) => (decide (y' = 2 * y) && (decide (2 * k ∈ ks) && decide (2 * k + 1 ∈ ks))) || ks.any fun (j : Nat) => decide (y' = y ∧ b' + (k : Int) * y' = b + (j : Int) * y')))) → ZK H H' → Q (.ref l') H'
theorem ZK2 {b y m : Int} (h : ZBi b y m) : y ≤ 2199023255552 := by
 obtain ⟨hy, h1, h2, hb, he⟩ := h
 have : 0 ≤ (m - 1) * y := Int.mul_nonneg (by omega) (by omega)
 rw [Int.sub_mul, Int.one_mul] at this
 unfold InT at hb he
 omega
theorem ZC9 (f : Nat → Bool) (i : Nat) : (List.range (i + 1)).filter f = (List.range i).filter f ++ (if f i = true then [i] else []) := by
 rw [List.range_succ, List.filter_append]
 congr 1
 by_cases h : f i = true
 ·rw [if_pos h, List.filter_cons_of_pos h]; rfl
 ·rw [if_neg h, List.filter_cons_of_neg h]; rfl
theorem ZD7 (l r : List Nat) : YQ (l ++ r) = YQ l ++ YQ r := List.map_append
section
variable {P : Program} {w : World} {K : PySem.W.Frag} {mg : Str → Option Value} {base : Heap} {a : Ad}
theorem JL : ZP ["_law_step_here", "_law_window_here", "_law_known_here", "_law_begin", "_law_wide", "_law_many", "_law_found", "_law_k", "_law_j"] ["_law_step_here", "_law_window_here", "_law_known_here"] (ZF ZBP) := ⟨rfl, rfl, rfl, by decide +kernel, rfl, by decide +kernel, by decide +kernel⟩
theorem ZJJ (T : Txt K mg a) : ZQ P w K mg base CX0 1 a.f_l_known a.d_l_known ["_law_step_here", "_law_window_here", "_law_known_here"] ZPq := by
 refine T.F_l_known.ok JL (fun vs H Q E h => ?_) (fun cdv A outer s H vs Q E hr h => ?_)
 ·obtain ⟨u, q, l, b, y, m, b', y', m', ks, rfl, _⟩ := h
  rfl
 ·obtain ⟨u, q, l, b, y, m, b', y', m', ks, rfl, ⟨nm, j, q2, hu1, hq2, hst⟩, hW, hw, hl, hnd, hkl, hks, kk⟩ := h
  have hy2 := JJ hW
  obtain ⟨hq, hy, hm1, hm2, hb, he⟩ := id hW
  obtain ⟨hy', hm1', hm2', hb', he'⟩ := id hw
  refine ⟨_, QB.h (ZD (YZ (ZU (Zd K rfl) (qv 0) ZC) (YS (n := 3) K rfl rfl (ZT (ZO (i := 3) JL.nd rfl (by walk_at "o")) (ZT (ZO (i := 4) JL.nd rfl (by walk_at "o")) (ZT (ZO (i := 5) JL.nd rfl (by walk_at "o")) YE))))) (ZD (Zk (ZW (YG) (ZU (Zd K rfl) (qv 0) ZC) JN (Zb _)) (ZE (ZZ (Jj (N := ["_law_step_here", "_law_window_here", "_law_known_here", "_law_begin", "_law_wide", "_law_many", "_law_found", "_law_k", "_law_j"]) (sc := ZF ZBP) (own := ["_law_k"]) (caps := ["_law_known_here"]) (ks := [2]) rfl rfl rfl ⟨rfl, by decide +kernel, by decide +kernel, by decide +kernel, by decide +kernel, rfl, by decide +kernel⟩ (Jz rfl T.z_range (ZA (qv 5) ZB)) (fun _ _ _ _ _ => ZO (i := 0) (show List.Nodup (α := Str) ["_law_k", "_law_known_here"] from by decide +kernel) rfl (by walk_at "o") (.inr rfl)) (fun _ _ _ _ _ => ZDi (QW.pt (Jn (ZW (ZKj K rfl) (ZL Zv ZC (qv 0)) (qv 1) (by with_unfolding_all rfl)) (JR (ZW (ZKj K rfl) (ZL YC (ZL Zv ZC (qv 0)) ZC) (qv 1) (by with_unfolding_all rfl)))))) (fun _ _ _ _ _ => qv 0)))) Zi) (ZD (ZM (i := 6) JL.nd rfl (by walk_at "o") (Yd ZB)) (ZD (JP PassesOwn.never rfl (Jz rfl T.z_range (ZA (qv 5) ZB)) (ZO (i := 7) JL.nd rfl (by walk_at "o")) (ZE (JP PassesOwn.never rfl (Y4 K rfl (qv 2)) (ZO (i := 8) JL.nd rfl (by walk_at "o")) (ZE (Zk (QW.pt (Jn (ZW (YG) (qv 4) (ZU (Zd K rfl) (qv 1) ZC) (Zb _)) (JR (ZW (YG) (ZL YC (qv 3) (ZL Zv (qv 7) (qv 4))) (ZL YC (ZU (Zd K rfl) (qv 1) ZC) (ZL Zv (qv 8) (qv 4))) (Zb _))))) (ZE (Zc (ZCA PySem.F.plainAttrs_list PySem.F.slot_list_append PySem.F.type_list_append JA (qv 6) (ZA (qv 7) ZB)))) Zi))))) (ZE (ZZ (qv 6))))))), ?_⟩
  walk_at "s"
  walk_at "w"
  refine Ye ?_
  by_cases hwd : nm = "wide"
  ·rw [decide_eq_true hwd]
   walk_at "w"
   refine YJ ?_
   walk_at "w"
   have hy3 : y' = 2 * y := by
    rcases hst with ⟨_, _, h, _⟩ | ⟨h, _⟩ | ⟨h, _⟩ | ⟨h, _⟩
    ·exact h
    all_goals (rw [hwd] at h; exact absurd h (by decide +kernel))
   have hP : ∀ k : Nat, ((decide (y' = 2 * y) && (decide (2 * k ∈ ks) && decide (2 * k + 1 ∈ ks))) || ks.any fun (j : Nat) => decide (y' = y ∧ b' + (k : Int) * y' = b + (j : Int) * y')) = (decide (2 * k ∈ ks) && decide (2 * k + 1 ∈ ks)) := fun k => by
    rw [decide_eq_true hy3, Bool.true_and]
    have : (ks.any fun (j : Nat) => decide (y' = y ∧ b' + (k : Int) * y' = b + (j : Int) * y')) = false := by
     rw [List.any_eq_false]
     intro j _
     rw [decide_eq_true_iff]
     rintro ⟨h, _⟩
     omega
    rw [this, Bool.or_false]
   refine ZBn (by omega) (by omega) ?_
   intro l2 n2
   refine Jh m'.toNat (fun i σ' H' => (∃ o, σ' = [o, some (.ref l)]) ∧ ZK H H' ∧ H' l2 = some (.lst (YQ ((List.range i).filter fun (k : Nat) => decide (2 * k ∈ ks) && decide (2 * k + 1 ∈ ks))))) ?_ ?_ ?_
   ·exact ⟨⟨none, rfl⟩, ZK.new n2, ZS⟩
   ·rintro σ' H2 ⟨_, S2, f2⟩
    refine ⟨Nat.le_refl _, ?_⟩
    walk_at "w"
    refine kk l2 H2 n2 ?_ S2
    rw [f2]
    congr 4
    funext k
    exact (hP k).symm
   ·rintro i σ' H2 hi ⟨⟨o, rfl⟩, S2, f2⟩
    refine ⟨hi, ?_⟩
    rintro x H'' ⟨rfl, rfl⟩
    have hl2 := S2 _ _ hl
    have hle := List.length_filter_le (fun (k : Nat) => decide (2 * k ∈ ks) && decide (2 * k + 1 ∈ ks)) (List.range i)
    rw [List.length_range] at hle
    have skip : (decide (2 * i ∈ ks) && decide (2 * i + 1 ∈ ks)) = false → (List.range (i + 1)).filter (fun (k : Nat) => decide (2 * k ∈ ks) && decide (2 * k + 1 ∈ ks)) = (List.range i).filter fun (k : Nat) => decide (2 * k ∈ ks) && decide (2 * k + 1 ∈ ks) := fun h => by
     rw [ZC9, if_neg (by rw [h]; decide), List.append_nil]
    walk_at "w"
    refine ZKl (k := 2 * i) (by omega) hl2 ?_
    by_cases c1 : 2 * i ∈ ks
    ·rw [decide_eq_true c1]
     walk_at "w"
     refine YJ ?_
     walk_at "w"
     refine ZKl (k := 2 * i + 1) (by omega) hl2 ?_
     by_cases c2 : 2 * i + 1 ∈ ks
     ·rw [decide_eq_true c2]
      walk_at "w"
      refine YJ ?_
      walk_at "w"
      refine ⟨_, f2, ?_, ⟨_, rfl⟩, S2.kpN n2 Kp.upd, ?_⟩
      ·unfold YQ
       rw [List.length_map]
       show _ < 2 ^ 24
       omega
      ·rw [ZC9, if_pos (by rw [decide_eq_true c1, decide_eq_true c2]; rfl), ZD7]
       have e0 : (0 + (i : Int)) = (i : Int) := by omega
       rw [e0]
       exact ZS
     ·rw [decide_eq_false c2]
      walk_at "w"
      refine Z1 ?_
      refine ⟨⟨_, rfl⟩, S2, ?_⟩
      rw [skip (by rw [decide_eq_false c2, Bool.and_false])]
      exact f2
    ·rw [decide_eq_false c1]
     walk_at "w"
     refine Z1 ?_
     walk_at "w"
     refine ⟨⟨_, rfl⟩, S2, ?_⟩
     rw [skip (by rw [decide_eq_false c1, Bool.false_and])]
     exact f2
  ·rw [decide_eq_false hwd]
   walk_at "w"
   refine Z1 ?_
   have hy3 : ¬ y' = 2 * y := fun z => by
    rcases hst with ⟨h, _⟩ | ⟨_, _, _, h, _⟩ | ⟨_, _, _, _, h, _⟩ | ⟨_, _, _, _, h, _⟩
    ·exact hwd h
    all_goals omega
   have hP : ∀ k : Nat, ((decide (y' = 2 * y) && (decide (2 * k ∈ ks) && decide (2 * k + 1 ∈ ks))) || ks.any fun (j : Nat) => decide (y' = y ∧ b' + (k : Int) * y' = b + (j : Int) * y')) = ks.any fun (j : Nat) => decide (y' = y ∧ b' + (k : Int) * y' = b + (j : Int) * y') := fun k => by
    rw [decide_eq_false hy3, Bool.false_and, Bool.false_or]
   have hy4 := ZK2 hw
   walk_at "w"
   refine ZR (by show 0 ≤ sizeLine; decide) fun lf H1 n1 f1 S1 => ?_
   have nl : l ≠ lf := ZY hl n1
   have ntp : ∀ {e : Addr} {xs : List V}, H e = some (.tup xs) → e ≠ lf := fun g => ZY g n1
   walk_at "w"
   refine ZBn (by omega) (by omega) (ZDC (fun i σ H' => (∃ v7 v8, σ = [some (.ref u), some (.ref q), some (.ref l), some (.int b'), some (.int y'), some (.int m'), some (.ref lf), v7, v8]) ∧ Kp lf H1 H' ∧ H' lf = some (.lst (YQ ((List.range i).filter fun (k : Nat) => ks.any fun (j : Nat) => decide (y' = y ∧ b' + (k : Int) * y' = b + (j : Int) * y'))))) ?_ ?_ ?_)
   ·exact ⟨⟨_, _, rfl⟩, fun _ _ e _ => e, f1⟩
   ·rintro i σ H2 hi ⟨⟨v7, v8, rfl⟩, K2, f2⟩
    have e0 : (0 + (i : Int)) = (i : Int) := by omega
    rw [e0]
    generalize hpv : ((List.range i).filter fun (k : Nat) => ks.any fun (j : Nat) => decide (y' = y ∧ b' + (k : Int) * y' = b + (j : Int) * y')) = prev at f2
    have hle : prev.length ≤ i := by
     rw [← hpv]
     have := List.length_filter_le (fun (k : Nat) => ks.any fun (j : Nat) => decide (y' = y ∧ b' + (k : Int) * y' = b + (j : Int) * y')) (List.range i)
     rwa [List.length_range] at this
    have k02 : ∀ {e : Addr} {o : HO}, H e = some o → H2 e = some o := fun h => K2 _ _ (S1 _ _ h) (ZY h n1)
    have hl2 := k02 hl
    walk_at "w"
    refine ZBo (xs := YQ ks) (fun i2 σ H' => (∃ v8, σ = [some (.ref u), some (.ref q), some (.ref l), some (.int b'), some (.int y'), some (.int m'), some (.ref lf), some (.int (i : Int)), v8]) ∧ Kp lf H1 H' ∧ H' lf = some (.lst (YQ (prev ++ if ((ks.take i2).any fun (j : Nat) => decide (y' = y ∧ b' + (i : Int) * y' = b + (j : Int) * y')) = true then [i] else [])))) ?_ ?_ ?_ ?_
    ·exact ⟨⟨_, rfl⟩, K2, by rw [List.take_zero, List.any_nil, if_neg (by decide), List.append_nil]; exact f2⟩
    ·rintro i2 σ H3 _ ⟨_, K3, _⟩
     exact SqL.of (K3 _ _ (S1 _ _ hl) nl)
    ·rintro i2 x σ H3 hx ⟨⟨v8, rfl⟩, K3, f3⟩
     unfold YQ at hx
     rw [List.getElem?_map] at hx
     obtain ⟨j0, hj, rfl⟩ := Option.map_eq_some_iff.mp hx
     have hjm := hks j0 (List.mem_of_getElem? hj)
     have hq3 := K3 _ _ (S1 _ _ hq) (ntp hq)
     have tk : (ks.take (i2 + 1)).any (fun (j : Nat) => decide (y' = y ∧ b' + (i : Int) * y' = b + (j : Int) * y')) = ((ks.take i2).any (fun (j : Nat) => decide (y' = y ∧ b' + (i : Int) * y' = b + (j : Int) * y')) || decide (y' = y ∧ b' + (i : Int) * y' = b + (j0 : Int) * y')) := by
      rw [List.take_succ, hj, List.any_append]
      simp
     have hfirst : (y' = y ∧ b' + (i : Int) * y' = b + (j0 : Int) * y') → ((ks.take i2).any fun (j : Nat) => decide (y' = y ∧ b' + (i : Int) * y' = b + (j : Int) * y')) = false := fun h => by
      rw [List.any_eq_false]
      intro j1 hj1
      rw [decide_eq_true_iff]
      rintro ⟨_, h1⟩
      have e1 : (j1 : Int) * y' = (j0 : Int) * y' := by omega
      have e2 := Int.eq_of_mul_eq_mul_right (by omega) e1
      have e3 : j1 = j0 := by omega
      obtain ⟨z, hz, hz2⟩ := List.getElem_of_mem hj1
      rw [List.length_take] at hz
      rw [List.getElem_take] at hz2
      obtain ⟨w1, w2⟩ := List.getElem?_eq_some_iff.mp hj
      have := (List.getElem_inj hnd).mp ((hz2.trans e3).trans w2.symm)
      omega
     have skip : ¬ (y' = y ∧ b' + (i : Int) * y' = b + (j0 : Int) * y') → H3 lf = some (.lst (YQ (prev ++ if ((ks.take (i2 + 1)).any fun (j : Nat) => decide (y' = y ∧ b' + (i : Int) * y' = b + (j : Int) * y')) = true then [i] else []))) := fun h => by
      rw [tk, decide_eq_false h, Bool.or_false]
      exact f3
     walk_at "w"
     rw [Yr]
     refine Zu (fun c1 => ?_) (fun c1 => ?_)
     ·walk_at "w"
      rw [Yr]
      refine Zu (fun c2 => ?_) (fun c2 => ?_)
      ·rw [hfirst ⟨c1, c2⟩, if_neg (by decide), List.append_nil] at f3
       walk_at "w"
       refine ⟨tyL f3, ?_⟩
       walk_at "w"
       refine JC f3 (by unfold YQ; rw [List.length_map]; show _ < 2 ^ 24; omega) fun H4 f4 K4 => ?_
       walk_at "w"
       refine ⟨⟨_, rfl⟩, K3.trans K4, ?_⟩
       rw [tk, decide_eq_true ⟨c1, c2⟩, Bool.or_true, if_pos rfl, ZD7]
       exact f4
      ·walk_at "w"
       exact ⟨⟨_, rfl⟩, K3, skip fun h => c2 h.2⟩
     ·walk_at "w"
      exact ⟨⟨_, rfl⟩, K3, skip fun h => c1 h.1⟩
    ·rintro σ H3 ⟨⟨v8, rfl⟩, K3, f3⟩
     rw [show (YQ ks).length = ks.length from List.length_map _, List.take_length] at f3
     refine ⟨⟨_, _, rfl⟩, K3, ?_⟩
     rw [ZC9, hpv]
     exact f3
   ·rintro σ H2 ⟨⟨v7, v8, rfl⟩, K2, f2⟩
    walk_at "w"
    refine kk lf H2 n1 ?_ fun b o e => K2 _ _ (S1 _ _ e) (ZY e n1)
    rw [f2]
    congr 4
    funext k
    exact (hP k).symm
end
theorem ZSQ (kvs : List (List Key × V)) (b y : Int) (N : Nat) : (cols kvs b y N).Nodup := List.Nodup.sublist List.filter_sublist List.nodup_range
theorem ZSw (kvs : List (List Key × V)) (b y : Int) (N : Nat) : (cols kvs b y N).length ≤ N := by
 have := ZFO kvs b y N
 omega
theorem ZSx (ts : List Int) (x z : Int) : ¬ hit (ts.drop ts.length) x z := fun ⟨t, ht, _⟩ => by rw [List.drop_length] at ht; cases ht
theorem ZK3 {n : Str} {c b y m b' y' m' : Int} {kvs kvs' : List (List Key × V)} (hst : ZK0 n c b y m b' y' m') (hy : 0 < y) (hw : ZBi b' y' m') (hk : ∀ x z, has kvs x z = true → Col b y m x z) (hi : ∀ x z, Col b' y' m' x z → (has kvs' x z = true ↔ Kin kvs x z)) :
  cols kvs' b' y' m'.toNat = (List.range m'.toNat).filter fun (k : Nat) => (decide (y' = 2 * y) && (decide (2 * k ∈ cols kvs b y m.toNat) && decide (2 * k + 1 ∈ cols kvs b y m.toNat))) || (cols kvs b y m.toNat).any fun (j : Nat) => decide (y' = y ∧ b' + (k : Int) * y' = b + (j : Int) * y') := by
 unfold cols
 apply List.filter_congr
 intro k hk0
 rw [List.mem_range] at hk0
 obtain ⟨hy', hm1, hm2, _⟩ := hw
 rw [Bool.eq_iff_iff, hi _ _ ⟨(k : Int), by omega, by omega, rfl, rfl⟩, Bool.or_eq_true, Bool.and_eq_true, Bool.and_eq_true, decide_eq_true_iff, decide_eq_true_iff, decide_eq_true_iff, List.any_eq_true]
 have hcol : ∀ {x z : Int}, has kvs x z = true → ∃ j : Nat, j < m.toNat ∧ x = b + (j : Int) * y ∧ z = b + (j : Int) * y + y ∧ has kvs (b + (j : Int) * y) (b + (j : Int) * y + y) = true := fun {x z} h => by
  obtain ⟨j, j0, j1, e1, e2⟩ := hk _ _ h
  refine ⟨j.toNat, by omega, by rw [Int.toNat_of_nonneg j0]; exact e1, by rw [Int.toNat_of_nonneg j0]; exact e2, ?_⟩
  rw [Int.toNat_of_nonneg j0, ← e1, show x + y = z by omega]
  exact h
 have mc : ∀ j : Nat, j ∈ (List.range m.toNat).filter (fun (j : Nat) => has kvs (b + (j : Int) * y) (b + (j : Int) * y + y)) ↔ j < m.toNat ∧ has kvs (b + (j : Int) * y) (b + (j : Int) * y + y) = true := fun j => by rw [List.mem_filter, List.mem_range]
 rw [mc, mc]
 generalize hX : b' + (k : Int) * y' = X
 constructor
 ·rintro (h | ⟨h1, h2⟩)
  ·obtain ⟨j, hj, e1, e2, e3⟩ := hcol h
   have ey : y' = y := by omega
   exact .inr ⟨j, (mc j).mpr ⟨hj, e3⟩, by rw [decide_eq_true_iff]; exact ⟨ey, by rw [ey]; exact e1⟩⟩
  ·obtain ⟨j1, hj1, e1, e2, e3⟩ := hcol h1
   obtain ⟨j2, hj2, g1, g2, g3⟩ := hcol h2
   have ey : y' = 2 * y := by omega
   have eb : b' = b := by
    rcases hst with ⟨_, h, _⟩ | ⟨_, _, h, h', _⟩ | ⟨_, _, _, h, h', _⟩ | ⟨_, _, _, h, h', _⟩
    ·exact h
    ·exact h
    all_goals omega
   have ek : (k : Int) * y' = (2 * (k : Int)) * y := by rw [ey, ← Int.mul_assoc, Int.mul_comm (k : Int) 2]
   have e4 : (j1 : Int) * y = (2 * (k : Int)) * y := by omega
   have e5 := Int.eq_of_mul_eq_mul_right (by omega) e4
   have g4 : (j2 : Int) * y = (2 * (k : Int) + 1) * y := by rw [Int.add_mul, Int.one_mul]; omega
   have g5 := Int.eq_of_mul_eq_mul_right (by omega) g4
   have f1 : j1 = 2 * k := by omega
   have f2 : j2 = 2 * k + 1 := by omega
   subst f1 f2
   exact .inl ⟨ey, ⟨hj1, e3⟩, hj2, g3⟩
 ·rintro (⟨ey, ⟨h1, h2⟩, h3, h4⟩ | ⟨j, hj, h⟩)
  ·have eb : b' = b := by
    rcases hst with ⟨_, h, _⟩ | ⟨_, _, h, h', _⟩ | ⟨_, _, _, h, h', _⟩ | ⟨_, _, _, h, h', _⟩
    ·exact h
    ·exact h
    all_goals omega
   have ek : (k : Int) * y' = ((2 * k : Nat) : Int) * y := by rw [ey, ← Int.mul_assoc, Int.mul_comm (k : Int) 2]; rfl
   have ek2 : ((2 * k + 1 : Nat) : Int) * y = ((2 * k : Nat) : Int) * y + y := by
    rw [show ((2 * k + 1 : Nat) : Int) = ((2 * k : Nat) : Int) + 1 from by omega, Int.add_mul, Int.one_mul]
   have em : (X + (X + y')) / 2 = X + y := by omega
   refine .inr ⟨?_, ?_⟩
   ·rw [em, show X = b + ((2 * k : Nat) : Int) * y by omega]
    exact h2
   ·rw [em, show X + y = b + ((2 * k + 1 : Nat) : Int) * y by omega, show X + y' = b + ((2 * k + 1 : Nat) : Int) * y + y by omega]
    exact h4
  ·rw [decide_eq_true_iff] at h
   obtain ⟨ey, e1⟩ := h
   have := ((mc j).mp hj).2
   rw [ey] at e1
   rw [← e1] at this
   refine .inl ?_
   rw [ey]
   exact this
theorem Eqv.bring {m m' : List (Int × Int)} (h : Eqv m m') (n : (m.map (·.1)).Nodup) (n' : (m'.map (·.1)).Nodup) (t : Int) (o : Option Int) : Eqv (Z7 m t o) (Z7 m' t o) := by
 cases o with
 | none => exact h.drop t
 | some v => exact h.put n n' t v
theorem Y8 {m : List (Int × Int)} (n : (m.map (·.1)).Nodup) (t : Int) (o : Option Int) : ((Z7 m t o).map (·.1)).Nodup := by
 cases o with
 | none => exact Yz n
 | some v => exact JG n
theorem ZJK {m : List (Int × Int)} (n : (m.map (·.1)).Nodup) (t : Int) (o : Option Int) (ho : o = none → (Ze m t).isSome = true) : Eqv (Z7 (Z7 m t o) t (Ze m t)) m := by
 cases o with
 | none =>
  obtain ⟨v, hv⟩ := Option.isSome_iff_exists.mp (ho rfl)
  rw [hv]
  exact ZKW n hv
 | some v =>
  cases hg : Ze m t with
  | none => exact ZKX n hg
  | some u => exact ZMY n hg
def Hb (m : List (Int × Int)) : Prop := ∀ q ∈ m, Tm q.1 ∧ -(10 ^ 59) < q.2 ∧ q.2 < 10 ^ 59
inductive Und : List (Int × Int) → List (Int × Option Int) → Prop where
 | nil {m : List (Int × Int)} : Und m []
 | snoc {m : List (Int × Int)} {ds : List (Int × Option Int)} {t : Int} {o : Option Int} (h : Und (Z7 m t o) ds) (ht : Tm t) (ho : o = none → (Ze m t).isSome = true) (hb : ∀ v, o = some v → -(10 ^ 59) < v ∧ v < 10 ^ 59) : Und m (ds ++ [(t, o)])
theorem Und.eqv {m : List (Int × Int)} {ds : List (Int × Option Int)} (h : Und m ds) : ∀ {m' : List (Int × Int)}, Eqv m m' → (m.map (·.1)).Nodup → (m'.map (·.1)).Nodup → Und m' ds := by
 induction h with
 | nil => intro m' _ _ _; exact .nil
 | snoc h ht ho hb ih =>
  intro m' e n n'
  exact .snoc (ih (Eqv.bring e n n' _ _) (Y8 n _ _) (Y8 n' _ _)) ht (fun z => by rw [← e.get n n']; exact ho z) hb
theorem Und.open {m : List (Int × Int)} {ds : List (Int × Option Int)} (h : Und m ds) (e : ds ≠ []) : ∃ ds' t o, ds = ds' ++ [(t, o)] ∧ Und (Z7 m t o) ds' ∧ Tm t ∧ (o = none → (Ze m t).isSome = true) ∧ ∀ v, o = some v → -(10 ^ 59) < v ∧ v < 10 ^ 59 := by
 cases h with
 | nil => exact absurd rfl e
 | snoc h ht ho hb => exact ⟨_, _, _, rfl, h, ht, ho, hb⟩
def Y9 (m : List (Int × Int)) (t : Int) : Option Int → List (Int × Int)
 | none => YU m t
 | some h => YO (YU m t) t h
theorem ZCX {m : List (Int × Int)} (n : (m.map (·.1)).Nodup) (t : Int) (o : Option Int) : Eqv (Y9 m t o) (Z7 m t o) := by
 cases o with
 | none => exact Eqv.refl _
 | some v =>
  intro q
  show q ∈ YO (YU m t) t v ↔ q ∈ YO m t v
  rw [Yb (Yz n), Yb n, Ys]
  constructor
  ·rintro (⟨h1, h2⟩ | h)
   ·exact .inl ⟨h1, h2.2⟩
   ·exact .inr h
  ·rintro (⟨h1, h2⟩ | h)
   ·exact .inl ⟨h1, h1, h2⟩
   ·exact .inr h
theorem ZBH {m : List (Int × Int)} (n : (m.map (·.1)).Nodup) (t : Int) (o : Option Int) : ((Y9 m t o).map (·.1)).Nodup := by
 cases o with
 | none => exact Yz n
 | some v => exact JG (Yz n)
theorem ZJL (m : List (Int × Int)) (t : Int) (o : Option Int) : (Y9 m t o).length ≤ m.length + 1 := by
 cases o with
 | none => exact Nat.le_succ_of_le (ZBN m t)
 | some h => exact Nat.le_trans (ZCD _ _ _) (Nat.succ_le_succ (ZBN m t))
theorem ZK4 {m : List (Int × Int)} {t : Int} {o : Option Int} (h : Hb m) (n : (m.map (·.1)).Nodup) (ht : Tm t) (hb : ∀ v, o = some v → -(10 ^ 59) < v ∧ v < 10 ^ 59) : Hb (Y9 m t o) := by
 intro q hq
 cases o with
 | none => exact h q (Ys.mp hq).2
 | some v =>
  rcases (Yb (Yz n)).mp hq with h1 | h1
  ·exact h q (Ys.mp h1.2).2
  ·rw [h1]; exact ⟨ht, hb v rfl⟩
theorem Und.deed {m : List (Int × Int)} {ds : List (Int × Option Int)} (h : Und m ds) (n : (m.map (·.1)).Nodup) (hm : Hb m) {t : Int} {o : Option Int} (ht : Tm t) (ho : o = none → (Ze m t).isSome = true) : Und (Y9 m t o) (ds ++ [(t, Ze m t)]) := by
 have e1 := ZCX n t o
 have n2 := ZBH n t o
 refine .snoc (h.eqv (m' := Z7 (Y9 m t o) t (Ze m t)) ?_ n (Y8 n2 _ _)) ht (fun z => ?_) (fun v hv => (hm (t, v) ((YA n).mp hv)).2)
 ·exact ((Eqv.bring e1 n2 (Y8 n _ _) _ _).trans (ZJK n t o ho)).symm
 ·rw [e1.get n2 (Y8 n _ _)]
  cases o with
  | none => have := ho rfl; rw [z] at this; cases this
  | some v => rw [show Z7 m t (some v) = YO m t v from rfl, (YA (JG n)).mpr ((Yb n).mpr (.inr rfl))]; rfl
structure LM (sm m : List (Int × Int)) (c : Nat) (ds : List (Int × Option Int)) (ts : List Int) (N : Nat) : Prop where
 eqv : Eqv sm m
 nd : (m.map (·.1)).Nodup
 hb : Hb m
 un : Und m ds
 c : c ≤ N
 t : ts.length ≤ N
 m : m.length ≤ N
 d : ds.length ≤ N
theorem LM.deed {sm m : List (Int × Int)} {c : Nat} {ds : List (Int × Option Int)} {ts : List Int} {N : Nat} (h : LM sm m c ds ts N) (ns : (sm.map (·.1)).Nodup) {t : Int} {o : Option Int} {ds' : List (Int × Option Int)} (ht : Tm t) (hu : Und (Y9 m t o) ds') (hb : ∀ v, o = some v → -(10 ^ 59) < v ∧ v < 10 ^ 59) (hd : ds'.length ≤ N + 1) : LM (Z7 sm t o) (Y9 m t o) (c + 1) ds' (ts ++ [t]) (N + 1) :=
 ⟨(Eqv.bring h.eqv ns h.nd t o).trans (Eqv.symm (ZCX h.nd t o)), ZBH h.nd t o, ZK4 h.hb h.nd ht hb, hu, Nat.succ_le_succ h.c, by rw [List.length_append]; exact Nat.succ_le_succ h.t, Nat.le_trans (ZJL m t o) (Nat.succ_le_succ h.m), hd⟩
def LS (a : Ad) (H : Hp) (S : SA) (md dl : Addr) (sm m : List (Int × Int)) (ds : List (Int × Option Int)) (ts : List Int) (N : Nat) : Prop :=
 ∃ n c dvs, ZH a H S n sm c ds ts [] ∧ H md = some (.dK (Zj m)) ∧ H dl = some (.lst dvs) ∧ Zx H dvs ds ∧ LM sm m c ds ts N
theorem LS.pot {a : Ad} {H H' : Hp} {S : SA} {md dl p : Addr} {sm m : List (Int × Int)} {ds : List (Int × Option Int)} {ts : List Int} {N : Nat} (h : LS a H S md dl sm m ds ts N) (hp : Pot H p) (k : Kp p H H') (n1 : p ∉ S.ls) (n2 : p ≠ dl) : LS a H' S md dl sm m ds ts N := by
 obtain ⟨n, c, dvs, h1, h2, h3, h4, h5⟩ := h
 have hs := h1.pot hp k n1
 obtain ⟨x1, x2, e, _⟩ := hp
 exact ⟨n, c, dvs, hs, k _ _ h2 (fun z => by rw [z, e] at h2; cases h2), k _ _ h3 (Ne.symm n2), h4.tups fun b xs g => k _ _ g (fun z => by rw [z, e] at g; cases g), h5⟩
theorem LS.same {a : Ad} {H H' : Hp} {S : SA} {md dl : Addr} {sm m : List (Int × Int)} {ds : List (Int × Option Int)} {ts : List Int} {N : Nat} (h : LS a H S md dl sm m ds ts N) (s : ZK H H') : LS a H' S md dl sm m ds ts N := by
 obtain ⟨n, c, dvs, h1, h2, h3, h4, h5⟩ := h
 exact ⟨n, c, dvs, h1.same s, s _ _ h2, s _ _ h3, h4.tups fun b xs g => s _ _ g, h5⟩
def ZK5 (a : Ad) : Sp := fun vs H Q _ => ∃ (p md dl q : Addr) (S : SA) (b y mm : Int) (sm m : List (Int × Int)) (ds : List (Int × Option Int)) (ts : List Int) (N : Nat), vs = [.ref p, .ref S.p, .ref md, .ref dl, .ref q] ∧ Pot H p ∧ p ∉ S.ls ∧ p ≠ dl ∧ md ≠ S.d1 ∧ dl ∉ S.ls ∧ Yl H q b y mm ∧ LS a H S md dl sm m ds ts N ∧ N ≤ 60 ∧
 (∀ H', Pot H' p → LS a H' S md dl sm m ds ts N → Kp p H H' → Q .non H') ∧ ∀ (t : Int) (o : Option Int) (m' : List (Int × Int)) (ds' : List (Int × Option Int)) (H' : Hp), LS a H' S md dl (Z7 sm t o) m' ds' (ts ++ [t]) (N + 1) → Pot H' p → FrL (p :: md :: dl :: S.own) H H' → Q (.int t) H'
section
variable {P : Program} {w : World} {K : PySem.W.Frag} {mg : Str → Option Value} {base : Heap} {a : Ad}
theorem Yy : ZP ["_law_pot_here", "_law_store", "_law_made", "_law_done", "_law_window_here", "_law_way", "_law_t", "_law_h"] ["_law_pot_here", "_law_store", "_law_made", "_law_done", "_law_window_here"] (ZF ZD0) := ⟨rfl, rfl, rfl, by decide +kernel, rfl, by decide +kernel, by decide +kernel⟩
theorem ZK6 (T : Txt K mg a) : ZQ P w K mg base CX0 8 a.f_l_deed a.d_l_deed ["_law_pot_here", "_law_store", "_law_made", "_law_done", "_law_window_here"] (ZK5 a) := by
 refine T.F_l_deed.ok Yy (fun vs H Q E h => ?_) (fun cdv A outer s H vs Q E hr h => ?_)
 ·obtain ⟨p, md, dl, q, S, b, y, mm, sm, m, ds, ts, N, rfl, _⟩ := h
  rfl
 ·obtain ⟨p, md, dl, q, S, b, y, mm, sm, m, ds, ts, N, rfl, hp, pS, pdl, mdS, dlS, hW, hL, hN, k1, k2⟩ := h
  have hu := JE hr
  have hu64 := hr.units
  refine ⟨_, QB.h (ZD (ZM (i := 5) Yy.nd rfl (by walk_at "o") (ZG (Zt T) (hr.mono (by decide)) rfl T.m_l_draw T.F_l_draw.kp T.b_l_draw .nil ZJ (ZA (qv 0) (ZA ZC ZB)))) (ZD (ZM (i := 6) Yy.nd rfl (by walk_at "o") (ZG (ZFM T) (hr.mono (by decide)) rfl T.m_l_time T.F_l_time.kp T.b_l_time .nil ZJ (ZA (qv 0) (ZA (qv 4) ZB)))) (ZD (Zk (QW.pt (Jn (ZW (ZD9) (qv 5) ZC (Zb _)) (JR (ZW (ZD9) (Zo ZIA rfl T.z_len ZAc (ZA (qv 2) ZB)) ZC (Zb _))))) (ZE (ZM (i := 6) Yy.nd rfl (by walk_at "o") (ZU (Zm K rfl) (Zo (ZEM rfl) rfl T.z_sorted ZBJ (ZA (qv 2) ZB)) (ZG (Zt T) (hr.mono (by decide)) rfl T.m_l_draw T.F_l_draw.kp T.b_l_draw .nil ZJ (ZA (qv 0) (ZA (Zo ZIA rfl T.z_len ZAc (ZA (qv 2) ZB)) ZB)))))) Zi) (ZD (ZM (i := 7) Yy.nd rfl (by walk_at "o") (ZG (ZDY T) (hr.mono (by decide)) rfl T.m_l_height T.F_l_height.kp T.b_l_height .nil ZJ (ZA (qv 0) ZB))) (ZD (Zk (ZW (YG) (qv 5) ZC (Zb _)) (ZE (ZM (i := 7) Yy.nd rfl (by walk_at "o") (ZMo hu (qv 2) (qv 6) (qv 7)))) Zi) (ZD (Zk (ZW (YG) (qv 5) ZC (Zb _)) (ZD (Zc (JH (qv 1) T.c_Store T.M_Store_undo (ZFg T) (hr.mono (by decide)) T.b_Store_undo .nil ZJ)) (ZD (Zk (ZW (ZGv K rfl hu) (qv 3) (Yd ZB) (Zb _)) (ZE (ZZ YN)) Zi) (ZE (YZ (ZKC PySem.F.plainAttrs_list PySem.F.slot_list_pop PySem.F.type_list_pop ZJm (qv 3)) (YS (n := 2) K rfl rfl (ZT (ZO (i := 6) Yy.nd rfl (by walk_at "o")) (ZT (ZO (i := 7) Yy.nd rfl (by walk_at "o")) YE))))))) (ZE (Zk (QW.pt (Jn (ZW (YG) (qv 5) ZC (Zb _)) (JR (ZW (ZDJ hu) (qv 6) (qv 2) (by with_unfolding_all rfl))))) (ZD (Zc (Zw (qv 1) T.c_Store T.M_Store_take (ZFf T) hr T.b_Store_take .nil ZJ (ZA (qv 6) ZB))) (ZD (Zc (ZCA PySem.F.plainAttrs_list PySem.F.slot_list_append PySem.F.type_list_append JA (qv 3) (ZA (Zg (ZA (qv 6) (ZA (ZAP hu (qv 2) (qv 6)) ZB))) ZB))) (ZE (ZM (i := 7) Yy.nd rfl (by walk_at "o") YN)))) (ZD (Zc (Zw (qv 1) T.c_Store T.M_Store_put (ZHE T) hr T.b_Store_put .nil ZJ (ZA (qv 6) (ZA (qv 7) ZB)))) (ZE (Zc (ZCA PySem.F.plainAttrs_list PySem.F.slot_list_append PySem.F.type_list_append JA (qv 3) (ZA (Zg (ZA (qv 6) (ZA (ZA1 hu (qv 2) (qv 6)) ZB))) ZB)))))))) (ZD (Zc (ZMp (qv 2) (qv 6) YN)) (ZD (Zk (ZW (ZEh) (qv 7) YN (Zb _)) (ZE (J5 hu (qv 7) (qv 2) (qv 6))) Zi) (ZE (ZZ (qv 6))))))))))), ?_⟩
  walk_at "s"
  walk_at "w"
  refine ⟨p, _, rfl, hp, by decide, by decide, fun way H1 hw0 hw1 P1 K1 => ?_⟩
  have W1 : Yl H1 q b y mm := ⟨K1 _ _ hW.1 (hp.ne_tup hW.1), hW.2⟩
  walk_at "w"
  refine ⟨p, q, b, y, mm, rfl, P1, W1, fun t0 H2 ht0 P2 K2 => ?_⟩
  have K02 := K1.trans K2
  have hL2 := hL.pot hp K02 pS pdl
  repeat walk_at "ri"
  refine J8 (fun σ' H' => (∃ t, Tm t ∧ σ' = [some (.ref p), some (.ref S.p), some (.ref md), some (.ref dl), some (.ref q), some (.int way), some (.int t), none]) ∧ Pot H' p ∧ Kp p H H') ?_ ?_
  rotate_left
  ·intro D' _ hD'
   obtain ⟨n0, c0, dvs0, hS0, hm0, hl0, hdv0, hLM0⟩ := id hL2
   walk_at "w"
   refine Zu (fun hway => ?_) (fun hway => ?_)
   ·walk_at "w"
    refine ZID hm0 ?_
    walk_at "w"
    refine Zu (fun hlen => ?_) (fun hlen => ?_)
    ·walk_at "w"
     refine ZEN hm0 (by have := hLM0.m; omega) fun l3 H3 is n3 f3 hperm hsrt S3 => ?_
     have hnl : is.length = m.length := by have := hperm.length_eq; simpa using this
     walk_at "w"
     refine ZID (S3 _ _ hm0) ?_
     walk_at "w"
     refine ⟨p, _, rfl, P2.same S3, by omega, by have := hLM0.m; omega, fun d4 H4 h4 h4' P4 K4 => ?_⟩
     have f4 := K4 _ _ f3 (P2.neN n3)
     walk_at "w"
     refine ZHK f4 h4 (by omega) fun t ht => ?_
     have htm : Tm t := by
      obtain ⟨r, hr, rfl⟩ := List.mem_map.mp (hperm.mem_iff.mp ht)
      exact (hLM0.hb r hr).1
     walk_at "w"
     exact hD' _ _ ⟨⟨t, htm, rfl⟩, P4, (K02.then S3).trans K4⟩
    ·walk_at "w"
     exact hD' _ _ ⟨⟨t0, ht0, rfl⟩, P2, K02⟩
   ·walk_at "w"
    exact hD' _ _ ⟨⟨t0, ht0, rfl⟩, P2, K02⟩
  rintro σ' H3 ⟨⟨t, ht, rfl⟩, P3, K3⟩
  walk_at "w"
  refine ⟨p, rfl, P3, fun h0 H4 hh1 hh2 P4 K4 => ?_⟩
  have K04 := K3.trans K4
  have hL4 := hL.pot hp K04 pS pdl
  obtain ⟨n0, c0, dvs0, hS0, hm0, hl0, hdv0, hLM0⟩ := id hL4
  have hnd0 := hLM0.nd
  have hnds := hS0.nd
  have hNs : sm.length ≤ 900 := by have := hLM0.eqv.len hnds hnd0; have := hLM0.m; omega
  have hNc := hLM0.c
  have hNt := hLM0.t
  have hNd := hLM0.d
  have mdp : md ≠ p := fun z => by
   obtain ⟨x1, x2, e, _⟩ := P4
   rw [z, e] at hm0; cases hm0
  repeat walk_at "ri"
  refine J8 (fun σ' H' => (∃ h : Int, -(10 ^ 59) < h ∧ h < 10 ^ 59 ∧ σ' = [some (.ref p), some (.ref S.p), some (.ref md), some (.ref dl), some (.ref q), some (.int way), some (.int t), some (.int h)]) ∧ H4 = H') ?_ ?_
  rotate_left
  ·intro D' _ hD'
   walk_at "w"
   rw [Yr]
   refine Zu (fun hway => ?_) (fun hway => ?_)
   ·walk_at "w"
    refine ZKo hm0 ?_
    walk_at "w"
    refine ZMs hm0 ?_
    cases hg : Ze m t with
    | none =>
     walk_at "w"
     exact hD' _ _ ⟨⟨h0, hh1, hh2, rfl⟩, rfl⟩
    | some v =>
     have hv := (hLM0.hb (t, v) ((YA hnd0).mp hg)).2
     walk_at "w"
     exact hD' _ _ ⟨⟨v, hv.1, hv.2, rfl⟩, rfl⟩
   ·walk_at "w"
    exact hD' _ _ ⟨⟨h0, hh1, hh2, rfl⟩, rfl⟩
  rintro σ' H' ⟨⟨h, hb1, hb2, rfl⟩, rfl⟩
  -- what is left: the law's own samples
  have fin : ∀ (H5 : Hp) (t : Int) (o : Option Int) (D : Z8) (n : Int) (c : Nat) (ds' : List (Int × Option Int)) (dvs : List V), D.rt = Q → Tm t → (∀ v, o = some v → -(10 ^ 59) < v ∧ v < 10 ^ 59) → ZH a H5 S n (Z7 sm t o) (c0 + 1) ds' (ts ++ [t]) [] → H5 md = some (.dK (Zj m)) → H5 dl = some (.lst dvs) → Zx H5 dvs ds' → Und (Y9 m t o) ds' → ds'.length ≤ N + 1 → Pot H5 p → FrL (p :: md :: dl :: S.own) H H5 →
    ∀ H6, H6 md = some (.dK (Zj (Y9 m t o))) → Kp md H5 H6 → Q (.int t) H6 := by
   intro H5 t o D n c ds' dvs _ ht hbo hS5 hm5 hl5 hdv5 hun hdl P5 F5 H6 f6 K6
   refine k2 t o _ ds' H6 ⟨n, c0 + 1, dvs, hS5.kpD K6 hm5 mdS, f6, K6 _ _ hl5 (fun z => by rw [z, hm5] at hl5; cases hl5), hdv5.tups (fun b xs g => K6 _ _ g fun z => by rw [z, hm5] at g; cases g), hLM0.deed hnds ht hun hbo hdl⟩ (P5.kp K6 (Ne.symm mdp)) (F5.trans (FrL.kp K6 (by simp)))
  repeat walk_at "ri"
  refine J8 (fun σ' H5 => ∃ (t : Int) (o : Option Int) (n : Int) (ds' : List (Int × Option Int)) (dvs : List V), σ' = [some (.ref p), some (.ref S.p), some (.ref md), some (.ref dl), some (.ref q), some (.int way), some (.int t), some (ZAU o)] ∧ Tm t ∧ (∀ v, o = some v → -(10 ^ 59) < v ∧ v < 10 ^ 59) ∧ ZH a H5 S n (Z7 sm t o) (c0 + 1) ds' (ts ++ [t]) [] ∧ H5 md = some (.dK (Zj m)) ∧ H5 dl = some (.lst dvs) ∧ Zx H5 dvs ds' ∧ Und (Y9 m t o) ds' ∧ ds'.length ≤ N + 1 ∧ Pot H5 p ∧ FrL (p :: md :: dl :: S.own) H H5) ?_ ?_
  ·rintro σ' H5 ⟨t, o, n, ds', dvs, rfl, ht, hbo, hS5, hm5, hl5, hdv5, hun, hdl, P5, F5⟩
   have fin := fin H5 t o ⟨fun _ _ => True, Q, fun _ _ => True, fun _ _ => True⟩ n c0 ds' dvs rfl ht hbo hS5 hm5 hl5 hdv5 hun hdl P5 F5
   walk_at "w"
   refine ZKq hm5 ?_
   walk_at "w"
   refine ZMt hm5 fun _ H6 f6 K6 => ?_
   walk_at "w"
   cases o with
   | none =>
    walk_at "w"
    refine Z1 ?_
    walk_at "w"
    exact fin H6 f6 K6
   | some v =>
    walk_at "w"
    refine YJ ?_
    walk_at "w"
    refine ZDj f6 (Nat.lt_of_le_of_lt (Nat.le_trans (ZBN m t) hLM0.m) (Nat.lt_of_le_of_lt hN (by decide))) fun H7 f7 K7 => ?_
    walk_at "w"
    exact fin H7 f7 (K6.trans K7)
  ·intro D' hrt hD'
   have F04 : FrL (p :: md :: dl :: S.own) H H4 := FrL.kp K04 (by simp)
   have FS : ∀ {H5 : Hp}, FrS S H4 H5 → FrL (p :: md :: dl :: S.own) H H5 := fun f => F04.trans (FrL.ofS f fun b hb => by simp [hb])
   obtain ⟨dx0, _, hst0, _⟩ := id hS0
   walk_at "w"
   rw [Yr]
   refine Zu (fun hway => ?_) (fun hway => ?_)
   ·walk_at "w"
    refine Zf hst0 (Jq (by decide +kernel) (by decide +kernel) (by decide +kernel) (by decide +kernel)) ?_
    by_cases hds : ds = []
    ·refine ⟨S, n0, sm, c0, ds, ts, [], rfl, hS0, .inl ⟨hds, ?_⟩⟩
     have hdn : dvs0 = [] := Zx.nil_of (hds ▸ hdv0)
     walk_at "w"
     refine ZR (by show 0 ≤ sizeLine; decide) fun l5 H5 n5 f5 S5 => ?_
     refine ZDt (SqL.of (S5 _ _ hl0)) (SqL.of f5) ?_
     rw [hdn]
     walk_at "w"
     refine YJ ?_
     walk_at "w"
     rw [hrt]
     exact k1 H5 (P4.same S5) (hL4.same S5) (K04.then S5)
    ·obtain ⟨ds', t', o', e1, hun, ht', ho', hb'⟩ := hLM0.un.open hds
     subst e1
     have ho2 : o' = none → (Ze sm t').isSome = true := fun z => by rw [hLM0.eqv.get hnds hnd0]; exact ho' z
     refine ⟨S, n0, sm, c0, _, ts, [], rfl, hS0, .inr ⟨ds', t', o', rfl, ht', ho2, by omega, hNs, by omega, fun H5 hS5 F5 => ?_⟩⟩
     obtain ⟨us, bq, eus, hdv', hbq⟩ := Zx.unsnoc hdv0
     subst eus
     have hl5 : H5 dl = _ := hS0.keepL F5 hl0 dlS
     have hm5 : H5 md = _ := hS0.keepD F5 hm0 mdS
     have hbq5 : H5 bq = _ := hS0.keepT F5 hbq
     have P5 := hS0.keepPot F5 P4 pS
     walk_at "w"
     refine ZR (by show 0 ≤ sizeLine; decide) fun l6 H6 n6 f6 S6 => ?_
     refine ZDt (SqL.of (S6 _ _ hl5)) (SqL.of f6) ?_
     rw [show (us ++ [V.ref bq]).isEmpty = false by cases us <;> rfl]
     walk_at "w"
     refine Z1 ?_
     walk_at "w"
     refine ⟨tyL (S6 _ _ hl5), ?_⟩
     walk_at "w"
     refine ZKZ (S6 _ _ hl5) fun H7 f7 K7 => ?_
     have hbq7 : H7 bq = some (.tup [.int t', ZAU o']) := K7 _ _ (S6 _ _ hbq5) (fun z => by rw [z, hl5] at hbq5; cases hbq5)
     walk_at "w"
     have hun2 : Und (Y9 m t' o') ds' := hun.eqv (Eqv.symm (ZCX hnd0 t' o')) (Y8 hnd0 _ _) (ZBH hnd0 _ _)
     have hdl5 : ds'.length ≤ N + 1 := by rw [List.length_append] at hNd; omega
     refine hD' _ _ ⟨t', o', n0, ds', us, rfl, ht', hb', ((hS5.same S6).kpL K7 (S6 _ _ hl5) dlS), K7 _ _ (S6 _ _ hm5) (fun z => by rw [z, hl5] at hm5; cases hm5), f7, ?_, hun2, hdl5, ?_, ?_⟩
     ·exact (((hdv'.tups fun b xs g => hS0.keepT F5 g).tups fun b xs g => S6 _ _ g).tups fun b xs g => K7 _ _ g (fun z => by rw [z, S6 _ _ hl5] at g; cases g))
     ·exact (P5.same S6).kp K7 pdl
     ·exact ((FS F5).trans (FrL.same S6)).trans (FrL.kp K7 (by simp))
   ·repeat walk_at "ri"
    have putG : ∀ {H5 : Hp}, ZH a H5 S n0 (YO sm t h) (c0 + 1) (ds ++ [(t, Ze sm t)]) (ts ++ [t]) [] → FrS S H4 H5 → ∀ (dq : Addr) (H6 H7 : Hp), H6 dq = some (.tup [.int t, ZAU (Ze sm t)]) → ZK H5 H6 → H7 dl = some (.lst (dvs0 ++ [.ref dq])) → Kp dl H6 H7 →
      ∃ (t' : Int) (o : Option Int) (n : Int) (ds' : List (Int × Option Int)) (dvs : List V), [some (V.ref p), some (.ref S.p), some (.ref md), some (.ref dl), some (.ref q), some (.int way), some (.int t), some (.int h)] = [some (.ref p), some (.ref S.p), some (.ref md), some (.ref dl), some (.ref q), some (.int way), some (.int t'), some (ZAU o)] ∧ Tm t' ∧ (∀ v, o = some v → -(10 ^ 59) < v ∧ v < 10 ^ 59) ∧ ZH a H7 S n (Z7 sm t' o) (c0 + 1) ds' (ts ++ [t']) [] ∧ H7 md = some (.dK (Zj m)) ∧ H7 dl = some (.lst dvs) ∧ Zx H7 dvs ds' ∧ Und (Y9 m t' o) ds' ∧ ds'.length ≤ N + 1 ∧ Pot H7 p ∧ FrL (p :: md :: dl :: S.own) H H7 := by
     intro H5 hS5 F5 dq H6 H7 f6 S6 f7 K7
     have hl5 : H5 dl = _ := hS0.keepL F5 hl0 dlS
     have hm5 : H5 md = _ := hS0.keepD F5 hm0 mdS
     have eg : Ze sm t = Ze m t := hLM0.eqv.get hnds hnd0 t
     refine ⟨t, some h, n0, _, _, rfl, ht, fun v hv => by cases hv; exact ⟨hb1, hb2⟩, (hS5.same S6).kpL K7 (S6 _ _ hl5) dlS, K7 _ _ (S6 _ _ hm5) (fun z => by rw [z, hl5] at hm5; cases hm5), f7, ?_, ?_, ?_, ?_, ?_⟩
     ·refine Zx.snoc ?_ (K7 _ _ f6 fun z => by rw [z, S6 _ _ hl5] at f6; cases f6)
      exact (((hdv0.tups fun b xs g => hS0.keepT F5 g).tups fun b xs g => S6 _ _ g).tups fun b xs g => K7 _ _ g (fun z => by rw [z, S6 _ _ hl5] at g; cases g))
     ·rw [eg]; exact hLM0.un.deed hnd0 hLM0.hb ht (fun z => by cases z)
     ·rw [List.length_append]; exact Nat.succ_le_succ hNd
     ·exact ((hS0.keepPot F5 P4 pS).same S6).kp K7 pdl
     ·exact ((FS F5).trans (FrL.same S6)).trans (FrL.kp K7 (by simp))
    have q1 : c0 ≤ 900 := by omega
    have q2 := hNs
    have q3 : ts.length ≤ 900 := by omega
    have q4 : ds.length ≤ 900 := by omega
    refine ZPE (fun σ' H' => σ' = [some (.ref p), some (.ref S.p), some (.ref md), some (.ref dl), some (.ref q), some (.int way), some (.int t), some (.int h)] ∧ H4 = H') ?_ ?_
    ·rintro σ' H' ⟨rfl, rfl⟩
     walk_at "w"
     refine Zf hst0 (Jq (by decide +kernel) (by decide +kernel) (by decide +kernel) (by decide +kernel)) ?_
     walk_at "w"
     refine ⟨S, n0, t, h, sm, c0, ds, ts, [], rfl, hS0, ht, q1, q2, q3, q4, fun H5 hS5 F5 => ?_⟩
     have hl5 : H5 dl = _ := hS0.keepL F5 hl0 dlS
     have hm5 : H5 md = _ := hS0.keepD F5 hm0 mdS
     have eg : Ze sm t = Ze m t := hLM0.eqv.get hnds hnd0 t
     walk_at "w"
     refine ⟨tyL hl5, ?_⟩
     walk_at "w"
     refine ZFE hm5 ?_
     walk_at "w"
     refine ZGn hm5 ?_
     rw [ZHA, ← eg]
     walk_at "w"
     refine ZR (by show 2 ≤ sizeLine; decide) fun dq H6 n6 f6 S6 => ?_
     walk_at "w"
     refine JC (S6 _ _ hl5) (by rw [hdv0.len]; exact Nat.lt_of_le_of_lt (Nat.le_trans hNd hN) (by decide)) fun H7 f7 K7 => ?_
     walk_at "w"
     exact hD' _ _ (putG hS5 F5 dq H6 H7 f6 S6 f7 K7)
    ·intro u' hu'
     walk_at "w"
     rw [Yr]
     refine Zu (fun hway3 => ?_) (fun hway3 => ?_)
     ·walk_at "w"
      refine ZPB hm0 ?_
      cases hg : Ze m t with
      | none =>
       walk_at "w"
       refine Z1 ?_
       exact hu' _ _ ⟨rfl, rfl⟩
      | some v =>
       walk_at "w"
       refine YJ ?_
       have eg : Ze sm t = some v := (hLM0.eqv.get hnds hnd0 t).trans hg
       walk_at "w"
       refine Zf hst0 (Jq (by decide +kernel) (by decide +kernel) (by decide +kernel) (by decide +kernel)) ?_
       walk_at "w"
       refine ⟨S, n0, t, v, sm, c0, ds, ts, [], rfl, hS0, ht, eg, q1, q2, q3, q4, fun H5 hS5 F5 => ?_⟩
       have hl5 : H5 dl = _ := hS0.keepL F5 hl0 dlS
       have hm5 : H5 md = _ := hS0.keepD F5 hm0 mdS
       walk_at "w"
       refine ⟨tyL hl5, ?_⟩
       walk_at "w"
       refine ZGU hm5 hg ?_
       walk_at "w"
       refine ZR (by show 2 ≤ sizeLine; decide) fun dq H6 n6 f6 S6 => ?_
       walk_at "w"
       refine JC (S6 _ _ hl5) (by rw [hdv0.len]; exact Nat.lt_of_le_of_lt (Nat.le_trans hNd hN) (by decide)) fun H7 f7 K7 => ?_
       walk_at "w"
       refine hD' _ _ ⟨t, none, n0, _, _, rfl, ht, (fun v hv => by cases hv), (hS5.same S6).kpL K7 (S6 _ _ hl5) dlS, K7 _ _ (S6 _ _ hm5) (fun z => by rw [z, hl5] at hm5; cases hm5), f7, ?_, ?_, ?_, ?_, ?_⟩
       ·refine Zx.snoc ?_ (K7 _ _ f6 fun z => by rw [z, S6 _ _ hl5] at f6; cases f6)
        exact (((hdv0.tups fun b xs g => hS0.keepT F5 g).tups fun b xs g => S6 _ _ g).tups fun b xs g => K7 _ _ g (fun z => by rw [z, S6 _ _ hl5] at g; cases g))
       ·rw [← hg]; exact hLM0.un.deed hnd0 hLM0.hb ht (fun _ => by rw [hg]; rfl)
       ·rw [List.length_append]; exact Nat.succ_le_succ hNd
       ·exact ((hS0.keepPot F5 P4 pS).same S6).kp K7 pdl
       ·exact ((FS F5).trans (FrL.same S6)).trans (FrL.kp K7 (by simp))
     ·walk_at "w"
      exact hu' _ _ ⟨rfl, rfl⟩
end
def ZHM (bad : List Int) (x z : Int) : Bool := bad.any fun t => decide (x ≤ t) && decide (t < z)
theorem ZNN {bad : List Int} {x z : Int} : ZHM bad x z = true ↔ hit bad x z := by
 unfold ZHM hit
 rw [List.any_eq_true]
 constructor
 ·rintro ⟨t, h1, h2⟩
  rw [Bool.and_eq_true, decide_eq_true_iff, decide_eq_true_iff] at h2
  exact ⟨t, h1, h2⟩
 ·rintro ⟨t, h1, h2⟩
  exact ⟨t, h1, by rw [Bool.and_eq_true, decide_eq_true_iff, decide_eq_true_iff]; exact h2⟩
def Yo (kvs : List (List Key × V)) (bad : List Int) (b y : Int) (N : Nat) : List Nat := (List.range N).filter fun (j : Nat) => has kvs (b + (j : Int) * y) (b + (j : Int) * y + y) && !ZHM bad (b + (j : Int) * y) (b + (j : Int) * y + y)
theorem ZD8 {kvs kvs1 : List (List Key × V)} {bad : List Int} (h : ∀ x z, has kvs1 x z = true ↔ has kvs x z = true ∧ ¬ hit bad x z) (b y : Int) (N : Nat) : Yo kvs bad b y N = cols kvs1 b y N := by
 unfold Yo cols
 apply List.filter_congr
 intro j _
 rw [Bool.eq_iff_iff, h, Bool.and_eq_true, Bool.not_eq_true', ← ZNN]
 simp
theorem ZFP (kvs : List (List Key × V)) (b y : Int) (N : Nat) : Yo kvs [] b y N = cols kvs b y N := ZD8 (fun x z => ⟨fun h => ⟨h, fun ⟨t, ht, _⟩ => by cases ht⟩, fun h => h.1⟩) b y N
theorem ZHm (kvs : List (List Key × V)) (bad : List Int) (b y : Int) (N : Nat) : (Yo kvs bad b y N).Nodup := List.Nodup.sublist List.filter_sublist List.nodup_range
theorem ZFQ (kvs : List (List Key × V)) (bad : List Int) (b y : Int) (N : Nat) : (Yo kvs bad b y N).length ≤ N := by
 have := List.length_filter_le (fun (j : Nat) => has kvs (b + (j : Int) * y) (b + (j : Int) * y + y) && !ZHM bad (b + (j : Int) * y) (b + (j : Int) * y + y)) (List.range N)
 rw [List.length_range] at this
 exact this
theorem ZHN {kvs : List (List Key × V)} {bad : List Int} {b y : Int} {N j : Nat} (h : j ∈ Yo kvs bad b y N) : j < N := by
 unfold Yo at h
 rw [List.mem_filter, List.mem_range] at h
 exact h.1
theorem ZJM (kvs : List (List Key × V)) (bad : List Int) (t b y : Int) (N : Nat) : Yo kvs (bad ++ [t]) b y N = (Yo kvs bad b y N).filter fun (j : Nat) => !(decide (b + (j : Int) * y ≤ t) && decide (t < b + (j : Int) * y + y)) := by
 unfold Yo
 rw [List.filter_filter]
 apply List.filter_congr
 intro j _
 unfold ZHM
 rw [List.any_append, List.any_cons, List.any_nil, Bool.or_false]
 generalize has kvs (b + (j : Int) * y) (b + (j : Int) * y + y) = p1
 generalize bad.any (fun t => decide (b + (j : Int) * y ≤ t) && decide (t < b + (j : Int) * y + y)) = p2
 generalize (decide (b + (j : Int) * y ≤ t) && decide (t < b + (j : Int) * y + y)) = p3
 cases p1 <;> cases p2 <;> cases p3 <;> rfl
theorem Z6.cols {a : Ad} {H : Hp} {S : SA} {v d : Addr} {b y m n : Int} {kvs : List (List Key × V)} {e : Nat} {sm : List (Int × Int)} {ts : List Int} (h : Z6 a H S v d b y m n kvs e sm ts) : ∀ x z, has kvs x z = true → Col b y m x z := fun x z hh => by
 obtain ⟨dx, q, h1, h2, h3, h4, _⟩ := h
 obtain ⟨w, hw⟩ := Option.isSome_iff_exists.mp hh
 exact (h4 x z w hw).1
def VS (a : Ad) (H : Hp) (S : SA) (v ow d l : Addr) (sm : List (Int × Int)) (ts tl : List Int) (i : Nat) : Prop :=
 ∃ (b y m k : Int) (kvs : List (List Key × V)) (e : Nat) (q : Addr), Z6 a H S v d b y m k kvs e sm ts ∧ H ow = some (.lst [.ref q, .ref l, .int k]) ∧ Yl H q b y m ∧ m ≤ 12 ∧ H l = some (.lst (YQ (Yo kvs (tl.drop e) b y m.toNat))) ∧ e ≤ tl.length ∧ kvs.length ≤ i
theorem VS.frL {a : Ad} {H H' : Hp} {S : SA} {v ow d l : Addr} {sm : List (Int × Int)} {ts tl : List Int} {i : Nat} (h : VS a H S v ow d l sm ts tl i) {L : List Addr} (f : FrL L H H') (nv : v ∉ L) (nd : d ∉ L) (no : ow ∉ L) (nl : l ∉ L) (nt : ∀ b ∈ L, ∀ xs, H b ≠ some (.tup xs)) : VS a H' S v ow d l sm ts tl i := by
 obtain ⟨b, y, m, k, kvs, e, q, h1, h2, h3, h4, h5, h6, h7⟩ := h
 exact ⟨b, y, m, k, kvs, e, q, h1.frL f nv nd nt, f _ _ h2 no, ⟨f _ _ h3.1 fun z => nt q z _ h3.1, h3.2⟩, h4, f _ _ h5 nl, h6, h7⟩
theorem VS.same {a : Ad} {H H' : Hp} {S : SA} {v ow d l : Addr} {sm : List (Int × Int)} {ts tl : List Int} {i : Nat} (h : VS a H S v ow d l sm ts tl i) (s : ZK H H') : VS a H' S v ow d l sm ts tl i := h.frL (L := []) (FrL.same s) (by simp) (by simp) (by simp) (by simp) (by simp)
theorem VS.mono {a : Ad} {H : Hp} {S : SA} {v ow d l : Addr} {sm : List (Int × Int)} {ts tl : List Int} {i j : Nat} (h : VS a H S v ow d l sm ts tl i) (le : i ≤ j) : VS a H S v ow d l sm ts tl j := by
 obtain ⟨b, y, m, k, kvs, e, q, h1, h2, h3, h4, h5, h6, h7⟩ := h
 exact ⟨b, y, m, k, kvs, e, q, h1, h2, h3, h4, h5, h6, Nat.le_trans h7 le⟩
theorem ZD3.deed {H : Hp} {kvs : List (List Key × V)} {sm : List (Int × Int)} {b y m : Int} {bad : List Int} (h : ZD3 H kvs sm b y m bad) (n : (sm.map (·.1)).Nodup) (t : Int) (o : Option Int) : ZD3 H kvs (Z7 sm t o) b y m (bad ++ [t]) := fun x z u e => by
 obtain ⟨h1, h2⟩ := h x z u e
 refine ⟨h1, ?_⟩
 rcases h2 with ⟨t', m1, m2⟩ | ⟨o', f, g⟩
 ·exact .inl ⟨t', List.mem_append_left _ m1, m2⟩
 ·by_cases hin : x ≤ t ∧ t < z
  ·exact .inl ⟨t, by simp, hin⟩
  ·refine .inr ⟨o', f, g.congr fun r => ?_⟩
   rw [YF, YF]
   have key : x ≤ r.1 ∧ r.1 < z → (r ∈ sm ↔ r ∈ Z7 sm t o) := fun hr => by
    have hne : r.1 ≠ t := fun z => hin (z ▸ hr)
    cases o with
    | none => show r ∈ sm ↔ r ∈ YU sm t; rw [Ys]; exact ⟨fun h => ⟨hne, h⟩, fun h => h.2⟩
    | some v =>
     show r ∈ sm ↔ r ∈ YO sm t v
     rw [Yb n]
     exact ⟨fun h => .inl ⟨hne, h⟩, fun h => h.elim (fun h => h.2) fun h => absurd (by rw [h]) hne⟩
   exact ⟨fun h => ⟨(key h.2).mp h.1, h.2⟩, fun h => ⟨(key h.2).mpr h.1, h.2⟩⟩
theorem VS.deed {a : Ad} {H : Hp} {S : SA} {v ow d l : Addr} {sm : List (Int × Int)} {ts : List Int} {i : Nat} (h : VS a H S v ow d l sm ts ts i) (n : (sm.map (·.1)).Nodup) (t : Int) (o : Option Int) : VS a H S v ow d l (Z7 sm t o) (ts ++ [t]) ts i := by
 obtain ⟨b, y, m, k, kvs, e, q, ⟨dx, q0, g1, g2, g3, g4, g5, g6⟩, h2, h3, h4, h5, h6, h7⟩ := h
 exact ⟨b, y, m, k, kvs, e, q, ⟨dx, q0, g1, g2, g3, by rw [List.drop_append_of_le_length h6]; exact g4.deed n t o, g5, g6⟩, h2, h3, h4, h5, h6, h7⟩
theorem ZS0 {c A B : Prop} [Decidable c] (hc : c) (h : B) : if (!decide c) = true then A else B := by
 rw [decide_eq_true hc]
 exact h
theorem ZPr {x : Int} (h1 : -(10 ^ 59) < x) (h2 : x < 10 ^ 59) : Bn 200 x := Bn.of (Int.lt_trans (by decide) h1) (Int.lt_trans h2 (by decide))
theorem ZSR {x : Int} (h : Tm x) : Bn 200 x := Bn.of (Int.lt_of_lt_of_le (by decide) h.1) (Int.lt_trans h.2 (by decide))
theorem ZRj {sm m : List (Int × Int)} (hE : Eqv sm m) (hb : Hb m) {b y : Int} {N : Nat} {fs : List (Option (List (Int × Int)))} (h : ZAe sm b y N fs) : ∀ qs, some qs ∈ fs → qs.length ≤ 4 ∧ ∀ q ∈ qs, Bn 200 q.1 ∧ Bn 200 q.2 := fun qs hq => ⟨(h.mem hq).1, fun q hq' => by
 have := hb q ((hE q).mp ((h.mem hq).2 q hq'))
 exact ⟨ZSR this.1, ZPr this.2.1 this.2.2⟩⟩
theorem ZNO {kvs : List (List Key × V)} {b y m : Int} (h : ∀ x z, Col b y m x z → has kvs x z = true) : cols kvs b y m.toNat = List.range m.toNat := by
 unfold cols
 rw [List.filter_eq_self]
 intro j hj
 rw [List.mem_range] at hj
 exact h _ _ ⟨(j : Int), by omega, by omega, rfl, rfl⟩
def ZE0 (a : Ad) : Sp := fun vs H Q _ => ∃ (S : SA) (v ow md d l : Addr) (n : Int) (sm m : List (Int × Int)) (c : Nat) (ds : List (Int × Option Int)) (ts : List Int) (i : Nat), vs = [.ref v, .ref ow, .ref md] ∧ ZH a H S n sm c ds ts [] ∧ VS a H S v ow d l sm ts ts i ∧ i ≤ 10000 ∧ ts.length ≤ 1000 ∧ l ≠ ow ∧ ow ∉ S.ls ∧ H md = some (.dK (Zj m)) ∧ Eqv sm m ∧ (m.map (·.1)).Nodup ∧ m.length < 64 ∧ Hb m ∧
 ∀ (n' : Int) (l' : Addr) (H' : Hp), H l' = none → ZH a H' S n' sm c ds ts [] → VS a H' S v ow d l' sm ts ts (i + 12) → FrL [v, d, S.tr, ow] H H' → Q (.bl true) H'
section
variable {P : Program} {w : World} {K : PySem.W.Frag} {mg : Str → Option Value} {base : Heap} {a : Ad}
local macro_rules | `(tactic| walk_at "rd") => `(tactic| first
 | with_reducible refine Z3 (by assumption) (‹Txt _ _ _›).c_View (‹Txt _ _ _›).n_View_asked ZBS ?_)
theorem ZJN : ZP ["_law_view", "_law_own", "_law_made"] ["_law_view", "_law_own", "_law_made"] (ZF ZCz) := ⟨rfl, rfl, rfl, by decide +kernel, rfl, by decide +kernel, by decide +kernel⟩
theorem ZAv (T : Txt K mg a) : ZQ P w K mg base CX0 8 a.f_l_asked a.d_l_asked ["_law_view", "_law_own", "_law_made"] (ZE0 a) := by
 refine T.F_l_asked.ok ZJN (fun vs H Q E h => ?_) (fun cdv A outer s H vs Q E hr h => ?_)
 ·obtain ⟨S, v, ow, md, d, l, n, sm, m, c, ds, ts, i, rfl, _⟩ := h
  rfl
 ·obtain ⟨S, v, ow, md, d, l, n, sm, m, c, ds, ts, i, rfl, hS, hVS, hi, hts, nlo, noS, hmd, hE, hnd, hml, hHb, kk⟩ := h
  have hu := JE hr
  have hu64 := hr.units
  have hgd := hr.gd
  have hnsm := hS.nd
  obtain ⟨b, y, mm, k, kvs, e, q, hV, how, hW, hm12, hl, hel, hkl⟩ := id hVS
  have hq := hW.1
  have hmp := hW.2.2.1
  refine ⟨_, QB.h (ZD (ZPM K rfl (qv 1) ZC (ZL Yi (ZU (Zd K rfl) (ZU (Zm K rfl) (qv 1) ZC) ZC) (Zo (ZBr K rfl) rfl T.z_len ZAc (ZA (ZU (Zm K rfl) (qv 1) ZC) ZB)))) (ZD (YZ (ZI5 rfl rfl T.z_list rfl T.z_range (ZA (ZU (Zd K rfl) (ZU (Zm K rfl) (qv 1) ZC) ZC) ZB)) (ZBq (qv 1) ZC Jt)) (ZE (ZZ (ZCl (ZAL (YG) (Zo (ZGd K rfl hgd hu64) rfl T.z_repr ZH2 (ZA (JH (qv 0) T.c_View T.M_View_fours (ZFj T) hr T.b_View_fours .nil ZJ) ZB)) (Zo (ZGd K rfl hgd hu64) rfl T.z_repr ZH2 (ZA (ZG (ZJI T) (hr.mono (by decide)) rfl T.m_l_fours T.F_l_fours.kp T.b_l_fours .nil ZJ (ZA (qv 2) (ZA (ZU (Zm K rfl) (qv 1) ZC) ZB))) ZB)) (Zb _)) (ZCk (ZAL (YG) (Zl K rfl (qv 0)) (ZU (Zm K rfl) (qv 1) ZC) (Zb _)))))))), ?_⟩
  walk_at "s"
  walk_at "w"
  refine ZRX (SqL.of how) (j := 2) rfl rfl ?_
  walk_at "w"
  refine ZAK how (j := 2) rfl fun H1 f1 K1 => ?_
  have K1' : Kp ow H H1 := K1
  simp only [List.set_cons_succ, List.set_cons_zero] at f1
  have hq1 := K1 _ _ hq (fun z => by rw [z, how] at hq; cases hq)
  walk_at "w"
  refine ZI6 (by omega) (by omega) fun l2 H2 n2 f2 S2 => ?_
  have n02 : H l2 = none := by
   cases hh : H l2 with
   | none => rfl
   | some o =>
    by_cases z : l2 = ow
    ·rw [z, f1] at n2; cases n2
    ·rw [K1 _ _ hh z] at n2; cases n2
  have how2 := S2 _ _ f1
  walk_at "w"
  refine ZAK how2 (j := 1) rfl fun H3 f3 K3 => ?_
  have K3' : Kp ow H2 H3 := K3
  simp only [List.set_cons_succ, List.set_cons_zero] at f3
  have nl2 : l2 ≠ ow := fun z => by rw [z, f1] at n2; cases n2
  have F3 : FrL [ow] H H3 := ((FrL.kp K1' (by simp)).trans (FrL.same S2)).trans (FrL.kp K3' (by simp))
  have nt : ∀ b ∈ [ow], ∀ xs, H b ≠ some (.tup xs) := fun b hb xs z => by
   obtain rfl : b = ow := (by simpa using hb)
   rw [how] at z; cases z
  obtain ⟨dx, q0, hv, hW0, hd, hk0, av, ad⟩ := id hV
  have nvo : v ≠ ow := fun z => by rw [z, how] at hv; cases hv
  have ndo : d ≠ ow := fun z => by rw [z, how] at hd; cases hd
  have noO : ow ∉ S.p :: S.own := fun z => by
   rcases List.mem_cons.mp z with z | z
   ·obtain ⟨_, _, g, _⟩ := id hS
    rw [← z, how] at g; cases g
   ·exact hS.nown how (fun _ _ _ z => by cases z) (fun ⟨_, z⟩ => by cases z) (fun _ z => by cases z) (fun _ => noS) z
  have hV3 := hV.frL F3 (by simpa using nvo) (by simpa using ndo) nt
  have hS3 := hS.frL F3 (fun b hb => by obtain rfl : b = ow := (by simpa using hb); exact noO) nt
  obtain ⟨dx3, q3, hv3, _⟩ := id hV3
  have hq3 := F3 _ _ hq (fun z => nt q z _ hq)
  walk_at "w"
  refine Zf hv3 (Ym (by decide +kernel) (by decide +kernel) (by decide +kernel) (by decide +kernel) (by decide +kernel)) ?_
  refine ⟨S, v, d, b, y, mm, k, n, kvs, e, sm, c, ds, ts, [], rfl, hS3, hV3, by omega, by omega, fun uu us fs kv1 kv4 n4 H4 f4 hF4 h44 hh4 hV4 hS4 hall4 hl4 F4 => ?_⟩
  have keep : ∀ {e : Addr} {o : HO}, H3 e = some o → ((∃ xs, o = .tup xs) ∨ (∃ xs, o = .lst xs) ∨ ∃ m, o = .dK m) → H4 e = some o := fun {e o} g h1 => F4 _ _ g fun z => by
   obtain ⟨dx, q0, e1, _, e2, _⟩ := id hV3
   obtain ⟨_, _, _, ⟨_, _, t1, _⟩, _⟩ := id hS3
   simp only [List.mem_cons, List.not_mem_nil, or_false] at z
   rcases h1 with ⟨_, rfl⟩ | ⟨_, rfl⟩ | ⟨_, rfl⟩ <;> rcases z with z | z | z
   all_goals first | (rw [z, e1] at g; cases g) | (rw [z, e2] at g; cases g) | (rw [z, t1] at g; cases g)
  have how4 := keep f3 (.inr (.inl ⟨_, rfl⟩))
  have hq4 := keep hq3 (.inl ⟨_, rfl⟩)
  have hmd3 := F3 _ _ hmd (fun z => by obtain rfl : md = ow := (by simpa using z); rw [how] at hmd; cases hmd)
  have hmd4 := keep hmd3 (.inr (.inr ⟨_, rfl⟩))
  obtain ⟨dx4, q4, hv4, hW4, hd4, hk4, _⟩ := id hV4
  walk_at "w"
  refine ZGe (ZEU f4 hF4 (ZRj hE hHb h44) (by rw [h44.1]; omega)) ?_
  walk_at "w"
  refine ⟨md, q, m, b, y, mm, rfl, hmd4, hnd, hml, ⟨hq4, hW.2⟩, fun u5 us5 fs5 H5 f5 hF5 h45 S5 => ?_⟩
  obtain rfl : fs = fs5 := ZHZ hE hnsm h44 h45
  walk_at "w"
  refine ZGe (ZEU f5 hF5 (ZRj hE hHb h44) (by rw [h44.1]; omega)) ?_
  walk_at "w"
  refine Ye ?_
  walk_at "w"
  refine Zu (fun _ => ?_) (fun z => absurd rfl z)
  have hv5 := S5 _ _ hv4
  have how5 := S5 _ _ how4
  walk_at "w"
  have hms := ZFO kv1 b y mm.toNat
  have hce := ZD8 hh4 b y mm.toNat
  have hnlen : (YQ (Yo kvs (ts.drop e) b y mm.toNat)).length = (Yo kvs (ts.drop e) b y mm.toNat).length := List.length_map _
  have ek : k + (ZAG kv1 b y mm.toNat : Int) = k + (mm - ((YQ (Yo kvs (ts.drop e) b y mm.toNat)).length : Int)) := by
   rw [hnlen, hce]
   omega
  rw [ek, decide_eq_true rfl]
  refine kk n4 l2 H5 n02 (hS4.same S5) ⟨b, y, mm, _, kv4, ts.length, q, by rw [← ek]; exact hV4.same S5, how5, ⟨S5 _ _ hq4, hW.2⟩, hm12, ?_, Nat.le_refl _, by omega⟩ ?_
  ·rw [List.drop_length, ZFP, ZNO hall4]
   exact S5 _ _ (keep (K3 _ _ f2 nl2) (.inr (.inl ⟨_, rfl⟩)))
  ·exact ((F3.mono (by simp +contextual)).trans (F4.mono (by simp +contextual))).trans (FrL.same S5)
def ZNl (a : Ad) : Sp := fun vs H _ E => ∃ (v u : Addr) (b y m b' y' m' : Int), vs = [.ref v, .ref u] ∧ ZFw a H v b y m ∧ ZEd H u b y m b' y' m' ∧ ¬ (-1099511627776 ≤ b' ∧ b' + y' * m' ≤ 1099511627776) ∧ ∀ H', ZK H H' → E (.ref a.C_OutOfTimes) none H'
theorem ZNP (T : Txt K mg a) : ZQ P w K mg base (CX1 P w) 7 a.f_l_go a.d_l_go ["_law_view", "_law_step_here"] (ZNl a) := by
 refine T.F_l_go.okx Yw (fun vs H Q E h => ?_) (fun cdv A outer s H vs Q E hr h => ?_)
 ·obtain ⟨v, u, b, y, m, b', y', m', rfl, _⟩ := h
  rfl
 ·obtain ⟨v, u, b, y, m, b', y', m', rfl, hVW, ⟨nm, j, q, hu1, hq, hst⟩, hout, k⟩ := h
  obtain ⟨dx, s0, q0, d, n, e, hv, hW⟩ := id hVW
  have hy2 := JJ hW
  obtain ⟨_, hy, hm1, hm2, hb, he⟩ := id hW
  unfold InT at hb he
  have hmy : 0 ≤ m * y := Int.mul_nonneg (by omega) (by omega)
  refine ⟨_, QB.h (ZD (ZM (i := 2) Yw.nd rfl (by walk_at "o") YN) (ZD (Zk (ZW (YG) (ZU (Zd K rfl) (qv 1) ZC) JN (Zb _)) (ZE (ZM (i := 2) Yw.nd rfl (by walk_at "o") (JH (qv 0) T.c_View T.M_View_wide (ZFk T) hr T.b_View_wide .nil ZBM))) (ZE (Zk (ZW (YG) (ZU (Zd K rfl) (qv 1) ZC) JN (Zb _)) (ZE (ZM (i := 2) Yw.nd rfl (by walk_at "o") (JH (qv 0) T.c_View T.M_View_narrow (ZB1 T) hr T.b_View_narrow .nil ZJ))) (ZE (Zk (ZW (YG) (ZU (Zd K rfl) (qv 1) ZC) JN (Zb _)) (ZE (ZM (i := 2) Yw.nd rfl (by walk_at "o") (Zw (qv 0) T.c_View T.M_View_columns (ZD6 T) hr T.b_View_columns .nil ZBM (ZA (ZU (Zd K rfl) (qv 1) ZC) ZB)))) (ZE (ZM (i := 2) Yw.nd rfl (by walk_at "o") (Zw (qv 0) T.c_View T.M_View_on (ZHi T) hr T.b_View_on .nil ZBM (ZA (ZU (Zd K rfl) (qv 1) ZC) ZB))))))))) (ZE (ZZ (ZAL (ZBm) (qv 2) YN (Zb _)))))), ?_⟩
  walk_at "s"
  walk_at "w"
  have ne1 : (("narrow" : Str) = "wide") = False := eq_false (by decide +kernel)
  have ne2 : (("columns" : Str) = "wide") = False := eq_false (by decide +kernel)
  have ne3 : (("on" : Str) = "wide") = False := eq_false (by decide +kernel)
  have ne4 : (("columns" : Str) = "narrow") = False := eq_false (by decide +kernel)
  have ne5 : (("on" : Str) = "narrow") = False := eq_false (by decide +kernel)
  have ne6 : (("on" : Str) = "columns") = False := eq_false (by decide +kernel)
  rcases hst with ⟨rfl, rfl, rfl, rfl⟩ | ⟨rfl, h2, rfl, rfl, rfl⟩ | ⟨rfl, h1, h2, rfl, rfl, rfl⟩ | ⟨rfl, h1, h2, rfl, rfl, rfl⟩
  ·refine Ye ?_
   rw [decide_eq_true rfl]
   walk_at "w"
   refine YJ ?_
   walk_at "w"
   refine Zf hv (Ym (by decide +kernel) (by decide +kernel) (by decide +kernel) (by decide +kernel) (by decide +kernel)) ?_
   refine ⟨v, b', y, m', rfl, hVW, fun z => hout ⟨z.1.1, ?_⟩, k⟩
   have e : m' * (y * 2) = 2 * y * m' := by rw [Int.mul_comm m', Int.mul_comm y]
   have := z.2.2
   omega
  ·exfalso
   apply hout
   have e : 2 * (y / 2 * m') = m' * y := by rw [← Int.mul_assoc, show 2 * (y / 2) = y by omega, Int.mul_comm]
   exact ⟨hb.1, by omega⟩
  ·refine Ye ?_
   rw [decide_eq_false (by rw [ne2]; exact id)]
   walk_at "w"
   refine Z1 ?_
   walk_at "w"
   refine Ye ?_
   rw [decide_eq_false (by rw [ne4]; exact id)]
   walk_at "w"
   refine Z1 ?_
   walk_at "w"
   refine Ye ?_
   rw [decide_eq_true rfl]
   walk_at "w"
   refine YJ ?_
   walk_at "w"
   refine Zf hv (Ym (by decide +kernel) (by decide +kernel) (by decide +kernel) (by decide +kernel) (by decide +kernel)) ?_
   walk_at "w"
   refine ⟨v, b', y', m, m', rfl, hVW, by omega, by omega, fun z => hout ⟨z.1.1, ?_⟩, k⟩
   have := z.2.2
   rw [Int.mul_comm y']
   omega
  ·refine Ye ?_
   rw [decide_eq_false (by rw [ne3]; exact id)]
   walk_at "w"
   refine Z1 ?_
   walk_at "w"
   refine Ye ?_
   rw [decide_eq_false (by rw [ne5]; exact id)]
   walk_at "w"
   refine Z1 ?_
   walk_at "w"
   refine Ye ?_
   rw [decide_eq_false (by rw [ne6]; exact id)]
   walk_at "w"
   refine Z1 ?_
   walk_at "w"
   refine Zf hv (Ym (by decide +kernel) (by decide +kernel) (by decide +kernel) (by decide +kernel) (by decide +kernel)) ?_
   walk_at "w"
   refine ⟨v, b, y', m', j, rfl, hVW, ZCn (m := 42) (n := 43) (by unfold Bn; omega) (by unfold Bn; omega) (by decide), fun z => hout ⟨z.1.1, ?_⟩, k⟩
   have := z.2.2
   rw [Int.mul_comm y']
   omega
theorem ZNQ (T : Txt K mg a) : ZQ P w K mg base (CX1 P w) 7 a.f_l_go a.d_l_go ["_law_view", "_law_step_here"] (fun vs H Q E => ZRh a vs H Q E ∨ ZNl a vs H Q E) := (ZPp T).lift.or (ZNP T)
def ZHO (a : Ad) : Sp := fun vs H Q _ => ∃ (S : SA) (p v ow d l : Addr) (n : Int) (sm : List (Int × Int)) (c : Nat) (ds : List (Int × Option Int)) (ts : List Int) (i : Nat), vs = [.ref p, .ref v, .ref ow] ∧ Pot H p ∧ ZH a H S n sm c ds ts [] ∧ VS a H S v ow d l sm ts ts i ∧ ts.length ≤ 1000 ∧ l ≠ ow ∧ p ≠ ow ∧ p ≠ l ∧ p ∉ S.ls ∧ ow ∉ S.ls ∧
 ∀ (d' l' : Addr) (H' : Hp), (d' = d ∨ H d' = none) → (l' = l ∨ ∀ xs, H l' ≠ some (.lst xs)) → Pot H' p → ZH a H' S n sm c ds ts [] → VS a H' S v ow d' l' sm ts ts (i + 12) → FrL [p, v, d, ow] H H' → Q (.bl true) H'
theorem ZAw : ZP ["_law_pot_here", "_law_view", "_law_own", "_law_step_here", "_law_is_let"] ["_law_pot_here", "_law_view", "_law_own"] (ZF ZC0) := ⟨rfl, rfl, rfl, by decide +kernel, rfl, by decide +kernel, by decide +kernel⟩
theorem ZJO (T : Txt K mg a) : ZQ P w K mg base CX0 8 a.f_l_moved a.d_l_moved ["_law_pot_here", "_law_view", "_law_own"] (ZHO a) := by
 refine T.F_l_moved.ok ZAw (fun vs H Q E h => ?_) (fun cdv A outer s H vs Q E hr h => ?_)
 ·obtain ⟨S, p, v, ow, d, l, n, sm, c, ds, ts, i, rfl, _⟩ := h
  rfl
 ·obtain ⟨S, p, v, ow, d, l, n, sm, c, ds, ts, i, rfl, hp, hS, hVS, hts, nlo, npo, npl, npS, noS, kk⟩ := h
  have hu := JE hr
  obtain ⟨b, y, mm, k, kvs, e, q, hV, how, hW, hm12, hl, hel, hkl⟩ := id hVS
  obtain ⟨dx, q0, hv, hW0, hd, hk0, av, ad⟩ := id hV
  refine ⟨_, QB.h (ZD (ZM (i := 3) ZAw.nd rfl (by walk_at "o") (ZG (ZFN T) (hr.mono (by decide)) rfl T.m_l_step T.F_l_step.kp T.b_l_step .nil ZJ (ZA (qv 0) (ZA (ZU (Zm K rfl) (qv 2) ZC) ZB)))) (ZD (ZM (i := 4) ZAw.nd rfl (by walk_at "o") ZB6) (ZD (ZRQ rfl rfl (ZMO (ZO4 (ZNQ T) (hr.mono (by decide)) rfl T.m_l_go T.F_l_go.kp T.b_l_go .nil (ZA (qv 1) (ZA (qv 3) ZB)))) (ZMP K rfl rfl rfl rfl rfl T.m_OutOfTimes T.x_OutOfTimes (fun _ => ZE (ZM (i := 4) ZAw.nd rfl (by walk_at "o") ZB6)) ZRO)) (ZD (Zk (QW.pt (Jn (Y3 (qv 4)) (JR (Y3 (ZG (ZBj T) (hr.mono (by decide)) rfl T.m_l_within T.F_l_within.kp T.b_l_within .nil ZJ (ZA (ZU (Zd K rfl) (qv 3) ZC) ZB)))))) (ZD (YZ (ZG (ZJJ T) (hr.mono (by decide)) rfl T.m_l_known T.F_l_known.kp T.b_l_known .nil ZJ (ZA (qv 3) (ZA (ZU (Zm K rfl) (qv 2) ZC) (ZA (ZU (Zm K rfl) (qv 2) ZC) ZB)))) (ZBq (qv 2) ZC Jt)) (ZE (YZ (ZU (Zd K rfl) (qv 3) ZC) (ZBq (qv 2) ZC Jt)))) Zi) (ZE (ZZ (ZAL (YG) (qv 4) (ZG (ZBj T) (hr.mono (by decide)) rfl T.m_l_within T.F_l_within.kp T.b_l_within .nil ZJ (ZA (ZU (Zd K rfl) (qv 3) ZC) ZB)) (Zb _)))))))), ?_⟩
  walk_at "s"
  walk_at "w"
  refine ⟨p, q, b, y, mm, rfl, hp, hW, fun u b1 y1 m1 H1 hst P1 K1 => ?_⟩
  have tup1 : ∀ {e : Addr} {o : HO}, H e = some o → e ≠ p → H1 e = some o := fun g n => K1 _ _ g n
  have nvp : v ≠ p := fun z => by
   obtain ⟨x1, x2, g, _⟩ := hp
   rw [z, g] at hv; cases hv
  have ndp : d ≠ p := fun z => by
   obtain ⟨x1, x2, g, _⟩ := hp
   rw [z, g] at hd; cases hd
  have ntp : ∀ b ∈ [p], ∀ ys, H b ≠ some (.tup ys) := fun b hb ys z => by
   obtain rfl : b = p := (by simpa using hb)
   exact hp.noTup _ z
  have hS1 := hS.pot hp K1 npS
  have hVS1 : VS a H1 S v ow d l sm ts ts i := hVS.frL (FrL.kp K1 (l := [p]) (by simp)) (by simpa using nvp) (by simpa using ndp) (by simpa using Ne.symm npo) (by simpa using Ne.symm npl) ntp
  have hV1 := hV.frL (FrL.kp K1 (l := [p]) (by simp)) (by simpa using nvp) (by simpa using ndp) ntp
  have how1 := tup1 how (Ne.symm npo)
  have hl1 := tup1 hl (Ne.symm npl)
  have hq1 := tup1 hW.1 (fun z => ntp q (by simp [z]) _ hW.1)
  obtain ⟨nm, cc, qq, hu1, hqq, hstp⟩ := id hst
  have hy2 := JJ hW
  have hb1 : 0 < y1 ∧ y1 ≤ 4398046511104 ∧ 1 ≤ m1 ∧ m1 ≤ 12 := by
   have h1 := hW.2.1
   have h2 := hW.2.2.1
   rcases hstp with ⟨_, _, h, h'⟩ | ⟨_, g, _, h, h'⟩ | ⟨_, g1, g2, _, h, h'⟩ | ⟨_, _, _, _, h, h'⟩ <;> omega
  have hmul : IntMulOk y1 m1 := ZCn (m := 50) (n := 50) (by unfold Bn; omega) (by unfold Bn; omega) (by decide)
  walk_at "w"
  by_cases hin : -1099511627776 ≤ b1 ∧ b1 + y1 * m1 ≤ 1099511627776
  ·have hz : 0 ≤ y1 * m1 := Int.mul_nonneg (by omega) (by omega)
   have hWV : ZBi b1 y1 m1 := ⟨by omega, by omega, by omega, ⟨by omega, by omega⟩, by rw [Int.mul_comm]; exact ⟨by omega, by omega⟩⟩
   refine .inl ⟨S, v, d, u, b, y, mm, k, n, b1, y1, m1, kvs, e, sm, c, ds, ts, [], rfl, hS1, hV1, by omega, hst, hWV, fun d4 kv1 kv4 H4 n4 g1 g2 g3 g4 g5 F4 => ?_⟩
   have keep : ∀ {e : Addr} {o : HO}, H1 e = some o → ((∃ xs, o = .tup xs) ∨ (∃ xs, o = .lst xs)) → H4 e = some o := fun {e o} g h1 => F4 _ _ g fun z => by
    obtain ⟨dx, q0, e1, _, e2, _⟩ := id hV1
    simp only [List.mem_cons, List.not_mem_nil, or_false] at z
    rcases h1 with ⟨_, rfl⟩ | ⟨_, rfl⟩ <;> rcases z with z | z
    all_goals first | (rw [z, e1] at g; cases g) | (rw [z, e2] at g; cases g)
   have hu4 := keep hu1 (.inl ⟨_, rfl⟩)
   have hqq4 := keep hqq (.inl ⟨_, rfl⟩)
   have how4 := keep how1 (.inr ⟨_, rfl⟩)
   have hl4 := keep hl1 (.inr ⟨_, rfl⟩)
   have hq4 := keep hq1 (.inl ⟨_, rfl⟩)
   walk_at "w"
   refine YJ ?_
   walk_at "w"
   refine ⟨qq, b1, y1, m1, rfl, hqq4, hmul, ?_⟩
   rw [decide_eq_true hin.1, decide_eq_true hin.2]
   walk_at "w"
   refine YJ ?_
   walk_at "w"
   refine ⟨u, q, l, b, y, mm, b1, y1, m1, Yo kvs (ts.drop e) b y mm.toNat, rfl, ⟨nm, cc, qq, hu4, hqq4, hstp⟩, ⟨hq4, hW.2⟩, hWV, hl4, ZHm _ _ _ _ _, Nat.le_trans (ZFQ _ _ _ _ _) (by omega), fun j hj => by have := ZHN hj; omega, fun l5 H5 n5 f5 S5 => ?_⟩
   have how5 := S5 _ _ how4
   walk_at "w"
   refine ZAK how5 (j := 1) rfl fun H6 f6 K6 => ?_
   have K6' : Kp ow H5 H6 := K6
   simp only [List.set_cons_succ, List.set_cons_zero] at f6
   have hu6 := K6 _ _ (S5 _ _ hu4) (fun z => by rw [z, how4] at hu4; cases hu4)
   walk_at "w"
   refine ZAK f6 (j := 0) rfl fun H7 f7 K7 => ?_
   have K7' : Kp ow H6 H7 := K7
   simp only [List.set_cons_succ, List.set_cons_zero] at f7
   have hu7 := K7 _ _ hu6 (fun z => by rw [z, f6] at hu6; cases hu6)
   have K57 : Kp ow H5 H7 := K6'.trans K7'
   have hqq7 := K57 _ _ (S5 _ _ hqq4) (fun z => by rw [z, how4] at hqq4; cases hqq4)
   walk_at "w"
   refine ⟨qq, b1, y1, m1, rfl, hqq7, hmul, ?_⟩
   rw [decide_eq_true hin.1, decide_eq_true hin.2]
   walk_at "w"
   refine ⟨rfl, ?_⟩
   rw [Bool.and_self, decide_eq_true rfl]
   have nto : ∀ b ∈ [ow], ∀ xs, H5 b ≠ some (.tup xs) := fun b hb xs z => by
    obtain rfl : b = ow := (by simpa using hb)
    rw [how5] at z; cases z
   have F57 : FrL [ow] H5 H7 := FrL.kp K57 (by simp)
   obtain ⟨dx4, q4, hv4, hW4, hd4, _⟩ := id g4
   have noO : ow ∉ S.p :: S.own := fun z => by
    rcases List.mem_cons.mp z with z | z
    ·obtain ⟨_, _, g, _⟩ := id hS
     rw [← z, how] at g; cases g
    ·exact hS.nown how (fun _ _ _ z => by cases z) (fun ⟨_, z⟩ => by cases z) (fun _ z => by cases z) (fun _ => noS) z
   have n0d : H d4 = none := by
    cases hh : H d4 with
    | none => rfl
    | some o =>
     by_cases z : d4 = p
     ·obtain ⟨x1, x2, g, _⟩ := P1
      rw [z, g] at n4; cases n4
     ·rw [K1 _ _ hh z] at n4; cases n4
   have n0l : ∀ xs, H l5 ≠ some (.lst xs) := fun xs hh => by
    by_cases z : l5 = p
    ·obtain ⟨x1, x2, g, _⟩ := P1
     rw [z, keep g (.inr ⟨_, rfl⟩)] at n5; cases n5
    ·rw [keep (K1 _ _ hh z) (.inr ⟨_, rfl⟩)] at n5; cases n5
   refine kk d4 l5 H7 (.inr n0d) (.inr n0l) ?_ ?_ ⟨b1, y1, m1, k, kv4, ts.length, qq, ?_, f7, ⟨hqq7, hWV⟩, hb1.2.2.2, ?_, Nat.le_refl _, by omega⟩ ?_
   ·obtain ⟨x1, x2, g, hr⟩ := P1
    exact ⟨x1, x2, K57 _ _ (S5 _ _ (keep g (.inr ⟨_, rfl⟩))) npo, hr⟩
   ·exact (g5.same S5).frL F57 (fun b hb => by obtain rfl : b = ow := (by simpa using hb); exact noO) nto
   ·exact (g4.same S5).frL F57 (fun z => by obtain rfl : v = ow := (by simpa using z); rw [how] at hv; cases hv) (fun z => by obtain rfl : d4 = ow := (by simpa using z); rw [how4] at hd4; cases hd4) nto
   ·have ec : cols kv4 b1 y1 m1.toNat = _ := ZK3 hstp hW.2.1 hWV (fun x z hc => hV.cols x z ((g1 x z).mp hc).1) g2
    rw [List.drop_length, ZFP, ec, ← ZD8 g1]
    exact K57 _ _ f5 (fun z => by rw [z, how4] at n5; cases n5)
   ·refine ((((FrL.kp K1 (by simp)).trans (F4.mono ?_)).trans (FrL.same S5)).trans (F57.mono (by simp)))
    simp +contextual
  ·refine .inr ⟨v, u, b, y, mm, b1, y1, m1, rfl, ?_, hst, hin, fun H4 S4 => ?_⟩
   ·obtain ⟨dx, q0, g1, g2, _⟩ := hV1
    exact ⟨dx, _, q0, _, _, _, g1, g2⟩
   walk_at "w"
   refine ZKU T.u_OutOfTimes_OutOfTimes (YJ ?_)
   refine ZMT fun ee H5 n5 f5 S5 => ?_
   have S15 := S4.trans S5
   have hu5 := S15 _ _ hu1
   have hqq5 := S15 _ _ hqq
   have hf : (decide (-1099511627776 ≤ b1) && decide (b1 + y1 * m1 ≤ 1099511627776)) = false := by
    rw [Bool.eq_false_iff]
    intro z
    rw [Bool.and_eq_true, decide_eq_true_iff, decide_eq_true_iff] at z
    exact hin z
   walk_at "w"
   refine Z1 ?_
   walk_at "w"
   refine Z1 ?_
   walk_at "w"
   refine ⟨qq, b1, y1, m1, rfl, hqq5, hmul, ?_⟩
   rw [hf]
   walk_at "w"
   refine ⟨rfl, ?_⟩
   rw [decide_eq_true rfl]
   exact kk d l H5 (.inl rfl) (.inl rfl) (P1.same S15) (hS1.same S15) ((hVS1.same S15).mono (by omega)) ((FrL.kp K1 (by simp)).trans (FrL.same S15))
end
def NB (S : SA) (x y z p l : Addr) : Prop := l ≠ x ∧ l ≠ y ∧ l ≠ z ∧ l ≠ p ∧ l ∉ S.ls
def JV (a : Ad) (H : Hp) (S : SA) (md dl p v0 o0 v1 o1 : Addr) (R : List (Addr × List V)) (sm m : List (Int × Int)) (ds : List (Int × Option Int)) (ts t0 t1 : List Int) (N i : Nat) : Prop :=
 LS a H S md dl sm m ds ts N ∧ (∃ d0 l0 d1 l1, VS a H S v0 o0 d0 l0 sm ts t0 i ∧ VS a H S v1 o1 d1 l1 sm ts t1 i ∧ d0 ≠ d1 ∧ NB S o0 o1 dl p l0 ∧ NB S o0 o1 dl p l1) ∧ ∀ r ∈ R, H r.1 = some (.lst r.2) ∧ NB S o0 o1 dl p r.1
structure Ar (S : SA) (md dl v0 o0 v1 o1 : Addr) : Prop where
 vv : v0 ≠ v1
 oo : o0 ≠ o1
 d0 : o0 ≠ dl
 d1 : o1 ≠ dl
 s0 : o0 ∉ S.ls
 s1 : o1 ∉ S.ls
 ds : dl ∉ S.ls
 ms : md ≠ S.d1
structure Ap (S : SA) (dl p o0 o1 : Addr) : Prop where
 s : p ∉ S.ls
 d : p ≠ dl
 o0 : p ≠ o0
 o1 : p ≠ o1
theorem Ar.swap {S : SA} {md dl v0 o0 v1 o1 : Addr} (h : Ar S md dl v0 o0 v1 o1) : Ar S md dl v1 o1 v0 o0 := ⟨h.vv.symm, h.oo.symm, h.d1, h.d0, h.s1, h.s0, h.ds, h.ms⟩
theorem Ap.swap {S : SA} {dl p o0 o1 : Addr} (h : Ap S dl p o0 o1) : Ap S dl p o1 o0 := ⟨h.s, h.d, h.o1, h.o0⟩
theorem NB.swap {S : SA} {x y z p l : Addr} (h : NB S x y z p l) : NB S y x z p l := ⟨h.2.1, h.1, h.2.2⟩
theorem VS.what {a : Ad} {H : Hp} {S : SA} {v o d l : Addr} {sm : List (Int × Int)} {ts tl : List Int} {i : Nat} (h : VS a H S v o d l sm ts tl i) : (∃ C dx fs, H v = some (.ins C dx fs)) ∧ (∃ kv, H d = some (.dT kv)) ∧ (∃ xs, H o = some (.lst xs)) ∧ (∃ xs, H l = some (.lst xs)) ∧ v ∉ S.p :: S.own ∧ d ∉ S.p :: S.own := by
 obtain ⟨b, y, m, k, kvs, e, q, ⟨dx, q0, g1, g2, g3, g4, g5, g6⟩, h2, h3, h4, h5, h6, h7⟩ := h
 exact ⟨⟨_, _, _, g1⟩, ⟨_, g3⟩, ⟨_, h2⟩, ⟨_, h5⟩, g5, g6⟩
section
variable {a : Ad} {H H' : Hp} {S : SA} {md dl v0 o0 v1 o1 p : Addr} {R : List (Addr × List V)} {sm m : List (Int × Int)} {ds : List (Int × Option Int)} {ts t0 t1 : List Int} {N i : Nat}
theorem JV.swap (h : JV a H S md dl p v0 o0 v1 o1 R sm m ds ts t0 t1 N i) : JV a H S md dl p v1 o1 v0 o0 R sm m ds ts t1 t0 N i := by
 obtain ⟨h1, ⟨d0, l0, d1, l1, g0, g1, g2, g3, g4⟩, h3⟩ := h
 exact ⟨h1, ⟨d1, l1, d0, l0, g1, g0, g2.symm, g4.swap, g3.swap⟩, fun r hr => ⟨(h3 r hr).1, (h3 r hr).2.swap⟩⟩
theorem JV.mono {M j : Nat} (h : JV a H S md dl p v0 o0 v1 o1 R sm m ds ts t0 t1 N i) (l1 : N ≤ M) (l2 : i ≤ j) : JV a H S md dl p v0 o0 v1 o1 R sm m ds ts t0 t1 M j := by
 obtain ⟨⟨n, c, dvs, q1, q2, q3, q4, q5⟩, ⟨d0, l0, d1, lx1, g0, g1, g2⟩, h3⟩ := h
 exact ⟨⟨n, c, dvs, q1, q2, q3, q4, ⟨q5.eqv, q5.nd, q5.hb, q5.un, Nat.le_trans q5.c l1, Nat.le_trans q5.t l1, Nat.le_trans q5.m l1, Nat.le_trans q5.d l1⟩⟩, ⟨d0, l0, d1, lx1, g0.mono l2, g1.mono l2, g2⟩, h3⟩
theorem JV.same (h : JV a H S md dl p v0 o0 v1 o1 R sm m ds ts t0 t1 N i) (s : ZK H H') : JV a H' S md dl p v0 o0 v1 o1 R sm m ds ts t0 t1 N i := by
 obtain ⟨h1, ⟨d0, l0, d1, l1, g0, g1, g2⟩, h3⟩ := h
 exact ⟨h1.same s, ⟨d0, l0, d1, l1, g0.same s, g1.same s, g2⟩, fun r hr => ⟨s _ _ (h3 r hr).1, (h3 r hr).2⟩⟩
theorem JV.newp' {q : Addr} (h : JV a H S md dl p v0 o0 v1 o1 R sm m ds ts t0 t1 N i) (n : ∀ xs, H q ≠ some (.lst xs)) : JV a H S md dl q v0 o0 v1 o1 R sm m ds ts t0 t1 N i ∧ Ap S dl q o0 o1 := by
 obtain ⟨h1, ⟨d0, l0, d1, l1, g0, g1, g2, g3, g4⟩, h3⟩ := h
 obtain ⟨_, _, ⟨_, a3⟩, ⟨_, a4⟩, _⟩ := g0.what
 obtain ⟨_, _, ⟨_, b3⟩, ⟨_, b4⟩, _⟩ := g1.what
 obtain ⟨nn, c, dvs, q1, q2, q3, q4, q5⟩ := id h1
 obtain ⟨_, _, _, _, s3, _, s5, s6, _⟩ := id q1
 have ne : ∀ {e : Addr} {xs : List V}, H e = some (.lst xs) → e ≠ q := fun g z => n _ (z ▸ g)
 refine ⟨⟨h1, ⟨d0, l0, d1, l1, g0, g1, g2, ⟨g3.1, g3.2.1, g3.2.2.1, ne a4, g3.2.2.2.2⟩, ⟨g4.1, g4.2.1, g4.2.2.1, ne b4, g4.2.2.2.2⟩⟩, fun r hr => ⟨(h3 r hr).1, (h3 r hr).2.1, (h3 r hr).2.2.1, (h3 r hr).2.2.2.1, ne (h3 r hr).1, (h3 r hr).2.2.2.2.2⟩⟩, fun z => ?_, (ne q3).symm, (ne a3).symm, (ne b3).symm⟩
 simp only [SA.ls, List.mem_cons, List.not_mem_nil, or_false] at z
 rcases z with z | z | z
 ·exact ne s3 z.symm
 ·exact ne s5 z.symm
 ·exact ne s6 z.symm
theorem JV.newp {q : Addr} (h : JV a H S md dl p v0 o0 v1 o1 R sm m ds ts t0 t1 N i) (n : H q = none) : JV a H S md dl q v0 o0 v1 o1 R sm m ds ts t0 t1 N i ∧ Ap S dl q o0 o1 := h.newp' fun xs z => by rw [n] at z; cases z
theorem JV.pot (h : JV a H S md dl p v0 o0 v1 o1 R sm m ds ts t0 t1 N i) (A : Ap S dl p o0 o1) (hp : Pot H p) (k : Kp p H H') : JV a H' S md dl p v0 o0 v1 o1 R sm m ds ts t0 t1 N i := by
 obtain ⟨h1, ⟨d0, l0, d1, l1, g0, g1, g2, g3, g4⟩, h3⟩ := h
 have nt : ∀ b ∈ [p], ∀ ys, H b ≠ some (.tup ys) := fun b hb ys z => by
  obtain rfl : b = p := (by simpa using hb)
  exact hp.noTup _ z
 have f : FrL [p] H H' := FrL.kp k (by simp)
 obtain ⟨⟨_, _, _, a1⟩, ⟨_, a2⟩, ⟨_, a3⟩, ⟨_, a4⟩, _⟩ := g0.what
 obtain ⟨⟨_, _, _, b1⟩, ⟨_, b2⟩, ⟨_, b3⟩, ⟨_, b4⟩, _⟩ := g1.what
 refine ⟨h1.pot hp k A.s A.d, ⟨d0, l0, d1, l1, g0.frL f ?_ ?_ (by simpa using A.o0.symm) (by simpa using g3.2.2.2.1) nt, g1.frL f ?_ ?_ (by simpa using A.o1.symm) (by simpa using g4.2.2.2.1) nt, g2, g3, g4⟩, fun r hr => ⟨k _ _ (h3 r hr).1 (h3 r hr).2.2.2.2.1, (h3 r hr).2⟩⟩
 all_goals
  obtain ⟨x1, x2, e, _⟩ := hp
  intro z
  rw [List.mem_singleton] at z
 ·rw [z, e] at a1; cases a1
 ·rw [z, e] at a2; cases a2
 ·rw [z, e] at b1; cases b1
 ·rw [z, e] at b2; cases b2
theorem JV.view {n n' : Int} {c : Nat} {dvs : List V} {d0 l0 d1 l1 d' l' : Addr} {L : List Addr} (A : Ar S md dl v0 o0 v1 o1) (hS : ZH a H S n sm c ds ts []) (hm : H md = some (.dK (Zj m))) (hd : H dl = some (.lst dvs)) (hD : Zx H dvs ds) (hL : LM sm m c ds ts N) (g0 : VS a H S v0 o0 d0 l0 sm ts t0 i) (g1 : VS a H S v1 o1 d1 l1 sm ts t1 i) (hdd : d0 ≠ d1) (nb0 : NB S o0 o1 dl p l0) (nb : NB S o0 o1 dl p l1) (h3 : ∀ r ∈ R, H r.1 = some (.lst r.2) ∧ NB S o0 o1 dl p r.1)
  (Ap : Ap S dl p o0 o1) (nd : d' = d0 ∨ H d' = none) (nl : l' = l0 ∨ ((∀ xs, H l' ≠ some (.lst xs)) ∧ l' ≠ p)) (hS' : ZH a H' S n' sm c ds ts []) {t0' : List Int} (g' : VS a H' S v0 o0 d' l' sm ts t0' (i + 12)) (F : FrL L H H') (hLL : ∀ b ∈ L, (b = p ∧ Pot H p) ∨ b = v0 ∨ b = d0 ∨ b = S.tr ∨ b = o0) : JV a H' S md dl p v0 o0 v1 o1 R sm m ds ts t0' t1 N (i + 12) := by
 obtain ⟨⟨_, _, _, a1⟩, ⟨_, a2⟩, ⟨_, a3⟩, ⟨_, a4⟩, a5, a6⟩ := g0.what
 obtain ⟨⟨_, _, _, b1⟩, ⟨_, b2⟩, ⟨_, b3⟩, ⟨_, b4⟩, b5, b6⟩ := g1.what
 obtain ⟨_, _, s0, ⟨_, _, s1, _⟩, s3, _, s5, s6, _⟩ := id hS
 have nt : ∀ b ∈ L, ∀ xs, H b ≠ some (.tup xs) := fun b z xs g => by
  rcases hLL b z with ⟨z, _, _, pe, _⟩ | z | z | z | z
  ·rw [z, pe] at g; cases g
  ·rw [z, a1] at g; cases g
  ·rw [z, a2] at g; cases g
  ·rw [z, s1] at g; cases g
  ·rw [z, a3] at g; cases g
 have kt : ∀ b xs, H b = some (.tup xs) → H' b = some (.tup xs) := fun b xs g => F _ _ g fun z => nt b z xs g
 have kl : ∀ {e : Addr} {xs : List V}, H e = some (.lst xs) → e ≠ o0 → e ≠ p → H' e = some (.lst xs) := fun {e xs} g ne np => F _ _ g fun z => by
  rcases hLL _ z with ⟨z, _, _, pe, _⟩ | z | z | z | z
  ·exact np z
  ·rw [z, a1] at g; cases g
  ·rw [z, a2] at g; cases g
  ·rw [z, s1] at g; cases g
  ·exact ne z
 have hdd' : d' ≠ d1 := fun z => by
  rcases nd with h | h
  ·exact hdd (h.symm.trans z)
  ·rw [z, b2] at h; cases h
 have nb' : NB S o0 o1 dl p l' := by
  rcases nl with h | ⟨h, hlp⟩
  ·rw [h]; exact nb0
  ·refine ⟨fun z => ?_, fun z => ?_, fun z => ?_, fun z => ?_, fun z => ?_⟩
   ·rw [z] at h; exact h _ a3
   ·rw [z] at h; exact h _ b3
   ·rw [z] at h; exact h _ hd
   ·exact hlp z
   ·simp only [SA.ls, List.mem_cons, List.not_mem_nil, or_false] at z
    rcases z with z | z | z
    ·rw [z] at h; exact h _ s3
    ·rw [z] at h; exact h _ s5
    ·rw [z] at h; exact h _ s6
 refine ⟨⟨n', c, dvs, hS', F _ _ hm fun z => ?_, kl hd A.d0.symm Ap.d.symm, hD.tups kt, hL⟩, ⟨d', l', d1, l1, g', (g1.frL F (fun z => ?_) (fun z => ?_) (fun z => ?_) (fun z => ?_) nt).mono (by omega), hdd', nb', nb⟩, fun r hr => ⟨kl (h3 r hr).1 (h3 r hr).2.1 (h3 r hr).2.2.2.2.1, (h3 r hr).2⟩⟩
 ·rcases hLL _ z with ⟨z, _, _, pe, _⟩ | z | z | z | z
  ·rw [z, pe] at hm; cases hm
  ·rw [z, a1] at hm; cases hm
  ·rw [z, a2] at hm; cases hm
  ·rw [z, s1] at hm; cases hm
  ·rw [z, a3] at hm; cases hm
 ·rcases hLL _ z with ⟨z, _, _, pe, _⟩ | z | z | z | z
  ·rw [z, pe] at b1; cases b1
  ·exact A.vv z.symm
  ·rw [z, a2] at b1; cases b1
  ·exact b5 (by simp [SA.own, z])
  ·rw [z, a3] at b1; cases b1
 ·rcases hLL _ z with ⟨z, _, _, pe, _⟩ | z | z | z | z
  ·rw [z, pe] at b2; cases b2
  ·rw [z, a1] at b2; cases b2
  ·exact hdd z.symm
  ·exact b6 (by simp [SA.own, z])
  ·rw [z, a3] at b2; cases b2
 ·rcases hLL _ z with ⟨z, _, _, pe, _⟩ | z | z | z | z
  ·exact Ap.o1 z.symm
  ·rw [z, a1] at b3; cases b3
  ·rw [z, a2] at b3; cases b3
  ·rw [z, s1] at b3; cases b3
  ·exact A.oo z.symm
 ·rcases hLL _ z with ⟨z, _, _, pe, _⟩ | z | z | z | z
  ·exact nb.2.2.2.1 z
  ·rw [z, a1] at b4; cases b4
  ·rw [z, a2] at b4; cases b4
  ·rw [z, s1] at b4; cases b4
  ·exact nb.1 z
theorem JV.asks {Q : VK} {E : XK} (h : JV a H S md dl p v0 o0 v1 o1 R sm m ds ts ts ts N i) (A : Ar S md dl v0 o0 v1 o1) (Ap : Ap S dl p o0 o1) (hp : Pot H p) (hN : N ≤ 60) (hi : i ≤ 9000)
  (k : ∀ H', JV a H' S md dl p v0 o0 v1 o1 R sm m ds ts ts ts N (i + 12) → Pot H' p → Q (.bl true) H') : ZE0 a [.ref v0, .ref o0, .ref md] H Q E := by
 obtain ⟨⟨n, c, dvs, hS, hm, hd, hD, hL⟩, ⟨d0, l0, d1, l1, g0, g1, hdd, nb0, nb1⟩, h3⟩ := h
 refine ⟨S, v0, o0, md, d0, l0, n, sm, m, c, ds, ts, i, rfl, hS, g0, by omega, by have := hL.t; omega, nb0.1, A.s0, hm, hL.eqv, hL.nd, by have := hL.m; omega, hL.hb, fun n' l' H' nl hS' g' F => ?_⟩
 refine k H' (JV.view A hS hm hd hD hL g0 g1 hdd nb0 nb1 h3 Ap (.inl rfl) (.inr ⟨(fun xs z => by rw [nl] at z; cases z), fun z => by obtain ⟨_, _, e, _⟩ := hp; rw [z, e] at nl; cases nl⟩) hS' g' F fun b hb => by simp only [List.mem_cons, List.not_mem_nil, or_false] at hb; rcases hb with z | z | z | z <;> simp [z]) ?_
 obtain ⟨x1, x2, e, r⟩ := hp
 refine ⟨x1, x2, F _ _ e fun z => ?_, r⟩
 obtain ⟨⟨_, _, _, a1⟩, ⟨_, a2⟩, _⟩ := g0.what
 obtain ⟨_, _, _, ⟨_, _, s1, _⟩, _⟩ := id hS
 simp only [List.mem_cons, List.not_mem_nil, or_false] at z
 rcases z with z | z | z | z
 ·rw [z, a1] at e; cases e
 ·rw [z, a2] at e; cases e
 ·rw [z, s1] at e; cases e
 ·exact Ap.o0 z
theorem JV.moves {Q : VK} {E : XK} (h : JV a H S md dl p v0 o0 v1 o1 R sm m ds ts ts ts N i) (A : Ar S md dl v0 o0 v1 o1) (Ap : Ap S dl p o0 o1) (hp : Pot H p) (hN : N ≤ 60)
  (k : ∀ H', JV a H' S md dl p v0 o0 v1 o1 R sm m ds ts ts ts N (i + 12) → Pot H' p → Q (.bl true) H') : ZHO a [.ref p, .ref v0, .ref o0] H Q E := by
 obtain ⟨⟨n, c, dvs, hS, hm, hd, hD, hL⟩, ⟨d0, l0, d1, l1, g0, g1, hdd, nb0, nb1⟩, h3⟩ := h
 refine ⟨S, p, v0, o0, d0, l0, n, sm, c, ds, ts, i, rfl, hp, hS, g0, by have := hL.t; omega, nb0.1, Ap.o0, nb0.2.2.2.1.symm, Ap.s, A.s0, fun d' l' H' nd nl P' hS' g' F => ?_⟩
 exact k H' (JV.view A hS hm hd hD hL g0 g1 hdd nb0 nb1 h3 Ap nd (nl.imp id fun h => ⟨h, fun z => by obtain ⟨_, _, e, _⟩ := hp; rw [z] at h; exact h _ e⟩) hS' g' F fun b hb => by simp only [List.mem_cons, List.not_mem_nil, or_false] at hb; rcases hb with z | z | z | z <;> simp [z, hp]) P'
theorem VS.done {v o d l : Addr} (g : VS a H S v o d l sm ts ts i) {n : Int} {c : Nat} (hS : ZH a H S n sm c ds ts []) (hp : Pot H p) (hm : H md = some (.dK (Zj m))) (n1 : p ≠ o) (n2 : p ≠ l) (h1 : o ≠ dl) (h2 : l ≠ dl) (h3 : o ∉ S.ls) (h4 : l ∉ S.ls) {dvs : List V} (hd : H dl = some (.lst dvs)) (F : FrL (p :: md :: dl :: S.own) H H') (t : Int) (w : Option Int) : VS a H' S v o d l (Z7 sm t w) (ts ++ [t]) ts i := by
 obtain ⟨⟨_, _, _, a1⟩, ⟨_, a2⟩, ⟨_, a3⟩, ⟨_, a4⟩, a5, a6⟩ := g.what
 obtain ⟨x1, x2, pe, _⟩ := id hp
 refine (g.deed hS.nd t w).frL F ?_ ?_ ?_ ?_ ?_
 ·intro z
  simp only [List.mem_cons] at z
  rcases z with z | z | z | z
  ·rw [z, pe] at a1; cases a1
  ·rw [z, hm] at a1; cases a1
  ·rw [z, hd] at a1; cases a1
  ·exact a5 (List.mem_cons_of_mem _ z)
 ·intro z
  simp only [List.mem_cons] at z
  rcases z with z | z | z | z
  ·rw [z, pe] at a2; cases a2
  ·rw [z, hm] at a2; cases a2
  ·rw [z, hd] at a2; cases a2
  ·exact a6 (List.mem_cons_of_mem _ z)
 ·intro z
  simp only [List.mem_cons] at z
  rcases z with z | z | z | z
  ·exact n1 z.symm
  ·rw [z, hm] at a3; cases a3
  ·exact h1 z
  ·exact hS.nown a3 (fun _ _ _ z => by cases z) (fun ⟨_, z⟩ => by cases z) (fun _ z => by cases z) (fun _ => h3) z
 ·intro z
  simp only [List.mem_cons] at z
  rcases z with z | z | z | z
  ·exact n2 z.symm
  ·rw [z, hm] at a4; cases a4
  ·exact h2 z
  ·exact hS.nown a4 (fun _ _ _ z => by cases z) (fun ⟨_, z⟩ => by cases z) (fun _ z => by cases z) (fun _ => h4) z
 ·intro b z xs e
  simp only [List.mem_cons] at z
  rcases z with z | z | z | z
  ·rw [z, pe] at e; cases e
  ·rw [z, hm] at e; cases e
  ·rw [z, hd] at e; cases e
  ·exact hS.noTup b z xs e
theorem JV.deeds {Q : VK} {E : XK} {q : Addr} (h : JV a H S md dl p v0 o0 v1 o1 R sm m ds ts ts ts N i) (A : Ar S md dl v0 o0 v1 o1) (Ap : Ap S dl p o0 o1) (hp : Pot H p) (hN : N ≤ 60) {b y mm : Int} (hW : Yl H q b y mm)
  (k1 : ∀ H', JV a H' S md dl p v0 o0 v1 o1 R sm m ds ts ts ts N i → Pot H' p → Q .non H') (k2 : ∀ t o m' ds' H', JV a H' S md dl p v0 o0 v1 o1 R (Z7 sm t o) m' ds' (ts ++ [t]) ts ts (N + 1) i → Pot H' p → Q (.int t) H') : ZK5 a [.ref p, .ref S.p, .ref md, .ref dl, .ref q] H Q E := by
 obtain ⟨hLS, ⟨d0, l0, d1, l1, g0, g1, hdd, nb0, nb1⟩, h3⟩ := id h
 obtain ⟨n, c, dvs, hS, hm, hd, hD, hL⟩ := id hLS
 refine ⟨p, md, dl, q, S, b, y, mm, sm, m, ds, ts, N, rfl, hp, Ap.s, Ap.d, A.ms, A.ds, hW, hLS, hN, fun H' P' hL' K' => k1 H' (h.pot Ap hp K') P', fun t o m' ds' H' hL' P' F => ?_⟩
 refine k2 t o m' ds' H' ⟨hL', ⟨d0, l0, d1, l1, g0.done hS hp hm Ap.o0 nb0.2.2.2.1.symm A.d0 nb0.2.2.1 A.s0 nb0.2.2.2.2 hd F t o, g1.done hS hp hm Ap.o1 nb1.2.2.2.1.symm A.d1 nb1.2.2.1 A.s1 nb1.2.2.2.2 hd F t o, hdd, nb0, nb1⟩, fun r hr => ⟨F _ _ (h3 r hr).1 fun z => ?_, (h3 r hr).2⟩⟩ P'
 obtain ⟨e, r1, r2, r3, r4, r5⟩ := h3 r hr
 simp only [List.mem_cons] at z
 rcases z with z | z | z | z
 ·exact r4 z
 ·rw [z, hm] at e; cases e
 ·exact r3 z
 ·exact hS.nown e (fun _ _ _ z => by cases z) (fun ⟨_, z⟩ => by cases z) (fun _ z => by cases z) (fun _ => r5) z
end
def ZCY (b y m t : Int) : V := if 0 ≤ (t - b) / y ∧ (t - b) / y < m then .int ((t - b) / y) else .non
def ZRk : Sp := fun vs H Q _ => ∃ (p : Addr) (b y m t : Int), vs = [.ref p, .int t] ∧ H p = some (.tup [.int b, .int y, .int m]) ∧ 0 < y ∧ y < 2 ^ 250 ∧ Q (ZCY b y m t) H
theorem ZPs {b y m t : Int} {j : Nat} (hy : 0 < y) (hj : (j : Int) < m) : decide (V.int (j : Int) = ZCY b y m t) = (decide (b + (j : Int) * y ≤ t) && decide (t < b + (j : Int) * y + y)) := by
 rw [Bool.eq_iff_iff, Bool.and_eq_true, decide_eq_true_iff, decide_eq_true_iff, decide_eq_true_iff]
 unfold ZCY
 constructor
 ·intro h
  split at h
  ·injection h with h
   have := ZKx (b := b) (t := t) hy
   rw [← h] at this
   exact this
  ·cases h
 ·rintro ⟨h1, h2⟩
  have := col_of (b := b) (m := m) (x := b + (j : Int) * y) (z := b + (j : Int) * y + y) hy ⟨(j : Int), by omega, hj, rfl, rfl⟩ h1 h2
  rw [if_pos ⟨this.1, this.2.1⟩]
  congr 1
  have e := this.2.2.1
  have : (j : Int) * y = (t - b) / y * y := by omega
  exact Int.eq_of_mul_eq_mul_right (by omega) this
section
variable {P : Program} {w : World} {K : PySem.W.Frag} {mg : Str → Option Value} {base : Heap} {a : Ad}
theorem ZDa : ZP ["_law_window_here", "_law_t", "_law_k"] ["_law_window_here", "_law_t"] (ZF ZCS) := ⟨rfl, rfl, rfl, by decide +kernel, rfl, by decide +kernel, by decide +kernel⟩
theorem ZHn (T : Txt K mg a) : ZQ P w K mg base CX0 1 a.f_l_column a.d_l_column ["_law_window_here", "_law_t"] ZRk := by
 refine T.F_l_column.ok ZDa (fun vs H Q E h => ?_) (fun cdv A outer s H vs Q E hr h => ?_)
 ·obtain ⟨p, b, y, m, t, rfl, _⟩ := h
  rfl
 ·obtain ⟨p, b, y, m, t, rfl, hT, hy, hy2, q⟩ := h
  refine ⟨_, QB.h (ZD (ZM (i := 2) ZDa.nd rfl (by walk_at "o") (ZL JZ (ZL Yi (qv 1) (ZU (Zd K rfl) (qv 0) ZC)) (ZU (Zd K rfl) (qv 0) ZC))) (ZE (ZZ (ZB8 (ZB9 ZAn ZDA ZC (qv 2) (ZU (Zd K rfl) (qv 0) ZC)) (qv 2) YN)))), ?_⟩
  walk_at "s"
  walk_at "w"
  refine Zu (fun h1 => ?_) (fun h1 => ?_)
  ·walk_at "w"
   refine Zu (fun h2 => ?_) (fun h2 => ?_)
   ·walk_at "w"
    unfold ZCY at q
    rw [if_pos ⟨h1, h2⟩] at q
    exact q
   ·walk_at "w"
    unfold ZCY at q
    rw [if_neg (fun z => h2 z.2)] at q
    exact q
  ·walk_at "w"
   refine Z1 ?_
   walk_at "w"
   unfold ZCY at q
   rw [if_neg (fun z => h1 z.1)] at q
   exact q
end
theorem ZJP (f : Nat → Bool) {ks : List Nat} {i : Nat} (h : i < ks.length) : (ks.take (i + 1)).filter f = (ks.take i).filter f ++ (if f ks[i] = true then [ks[i]] else []) := by
 rw [List.take_succ, List.getElem?_eq_getElem h, List.filter_append]
 congr 1
 simp only [Option.toList]
 cases hf : f ks[i] <;> simp [List.filter, hf]
theorem VS.look {a : Ad} {H H' : Hp} {S : SA} {v o d l q l' : Addr} {sm : List (Int × Int)} {ts tl tl' : List Int} {i : Nat} {b y m k : Int} {kvs : List (List Key × V)} {e : Nat} (hV : Z6 a H S v d b y m k kvs e sm ts) (hW : Yl H q b y m) (hm : m ≤ 12) (hk : kvs.length ≤ i) (he : e ≤ tl'.length) (h1 : H' o = some (.lst [.ref q, .ref l', .int k])) (h2 : H' l' = some (.lst (YQ (Yo kvs (tl'.drop e) b y m.toNat)))) (F : FrL [o] H H') (nv : v ≠ o) (nd : d ≠ o) (nt : ∀ xs, H o ≠ some (.tup xs)) : VS a H' S v o d l' sm ts tl' i :=
 ⟨b, y, m, k, kvs, e, q, hV.frL F (by simpa using nv) (by simpa using nd) (fun b hb xs => by obtain rfl : b = o := (by simpa using hb); exact nt xs), h1, ⟨F _ _ hW.1 fun z => by obtain rfl : q = o := (by simpa using z); exact nt _ hW.1, hW.2⟩, hm, h2, he, hk⟩
theorem JV.ends {a : Ad} {H : Hp} {S : SA} {md dl p v0 o0 v1 o1 : Addr} {R : List (Addr × List V)} {sm m : List (Int × Int)} {ds : List (Int × Option Int)} {ts : List Int} {N i : Nat} {Q : VK} {E : XK} (h : JV a H S md dl p v0 o0 v1 o1 R sm m ds ts ts ts N i) (A : Ar S md dl v0 o0 v1 o1) (hN : N ≤ 60) (hi : i ≤ 9000)
  (k : ∀ p' H', JV a H' S md dl p' v0 o0 v1 o1 R sm m ds ts ts ts N (i + 12) → Q (.bl true) H') : ZE0 a [.ref v0, .ref o0, .ref md] H Q E := by
 obtain ⟨⟨_, _, _, hS0, _⟩, _⟩ := id h
 obtain ⟨_, _, hsp, _⟩ := id hS0
 obtain ⟨h, Ap⟩ := h.newp' (q := S.p) fun xs z => by rw [hsp] at z; cases z
 obtain ⟨⟨n, c, dvs, hS, hm, hd, hD, hL⟩, ⟨d0, l0, d1, l1, g0, g1, hdd, nb0, nb1⟩, h3⟩ := h
 refine ⟨S, v0, o0, md, d0, l0, n, sm, m, c, ds, ts, i, rfl, hS, g0, by omega, by have := hL.t; omega, nb0.1, A.s0, hm, hL.eqv, hL.nd, by have := hL.m; omega, hL.hb, fun n' l' H' nl hS' g' F => ?_⟩
 exact k S.p H' (JV.view A hS hm hd hD hL g0 g1 hdd nb0 nb1 h3 Ap (.inl rfl) (.inr ⟨(fun xs z => by rw [nl] at z; cases z), fun z => by rw [z, hsp] at nl; cases nl⟩) hS' g' F fun b hb => by simp only [List.mem_cons, List.not_mem_nil, or_false] at hb; rcases hb with z | z | z | z <;> simp [z])
def ZFx (K : PySem.W.Frag) : Sp := fun vs H Q _ => ∃ (s : Addr) (ns : List Int), vs = [.ref s] ∧ SqL K H s (ns.map V.int) ∧ ns.length ≤ 63 ∧ ∀ H', Q (.bl true) H'
section
variable {P : Program} {w : World} {K : PySem.W.Frag} {mg : Str → Option Value} {base : Heap} {a : Ad}
theorem Yq : ZP ["_law_script", "_law_pot_here", "_law_window_here", "_law_made", "_law_other", "_law_store", "_law_views", "_law_own", "_law_done", "_law_number", "_law_at", "_law_t", "_law_one", "_law_way"] ["_law_script"] (ZF JW) := ⟨rfl, rfl, rfl, by decide +kernel, rfl, by decide +kernel, by decide +kernel⟩
theorem ZRl (T : Txt K mg a) : ZQ P w K mg base CX0 9 a.f_law a.d_law ["_law_script"] (ZFx K) := by
 refine T.F_law.ok Yq (fun vs H Q E h => ?_) (fun cdv A outer s H vs Q E hr h => ?_)
 ·obtain ⟨s, ns, rfl, _⟩ := h
  rfl
 ·obtain ⟨s, ns, rfl, hS, hn, k⟩ := h
  have hu := JE hr
  have hu64 := hr.units
  refine ⟨_, QB.h (ZD (ZM (i := 1) Yq.nd rfl (by walk_at "o") (ZG (ZHL T) (hr.mono (by decide)) rfl T.m_l_pot T.F_l_pot.kp T.b_l_pot .nil ZJ (ZA (ZG (ZFK T) (hr.mono (by decide)) rfl T.m_l_cell T.F_l_cell.kp T.b_l_cell .nil ZJ (ZA (qv 0) (ZA ZC ZB))) ZB))) (ZD (ZM (i := 2) Yq.nd rfl (by walk_at "o") (ZG (ZHl T) (hr.mono (by decide)) rfl T.m_l_window T.F_l_window.kp T.b_l_window .nil ZJ (ZA (qv 1) ZB))) (ZD (ZM (i := 3) Yq.nd rfl (by walk_at "o") (ZG (ZJH T) (hr.mono (by decide)) rfl T.m_l_curve T.F_l_curve.kp T.b_l_curve .nil ZJ (ZA (qv 1) (ZA (qv 2) ZB)))) (ZD (ZM (i := 4) Yq.nd rfl (by walk_at "o") (ZU (Zd K rfl) (ZG (ZFN T) (hr.mono (by decide)) rfl T.m_l_step T.F_l_step.kp T.b_l_step .nil ZJ (ZA (qv 1) (ZA (qv 2) ZB))) ZC)) (ZD (Zk (JO (Y3 (ZG (ZBj T) (hr.mono (by decide)) rfl T.m_l_within T.F_l_within.kp T.b_l_within .nil ZJ (ZA (qv 4) ZB)))) (ZE (ZM (i := 4) Yq.nd rfl (by walk_at "o") (qv 2))) Zi) (ZD (ZM (i := 5) Yq.nd rfl (by walk_at "o") (ZDH T.Mk_Store (ZDN T) hr rfl T.m_Store T.b_Store___init__ .nil ZJ (ZA (Ji (ZAN K rfl) rfl T.z_tuple ZAI (ZA (Jj (N := ["_law_script", "_law_pot_here", "_law_window_here", "_law_made", "_law_other", "_law_store", "_law_views", "_law_own", "_law_done", "_law_number", "_law_at", "_law_t", "_law_one", "_law_way"]) (sc := ZF JW) (own := ["_law_t"]) (caps := ["_law_made"]) (ks := [3]) rfl rfl rfl ⟨rfl, by decide +kernel, by decide +kernel, by decide +kernel, by decide +kernel, rfl, by decide +kernel⟩ (Y4 K rfl (Zo (ZEM rfl) rfl T.z_sorted ZBJ (ZA (qv 3) ZB))) (fun _ _ _ _ _ => ZO (i := 0) (show List.Nodup (α := Str) ["_law_t", "_law_made"] from by decide +kernel) rfl (by walk_at "o") (.inr rfl)) (fun _ _ _ _ _ => ZAM) (fun _ _ _ _ _ => Zg (ZA (qv 0) (ZA (ZAP hu (qv 1) (qv 0)) ZB)))) ZB)) ZB))) (ZD (ZM (i := 6) Yq.nd rfl (by walk_at "o") (Yd (ZA (ZDH T.Mk_View (ZBG T) (hr.mono (by decide)) rfl T.m_View T.b_View___init__ .nil ZJ (ZA (qv 5) (ZA (qv 2) ZB))) (ZA (ZDH T.Mk_View (ZBG T) (hr.mono (by decide)) rfl T.m_View T.b_View___init__ .nil ZJ (ZA (qv 5) (ZA (qv 4) ZB))) ZB)))) (ZD (ZM (i := 7) Yq.nd rfl (by walk_at "o") (Yd (ZA (Yd (ZA (qv 2) (ZA (Yd ZB) (ZA ZC ZB)))) (ZA (Yd (ZA (qv 4) (ZA (Yd ZB) (ZA ZC ZB)))) ZB)))) (ZD (ZM (i := 8) Yq.nd rfl (by walk_at "o") (Yd ZB)) (ZD (JP PassesOwn.never rfl (Y4 K rfl (ZL ZQY (Yd (ZA (ZG (ZFK T) (hr.mono (by decide)) rfl T.m_l_cell T.F_l_cell.kp T.b_l_cell .nil ZJ (ZA (qv 0) (ZA ZC ZB))) ZB)) (ZGF (ZOi K rfl) (qv 0) (ZEj ZC) (ZEj ZC)))) (ZO (i := 9) Yq.nd rfl (by walk_at "o")) (ZD (ZM (i := 1) Yq.nd rfl (by walk_at "o") (ZG (ZHL T) (hr.mono (by decide)) rfl T.m_l_pot T.F_l_pot.kp T.b_l_pot .nil ZJ (ZA (qv 9) ZB))) (ZD (ZM (i := 10) Yq.nd rfl (by walk_at "o") (ZG (Zt T) (hr.mono (by decide)) rfl T.m_l_draw T.F_l_draw.kp T.b_l_draw .nil ZJ (ZA (qv 1) (ZA ZC ZB)))) (ZD (Zk (ZW (YG) (ZG (Zt T) (hr.mono (by decide)) rfl T.m_l_draw T.F_l_draw.kp T.b_l_draw .nil ZJ (ZA (qv 1) (ZA ZC ZB))) ZC (Zb _)) (ZE (Zk (JO (Y3 (ZG (ZJO T) hr rfl T.m_l_moved T.F_l_moved.kp T.b_l_moved .nil ZJ (ZA (qv 1) (ZA (ZU (Zm K rfl) (qv 6) (qv 10)) (ZA (ZU (Zm K rfl) (qv 7) (qv 10)) ZB)))))) (ZE (ZZ ZB6)) Zi)) (ZD (ZM (i := 11) Yq.nd rfl (by walk_at "o") (ZG (ZK6 T) hr rfl T.m_l_deed T.F_l_deed.kp T.b_l_deed .nil ZJ (ZA (qv 1) (ZA (qv 5) (ZA (qv 3) (ZA (qv 8) (ZA (ZU (Zm K rfl) (ZU (Zm K rfl) (qv 7) (qv 10)) ZC) ZB))))))) (ZE (JP PassesOwn.never rfl (Y4 K rfl (qv 7)) (ZO (i := 12) Yq.nd rfl (by walk_at "o")) (ZE (ZPN (Jj (N := ["_law_script", "_law_pot_here", "_law_window_here", "_law_made", "_law_other", "_law_store", "_law_views", "_law_own", "_law_done", "_law_number", "_law_at", "_law_t", "_law_one", "_law_way"]) (sc := ZF JW) (own := ["_law_k"]) (caps := ["_law_t", "_law_one"]) (ks := [11, 12]) rfl rfl rfl ⟨rfl, by decide +kernel, by decide +kernel, by decide +kernel, by decide +kernel, rfl, by decide +kernel⟩ (Y4 K rfl (ZU (Zm K rfl) (qv 12) ZC)) (fun _ _ _ _ _ => ZO (i := 0) (show List.Nodup (α := Str) ["_law_k", "_law_t", "_law_one"] from by decide +kernel) rfl (by walk_at "o") (.inr rfl)) (fun _ _ _ _ _ => ZDi (QW.pt (ZDE (ZW (ZBm) (qv 1) YN (Zb _)) (ZBp (ZW (ZRt) (qv 0) (ZG (ZHn T) (hr.mono (by decide)) rfl T.m_l_column T.F_l_column.kp T.b_l_column .nil ZJ (ZA (ZU (Zm K rfl) (qv 2) ZC) (ZA (qv 1) ZB))) (Zb _)))))) (fun _ _ _ _ _ => qv 0)) (ZBq (qv 12) ZC Jt))))))) (ZD (ZM (i := 13) Yq.nd rfl (by walk_at "o") (ZG (Zt T) (hr.mono (by decide)) rfl T.m_l_draw T.F_l_draw.kp T.b_l_draw .nil ZJ (ZA (qv 1) (ZA ZC ZB)))) (ZD (Zk (QW.pt (Jn (ZW (ZD9) (qv 13) ZC (Zb _)) (JR (JO (Y3 (ZG (ZAv T) hr rfl T.m_l_asked T.F_l_asked.kp T.b_l_asked .nil ZJ (ZA (ZU (Zm K rfl) (qv 6) (qv 10)) (ZA (ZU (Zm K rfl) (qv 7) (qv 10)) (ZA (qv 3) ZB))))))))) (ZE (ZZ ZB6)) Zi) (ZE (Zk (QW.pt (Jn (ZW (YG) (qv 13) ZC (Zb _)) (JR (JO (Y3 (ZG (ZAv T) hr rfl T.m_l_asked T.F_l_asked.kp T.b_l_asked .nil ZJ (ZA (ZU (Zm K rfl) (qv 6) (ZL Yi ZC (qv 10))) (ZA (ZU (Zm K rfl) (qv 7) (ZL Yi ZC (qv 10))) (ZA (qv 3) ZB))))))))) (ZE (ZZ ZB6)) Zi)))))))) (ZE (ZZ (ZCl (ZG (ZAv T) hr rfl T.m_l_asked T.F_l_asked.kp T.b_l_asked .nil ZJ (ZA (ZU (Zm K rfl) (qv 6) ZC) (ZA (ZU (Zm K rfl) (qv 7) ZC) (ZA (qv 3) ZB)))) (ZCk (ZG (ZAv T) hr rfl T.m_l_asked T.F_l_asked.kp T.b_l_asked .nil ZJ (ZA (ZU (Zm K rfl) (qv 6) ZC) (ZA (ZU (Zm K rfl) (qv 7) ZC) (ZA (qv 3) ZB)))))))))))))))))), ?_⟩
  walk_at "s"
  walk_at "w"
  refine ⟨s, ns, 0, rfl, hS, by decide, ?_⟩
  walk_at "w"
  refine ⟨_, rfl, fun p H1 n1 P1 S1 => ?_⟩
  walk_at "w"
  refine ⟨p, rfl, P1, fun q b y m H2 hW hm P2 K2 => ?_⟩
  walk_at "w"
  refine ⟨p, q, b, y, m, rfl, P2, hW, fun d ps H3 n3 f3 hnd hpl hps P3 K3 => ?_⟩
  have np : ∀ {e : Addr} {o : HO}, H e = some o → e ≠ p := fun g => ZY g n1
  have ntp2 : ∀ {H : Hp} {e : Addr} {xs : List V}, Pot H p → H e = some (.tup xs) → e ≠ p := fun hp g z => by
   obtain ⟨x1, x2, e, _⟩ := hp
   rw [z, e] at g; cases g
  have hW3 : Yl H3 q b y m := ⟨K3 _ _ hW.1 (ntp2 P2 hW.1), hW.2⟩
  have ndp : d ≠ p := fun z => by
   obtain ⟨x1, x2, e, _⟩ := P3
   rw [z, e] at f3; cases f3
  walk_at "w"
  refine ⟨p, q, b, y, m, rfl, P3, hW3, fun u b1 y1 m1 H3b hst P3b K3b => ?_⟩
  have K13 : Kp p H1 H3b := (K2.trans K3).trans K3b
  have S03 : ZK H H3b := fun e o g => K13 _ _ (S1 _ _ g) (np g)
  have hW3b : Yl H3b q b y m := ⟨K3b _ _ hW3.1 (ntp2 P3 hW3.1), hW.2⟩
  have f3b := K3b _ _ f3 ndp
  obtain ⟨nm, cc, qq, hu1, hqq, hstp⟩ := id hst
  have hy2 := JJ hW
  have hb1 : 0 < y1 ∧ y1 ≤ 4398046511104 ∧ 1 ≤ m1 ∧ m1 ≤ 12 := by
   have h1 := hW.2.1
   have h2 := hW.2.2.1
   rcases hstp with ⟨_, _, h, h'⟩ | ⟨_, g, _, h, h'⟩ | ⟨_, g1, g2, _, h, h'⟩ | ⟨_, _, _, _, h, h'⟩ <;> omega
  have hmul : IntMulOk y1 m1 := ZCn (m := 50) (n := 50) (by unfold Bn; omega) (by unfold Bn; omega) (by decide)
  repeat walk_at "ri"
  refine J8 (fun σ' H' => (∃ q2 b2 y2 m2, σ' = [some (.ref s), some (.ref p), some (.ref q), some (.ref d), some (.ref q2), none, none, none, none, none, none, none, none, none] ∧ Yl H3b q2 b2 y2 m2 ∧ m2 ≤ 12) ∧ H3b = H') ?_ ?_
  rotate_left
  ·intro D' _ hD'
   walk_at "w"
   refine ⟨qq, b1, y1, m1, rfl, hqq, hmul, ?_⟩
   by_cases hin : -1099511627776 ≤ b1 ∧ b1 + y1 * m1 ≤ 1099511627776
   ·rw [decide_eq_true hin.1, decide_eq_true hin.2]
    have hz : 0 ≤ y1 * m1 := Int.mul_nonneg (by omega) (by omega)
    have hWV : ZBi b1 y1 m1 := ⟨by omega, by omega, by omega, ⟨by omega, by omega⟩, by rw [Int.mul_comm]; exact ⟨by omega, by omega⟩⟩
    walk_at "w"
    refine Z1 ?_
    walk_at "w"
    exact hD' _ _ ⟨⟨qq, b1, y1, m1, rfl, ⟨hqq, hWV⟩, hb1.2.2.2⟩, rfl⟩
   ·have hf : (decide (-1099511627776 ≤ b1) && decide (b1 + y1 * m1 ≤ 1099511627776)) = false := by
     rw [Bool.eq_false_iff]
     intro z
     rw [Bool.and_eq_true, decide_eq_true_iff, decide_eq_true_iff] at z
     exact hin z
    rw [hf]
    walk_at "w"
    refine YJ ?_
    walk_at "w"
    exact hD' _ _ ⟨⟨q, b, y, m, rfl, hW3b, by omega⟩, rfl⟩
  rintro σ' H' ⟨⟨q2, b2, y2, m2, rfl, hW2, hm2⟩, rfl⟩
  walk_at "w"
  refine ZEN f3b (by omega) fun l4 H4 is n4 f4 hp hs S4 => ?_
  have hnl : is.length = ps.length := by have := hp.length_eq; simpa using this
  walk_at "w"
  intro l5 n5
  refine Jh is.length (fun i σ' H' => (∃ o, σ' = [o, some (.ref d)]) ∧ ZK H4 H' ∧ ∃ vs, H' l5 = some (.lst vs) ∧ ZI H' vs ((Yf ps is).take i)) ?_ ?_ ?_
  ·exact ⟨⟨none, rfl⟩, ZK.new n5, [], ZS, .nil⟩
  ·rintro σ H' ⟨_, s5, vs, f5, hPc⟩
   refine ⟨⟨_, SqL.of (s5 _ _ f4), by simp⟩, ?_⟩
   walk_at "w"
   refine ZAx (SqL.of f5) fun t H6 n6 f6 S6 => ?_
   have ecv : (Yf ps is).take is.length = Yf ps is := List.take_of_length_le (by simp [Yf])
   rw [ecv] at hPc
   have hT6 : PrT H6 t (Yf ps is) := ⟨vs, f6, hPc.same S6⟩
   have S36 := (S4.trans s5).trans S6
   have hcv := ZIp hnd hp hs
   walk_at "w"
   refine ZDI fun x7 dx7 H7 n7 f7 S7 => ?_
   have hcl : (Yf ps is).length ≤ 24 := by unfold Yf; rw [List.length_map, hnl]; exact hpl
   have htm : ∀ r ∈ Yf ps is, Tm r.1 := fun r hr => (hps r ((YA hnd).mp ((hcv.2 r.1 r.2).mp hr))).1
   refine ⟨x7, dx7, .ref t, _, rfl, f7, .inr ⟨t, rfl, hT6.same S7⟩, ZKb hcv.1, htm, by omega, fun S sm H8 hSp hfr8 hS8 hm8 hl8 K8 => ⟨rfl, ?_⟩⟩
   subst hSp
   have hE : Eqv sm ps := fun r => (hm8 r).trans ((hcv.2 r.1 r.2).trans (YA hnd))
   have S68 : ZK H6 H8 := fun e o g => K8 _ _ (S7 _ _ g) (ZY g n7)
   have S38 : ZK H3b H8 := S36.trans S68
   walk_at "w"
   refine ZDI fun v0 dv0 H9 n9 f9 S9 => ?_
   have av0 : v0 ∉ S.p :: S.own := hS8.apart (l := [v0]) (fun b hb => by obtain rfl : b = v0 := (by simpa using hb); exact n9) v0 (by simp)
   refine ⟨S, v0, dv0, q, b, y, m, 0, sm, _, [], [], [], rfl, f9, hS8.same S9, ⟨S9 _ _ (S38 _ _ hW3b.1), hW.2⟩, av0, fun d0 H10 n10 hV10 hS10 K10 => ⟨rfl, ?_⟩⟩
   have S810 : ZK H8 H10 := fun e o g => K10 _ _ (S9 _ _ g) (ZY g n9)
   have S310 := S38.trans S810
   walk_at "w"
   refine ZDI fun v1 dv1 H11 n11 f11 S11 => ?_
   have av1 : v1 ∉ S.p :: S.own := hS10.apart (l := [v1]) (fun b hb => by obtain rfl : b = v1 := (by simpa using hb); exact n11) v1 (by simp)
   refine ⟨S, v1, dv1, q2, b2, y2, m2, 0, sm, _, [], [], [], rfl, f11, hS10.same S11, ⟨S11 _ _ (S310 _ _ hW2.1), hW2.2⟩, av1, fun d1 H12 n12 hV12 hS12 K12 => ⟨rfl, ?_⟩⟩
   have S1012 : ZK H10 H12 := fun e o g => K12 _ _ (S11 _ _ g) (ZY g n11)
   have hV0 := hV10.same S1012
   obtain ⟨dxa, qa, va, _, da, _⟩ := id hV10
   have nvv : v0 ≠ v1 := ZY va n11
   have ndd : d0 ≠ d1 := fun z => by rw [← z, S11 _ _ da] at n12; cases n12
   have S312 := S310.trans S1012
   walk_at "w"
   refine ZR (by show 2 ≤ sizeLine; decide) fun lv H13 n13 f13 S13 => ?_
   walk_at "w"
   refine ZR (by show 0 ≤ sizeLine; decide) fun l0 H14 n14 f14 S14 => ?_
   walk_at "w"
   refine ZR (by show 3 ≤ sizeLine; decide) fun o0 H15 n15 f15 S15 => ?_
   walk_at "w"
   refine ZR (by show 0 ≤ sizeLine; decide) fun l1 H16 n16 f16 S16 => ?_
   walk_at "w"
   refine ZR (by show 3 ≤ sizeLine; decide) fun o1 H17 n17 f17 S17 => ?_
   walk_at "w"
   refine ZR (by show 2 ≤ sizeLine; decide) fun lo H18 n18 f18 S18 => ?_
   walk_at "w"
   refine ZR (by show 0 ≤ sizeLine; decide) fun dl H19 n19 f19 S19 => ?_
   have hsS : SqL K H12 s (ns.map V.int) := (S03.trans S312).seq hS
   have S1219 := S13.trans (S14.trans (S15.trans (S16.trans (S17.trans (S18.trans S19)))))
   walk_at "w"
   refine ⟨s, ns, _, rfl, S1219.seq hsS, by decide, ?_⟩
   walk_at "w"
   refine ZR (by show 1 ≤ sizeLine; decide) fun l20 H20 n20 f20 S20 => ?_
   walk_at "w"
   refine ZJy (S20.seq (S1219.seq hsS)) fun l21 H21 n21 f21 S21 => ?_
   have hcl2 := ZBX (ns.map V.int) (some 2) (some 30)
   have hcl3 : (JT (ns.map V.int) (some 2) (some 30)).length ≤ 28 := by
    unfold JT
    rw [List.length_take]
    have e1 : HT.sIx (ns.map V.int).length (ns.map V.int).length (some (30 : Int)) ≤ 30 := by
     rw [show (30 : Int) = ((30 : Nat) : Int) from rfl, HT.sIx_nat]; exact Nat.min_le_left _ _
    have e2 : min 2 (ns.map V.int).length = HT.sIx (ns.map V.int).length 0 (some (2 : Int)) := by
     rw [show (2 : Int) = ((2 : Nat) : Int) from rfl, HT.sIx_nat]
    by_cases h2 : 2 ≤ (ns.map V.int).length
    ·rw [Nat.min_eq_left h2] at e2
     omega
    ·refine Nat.le_trans (Nat.min_le_right _ _) ?_
     rw [List.length_drop]
     omega
   rw [List.length_map] at hcl2
   refine ZQz (S21 _ _ f20) f21 (by show 1 + _ ≤ _; exact Nat.le_trans (show _ ≤ 100 by omega) (by decide)) fun ln H22 n22 f22 S22 => ?_
   generalize hxs : [V.int (ns.getD (Int.toNat 1) 0)] ++ JT (ns.map V.int) (some 2) (some 30) = xs at f22
   have hxl : xs.length ≤ 29 := by rw [← hxs, List.length_append]; simp only [List.length_cons, List.length_nil]; omega
   have hint : ∀ x ∈ xs, ∃ c : Int, x = .int c := by
    intro x hx
    rw [← hxs] at hx
    rcases List.mem_append.mp hx with hx | hx
    ·exact ⟨_, List.mem_singleton.mp hx⟩
    ·have : x ∈ ns.map V.int := List.mem_of_mem_drop (List.mem_of_mem_take hx)
     obtain ⟨c, _, rfl⟩ := List.mem_map.mp this
     exact ⟨c, rfl⟩
   have S1922 := S20.trans (S21.trans S22)
   have S1222 := S1219.trans S1922
   have S1522 : ZK H15 H22 := S16.trans (S17.trans (S18.trans (S19.trans S1922)))
   have S1722 : ZK H17 H22 := S18.trans (S19.trans S1922)
   have S1822 : ZK H18 H22 := S19.trans S1922
   -- the places
   have lsn : ∀ {H' : Hp} {e : Addr}, ZK H12 H' → H' e = none → e ∉ S.ls := fun s g => (hS12.same s |>.fresh g).1
   have sa : ZK H12 H13 := S13
   have sb := sa.trans S14
   have sc := sb.trans S15
   have sd := sc.trans S16
   have se := sd.trans S17
   have sf := se.trans S18
   have ne : ∀ {H' : Hp} {e f : Addr} {o : HO}, H' e = some o → H' f = none → e ≠ f := fun g g' => ZY g g'
   have o0o1 : o0 ≠ o1 := ne (S16 _ _ f15) n17
   have o0dl : o0 ≠ dl := ne (S18 _ _ (S17 _ _ (S16 _ _ f15))) n19
   have o1dl : o1 ≠ dl := ne (S18 _ _ f17) n19
   have A : Ar S d dl v0 o0 v1 o1 := ⟨nvv, o0o1, o0dl, o1dl, lsn sb n15, lsn sd n17, lsn sf n19, fun z => by
    have := hfr8 S.d1 (by simp [SA.own])
    rw [← z, S7 _ _ (S36 _ _ f3b)] at this; cases this⟩
   have hp22 : ∀ {e : Addr} {xs : List V}, H22 e = some (.lst xs) → e ≠ S.p := fun g z => by
    obtain ⟨_, _, g', _⟩ := hS12.same S1222
    rw [z, g'] at g; cases g
   have nb0 : NB S o0 o1 dl S.p l0 := ⟨ne f14 n15, ne (S16 _ _ (S15 _ _ f14)) n17, ne (S18 _ _ (S17 _ _ (S16 _ _ (S15 _ _ f14)))) n19, hp22 (S1522 _ _ (S15 _ _ f14)), lsn sa n14⟩
   have nb1 : NB S o0 o1 dl S.p l1 := ⟨(ne f15 n16).symm, ne f16 n17, ne (S18 _ _ (S17 _ _ f16)) n19, hp22 (S1722 _ _ (S17 _ _ f16)), lsn sc n16⟩
   have flv : H22 lv = _ := (S14.trans (S15.trans (S16.trans (S17.trans (S18.trans (S19.trans S1922)))))) _ _ f13
   have flo : H22 lo = _ := S1822 _ _ f18
   have hR : ∀ r ∈ [(lv, [V.ref v0, .ref v1]), (lo, [V.ref o0, .ref o1]), (ln, xs)], H22 r.1 = some (.lst r.2) ∧ NB S o0 o1 dl S.p r.1 := by
    intro e he
    simp only [List.mem_cons, List.not_mem_nil, or_false] at he
    rcases he with rfl | rfl | rfl
    ·exact ⟨flv, ne (S14 _ _ f13) n15, ne (S16 _ _ (S15 _ _ (S14 _ _ f13))) n17, ne (S18 _ _ (S17 _ _ (S16 _ _ (S15 _ _ (S14 _ _ f13))))) n19, hp22 flv, lsn (ZK.refl _) n13⟩
    ·exact ⟨flo, (ne (S17 _ _ (S16 _ _ f15)) n18).symm, (ne f17 n18).symm, ne f18 n19, hp22 flo, lsn se n18⟩
    ·have g0 := S21 _ _ (S20 _ _ (S19 _ _ (S18 _ _ (S17 _ _ (S16 _ _ f15)))))
     have g1 := S21 _ _ (S20 _ _ (S19 _ _ (S18 _ _ f17)))
     have g2 := S21 _ _ (S20 _ _ f19)
     exact ⟨f22, (ne g0 n22).symm, (ne g1 n22).symm, (ne g2 n22).symm, hp22 f22, lsn (S1219.trans (S20.trans S21)) n22⟩
   have ecol : ∀ b y (N : Nat), Yo [] (([] : List Int).drop 0) b y N = [] := fun b y N => by
    unfold Yo
    rw [List.filter_eq_nil_iff]
    intro j _
    simp [has, ZLy]
   have hLM : LM sm ps (Yf ps is).length [] [] 24 := ⟨hE, hnd, hps, .nil, hcl, Nat.zero_le _, hpl, Nat.zero_le _⟩
   have hJ22 : JV a H22 S d dl S.p v0 o0 v1 o1 [(lv, [V.ref v0, .ref v1]), (lo, [V.ref o0, .ref o1]), (ln, xs)] sm ps [] [] [] [] 24 12 := by
    refine ⟨⟨0, _, [], hS12.same S1222, S1222 _ _ (S312 _ _ f3b), S1922 _ _ f19, .nil, hLM⟩, ⟨d0, l0, d1, l1, ⟨b, y, m, 0, [], 0, q, hV0.same S1222, S1522 _ _ f15, ⟨S1222 _ _ (S312 _ _ hW3b.1), hW.2⟩, by omega, ?_, Nat.le_refl _, Nat.zero_le _⟩, ⟨b2, y2, m2, 0, [], 0, q2, hV12.same S1222, S1722 _ _ f17, ⟨S1222 _ _ (S312 _ _ hW2.1), hW2.2⟩, hm2, ?_, Nat.le_refl _, Nat.zero_le _⟩, ndd, nb0, nb1⟩, hR⟩
    ·rw [ecol]; exact S1522 _ _ (S15 _ _ f14)
    ·rw [ecol]; exact S1722 _ _ (S17 _ _ f16)
   clear f13 f14 f15 f16 f17 f18 f19 flv flo f20 f21 hV10 hV12 hV0 hS8 hS10 hS12 f11 f9 f7 f6 f5 f4
   generalize hRR : [(lv, [V.ref v0, .ref v1]), (lo, [V.ref o0, .ref o1]), (ln, xs)] = R at hJ22
   have mlv : (lv, [V.ref v0, .ref v1]) ∈ R := by rw [← hRR]; simp
   have mlo : (lo, [V.ref o0, .ref o1]) ∈ R := by rw [← hRR]; simp
   have mln : (ln, xs) ∈ R := by rw [← hRR]; simp
   refine ZJ0 (SqL.of f22) ?_
   refine ZBo (xs := xs) (fun i σ H' => ∃ w1 w2 w4 w9 w10 w11 w12 w13, σ = [some (.ref s), w1, w2, some (.ref d), w4, some (.ref S.p), some (.ref lv), some (.ref lo), some (.ref dl), w9, w10, w11, w12, w13] ∧ ∃ p sm m ds ts, JV a H' S d dl p v0 o0 v1 o1 R sm m ds ts ts ts (24 + i) (72 * i + 12)) ⟨_, _, _, _, _, _, _, _, rfl, _, _, _, _, _, hJ22⟩ ?_ ?_ ?_
   ·rintro i σ H' _ ⟨_, _, _, _, _, _, _, _, _, _, _, _, _, _, _, _, hr⟩
    exact SqL.of (hr _ mln).1
   ·rintro i x σ H23 hx ⟨w1, w2, w4, w9, w10, w11, w12, w13, rfl, p0, sm, m, ds, ts, hJ⟩
    obtain ⟨num, rfl⟩ := hint x (List.mem_of_getElem? hx)
    have hil : i < 29 := Nat.lt_of_lt_of_le (List.getElem?_eq_some_iff.mp hx).1 hxl
    walk_at "w"
    refine ⟨_, rfl, fun p H24 n24 P24 S24 => ?_⟩
    obtain ⟨hJn, hAp⟩ := hJ.newp n24
    have hJ24 := hJn.same S24
    clear hJ hJn
    walk_at "w"
    refine ⟨p, _, rfl, P24, by decide, by decide, fun at_ H25 h25 h25' P25 K25 => ?_⟩
    have hJ25 := hJ24.pot hAp P24 K25
    obtain ⟨va, oa, vb, ob, eva, eoa, evb, eob, Aa, Apa, hback, hto⟩ : ∃ va oa vb ob, atI [V.ref v0, .ref v1] at_ = some (.ref va) ∧ atI [V.ref o0, .ref o1] at_ = some (.ref oa) ∧ atI [V.ref v0, .ref v1] (1 - at_) = some (.ref vb) ∧ atI [V.ref o0, .ref o1] (1 - at_) = some (.ref ob) ∧ Ar S d dl va oa vb ob ∧ Ap S dl p oa ob ∧ (∀ {H' sm m ds tx ts N j}, JV a H' S d dl p va oa vb ob R sm m ds tx ts ts N j → JV a H' S d dl p v0 o0 v1 o1 R sm m ds tx ts ts N j) ∧ (∀ {H' sm m ds tx ts N j}, JV a H' S d dl p v0 o0 v1 o1 R sm m ds tx ts ts N j → JV a H' S d dl p va oa vb ob R sm m ds tx ts ts N j) := by
     have : at_ = 0 ∨ at_ = 1 := by omega
     rcases this with rfl | rfl
     ·exact ⟨v0, o0, v1, o1, rfl, rfl, rfl, rfl, A, hAp, fun h => h, fun h => h⟩
     ·exact ⟨v1, o1, v0, o0, rfl, rfl, rfl, rfl, A.swap, hAp.swap, fun h => h.swap, fun h => h.swap⟩
    repeat walk_at "ri"
    refine J8 (fun σ' H' => (∃ w11 w12, σ' = [some (.ref s), some (.ref p), w2, some (.ref d), w4, some (.ref S.p), some (.ref lv), some (.ref lo), some (.ref dl), some (.int num), some (.int at_), w11, w12, w13]) ∧ Pot H' p ∧ ∃ sm m ds ts, JV a H' S d dl p v0 o0 v1 o1 R sm m ds ts ts ts (24 + (i + 1)) (72 * i + 36)) ?_ ?_
    ·rintro σ' H27 ⟨⟨w11, w12, rfl⟩, P27, sm, m, ds, ts, hJ27⟩
     walk_at "w"
     refine ⟨p, _, rfl, P27, by decide, by decide, fun way H28 h28 h28' P28 K28 => ?_⟩
     have hJ28 := hto (hJ27.pot hAp P27 K28)
     have hlv8 := (hJ28.2.2 _ mlv).1
     have hlo8 := (hJ28.2.2 _ mlo).1
     clear hJ27
     repeat walk_at "ri"
     refine J8 (fun σ' H' => σ' = [some (.ref s), some (.ref p), w2, some (.ref d), w4, some (.ref S.p), some (.ref lv), some (.ref lo), some (.ref dl), some (.int num), some (.int at_), w11, w12, some (.int way)] ∧ Pot H' p ∧ JV a H' S d dl p va oa vb ob R sm m ds ts ts ts (24 + (i + 1)) (72 * i + 48)) ?_ ?_
     ·rintro σ' H29 ⟨rfl, P29, hJ29⟩
      have hlv9 := (hJ29.2.2 _ mlv).1
      have hlo9 := (hJ29.2.2 _ mlo).1
      walk_at "w"
      rw [Yr]
      refine Zu (fun c1 => ?_) (fun c1 => ?_)
      ·walk_at "w"
       refine JM (SqL.of hlv9) evb ?_
       walk_at "w"
       refine JM (SqL.of hlo9) eob ?_
       walk_at "w"
       refine JV.asks hJ29.swap Aa.swap Apa.swap P29 (by omega) (by omega) fun H30 hJ30 P30 => ?_
       walk_at "w"
       refine Z1 ?_
       walk_at "w"
       exact ⟨_, _, _, _, _, _, _, _, rfl, p, _, _, _, _, (hback hJ30.swap).mono (by omega) (by omega)⟩
      ·walk_at "w"
       exact ⟨_, _, _, _, _, _, _, _, rfl, p, _, _, _, _, (hback hJ29).mono (by omega) (by omega)⟩
     ·intro D' _ hD'
      walk_at "w"
      refine Zu (fun c1 => ?_) (fun c1 => ?_)
      ·walk_at "w"
       refine JM (SqL.of hlv8) eva ?_
       walk_at "w"
       refine JM (SqL.of hlo8) eoa ?_
       walk_at "w"
       refine JV.asks hJ28 Aa Apa P28 (by omega) (by omega) fun H30 hJ30 P30 => ?_
       walk_at "w"
       refine Z1 ?_
       walk_at "w"
       exact hD' _ _ ⟨rfl, P30, hJ30⟩
      ·walk_at "w"
       exact hD' _ _ ⟨rfl, P28, hJ28.mono (Nat.le_refl _) (by omega)⟩
    ·intro D' _ hD'
     walk_at "w"
     refine ⟨p, _, rfl, P25, by decide, by decide, fun w H26 h26 h26' P26 K26 => ?_⟩
     have hJ26 := hJ25.pot hAp P25 K26
     clear hJ24 hJ25
     have hlv := (hJ26.2.2 _ mlv).1
     have hlo := (hJ26.2.2 _ mlo).1
     walk_at "w"
     rw [Yr]
     refine Zu (fun c1 => ?_) (fun c1 => ?_)
     ·walk_at "w"
      refine JM (SqL.of hlv) eva ?_
      walk_at "w"
      refine JM (SqL.of hlo) eoa ?_
      walk_at "w"
      refine JV.moves (hto hJ26) Aa Apa P26 (by omega) fun H30 hJ30 P30 => ?_
      walk_at "w"
      refine Z1 ?_
      walk_at "w"
      exact hD' _ _ ⟨⟨_, _, rfl⟩, P30, _, _, _, _, (hback hJ30).mono (by omega) (by omega)⟩
     ·have hJa := hto hJ26
      obtain ⟨_, ⟨d0', l0', d1', l1', ⟨bw, yw, mw, kw, kvw, ew, qw, hVw, how, hWw, _⟩, _⟩, _⟩ := id hJa
      refine ZJw ?_
      refine J8 (fun σ' H' => ∃ (tv : V) (sm m : List (Int × Int)) (ds : List (Int × Option Int)) (ts ts' : List Int), σ' = [some (.ref s), some (.ref p), w2, some (.ref d), w4, some (.ref S.p), some (.ref lv), some (.ref lo), some (.ref dl), some (.int num), some (.int at_), some tv, w12, w13] ∧ ((tv = .non ∧ ts' = ts) ∨ ∃ t, tv = .int t ∧ ts' = ts ++ [t]) ∧ JV a H' S d dl p v0 o0 v1 o1 R sm m ds ts' ts ts (24 + (i + 1)) (72 * i + 12) ∧ Pot H' p) ?_ ?_
      rotate_left
      ·intro D2 _ hD2
       walk_at "w"
       refine JM (SqL.of hlo) eoa ?_
       walk_at "w"
       refine JV.deeds hJa Aa Apa P26 (by omega) hWw (fun H30 hJ30 P30 => ?_) (fun t o m' ds' H30 hJ30 P30 => ?_)
       ·walk_at "w"
        exact hD2 _ _ ⟨_, _, _, _, _, _, rfl, .inl ⟨rfl, rfl⟩, (hback hJ30).mono (by omega) (Nat.le_refl _), P30⟩
       ·walk_at "w"
        exact hD2 _ _ ⟨_, _, _, _, _, _, rfl, .inr ⟨t, rfl, rfl⟩, hback hJ30, P30⟩
      clear hJa hVw how hWw hlv hlo hJ26
      rintro σ' H30 ⟨tv, sm, m, ds, ts, ts', rfl, htv, hJ30, P30⟩
      have hlo3 := (hJ30.2.2 _ mlo).1
      walk_at "w"
      refine ZBo (xs := [V.ref o0, .ref o1]) (fun j σ H' => (∃ w12, σ = [some (.ref s), some (.ref p), w2, some (.ref d), w4, some (.ref S.p), some (.ref lv), some (.ref lo), some (.ref dl), some (.int num), some (.int at_), some tv, w12, w13]) ∧ JV a H' S d dl p v0 o0 v1 o1 R sm m ds ts' (if 1 ≤ j then ts' else ts) (if 2 ≤ j then ts' else ts) (24 + (i + 1)) (72 * i + 12 + 12 * j) ∧ Pot H' p) ⟨⟨_, rfl⟩, hJ30, P30⟩ ?_ ?_ ?_
      ·rintro j σ H' _ ⟨_, hJ, _⟩
       exact SqL.of (hJ.2.2 _ mlo).1
      ·rintro j x σ H31 hx ⟨⟨w12, rfl⟩, hJ31, P31⟩
       obtain ⟨va, oa, vb, ob, tb, rfl, Aa, Apa, hJa, hnext⟩ : ∃ va oa vb ob tb, x = V.ref oa ∧ Ar S d dl va oa vb ob ∧ Ap S dl p oa ob ∧ JV a H31 S d dl p va oa vb ob R sm m ds ts' ts tb (24 + (i + 1)) (72 * i + 12 + 12 * j) ∧ ∀ H', JV a H' S d dl p va oa vb ob R sm m ds ts' ts' tb (24 + (i + 1)) (72 * i + 12 + 12 * (j + 1)) → JV a H' S d dl p v0 o0 v1 o1 R sm m ds ts' (if 1 ≤ j + 1 then ts' else ts) (if 2 ≤ j + 1 then ts' else ts) (24 + (i + 1)) (72 * i + 12 + 12 * (j + 1)) := by
        match j, hx with
        | 0, hx => exact ⟨v0, o0, v1, o1, ts, by simpa using hx.symm, A, hAp, hJ31, fun H' h => h⟩
        | 1, hx => exact ⟨v1, o1, v0, o0, ts', by simpa using hx.symm, A.swap, hAp.swap, hJ31.swap, fun H' h => h.swap⟩
        | (j + 2), hx => simp at hx
       obtain ⟨hLS, ⟨da, la, db, lb, ga, gb, hdd, nba, nbb⟩, h3⟩ := id hJa
       obtain ⟨nS, cS, dvs, hSS, hmd, hdl, hD, hLM'⟩ := id hLS
       obtain ⟨bw, yw, mw, kw, kvw, ew, qw, hVw, how, hWw, hm12, hlw, hew, hkw⟩ := id ga
       have hy2w := JJ hWw
       have hqw := hWw.1
       generalize hks : Yo kvw (ts.drop ew) bw yw mw.toNat = ks at hlw
       have hkm : ∀ j ∈ ks, (j : Int) < mw := fun j hj => by rw [← hks] at hj; have := ZHN hj; have := hWw.2.2.1; omega
       have hkl : ks.length ≤ 12 := by rw [← hks]; exact Nat.le_trans (ZFQ _ _ _ _ _) (by have := hWw.2.2.1; omega)
       obtain ⟨f, hf1, hf2⟩ : ∃ f : Nat → Bool, (∀ j, (tv = .non → f j = true) ∧ ∀ t, tv = .int t → f j = !decide (V.int (j : Int) = ZCY bw yw mw t)) ∧ ks.filter f = Yo kvw (ts'.drop ew) bw yw mw.toNat := by
        rcases htv with ⟨rfl, rfl⟩ | ⟨t, rfl, rfl⟩
        ·refine ⟨fun _ => true, fun j => ⟨fun _ => rfl, fun t z => by cases z⟩, ?_⟩
         rw [hks, List.filter_eq_self]
         intro _ _; rfl
        ·refine ⟨fun j => !decide (V.int (j : Int) = ZCY bw yw mw t), fun j => ⟨fun z => (by cases z), fun t' z => by cases z; rfl⟩, ?_⟩
         rw [List.drop_append_of_le_length hew, ZJM, hks]
         apply List.filter_congr
         intro j hj
         rw [ZPs hWw.2.1 (hkm j hj)]
       have nlk : (YQ ks).length = ks.length := List.length_map _
       walk_at "w"
       intro l5 n5
       refine Jh ks.length (fun i' σ' H' => (∃ o, σ' = [o, some tv, some (.ref oa)]) ∧ ZK H31 H' ∧ H' l5 = some (.lst (YQ ((ks.take i').filter f)))) ?_ ?_ ?_
       ·exact ⟨⟨none, rfl⟩, ZK.new n5, ZS⟩
       ·rintro σ' H32 ⟨_, S32, f32⟩
        refine ⟨⟨_, SqL.of (S32 _ _ hlw), by rw [nlk]; exact Nat.le_refl _⟩, ?_⟩
        rw [List.take_length, hf2] at f32
        have how32 := S32 _ _ how
        walk_at "w"
        refine ZAK how32 (j := 1) rfl fun H33 f33 K33 => ?_
        have K33' : Kp oa H32 H33 := K33
        simp only [List.set_cons_succ, List.set_cons_zero] at f33
        have n5o : l5 ≠ oa := fun z => by rw [z, how] at n5; cases n5
        have F33 : FrL [oa] H31 H33 := (FrL.same S32).trans (FrL.kp K33' (by simp))
        obtain ⟨dxw, q0w, vw, _, dw, _⟩ := id hVw
        have nvo : va ≠ oa := fun z => by rw [z, how] at vw; cases vw
        have ndo : da ≠ oa := fun z => by rw [z, how] at dw; cases dw
        have noO : oa ∉ S.p :: S.own := fun z => by
         rcases List.mem_cons.mp z with z | z
         ·obtain ⟨_, _, g, _⟩ := id hSS
          rw [← z, how] at g; cases g
         ·exact hSS.nown how (fun _ _ _ z => by cases z) (fun ⟨_, z⟩ => by cases z) (fun _ z => by cases z) (fun _ => Aa.s0) z
        have nt : ∀ b ∈ [oa], ∀ xs, H31 b ≠ some (.tup xs) := fun b hb xs z => by
         obtain rfl : b = oa := (by simpa using hb)
         rw [how] at z; cases z
        have hew' : ew ≤ ts'.length := by
         rcases htv with ⟨_, rfl⟩ | ⟨t, _, rfl⟩
         ·exact hew
         ·rw [List.length_append]; omega
        have g' : VS a H33 S va oa da l5 sm ts' ts' (72 * i + 12 + 12 * j + 12) := (VS.look (l := la) (tl := ts) hVw hWw hm12 hkw hew' f33 (K33 _ _ f32 n5o) F33 nvo ndo (fun xs z => by rw [how] at z; cases z)).mono (by omega)
        have hSS3 := hSS.frL F33 (fun b hb => by obtain rfl : b = oa := (by simpa using hb); exact noO) nt
        have hJ33 := JV.view Aa hSS hmd hdl hD hLM' ga gb hdd nba nbb h3 Apa (.inl rfl) (.inr ⟨(fun xs z => by rw [n5] at z; cases z), fun z => by obtain ⟨_, _, e, _⟩ := P31; rw [z, e] at n5; cases n5⟩) hSS3 g' F33 (fun b hb => by obtain rfl : b = oa := (by simpa using hb); simp)
        walk_at "w"
        refine ⟨⟨_, rfl⟩, hnext H33 ?_, ?_⟩
        ·exact hJ33.mono (Nat.le_refl _) (by omega)
        ·obtain ⟨x1, x2, e, r⟩ := P31
         exact ⟨x1, x2, F33 _ _ e (by simpa using Apa.o0), r⟩
       ·rintro i' σ' H32 hi' ⟨⟨o, rfl⟩, S32, f32⟩
        have hi2 : i' < (YQ ks).length := by rw [nlk]; exact hi'
        refine ⟨⟨_, _, SqL.of (S32 _ _ hlw), List.getElem?_eq_getElem hi2⟩, ?_⟩
        rintro v H'' ⟨rfl, hv⟩
        have hv := hv _ (SqL.of (S32 _ _ hlw))
        have ev : v = .int (ks[i'] : Int) := by
         unfold YQ at hv
         rw [List.getElem?_map, List.getElem?_eq_getElem hi'] at hv
         simpa using hv.symm
        subst ev
        have e3 := ZJP f hi'
        have hfl : (YQ ((ks.take i').filter f)).length < sizeLine := by
         rw [show (YQ ((ks.take i').filter f)).length = ((ks.take i').filter f).length from List.length_map _]
         refine Nat.lt_of_le_of_lt (List.length_filter_le _ _) ?_
         rw [List.length_take]
         exact Nat.lt_of_le_of_lt (Nat.min_le_left _ _) (Nat.lt_of_lt_of_le (show i' < 64 by omega) (by decide))
        have keepIt : f ks[i'] = true → YQ ((ks.take (i' + 1)).filter f) = YQ ((ks.take i').filter f) ++ [.int (ks[i'] : Int)] := fun z => by
         rw [e3, if_pos z, ZD7]; rfl
        have dropIt : f ks[i'] = false → YQ ((ks.take (i' + 1)).filter f) = YQ ((ks.take i').filter f) := fun z => by
         rw [e3, if_neg (by rw [z]; decide), List.append_nil]
        rcases htv with ⟨rfl, rfl⟩ | ⟨t, rfl, rfl⟩
        ·have hft := (hf1 ks[i']).1 rfl
         walk_at "w"
         refine YJ ?_
         refine YJ ?_
         walk_at "w"
         refine ⟨_, f32, hfl, ⟨_, rfl⟩, S32.kpN n5 Kp.upd, ?_⟩
         rw [keepIt hft]; exact ZS
        ·have hft := (hf1 ks[i']).2 t rfl
         have how32 := S32 _ _ how
         walk_at "w"
         refine Z1 ?_
         walk_at "w"
         refine ⟨qw, bw, yw, mw, t, rfl, S32 _ _ hqw, hWw.2.1, Int.lt_of_le_of_lt hy2w (by decide), ?_⟩
         walk_at "w"
         refine ⟨by unfold ZCY; split <;> rfl, ?_⟩
         rw [← hft]
         cases hff : f ks[i'] with
         | true =>
          walk_at "w"
          refine YJ ?_
          walk_at "w"
          refine ⟨_, f32, hfl, ⟨_, rfl⟩, S32.kpN n5 Kp.upd, ?_⟩
          rw [keepIt hff]; exact ZS
         | false =>
          walk_at "w"
          refine Z1 ?_
          refine ⟨⟨_, rfl⟩, S32, ?_⟩
          rw [dropIt hff]; exact f32
      ·rintro σ H32 ⟨⟨w12, rfl⟩, hJ32, P32⟩
       walk_at "w"
       exact hD' _ _ ⟨⟨_, _, rfl⟩, P32, sm, m, ds, ts', hJ32.mono (Nat.le_refl _) (by show _ ≤ 72 * i + 36; simp)⟩
   ·rintro σ H23 ⟨w1, w2, w4, w9, w10, w11, w12, w13, rfl, p0, sm, m, ds, ts, hJ⟩
    have hlv := (hJ.2.2 _ mlv).1
    have hlo := (hJ.2.2 _ mlo).1
    walk_at "w"
    refine JV.ends hJ A (by omega) (by omega) fun p4 H24 hJ24 => ?_
    have hlv4 := (hJ24.2.2 _ mlv).1
    have hlo4 := (hJ24.2.2 _ mlo).1
    walk_at "w"
    refine YJ ?_
    walk_at "w"
    refine JV.ends hJ24.swap A.swap (by omega) (by omega) fun p5 H25 hJ25 => ?_
    walk_at "w"
    exact k _
  ·rintro i σ H' hi ⟨⟨o, rfl⟩, s5, vs, f5, hPc⟩
   have hi2 : i < (is.map V.int).length := by simpa using hi
   refine ⟨⟨_, _, SqL.of (s5 _ _ f4), List.getElem?_eq_getElem hi2⟩, ?_⟩
   rintro u H'' ⟨rfl, hu'⟩
   have hu' := hu' _ (SqL.of (s5 _ _ f4))
   have eu : u = .int is[i] := by
    rw [List.getElem?_map, List.getElem?_eq_getElem hi] at hu'
    simpa using hu'.symm
   subst eu
   walk_at "w"
   refine YJ ?_
   walk_at "w"
   have hmem : is[i] ∈ ps.map (·.1) := hp.mem_iff.mp (List.getElem_mem hi)
   obtain ⟨x, hx⟩ : ∃ x, Ze ps is[i] = some x := by
    cases hg : Ze ps is[i] with
    | none => exact absurd hmem (J6.mp hg)
    | some x => exact ⟨x, rfl⟩
   refine ZGU (s5 _ _ (S4 _ _ f3b)) hx ?_
   walk_at "w"
   refine ZR (by show 2 ≤ sizeLine; decide) fun t H4 n4 f4 S4 => ?_
   have f34 := S4 _ _ f5
   refine ⟨vs, f34, ?_, ⟨_, rfl⟩, ?_, ?_⟩
   ·rw [hPc.length, List.length_take]
    exact Nat.lt_of_le_of_lt (Nat.min_le_left _ _) (by show _ < 2 ^ 24; omega)
   ·exact (s5.trans S4).kpN (l := l5) n5 Kp.upd
   ·refine ⟨_, ZS, ?_⟩
    have e3 : (Yf ps is).take (i + 1) = (Yf ps is).take i ++ [(is[i], x)] := by
     rw [List.take_succ]
     congr 1
     simp [Yf, List.getElem?_eq_getElem hi, hx]
    rw [e3]
    exact ZI.kpL Kp.upd f34 ((hPc.same S4).snoc f4)
end
open PySem.W in
theorem all_mk {l : OpenLaw} {w : World} {K : Frag} {h : Heap} {mg : Str → Option Value} {fa : Addr} (X : K.In h) (G : h.Ns mainGlobals mg) (hfa : mg "law" = some (.ref fa))
 {C_Tree C_View C_Store C_NoColumn C_NotHalf C_OutOfTimes C_NoSample : Addr}
 {f0 f1 f2 f3 f4 f5 f6 f7 f8 f9 f10 f11 f12 f13 f14 f15 f16 f17 f18 f19 f20 f21 f22 f23 f24 f25 f26 f27 f28 f29 f30 f31 f32 f33 f34 f35 f36 f37 f38 f39 f40 f41 f42 f43 f44 f45 f46 f47 f48 f49 f50 f51 f52 f53 f54 f55 f56 f57 f58 f59 f60 f61 f62 f63 f64 f65 f66 : Addr} {d0 d1 d2 d3 d4 d5 d6 d7 d8 d9 d10 d11 d12 d13 d14 d15 d16 d17 d19 d20 d21 d22 d23 d24 d25 d26 d27 d28 d29 d30 d31 d32 d33 d35 d36 d37 d38 d39 d40 d41 d42 d43 d44 d45 d46 d47 d48 d49 d50 d51 d52 d53 d54 d55 d56 d57 d58 d59 d60 d61 d62 d63 d64 d65 : FuncData}
 {od18 an18 : Option Addr} {sl18 : Array (Option Value)} {oc18 kV18 dc18 pm18 cd18 ct18 : Value}
 {dt18 : Addr} {dod18 : Option Addr} {dsl18 : Array (Option Value)} {doc18 : Value} {dn18 : Nat}
 {od34 an34 : Option Addr} {sl34 : Array (Option Value)} {oc34 kV34 dc34 pm34 cd34 ct34 : Value}
 {dt34 : Addr} {dod34 : Option Addr} {dsl34 : Array (Option Value)} {doc34 : Value} {dn34 : Nat}
 {od66 an66 : Option Addr} {sl66 : Array (Option Value)} {oc66 kV66 dc66 pm66 cd66 ct66 : Value}
 {tk_TOP_LEVEL : Tok}
 {tk_TIMES_END : Tok}
 (e_NoColumn : ZI9 K "NoColumn" C_NoColumn)
 (e_NotHalf : ZI9 K "NotHalf" C_NotHalf)
 (e_OutOfTimes : ZI9 K "OutOfTimes" C_OutOfTimes)
 (e_NoSample : ZI9 K "NoSample" C_NoSample)
 (u_NoColumn_NoColumn : subIn K (.ref C_NoColumn) (.ref C_NoColumn) = some true) (k_NoColumn_NoColumn : kitOne K (.ref C_NoColumn) (.ref C_NoColumn) = some true)
 (u_NoColumn_NotHalf : subIn K (.ref C_NoColumn) (.ref C_NotHalf) = some false) (k_NoColumn_NotHalf : kitOne K (.ref C_NoColumn) (.ref C_NotHalf) = some false)
 (u_NoColumn_OutOfTimes : subIn K (.ref C_NoColumn) (.ref C_OutOfTimes) = some false) (k_NoColumn_OutOfTimes : kitOne K (.ref C_NoColumn) (.ref C_OutOfTimes) = some false)
 (u_NoColumn_NoSample : subIn K (.ref C_NoColumn) (.ref C_NoSample) = some false) (k_NoColumn_NoSample : kitOne K (.ref C_NoColumn) (.ref C_NoSample) = some false)
 (u_NotHalf_NoColumn : subIn K (.ref C_NotHalf) (.ref C_NoColumn) = some false) (k_NotHalf_NoColumn : kitOne K (.ref C_NotHalf) (.ref C_NoColumn) = some false)
 (u_NotHalf_NotHalf : subIn K (.ref C_NotHalf) (.ref C_NotHalf) = some true) (k_NotHalf_NotHalf : kitOne K (.ref C_NotHalf) (.ref C_NotHalf) = some true)
 (u_NotHalf_OutOfTimes : subIn K (.ref C_NotHalf) (.ref C_OutOfTimes) = some false) (k_NotHalf_OutOfTimes : kitOne K (.ref C_NotHalf) (.ref C_OutOfTimes) = some false)
 (u_NotHalf_NoSample : subIn K (.ref C_NotHalf) (.ref C_NoSample) = some false) (k_NotHalf_NoSample : kitOne K (.ref C_NotHalf) (.ref C_NoSample) = some false)
 (u_OutOfTimes_NoColumn : subIn K (.ref C_OutOfTimes) (.ref C_NoColumn) = some false) (k_OutOfTimes_NoColumn : kitOne K (.ref C_OutOfTimes) (.ref C_NoColumn) = some false)
 (u_OutOfTimes_NotHalf : subIn K (.ref C_OutOfTimes) (.ref C_NotHalf) = some false) (k_OutOfTimes_NotHalf : kitOne K (.ref C_OutOfTimes) (.ref C_NotHalf) = some false)
 (u_OutOfTimes_OutOfTimes : subIn K (.ref C_OutOfTimes) (.ref C_OutOfTimes) = some true) (k_OutOfTimes_OutOfTimes : kitOne K (.ref C_OutOfTimes) (.ref C_OutOfTimes) = some true)
 (u_OutOfTimes_NoSample : subIn K (.ref C_OutOfTimes) (.ref C_NoSample) = some false) (k_OutOfTimes_NoSample : kitOne K (.ref C_OutOfTimes) (.ref C_NoSample) = some false)
 (u_NoSample_NoColumn : subIn K (.ref C_NoSample) (.ref C_NoColumn) = some false) (k_NoSample_NoColumn : kitOne K (.ref C_NoSample) (.ref C_NoColumn) = some false)
 (u_NoSample_NotHalf : subIn K (.ref C_NoSample) (.ref C_NotHalf) = some false) (k_NoSample_NotHalf : kitOne K (.ref C_NoSample) (.ref C_NotHalf) = some false)
 (u_NoSample_OutOfTimes : subIn K (.ref C_NoSample) (.ref C_OutOfTimes) = some false) (k_NoSample_OutOfTimes : kitOne K (.ref C_NoSample) (.ref C_OutOfTimes) = some false)
 (u_NoSample_NoSample : subIn K (.ref C_NoSample) (.ref C_NoSample) = some true) (k_NoSample_NoSample : kitOne K (.ref C_NoSample) (.ref C_NoSample) = some true)
 (e_Tree : ZMn K "Tree" C_Tree)
 (na_Tree_looks : findIn K (.ref C_Tree) "looks" = some none)
 (na_Tree_samples : findIn K (.ref C_Tree) "samples" = some none)
 (na_Tree_kept_fours : findIn K (.ref C_Tree) "kept_fours" = some none)
 (e_View : ZMn K "View" C_View)
 (na_View_source : findIn K (.ref C_View) "source" = some none)
 (na_View_window : findIn K (.ref C_View) "window" = some none)
 (na_View_asked : findIn K (.ref C_View) "asked" = some none)
 (na_View_known : findIn K (.ref C_View) "known" = some none)
 (na_View_seen : findIn K (.ref C_View) "seen" = some none)
 (e_Store : ZMn K "Store" C_Store)
 (na_Store_tree : findIn K (.ref C_Store) "tree" = some none)
 (na_Store_deeds : findIn K (.ref C_Store) "deeds" = some none)
 (na_Store_done : findIn K (.ref C_Store) "done" = some none)
 (na_Store_watches : findIn K (.ref C_Store) "watches" = some none)
 (a0 : nsIn K mainGlobals "_wall" = some (some (.ref f0)))
 (F0 : Fun K "_wall" "_wall" ZIE f0 d0)
 (a1 : nsIn K mainGlobals "is_whole" = some (some (.ref f1)))
 (F1 : Fun K "is_whole" "is_whole" ZCJ f1 d1)
 (a2 : nsIn K mainGlobals "column_of" = some (some (.ref f2)))
 (F2 : Fun K "column_of" "column_of" ZBZ f2 d2)
 (a3 : nsIn K mainGlobals "times_of" = some (some (.ref f3)))
 (F3 : Fun K "times_of" "times_of" ZCK f3 d3)
 (a4 : nsIn K mainGlobals "columns_of" = some (some (.ref f4)))
 (F4 : Fun K "columns_of" "columns_of" J9 f4 d4)
 (a5 : nsIn K mainGlobals "moved" = some (some (.ref f5)))
 (F5 : Fun K "moved" "moved" ZEu f5 d5)
 (a6 : nsIn K mainGlobals "widened" = some (some (.ref f6)))
 (F6 : Fun K "widened" "widened" ZCs f6 d6)
 (a7 : nsIn K mainGlobals "narrowed" = some (some (.ref f7)))
 (F7 : Fun K "narrowed" "narrowed" ZCL f7 d7)
 (a8 : nsIn K mainGlobals "with_columns" = some (some (.ref f8)))
 (F8 : Fun K "with_columns" "with_columns" ZAQ f8 d8)
 (a9 : nsIn K mainGlobals "height_of" = some (some (.ref f9)))
 (F9 : Fun K "height_of" "height_of" ZBa f9 d9)
 (a10 : nsIn K mainGlobals "four_of" = some (some (.ref f10)))
 (F10 : Fun K "four_of" "four_of" ZCt f10 d10)
 (a11 : nsIn K mainGlobals "joined" = some (some (.ref f11)))
 (F11 : Fun K "joined" "joined" ZDv f11 d11)
 (a12 : nsIn K mainGlobals "is_border" = some (some (.ref f12)))
 (F12 : Fun K "is_border" "is_border" ZBb f12 d12)
 (a13 : nsIn K mainGlobals "check_borders" = some (some (.ref f13)))
 (F13 : Fun K "check_borders" "check_borders" ZAA f13 d13)
 (a14 : nsIn K mainGlobals "check_time" = some (some (.ref f14)))
 (F14 : Fun K "check_time" "check_time" ZA3 f14 d14)
 (a15 : nsIn K mainGlobals "check_window" = some (some (.ref f15)))
 (F15 : Fun K "check_window" "check_window" ZAR f15 d15)
 (a16 : nsIn K mainGlobals "stretches" = some (some (.ref f16)))
 (F16 : Fun K "stretches" "stretches" ZBc f16 d16)
 (a17 : nsIn K mainGlobals "longest" = some (some (.ref f17)))
 (F17 : Fun K "longest" "longest" ZCu f17 d17)
 (a18 : findIn K (.ref C_Tree) "__init__" = some (some (.ref f18))) (i18 : isFn K (.ref f18) = true)
 (l18 : K.lookup f18 = some ⟨oc18, od18, .func (fnOf "__init__" "Tree.__init__" (YK YI) (Z5 YI) (ZF YI) (.ref dt18) kV18 dc18 pm18 an18 cd18 ct18), sl18⟩) (c18 : codeIn K cd18 "Tree.__init__" = true) (k18 : keepIn K (.ref f18) = true)
 (dl18 : K.lookup dt18 = some ⟨doc18, dod18, .seq #[.none] dn18, dsl18⟩)
 (a19 : findIn K (.ref C_Tree) "put" = some (some (.ref f19))) (i19 : isFn K (.ref f19) = true)
 (F19 : Fun K "put" "Tree.put" ZCM f19 d19)
 (a20 : findIn K (.ref C_Tree) "take" = some (some (.ref f20))) (i20 : isFn K (.ref f20) = true)
 (F20 : Fun K "take" "Tree.take" ZBd f20 d20)
 (a21 : findIn K (.ref C_Tree) "renew" = some (some (.ref f21))) (i21 : isFn K (.ref f21) = true)
 (F21 : Fun K "renew" "Tree.renew" ZA4 f21 d21)
 (a22 : findIn K (.ref C_Tree) "four" = some (some (.ref f22))) (i22 : isFn K (.ref f22) = true)
 (F22 : Fun K "four" "Tree.four" ZBe f22 d22)
 (a23 : findIn K (.ref C_Tree) "fours" = some (some (.ref f23))) (i23 : isFn K (.ref f23) = true)
 (F23 : Fun K "fours" "Tree.fours" ZAB f23 d23)
 (a24 : findIn K (.ref C_Tree) "told" = some (some (.ref f24))) (i24 : isFn K (.ref f24) = true)
 (F24 : Fun K "told" "Tree.told" ZDT f24 d24)
 (a25 : nsIn K mainGlobals "known_in" = some (some (.ref f25)))
 (F25 : Fun K "known_in" "known_in" ZCN f25 d25)
 (a26 : findIn K (.ref C_View) "__init__" = some (some (.ref f26))) (i26 : isFn K (.ref f26) = true)
 (F26 : Fun K "__init__" "View.__init__" ZAC f26 d26)
 (a27 : findIn K (.ref C_View) "fours" = some (some (.ref f27))) (i27 : isFn K (.ref f27) = true)
 (F27 : Fun K "fours" "View.fours" ZAD f27 d27)
 (a28 : findIn K (.ref C_View) "forget" = some (some (.ref f28))) (i28 : isFn K (.ref f28) = true)
 (F28 : Fun K "forget" "View.forget" ZAg f28 d28)
 (a29 : findIn K (.ref C_View) "on" = some (some (.ref f29))) (i29 : isFn K (.ref f29) = true)
 (F29 : Fun K "on" "View.on" ZCv f29 d29)
 (a30 : findIn K (.ref C_View) "wide" = some (some (.ref f30))) (i30 : isFn K (.ref f30) = true)
 (F30 : Fun K "wide" "View.wide" ZBf f30 d30)
 (a31 : findIn K (.ref C_View) "narrow" = some (some (.ref f31))) (i31 : isFn K (.ref f31) = true)
 (F31 : Fun K "narrow" "View.narrow" ZAh f31 d31)
 (a32 : findIn K (.ref C_View) "columns" = some (some (.ref f32))) (i32 : isFn K (.ref f32) = true)
 (F32 : Fun K "columns" "View.columns" ZAS f32 d32)
 (a33 : findIn K (.ref C_View) "step_to" = some (some (.ref f33))) (i33 : isFn K (.ref f33) = true)
 (F33 : Fun K "step_to" "View.step_to" ZAT f33 d33)
 (a34 : findIn K (.ref C_Store) "__init__" = some (some (.ref f34))) (i34 : isFn K (.ref f34) = true)
 (l34 : K.lookup f34 = some ⟨oc34, od34, .func (fnOf "__init__" "Store.__init__" (YK YB) (Z5 YB) (ZF YB) (.ref dt34) kV34 dc34 pm34 an34 cd34 ct34), sl34⟩) (c34 : codeIn K cd34 "Store.__init__" = true) (k34 : keepIn K (.ref f34) = true)
 (dl34 : K.lookup dt34 = some ⟨doc34, dod34, .seq #[.none] dn34, dsl34⟩)
 (a35 : findIn K (.ref C_Store) "put" = some (some (.ref f35))) (i35 : isFn K (.ref f35) = true)
 (F35 : Fun K "put" "Store.put" ZBg f35 d35)
 (a36 : findIn K (.ref C_Store) "take" = some (some (.ref f36))) (i36 : isFn K (.ref f36) = true)
 (F36 : Fun K "take" "Store.take" ZA5 f36 d36)
 (a37 : findIn K (.ref C_Store) "height" = some (some (.ref f37))) (i37 : isFn K (.ref f37) = true)
 (F37 : Fun K "height" "Store.height" ZBw f37 d37)
 (a38 : findIn K (.ref C_Store) "check_sample" = some (some (.ref f38))) (i38 : isFn K (.ref f38) = true)
 (F38 : Fun K "check_sample" "Store.check_sample" JI f38 d38)
 (a39 : findIn K (.ref C_Store) "do" = some (some (.ref f39))) (i39 : isFn K (.ref f39) = true)
 (F39 : Fun K "do" "Store.do" ZCO f39 d39)
 (a40 : findIn K (.ref C_Store) "bring" = some (some (.ref f40))) (i40 : isFn K (.ref f40) = true)
 (F40 : Fun K "bring" "Store.bring" ZAi f40 d40)
 (a41 : findIn K (.ref C_Store) "undo" = some (some (.ref f41))) (i41 : isFn K (.ref f41) = true)
 (F41 : Fun K "undo" "Store.undo" ZA6 f41 d41)
 (a42 : findIn K (.ref C_Store) "times" = some (some (.ref f42))) (i42 : isFn K (.ref f42) = true)
 (F42 : Fun K "times" "Store.times" ZAj f42 d42)
 (a43 : findIn K (.ref C_Store) "four" = some (some (.ref f43))) (i43 : isFn K (.ref f43) = true)
 (F43 : Fun K "four" "Store.four" ZA7 f43 d43)
 (a44 : findIn K (.ref C_Store) "fours" = some (some (.ref f44))) (i44 : isFn K (.ref f44) = true)
 (F44 : Fun K "fours" "Store.fours" ZCb f44 d44)
 (a45 : findIn K (.ref C_Store) "told" = some (some (.ref f45))) (i45 : isFn K (.ref f45) = true)
 (F45 : Fun K "told" "Store.told" ZCw f45 d45)
 (a46 : findIn K (.ref C_Store) "watch" = some (some (.ref f46))) (i46 : isFn K (.ref f46) = true)
 (F46 : Fun K "watch" "Store.watch" ZCc f46 d46)
 (a47 : findIn K (.ref C_Store) "news" = some (some (.ref f47))) (i47 : isFn K (.ref f47) = true)
 (F47 : Fun K "news" "Store.news" ZCx f47 d47)
 (a48 : nsIn K mainGlobals "_law_cell" = some (some (.ref f48)))
 (F48 : Fun K "_law_cell" "_law_cell" ZDw f48 d48)
 (a49 : nsIn K mainGlobals "_law_pot" = some (some (.ref f49)))
 (F49 : Fun K "_law_pot" "_law_pot" ZEv f49 d49)
 (a50 : nsIn K mainGlobals "_law_draw" = some (some (.ref f50)))
 (F50 : Fun K "_law_draw" "_law_draw" ZDx f50 d50)
 (a51 : nsIn K mainGlobals "_law_in" = some (some (.ref f51)))
 (F51 : Fun K "_law_in" "_law_in" ZG4 f51 d51)
 (a52 : nsIn K mainGlobals "_law_within" = some (some (.ref f52)))
 (F52 : Fun K "_law_within" "_law_within" ZCP f52 d52)
 (a53 : nsIn K mainGlobals "_law_height" = some (some (.ref f53)))
 (F53 : Fun K "_law_height" "_law_height" ZCQ f53 d53)
 (a54 : nsIn K mainGlobals "_law_window" = some (some (.ref f54)))
 (F54 : Fun K "_law_window" "_law_window" ZCR f54 d54)
 (a55 : nsIn K mainGlobals "_law_time" = some (some (.ref f55)))
 (F55 : Fun K "_law_time" "_law_time" ZDy f55 d55)
 (a56 : nsIn K mainGlobals "_law_curve" = some (some (.ref f56)))
 (F56 : Fun K "_law_curve" "_law_curve" ZCy f56 d56)
 (a57 : nsIn K mainGlobals "_law_four" = some (some (.ref f57)))
 (F57 : Fun K "_law_four" "_law_four" ZA8 f57 d57)
 (a58 : nsIn K mainGlobals "_law_fours" = some (some (.ref f58)))
 (F58 : Fun K "_law_fours" "_law_fours" ZBO f58 d58)
 (a59 : nsIn K mainGlobals "_law_step" = some (some (.ref f59)))
 (F59 : Fun K "_law_step" "_law_step" ZDz f59 d59)
 (a60 : nsIn K mainGlobals "_law_go" = some (some (.ref f60)))
 (F60 : Fun K "_law_go" "_law_go" ZG5 f60 d60)
 (a61 : nsIn K mainGlobals "_law_known" = some (some (.ref f61)))
 (F61 : Fun K "_law_known" "_law_known" ZBP f61 d61)
 (a62 : nsIn K mainGlobals "_law_column" = some (some (.ref f62)))
 (F62 : Fun K "_law_column" "_law_column" ZCS f62 d62)
 (a63 : nsIn K mainGlobals "_law_deed" = some (some (.ref f63)))
 (F63 : Fun K "_law_deed" "_law_deed" ZD0 f63 d63)
 (a64 : nsIn K mainGlobals "_law_asked" = some (some (.ref f64)))
 (F64 : Fun K "_law_asked" "_law_asked" ZCz f64 d64)
 (a65 : nsIn K mainGlobals "_law_moved" = some (some (.ref f65)))
 (F65 : Fun K "_law_moved" "_law_moved" ZC0 f65 d65)
 (a66 : nsIn K mainGlobals "law" = some (some (.ref f66)))
 (l66 : K.lookup f66 = some ⟨oc66, od66, .func (fnOf "law" "law" (YK JW) (Z5 JW) (ZF JW) .none kV66 dc66 pm66 an66 cd66 ct66), sl66⟩) (c66 : codeIn K cd66 "law" = true) (k66 : keepIn K (.ref f66) = true)
 (ac_TOP_LEVEL : nsIn K mainGlobals "TOP_LEVEL" = some (some (.int 40 tk_TOP_LEVEL)))
 (ac_TIMES_END : nsIn K mainGlobals "TIMES_END" = some (some (.int 1099511627776 tk_TIMES_END)))
 (z_ValueError : nsIn K mainGlobals "ValueError" = some none)
 (z_abs : nsIn K mainGlobals "abs" = some none)
 (z_bool : nsIn K mainGlobals "bool" = some none)
 (z_divmod : nsIn K mainGlobals "divmod" = some none)
 (z_int : nsIn K mainGlobals "int" = some none)
 (z_isinstance : nsIn K mainGlobals "isinstance" = some none)
 (z_len : nsIn K mainGlobals "len" = some none)
 (z_list : nsIn K mainGlobals "list" = some none)
 (z_max : nsIn K mainGlobals "max" = some none)
 (z_min : nsIn K mainGlobals "min" = some none)
 (z_range : nsIn K mainGlobals "range" = some none)
 (z_repr : nsIn K mainGlobals "repr" = some none)
 (z_sorted : nsIn K mainGlobals "sorted" = some none)
 (z_tuple : nsIn K mainGlobals "tuple" = some none)
   : ∃ fd : FuncData, (∀ (s : Shared) (v : Value), BindsTo s fd ⟨[v], []⟩ [("_law_script", v)]) ∧ ∀ base : Heap, K.In base → base.Ns mainGlobals mg → ZQ l.prog w K mg base CX0 9 fa fd ["_law_script"] (ZFx K) := by
  have e := hfa.symm.trans (mg_of X G a66)
  cases e
  have F18 := ZH6 (st := YI) l18 c18 k18
  have F34 := ZH6 (st := YB) l34 c34 k34
  have F66 := fun_mk (st := JW) l66 c66 k66
  have T : Txt K mg ⟨f0, d0, f1, d1, f2, d2, f3, d3, f4, d4, f5, d5, f6, d6, f7, d7, f8, d8, f9, d9, f10, d10, f11, d11, f12, d12, f13, d13, f14, d14, f15, d15, f16, d16, f17, d17, f18, fnOf "__init__" "Tree.__init__" (YK YI) (Z5 YI) (ZF YI) (.ref dt18) kV18 dc18 pm18 an18 cd18 ct18, f19, d19, f20, d20, f21, d21, f22, d22, f23, d23, f24, d24, f25, d25, f26, d26, f27, d27, f28, d28, f29, d29, f30, d30, f31, d31, f32, d32, f33, d33, f34, fnOf "__init__" "Store.__init__" (YK YB) (Z5 YB) (ZF YB) (.ref dt34) kV34 dc34 pm34 an34 cd34 ct34, f35, d35, f36, d36, f37, d37, f38, d38, f39, d39, f40, d40, f41, d41, f42, d42, f43, d43, f44, d44, f45, d45, f46, d46, f47, d47, f48, d48, f49, d49, f50, d50, f51, d51, f52, d52, f53, d53, f54, d54, f55, d55, f56, d56, f57, d57, f58, d58, f59, d59, f60, d60, f61, d61, f62, d62, f63, d63, f64, d64, f65, d65, fa, fnOf "law" "law" (YK JW) (Z5 JW) (ZF JW) .none kV66 dc66 pm66 an66 cd66 ct66, C_Tree, C_View, C_Store, C_NoColumn, C_NotHalf, C_OutOfTimes, C_NoSample, tk_TOP_LEVEL, tk_TIMES_END⟩ := ⟨F0, (F0.b1 fun _ _ _ _ _ _ _ => rfl), (mg_of X G a0), F1, (F1.b1 fun _ _ _ _ _ _ _ => rfl), (mg_of X G a1), F2, (F2.b2 fun _ _ _ _ _ _ _ _ => rfl), (mg_of X G a2), F3, (F3.b2 fun _ _ _ _ _ _ _ _ => rfl), (mg_of X G a3), F4, (F4.b1 fun _ _ _ _ _ _ _ => rfl), (mg_of X G a4), F5, (F5.b2 fun _ _ _ _ _ _ _ _ => rfl), (mg_of X G a5), F6, (F6.b1 fun _ _ _ _ _ _ _ => rfl), (mg_of X G a6), F7, (F7.b1 fun _ _ _ _ _ _ _ => rfl), (mg_of X G a7), F8, (F8.b2 fun _ _ _ _ _ _ _ _ => rfl), (mg_of X G a8), F9, (F9.b1 fun _ _ _ _ _ _ _ => rfl), (mg_of X G a9), F10, (F10.b1 fun _ _ _ _ _ _ _ => rfl), (mg_of X G a10), F11, (F11.b2 fun _ _ _ _ _ _ _ _ => rfl), (mg_of X G a11), F12, (F12.b1 fun _ _ _ _ _ _ _ => rfl), (mg_of X G a12), F13, (F13.b2 fun _ _ _ _ _ _ _ _ => rfl), (mg_of X G a13), F14, (F14.b1 fun _ _ _ _ _ _ _ => rfl), (mg_of X G a14), F15, (F15.b1 fun _ _ _ _ _ _ _ => rfl), (mg_of X G a15), F16, (F16.b2 fun _ _ _ _ _ _ _ _ => rfl), (mg_of X G a16), F17, (F17.b2 fun _ _ _ _ _ _ _ _ => rfl), (mg_of X G a17), F18, (fun s us hI hl => by match us, hl with | [_, _], _ => exact binds_K hI rfl dl18 rfl rfl rfl), (fun s us hI hl => have hl2 : us.length = 1 := (by simpa using hl); match us, hl2 with | [_], _ => binds_K hI rfl dl18 rfl rfl rfl), (fun s u v hI => binds_K hI rfl dl18 rfl rfl rfl), F19, (F19.b3 fun _ _ _ _ _ _ _ _ _ => rfl), ⟨a19, i19, F19.kp⟩, F20, (F20.b2 fun _ _ _ _ _ _ _ _ => rfl), ⟨a20, i20, F20.kp⟩, F21, (F21.b3 fun _ _ _ _ _ _ _ _ _ => rfl), ⟨a21, i21, F21.kp⟩, F22, (F22.b3 fun _ _ _ _ _ _ _ _ _ => rfl), ⟨a22, i22, F22.kp⟩, F23, (F23.b2 fun _ _ _ _ _ _ _ _ => rfl), ⟨a23, i23, F23.kp⟩, F24, (F24.b1 fun _ _ _ _ _ _ _ => rfl), ⟨a24, i24, F24.kp⟩, F25, (F25.b2 fun _ _ _ _ _ _ _ _ => rfl), (mg_of X G a25), F26, (F26.b3 fun _ _ _ _ _ _ _ _ _ => rfl), F27, (F27.b1 fun _ _ _ _ _ _ _ => rfl), ⟨a27, i27, F27.kp⟩, F28, (F28.b1 fun _ _ _ _ _ _ _ => rfl), ⟨a28, i28, F28.kp⟩, F29, (F29.b2 fun _ _ _ _ _ _ _ _ => rfl), ⟨a29, i29, F29.kp⟩, F30, (F30.b1 fun _ _ _ _ _ _ _ => rfl), ⟨a30, i30, F30.kp⟩, F31, (F31.b1 fun _ _ _ _ _ _ _ => rfl), ⟨a31, i31, F31.kp⟩, F32, (F32.b2 fun _ _ _ _ _ _ _ _ => rfl), ⟨a32, i32, F32.kp⟩, F33, (F33.b2 fun _ _ _ _ _ _ _ _ => rfl), ⟨a33, i33, F33.kp⟩, F34, (fun s us hI hl => by match us, hl with | [_, _], _ => exact binds_K hI rfl dl34 rfl rfl rfl), (fun s us hI hl => have hl2 : us.length = 1 := (by simpa using hl); match us, hl2 with | [_], _ => binds_K hI rfl dl34 rfl rfl rfl), (fun s u v hI => binds_K hI rfl dl34 rfl rfl rfl), F35, (F35.b3 fun _ _ _ _ _ _ _ _ _ => rfl), ⟨a35, i35, F35.kp⟩, F36, (F36.b2 fun _ _ _ _ _ _ _ _ => rfl), ⟨a36, i36, F36.kp⟩, F37, (F37.b2 fun _ _ _ _ _ _ _ _ => rfl), ⟨a37, i37, F37.kp⟩, F38, (F38.b2 fun _ _ _ _ _ _ _ _ => rfl), ⟨a38, i38, F38.kp⟩, F39, (F39.b3 fun _ _ _ _ _ _ _ _ _ => rfl), ⟨a39, i39, F39.kp⟩, F40, (F40.b3 fun _ _ _ _ _ _ _ _ _ => rfl), ⟨a40, i40, F40.kp⟩, F41, (F41.b1 fun _ _ _ _ _ _ _ => rfl), ⟨a41, i41, F41.kp⟩, F42, (F42.b1 fun _ _ _ _ _ _ _ => rfl), ⟨a42, i42, F42.kp⟩, F43, (F43.b3 fun _ _ _ _ _ _ _ _ _ => rfl), ⟨a43, i43, F43.kp⟩, F44, (F44.b2 fun _ _ _ _ _ _ _ _ => rfl), ⟨a44, i44, F44.kp⟩, F45, (F45.b1 fun _ _ _ _ _ _ _ => rfl), ⟨a45, i45, F45.kp⟩, F46, (F46.b2 fun _ _ _ _ _ _ _ _ => rfl), ⟨a46, i46, F46.kp⟩, F47, (F47.b2 fun _ _ _ _ _ _ _ _ => rfl), ⟨a47, i47, F47.kp⟩, F48, (F48.b2 fun _ _ _ _ _ _ _ _ => rfl), (mg_of X G a48), F49, (F49.b1 fun _ _ _ _ _ _ _ => rfl), (mg_of X G a49), F50, (F50.b2 fun _ _ _ _ _ _ _ _ => rfl), (mg_of X G a50), F51, (F51.b1 fun _ _ _ _ _ _ _ => rfl), (mg_of X G a51), F52, (F52.b1 fun _ _ _ _ _ _ _ => rfl), (mg_of X G a52), F53, (F53.b1 fun _ _ _ _ _ _ _ => rfl), (mg_of X G a53), F54, (F54.b1 fun _ _ _ _ _ _ _ => rfl), (mg_of X G a54), F55, (F55.b2 fun _ _ _ _ _ _ _ _ => rfl), (mg_of X G a55), F56, (F56.b2 fun _ _ _ _ _ _ _ _ => rfl), (mg_of X G a56), F57, (F57.b1 fun _ _ _ _ _ _ _ => rfl), (mg_of X G a57), F58, (F58.b2 fun _ _ _ _ _ _ _ _ => rfl), (mg_of X G a58), F59, (F59.b2 fun _ _ _ _ _ _ _ _ => rfl), (mg_of X G a59), F60, (F60.b2 fun _ _ _ _ _ _ _ _ => rfl), (mg_of X G a60), F61, (F61.b3 fun _ _ _ _ _ _ _ _ _ => rfl), (mg_of X G a61), F62, (F62.b2 fun _ _ _ _ _ _ _ _ => rfl), (mg_of X G a62), F63, (F63.b5 fun _ _ _ _ _ _ _ _ _ _ _ => rfl), (mg_of X G a63), F64, (F64.b3 fun _ _ _ _ _ _ _ _ _ => rfl), (mg_of X G a64), F65, (F65.b3 fun _ _ _ _ _ _ _ _ _ => rfl), (mg_of X G a65), F66, (F66.b1 fun _ _ _ _ _ _ _ => rfl), (mg_of X G a66), ⟨e_Tree.pg, e_Tree.hd, e_Tree.po, e_Tree.sa⟩, (mg_of X G e_Tree.a), ⟨e_Tree.mi, a18, i18, e_Tree.kc⟩, na_Tree_looks, na_Tree_samples, na_Tree_kept_fours, ⟨e_View.pg, e_View.hd, e_View.po, e_View.sa⟩, (mg_of X G e_View.a), ⟨e_View.mi, a26, i26, e_View.kc⟩, na_View_source, na_View_window, na_View_asked, na_View_known, na_View_seen, ⟨e_Store.pg, e_Store.hd, e_Store.po, e_Store.sa⟩, (mg_of X G e_Store.a), ⟨e_Store.mi, a34, i34, e_Store.kc⟩, na_Store_tree, na_Store_deeds, na_Store_done, na_Store_watches, e_NoColumn.ex, ⟨e_NoColumn.ga, e_NoColumn.gt, e_NoColumn.cl, e_NoColumn.ob, e_NoColumn.be⟩, (mg_of X G e_NoColumn.a), e_NotHalf.ex, ⟨e_NotHalf.ga, e_NotHalf.gt, e_NotHalf.cl, e_NotHalf.ob, e_NotHalf.be⟩, (mg_of X G e_NotHalf.a), e_OutOfTimes.ex, ⟨e_OutOfTimes.ga, e_OutOfTimes.gt, e_OutOfTimes.cl, e_OutOfTimes.ob, e_OutOfTimes.be⟩, (mg_of X G e_OutOfTimes.a), e_NoSample.ex, ⟨e_NoSample.ga, e_NoSample.gt, e_NoSample.cl, e_NoSample.ob, e_NoSample.be⟩, (mg_of X G e_NoSample.a), u_NoColumn_NoColumn, k_NoColumn_NoColumn, u_NoColumn_NotHalf, k_NoColumn_NotHalf, u_NoColumn_OutOfTimes, k_NoColumn_OutOfTimes, u_NoColumn_NoSample, k_NoColumn_NoSample, u_NotHalf_NoColumn, k_NotHalf_NoColumn, u_NotHalf_NotHalf, k_NotHalf_NotHalf, u_NotHalf_OutOfTimes, k_NotHalf_OutOfTimes, u_NotHalf_NoSample, k_NotHalf_NoSample, u_OutOfTimes_NoColumn, k_OutOfTimes_NoColumn, u_OutOfTimes_NotHalf, k_OutOfTimes_NotHalf, u_OutOfTimes_OutOfTimes, k_OutOfTimes_OutOfTimes, u_OutOfTimes_NoSample, k_OutOfTimes_NoSample, u_NoSample_NoColumn, k_NoSample_NoColumn, u_NoSample_NotHalf, k_NoSample_NotHalf, u_NoSample_OutOfTimes, k_NoSample_OutOfTimes, u_NoSample_NoSample, k_NoSample_NoSample, (mg_of X G ac_TOP_LEVEL), (mg_of X G ac_TIMES_END), (mg_none_of X G z_ValueError), (mg_none_of X G z_abs), (mg_none_of X G z_bool), (mg_none_of X G z_divmod), (mg_none_of X G z_int), (mg_none_of X G z_isinstance), (mg_none_of X G z_len), (mg_none_of X G z_list), (mg_none_of X G z_max), (mg_none_of X G z_min), (mg_none_of X G z_range), (mg_none_of X G z_repr), (mg_none_of X G z_sorted), (mg_none_of X G z_tuple)⟩
  exact ⟨fnOf "law" "law" (YK JW) (Z5 JW) (ZF JW) .none kV66 dc66 pm66 an66 cd66 ct66, fun s v => .of_eq rfl, fun base _ _ => ZRl T⟩
theorem walk {l : PySem.W.OpenLaw} {q : Program} {loose : List Str} {XP : (Str → Option Value) → Heap → Prop} {YP : World → Heap → Prop} {d : DefRec} {K : Params → PySem.W.Frag} (hn : l.most = some 63) (hdf : d.params.defaults = [])
  (hY : ∀ (w : World) (h : Heap), YP w h → (K w.params).In h)
  (F : ∀ (w : World) (mg : Str → Option Value) (fa : Addr) (h : Heap), (K w.params).In h → h.Ns mainGlobals mg → mg d.name = some (.ref fa) →
   ∃ fd : FuncData, (∀ (s : Shared) (u : Value), BindsTo s fd ⟨[u], []⟩ [("_law_script", u)]) ∧ ∀ base : Heap, (K w.params).In base → base.Ns mainGlobals mg → ZQ l.prog w (K w.params) mg base CX0 9 fa fd ["_law_script"] (ZFx (K w.params))) :
  PySem.W.WalkO q loose XP YP l.row.toRowW d [] (fun f vs => PySem.call f vs) :=
 L2.walk_of (n := 63) (k := 9) (x := "_law_script") (CX := fun _ => CX0) (sp := fun w => ZFx (K w.params)) hn (by decide) hdf ⟨rfl, by decide, by decide, rfl⟩ hY F (fun _ _ a ns hl _ hS => ⟨a, ns, rfl, hS, hl, fun _ => rfl⟩) fun _ _ _ _ _ z => z
end My
local macro_rules | `(tactic| walk_at "e") => `(tactic| (refine' ⟨?a, ?b, ?c, ?d, ?e, ?f, ?g⟩; (case a => k_is); (case b => k_exc); (case c => k_is); (case d => k_is); (case e => k_is); (case f => k_is); (case g => k_is)))
local macro_rules | `(tactic| walk_at "c") => `(tactic| (refine' ⟨?a, ?b, ?c, ?d, ?e, ?f, ?g⟩; (case a => k_is); (case b => k_is); (case c => k_is); (case d => k_is); (case e => k_is); (case f => k_is); (case g => k_is)))
local macro_rules | `(tactic| walk_at "f") => `(tactic| (refine' L2.fun_mk ?a ?b ?c; (case a => k_is); (case b => k_is); (case c => k_is)))
def PySem.W.Fast.tw11067668859323426144 : Unit := ()
def PySem.W.Fast.tw12374913378994730498 : Unit := ()
def PySem.W.Fast.tw5134367236125378178 : Unit := ()
def PySem.W.Fast.tw9604878517151256069 : Unit := ()
def PySem.W.Fast.tw11264331306357889670 : Unit := ()
def PySem.W.Fast.tw419125539388004040 : Unit := ()
def PySem.W.Fast.tw1802482221083137354 : Unit := ()
def PySem.W.Fast.tw6716153003217186923 : Unit := ()
def PySem.W.Fast.tw7667441130490603051 : Unit := ()
def PySem.W.Fast.tw3991545214109367243 : Unit := ()
def PySem.W.Fast.tw10539149793093887469 : Unit := ()
def PySem.W.Fast.tw12126902480384536846 : Unit := ()
def PySem.W.Fast.tw4491235616731631891 : Unit := ()
def PySem.W.Fast.tw2311134614334473907 : Unit := ()
def PySem.W.Fast.tw8737649492304259541 : Unit := ()
def PySem.W.Fast.tw55502628930345270 : Unit := ()
def PySem.W.Fast.tw2296665539061026040 : Unit := ()
def PySem.W.Fast.tw8173585020646330108 : Unit := ()
def PySem.W.Fast.tw8198979957919203421 : Unit := ()
def PySem.W.Fast.tw6987793788162540251 : Unit := ()
def PySem.W.Fast.tw14631010545780854981 : Unit := ()
def PySem.W.Fast.tw15831267385585031369 : Unit := ()
def PySem.W.Fast.tw5267103187329185207 : Unit := ()
def PySem.W.Fast.tw17586776306088760884 : Unit := ()
def PySem.W.Fast.tw5413711741554589998 : Unit := ()
def PySem.W.Fast.tw5412890008744326451 : Unit := ()
def PySem.W.Fast.tw9152991058968862928 : Unit := ()
def PySem.W.Fast.tw12344973388815578781 : Unit := ()
def PySem.W.Fast.tw3609477730282660555 : Unit := ()
def PySem.W.Fast.tw5512156273239471399 : Unit := ()
def PySem.W.Fast.tw2577298346784911136 : Unit := ()
def PySem.W.Fast.tw3599235255099024349 : Unit := ()
def PySem.W.Fast.tw6882074630725621008 : Unit := ()
def PySem.W.Fast.tw687881688813569815 : Unit := ()
def PySem.W.Fast.tw4538090596262855829 : Unit := ()
def PySem.W.Fast.tw15091120454083664398 : Unit := ()
def PySem.W.Fast.tw14280874354165945713 : Unit := ()
def PySem.W.Fast.tw15881000850933665025 : Unit := ()
def PySem.W.Fast.tw5647827178844963505 : Unit := ()
def PySem.W.Fast.tw7072829553298948745 : Unit := ()
def PySem.W.Fast.tw12589529872657908941 : Unit := ()
def PySem.W.Fast.tw13338554157502020162 : Unit := ()
def PySem.W.Fast.tw5102775856146860960 : Unit := ()
def PySem.W.Fast.tw2900176652314992078 : Unit := ()
def PySem.W.Fast.tw302756874288369670 : Unit := ()
def PySem.W.Fast.tw13973532375009636919 : Unit := ()
def PySem.W.Fast.tw3540379625125095443 : Unit := ()
def PySem.W.Fast.tw3954227144096757277 : Unit := ()
def PySem.W.Fast.tw4482628639893294026 : Unit := ()
def PySem.W.Fast.tw11917384752487905521 : Unit := ()
def PySem.W.Fast.tw11019136542301273365 : Unit := ()
def PySem.W.Fast.tw6798929867416296125 : Unit := ()
def PySem.W.Fast.tw9772221429457186834 : Unit := ()
def PySem.W.Fast.tw543027123258530740 : Unit := ()
def PySem.W.Fast.tw12887345322214631339 : Unit := ()
def PySem.W.Fast.tw4030711515634384717 : Unit := ()
def PySem.W.Fast.tw6137143218745062428 : Unit := ()
def PySem.W.Fast.tw3774830414860978755 : Unit := ()
def PySem.W.Fast.tw6957679429779736000 : Unit := ()
def PySem.W.Fast.tw8005161176739497868 : Unit := ()
def PySem.W.Fast.tw4983607070398170891 : Unit := ()
def PySem.W.Fast.tw16258148878098820952 : Unit := ()
def PySem.W.Fast.tw2164021668308281633 : Unit := ()
def PySem.W.Fast.tw17864004200840386326 : Unit := ()
def PySem.W.Fast.tw14331789104277682920 : Unit := ()
def PySem.W.Fast.tw1286846919124297738 : Unit := ()
def PySem.W.Fast.tw15665249577320139878 : Unit := ()
def PySem.W.Fast.tw11695394115814659075 : Unit := ()
def PySem.W.Fast.tw16634805470105740604 : Unit := ()
def PySem.W.Fast.tw6412091949289278827 : Unit := ()
def PySem.W.Fast.tw5247429946734045719 : Unit := ()
def PySem.W.Fast.tw9881746663798589587 : Unit := ()
def PySem.W.Fast.tw17295307857976504726 : Unit := ()
def PySem.W.Fast.tw16466449414722668020 : Unit := ()
def PySem.W.Fast.tw15282846140777972057 : Unit := ()
def PySem.W.Fast.tw9380504946332707524 : Unit := ()
def PySem.W.Fast.tw10464442890164809156 : Unit := ()
def PySem.W.Fast.tw15158848751586634537 : Unit := ()
def PySem.W.Fast.tw8962380922164618037 : Unit := ()
def PySem.W.Fast.tw5957688764118270991 : Unit := ()
def PySem.W.Fast.tw7585252195393126643 : Unit := ()
def PySem.W.Fast.tw14588064797023403724 : Unit := ()
def PySem.W.Fast.tw11314776485294853545 : Unit := ()
def PySem.W.Fast.tw6077190903114098056 : Unit := ()
def PySem.W.Fast.tw5343039833995688341 : Unit := ()
def PySem.W.Fast.tw9119676362152301067 : Unit := ()
def PySem.W.Fast.tw5267950330788771070 : Unit := ()
def PySem.W.Fast.tw18360860211067143251 : Unit := ()
def PySem.W.Fast.tw4412499778684908487 : Unit := ()
def PySem.W.Fast.tw9095338644700351531 : Unit := ()
def PySem.W.Fast.tw14915231128607886388 : Unit := ()
def PySem.W.Fast.tw15952928891374595513 : Unit := ()
def PySem.W.Fast.tw15093153725178761149 : Unit := ()
def PySem.W.Fast.tw10531124589867088950 : Unit := ()
def PySem.W.Fast.tw440651744999341032 : Unit := ()
def PySem.W.Fast.tw16778867465034377367 : Unit := ()
def PySem.W.Fast.tw6981620460673466340 : Unit := ()
def PySem.W.Fast.tw3946695446222656976 : Unit := ()
def PySem.W.Fast.tw8496995321021126097 : Unit := ()
def PySem.W.Fast.tw434288159417075277 : Unit := ()
def PySem.W.Fast.tw11558028991571486880 : Unit := ()
def PySem.W.Fast.tw8004201546211744134 : Unit := ()
def PySem.W.Fast.tw3615976280379346368 : Unit := ()
def PySem.W.Fast.tw2806481931732931557 : Unit := ()
def PySem.W.Fast.tw4039039995725115056 : Unit := ()
def PySem.W.Fast.tw13530465132622891472 : Unit := ()
def PySem.W.Fast.tw6479146034656528217 : Unit := ()
def PySem.W.Fast.tw17712510158952496236 : Unit := ()
def PySem.W.Fast.tw15391520458158125351 : Unit := ()
def PySem.W.Fast.tw5799854575612236930 : Unit := ()
def PySem.W.Fast.tw9046982319814547490 : Unit := ()
def PySem.W.Fast.tw4031500811588183846 : Unit := ()
def PySem.W.Fast.tw12018517174578106709 : Unit := ()
def PySem.W.Fast.tw4844570638875254316 : Unit := ()
def PySem.W.Fast.tw9503205750303727779 : Unit := ()
def PySem.W.Fast.tw17757594608714586886 : Unit := ()
open PySem PySem.W PyProof.Rows
set_option maxRecDepth 100000 in
set_option maxHeartbeats 0 in
theorem PySem.Challenge.cw_fourpoints_k73_whole_views_of_changing_s_holds : PySem.Challenge.rw_fourpoints_k73_whole_views_of_changing_s.Holds := by
 w_on; o_law; k_head; (case hw => w_witness2)
 k_fill
 refine My.walk (l := PySem.Challenge.rw_fourpoints_k73_whole_views_of_changing_s) rfl rfl (fun w h Y => PySem.W.kIn_of Y) ?F
 case F =>
  intro w mg fa h KX G hmg
  refine' My.all_mk KX G hmg ?taa ?tab ?tac ?tad ?tae ?taf ?tag ?tah ?tai ?taj ?tak ?tal ?tam ?tan ?tao ?tap ?taq ?tar ?tas ?tat ?tau ?tav ?taw ?tax ?tay ?taz ?tba ?tbb ?tbc ?tbd ?tbe ?tbf ?tbg ?tbh ?tbi ?tbj ?tbk ?tbl ?tbm ?tbn ?tbo ?tbp ?tbq ?tbr ?tbs ?tbt ?tbu ?tbv ?tbw ?tbx ?tby ?tbz ?tca ?tcb ?tcc ?tcd ?tce ?tcf ?tcg ?tch ?tci ?tcj ?tck ?tcl ?tcm ?tcn ?tco ?tcp ?tcq ?tcr ?tcs ?tct ?tcu ?tcv ?tcw ?tcx ?tcy ?tcz ?tda ?tdb ?tdc ?tdd ?tde ?tdf ?tdg ?tdh ?tdi ?tdj ?tdk ?tdl ?tdm ?tdn ?tdo ?tdp ?tdq ?tdr ?tds ?tdt ?tdu ?tdv ?tdw ?tdx ?tdy ?tdz ?tea ?teb ?tec ?ted ?tee ?tef ?teg ?teh ?tei ?tej ?tek ?tel ?tem ?ten ?teo ?tep ?teq ?ter ?tes ?tet ?teu ?tev ?tew ?tex ?tey ?tez ?tfa ?tfb ?tfc ?tfd ?tfe ?tff ?tfg ?tfh ?tfi ?tfj ?tfk ?tfl ?tfm ?tfn ?tfo ?tfp ?tfq ?tfr ?tfs ?tft ?tfu ?tfv ?tfw ?tfx ?tfy ?tfz ?tga ?tgb ?tgc ?tgd ?tge ?tgf ?tgg ?tgh ?tgi ?tgj ?tgk ?tgl ?tgm ?tgn ?tgo ?tgp ?tgq ?tgr ?tgs ?tgt ?tgu ?tgv ?tgw ?tgx ?tgy ?tgz ?tha ?thb ?thc ?thd ?the ?thf ?thg ?thh ?thi ?thj ?thk ?thl ?thm ?thn ?tho ?thp ?thq ?thr ?ths ?tht ?thu ?thv ?thw ?thx ?thy ?thz ?tia ?tib ?tic ?tid ?tie ?tif ?tig ?tih ?tii ?tij ?tik ?til ?tim ?tin ?tio ?tip ?tiq ?tir ?tis ?tit ?tiu ?tiv ?tiw ?tix ?tiy ?tiz ?tja ?tjb ?tjc ?tjd
  (case taa | tab | tac | tad => walk_at "e")
  (case tae => k_is)
  (case taf => kit_is)
  (case tag => k_is)
  (case tah => kit_is)
  (case tai => k_is)
  (case taj => kit_is)
  (case tak => k_is)
  (case tal => kit_is)
  (case tam => k_is)
  (case tan => kit_is)
  (case tao => k_is)
  (case tap => kit_is)
  (case taq => k_is)
  (case tar => kit_is)
  (case tas => k_is)
  (case tat => kit_is)
  (case tau => k_is)
  (case tav => kit_is)
  (case taw => k_is)
  (case tax => kit_is)
  (case tay => k_is)
  (case taz => kit_is)
  (case tba => k_is)
  (case tbb => kit_is)
  (case tbc => k_is)
  (case tbd => kit_is)
  (case tbe => k_is)
  (case tbf => kit_is)
  (case tbg => k_is)
  (case tbh => kit_is)
  (case tbi => k_is)
  (case tbj => kit_is)
  (case tbk => walk_at "c")
  (case tbl | tbm | tbn => k_is)
  (case tbo => walk_at "c")
  (case tbp | tbq | tbr | tbs | tbt => k_is)
  (case tbu => walk_at "c")
  (case tbv | tbw | tbx | tby | tbz => k_is)
  (case tca => walk_at "f")
  (case tcb => k_is)
  (case tcc => walk_at "f")
  (case tcd => k_is)
  (case tce => walk_at "f")
  (case tcf => k_is)
  (case tcg => walk_at "f")
  (case tch => k_is)
  (case tci => walk_at "f")
  (case tcj => k_is)
  (case tck => walk_at "f")
  (case tcl => k_is)
  (case tcm => walk_at "f")
  (case tcn => k_is)
  (case tco => walk_at "f")
  (case tcp => k_is)
  (case tcq => walk_at "f")
  (case tcr => k_is)
  (case tcs => walk_at "f")
  (case tct => k_is)
  (case tcu => walk_at "f")
  (case tcv => k_is)
  (case tcw => walk_at "f")
  (case tcx => k_is)
  (case tcy => walk_at "f")
  (case tcz => k_is)
  (case tda => walk_at "f")
  (case tdb => k_is)
  (case tdc => walk_at "f")
  (case tdd => k_is)
  (case tde => walk_at "f")
  (case tdf => k_is)
  (case tdg => walk_at "f")
  (case tdh => k_is)
  (case tdi => walk_at "f")
  (case tdj | tdk | tdl | tdm | tdn | tdo | tdp | tdq => k_is)
  (case tdr => walk_at "f")
  (case tds | tdt => k_is)
  (case tdu => walk_at "f")
  (case tdv | tdw => k_is)
  (case tdx => walk_at "f")
  (case tdy | tdz => k_is)
  (case tea => walk_at "f")
  (case teb | tec => k_is)
  (case ted => walk_at "f")
  (case tee | tef => k_is)
  (case teg => walk_at "f")
  (case teh => k_is)
  (case tei => walk_at "f")
  (case tej | tek => k_is)
  (case tel => walk_at "f")
  (case tem | ten => k_is)
  (case teo => walk_at "f")
  (case tep | teq => k_is)
  (case ter => walk_at "f")
  (case tes | tet => k_is)
  (case teu => walk_at "f")
  (case tev | tew => k_is)
  (case tex => walk_at "f")
  (case tey | tez => k_is)
  (case tfa => walk_at "f")
  (case tfb | tfc => k_is)
  (case tfd => walk_at "f")
  (case tfe | tff => k_is)
  (case tfg => walk_at "f")
  (case tfh | tfi | tfj | tfk | tfl | tfm | tfn | tfo => k_is)
  (case tfp => walk_at "f")
  (case tfq | tfr => k_is)
  (case tfs => walk_at "f")
  (case tft | tfu => k_is)
  (case tfv => walk_at "f")
  (case tfw | tfx => k_is)
  (case tfy => walk_at "f")
  (case tfz | tga => k_is)
  (case tgb => walk_at "f")
  (case tgc | tgd => k_is)
  (case tge => walk_at "f")
  (case tgf | tgg => k_is)
  (case tgh => walk_at "f")
  (case tgi | tgj => k_is)
  (case tgk => walk_at "f")
  (case tgl | tgm => k_is)
  (case tgn => walk_at "f")
  (case tgo | tgp => k_is)
  (case tgq => walk_at "f")
  (case tgr | tgs => k_is)
  (case tgt => walk_at "f")
  (case tgu | tgv => k_is)
  (case tgw => walk_at "f")
  (case tgx | tgy => k_is)
  (case tgz => walk_at "f")
  (case tha => k_is)
  (case thb => walk_at "f")
  (case thc => k_is)
  (case thd => walk_at "f")
  (case the => k_is)
  (case thf => walk_at "f")
  (case thg => k_is)
  (case thh => walk_at "f")
  (case thi => k_is)
  (case thj => walk_at "f")
  (case thk => k_is)
  (case thl => walk_at "f")
  (case thm => k_is)
  (case thn => walk_at "f")
  (case tho => k_is)
  (case thp => walk_at "f")
  (case thq => k_is)
  (case thr => walk_at "f")
  (case ths => k_is)
  (case tht => walk_at "f")
  (case thu => k_is)
  (case thv => walk_at "f")
  (case thw => k_is)
  (case thx => walk_at "f")
  (case thy => k_is)
  (case thz => walk_at "f")
  (case tia => k_is)
  (case tib => walk_at "f")
  (case tic => k_is)
  (case tid => walk_at "f")
  (case tie => k_is)
  (case tif => walk_at "f")
  (case tig => k_is)
  (case tih => walk_at "f")
  (case tii => k_is)
  (case tij => walk_at "f")
  (case tik | til | tim | tin | tio | tip | tiq | tir | tis | tit | tiu | tiv | tiw | tix | tiy | tiz | tja | tjb | tjc | tjd => k_is)
