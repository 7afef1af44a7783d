import PyProof.Rows.All
import Wide.All
import OpenK.AllK
import Wide.FinOn
import Lean
import PyProof.EqAt
import PyProof.EqKinds
import PyProof.TupleCall
import KE.KSortTup
import PyProof.CollectWalk
import PyProof.DictWalks
import PyProof.Rows.SortWalk
import KE.KItemsList
import PyProof.ReprText
import PyProof.Rows.StrIntSpec
import PyProof.RowDictHeap
import KE.KRevIter
import KE.KMinKey
import PyProof.P3In
import KE.KIntText
import PyProof.StrLawsTight
import PyProof.StrWalks
import PyProof.ListRange
import PySem.Challenge.RW_fourpoints_k65_stores_refuse
set_option Elab.async false
set_option linter.all false
set_option maxRecDepth 100000
set_option maxHeartbeats 4000000
-- CHANGE: your row's module here, as the last of these rows
abbrev L2.PL := List (Int × Int)
namespace L2
open PySem PySem.Spec PyProof.Rows
abbrev Key := Sum Int Str
def ZGv : Key → Value → Bool
 | .inl k, v => Value.isInt k v
 | .inr x, v => Value.isStrOf x v
def ZUP (w : World) : Key → Int
 | .inl k => hashInt k
 | .inr x => hashStr w x
theorem ZDm : ∀ {k : Key} {v : Value}, ZGv k v = true → (∃ i t, k = Sum.inl i ∧ v = Value.int i t) ∨ (∃ x t, k = Sum.inr x ∧ v = Value.str x t)
 | .inl i, v, h => by
  obtain ⟨t, e⟩ := Value.isInt_shape (k := i) (v := v) h
  exact .inl ⟨i, t, rfl, e⟩
 | .inr x, v, h => by
  obtain ⟨t, e⟩ := Value.isStrOf_shape (x := x) (v := v) h
  exact .inr ⟨x, t, rfl, e⟩
theorem ZNI (i : Int) (t : Tok) : ZGv (.inl i) (.int i t) = true := by simp [ZGv, Value.isInt]
theorem ZNJ (x : Str) (t : Tok) : ZGv (.inr x) (.str x t) = true := by simp [ZGv, Value.isStrOf]
theorem ZSP (a b : Int) : decide ((Sum.inl a : Key) = Sum.inl b) = (a == b) := by
 by_cases e : a = b
 ·subst e; simp
 ·have h : ¬ (Sum.inl a : Key) = Sum.inl b := fun q => e (Sum.inl.inj q)
  rw [decide_eq_false h]
  exact (beq_eq_false_iff_ne.mpr e).symm
theorem ZSQ (a b : Str) : decide ((Sum.inr a : Key) = Sum.inr b) = decide (a = b) := by
 by_cases e : a = b
 ·subst e; simp
 ·have h : ¬ (Sum.inr a : Key) = Sum.inr b := fun q => e (Sum.inr.inj q)
  rw [decide_eq_false h, decide_eq_false e]
theorem ZSR (a : Int) (b : Str) : decide ((Sum.inl a : Key) = Sum.inr b) = false := decide_eq_false (fun q => nomatch q)
theorem ZSS (a : Str) (b : Int) : decide ((Sum.inr a : Key) = Sum.inl b) = false := decide_eq_false (fun q => nomatch q)
def ZDg (prog : Program) (w : World) : PySem.KeyKind prog w Key where
 is := ZGv
 hash := ZUP w
 inj := fun v a b ha hb => by
  rcases ZDm ha with ⟨i, t, rfl, rfl⟩ | ⟨x, t, rfl, rfl⟩
  ·rcases ZDm hb with ⟨j, u, rfl, e⟩ | ⟨y, u, rfl, e⟩
   ·injection e with e1 _; rw [e1]
   ·exact nomatch e
  ·rcases ZDm hb with ⟨j, u, rfl, e⟩ | ⟨y, u, rfl, e⟩
   ·exact nomatch e
   ·injection e with e1 _; rw [e1]
 byValue := fun k v h => by
  rcases ZDm h with ⟨i, t, rfl, rfl⟩ | ⟨x, t, rfl, rfl⟩ <;> rfl
 pyHash := fun hv h => by
  rcases ZDm hv with ⟨i, t, rfl, rfl⟩ | ⟨x, t, rfl, rfl⟩
  ·exact wpAny_pyHash_int h
  ·exact wpAny_pyHash_str h
 eqBool := fun hu hv h => by
  rcases ZDm hu with ⟨i, t, rfl, rfl⟩ | ⟨x, t, rfl, rfl⟩
  ·rcases ZDm hv with ⟨j, u, rfl, rfl⟩ | ⟨y, u, rfl, rfl⟩
   ·rw [ZSP] at h; exact wpAny_eqBool_int h
   ·rw [ZSR] at h; exact SeqAt.EqAt.int_str i t y u _ _ _ _ h
  ·rcases ZDm hv with ⟨j, u, rfl, rfl⟩ | ⟨y, u, rfl, rfl⟩
   ·rw [ZSS] at h; exact SeqAt.EqAt.str_int x t j u _ _ _ _ h
   ·rw [ZSQ] at h; exact wpAny_eqBool_str h
 «strs» := fun k x t v h => by
  rcases ZDm h with ⟨i, u, rfl, e⟩ | ⟨y, u, rfl, e⟩
  ·exact nomatch e
  ·injection e with e1 _
   subst e1
   cases v <;> rfl
theorem ZLh (prog : Program) (w : World) (i : Int) (t : Tok) : (ZDg prog w).is (.inl i) (.int i t) = true := ZNI i t
theorem ZLi (prog : Program) (w : World) (x : Str) (t : Tok) : (ZDg prog w).is (.inr x) (.str x t) = true := ZNJ x t
inductive V where
 | non | bl (b : Bool) | int (i : Int) | str (x : Str) | byt (b : Array UInt8) | flt (b : UInt64) | ref (a : Addr) | ty (n : String)
 deriving DecidableEq
def ZCx : V → Value → Prop
 | .non, u => u = Value.none
 | .bl b, u => u = Value.bool b
 | .int i, u => ∃ t, u = Value.int i t
 | .str x, u => ∃ t, u = Value.str x t
 | .byt b, u => ∃ t, u = Value.bytes b t
 | .flt b, u => ∃ t, u = Value.float b t
 | .ref a, u => u = Value.ref a
 | .ty n, u => u = Value.type n
abbrev ZCz : List V → List Value → Prop := Paired ZCx
theorem ZCz.length {xs : List V} {us : List Value} (r : ZCz xs us) : xs.length = us.length := Paired.length r
theorem ZCz.get : ∀ {xs : List V} {us : List Value} {i : Nat} {x : V}, ZCz xs us → xs[i]? = some x → ∃ u, us[i]? = some u ∧ ZCx x u
 | _, _, _, _, .nil, e => by simp at e
 | _, _, 0, _, .cons r _, e => by simp at e; subst e; exact ⟨_, rfl, r⟩
 | _, _, i + 1, x, .cons _ t, e => by
  obtain ⟨u, h1, h2⟩ := ZCz.get (i := i) (x := x) t (by simpa using e)
  exact ⟨u, by simpa using h1, h2⟩
theorem ZCz.set {x : V} {u : Value} (r : ZCx x u) : ∀ {xs : List V} {us : List Value} (i : Nat), ZCz xs us → ZCz (xs.set i x) (us.set i u)
 | _, _, _, .nil => .nil
 | _, _, 0, .cons _ t => .cons r t
 | _, _, i + 1, .cons q t => .cons q (ZCz.set r i t)
theorem ZCz.append : ∀ {xs ys : List V} {us ws : List Value}, ZCz xs us → ZCz ys ws → ZCz (xs ++ ys) (us ++ ws)
 | _, _, _, _, .nil, s => s
 | _, _, _, _, .cons r t, s => .cons r (ZCz.append t s)
def ZEV : Option V → Option Value → Prop
 | some v, some u => ZCx v u
 | none, none => True
 | _, _ => False
def KV {κ : Type} : List (κ × V) → List (κ × Value) → Prop := Paired fun (p : κ × V) (q : κ × Value) => p.1 = q.1 ∧ ZCx p.2 q.2
def kV : Key → V
 | .inl i => .int i
 | .inr x => .str x
inductive HO where
 /-- a list -/
 | lst (xs : List V)
 /-- a tuple (never changes) -/
 | tup (xs : List V)
 /-- a dict whose keys are ints and texts; one whose keys are tuples of ints and texts (the empty one is both) -/
 | dK (kvs : List (Key × V)) | dT (kvs : List (List Key × V))
 /-- a set of ints: its members, its size -/
 | set (S : Int → Bool) (n : Nat)
 /-- an instance of the class at C, its dict at dx, its attributes -/
 | ins (C dx : Addr) (fs : List (Str × V))
 /-- the dict of the instance at x -/
 | own (x : Addr)
 /-- the dict of an exception -/
 | xd (fs : List (Str × V))
 /-- a bound method, f of x -/
 | met (f x : Addr)
 /-- a range object lo, lo + 1, .. below hi -/
 | rng (lo hi : Int)
 /-- a thing that is known to the object (the script; a dict while a loop walks it): read, never written while it is so -/
 | frz (o : Obj) (u : HO)
 /-- a code object's table -/
 | tbl (ps : Array Value)
 /-- any other thing, by what is true of its one object (a def of one's own: SetO a S n := HO.ext fun h => ..) -/
 | ext (φ : Heap → Prop)
abbrev Hp := Addr → Option HO
def upd (H : Hp) (a : Addr) (o : HO) : Hp := fun b => if b = a then some o else H b
theorem ZCy {H : Hp} {a : Addr} {o : HO} : upd H a o a = some o := by unfold upd; rw [if_pos rfl]
theorem ZC3 {H : Hp} {a b : Addr} {o : HO} (h : b ≠ a) : upd H a o b = H b := by unfold upd; rw [if_neg h]
theorem ZT0 {H : Hp} {a b : Addr} {o u : HO} (h : H a = some o) (h' : H b = some u) (d : o ≠ u) : a ≠ b := by
 intro e; subst e; rw [h] at h'; exact d (Option.some.inj h')
theorem ZDH {H : Hp} {a b : Addr} {o : HO} (h : H a = some o) (h' : H b = none) : a ≠ b := by
 intro e; subst e; rw [h] at h'; cases h'
section
variable (P : Program) (w : World)
def ZDR (H : Hp) (h : Heap) (a : Addr) : HO → Prop
 | .lst xs => xs.length ≤ sizeLine ∧ ∃ (its : List Value) (n : Nat), ZCz xs its ∧ h.get? a = some { cls := .type "list", data := .seq its.toArray n }
 | .tup xs => (xs.length ≤ sizeLine ∧ ((∀ i : Int, xs.head? ≠ some (.int i)) → ∃ o, h.get? a = some o ∧ o.dict = none ∧ o.slots = #[])) ∧ ∃ its : List Value, ZCz xs its ∧ IsTup h a its.toArray
 | .dK kvs => kvs.length ≤ sizeLine ∧ (a == sysModules) = false ∧ ∃ vs, KV kvs vs ∧ h.DictOf (ZDg P w) a vs
 | .dT kvs => kvs.length ≤ sizeLine ∧ (a == sysModules) = false ∧ ∃ xs : List (List Key × Addr × Value),
  Paired (fun (p : List Key × V) (q : List Key × Addr × Value) => p.1 = q.1 ∧ H q.2.1 = some (.tup (p.1.map kV)) ∧ ZCx p.2 q.2.2) kvs xs ∧
  ∃ o es ep, h.get? a = some o ∧ o.ExactDict ∧ o.data = .dict es ep ∧ es.toList = xs.map (entryOfKey (tupleKind (ZDg P w))) ∧ (xs.map (·.1)).Nodup
 | .set S n => h.SetOf (intKind P w) a S n
 | .ins C dx fs => H dx = some (.own a) ∧ fs.length ≤ 1000 ∧ dx ≠ a ∧ h.get? a = some (PySem.W.instObj C dx) ∧
  ∃ mA, h.Ns1 dx mA ∧ (∀ f, ZEV (fs.lookup f) (mA f)) ∧ PySem.Within mA (fs.map (·.1))
 | .own _ => ∃ o, h.get? a = some o
 | .xd fs => ∃ mA, h.Ns1 a mA ∧ ∀ f, ZEV (fs.lookup f) (mA f)
 | .rng lo hi => ∃ t u v, h.get? a = some { cls := .type "range", data := .fields #[.int lo t, .int hi u, .int 1 v] }
 | .frz o u => h.get? a = some o ∧ ZDR H h a u
 | .tbl ps => h.get? a = some { cls := .none, data := .fields ps }
 | .met f x => h.get? a = some (PySem.W.methodObj (.ref f) (.ref x))
 | .ext φ => φ h ∧ (∃ o, h.get? a = some o) ∧ ∀ h1 h2 : Heap, φ h1 → (∀ o, h1.get? a = some o → h2.get? a = some o) → φ h2
def HOk (H : Hp) (h : Heap) : Prop := ∀ a o, H a = some o → ZDR P w H h a o
end
section
variable {P : Program} {w : World} {H H' : Hp} {h h' : Heap} {a : Addr} {o : HO}
theorem ZDR.lt (x : ZDR P w H h a o) : a < h.objs.size := by
 cases o with
 | lst xs => obtain ⟨_, _, _, _, e⟩ := x; exact Heap.lt_size e
 | tup xs => obtain ⟨_, _, _, p⟩ := x; exact p.lt
 | dK kvs => obtain ⟨_, _, _, _, o, _, _, e, _⟩ := x; exact Heap.lt_size e
 | dT kvs => obtain ⟨_, _, _, _, o, _, _, e, _⟩ := x; exact Heap.lt_size e
 | set S n => obtain ⟨o, _, _, _, e, _⟩ := x; exact Heap.lt_size e
 | ins C dx fs => obtain ⟨_, _, _, e, _⟩ := x; exact Heap.lt_size e
 | own y => obtain ⟨_, e⟩ := x; exact Heap.lt_size e
 | xd fs => obtain ⟨_, ⟨_, _, _, e, _⟩, _⟩ := x; exact Heap.lt_size e
 | rng lo hi => obtain ⟨_, _, _, e⟩ := x; exact Heap.lt_size e
 | frz ob u => obtain ⟨e, _⟩ := x; exact Heap.lt_size e
 | tbl ps => exact Heap.lt_size (show h.get? a = some _ from x)
 | met f y => exact Heap.lt_size (show h.get? a = some _ from x)
 | ext φ => obtain ⟨_, ⟨_, e⟩, _⟩ := x; exact Heap.lt_size e
theorem Paired.mapP {α β : Type} {F G : α → β → Prop} : ∀ {l₁ : List α} {l₂ : List β}, Paired F l₁ l₂ → (∀ a b, F a b → G a b) → Paired G l₁ l₂
 | _, _, .nil, _ => .nil
 | _, _, .cons r t, f => .cons (f _ _ r) (Paired.mapP t f)
theorem ZDR.stay (x : ZDR P w H h a o) (k : ∀ b u, (b = a ∨ H b = some (.own a)) → h.get? b = some u → h'.get? b = some u)
  (ho : ∀ b, H b = some (.own a) → H' b = some (.own a)) (ht : ∀ b xs, H b = some (.tup xs) → H' b = some (.tup xs)) : ZDR P w H' h' a o := by
 induction o with
 | lst xs => obtain ⟨z, its, n, r, e⟩ := x; exact ⟨z, its, n, r, k _ _ (.inl rfl) e⟩
 | tup xs =>
  obtain ⟨⟨z, pd⟩, its, r, ob, e, c⟩ := x
  exact ⟨⟨z, fun q => let ⟨od, ed, cd⟩ := pd q; ⟨od, k _ _ (.inl rfl) ed, cd⟩⟩, its, r, ob, k _ _ (.inl rfl) e, c⟩
 | dK kvs => obtain ⟨z, y, vs, r, ob, es, ep, e, c⟩ := x; exact ⟨z, y, vs, r, ob, es, ep, k _ _ (.inl rfl) e, c⟩
 | dT kvs =>
  obtain ⟨z, y, xs, r, ob, es, ep, e, c⟩ := x
  exact ⟨z, y, xs, Paired.mapP r fun p q z => ⟨z.1, ht _ _ z.2.1, z.2.2⟩, ob, es, ep, k _ _ (.inl rfl) e, c⟩
 | set S n => obtain ⟨ob, es, ep, t, e, c⟩ := x; exact ⟨ob, es, ep, t, k _ _ (.inl rfl) e, c⟩
 | ins C dx fs =>
  obtain ⟨d, z, ne, e, mA, ⟨od, es, ep, e2, c⟩, r⟩ := x
  exact ⟨ho _ d, z, ne, k _ _ (.inl rfl) e, mA, ⟨od, es, ep, k _ _ (.inr d) e2, c⟩, r⟩
 | own y => obtain ⟨ob, e⟩ := x; exact ⟨ob, k _ _ (.inl rfl) e⟩
 | xd fs => obtain ⟨mA, ⟨od, es, ep, e, c⟩, r⟩ := x; exact ⟨mA, ⟨od, es, ep, k _ _ (.inl rfl) e, c⟩, r⟩
 | rng lo hi => obtain ⟨t, u, v, e⟩ := x; exact ⟨t, u, v, k _ _ (.inl rfl) e⟩
 | frz ob u ih => obtain ⟨e, q⟩ := x; exact ⟨k _ _ (.inl rfl) e, ih q⟩
 | tbl ps =>
  have e : h.get? a = some { cls := .none, data := .fields ps } := x
  show h'.get? a = some { cls := .none, data := .fields ps }
  exact k a _ (.inl rfl) e
 | met f y =>
  have e : h.get? a = some (PySem.W.methodObj (.ref f) (.ref y)) := x
  show h'.get? a = some (PySem.W.methodObj (.ref f) (.ref y))
  exact k a _ (.inl rfl) e
 | ext φ => obtain ⟨p, ⟨o, e⟩, st⟩ := x; exact ⟨st _ _ p fun o q => k _ _ (.inl rfl) q, ⟨o, k _ _ (.inl rfl) e⟩, st⟩
theorem HOk.lt (x : HOk P w H h) (e : H a = some o) : a < h.objs.size := (x a o e).lt
theorem HOk.fresh (x : HOk P w H h) (e : h.objs.size ≤ a) : H a = none := by
 cases q : H a with
 | none => rfl
 | some u => exact absurd (Nat.lt_of_lt_of_le (x.lt q) e) (Nat.lt_irrefl _)
theorem HOk.kept (x : HOk P w H h) (k : ∀ b u, h.get? b = some u → h'.get? b = some u) : HOk P w H h' := fun a o e =>
 (x a o e).stay (fun b u _ q => k b u q) (fun _ q => q) fun _ _ q => q
theorem HOk.laid (x : HOk P w H h) (k : ∀ b u, h.get? b = some u → h'.get? b = some u) (hp : h.objs.size ≤ a) (new : ZDR P w (upd H a o) h' a o) : HOk P w (upd H a o) h' := fun b u e => by
 have hn := x.fresh hp
 by_cases hb : b = a
 ·subst hb; rw [ZCy] at e; cases e; exact new
 ·rw [ZC3 hb] at e
  exact (x b u e).stay (fun c v _ q => k c v q) (fun c q => by rw [ZC3 (ZDH q hn)]; exact q) fun c xs q => by rw [ZC3 (ZDH q hn)]; exact q
end
def Rd (H : Hp) (a : Addr) (u : HO) : Prop := H a = some u ∨ ∃ o, H a = some (.frz o u)
theorem Rd.ok {P : Program} {w : World} {H : Hp} {h : Heap} {a : Addr} {u : HO} (r : Rd H a u) (x : HOk P w H h) : ZDR P w H h a u := by
 rcases r with r | ⟨o, r⟩
 ·exact x a u r
 ·obtain ⟨_, q⟩ := x a _ r
  exact q
def Mut : Option HO → Prop
 | some (.lst _) => True
 | some (.dK _) => True
 | some (.dT _) => True
 | some (.set _ _) => True
 | some (.ins _ _ _) => True
 | some (.ext _) => True
 | _ => False
section
variable {P : Program} {w : World} {H : Hp} {h h' : Heap} {x e : Addr} {o' : HO}
theorem HOk.write (ok : HOk P w H h) (mu : Mut (H x)) (he : e = x ∨ H e = some (.own x)) (k : ∀ b u, b ≠ e → h.get? b = some u → h'.get? b = some u) (heo : ∃ u, h'.get? e = some u)
  (new : ZDR P w (upd H x o') h' x o') : HOk P w (upd H x o') h' := fun b u q => by
 have nown : ∀ c y, H c = some (.own y) → c ≠ x := fun c y r z => by subst z; rw [r] at mu; exact mu
 have ntup : ∀ c xs, H c = some (.tup xs) → c ≠ x := fun c xs r z => by subst z; rw [r] at mu; exact mu
 by_cases hb : b = x
 ·subst hb; rw [ZCy] at q; cases q; exact new
 ·rw [ZC3 hb] at q
  by_cases hbe : b = e
  ·have q' : H b = some (.own x) := by
    rcases he with z | z
    ·exact absurd (hbe.trans z) hb
    ·rw [hbe]; exact z
   rw [q] at q'; cases q'
   obtain ⟨v, hv⟩ := heo
   exact ⟨v, by rw [hbe]; exact hv⟩
  ·refine (ok b u q).stay (fun c v hc r => k c v ?_ r) (fun c r => by rw [ZC3 (nown c b r)]; exact r) fun c xs r => by rw [ZC3 (ntup c xs r)]; exact r
   rcases hc with rfl | hc
   ·exact hbe
   ·rintro rfl
    rcases he with z | z
    ·exact nown c b hc z
    ·rw [hc] at z; cases z; exact hb rfl
end
structure Un (fs ex : List Addr) (H H' : Hp) (h h' : Heap) : Prop where
 keep : ∀ b o, h.get? b = some o → H b = none → b ∉ fs → b ∉ ex → h'.get? b = some o
 slot : ∀ b o, h.get? b = some o → H b = none → b ∈ fs → b ∉ ex → ∃ sl, h'.get? b = some { o with slots := sl }
 free : ∀ b o, h.get? b = some o → H b = none → b ∉ ex → H' b = none
 there : ∀ b o, h.get? b = some o → b ∉ ex → ∃ o', h'.get? b = some o'
 tups : ∀ b xs, H b = some (.tup xs) → H' b = some (.tup xs)
 frzs : ∀ b o u, H b = some (.frz o u) → H' b = some (.frz o u)
 tbls : ∀ b ps, H b = some (.tbl ps) → ∃ more, H' b = some (.tbl (ps ++ more))
section
variable {fs fs' ex ex' : List Addr} {H H1 H2 : Hp} {h h1 h2 h' : Heap} {a x e : Addr} {o : HO}
theorem Un.any (u : Un fs ex H H1 h h1) {b : Addr} {ob : Obj} (q : h.get? b = some ob) (n : H b = none) (hx : b ∉ ex) : ∃ sl, h1.get? b = some { ob with slots := sl } := by
 by_cases hb : b ∈ fs
 ·exact u.slot b ob q n hb hx
 ·exact ⟨ob.slots, u.keep b ob q n hb hx⟩
theorem Un.kept (k : ∀ b u, h.get? b = some u → h'.get? b = some u) : Un fs ex H H h h' :=
 ⟨fun b ob q _ _ _ => k b ob q, fun b ob q _ _ _ => ⟨ob.slots, k b ob q⟩, fun _ _ _ n _ => n, fun b ob q _ => ⟨ob, k b ob q⟩, fun _ _ q => q, fun _ _ _ q => q, fun _ ps q => ⟨#[], by rw [q]; simp⟩⟩
theorem Un.refl : Un fs ex H H h h := Un.kept fun _ _ q => q
theorem Un.laid (k : ∀ b u, h.get? b = some u → h'.get? b = some u) (hp : h.objs.size ≤ a) (hn : H a = none) : Un fs ex H (upd H a o) h h' where
 keep := fun b u q _ _ _ => k b u q
 slot := fun b u q _ _ _ => ⟨u.slots, k b u q⟩
 free := fun b u q n _ => by rw [ZC3 (Nat.ne_of_lt (Nat.lt_of_lt_of_le (Heap.lt_size q) hp))]; exact n
 there := fun b u q _ => ⟨u, k b u q⟩
 tups := fun b xs q => by rw [ZC3 (ZDH q hn)]; exact q
 frzs := fun b u xs q => by rw [ZC3 (ZDH q hn)]; exact q
 tbls := fun b ps q => ⟨#[], by rw [ZC3 (ZDH q hn), q]; simp⟩
theorem Un.write (mu : Mut (H x)) (he : e = x ∨ H e = some (.own x)) (k : ∀ b u, b ≠ e → h.get? b = some u → h'.get? b = some u) (heo : ∃ u, h'.get? e = some u) : Un fs ex H (upd H x o) h h' := by
 have hx : ∀ b, H b = none → b ≠ x := fun b n z => by subst z; rw [n] at mu; exact mu
 have hb : ∀ b, H b = none → b ≠ e := fun b n z => by
  subst z
  rcases he with r | r
  ·exact hx b n r
  ·rw [n] at r; cases r
 have hm : ∀ b u, H b = some u → ¬ Mut (some u) → b ≠ x := fun b u q nm z => by subst z; rw [q] at mu; exact nm mu
 refine ⟨fun b u q n _ _ => k b u (hb b n) q, fun b u q n _ _ => ⟨u.slots, k b u (hb b n) q⟩, fun b u q n _ => by rw [ZC3 (hx b n)]; exact n, fun b u q _ => ?_,
  fun b xs q => by rw [ZC3 (hm b _ q fun z => z)]; exact q, fun b u xs q => by rw [ZC3 (hm b _ q fun z => z)]; exact q, fun b ps q => ⟨#[], by rw [ZC3 (hm b _ q fun z => z), q]; simp⟩⟩
 by_cases hbe : b = e
 ·subst hbe; exact heo
 ·exact ⟨u, k b u hbe q⟩
end
def trk (h : Heap) (H : Hp) : List Addr := (List.range h.objs.size).filter fun a => (H a).isSome
def ZGw (h : Heap) (H : Hp) : Heap := PySem.W.hideAll h (trk h H)
theorem ZNK (h : Heap) (H : Hp) : (ZGw h H).objs.size = h.objs.size := PySem.W.hideAll_size _ _
theorem ZOj {h : Heap} {H : Hp} {b : Addr} {o : Obj} (e : h.get? b = some o) (n : H b = none) : (ZGw h H).get? b = some o :=
 PySem.W.hideAll_get _ e fun hm => by
  have q : (H b).isSome = true := (List.mem_filter.mp hm).2
  rw [n] at q; simp at q
theorem ZQn {h : Heap} {H : Hp} {b : Addr} {o : Obj} (e : (ZGw h H).get? b = some o) : h.get? b = some o ∧ H b = none := by
 have e' : h.get? b = some o := PySem.W.of_hideAll (trk h H) e
 refine ⟨e', ?_⟩
 cases q : H b with
 | none => rfl
 | some x =>
  have hm : b ∈ trk h H := List.mem_filter.mpr ⟨List.mem_range.mpr (Heap.lt_size e'), by simp [q]⟩
  have z : (ZGw h H).get? b = none := PySem.W.hideAll_none (trk h H) hm
  rw [z] at e; cases e
def ZQo (g h : Heap) (L : Addr) : List (Addr × Obj) := (List.range h.objs.size).filterMap fun a => if a = L ∨ (g.get? a).isSome = true then none else (h.get? a).map fun o => (a, o)
def ZEA (g h : Heap) (L d : Addr) : List (Addr × Obj) := (ZQo g h L).filter fun p => decide (p.1 ≠ d)
structure Mod (K : W.Frag) (mg : Str → Option Value) (base : Heap) : Prop where
 kin : K.In base
 glob : base.Ns mainGlobals mg
 blt : ∃ mb, base.Ns builtinsNs mb ∧ ∀ x : Str, x ≠ "__name__" → mb x = bootBuiltins x
 nolimit : base.NoLimit
structure Cx where
 prog : Program
 w : World
 K : W.Frag
 mg : Str → Option Value
 base : Heap
 A : Around
 N : List Str
 s₀ : Shared
 H₀ : Hp
 env : Env
 outer : List Env
 stack : List Env
 ex : List Addr
 fn : Str → Bool
 calm : Bool
 pn : List (Addr × Obj)
 xe : Value → Shared → Prop
def frs (l : List Env) : List Addr := l.filterMap (·.frame)
abbrev Cx.fs (X : Cx) : List Addr := frs X.outer
def Vis (sc : Scope) (x : Str) : Prop := sc.names.lookup x = some .local ∨ sc.names.lookup x = some .cell ∨ sc.names.lookup x = some .free
def Loc (sc : Scope) (x : Str) : Prop := sc.names.lookup x = some .local ∨ sc.names.lookup x = some .cell
def ZUQ (env : Env) (h : Heap) (m : Str → Option Value) (x : Str) (u : Value) : Prop :=
 (env.kindOf x = some .local ∧ m x = some u) ∨ ((env.kindOf x = some .cell ∨ env.kindOf x = some .free) ∧ ∃ c, env.cells.lookup x = some c ∧ h.IsCell c (some u))
structure Cx.Ok (X : Cx) : Prop where
 mod : Mod X.K X.mg X.base
 kind : X.env.scope.kind = .function
 glob : X.env.globals = mainGlobals
 blt : X.env.builtins = builtinsNs
 above : X.s₀.heap.objs.size ≤ X.env.locals
 inj : ∀ x y c, X.env.cells.lookup x = some c → X.env.cells.lookup y = some c → x = y
 has : ∀ x, (X.env.kindOf x = some .cell ∨ X.env.kindOf x = some .free) → ∃ c, X.env.cells.lookup x = some c
 cab : ∀ x c, X.fn x = true → X.env.cells.lookup x = some c → X.s₀.heap.objs.size ≤ c
 hd : X.calm = true → X.A.handled = none
 frames : X.A.frames = some X.stack
 stk : X.stack = X.outer ∨ (X.stack = X.env :: X.outer ∧ X.env.frame = some X.env.locals)
 exf : ∀ b ∈ X.ex, b ≠ X.env.locals ∧ ∀ x c, X.env.cells.lookup x = some c → c ≠ b
 bs : ∀ b o, X.base.get? b = some o → X.s₀.heap.get? b = some o ∧ X.H₀ b = none
 bsz : X.base.objs.size ≤ X.s₀.heap.objs.size
 noex : ∀ b o, X.base.get? b = some o → b ∉ X.ex
 exfs : ∀ b ∈ X.ex, b ∉ X.fs
 funs : X.s₀.heap.FunFrames X.base X.outer
 frf : ∀ b ∈ X.fs, X.H₀ b = none
structure Inv (X : Cx) (pins : List (Addr × Obj)) (σ : List (Option V)) (H : Hp) (s : Shared) : Prop where
 ok : X.Ok
 os : s.os = X.s₀.os
 bare : AllBare s.gens
 base : Un X.fs X.ex X.H₀ H X.s₀.heap s.heap
 loc : ∃ m, s.heap.Ns X.env.locals m ∧ ∀ (i : Nat) (x : Str) (v : V), X.N[i]? = some x → σ[i]? = some (some v) → Vis X.env.scope x → ∃ u, ZCx v u ∧ ZUQ X.env s.heap m x u
 cell : ∀ x c, X.env.cells.lookup x = some c → ∃ v, s.heap.IsCell c v
 free : H X.env.locals = none
 freeC : ∀ x c, X.env.cells.lookup x = some c → H c = none
 pin : ∀ p ∈ X.pn ++ pins, s.heap.get? p.1 = some p.2 ∧ H p.1 = none ∧ p.1 ≠ X.env.locals ∧ p.1 ∉ X.fs ∧ ∀ v, p.2.data ≠ .cell v
 hok : HOk X.prog X.w H s.heap
 len : σ.length = X.N.length
section
variable {X : Cx} {pins : List (Addr × Obj)} {σ : List (Option V)} {H H' : Hp} {s : Shared} {h' : Heap}
theorem Cx.Ok.nofr (ok : X.Ok) {b : Addr} {o : Obj} (e : X.base.get? b = some o) : b ∉ X.fs := fun hb => by
 have := (ok.funs.mem hb).1
 rw [e] at this; cases this
theorem Inv.bs (I : Inv X pins σ H s) : ∀ b o, X.base.get? b = some o → s.heap.get? b = some o ∧ H b = none := fun b o e =>
 ⟨I.base.keep b o (I.ok.bs b o e).1 (I.ok.bs b o e).2 (I.ok.nofr e) (I.ok.noex b o e), I.base.free b o (I.ok.bs b o e).1 (I.ok.bs b o e).2 (I.ok.noex b o e)⟩
theorem Inv.bk (I : Inv X pins σ H s) : ∀ b o, X.base.get? b = some o → s.heap.get? b = some o := fun b o e => (I.bs b o e).1
theorem Inv.mod (I : Inv X pins σ H s) : Mod X.K X.mg X.base := I.ok.mod
theorem Inv.kIn (I : Inv X pins σ H s) : X.K.In s.heap := I.ok.mod.kin.keeps I.bk
theorem Inv.lt (I : Inv X pins σ H s) : X.env.locals < s.heap.objs.size := let ⟨_, hn, _⟩ := I.loc; hn.lt
theorem Inv.sz (I : Inv X pins σ H s) : X.s₀.heap.objs.size ≤ s.heap.objs.size := Nat.le_trans I.ok.above (Nat.le_of_lt I.lt)
theorem Inv.nofs (I : Inv X pins σ H s) {a : Addr} (h : s.heap.objs.size ≤ a) : a ∉ X.fs := fun hb => by
 obtain ⟨_, o, ho, _⟩ := I.ok.funs.mem hb
 exact absurd (Nat.lt_of_lt_of_le (Heap.lt_size ho) (Nat.le_trans I.sz h)) (Nat.lt_irrefl _)
theorem Inv.cne (I : Inv X pins σ H s) : ∀ x c, X.env.cells.lookup x = some c → c ≠ X.env.locals := fun x c e z => by
 obtain ⟨v, o, ho, hd⟩ := I.cell x c e
 obtain ⟨m, ⟨o', es, ep, ho', hd', _⟩, _⟩ := I.loc
 rw [z, ho'] at ho; cases ho; rw [hd'] at hd; cases hd
theorem Inv.funs (I : Inv X pins σ H s) : s.heap.FunFrames X.base X.outer := by
 have all : ∀ (l : List Env), (∀ b ∈ frs l, b ∈ X.fs) → X.s₀.heap.FunFrames X.base l → s.heap.FunFrames X.base l := by
  intro l
  induction l with
  | nil => intro _ _; trivial
  | cons env r ih =>
   intro hs hl
   obtain ⟨hk, ⟨L, o, hf, hn, ho, hd⟩, hr⟩ := hl
   have hL : L ∈ X.fs := hs L (by unfold frs; rw [List.filterMap_cons, hf]; exact List.mem_cons_self)
   obtain ⟨sl, e⟩ := I.base.slot L o ho (I.ok.frf L hL) hL fun z => I.ok.exfs L z hL
   exact ⟨hk, ⟨L, _, hf, hn, e, hd⟩, ih (fun b hb => hs b (by unfold frs; rw [List.filterMap_cons, hf]; exact List.mem_cons_of_mem _ hb)) hr⟩
 exact all X.outer (fun _ hb => hb) I.ok.funs
theorem Inv.stack (I : Inv X pins σ H s) : s.heap.FunFrames X.base X.stack := by
 rcases I.ok.stk with e | ⟨e, hf⟩
 ·rw [e]; exact I.funs
 ·rw [e]
  obtain ⟨m, hn, _⟩ := I.loc
  refine .cons (by rw [I.ok.kind]; decide) hf hn ?_ I.funs
  exact Heap.get?_none_of_le (Nat.le_trans I.ok.bsz I.ok.above)
theorem Inv.stkSub (I : Inv X pins σ H s) : ∀ b ∈ frs X.stack, b ∈ X.env.locals :: X.fs := fun b hb => by
 rcases I.ok.stk with e | ⟨e, hf⟩
 ·rw [e] at hb; exact List.mem_cons_of_mem _ hb
 ·rw [e] at hb
  unfold frs at hb
  rw [List.filterMap_cons, hf] at hb
  exact hb
theorem Inv.stkFree (I : Inv X pins σ H s) : ∀ b ∈ frs X.stack, H b = none := fun b hb => by
 rcases List.mem_cons.mp (I.stkSub b hb) with e | hb
 ·rw [e]; exact I.free
 ·obtain ⟨_, o, ho, _⟩ := I.ok.funs.mem hb
  exact I.base.free b o ho (I.ok.frf b hb) fun z => I.ok.exfs b z hb
theorem Inv.step {g' : Array GenState} {t' : Nat} {d' : Drawn} {ch : List Addr} (I : Inv X pins σ H s)
  (hch : ∀ b ∈ ch, (b ∈ X.ex ∨ X.s₀.heap.objs.size ≤ b) ∧ b ≠ X.env.locals ∧ (∀ x c, X.env.cells.lookup x = some c → c ≠ b) ∧ ∀ p ∈ X.pn ++ pins, p.1 ≠ b)
  (keep : ∀ b o, b ≠ X.env.locals → b ∉ X.fs → b ∉ ch → s.heap.get? b = some o → H b = none → h'.get? b = some o)
  (slot : ∀ b o, b ≠ X.env.locals → b ∈ X.fs → b ∉ ch → s.heap.get? b = some o → H b = none → ∃ sl, h'.get? b = some { o with slots := sl }) (free : ∀ b o, b ∉ ch → s.heap.get? b = some o → H b = none → H' b = none)
  (there : ∀ b o, b ∉ ch → s.heap.get? b = some o → ∃ o', h'.get? b = some o')
  (tups : ∀ b xs, H b = some (.tup xs) → H' b = some (.tup xs)) (frzs : ∀ b o u, H b = some (.frz o u) → H' b = some (.frz o u)) (tbls : ∀ b ps, H b = some (.tbl ps) → ∃ more, H' b = some (.tbl (ps ++ more)))
  (ns : ∀ m, s.heap.Ns X.env.locals m → h'.Ns X.env.locals m) (hok : HOk X.prog X.w H' h') (hg : AllBare g') :
  Inv X pins σ H' { s with heap := h', gens := g', drawn := d', toks := t' } := by
 have neL : ∀ b o, X.s₀.heap.get? b = some o → b ≠ X.env.locals := fun b o e => Nat.ne_of_lt (Nat.lt_of_lt_of_le (Heap.lt_size e) I.ok.above)
 have neC : ∀ b o, X.s₀.heap.get? b = some o → b ∉ X.ex → b ∉ ch := fun b o e hx hb => by
  rcases (hch b hb).1 with z | z
  ·exact hx z
  ·exact absurd (Nat.lt_of_lt_of_le (Heap.lt_size e) z) (Nat.lt_irrefl _)
 have cellK : ∀ x c, X.env.cells.lookup x = some c → ∀ v, s.heap.IsCell c v → h'.IsCell c v := fun x c e v ⟨o, ho, hd⟩ => by
  have nch : c ∉ ch := fun z => (hch c z).2.2.1 x c e rfl
  by_cases hc : c ∈ X.fs
  ·obtain ⟨sl, q⟩ := slot c o (I.cne x c e) hc nch ho (I.freeC x c e)
   exact ⟨_, q, hd⟩
  ·exact ⟨o, keep c o (I.cne x c e) hc nch ho (I.freeC x c e), hd⟩
 refine ⟨I.ok, I.os, hg, ⟨fun b o e n hb hx => ?_, fun b o e n hb hx => ?_, fun b o e n hx => ?_, fun b o e hx => ?_, fun b xs e => tups b xs (I.base.tups b xs e), fun b o xs e => frzs b o xs (I.base.frzs b o xs e), fun b ps e => ?_⟩, ?_, fun x c e => ?_, ?_, fun x c e => ?_, fun p hp => ?_, hok, I.len⟩
 ·exact keep b o (neL b o e) hb (neC b o e hx) (I.base.keep b o e n hb hx) (I.base.free b o e n hx)
 ·obtain ⟨sl, e1⟩ := I.base.slot b o e n hb hx
  obtain ⟨sl', e2⟩ := slot b _ (neL b o e) hb (neC b o e hx) e1 (I.base.free b o e n hx)
  exact ⟨sl', e2⟩
 ·obtain ⟨o', e1⟩ := I.base.there b o e hx
  exact free b o' (neC b o e hx) e1 (I.base.free b o e n hx)
 ·obtain ⟨o', e1⟩ := I.base.there b o e hx
  exact there b o' (neC b o e hx) e1
 ·obtain ⟨m1, e1⟩ := I.base.tbls b ps e
  obtain ⟨m2, e2⟩ := tbls b _ e1
  exact ⟨m1 ++ m2, by rw [e2, Array.append_assoc]⟩
 ·obtain ⟨m, hn, hl⟩ := I.loc
  refine ⟨m, ns m hn, fun i x v e1 e2 e3 => ?_⟩
  obtain ⟨u, r, l⟩ := hl i x v e1 e2 e3
  refine ⟨u, r, ?_⟩
  rcases l with l | ⟨k, c, e, z⟩
  ·exact .inl l
  ·exact .inr ⟨k, c, e, cellK x c e _ z⟩
 ·obtain ⟨v, z⟩ := I.cell x c e
  exact ⟨v, cellK x c e v z⟩
 ·obtain ⟨m, ⟨o, _, _, ho, _⟩, _⟩ := I.loc
  exact free _ o (fun z => (hch _ z).2.1 rfl) ho I.free
 ·obtain ⟨v, o, ho, hd⟩ := I.cell x c e
  exact free c o (fun z => (hch c z).2.2.1 x c e rfl) ho (I.freeC x c e)
 ·obtain ⟨e, n, ne, nf, d⟩ := I.pin p hp
  have nch : p.1 ∉ ch := fun z => (hch p.1 z).2.2.2 p hp rfl
  exact ⟨keep p.1 p.2 ne nf nch e n, free p.1 p.2 nch e n, ne, nf, d⟩
theorem Inv.un {t' : Nat} (I : Inv X pins σ H s) (u : Un X.fs [] H H' s.heap h') (hok : HOk X.prog X.w H' h') : Inv X pins σ H' { s with heap := h', toks := t' } := by
 obtain ⟨m, ⟨o, es, ep, ho, r⟩, _⟩ := id I.loc
 obtain ⟨sl, hL⟩ := u.any ho I.free (by simp)
 exact I.step (g' := s.gens) (d' := s.drawn) (ch := []) (fun _ z => nomatch z) (fun b o _ hb _ e n => u.keep b o e n hb (by simp)) (fun b o _ hb _ e n => u.slot b o e n hb (by simp)) (fun b o _ e n => u.free b o e n (by simp)) (fun b o _ e => u.there b o e (by simp)) u.tups u.frzs u.tbls (fun m' hm => by
  obtain ⟨o', es', ep', ho', r'⟩ := hm
  rw [ho] at ho'; cases ho'
  exact ⟨_, es', ep', hL, r'⟩) hok I.bare
theorem Inv.call {g' : Array GenState} {t' : Nat} {d' : Drawn} {ch : List Addr} (I : Inv X pins σ H s) (u : Un (frs X.stack) ch H H' s.heap h') (hok : HOk X.prog X.w H' h') (hg : AllBare g')
  (hch : ∀ b ∈ ch, (b ∈ X.ex ∨ X.s₀.heap.objs.size ≤ b) ∧ b ≠ X.env.locals ∧ (∀ x c, X.env.cells.lookup x = some c → c ≠ b) ∧ ∀ p ∈ X.pn ++ pins, p.1 ≠ b) :
  Inv X pins σ H' { s with heap := h', gens := g', drawn := d', toks := t' } := by
 obtain ⟨m, ⟨o, es, ep, ho, r⟩, _⟩ := id I.loc
 obtain ⟨sl, hL⟩ := u.any ho I.free fun z => (hch _ z).2.1 rfl
 exact I.step (ch := ch) hch (fun b o hL hb hc e n => u.keep b o e n (fun z => (List.mem_cons.mp (I.stkSub b z)).elim hL hb) hc) (fun b o _ _ hc e n => u.any e n hc) (fun b o hc e n => u.free b o e n hc) (fun b o hc e => u.there b o e hc) u.tups u.frzs u.tbls (fun m' hm => by
  obtain ⟨o', es', ep', ho', r'⟩ := hm
  rw [ho] at ho'; cases ho'
  exact ⟨_, es', ep', hL, r'⟩) hok hg
theorem Inv.turned {t' : Nat} {it : Addr} (I : Inv X pins σ H s) (k : ∀ b o, b ≠ it → s.heap.get? b = some o → h'.get? b = some o) (hn : H it = none) (hL : it ≠ X.env.locals)
  (h1 : it ∈ X.ex ∨ X.s₀.heap.objs.size ≤ it) (h2 : ∀ x c, X.env.cells.lookup x = some c → c ≠ it) (h3 : ∀ p ∈ X.pn ++ pins, p.1 ≠ it) : Inv X pins σ H { s with heap := h', toks := t' } := by
 have nit : ∀ b u, H b = some u → b ≠ it := fun b u e z => by rw [z, hn] at e; cases e
 refine I.step (g' := s.gens) (d' := s.drawn) (ch := [it]) (fun b hb => ?_) (fun b o _ _ hc e _ => k b o (fun z => hc (by simp [z])) e) (fun b o _ _ hc e _ => ⟨o.slots, k b o (fun z => hc (by simp [z])) e⟩) (fun _ _ _ _ n => n)
  (fun b o hc e => ⟨o, k b o (fun z => hc (by simp [z])) e⟩) (fun _ _ e => e) (fun _ _ _ e => e) (fun b ps e => ⟨#[], by rw [e]; simp⟩) (fun m hm => ?_) (fun b u e => ?_) I.bare
 ·have e : b = it := by simpa using hb
  subst e
  exact ⟨h1, hL, h2, h3⟩
 ·obtain ⟨o, es, ep, ho, r⟩ := hm
  exact ⟨o, es, ep, k _ o (Ne.symm hL) ho, r⟩
 ·refine (I.hok b u e).stay (fun c v hc q => k c v ?_ q) (fun _ q => q) fun _ _ q => q
  rcases hc with z | z
  ·rw [z]; exact nit b u e
  ·exact nit c _ z
theorem Inv.tok (I : Inv X pins σ H s) (t : Nat) : Inv X pins σ H { s with toks := t } := I.un (h' := s.heap) (t' := t) Un.refl I.hok
theorem Inv.kept {t' : Nat} (I : Inv X pins σ H s) (k : ∀ b u, s.heap.get? b = some u → h'.get? b = some u) : Inv X pins σ H { s with heap := h', toks := t' } := I.un (Un.kept k) (I.hok.kept k)
theorem Inv.laid {a : Addr} {o : HO} {t' : Nat} (I : Inv X pins σ H s) (k : ∀ b u, s.heap.get? b = some u → h'.get? b = some u) (hp : s.heap.objs.size ≤ a) (new : ZDR X.prog X.w (upd H a o) h' a o) :
 Inv X pins σ (upd H a o) { s with heap := h', toks := t' } := I.un (Un.laid k hp (I.hok.fresh hp)) (I.hok.laid k hp new)
theorem Inv.write {x e : Addr} {o : HO} {t' : Nat} (I : Inv X pins σ H s) (mu : Mut (H x)) (he : e = x ∨ H e = some (.own x)) (k : ∀ b u, b ≠ e → s.heap.get? b = some u → h'.get? b = some u) (heo : ∃ u, h'.get? e = some u)
 (new : ZDR X.prog X.w (upd H x o) h' x o) : Inv X pins σ (upd H x o) { s with heap := h', toks := t' } := I.un (Un.write mu he k heo) (I.hok.write mu he k heo new)
theorem Inv.pins_of {pins' : List (Addr × Obj)} (I : Inv X pins σ H s) (h : ∀ p ∈ pins', s.heap.get? p.1 = some p.2 ∧ H p.1 = none ∧ p.1 ≠ X.env.locals ∧ p.1 ∉ X.fs ∧ ∀ v, p.2.data ≠ .cell v) : Inv X pins' σ H s :=
 ⟨I.ok, I.os, I.bare, I.base, I.loc, I.cell, I.free, I.freeC, fun p hp => (List.mem_append.mp hp).elim (fun z => I.pin p (List.mem_append_left _ z)) (h p), I.hok, I.len⟩
theorem ZIX {N : List Str} (hN : N.Nodup) {i j : Nat} {x : Str} (a : N[i]? = some x) (b : N[j]? = some x) : i = j := by
 obtain ⟨h1, e1⟩ := List.getElem?_eq_some_iff.mp a
 obtain ⟨h2, e2⟩ := List.getElem?_eq_some_iff.mp b
 exact (List.getElem_inj hN).mp (e1.trans e2.symm)
theorem ZJl {M : Model} {A : Around} {E : Value → Shared → Prop} {i : Nat} {x : Str} {v : V} {u : Value} {Q : Unit → Shared → Prop} (I : Inv X pins σ H s) (hN : X.N.Nodup) (hi : X.N[i]? = some x) (hx : Loc X.env.scope x) (r : ZCx v u)
  (h : ∀ s', Inv X pins (σ.set i (some v)) H s' → (∃ a, Heap.SameBut a s.heap s'.heap ∧ (a = X.env.locals ∨ X.env.cells.lookup x = some a)) → Q () s') (hf : X.fn x = true ∨ X.env.scope.names.lookup x = some .local := by first | exact .inl rfl | exact .inr rfl | assumption) : wpAny M A (storeName X.env x u) Q E s := by
 obtain ⟨m, hn, hl⟩ := id I.loc
 have hcls : (X.env.scope.kind == .class || (X.env.scope.kind == .module && X.env.locals != X.env.globals)) = false := by rw [I.ok.kind]; rfl
 have hiσ : i < σ.length := by rw [I.len]; exact (List.getElem?_eq_some_iff.mp hi).1
 have cne := I.cne
 have tracked : ∀ {a : Addr} {h' : Heap}, (∃ o, s.heap.get? a = some o ∧ H a = none) → Heap.SameBut a s.heap h' → HOk X.prog X.w H h' := fun {a h'} ha hs b ob e => by
  obtain ⟨_, _, hfree⟩ := ha
  refine (I.hok b ob e).stay (fun c w' hc q => (hs.2 c ?_).trans q) (fun _ q => q) fun _ _ q => q
  rintro rfl
  rcases hc with rfl | hc
  ·rw [hfree] at e; cases e
  ·rw [hfree] at hc; cases hc
 rcases hx with hk | hk
 ·refine wpAny_storeName_local hk hn (fun h' hn' hs => ?_) hcls
  obtain ⟨oL, _, _, hoL, _⟩ := id hn
  refine h _ ⟨I.ok, I.os, I.bare, ⟨fun b o e n hb hx => ?_, fun b o e n hb hx => ?_, I.base.free, fun b o e hx => ?_, I.base.tups, I.base.frzs, I.base.tbls⟩, ⟨_, hn', fun j y v' e1 e2 e3 => ?_⟩, fun y c e => ?_, I.free, I.freeC, fun p hp => ?_, tracked ⟨oL, hoL, I.free⟩ hs, by simpa using I.len⟩ ⟨_, hs, .inl rfl⟩
  ·exact (hs.2 b (Nat.ne_of_lt (Nat.lt_of_lt_of_le (Heap.lt_size e) I.ok.above))).trans (I.base.keep b o e n hb hx)
  ·obtain ⟨sl, e1⟩ := I.base.slot b o e n hb hx
   exact ⟨sl, (hs.2 b (Nat.ne_of_lt (Nat.lt_of_lt_of_le (Heap.lt_size e) I.ok.above))).trans e1⟩
  ·obtain ⟨o', e1⟩ := I.base.there b o e hx
   exact ⟨o', (hs.2 b (Nat.ne_of_lt (Nat.lt_of_lt_of_le (Heap.lt_size e) I.ok.above))).trans e1⟩
  ·by_cases hj : j = i
   ·subst hj
    rw [hi] at e1; cases e1
    rw [List.getElem?_set_self hiσ] at e2
    cases e2
    exact ⟨u, r, .inl ⟨hk, by simp⟩⟩
   ·rw [List.getElem?_set_ne (Ne.symm hj)] at e2
    obtain ⟨u', r', q⟩ := hl j y v' e1 e2 e3
    refine ⟨u', r', ?_⟩
    rcases q with ⟨k, e⟩ | ⟨k, c, e, z⟩
    ·refine .inl ⟨k, ?_⟩
     have : y ≠ x := fun e => hj (ZIX hN e1 (e ▸ hi))
     simp [this, e]
    ·exact .inr ⟨k, c, e, z.sameBut hs (cne y c e)⟩
  ·obtain ⟨w', z⟩ := I.cell y c e
   exact ⟨w', z.sameBut hs (cne y c e)⟩
  ·obtain ⟨e, n, ne, nf, d⟩ := I.pin p hp
   exact ⟨(hs.2 p.1 ne).trans e, n, ne, nf, d⟩
 ·have hfn : X.fn x = true := by
   rcases hf with z | z
   ·exact z
   ·rw [z] at hk; cases hk
  obtain ⟨c, hc⟩ := I.ok.has x (.inl hk)
  obtain ⟨w', z⟩ := I.cell x c hc
  refine wpAny_storeName_cell I.ok.kind hk hc z (fun h' hc' hs => ?_)
  obtain ⟨oc, hoc, hocd⟩ := id z
  refine h { s with heap := h' } ⟨I.ok, I.os, I.bare, ⟨fun b o e n hb hx => ?_, fun b o e n hb hx => ?_, I.base.free, fun b o e hx => ?_, I.base.tups, I.base.frzs, I.base.tbls⟩, ⟨m, hn.sameBut hs (Ne.symm (cne x c hc)), fun j y v' e1 e2 e3 => ?_⟩, fun y c' e => ?_, I.free, I.freeC, fun p hp => ?_, tracked ⟨oc, hoc, I.freeC x c hc⟩ hs, by simpa using I.len⟩ ⟨c, hs, .inr hc⟩
  ·exact (hs.2 b (Nat.ne_of_lt (Nat.lt_of_lt_of_le (Heap.lt_size e) (I.ok.cab x c hfn hc)))).trans (I.base.keep b o e n hb hx)
  ·obtain ⟨sl, e1⟩ := I.base.slot b o e n hb hx
   exact ⟨sl, (hs.2 b (Nat.ne_of_lt (Nat.lt_of_lt_of_le (Heap.lt_size e) (I.ok.cab x c hfn hc)))).trans e1⟩
  ·obtain ⟨o', e1⟩ := I.base.there b o e hx
   exact ⟨o', (hs.2 b (Nat.ne_of_lt (Nat.lt_of_lt_of_le (Heap.lt_size e) (I.ok.cab x c hfn hc)))).trans e1⟩
  ·by_cases hj : j = i
   ·subst hj
    rw [hi] at e1; cases e1
    rw [List.getElem?_set_self hiσ] at e2
    cases e2
    exact ⟨u, r, .inr ⟨.inl hk, c, hc, hc'⟩⟩
   ·rw [List.getElem?_set_ne (Ne.symm hj)] at e2
    obtain ⟨u', r', q⟩ := hl j y v' e1 e2 e3
    refine ⟨u', r', ?_⟩
    rcases q with q | ⟨k, c', e, z'⟩
    ·exact .inl q
    ·refine .inr ⟨k, c', e, z'.sameBut hs ?_⟩
     rintro rfl
     exact hj (ZIX hN e1 (I.ok.inj _ _ _ e hc ▸ hi))
  ·by_cases hcc : c' = c
   ·subst hcc; exact ⟨_, hc'⟩
   ·obtain ⟨w2, z2⟩ := I.cell y c' e
    exact ⟨w2, z2.sameBut hs hcc⟩
  ·obtain ⟨e, n, ne, nf, d⟩ := I.pin p hp
   refine ⟨(hs.2 p.1 ?_).trans e, n, ne, nf, d⟩
   intro q
   rw [q, hoc] at e
   have q' : oc = p.2 := Option.some.inj e
   exact d w' (by rw [← q']; exact hocd)
theorem ZGx {M : Model} {A : Around} {E : Value → Shared → Prop} {i : Nat} {x : Str} {v : V} {u : Value} {Q : Unit → Shared → Prop} (I : Inv X pins σ H s) (hN : X.N.Nodup) (hi : X.N[i]? = some x) (hx : Loc X.env.scope x) (r : ZCx v u)
  (h : ∀ s', Inv X pins (σ.set i (some v)) H s' → Q () s') (hf : X.fn x = true ∨ X.env.scope.names.lookup x = some .local := by first | exact .inl rfl | exact .inr rfl | assumption) : wpAny M A (storeName X.env x u) Q E s :=
 ZJl I hN hi hx r (fun s' I' _ => h s' I') hf
theorem Inv.call' {s' : Shared} {ch : List Addr} (I : Inv X pins σ H s) (ho : s'.os = s.os) (u : Un (frs X.stack) ch H H' s.heap s'.heap) (hok : HOk X.prog X.w H' s'.heap) (hg : AllBare s'.gens)
  (hch : ∀ b ∈ ch, (b ∈ X.ex ∨ X.s₀.heap.objs.size ≤ b) ∧ b ≠ X.env.locals ∧ (∀ x c, X.env.cells.lookup x = some c → c ≠ b) ∧ ∀ p ∈ X.pn ++ pins, p.1 ≠ b) : Inv X pins σ H' s' := by
 obtain ⟨h', g', d', t', o'⟩ := s'
 have e : o' = s.os := ho
 subst e
 exact I.call (g' := g') (t' := t') (d' := d') u hok hg hch
end
abbrev XK := Value → Option Addr → Hp → Prop
abbrev St := List (Option V)
abbrev VK := V → Hp → Prop
abbrev TE := St → Hp → VK → Prop
abbrev TT := St → Hp → (Bool → Hp → Prop) → Prop
abbrev TA := St → Hp → (List V → Hp → Prop) → Prop
structure ZDp where
 nx : St → Hp → Prop
 rt : VK
 bk : St → Hp → Prop := fun _ _ => False
 ct : St → Hp → Prop := fun _ _ => False
abbrev TS := ZDp → St → Hp → Prop
def EP (X : Cx) (pins : List (Addr × Obj)) (σ : St) (Q : VK) (u : Value) (s' : Shared) : Prop := ∃ v H', Inv X pins σ H' s' ∧ ZCx v u ∧ Q v H'
def TP (X : Cx) (pins : List (Addr × Obj)) (σ : St) (Q : Bool → Hp → Prop) (b : Bool) (s' : Shared) : Prop := ∃ H', Inv X pins σ H' s' ∧ Q b H'
def AP (X : Cx) (pins : List (Addr × Obj)) (σ : St) (Q : List V → Hp → Prop) (us : List Value) (s' : Shared) : Prop := ∃ vs H', Inv X pins σ H' s' ∧ ZCz vs us ∧ Q vs H'
def SP (X : Cx) (pins : List (Addr × Obj)) (D : ZDp) (f : Flow) (s' : Shared) : Prop :=
 match f with
 | .next => ∃ σ' H', Inv X pins σ' H' s' ∧ D.nx σ' H'
 | .brk => ∃ σ' H', Inv X pins σ' H' s' ∧ D.bk σ' H'
 | .cont => ∃ σ' H', Inv X pins σ' H' s' ∧ D.ct σ' H'
 | .ret u => ∃ v σ' H', Inv X pins σ' H' s' ∧ ZCx v u ∧ D.rt v H'
def PE (X : Cx) (e : Expr) (t : TE) : Prop :=
 ∀ (pins : List (Addr × Obj)) (s : Shared) (σ : St) (H : Hp) (Q : VK), Inv X pins σ H s → t σ H Q → wpAny (model X.prog X.w) X.A (eval e X.env) (EP X pins σ Q) X.xe s
def PT (X : Cx) (e : Expr) (t : TT) : Prop :=
 ∀ (pins : List (Addr × Obj)) (s : Shared) (σ : St) (H : Hp) (Q : Bool → Hp → Prop), Inv X pins σ H s → t σ H Q → wpAny (model X.prog X.w) X.A (isTrue e X.env (eval e X.env)) (TP X pins σ Q) X.xe s
def PW (X : Cx) (e : Expr) (t : TT) : Prop :=
 ∀ (whole : Sem Value) (pins : List (Addr × Obj)) (s : Shared) (σ : St) (H : Hp) (Q : Bool → Hp → Prop), Inv X pins σ H s → t σ H Q → wpAny (model X.prog X.w) X.A (isTrue e X.env whole) (TP X pins σ Q) X.xe s
theorem PW.pt {X : Cx} {e : Expr} {t : TT} (h : PW X e t) : PT X e t := h _
def PA (X : Cx) (es : List Expr) (t : TA) : Prop :=
 ∀ (pos : Pos) (pins : List (Addr × Obj)) (s : Shared) (σ : St) (H : Hp) (Q : List V → Hp → Prop), Inv X pins σ H s → t σ H Q → wpAny (model X.prog X.w) X.A (spliced (backTo pos (starEach es X.env))) (AP X pins σ Q) X.xe s
def PS (X : Cx) (st : Stmt) (t : TS) : Prop :=
 ∀ (pins : List (Addr × Obj)) (s : Shared) (σ : St) (H : Hp) (D : ZDp), Inv X pins σ H s → t D σ H → wpAny (model X.prog X.w) X.A (exec st X.env) (SP X pins D) X.xe s
def PSs (X : Cx) (st : List Stmt) (t : TS) : Prop :=
 ∀ (pins : List (Addr × Obj)) (s : Shared) (σ : St) (H : Hp) (D : ZDp), Inv X pins σ H s → t D σ H → wpAny (model X.prog X.w) X.A (execs st X.env) (SP X pins D) X.xe s
theorem thn {α : Type} {t : Sem α} {Q Q' : α → Shared → Prop} {M : Model} {A : Around} {E : Value → Shared → Prop} {s : Shared} (h : wpAny M A t Q E s) (hQ : ∀ a s, Q a s → Q' a s) : wpAny M A t Q' E s := wpAny_mono h hQ fun _ _ x => x
section
variable {X : Cx}
def ZMR (i : Nat) : TE := fun σ H Q => ∃ v, σ[i]? = some (some v) ∧ Q v H
def tC (v : V) : TE := fun _ H Q => Q v H
theorem ZNL {i : Nat} {x : Str} {pos : Pos} (hN : X.N[i]? = some x) (hv : Vis X.env.scope x) (hd : (x == ("__debug__" : Str)) = false := by decide) (hcd : (x == ("__classdict__" : Str)) = false := by decide) : PE X (.Name x pos) (ZMR i) := by
 intro pins s σ H Q I h
 obtain ⟨v, e, h⟩ := h
 obtain ⟨m, hn, hl⟩ := I.loc
 obtain ⟨u, r, l⟩ := hl i x v hN e hv
 have fin : EP X pins σ Q u s := ⟨v, H, I, r, h⟩
 rcases l with ⟨hk, hm⟩ | ⟨hk, c, hc, hcell⟩
 ·exact wpAny_Name (wpAny_loadName_local I.ok.kind hk hn hm fin) hd
 ·rcases hk with hk | hk
  ·exact wpAny_Name (wpAny_loadName_cell I.ok.kind hk hc hcell fin) hd
  ·exact wpAny_Name (wpAny_loadName_free I.ok.kind hk hc hcell fin hcd) hd
theorem ZST {i j pos} : PE X (.Constant (.int i) j pos) (tC (.int i)) := fun _ _ _ H _ I h => wpAny_Constant_int ⟨.int i, H, I.tok _, ⟨_, rfl⟩, h⟩
theorem ZT1 {b j pos} : PE X (.Constant (.bool b) j pos) (tC (.bl b)) := fun _ _ _ H _ I h => Constant_bool ⟨.bl b, H, I, rfl, h⟩
theorem ZSU {j pos} : PE X (.Constant .none j pos) (tC .non) := fun _ _ _ H _ I h => Constant_none ⟨.non, H, I, rfl, h⟩
theorem ZSV {x j pos} : PE X (.Constant (.str x) j pos) (tC (.str x)) := fun _ _ _ H _ I h => Calls.Constant_str ⟨.str x, H, I.tok _, ⟨_, rfl⟩, h⟩
def Gl (X : Cx) (x : Str) : Prop := X.env.kindOf x = some .globalImplicit
theorem ZEu {E : Value → Shared → Prop} {pins : List (Addr × Obj)} {s : Shared} {σ : St} {H : Hp} {x : Str} {u : Value} {pos : Pos} {Q : Value → Shared → Prop} (I : Inv X pins σ H s) (hg : Gl X x) (hm : X.mg x = some u) (h : Q u s)
  (hd : (x == ("__debug__" : Str)) = false := by decide) : wpAny (model X.prog X.w) X.A (eval (.Name x pos) X.env) Q E s :=
 Calls.Name_function_global I.ok.kind hg (Calls.loadGlobal_global (by rw [I.ok.glob]; exact I.mod.glob.keeps I.bk) hm h) hd
theorem ZFj {E : Value → Shared → Prop} {pins : List (Addr × Obj)} {s : Shared} {σ : St} {H : Hp} {x : Str} {u : Value} {pos : Pos} {Q : Value → Shared → Prop} (I : Inv X pins σ H s) (hg : Gl X x) (hm : X.mg x = none) (hv : bootBuiltins x = some u) (h : Q u s)
  (hn : x ≠ "__name__" := by decide) (hd : (x == ("__debug__" : Str)) = false := by decide) : wpAny (model X.prog X.w) X.A (eval (.Name x pos) X.env) Q E s := by
 obtain ⟨mb, h1, h2⟩ := I.mod.blt
 exact Calls.Name_function_global I.ok.kind hg (Calls.loadGlobal_builtin (by rw [I.ok.glob]; exact I.mod.glob.keeps I.bk) hm (by rw [I.ok.blt]; exact h1.keeps I.bk) ((h2 x hn).trans hv) h) hd
theorem ZQp {x : Str} {v : V} {u : Value} {pos : Pos} (hg : Gl X x) (hm : X.mg x = some u) (r : ZCx v u) (hd : (x == ("__debug__" : Str)) = false := by decide) : PE X (.Name x pos) (tC v) :=
 fun _ _ _ H _ I h => ZEu I hg hm ⟨v, H, I, r, h⟩ hd
theorem ZQq {x : Str} {v : V} {u : Value} {pos : Pos} (hg : Gl X x) (hm : X.mg x = none) (hv : bootBuiltins x = some u) (r : ZCx v u) (hn : x ≠ "__name__" := by decide) (hd : (x == ("__debug__" : Str)) = false := by decide) : PE X (.Name x pos) (tC v) :=
 fun _ _ _ H _ I h => ZFj I hg hm hv ⟨v, H, I, r, h⟩ hn hd
variable {a b : Expr} {ta tb : TE} {pos : Pos}
def tB (t : TE) : TT := fun σ H Q => t σ H fun x H1 => ∃ c, x = .bl c ∧ Q c H1
theorem ZSW {e : Expr} {t : TE} (h : PE X e t) (he : ∀ whole, isTrue e X.env whole = (do let v ← whole; standAt e.pos; holding [v] (truthy v)) := by intro _; rfl) : PT X e (tB t) := by
 intro pins s σ H Q I hw
 refine isTrue_plain (thn (h pins s σ H _ I hw) fun v s1 ⟨x, H1, I1, r1, q1⟩ => ?_) (he _)
 obtain ⟨d, rfl, q⟩ := q1
 cases r1
 exact wpAny_truthy_bool ⟨H1, I1, q⟩
variable {tA tB' : TT} {ZEA : List Expr}
def ZOk (t u : TT) : TT := fun σ H Q => t σ H fun c H1 => if c = true then u σ H1 Q else Q false H1
def tOr (t u : TT) : TT := fun σ H Q => t σ H fun c H1 => if c = true then Q true H1 else u σ H1 Q
def ZOl (t : TT) : TT := fun σ H Q => t σ H fun c H1 => Q (!c) H1
theorem ZQr (ha : PT X a tA) : PW X (.BoolOp .And [a] pos) tA := by
 intro wh pins s σ H Q I h
 refine isTrue_and (thn (ha pins s σ H Q I h) fun c s1 e => ?_)
 cases c with
 | true => exact isTrue_and_nil e
 | false => exact e
theorem ZSX (ha : PT X a tA) : PW X (.BoolOp .Or [a] pos) tA := by
 intro wh pins s σ H Q I h
 refine isTrue_or (thn (ha pins s σ H Q I h) fun c s1 e => ?_)
 cases c with
 | false => exact isTrue_or_nil e
 | true => exact e
theorem ZSY (ha : PT X a tA) (hb : PW X (.BoolOp .And (b :: ZEA) pos) tB') : PW X (.BoolOp .And (a :: b :: ZEA) pos) (ZOk tA tB') := by
 intro wh pins s σ H Q I h
 refine isTrue_and (thn (ha pins s σ H _ I h) fun c s1 ⟨H1, I1, q1⟩ => ?_)
 cases c with
 | true => exact hb wh pins s1 σ H1 Q I1 q1
 | false => exact ⟨H1, I1, q1⟩
theorem ZT2 (ha : PT X a tA) (hb : PW X (.BoolOp .Or (b :: ZEA) pos) tB') : PW X (.BoolOp .Or (a :: b :: ZEA) pos) (tOr tA tB') := by
 intro wh pins s σ H Q I h
 refine isTrue_or (thn (ha pins s σ H _ I h) fun c s1 ⟨H1, I1, q1⟩ => ?_)
 cases c with
 | true => exact ⟨H1, I1, q1⟩
 | false => exact hb wh pins s1 σ H1 Q I1 q1
theorem ZSZ (ha : PT X a tA) : PT X (.UnaryOp .Not a pos) (ZOl tA) := by
 intro pins s σ H Q I h
 exact isTrue_not (ha pins s σ H (fun c H1 => Q (!c) H1) I h)
def ZMS (ta tb : TE) : TE := fun σ H Q => ta σ H fun x H1 => ∃ c, x = .bl c ∧ if c = true then tb σ H1 Q else Q (.bl false) H1
def ZMT (ta : TE) : TE := fun σ H Q => ta σ H fun x H1 => ∃ c, x = .bl c ∧ Q (.bl (!c)) H1
theorem ZSa {op} {t : TE} (h : PE X a t) : PE X (.BoolOp op [a] pos) t := fun pins s σ H Q I hw => BoolOp_one (h pins s σ H Q I hw)
theorem ZSb (ha : PE X a ta) (hb : PE X (.BoolOp .And (b :: ZEA) pos) tb) : PE X (.BoolOp .And (a :: b :: ZEA) pos) (ZMS ta tb) := by
 intro pins s σ H Q I h
 refine BoolOp_and (thn (ha pins s σ H _ I h) fun v s1 ⟨x, H1, I1, r1, q1⟩ => ?_)
 obtain ⟨c, rfl, q1⟩ := q1
 cases r1
 refine wpAny_truthy_bool ?_
 cases c with
 | true => exact hb pins s1 σ H1 Q I1 q1
 | false => exact ⟨.bl false, H1, I1, rfl, q1⟩
theorem ZSc (ha : PE X a ta) : PE X (.UnaryOp .Not a pos) (ZMT ta) := by
 intro pins s σ H Q I h
 refine UnaryOp_ (thn (ha pins s σ H _ I h) fun v s1 ⟨x, H1, I1, r1, q1⟩ => ?_)
 obtain ⟨c, rfl, q1⟩ := q1
 cases r1
 exact not_of (wpAny_truthy_bool ⟨.bl (!c), H1, I1, rfl, q1⟩)
def tIf (t : TT) (ta tb : TE) : TE := fun σ H Q => t σ H fun c H1 => if c = true then ta σ H1 Q else tb σ H1 Q
theorem ZOm {c : Expr} (hc : PT X c tA) (ha : PE X a ta) (hb : PE X b tb) : PE X (.IfExp c a b pos) (tIf tA ta tb) := by
 intro pins s σ H Q I h
 refine wpAny_IfExp (thn (hc pins s σ H _ I h) fun d s1 ⟨H1, I1, q1⟩ => ?_)
 cases d with
 | true => exact ha pins s1 σ H1 Q I1 q1
 | false => exact hb pins s1 σ H1 Q I1 q1
end
def SqL (K : W.Frag) (H : Hp) (a : Addr) (xs : List V) : Prop :=
 Rd H a (.lst xs) ∨
  ∃ (o : Obj) (its : Array Value) (n : Nat), K.lookup a = some o ∧ o.cls = .type "list" ∧ o.dict = none ∧ o.data = .seq its n ∧ its.size ≤ sizeLine ∧ ZCz xs its.toList
def SqT (K : W.Frag) (H : Hp) (a : Addr) (xs : List V) : Prop :=
 Rd H a (.tup xs) ∨
  ∃ (o : Obj) (its : Array Value) (n : Nat), K.lookup a = some o ∧ o.cls = .type "tuple" ∧ o.data = .seq its n ∧ its.size ≤ sizeLine ∧ ZCz xs its.toList
def ZUR : Value → Option V
 | .none => some .non
 | .bool b => some (.bl b)
 | .int i _ => some (.int i)
 | .str x _ => some (.str x)
 | .bytes b _ => some (.byt b)
 | .float b _ => some (.flt b)
 | .ref a => some (.ref a)
 | .type n => some (.ty n)
 | _ => none
theorem ZCx.abs {x : V} {u : Value} (r : ZCx x u) : ZUR u = some x := by
 cases x with
 | non => cases r; rfl
 | bl _ => cases r; rfl
 | int _ => obtain ⟨t, rfl⟩ := r; rfl
 | str _ => obtain ⟨t, rfl⟩ := r; rfl
 | byt _ => obtain ⟨t, rfl⟩ := r; rfl
 | flt _ => obtain ⟨t, rfl⟩ := r; rfl
 | ref _ => cases r; rfl
 | ty _ => cases r; rfl
theorem ZCx.inj {x y : V} {u : Value} (r : ZCx x u) (q : ZCx y u) : x = y := Option.some.inj (r.abs.symm.trans q.abs)
theorem ZCz.inj : ∀ {xs ys : List V} {us : List Value}, ZCz xs us → ZCz ys us → xs = ys
 | _, _, _, .nil, .nil => rfl
 | _, _, _, .cons r t, .cons r' t' => by rw [r.inj r', ZCz.inj t t']
section
variable {X : Cx} {pins : List (Addr × Obj)} {σ : St} {H : Hp} {s : Shared} {a : Addr} {xs ys : List V}
theorem SqL.of {K : W.Frag} (h : H a = some (.lst xs)) : SqL K H a xs := .inl (.inl h)
theorem SqT.of {K : W.Frag} (h : H a = some (.tup xs)) : SqT K H a xs := .inl (.inl h)
theorem Inv.list (I : Inv X pins σ H s) (h : SqL X.K H a xs) : ∃ its : List Value, ZCz xs its ∧ PlainL s.heap a its.toArray ∧ xs.length ≤ sizeLine := by
 rcases h with h | ⟨o, its, n, hk, hc, hd, hs, hz, r⟩
 ·obtain ⟨z, its, n, r, e⟩ := h.ok I.hok
  exact ⟨its, r, ⟨_, n, e, rfl, rfl, rfl⟩, z⟩
 ·refine ⟨its.toList, r, ⟨o, n, I.kIn a o hk, hc, hd, by simpa using hs⟩, ?_⟩
  have e := r.length
  simp only [Array.length_toList] at e
  omega
theorem Inv.tuple (I : Inv X pins σ H s) (h : SqT X.K H a xs) : ∃ its : List Value, ZCz xs its ∧ IsTup s.heap a its.toArray ∧ xs.length ≤ sizeLine := by
 rcases h with h | ⟨o, its, n, hk, hc, hs, hz, r⟩
 ·obtain ⟨z, its, r, p⟩ := h.ok I.hok
  exact ⟨its, r, p, z.1⟩
 ·refine ⟨its.toList, r, ⟨o, I.kIn a o hk, hc, n, by simpa using hs⟩, ?_⟩
  have e := r.length
  simp only [Array.length_toList] at e
  omega
theorem Inv.list_inj (I : Inv X pins σ H s) (h : SqL X.K H a xs) (h' : SqL X.K H a ys) : xs = ys := by
 obtain ⟨its, r, ⟨o, n, e, _, _, d⟩, _⟩ := I.list h
 obtain ⟨its', r', ⟨o', n', e', _, _, d'⟩, _⟩ := I.list h'
 rw [e] at e'; cases e'
 rw [d] at d'
 injection d' with d1 _
 have : its = its' := by simpa using congrArg Array.toList d1
 subst this
 exact r.inj r'
theorem Inv.tuple_inj (I : Inv X pins σ H s) (h : SqT X.K H a xs) (h' : SqT X.K H a ys) : xs = ys := by
 obtain ⟨its, r, ⟨o, e, _, n, d⟩, _⟩ := I.tuple h
 obtain ⟨its', r', ⟨o', e', _, n', d'⟩, _⟩ := I.tuple h'
 rw [e] at e'; cases e'
 rw [d] at d'
 injection d' with d1 _
 have : its = its' := by simpa using congrArg Array.toList d1
 subst this
 exact r.inj r'
end
abbrev Cx.wish (X : Cx) (E : Value → Shared → Prop) : Cx := { X with xe := E }
abbrev Cx.nox (X : Cx) : Cx := X.wish fun _ _ => False
theorem Cx.Ok.wish {X : Cx} (ok : X.Ok) (E : Value → Shared → Prop) : (X.wish E).Ok :=
 ⟨ok.mod, ok.kind, ok.glob, ok.blt, ok.above, ok.inj, ok.has, ok.cab, ok.hd, ok.frames, ok.stk, ok.exf, ok.bs, ok.bsz, ok.noex, ok.exfs, ok.funs, ok.frf⟩
theorem Cx.Ok.unwish {X : Cx} {E : Value → Shared → Prop} (ok : (X.wish E).Ok) : X.Ok :=
 ⟨ok.mod, ok.kind, ok.glob, ok.blt, ok.above, ok.inj, ok.has, ok.cab, ok.hd, ok.frames, ok.stk, ok.exf, ok.bs, ok.bsz, ok.noex, ok.exfs, ok.funs, ok.frf⟩
section
variable {X : Cx} {pins : List (Addr × Obj)} {σ : St} {H : Hp} {s : Shared} {E : Value → Shared → Prop}
theorem Inv.wish (I : Inv X pins σ H s) (E : Value → Shared → Prop) : Inv (X.wish E) pins σ H s := ⟨I.ok.wish E, I.os, I.bare, I.base, I.loc, I.cell, I.free, I.freeC, I.pin, I.hok, I.len⟩
theorem Inv.unwish (I : Inv (X.wish E) pins σ H s) : Inv X pins σ H s := ⟨I.ok.unwish, I.os, I.bare, I.base, I.loc, I.cell, I.free, I.freeC, I.pin, I.hok, I.len⟩
theorem SP.unwish {D : ZDp} {f : Flow} {s' : Shared} (h : SP (X.wish E) pins D f s') : SP X pins D f s' := by
 cases f with
 | next => obtain ⟨σ', H', I, q⟩ := h; exact ⟨σ', H', I.unwish, q⟩
 | brk => obtain ⟨σ', H', I, q⟩ := h; exact ⟨σ', H', I.unwish, q⟩
 | cont => obtain ⟨σ', H', I, q⟩ := h; exact ⟨σ', H', I.unwish, q⟩
 | ret u => obtain ⟨v, σ', H', I, r, q⟩ := h; exact ⟨v, σ', H', I.unwish, r, q⟩
theorem PSs.nox {st : List Stmt} {t : TS} (h : PSs X.nox st t) : PSs X st t := fun pins s σ H D I hw =>
 wpAny_mono (h pins s σ H D (I.wish _) hw) (fun _ _ q => q.unwish) fun _ _ z => False.elim z
end
section
variable {X : Cx} {st : Stmt} {ZEA : List Stmt} {t u : TS} {e : Expr} {te : TE} {pos : Pos}
def ZMU : TS := fun D σ H => D.nx σ H
def ZOn (t u : TS) : TS := fun D σ H => t { D with nx := u D } σ H
theorem ZQs : PSs X [] ZMU := fun _ _ σ H _ I h => wpAny_execs_nil ⟨σ, H, I, h⟩
theorem ZOo (h1 : PS X st t) (h2 : PSs X ZEA u) : PSs X (st :: ZEA) (ZOn t u) := by
 intro pins s σ H D I h
 refine wpAny_execs_cons (thn (h1 pins s σ H { D with nx := u D } I h) fun f s1 q => ?_)
 cases f with
 | next =>
  obtain ⟨σ', H', I', q⟩ := q
  exact h2 pins s1 σ' H' D I' q
 | ret v => exact q
 | brk => exact q
 | cont => exact q
theorem ZQt (h1 : PS X st t) : PSs X [st] t := by
 intro pins s σ H D I h
 refine wpAny_execs_cons (thn (h1 pins s σ H D I h) fun f s1 q => ?_)
 cases f with
 | next => exact wpAny_execs_nil q
 | ret v => exact q
 | brk => exact q
 | cont => exact q
theorem Inv.quiet {pins : List (Addr × Obj)} {σ : St} {H : Hp} {s : Shared} (I : Inv X pins σ H s) : interactive X.env = false := by simp [interactive, I.ok.kind]
def ZKQ (te : TE) : TS := fun D σ H => te σ H fun _ H1 => D.nx σ H1
theorem ZQu (he : PE X e te) (hs : swapsWith e none pos.line X.env = pure false := by rfl) : PS X (.Expr e pos) (ZKQ te) := by
 intro pins s σ H D I h
 exact wpAny_Expr_any (thn (he pins s σ H _ I h) fun v s1 ⟨x, H1, I1, r1, q1⟩ => ⟨σ, H1, I1, q1⟩) I.quiet hs
def ZOp (te : TE) : TS := fun D σ H => te σ H D.rt
theorem ZSd (he : PE X e te) : PS X (.Return (some e) pos) (ZOp te) := by
 intro pins s σ H D I h
 exact wpAny_Return_some (thn (he pins s σ H _ I h) fun v s1 ⟨x, H1, I1, r1, q1⟩ => ⟨x, σ, H1, I1, r1, q1⟩)
def ZKX (c : TT) (t u : TS) : TS := fun D σ H => c σ H fun b H1 => if b = true then t D σ H1 else u D σ H1
theorem ZT3 {c : Expr} {a b : List Stmt} {tc : TT} (hc : PT X c tc) (ha : PSs X a t) (hb : PSs X b u) : PS X (.If c a b pos) (ZKX tc t u) := by
 intro pins s σ H D I h
 refine wpAny_If (thn (hc pins s σ H _ I h) fun d s1 ⟨H1, I1, q1⟩ => ?_)
 cases d with
 | true => exact ha pins s1 σ H1 D I1 q1
 | false => exact hb pins s1 σ H1 D I1 q1
def ZNM : TS := fun _ _ _ => False
theorem ZOq : PS X st ZNM := fun _ _ _ _ _ _ h => h.elim
end
abbrev TG := V → St → Hp → (St → Hp → Prop) → Prop
abbrev TGs := List V → St → Hp → (St → Hp → Prop) → Prop
def PG (X : Cx) (target : Expr) (t : TG) : Prop :=
 ∀ (pins : List (Addr × Obj)) (s : Shared) (σ : St) (H : Hp) (v : V) (u : Value) (Q : St → Hp → Prop), Inv X pins σ H s → ZCx v u → t v σ H Q →
  wpAny (model X.prog X.w) X.A (assign target X.env u) (fun _ s' => ∃ σ' H', Inv X pins σ' H' s' ∧ Q σ' H') X.xe s
def PGs (X : Cx) (ts : List Expr) (t : TGs) : Prop :=
 ∀ (pins : List (Addr × Obj)) (s : Shared) (σ : St) (H : Hp) (vs : List V) (us : List Value) (Q : St → Hp → Prop), Inv X pins σ H s → ZCz vs us → t vs σ H Q →
  wpAny (model X.prog X.w) X.A (assignInOrder ((assignEach ts X.env).map (·.2)) us) (fun _ s' => ∃ σ' H', Inv X pins σ' H' s' ∧ Q σ' H') X.xe s
abbrev ZKY := V → V → V → Hp → (Hp → Prop) → Prop
def ZOr (X : Cx) (t : ZKY) : Prop :=
 ∀ (pins : List (Addr × Obj)) (s : Shared) (σ : St) (H : Hp) (o i v : V) (ov iv u : Value) (Q : Hp → Prop), Inv X pins σ H s → ZCx o ov → ZCx i iv → ZCx v u → t o i v H Q →
  wpAny (model X.prog X.w) X.A (setItem ov iv u) (fun _ s' => ∃ H', Inv X pins σ H' s' ∧ Q H') X.xe s
abbrev TIp := V → V → Hp → VK → Prop
def PIp (X : Cx) (op : Operator) (t : TIp) : Prop :=
 ∀ (pins : List (Addr × Obj)) (s : Shared) (σ : St) (H : Hp) (x y : V) (v u : Value) (Q : VK), Inv X pins σ H s → ZCx x v → ZCx y u → t x y H Q →
  wpAny (model X.prog X.w) X.A (inplaceOp op v u) (EP X pins σ Q) X.xe s
section
variable {X : Cx} {pos : Pos}
def ZFd (i : Nat) : TG := fun v σ H Q => Q (σ.set i (some v)) H
theorem ZQv {i : Nat} {x : Str} (hN : X.N.Nodup) (hi : X.N[i]? = some x) (hx : Loc X.env.scope x) (hf : X.fn x = true ∨ X.env.scope.names.lookup x = some .local := by first | exact .inl rfl | exact .inr rfl | assumption) : PG X (.Name x pos) (ZFd i) := by
 intro pins s σ H v u Q I r h
 exact wpAny_assign_Name (ZGx I hN hi hx r (fun s' I' => ⟨_, H, I', h⟩) hf)
def ZOs : TGs := fun vs σ H Q => vs = [] ∧ Q σ H
def ZMV (t : TG) (u : TGs) : TGs := fun vs σ H Q => ∃ v r, vs = v :: r ∧ t v σ H fun σ' H' => u r σ' H' Q
theorem ZQw : PGs X [] ZOs := by
 intro pins s σ H vs us Q I r h
 obtain ⟨e, h⟩ := h
 subst e
 cases r
 exact assignInOrder_nil ⟨σ, H, I, h⟩
theorem ZOt {e : Expr} {es : List Expr} {t : TG} {u : TGs} (h1 : PG X e t) (h2 : PGs X es u)
  (hs : (assignEach (e :: es) X.env).map (·.2) = assign e X.env :: (assignEach es X.env).map (·.2) := by rfl) : PGs X (e :: es) (ZMV t u) := by
 intro pins s σ H vs us Q I r h
 obtain ⟨v, vr, e1, h⟩ := h
 subst e1
 cases r with
 | cons r rr =>
  rw [hs]
  refine assignInOrder_cons (thn (h1 pins s σ H _ _ _ I r h) fun _ s1 ⟨σ1, H1, I1, q1⟩ => ?_)
  exact h2 pins s1 σ1 H1 _ _ Q I1 rr q1
def ZMW (K : W.Frag) (n : Nat) (t : TGs) : TG := fun v σ H Q => ∃ a xs, v = .ref a ∧ SqT K H a xs ∧ xs.length = n ∧ t xs σ H Q
theorem ZSe {es : List Expr} {k : Nat} {t : TGs} {n : Nat} (hc : X.calm = true) (h : PGs X es t)
  (hn : (assignEach es X.env).length = n := by rfl) (hst : (assignEach es X.env).findIdx? (·.1) = none := by rfl) : PG X (.Tuple es k pos) (ZMW X.K n t) := by
 intro pins s σ H v u Q I r hw
 obtain ⟨a, xs, e1, hq, hl, hw⟩ := hw
 subst e1
 cases r
 obtain ⟨its, rv, ht, hz⟩ := I.tuple hq
 refine assign_Tuple_tuple (I.ok.hd hc) ht (by simp [hn, ← hl, rv.length]) hst fun h' hx => ?_
 have I1 : Inv X pins σ H { s with heap := h' } := I.kept (t' := s.toks) fun b o e => hx b o (Nat.ne_of_lt (Heap.lt_size e)) e
 exact h pins _ σ H xs _ Q I1 (by simpa using rv) hw
def ZOu (to ti : TE) (t : ZKY) : TG := fun v σ H Q => to σ H fun o H1 => ti σ H1 fun i H2 => t o i v H2 fun H3 => Q σ H3
theorem ZSf {o i : Expr} {to ti : TE} {t : ZKY} (ho : PE X o to) (hi : PE X i ti) (hs : ZOr X t)
  (ha : ∀ v, assign (.Subscript o i pos) X.env v = (do
   let ov ← holding [v] (eval o X.env)
   let iv ← holding [v, ov] (eval i X.env)
   standAt pos
   holding [v, ov, iv] (setItem ov iv v)
   release [v, ov, iv] []) := by intro _; rfl) : PG X (.Subscript o i pos) (ZOu to ti t) := by
 intro pins s σ H v u Q I r h
 rw [ha]
 refine wpAny_bind (wpAny_holding (thn (ho pins s σ H _ I h) fun ov s1 ⟨x, H1, I1, r1, q1⟩ => ?_))
 refine wpAny_bind (wpAny_holding (thn (hi pins s1 σ H1 _ I1 q1) fun iv s2 ⟨y, H2, I2, r2, q2⟩ => ?_))
 refine wpAny_bind (wpAny_standAt (wpAny_bind (wpAny_holding (thn (hs pins s2 σ H2 x y v ov iv u _ I2 r1 r2 r q2) fun _ s3 ⟨H3, I3, q3⟩ => ?_))))
 exact wpAny_release ⟨σ, H3, I3, q3⟩
def ZGy (te : TE) (g : TG) : TS := fun D σ H => te σ H fun x H1 => g x σ H1 D.nx
theorem ZSg {tg e : Expr} {te : TE} {g : TG} (he : PE X e te) (hg : PG X tg g) (hs : swapsWithSole [tg] e pos.line X.env = pure false := by rfl) (hw : swappedStores [tg] e X.env = pure none := by rfl)
  (h1 : (assignEach [tg] X.env).map (·.2) = [assign tg X.env] := by rfl) : PS X (.Assign [tg] e pos) (ZGy te g) := by
 intro pins s σ H D I h
 refine wpAny_Assign_stores (thn (he pins s σ H _ I h) fun v s1 ⟨x, H1, I1, r1, q1⟩ => ?_) hs hw
 rw [h1]
 exact thn (hg pins s1 σ H1 x v _ I1 r1 q1) fun _ s2 q => q
theorem ZSh {i : Nat} {x : Str} {e : Expr} {te : TE} {pos' : Pos} (hN : X.N.Nodup) (hi : X.N[i]? = some x) (hx : Loc X.env.scope x) (he : PE X e te) (hs : swapsWith e (some (.Name x pos')) pos.line X.env = pure false := by rfl) (hf : X.fn x = true ∨ X.env.scope.names.lookup x = some .local := by first | exact .inl rfl | exact .inr rfl | assumption) :
  PS X (.Assign [.Name x pos'] e pos) (ZGy te (ZFd i)) := by
 intro pins s σ H D I h
 refine wpAny_Assign_Name (thn (he pins s σ H _ I h) fun v s1 ⟨y, H1, I1, r1, q1⟩ => ?_) hs
 exact ZGx I1 hN hi hx r1 (fun s2 I2 => ⟨_, H1, I2, q1⟩) hf
def ZOv (i : Nat) (te : TE) (ti : TIp) : TS := fun D σ H => ∃ x, σ[i]? = some (some x) ∧ te σ H fun y H1 => ti x y H1 fun z H2 => D.nx (σ.set i (some z)) H2
theorem ZSi {i : Nat} {x : Str} {e : Expr} {te : TE} {op : Operator} {ti : TIp} {pos' : Pos} (hN : X.N.Nodup) (hi : X.N[i]? = some x) (hx : Loc X.env.scope x) (he : PE X e te) (ho : PIp X op ti) (hf : X.fn x = true ∨ X.env.scope.names.lookup x = some .local := by first | exact .inl rfl | exact .inr rfl | assumption) :
  PS X (.AugAssign (.Name x pos') op e pos) (ZOv i te ti) := by
 intro pins s σ H D I h
 obtain ⟨v, e1, h⟩ := h
 obtain ⟨m, hn, hl⟩ := I.loc
 have vis : Vis X.env.scope x := by rcases hx with k | k; exact .inl k; exact .inr (.inl k)
 obtain ⟨u, r, l⟩ := hl i x v hi e1 vis
 refine wpAny_AugAssign_Name ?_
 have go : wpAny (model X.prog X.w) X.A (eval e X.env) (fun w s₂ => wpAny (model X.prog X.w) X.A (inplaceOp op u w) (fun r s₃ => wpAny (model X.prog X.w) X.A (storeName X.env x r) (fun _ => SP X pins D .next) X.xe s₃) X.xe s₂) X.xe s := by
  refine thn (he pins s σ H _ I h) fun w s1 ⟨y, H1, I1, r1, q1⟩ => ?_
  refine thn (ho pins s1 σ H1 v y u w _ I1 r r1 q1) fun z s2 ⟨zv, H2, I2, r2, q2⟩ => ?_
  exact ZGx I2 hN hi hx r2 (fun s3 I3 => ⟨_, H2, I3, q2⟩) hf
 rcases l with ⟨hk, hm⟩ | ⟨hk, c, hc, hcell⟩
 ·exact wpAny_loadName_local I.ok.kind hk hn hm go
 ·rcases hk with hk | hk
  ·exact wpAny_loadName_cell I.ok.kind hk hc hcell go
  ·rcases hx with k | k
   ·have : X.env.scope.names.lookup x = some .free := hk
    rw [k] at this; cases this
   ·have : X.env.scope.names.lookup x = some .free := hk
    rw [k] at this; cases this
def ZKZ (c : TT) (tb : TS) : TS := fun D σ H => ∃ W : Nat → St → Hp → Prop, (∃ m, W m σ H) ∧ ∀ m σ H, W m σ H →
 c σ H fun b H1 => if b = true then ∃ N : St → Hp → Prop, (∀ σ' H', N σ' H' → ∃ m', m' < m ∧ W m' σ' H') ∧ tb { D with nx := N, ct := N, bk := D.nx } σ H1 else D.nx σ H1
theorem ZOw {c : Expr} {body : List Stmt} {tc : TT} {tb : TS} (hp : PassesOwn (model X.prog X.w) X.A X.env X.xe) (hc : PT X c tc) (hb : PSs X body tb) : PS X (.While c body [] pos) (ZKZ tc tb) := by
 intro pins s σ H D I h
 obtain ⟨W, ⟨m0, w0⟩, turn⟩ := h
 refine wpAny_While (codeAny_whileLoop (fun n s' => ∃ σ' H', Inv X pins σ' H' s' ∧ W n σ' H') ?_ m0 ⟨σ, H, I, w0⟩)
 rintro n s1 ⟨σ1, H1, I1, w1⟩
 refine wpAny_passesOwn hp (thn (hc pins s1 σ1 H1 _ I1 (turn n σ1 H1 w1)) fun b s2 ⟨H2, I2, q2⟩ => ?_)
 cases b with
 | true =>
  obtain ⟨N, hN, q2⟩ := q2
  rw [if_pos rfl]
  refine wpAny_passesOwn hp (thn (hb pins s2 σ1 H2 _ I2 q2) fun f s3 q3 => ?_)
  cases f with
  | next =>
   obtain ⟨σ3, H3, I3, n3⟩ := q3
   obtain ⟨m', hm, w3⟩ := hN σ3 H3 n3
   exact ⟨m', hm, σ3, H3, I3, w3⟩
  | cont =>
   obtain ⟨σ3, H3, I3, n3⟩ := q3
   obtain ⟨m', hm, w3⟩ := hN σ3 H3 n3
   exact ⟨m', hm, σ3, H3, I3, w3⟩
  | brk => exact q3
  | ret v => exact q3
 | false =>
  rw [if_neg Bool.false_ne_true]
  exact wpAny_execs_nil ⟨σ1, H2, I2, q2⟩
end
structure It where
 go : Nat → Hp → Prop
 yld : Nat → Hp → V → Hp → Prop
 stop : Nat → Hp → Prop
def ZEL (X : Cx) (pins : List (Addr × Obj)) (H : Hp) (b : Addr) : Prop :=
 H b = none ∧ b ≠ X.env.locals ∧ b ∉ X.fs ∧ (b ∈ X.ex ∨ X.s₀.heap.objs.size ≤ b) ∧ (∀ x c, X.env.cells.lookup x = some c → c ≠ b) ∧ ∀ p ∈ X.pn ++ pins, p.1 ≠ b
theorem Inv.fpOk {X : Cx} {pins : List (Addr × Obj)} {σ : St} {H H' : Hp} {s : Shared} {b : Addr} (I : Inv X pins σ H s) (hb : s.heap.objs.size ≤ b) (hn : H' b = none) : ZEL X pins H' b := by
 refine ⟨hn, Nat.ne_of_gt (Nat.lt_of_lt_of_le I.lt hb), I.nofs hb, .inr (Nat.le_trans I.sz hb), fun x c e z => ?_, fun p hp z => ?_⟩
 ·obtain ⟨v, q⟩ := I.cell x c e
  exact absurd (Nat.lt_of_lt_of_le q.lt (by rw [z]; exact hb)) (Nat.lt_irrefl _)
 ·exact absurd (Nat.lt_of_lt_of_le (Heap.lt_size (I.pin p hp).1) (by rw [z]; exact hb)) (Nat.lt_irrefl _)
structure ZMX (P : Program) (w : World) (K : W.Frag) (tg : Expr) (J : It) (fp : List Addr) (it : Addr) (tn : Nat → Heap → Prop) : Prop where
 mem : it ∈ fp
 obj : ∀ i h, tn i h → ∀ b ∈ fp, ∃ o, h.get? b = some o ∧ ∀ v, o.data ≠ .cell v
 keep : ∀ i h h', tn i h → (∀ b ∈ fp, ∀ o, h.get? b = some o → h'.get? b = some o) → tn i h'
 item : ∀ (X : Cx), X.prog = P → X.w = w → X.K = K → X.calm = true → ∀ (i : Nat) (pins : List (Addr × Obj)) (s : Shared) (σ : St) (H : Hp) (E : Value → Shared → Prop), Inv X pins σ H s → (∀ b ∈ fp, ZEL X pins H b) → tn i s.heap → J.go i H →
  wpAny (model P w) X.A (pyNext (.ref it)) (fun r s1 => ∃ u, r = some u ∧
   wpAny (model P w) X.A (letOwnedTupleGo tg (.ref it) u) (fun _ s2 => ∃ x H', Inv X pins σ H' s2 ∧ ZCx x u ∧ J.yld i H x H' ∧ tn (i + 1) s2.heap ∧ ∀ b ∈ fp, H' b = none) E s1) E s
 done : ∀ (X : Cx), X.prog = P → X.w = w → X.K = K → X.calm = true → ∀ (i : Nat) (pins : List (Addr × Obj)) (s : Shared) (σ : St) (H : Hp) (E : Value → Shared → Prop), Inv X pins σ H s → (∀ b ∈ fp, ZEL X pins H b) → tn i s.heap → J.stop i H →
  wpAny (model P w) X.A (pyNext (.ref it)) (fun r s1 => r = none ∧ Inv X pins σ H s1) E s
 self : ∀ (A : Around) (i : Nat) (s : Shared) (Q : Value → Shared → Prop) (E : Value → Shared → Prop), tn i s.heap → Q (.ref it) s → wpAny (model P w) A (pyIter (.ref it)) Q E s
abbrev TI := St → Hp → (It → Hp → Prop) → Prop
def PIE (X : Cx) (pins : List (Addr × Obj)) (σ : St) (tg : Expr) (R : It → Hp → Prop) (itv : Value) (s2 : Shared) : Prop :=
 ∃ (it : Addr) (fp : List Addr) (tn : Nat → Heap → Prop) (J : It) (H' : Hp), itv = .ref it ∧ Inv X pins σ H' s2 ∧ ZMX X.prog X.w X.K tg J fp it tn ∧ tn 0 s2.heap ∧ (∀ b ∈ fp, ZEL X pins H' b) ∧ R J H'
def PI (X : Cx) (tg iter : Expr) (wi : TI) : Prop :=
 ∀ (pins : List (Addr × Obj)) (s : Shared) (σ : St) (H : Hp) (R : It → Hp → Prop), Inv X pins σ H s → wi σ H R →
  wpAny (model X.prog X.w) X.A (eval iter X.env) (fun v s1 => wpAny (model X.prog X.w) X.A (pyIter v) (PIE X pins σ tg R) X.xe s1) X.xe s
theorem ZMY {M : Model} {A : Around} {E : Value → Shared → Prop} {s : Shared} {tg : Expr} {it : Addr} {u : Value} {o : Obj} {n : String} {vs : Array Value} {Q : Unit → Shared → Prop} (ho : s.heap.get? it = some o) (hc : o.cls = .type n) (hd : o.data = .fields vs)
    (hn : ["enumerate", "zip", "dict_itemiterator", "dict_reverseitemiterator", "odict_iterator", "itertools.zip_longest", "itertools.pairwise"].contains n = false) (hQ : Q () s) : wpAny M A (letOwnedTupleGo tg (.ref it) u) Q E s := by
  unfold letOwnedTupleGo
  cases tg <;> first
    | exact wpAny_pure hQ
    | (cases u <;> first
        | exact wpAny_pure hQ
        | (refine wpAny_bind (wpAny_load ho ?_)
           rw [hc, hd]
           show wpAny M A (if (["enumerate", "zip", "dict_itemiterator", "dict_reverseitemiterator", "odict_iterator", "itertools.zip_longest", "itertools.pairwise"].contains n && vs[0]? == some (rawInt _)) = true then _ else _) Q E s
           rw [if_neg (by intro h; rw [hn, Bool.false_and] at h; cases h)]
           exact wpAny_pure hQ))
def Itl (K : W.Frag) (a : Addr) : It :=
 ⟨fun i H => ∃ xs x, SqL K H a xs ∧ xs[i]? = some x, fun i H x H' => H' = H ∧ ∀ xs, SqL K H a xs → xs[i]? = some x, fun i H => ∃ xs, SqL K H a xs ∧ xs.length ≤ i⟩
def Itt (K : W.Frag) (a : Addr) : It :=
 ⟨fun i H => ∃ xs x, SqT K H a xs ∧ xs[i]? = some x, fun i H x H' => H' = H ∧ ∀ xs, SqT K H a xs → xs[i]? = some x, fun i H => ∃ xs, SqT K H a xs ∧ xs.length ≤ i⟩
def Itr (lo : Int) (n : Nat) : It := ⟨fun i _ => i < n, fun i H x H' => H' = H ∧ x = .int (lo + i), fun i _ => n ≤ i⟩
theorem ZJm {P : Program} {w : World} {K : W.Frag} {tg : Expr} (a it : Addr) : ZMX P w K tg (Itl K a) [it] it (fun i h => h.IsListIter it a i) where
 mem := by simp
 obj := fun i h st b hb => by
  have e : b = it := by simpa using hb
  subst e
  obtain ⟨o, e, c, d⟩ := st
  exact ⟨o, e, fun v z => by rw [d] at z; cases z⟩
 keep := fun i h h' st k => st.at fun o e => k it (by simp) o e
 item := by
  intro X hP hw hK hc i pins s σ H E I hf st hg
  subst hP hw hK
  obtain ⟨xs, x, hq, hx⟩ := hg
  obtain ⟨its, rv, p, hz⟩ := I.list hq
  obtain ⟨u, hu, ru⟩ := rv.get hx
  obtain ⟨f0, f1, f2, f3, f4, f5⟩ := hf it (by simp)
  refine wpAny_pyNext_list_item st p.isList (x := u) (by simpa using hu) fun h' st' sb => ?_
  have I1 : Inv X pins σ H { s with heap := h' } := I.turned (t' := s.toks) (fun b o hb e => (sb.2 b hb).trans e) f0 f1 f3 f4 f5
  obtain ⟨o, e, c, d⟩ := id st'
  exact ⟨u, rfl, ZMY (s := { s with heap := h' }) e c d (by decide) ⟨x, H, I1, ru, ⟨rfl, fun ys hy => by rw [I.list_inj hy hq]; exact hx⟩, st', fun b hb => (hf b hb).1⟩⟩
 done := by
  intro X hP hw hK hc i pins s σ H E I hf st hg
  subst hP hw hK
  obtain ⟨xs, hq, hx⟩ := hg
  obtain ⟨its, rv, p, hz⟩ := I.list hq
  obtain ⟨f0, f1, f2, f3, f4, f5⟩ := hf it (by simp)
  have hl := rv.length
  exact wpAny_pyNext_list_end (I.ok.hd hc) st p.isList (by simp; omega) fun h' eb => ⟨rfl, I.turned (t' := s.toks) (fun b o hb e => eb b o hb e) f0 f1 f3 f4 f5⟩
 self := fun _ _ _ _ _ st h => wpAny_pyIter_listiter st h
theorem ZIv {P : Program} {w : World} {K : W.Frag} {tg : Expr} (a it : Addr) : ZMX P w K tg (Itt K a) [it] it (fun i h => h.IsTupleIter it a i) where
 mem := by simp
 obj := fun i h st b hb => by
  have e : b = it := by simpa using hb
  subst e
  obtain ⟨o, e, c, d⟩ := st
  exact ⟨o, e, fun v z => by rw [d] at z; cases z⟩
 keep := fun i h h' st k => st.at fun o e => k it (by simp) o e
 item := by
  intro X hP hw hK hc i pins s σ H E I hf st hg
  subst hP hw hK
  obtain ⟨xs, x, hq, hx⟩ := hg
  obtain ⟨its, rv, p, hz⟩ := I.tuple hq
  obtain ⟨u, hu, ru⟩ := rv.get hx
  obtain ⟨f0, f1, f2, f3, f4, f5⟩ := hf it (by simp)
  refine wpAny_pyNext_tuple_item st (show s.heap.IsTuple a its.toArray from p) (x := u) (by simpa using hu) fun h' st' sb => ?_
  have I1 : Inv X pins σ H { s with heap := h' } := I.turned (t' := s.toks) (fun b o hb e => (sb.2 b hb).trans e) f0 f1 f3 f4 f5
  obtain ⟨o, e, c, d⟩ := id st'
  exact ⟨u, rfl, ZMY (s := { s with heap := h' }) e c d (by decide) ⟨x, H, I1, ru, ⟨rfl, fun ys hy => by rw [I.tuple_inj hy hq]; exact hx⟩, st', fun b hb => (hf b hb).1⟩⟩
 done := by
  intro X hP hw hK hc i pins s σ H E I hf st hg
  subst hP hw hK
  obtain ⟨xs, hq, hx⟩ := hg
  obtain ⟨its, rv, p, hz⟩ := I.tuple hq
  obtain ⟨f0, f1, f2, f3, f4, f5⟩ := hf it (by simp)
  have hl := rv.length
  exact wpAny_pyNext_tuple_end (I.ok.hd hc) st (show s.heap.IsTuple a its.toArray from p) (by simp; omega) fun h' eb => ⟨rfl, I.turned (t' := s.toks) (fun b o hb e => eb b o hb e) f0 f1 f3 f4 f5⟩
 self := fun _ _ _ _ _ st h => wpAny_pyIter_tupleiter st h
theorem ZMZ {P : Program} {w : World} {K : W.Frag} {tg : Expr} (it : Addr) (lo : Int) (n : Nat) : ZMX P w K tg (Itr lo n) [it] it (fun i h => IsRangeIter h it (lo + (i : Nat) * 1) ((n : Int) - (i : Nat)) 1) where
 mem := by simp
 obj := fun i h st b hb => by
  have e : b = it := by simpa using hb
  subst e
  exact ⟨_, st, fun v z => by
   have z' : Data.fields _ = Data.cell v := z
   cases z'⟩
 keep := fun i h h' st k => k it (by simp) _ st
 item := by
  intro X hP hw hK hc i pins s σ H E I hf st hg
  subst hP hw hK
  obtain ⟨f0, f1, f2, f3, f4, f5⟩ := hf it (by simp)
  have W := Walks.range (prog := X.prog) (w := X.w) (I.ok.hd hc) it lo 1 n
  refine W.item i s _ _ hg st fun v h' tk hv st' kk => ?_
  obtain ⟨t, rfl⟩ := hv
  have I1 : Inv X pins σ H { s with heap := h', toks := tk } := I.turned (fun b o hb e => kk b o (by simpa using hb) e) f0 f1 f3 f4 f5
  refine ⟨_, rfl, ZMY (s := { s with heap := h', toks := tk }) (n := "range_iterator") st' rfl rfl (by decide) ⟨.int (lo + i), H, I1, ⟨t, ?_⟩, ⟨rfl, rfl⟩, st', fun b hb => (hf b hb).1⟩⟩
  rw [Int.mul_one]
 done := by
  intro X hP hw hK hc i pins s σ H E I hf st hg
  subst hP hw hK
  obtain ⟨f0, f1, f2, f3, f4, f5⟩ := hf it (by simp)
  exact wpAny_pyNext_range_end (I.ok.hd hc) st (by have : n ≤ i := hg; omega) fun h' eb => ⟨rfl, I.turned (t' := s.toks) (fun b o hb e => eb b o hb e) f0 f1 f3 f4 f5⟩
 self := fun _ _ _ _ _ st h => wpAny_pyIter_rangeiter st h
section
variable {X : Cx} {tg : Expr}
def ZKR (K : W.Frag) (tl : TE) : TI := fun σ H R => tl σ H fun x H1 => ∃ a, x = .ref a ∧ (∃ xs, SqL K H1 a xs) ∧ R (Itl K a) H1
def ZMa (K : W.Frag) (tl : TE) : TI := fun σ H R => tl σ H fun x H1 => ∃ a, x = .ref a ∧ (∃ xs, SqT K H1 a xs) ∧ R (Itt K a) H1
theorem ZQx {l : Expr} {tl : TE} (hl : PE X l tl) : PI X tg l (ZKR X.K tl) := by
 intro pins s σ H R I h
 refine thn (hl pins s σ H _ I h) fun v s1 ⟨x, H1, I1, r1, q1⟩ => ?_
 obtain ⟨a, e, ⟨xs, hq⟩, q⟩ := q1
 subst e
 cases r1
 obtain ⟨its, rv, p, hz⟩ := I1.list hq
 refine wpAny_pyIter_list p.isList ?_
 refine ⟨s1.heap.objs.size, [s1.heap.objs.size], _, _, H1, rfl, I1.kept (t' := s1.toks) fun b o e => Heap.get?_push_of_some _ e, ZJm a _, ⟨_, Heap.get?_push_size _ rfl, rfl, rfl⟩, fun b hb => ?_, q⟩
 have e : b = s1.heap.objs.size := by simpa using hb
 subst e
 exact I1.fpOk (Nat.le_refl _) (I1.hok.fresh (Nat.le_refl _))
theorem ZSj {l : Expr} {tl : TE} (hl : PE X l tl) : PI X tg l (ZMa X.K tl) := by
 intro pins s σ H R I h
 refine thn (hl pins s σ H _ I h) fun v s1 ⟨x, H1, I1, r1, q1⟩ => ?_
 obtain ⟨a, e, ⟨xs, hq⟩, q⟩ := q1
 subst e
 cases r1
 obtain ⟨its, rv, p, hz⟩ := I1.tuple hq
 refine wpAny_pyIter_tuple (show s1.heap.IsTuple a its.toArray from p) ?_
 refine ⟨s1.heap.objs.size, [s1.heap.objs.size], _, _, H1, rfl, I1.kept (t' := s1.toks) fun b o e => Heap.get?_push_of_some _ e, ZIv a _, ⟨_, Heap.get?_push_size _ rfl, rfl, rfl⟩, fun b hb => ?_, q⟩
 have e : b = s1.heap.objs.size := by simpa using hb
 subst e
 exact I1.fpOk (Nat.le_refl _) (I1.hok.fresh (Nat.le_refl _))
theorem ZKa {pins : List (Addr × Obj)} {σ : St} {H : Hp} {s : Shared} {R : It → Hp → Prop} {E : Value → Shared → Prop} {lo hi : Int} {t u v : Tok} {tk : Nat} (I : Inv X pins σ H s) (h1 : -(2 ^ 62) ≤ lo) (h2 : lo < 2 ^ 62) (h3 : -(2 ^ 62) ≤ hi) (h4 : hi < 2 ^ 62)
  (q : R (Itr lo (hi - lo).toNat) H) : wpAny (model X.prog X.w) X.A (pyIter (.ref s.heap.objs.size)) (PIE X pins σ tg R) E { s with heap := s.heap.push { cls := .type "range", data := .fields #[.int lo t, .int hi u, .int 1 v] }, toks := tk } := by
 refine wpAny_pyIter_range (IsRange.new ..) (small_one h1 h2 h3 h4) ?_
 have I1 : Inv X pins σ H { s with heap := s.heap.push { cls := .type "range", data := .fields #[.int lo t, .int hi u, .int 1 v] }, toks := tk } := I.kept fun b o e => Heap.get?_push_of_some _ e
 refine ⟨(s.heap.push { cls := .type "range", data := .fields #[.int lo t, .int hi u, .int 1 v] }).objs.size, [(s.heap.push { cls := .type "range", data := .fields #[.int lo t, .int hi u, .int 1 v] }).objs.size], _, _, H, rfl,
  I1.kept (t' := tk) fun b o e => Heap.get?_push_of_some _ e, ZMZ _ lo (hi - lo).toNat, ?_, fun b hb => ?_, q⟩
 ·have e1 : lo + ((0 : Nat) : Int) * 1 = lo := by simp
  have e2 : (((hi - lo).toNat : Nat) : Int) - ((0 : Nat) : Int) = Builtin.Range.rangeSize lo hi 1 := by rw [rangeSize_one]; split <;> omega
  show IsRangeIter _ _ (lo + ((0 : Nat) : Int) * 1) ((((hi - lo).toNat : Nat) : Int) - ((0 : Nat) : Int)) 1
  rw [e1, e2]
  exact Heap.get?_push_size _ rfl
 ·have e : b = (s.heap.push { cls := .type "range", data := .fields #[.int lo t, .int hi u, .int 1 v] }).objs.size := by simpa using hb
  subst e
  exact I1.fpOk (Nat.le_refl _) (I1.hok.fresh (Nat.le_refl _))
def ZMb (ta : TA) : TI := fun σ H R => ta σ H fun vs H1 => ∃ j : Int, vs = [.int j] ∧ -(2 ^ 62) ≤ j ∧ j < 2 ^ 62 ∧ R (Itr 0 j.toNat) H1
def ZMc (ta : TA) : TI := fun σ H R => ta σ H fun vs H1 => ∃ i j : Int, vs = [.int i, .int j] ∧ (-(2 ^ 62) ≤ i ∧ i < 2 ^ 62 ∧ -(2 ^ 62) ≤ j ∧ j < 2 ^ 62) ∧ R (Itr i (j - i).toNat) H1
theorem ZNN {a : Expr} {ta : TA} {p pos : Pos} (hg : Gl X "range") (hm : X.mg "range" = none) (ha : PA X [a] ta) (hs : starEach [a] X.env = [(false, eval a X.env)] := by rfl) : PI X tg (.Call (.Name "range" p) [a] [] pos) (ZMb ta) := by
 intro pins s σ H R I h
 refine Call_ (ZFj I hg hm boot_range (PyProof.Rows.callWith_type1 (thn (ha pos pins s σ H _ I h) fun us s1 ⟨vs, H1, I1, r1, q1⟩ => ?_) hs rfl))
 obtain ⟨j, e, q1, q2, q⟩ := q1
 subst e
 cases r1 with
 | cons r rr =>
  cases rr
  obtain ⟨t, rfl⟩ := r
  exact call_range_1 (ZKa I1 (by omega) (by omega) q1 q2 (by simpa using q))
theorem ZNO {a b : Expr} {ta : TA} {p pos : Pos} (hg : Gl X "range") (hm : X.mg "range" = none) (ha : PA X [a, b] ta) (hs : starEach [a, b] X.env = [(false, eval a X.env), (false, eval b X.env)] := by rfl) (hs2 : starEach [b] X.env = [(false, eval b X.env)] := by rfl) :
  PI X tg (.Call (.Name "range" p) [a, b] [] pos) (ZMc ta) := by
 intro pins s σ H R I h
 refine Call_ (ZFj I hg hm boot_range (PyProof.Rows.callWith_type1 (thn (ha pos pins s σ H _ I h) fun us s1 ⟨vs, H1, I1, r1, q1⟩ => ?_) (by rw [hs, hs2]) (by rw [hs2]; rfl)))
 obtain ⟨i, j, e, ⟨q1, q2, q3, q4⟩, q⟩ := q1
 subst e
 cases r1 with
 | cons r rr =>
  cases rr with
  | cons r' rr =>
   cases rr
   obtain ⟨t, rfl⟩ := r
   obtain ⟨t', rfl⟩ := r'
   exact call_range_2 (ZKa I1 q1 q2 q3 q4 q)
def ZOx (wi : TI) (g : TG) (tb : TS) : TS := fun D σ H => wi σ H fun J H1 => ∃ W : Nat → Nat → St → Hp → Prop, (∃ m, W 0 m σ H1) ∧ ∀ i m σ H, W i m σ H →
 (J.stop i H ∧ D.nx σ H) ∨ (J.go i H ∧ ∃ N : St → Hp → Prop, (∀ σ' H', N σ' H' → ∃ m', m' < m ∧ W (i + 1) m' σ' H') ∧ ∀ x H', J.yld i H x H' → g x σ H' fun σ2 H2 => tb { D with nx := N, ct := N, bk := D.nx } σ2 H2)
def ZGe (fp : List Addr) (h : Heap) : List (Addr × Obj) := fp.filterMap fun b => (h.get? b).map fun o => (b, o)
theorem ZEv {fp : List Addr} {h : Heap} {b : Addr} {o : Obj} (hb : b ∈ fp) (e : h.get? b = some o) : (b, o) ∈ ZGe fp h := List.mem_filterMap.mpr ⟨b, hb, by rw [e]; rfl⟩
theorem ZNP {fp : List Addr} {h : Heap} {p : Addr × Obj} (hp : p ∈ ZGe fp h) : p.1 ∈ fp ∧ h.get? p.1 = some p.2 := by
 obtain ⟨b, hb, e⟩ := List.mem_filterMap.mp hp
 cases q : h.get? b with
 | none => rw [q] at e; cases e
 | some o =>
  rw [q] at e
  have e' : (b, o) = p := Option.some.inj e
  subst e'
  exact ⟨hb, q⟩
theorem Inv.pinned {pins : List (Addr × Obj)} {σ : St} {H : Hp} {s : Shared} {fp : List Addr} (I : Inv X pins σ H s) (hf : ∀ b ∈ fp, ZEL X pins H b) (ho : ∀ b ∈ fp, ∃ o, s.heap.get? b = some o ∧ ∀ v, o.data ≠ .cell v) : Inv X (pins ++ ZGe fp s.heap) σ H s :=
 I.pins_of fun p hp => (List.mem_append.mp hp).elim (fun z => I.pin p (List.mem_append_right _ z)) fun z => by
  obtain ⟨hb, e⟩ := ZNP z
  obtain ⟨f0, f1, f2, _⟩ := hf p.1 hb
  obtain ⟨o, e', d⟩ := ho p.1 hb
  rw [e] at e'; cases e'
  exact ⟨e, f0, f1, f2, d⟩
theorem Inv.unpinned {pins pl : List (Addr × Obj)} {σ : St} {H : Hp} {s : Shared} (I : Inv X (pins ++ pl) σ H s) : Inv X pins σ H s := I.pins_of fun p hp => I.pin p (List.mem_append_right _ (List.mem_append_left _ hp))
theorem ZSk {iter : Expr} {body : List Stmt} {wi : TI} {g : TG} {tb : TS} {pos : Pos} (hp : PassesOwn (model X.prog X.w) X.A X.env X.xe) (hc : X.calm = true) (hi : PI X tg iter wi) (hg : PG X tg g) (hb : PSs X body tb)
  (hs : ∀ x, foldedSetIterable iter X.env x = pure x := by intro _; rfl) : PS X (.For tg iter body [] pos) (ZOx wi g tb) := by
 intro pins s σ H D I h
 refine wpAny_For (thn (hi pins s σ H _ I h) fun v s1 h1 => thn h1 fun itv s2 h2 => ?_) hs
 obtain ⟨it, fp, tn, J, H2, e, I2, T, st2, f2, W, ⟨m0, w0⟩, turn⟩ := h2
 subst e
 -- what stays true of the iterator's objects through the loop
 have stat : ∀ {H' : Hp}, (∀ b ∈ fp, H' b = none) → ∀ b ∈ fp, ZEL X pins H' b := fun hn b hb => ⟨hn b hb, (f2 b hb).2⟩
 refine codeAny_forLoop_any (fun n s' => ∃ i σ' H', Inv X pins σ' H' s' ∧ tn i s'.heap ∧ (∀ b ∈ fp, H' b = none) ∧ W i n σ' H') ?_ m0 ⟨0, σ, H2, I2, st2, fun b hb => (f2 b hb).1, w0⟩
 rintro n s3 ⟨i, σ3, H3, I3, st3, fr3, w3⟩
 rcases turn i n σ3 H3 w3 with ⟨stop, qn⟩ | ⟨go, N, hN, step⟩
 ·refine wpAny_passesOwn hp (thn (T.done X rfl rfl rfl hc i pins s3 σ3 H3 X.xe I3 (stat fr3) st3 stop) fun r s4 ⟨hr, I4⟩ => ?_)
  subst hr
  exact wpAny_execs_nil ⟨σ3, H3, I4, qn⟩
 ·refine wpAny_passesOwn hp (thn (T.item X rfl rfl rfl hc i pins s3 σ3 H3 X.xe I3 (stat fr3) st3 go) fun r s4 ⟨u, hr, h4⟩ => ?_)
  subst hr
  refine wpAny_passesOwn hp (thn h4 fun _ s5 ⟨x, H5, I5, r5, y5, st5, fr5⟩ => ?_)
  have I5' := I5.pinned (stat fr5) (T.obj _ _ st5)
  refine wpAny_passesOwn hp (thn (hg _ s5 σ3 H5 x u _ I5' r5 (step x H5 y5)) fun _ s6 ⟨σ6, H6, I6, q6⟩ => ?_)
  refine wpAny_passesOwn hp (thn (hb _ s6 σ6 H6 _ I6 q6) fun f s7 q7 => ?_)
  have again : ∀ {σ7 : St} {H7 : Hp}, Inv X (pins ++ ZGe fp s5.heap) σ7 H7 s7 → N σ7 H7 → ∃ m, m < n ∧ ∃ i σ' H', Inv X pins σ' H' s7 ∧ tn i s7.heap ∧ (∀ b ∈ fp, H' b = none) ∧ W i m σ' H' := fun {σ7 H7} I7 n7 => by
   obtain ⟨m', hm, w7⟩ := hN σ7 H7 n7
   refine ⟨m', hm, i + 1, σ7, H7, I7.unpinned, T.keep _ _ _ st5 fun b hb o e => (I7.pin (b, o) (List.mem_append_right _ (List.mem_append_right _ (ZEv hb e)))).1, fun b hb => ?_, w7⟩
   obtain ⟨o, e, d⟩ := T.obj _ _ st5 b hb
   exact (I7.pin (b, o) (List.mem_append_right _ (List.mem_append_right _ (ZEv hb e)))).2.1
  cases f with
  | next => obtain ⟨σ7, H7, I7, n7⟩ := q7; exact again I7 n7
  | cont => obtain ⟨σ7, H7, I7, n7⟩ := q7; exact again I7 n7
  | brk => obtain ⟨σ7, H7, I7, q7⟩ := q7; exact ⟨σ7, H7, I7.unpinned, q7⟩
  | ret v => obtain ⟨x7, σ7, H7, I7, r7, q7⟩ := q7; exact ⟨x7, σ7, H7, I7.unpinned, r7, q7⟩
end
theorem ZOy {K : W.Frag} {a : Addr} {xs : List V} {g : TG} {tb : TS} {D : ZDp} {σ : St} {H : Hp} (Pv : Nat → St → Hp → Prop) (h0 : Pv 0 σ H) (hl : ∀ i σ H, i ≤ xs.length → Pv i σ H → SqL K H a xs)
  (hs : ∀ i x σ H, xs[i]? = some x → Pv i σ H → g x σ H fun σ2 H2 => tb { D with nx := Pv (i + 1), ct := Pv (i + 1), bk := D.nx } σ2 H2) (hd : ∀ σ H, Pv xs.length σ H → D.nx σ H) :
  ∃ W : Nat → Nat → St → Hp → Prop, (∃ m, W 0 m σ H) ∧ ∀ i m σ H, W i m σ H →
   ((Itl K a).stop i H ∧ D.nx σ H) ∨ ((Itl K a).go i H ∧ ∃ N : St → Hp → Prop, (∀ σ' H', N σ' H' → ∃ m', m' < m ∧ W (i + 1) m' σ' H') ∧ ∀ x H', (Itl K a).yld i H x H' → g x σ H' fun σ2 H2 => tb { D with nx := N, ct := N, bk := D.nx } σ2 H2) := by
 refine ⟨fun i m σ H => m = xs.length - i ∧ i ≤ xs.length ∧ Pv i σ H, ⟨xs.length, by simp, Nat.zero_le _, h0⟩, ?_⟩
 rintro i m σ H ⟨rfl, hi, p⟩
 have q := hl i σ H hi p
 by_cases hlt : i < xs.length
 ·refine .inr ⟨⟨xs, xs[i], q, by simp [hlt]⟩, Pv (i + 1), fun σ' H' p' => ⟨xs.length - (i + 1), by omega, rfl, hlt, p'⟩, fun x H' y => ?_⟩
  obtain ⟨e, y⟩ := y
  subst e
  exact hs i x σ _ (y xs q) p
 ·have e : i = xs.length := by omega
  subst e
  exact .inl ⟨⟨xs, q, Nat.le_refl _⟩, hd σ H p⟩
theorem ZQy {K : W.Frag} {a : Addr} {xs : List V} {g : TG} {tb : TS} {D : ZDp} {σ : St} {H : Hp} (Pv : Nat → St → Hp → Prop) (h0 : Pv 0 σ H) (hl : ∀ i σ H, i ≤ xs.length → Pv i σ H → SqT K H a xs)
  (hs : ∀ i x σ H, xs[i]? = some x → Pv i σ H → g x σ H fun σ2 H2 => tb { D with nx := Pv (i + 1), ct := Pv (i + 1), bk := D.nx } σ2 H2) (hd : ∀ σ H, Pv xs.length σ H → D.nx σ H) :
  ∃ W : Nat → Nat → St → Hp → Prop, (∃ m, W 0 m σ H) ∧ ∀ i m σ H, W i m σ H →
   ((Itt K a).stop i H ∧ D.nx σ H) ∨ ((Itt K a).go i H ∧ ∃ N : St → Hp → Prop, (∀ σ' H', N σ' H' → ∃ m', m' < m ∧ W (i + 1) m' σ' H') ∧ ∀ x H', (Itt K a).yld i H x H' → g x σ H' fun σ2 H2 => tb { D with nx := N, ct := N, bk := D.nx } σ2 H2) := by
 refine ⟨fun i m σ H => m = xs.length - i ∧ i ≤ xs.length ∧ Pv i σ H, ⟨xs.length, by simp, Nat.zero_le _, h0⟩, ?_⟩
 rintro i m σ H ⟨rfl, hi, p⟩
 have q := hl i σ H hi p
 by_cases hlt : i < xs.length
 ·refine .inr ⟨⟨xs, xs[i], q, by simp [hlt]⟩, Pv (i + 1), fun σ' H' p' => ⟨xs.length - (i + 1), by omega, rfl, hlt, p'⟩, fun x H' y => ?_⟩
  obtain ⟨e, y⟩ := y
  subst e
  exact hs i x σ _ (y xs q) p
 ·have e : i = xs.length := by omega
  subst e
  exact .inl ⟨⟨xs, q, Nat.le_refl _⟩, hd σ H p⟩
theorem ZNQ {lo : Int} {n : Nat} {g : TG} {tb : TS} {D : ZDp} {σ : St} {H : Hp} (Pv : Nat → St → Hp → Prop) (h0 : Pv 0 σ H)
  (hs : ∀ i σ H, i < n → Pv i σ H → g (.int (lo + i)) σ H fun σ2 H2 => tb { D with nx := Pv (i + 1), ct := Pv (i + 1), bk := D.nx } σ2 H2) (hd : ∀ σ H, Pv n σ H → D.nx σ H) :
  ∃ W : Nat → Nat → St → Hp → Prop, (∃ m, W 0 m σ H) ∧ ∀ i m σ H, W i m σ H →
   ((Itr lo n).stop i H ∧ D.nx σ H) ∨ ((Itr lo n).go i H ∧ ∃ N : St → Hp → Prop, (∀ σ' H', N σ' H' → ∃ m', m' < m ∧ W (i + 1) m' σ' H') ∧ ∀ x H', (Itr lo n).yld i H x H' → g x σ H' fun σ2 H2 => tb { D with nx := N, ct := N, bk := D.nx } σ2 H2) := by
 refine ⟨fun i m σ H => m = n - i ∧ i ≤ n ∧ Pv i σ H, ⟨n, by simp, Nat.zero_le _, h0⟩, ?_⟩
 rintro i m σ H ⟨rfl, hi, p⟩
 by_cases hlt : i < n
 ·refine .inr ⟨hlt, Pv (i + 1), fun σ' H' p' => ⟨n - (i + 1), by omega, rfl, hlt, p'⟩, fun x H' y => ?_⟩
  obtain ⟨e, y⟩ := y
  subst e y
  exact hs i σ _ hlt p
 ·have e : i = n := by omega
  subst e
  exact .inl ⟨Nat.le_refl _, hd σ H p⟩
abbrev R2 := V → V → Hp → VK → Prop
def OpR (X : Cx) (f : Value → Value → Sem Value) (r : R2) : Prop :=
 ∀ (pins : List (Addr × Obj)) (s : Shared) (σ : St) (H : Hp) (x y : V) (v u : Value) (Q : VK), Inv X pins σ H s → ZCx x v → ZCx y u → r x y H Q →
  wpAny (model X.prog X.w) X.A (f v u) (EP X pins σ Q) X.xe s
def UnR (X : Cx) (f : Value → Sem Value) (r : V → Hp → VK → Prop) : Prop :=
 ∀ (pins : List (Addr × Obj)) (s : Shared) (σ : St) (H : Hp) (x : V) (v : Value) (Q : VK), Inv X pins σ H s → ZCx x v → r x H Q →
  wpAny (model X.prog X.w) X.A (f v) (EP X pins σ Q) X.xe s
def ZDh (X : Cx) (f : Value) (r : List V → Hp → VK → Prop) : Prop :=
 ∀ (pins : List (Addr × Obj)) (s : Shared) (σ : St) (H : Hp) (xs : List V) (us : List Value) (Q : VK), Inv X pins σ H s → ZCz xs us → r xs H Q →
  wpAny (model X.prog X.w) X.A (call f us) (EP X pins σ Q) X.xe s
def tOp (r : R2) (ta tb : TE) : TE := fun σ H Q => ta σ H fun x H1 => tb σ H1 fun y H2 => r x y H2 Q
def tUn (r : V → Hp → VK → Prop) (ta : TE) : TE := fun σ H Q => ta σ H fun x H1 => r x H1 Q
def rI (C : Int → Int → Prop) (g : Int → Int → V) : R2 := fun x y H Q => ∃ i j, x = .int i ∧ y = .int j ∧ C i j ∧ Q (g i j) H
def rI0 (g : Int → Int → V) : R2 := fun x y H Q => ∃ i j, x = .int i ∧ y = .int j ∧ Q (g i j) H
def rU (g : Int → V) : V → Hp → VK → Prop := fun x H Q => ∃ i, x = .int i ∧ Q (g i) H
section
variable {X : Cx} {a b c : Expr} {ta tb tc : TE} {pos : Pos}
theorem ZOz (ha : PE X a ta) (hb : PE X b tb) {pins : List (Addr × Obj)} {s : Shared} {σ : St} {H : Hp} {R : V → V → Hp → Prop} (I : Inv X pins σ H s)
  (h : ta σ H fun x H1 => tb σ H1 fun y H2 => R x y H2) {Q : Value → Shared → Prop} {f : Value → Value → Sem Value}
  (hf : ∀ v u s2 x y H2, Inv X pins σ H2 s2 → ZCx x v → ZCx y u → R x y H2 → wpAny (model X.prog X.w) X.A (f v u) Q X.xe s2) :
  wpAny (model X.prog X.w) X.A (eval a X.env) (fun v s₁ => wpAny (model X.prog X.w) X.A (eval b X.env) (fun u s₂ => wpAny (model X.prog X.w) X.A (f v u) Q X.xe s₂) X.xe s₁) X.xe s := by
 refine thn (ha pins s σ H _ I h) fun v s1 ⟨x, H1, I1, r1, q1⟩ => ?_
 refine thn (hb pins s1 σ H1 _ I1 q1) fun u s2 ⟨y, H2, I2, r2, q2⟩ => ?_
 exact hf v u s2 x y H2 I2 r1 r2 q2
theorem ZT4 {op : Operator} {r : R2} (ho : OpR X (binaryOp op) r) (ha : PE X a ta) (hb : PE X b tb) : PE X (.BinOp a op b pos) (tOp r ta tb) := by
 intro pins s σ H Q I h
 exact wpAny_BinOp (ZOz ha hb I h fun v u s2 x y H2 I2 rx ry q => ho pins s2 σ H2 x y v u Q I2 rx ry q)
theorem ZT5 {op : UnaryOp} {r : V → Hp → VK → Prop} (ho : UnR X (unaryOp op) r) (ha : PE X a ta) : PE X (.UnaryOp op a pos) (tUn r ta) := by
 intro pins s σ H Q I h
 exact UnaryOp_ (thn (ha pins s σ H _ I h) fun v s1 ⟨x, H1, I1, r1, q1⟩ => ho pins s1 σ H1 x v Q I1 r1 q1)
theorem opI {f : Value → Value → Sem Value} {C : Int → Int → Prop} {g : Int → Int → Int}
  (rule : ∀ (i j : Int) (t u : Tok) (s : Shared) (Q : Value → Shared → Prop) (E : Value → Shared → Prop), C i j → Q (.int (g i j) s.toks) { s with toks := s.toks + 1 } → wpAny (model X.prog X.w) X.A (f (.int i t) (.int j u)) Q E s) :
  OpR X f (rI C fun i j => .int (g i j)) := by
 intro pins s σ H x y v u Q I rx ry h
 obtain ⟨i, j, rfl, rfl, hc, q⟩ := h
 obtain ⟨t, rfl⟩ := rx
 obtain ⟨t', rfl⟩ := ry
 exact rule i j t t' s _ _ hc ⟨.int (g i j), H, I.tok _, ⟨_, rfl⟩, q⟩
theorem ZO0 {f : Value → Value → Sem Value} {g : Int → Int → Int}
  (rule : ∀ (i j : Int) (t u : Tok) (s : Shared) (Q : Value → Shared → Prop) (E : Value → Shared → Prop), Q (.int (g i j) s.toks) { s with toks := s.toks + 1 } → wpAny (model X.prog X.w) X.A (f (.int i t) (.int j u)) Q E s) :
  OpR X f (rI0 fun i j => .int (g i j)) := by
 intro pins s σ H x y v u Q I rx ry h
 obtain ⟨i, j, rfl, rfl, q⟩ := h
 obtain ⟨t, rfl⟩ := rx
 obtain ⟨t', rfl⟩ := ry
 exact rule i j t t' s _ _ ⟨.int (g i j), H, I.tok _, ⟨_, rfl⟩, q⟩
theorem ZMd {f : Value → Value → Sem Value} {g : Int → Int → Bool}
  (rule : ∀ (i j : Int) (t u : Tok) (s : Shared) (Q : Value → Shared → Prop) (E : Value → Shared → Prop), Q (.bool (g i j)) s → wpAny (model X.prog X.w) X.A (f (.int i t) (.int j u)) Q E s) :
  OpR X f (rI0 fun i j => .bl (g i j)) := by
 intro pins s σ H x y v u Q I rx ry h
 obtain ⟨i, j, rfl, rfl, q⟩ := h
 obtain ⟨t, rfl⟩ := rx
 obtain ⟨t', rfl⟩ := ry
 exact rule i j t t' s _ _ ⟨.bl (g i j), H, I, rfl, q⟩
def ZO1 (i j : Int) : Prop := 0 ≤ j ∧ j ≤ 1000000 ∧ i.natAbs < 2 ^ 64
def ZO2 (i j : Int) : Prop := (-(2 ^ 64) < i ∧ i < 2 ^ 64) ∨ (-(2 ^ 64) < j ∧ j < 2 ^ 64)
theorem ZO2.ok {i j : Int} (h : ZO2 i j) : IntMulOk i j := by
 rcases h with ⟨h1, h2⟩ | ⟨h1, h2⟩
 ·exact .of_left (intBits_le_64 h1 h2)
 ·exact .of_right (intBits_le_64 h1 h2)
theorem ZDZ : OpR X (binaryOp .Add) (rI0 fun i j => .int (i + j)) := ZO0 fun _ _ _ _ _ _ _ q => add_int q
theorem ZEF : OpR X (binaryOp .Sub) (rI0 fun i j => .int (i - j)) := ZO0 fun _ _ _ _ _ _ _ q => sub_int q
theorem ZGf : OpR X (binaryOp .Mod) (rI (fun _ j => 0 < j) fun i j => .int (i % j)) := opI fun i j _ _ _ _ _ hc q => by
 have h1 : (0 : Int) < j := hc
 exact mod_int' (by omega) (by rw [Int.fmod_eq_emod_of_nonneg i (by omega)]; exact q)
theorem ZD5 : OpR X (binaryOp .Pow) (rI ZO1 fun i j => .int (i ^ j.toNat)) := opI fun _ _ _ _ _ _ _ hc q => pow_int_small hc.1 hc.2.1 hc.2.2 q
theorem ZL1 : OpR X (inplaceOp .Add) (rI0 fun i j => .int (i + j)) := ZO0 fun _ _ _ _ _ _ _ q => iadd_int q
theorem ZQz : OpR X (inplaceOp .Mult) (rI ZO2 fun i j => .int (i * j)) := opI fun _ _ _ _ _ _ _ hc q => imul_int q hc.ok
theorem unI {f : Value → Sem Value} {g : Int → Int}
  (rule : ∀ (i : Int) (t : Tok) (s : Shared) (Q : Value → Shared → Prop) (E : Value → Shared → Prop), Q (.int (g i) s.toks) { s with toks := s.toks + 1 } → wpAny (model X.prog X.w) X.A (f (.int i t)) Q E s) :
  UnR X f (rU fun i => .int (g i)) := by
 intro pins s σ H x v Q I rx h
 obtain ⟨i, rfl, q⟩ := h
 obtain ⟨t, rfl⟩ := rx
 exact rule i t s _ _ ⟨.int (g i), H, I.tok _, ⟨_, rfl⟩, q⟩
theorem ZEM : UnR X (unaryOp .USub) (rU fun i => .int (-i)) := unI fun _ _ _ _ _ q => neg_int q
end
def ZSl : V → V → Bool
 | .non, .non => true | .non, .int _ => true | .int _, .non => true | .non, .bl _ => true | .bl _, .non => true | .non, .str _ => true | .str _, .non => true
 | .int _, .int _ => true | .bl _, .bl _ => true | .str _, .str _ => true | .byt _, .byt _ => true
 | .int _, .str _ => true | .str _, .int _ => true | .bl _, .str _ => true | .str _, .bl _ => true
 | _, _ => false
def rEq : R2 := fun x y H Q => ZSl x y = true ∧ Q (.bl (decide (x = y))) H
def rNe : R2 := fun x y H Q => ZSl x y = true ∧ Q (.bl (!decide (x = y))) H
theorem ZL2 {i j : Int} : decide (V.int i = V.int j) = (i == j) := by
 rw [Bool.eq_iff_iff]
 simp
theorem ZNR {i j : Bool} : decide (V.bl i = V.bl j) = (i == j) := by
 rw [Bool.eq_iff_iff]
 simp
theorem ZL3 {i j : Str} : decide (V.str i = V.str j) = (i == j) := by
 rw [Bool.eq_iff_iff]
 simp
theorem ZL4 {i j : Array UInt8} : decide (V.byt i = V.byt j) = (i.toList == j.toList) := by
 rw [Bool.eq_iff_iff]
 cases i
 cases j
 simp
section
variable {X : Cx} {a b c : Expr} {ta tb tc : TE} {pos : Pos}
theorem ZDJ {pins : List (Addr × Obj)} {σ : St} {H : Hp} {s : Shared} {Q : VK} {k k' : Bool} (I : Inv X pins σ H s) (q : Q (.bl k) H) (e : k = k') : EP X pins σ Q (.bool k') s := by
 subst e
 exact ⟨.bl k, H, I, rfl, q⟩
theorem ZEI : OpR X (compareOp .Eq) rEq := by
 intro pins s σ H x y v u Q I rx ry h
 obtain ⟨hs, q⟩ := h
 cases x with
 | non =>
  cases rx
  cases y with
  | non => cases ry; exact PySem.EqNone.eq_none_none (ZDJ I q (by simp))
  | bl j => cases ry; exact PySem.EqNone.eq_none_bool (ZDJ I q (by simp))
  | int j => obtain ⟨t', rfl⟩ := ry; exact PySem.EqNone.eq_none_int (ZDJ I q (by simp))
  | str j => obtain ⟨t', rfl⟩ := ry; exact PySem.EqNone.eq_none_str (ZDJ I q (by simp))
  | _ => exact absurd (show false = true from hs) Bool.false_ne_true
 | bl i =>
  cases rx
  cases y with
  | non => cases ry; exact PySem.EqNone.eq_bool_none (ZDJ I q (by simp))
  | bl j => cases ry; exact eq_bool (ZDJ I q ZNR)
  | str j => obtain ⟨t', rfl⟩ := ry; exact PySem.EqMixed.eq_bool_str (ZDJ I q (by simp))
  | _ => exact absurd (show false = true from hs) Bool.false_ne_true
 | int i =>
  obtain ⟨t, rfl⟩ := rx
  cases y with
  | non => cases ry; exact PySem.EqNone.eq_int_none (ZDJ I q (by simp))
  | int j => obtain ⟨t', rfl⟩ := ry; exact eq_int (ZDJ I q ZL2)
  | str j => obtain ⟨t', rfl⟩ := ry; exact PySem.EqMixed.eq_int_str (ZDJ I q (by simp))
  | _ => exact absurd (show false = true from hs) Bool.false_ne_true
 | str i =>
  obtain ⟨t, rfl⟩ := rx
  cases y with
  | non => cases ry; exact PySem.EqNone.eq_str_none (ZDJ I q (by simp))
  | bl j => cases ry; exact PySem.EqMixed.eq_str_bool (ZDJ I q (by simp))
  | int j => obtain ⟨t', rfl⟩ := ry; exact PySem.EqMixed.eq_str_int (ZDJ I q (by simp))
  | str j => obtain ⟨t', rfl⟩ := ry; exact eq_str (ZDJ I q ZL3)
  | _ => exact absurd (show false = true from hs) Bool.false_ne_true
 | byt i =>
  obtain ⟨t, rfl⟩ := rx
  cases y with
  | byt j => obtain ⟨t', rfl⟩ := ry; exact PySem.W.eq_bytes (ZDJ I q ZL4)
  | _ => exact absurd (show false = true from hs) Bool.false_ne_true
 | _ => cases y <;> exact absurd (show false = true from hs) Bool.false_ne_true
theorem ZT6 : OpR X (compareOp .NotEq) rNe := by
 intro pins s σ H x y v u Q I rx ry h
 obtain ⟨hs, q⟩ := h
 cases x with
 | non =>
  cases rx
  cases y with
  | non => cases ry; exact PySem.EqNone.ne_none_none (ZDJ I q (by simp))
  | bl j => cases ry; exact PySem.EqNone.ne_none_bool (ZDJ I q (by simp))
  | int j => obtain ⟨t', rfl⟩ := ry; exact PySem.EqNone.ne_none_int (ZDJ I q (by simp))
  | str j => obtain ⟨t', rfl⟩ := ry; exact PySem.EqNone.ne_none_str (ZDJ I q (by simp))
  | _ => exact absurd (show false = true from hs) Bool.false_ne_true
 | bl i =>
  cases rx
  cases y with
  | non => cases ry; exact PySem.EqNone.ne_bool_none (ZDJ I q (by simp))
  | bl j => cases ry; exact ne_bool (ZDJ I q (congrArg not ZNR))
  | str j => obtain ⟨t', rfl⟩ := ry; exact PySem.EqMixed.ne_bool_str (ZDJ I q (by simp))
  | _ => exact absurd (show false = true from hs) Bool.false_ne_true
 | int i =>
  obtain ⟨t, rfl⟩ := rx
  cases y with
  | non => cases ry; exact PySem.EqNone.ne_int_none (ZDJ I q (by simp))
  | int j => obtain ⟨t', rfl⟩ := ry; exact ne_int (ZDJ I q (congrArg not ZL2))
  | str j => obtain ⟨t', rfl⟩ := ry; exact PySem.EqMixed.ne_int_str (ZDJ I q (by simp))
  | _ => exact absurd (show false = true from hs) Bool.false_ne_true
 | str i =>
  obtain ⟨t, rfl⟩ := rx
  cases y with
  | non => cases ry; exact PySem.EqNone.ne_str_none (ZDJ I q (by simp))
  | bl j => cases ry; exact PySem.EqMixed.ne_str_bool (ZDJ I q (by simp))
  | int j => obtain ⟨t', rfl⟩ := ry; exact PySem.EqMixed.ne_str_int (ZDJ I q (by simp))
  | str j => obtain ⟨t', rfl⟩ := ry; exact ne_str (ZDJ I q (congrArg not ZL3))
  | _ => exact absurd (show false = true from hs) Bool.false_ne_true
 | byt i =>
  obtain ⟨t, rfl⟩ := rx
  cases y with
  | byt j => obtain ⟨t', rfl⟩ := ry; exact PySem.W.ne_bytes (ZDJ I q (congrArg not ZL4))
  | _ => exact absurd (show false = true from hs) Bool.false_ne_true
 | _ => cases y <;> exact absurd (show false = true from hs) Bool.false_ne_true
theorem ZGE : OpR X (compareOp .Lt) (rI0 fun i j => .bl (decide (i < j))) := ZMd fun _ _ _ _ _ _ _ q => lt_int q
theorem ZGF : OpR X (compareOp .LtE) (rI0 fun i j => .bl (decide (i ≤ j))) := ZMd fun _ _ _ _ _ _ _ q => le_int q
theorem ZQb : OpR X (compareOp .Gt) (rI0 fun i j => .bl (decide (j < i))) := ZMd fun _ _ _ _ _ _ _ q => gt_int q
theorem ZQc : OpR X (compareOp .GtE) (rI0 fun i j => .bl (decide (j ≤ i))) := ZMd fun _ _ _ _ _ _ _ q => ge_int q
theorem ZSm : OpR X (compareOp .Is) (fun x y H Q => y = .non ∧ Q (.bl (decide (x = .non))) H) := by
 intro pins s σ H x y v u Q I rx ry h
 obtain ⟨rfl, q⟩ := h
 cases ry
 refine is_none_gen (ZDJ I q ?_)
 cases x <;> first
  | (cases rx; rfl)
  | (obtain ⟨t, rfl⟩ := rx; rfl)
theorem ZQ0 : OpR X (compareOp .IsNot) (fun x y H Q => y = .non ∧ Q (.bl (!decide (x = .non))) H) := by
 intro pins s σ H x y v u Q I rx ry h
 obtain ⟨rfl, q⟩ := h
 cases ry
 refine isnot_none_gen (ZDJ I q ?_)
 cases x <;> first
  | (cases rx; rfl)
  | (obtain ⟨t, rfl⟩ := rx; rfl)
theorem ZC4 (b : Expr) {op : CmpOp} (h : op ≠ .In := by decide) (h2 : op ≠ .NotIn := by decide) : behindInMarks op b = false := by
 have e1 : (op == CmpOp.In) = false := by cases op <;> first | rfl | exact absurd rfl h
 have e2 : (op == CmpOp.NotIn) = false := by cases op <;> first | rfl | exact absurd rfl h2
 cases b <;> simp [behindInMarks, e1, e2]
theorem ZQ1 {op : CmpOp} {r : R2} (ho : OpR X (compareOp op) r) (ha : PE X a ta) (hb : PE X b tb) (hm : behindInMarks op b = false) : PE X (.Compare a [op] [b] pos) (tOp r ta tb) := by
 intro pins s σ H Q I h
 exact wpAny_Compare1 (ZOz ha hb I h fun v u s2 x y H2 I2 rx ry q => ho pins s2 σ H2 x y v u Q I2 rx ry q) hm
def ZIw (t : TE) : TT := fun σ H Q => t σ H fun x H' => ∃ k, x = .bl k ∧ Q k H'
theorem ZQ2 {op : CmpOp} {r : R2} (ho : OpR X (compareOp op) r) (ha : PE X a ta) (hb : PE X b tb) (hm : behindInMarks op b = false) : PT X (.Compare a [op] [b] pos) (ZIw (tOp r ta tb)) := by
 intro pins s σ H Q I h
 refine wpAny_isTrue_Compare1 (thn (ha pins s σ H _ I h) fun v s1 ⟨x, H1, I1, r1, q1⟩ => thn (hb pins s1 σ H1 _ I1 q1) fun u s2 ⟨y, H2, I2, r2, q2⟩ =>
  thn (ho pins s2 σ H2 x y v u _ I2 r1 r2 q2) fun c s3 ⟨z, H3, I3, r3, k, e, q3⟩ => ?_) hm
 subst e
 cases r3
 exact wpAny_truthy_bool ⟨H3, I3, q3⟩
def ZHk (r r' : R2) (ta tb tc : TE) : TE := fun σ H Q => ta σ H fun x H1 => tb σ H1 fun y H2 => r x y H2 fun z H3 => ∃ k, z = .bl k ∧
 (if k = true then tc σ H3 fun w' H4 => r' y w' H4 Q else Q (.bl false) H3)
theorem ZO3 {op op' : CmpOp} {r r' : R2} (ho : OpR X (compareOp op) r) (ho' : OpR X (compareOp op') r') (ha : PE X a ta) (hb : PE X b tb) (hc : PE X c tc)
  (hm : lastMarks [op, op'] [b, c] = false := by with_unfolding_all rfl) : PE X (.Compare a [op, op'] [b, c] pos) (ZHk r r' ta tb tc) := by
 intro pins s σ H Q I h
 refine Compare_chain (thn (ha pins s σ H _ I h) fun v s1 ⟨x, H1, I1, r1, q1⟩ => chain_link (thn (hb pins s1 σ H1 _ I1 q1) fun u s2 ⟨y, H2, I2, r2, q2⟩ =>
  thn (ho pins s2 σ H2 x y v u _ I2 r1 r2 q2) fun d s3 ⟨z, H3, I3, r3, k, e, q3⟩ => ?_)) hm
 subst e
 cases r3
 refine wpAny_truthy_bool ?_
 cases k with
 | false => exact ite_ff ⟨.bl false, H3, I3, rfl, q3⟩
 | true => exact ite_tt (chain_last (thn (hc pins s3 σ H3 _ I3 q3) fun w' s4 ⟨z', H4, I4, r4, q4⟩ => ho' pins s4 σ H4 y z' u w' Q I4 r2 r4 q4))
theorem ZO4 {op op' : CmpOp} {r r' : R2} (ho : OpR X (compareOp op) r) (ho' : OpR X (compareOp op') r') (ha : PE X a ta) (hb : PE X b tb) (hc : PE X c tc)
  (hm : lastMarks [op, op'] [b, c] = false := by with_unfolding_all rfl) : PT X (.Compare a [op, op'] [b, c] pos) (ZIw (ZHk r r' ta tb tc)) := by
 intro pins s σ H Q I h
 refine isTrue_chain (thn (ha pins s σ H _ I h) fun v s1 ⟨x, H1, I1, r1, q1⟩ => test_link (thn (hb pins s1 σ H1 _ I1 q1) fun u s2 ⟨y, H2, I2, r2, q2⟩ =>
  thn (ho pins s2 σ H2 x y v u _ I2 r1 r2 q2) fun d s3 ⟨z, H3, I3, r3, k, e, q3⟩ => ?_)) hm
 subst e
 cases r3
 refine wpAny_truthy_bool ?_
 cases k with
 | false =>
  obtain ⟨k', e', q'⟩ := q3
  cases e'
  exact ite_ff ⟨H3, I3, q'⟩
 | true =>
  refine ite_tt (test_last (thn (hc pins s3 σ H3 _ I3 q3) fun w' s4 ⟨z', H4, I4, r4, q4⟩ => thn (ho' pins s4 σ H4 y z' u w' _ I4 r2 r4 q4) fun d' s5 ⟨z2, H5, I5, r5, k2, e2, q5⟩ => ?_))
  subst e2
  cases r5
  exact wpAny_truthy_bool ⟨H5, I5, q5⟩
theorem ZIx : (sizeLine : Nat) < 2 ^ 63 := by rw [sizeLine_eq]; decide
theorem ZIy {x : V} {us : List Value} (r : ZCz [x] us) : ∃ u, us = [u] ∧ ZCx x u := by
 cases r with
 | cons r1 r2 => cases r2; exact ⟨_, rfl, r1⟩
theorem ZQd {x y : V} {us : List Value} (r : ZCz [x, y] us) : ∃ u w', us = [u, w'] ∧ ZCx x u ∧ ZCx y w' := by
 cases r with
 | cons r1 r2 =>
  cases r2 with
  | cons r3 r4 => cases r4; exact ⟨_, _, rfl, r1, r3⟩
theorem ZO5 : ZDh X (.builtin "abs") (fun xs H Q => ∃ i, xs = [.int i] ∧ Q (.int (if i < 0 then -i else i)) H) := by
 intro pins s σ H xs us Q I r h
 obtain ⟨i, rfl, q⟩ := h
 obtain ⟨u, rfl, t, rfl⟩ := ZIy r
 exact call_abs_int fun u tk => ⟨.int (if i < 0 then -i else i), H, I.tok _, ⟨_, rfl⟩, q⟩
theorem ZNS (hc : X.calm = true) : ZDh X (.builtin "max") (fun xs H Q => ∃ i j, xs = [.int i, .int j] ∧ Q (.int (if j > i then j else i)) H) := by
 intro pins s σ H xs us Q I r h
 obtain ⟨i, j, rfl, q⟩ := h
 obtain ⟨u, w', rfl, ⟨t, rfl⟩, ⟨t', rfl⟩⟩ := ZQd r
 refine max_two_ints (I.ok.hd hc) fun h' tk k => ⟨_, H, I.kept k, ?_, q⟩
 by_cases hj : j > i
 ·rw [if_pos hj, if_pos hj]; exact ⟨_, rfl⟩
 ·rw [if_neg hj, if_neg hj]; exact ⟨_, rfl⟩
theorem ZNT (hc : X.calm = true) : ZDh X (.builtin "min") (fun xs H Q => ∃ i j, xs = [.int i, .int j] ∧ Q (.int (if j < i then j else i)) H) := by
 intro pins s σ H xs us Q I r h
 obtain ⟨i, j, rfl, q⟩ := h
 obtain ⟨u, w', rfl, ⟨t, rfl⟩, ⟨t', rfl⟩⟩ := ZQd r
 refine min_two_ints (I.ok.hd hc) fun h' tk k => ⟨_, H, I.kept k, ?_, q⟩
 by_cases hj : j < i
 ·rw [if_pos hj, if_pos hj]; exact ⟨_, rfl⟩
 ·rw [if_neg hj, if_neg hj]; exact ⟨_, rfl⟩
theorem ZNU : ZDh X (.type "int") (fun xs H Q => (∃ i, xs = [.int i] ∧ Q (.int i) H) ∨ ∃ k, xs = [.bl k] ∧ Q (.int (if k then 1 else 0)) H) := by
 intro pins s σ H xs us Q I r h
 rcases h with ⟨i, rfl, q⟩ | ⟨k, rfl, q⟩
 ·obtain ⟨u, rfl, t, rfl⟩ := ZIy r
  exact call_int_int ⟨.int i, H, I, ⟨_, rfl⟩, q⟩
 ·obtain ⟨u, rfl, r1⟩ := ZIy r
  cases r1
  exact call_int_bool ⟨.int (if k then 1 else 0), H, I.tok _, ⟨_, rfl⟩, q⟩
end
structure ZIY (h : Heap) (x dx C : Addr) (mA : Str → Option Value) : Prop where
 obj : h.get? x = some (PySem.W.instObj C dx)
 ns : h.Ns1 dx mA
 ne : dx ≠ x
theorem ZNV {h : Heap} {dx : Addr} {mA : Str → Option Value} (n : h.Ns1 dx mA) : ∃ od, h.get? dx = some od ∧ ∀ name, PySem.W.lookIn name od = some (mA name) := by
 obtain ⟨o, es, ep, ho, hd, hk, _, hm⟩ := n
 refine ⟨o, ho, fun name => ?_⟩
 have e := hm name
 unfold nsFind findBy at e
 rw [← Array.find?_toList] at e
 unfold PySem.W.lookIn
 rw [hd]
 dsimp only
 split
 ·rename_i y q
  rw [q] at e
  exact congrArg some e
 ·rename_i q
  rw [q] at e
  have a : es.toList.any (·.refKey) = false := by
   rw [List.any_eq_false]
   intro y hy
   obtain ⟨z, t, hkey⟩ := hk y (Array.mem_toList_iff.mp hy)
   simp [DictEntry.refKey, hkey]
  have a' : ¬ es.toList.any (·.refKey) = true := by rw [a]; exact Bool.false_ne_true
  rw [if_neg a']
  exact congrArg some e
theorem ZIY.look {h : Heap} {x dx C : Addr} {mA : Str → Option Value} (I : ZIY h x dx C mA) : ∃ od, PySem.W.InstAt h x (PySem.W.instObj C dx) C (some od) ∧ ∀ name, PySem.W.lookIn name od = some (mA name) :=
 let ⟨od, ho, hl⟩ := ZNV I.ns
 ⟨od, ⟨I.obj, rfl, rfl, ho⟩, hl⟩
section
variable {prog : Program} {w : World} {A : Around} {E : Value → Shared → Prop} {s : Shared} {K : W.Frag} {x dx C f : Addr} {mA : Str → Option Value} {name : Str} {v : Value}
theorem ZQ3 {expr : Bool} {Q : Value → Shared → Prop} (X : K.In s.heap) (I : ZIY s.heap x dx C mA) (hg : PySem.W.plainGet K C name = true) (hh : PySem.W.hasDictIn K C = true)
  (ha : W.findIn K (.ref C) name = some none) (hv : mA name = some v) (hv' : PySem.W.handedIn v = true) (h : Q v { s with toks := s.toks + 1 }) :
  wpAny (model prog w) A (getAttr (.ref x) name expr) Q E s := by
 obtain ⟨od, J, hl⟩ := I.look
 exact PySem.W.get_value X J (PySem.W.plainGet_of hg).1 (PySem.W.findObj_own hh ha rfl (by rw [hl, hv])) hv' h
theorem ZO6 {pl : Sem Bool} {Q : Value × List Value → Shared → Prop} (X : K.In s.heap) (I : ZIY s.heap x dx C mA) (hg : PySem.W.plainGet K C name = true)
  (hf : W.findIn K (.ref C) name = some (some (.ref f))) (ht : PySem.W.isFn K (.ref f) = true) (hv : mA name = none) (h : Q (.ref f, [.ref x]) s) :
  wpAny (model prog w) A (getMethod (.ref x) name pl) Q E s := by
 obtain ⟨od, J, hl⟩ := I.look
 exact PySem.W.method_fn X J (PySem.W.plainGet_of hg).1 (PySem.W.plainGet_of hg).2 hf (beq_iff_eq.mp ht) (by show (PySem.W.lookIn name od).map (·.isSome) = some false; rw [hl, hv]; rfl) h
theorem ZQ4 {ns : List Str} {Q : Unit → Shared → Prop} (X : K.In s.heap) (I : ZIY s.heap x dx C mA)
  (hs : W.findIn K (.ref C) "__setattr__" = some (some (.builtin "object.__setattr__"))) (hp : PySem.W.plainOver K C = true) (ht : PySem.W.takerIn K C name = some none) (hh : PySem.W.hasDictIn K C = true)
  (hw : PySem.Within mA ns) (hsz : ns.length ≤ sizeLine)
  (h : ∀ h', ZIY h' x dx C (fun y => if y = name then some v else mA y) → Heap.SameBut dx s.heap h' → Q () { s with heap := h', toks := s.toks + 2 }) :
  wpAny (model prog w) A (setAttr (.ref x) name v) Q E s := by
 obtain ⟨od, J, hl⟩ := I.look
 refine PySem.W.set_plain X J hs (PySem.W.osa_open (s := { s with toks := s.toks + 1 }) (r := none) X J hp ht fun b => ?_)
 obtain ⟨cd, hc, hd'⟩ := PySem.W.any_some hh
 have hx : s.heap.get? x = some ⟨.ref C, some dx, .plain, #[]⟩ := I.obj
 refine wpAny_bind (wpAny_pure (wpAny_bind (wpAny_bind (wpAny_loadPart hx (wpAny_bind (PySem.W.Looks.here (s := { s with toks := s.toks + 1 }) (PySem.W.looks_clsIn X hc) ?_))))))
 rw [hd']
 refine wpAny_pure (a := some dx) (wpAny_bind (wpAny_pure (wpAny_bind ?_)))
 refine wpAny_nsSet1 (s := { s with toks := s.toks + 1 }) I.ns fun h' hn2 hs2 => ?_
 obtain ⟨oD, esD, epD, hoD, hdD, hcD⟩ := hn2.count (PySem.Within.cons name v hw)
 refine wpAny_bind (wpAny_lookBehind hoD (by rw [hdD]; exact pastItsLine_dict (Nat.le_trans hcD (by rw [List.length_cons]; omega))) ?_)
 exact wpAny_pure (h _ ⟨(hs2.2 _ (Ne.symm I.ne)).trans I.obj, hn2, I.ne⟩ hs2)
theorem ZKb {R : Result → Shared → Prop} {vs : List Value} {kw : List (Str × Value)} (X : K.In s.heap) (hm : PySem.W.makesIn K C = true)
  (hi : W.findIn K (.ref C) "__init__" = some (some (.ref f))) (hf : PySem.W.typeIn K (.ref f) = some (.type "function"))
  (h : codeAny (model prog w) (A.under (.builtin "type.__call__" ⟨.ref C :: vs, kw⟩)) (.call (.ref f) ⟨.ref (s.heap.objs.size + 1) :: vs, kw⟩) (PySem.W.InitBack (s.heap.objs.size + 1) R)
   { s with heap := (s.heap.push PySem.W.emptyDict).push (PySem.W.instObj C s.heap.objs.size) }) :
  codeAny (model prog w) A (.call (.ref C) ⟨vs, kw⟩) R s := by
 obtain ⟨hh, g, d, t, os⟩ := s
 exact PySem.W.make_core (PySem.W.makes_of X hm) (PySem.W.looks_findIn X hi) (fun self => PySem.W.bind_fn X self hf) (.inl rfl) h
end
def ZDQ (f : Str) (v : V) : List (Str × V) → List (Str × V)
 | [] => [(f, v)]
 | (g, x) :: r => if g = f then (g, v) :: r else (g, x) :: ZDQ f v r
theorem ZIM (f g : Str) (v : V) : ∀ fs : List (Str × V), (ZDQ f v fs).lookup g = if g = f then some v else fs.lookup g
 | [] => by
  show List.lookup g [(f, v)] = _
  by_cases h : g = f
  ·have hb : (g == f) = true := beq_iff_eq.mpr h
   simp only [List.lookup, hb, if_pos h]
  ·have hb : (g == f) = false := beq_eq_false_iff_ne.mpr h
   simp only [List.lookup, hb, if_neg h]
 | (k, x) :: r => by
  have ih := ZIM f g v r
  rw [show ZDQ f v ((k, x) :: r) = (if k = f then (k, v) :: r else (k, x) :: ZDQ f v r) from rfl]
  by_cases hk : k = f
  ·rw [if_pos hk]
   by_cases h : g = k
   ·have hb : (g == k) = true := beq_iff_eq.mpr h
    simp only [List.lookup, hb, if_pos (h.trans hk)]
   ·have hb : (g == k) = false := beq_eq_false_iff_ne.mpr h
    simp only [List.lookup, hb, if_neg (fun e : g = f => h (e.trans hk.symm))]
  ·rw [if_neg hk]
   by_cases h : g = k
   ·have hb : (g == k) = true := beq_iff_eq.mpr h
    simp only [List.lookup, hb, if_neg (fun e : g = f => hk (h.symm.trans e))]
   ·have hb : (g == k) = false := beq_eq_false_iff_ne.mpr h
    simp only [List.lookup, hb]
    exact ih
theorem ZHl (f : Str) (v : V) : ∀ fs : List (Str × V), f ∈ (ZDQ f v fs).map (·.1) ∧ ∀ g, g ∈ fs.map (·.1) → g ∈ (ZDQ f v fs).map (·.1)
 | [] => ⟨by simp [ZDQ], fun g h => by simp at h⟩
 | (k, x) :: r => by
  obtain ⟨i1, i2⟩ := ZHl f v r
  rw [show ZDQ f v ((k, x) :: r) = (if k = f then (k, v) :: r else (k, x) :: ZDQ f v r) from rfl]
  by_cases hk : k = f
  ·rw [if_pos hk]
   subst hk
   exact ⟨by simp, fun g h => by simpa using h⟩
  ·rw [if_neg hk]
   refine ⟨?_, fun g h => ?_⟩
   ·rw [List.map_cons]
    exact List.mem_cons_of_mem _ i1
   ·rw [List.map_cons] at h ⊢
    rcases List.mem_cons.mp h with e | e
    ·exact List.mem_cons.mpr (.inl e)
    ·exact List.mem_cons_of_mem _ (i2 g e)
theorem ZIN (f : Str) (v : V) : ∀ fs : List (Str × V), (ZDQ f v fs).length ≤ fs.length + 1
 | [] => by simp [ZDQ]
 | (k, x) :: r => by
  have ih := ZIN f v r
  rw [show ZDQ f v ((k, x) :: r) = (if k = f then (k, v) :: r else (k, x) :: ZDQ f v r) from rfl]
  by_cases hk : k = f
  ·rw [if_pos hk, List.length_cons, List.length_cons]; omega
  ·rw [if_neg hk, List.length_cons, List.length_cons]; omega
theorem ZEV.some_of {v : V} {o : Option Value} (r : ZEV (some v) o) : ∃ u, o = some u ∧ ZCx v u := by
 cases o with
 | none => exact (show False from r).elim
 | some u => exact ⟨u, rfl, r⟩
theorem ZEV.none_of {o : Option Value} (r : ZEV none o) : o = none := by
 cases o with
 | none => rfl
 | some u => exact (show False from r).elim
theorem ZNW {v : V} {u : Value} (r : ZCx v u) : PySem.W.handedIn u = true := by
 cases v with
 | non => cases (show u = Value.none from r); rfl
 | bl b => cases (show u = Value.bool b from r); rfl
 | int i => obtain ⟨t, e⟩ := (show ∃ t, u = Value.int i t from r); cases e; rfl
 | str x => obtain ⟨t, e⟩ := (show ∃ t, u = Value.str x t from r); cases e; rfl
 | byt b => obtain ⟨t, e⟩ := (show ∃ t, u = Value.bytes b t from r); cases e; rfl
 | flt b => obtain ⟨t, e⟩ := (show ∃ t, u = Value.float b t from r); cases e; rfl
 | ref a => cases (show u = Value.ref a from r); rfl
 | ty n => cases (show u = Value.type n from r); rfl
section
variable {P : Program} {w : World} {H H' : Hp} {h h' : Heap} {a C dx : Addr} {fs fs' : List (Str × V)}
theorem ZH8 (hok : HOk P w H h) (e : H a = some (.ins C dx fs)) : ∃ mA, ZIY h a dx C mA ∧ (∀ f, ZEV (fs.lookup f) (mA f)) ∧ PySem.Within mA (fs.map (·.1)) ∧ fs.length ≤ 1000 ∧ H dx = some (.own a) := by
 obtain ⟨d, z, ne, ob, mA, n, r, q⟩ := (show ZDR P w H h a (.ins C dx fs) from hok a _ e)
 exact ⟨mA, ⟨ob, n, ne⟩, r, q, z, d⟩
end
structure Cls (K : W.Frag) (C : Addr) : Prop where
 pg : PySem.W.plainGet K C Str.empty = true
 hd : PySem.W.hasDictIn K C = true
 po : PySem.W.plainOver K C = true
 sa : W.findIn K (.ref C) "__setattr__" = some (some (.builtin "object.__setattr__"))
theorem Cls.get {K : W.Frag} {C : Addr} (c : Cls K C) (f : Str) : PySem.W.plainGet K C f = true := c.pg
def ZDr (K : W.Frag) (C : Addr) (f : Str) : Prop := W.findIn K (.ref C) f = some none
theorem ZDr.taker {K : W.Frag} {C : Addr} {f : Str} (n : ZDr K C f) : PySem.W.takerIn K C f = some none := by
 unfold PySem.W.takerIn
 rw [show W.findIn K (.ref C) f = some none from n]
 rfl
structure ZD8 (K : W.Frag) (C : Addr) (m : Str) (f : Addr) : Prop where
 at_ : W.findIn K (.ref C) m = some (some (.ref f))
 fn : PySem.W.isFn K (.ref f) = true
 kp : W.keepIn K (.ref f) = true
section
variable {X : Cx} {pins : List (Addr × Obj)} {σ : St} {H : Hp} {s : Shared} {a C dx : Addr} {fs : List (Str × V)} {f : Str} {v : V} {A : Around} {E : Value → Shared → Prop}
theorem ZIz {b : Bool} {Q : Value → Shared → Prop} (I : Inv X pins σ H s) (e : H a = some (.ins C dx fs)) (c : Cls X.K C) (n : ZDr X.K C f) (l : fs.lookup f = some v)
  (h : ∀ u s', Inv X pins σ H s' → ZCx v u → Q u s') : wpAny (model X.prog X.w) A (getAttr (.ref a) f b) Q E s := by
 obtain ⟨mA, O, r, _, _, _⟩ := ZH8 I.hok e
 obtain ⟨u, hu, ru⟩ := ZEV.some_of (v := v) (o := mA f) (by rw [← l]; exact r f)
 exact ZQ3 I.kIn O (c.get f) c.hd n hu (ZNW ru) (h u _ (I.tok _) ru)
theorem ZI0 {m : Str} {g : Addr} {pl : Sem Bool} {Q : Value × List Value → Shared → Prop} (I : Inv X pins σ H s) (e : H a = some (.ins C dx fs)) (c : Cls X.K C) (k : ZD8 X.K C m g) (l : fs.lookup m = none)
  (h : Q (.ref g, [.ref a]) s) : wpAny (model X.prog X.w) A (getMethod (.ref a) m pl) Q E s := by
 obtain ⟨mA, O, r, _, _, _⟩ := ZH8 I.hok e
 have hn : mA m = none := ZEV.none_of (by rw [← l]; exact r m)
 exact ZO6 I.kIn O (c.get m) k.at_ k.fn hn h
theorem ZI1 {y : V} {u : Value} {Q : Unit → Shared → Prop} (I : Inv X pins σ H s) (e : H a = some (.ins C dx fs)) (c : Cls X.K C) (n : ZDr X.K C f) (hl : fs.length < 1000) (ry : ZCx y u)
  (h : ∀ s', Inv X pins σ (upd H a (.ins C dx (ZDQ f y fs))) s' → Q () s') : wpAny (model X.prog X.w) A (setAttr (.ref a) f u) Q E s := by
 obtain ⟨mA, O, r, wi, _, ho⟩ := ZH8 I.hok e
 have hz : (fs.map (·.1)).length ≤ sizeLine := by rw [List.length_map, sizeLine_eq]; omega
 refine ZQ4 I.kIn O c.sa c.po n.taker c.hd wi hz fun h' O' sb => h _ ?_
 have hd : ∃ o, h'.get? dx = some o := let ⟨o, _, _, e', _⟩ := O'.ns; ⟨o, e'⟩
 refine I.write (x := a) (e := dx) (by rw [e]; exact True.intro) (.inr ho) (fun b q hb z => (sb.2 b hb).trans z) hd ?_
 refine ⟨by rw [ZC3 O.ne]; exact ho, ?_, O.ne, O'.obj, _, O'.ns, fun g => ?_, fun g hg => ?_⟩
 ·have := ZIN f y fs; omega
 ·show ZEV ((ZDQ f y fs).lookup g) (if g = f then some u else mA g)
  rw [ZIM]
  by_cases q : g = f
  ·rw [if_pos q, if_pos q]; exact ry
  ·rw [if_neg q, if_neg q]; exact r g
 ·by_cases q : g = f
  ·rw [q]; exact (ZHl f y fs).1
  ·refine (ZHl f y fs).2 g (wi g fun z => hg ?_)
   show (if g = f then some u else mA g) = none
   rw [if_neg q]; exact z
theorem Inv.made (I : Inv X pins σ H s) : Inv X pins σ (upd (upd H s.heap.objs.size (.own (s.heap.objs.size + 1))) (s.heap.objs.size + 1) (.ins C s.heap.objs.size []))
  { s with heap := (s.heap.push PySem.W.emptyDict).push (PySem.W.instObj C s.heap.objs.size) } := by
 have e1 : (s.heap.push PySem.W.emptyDict).get? s.heap.objs.size = some PySem.W.emptyDict := Heap.get?_push_size s.heap rfl
 have e2 : ((s.heap.push PySem.W.emptyDict).push (PySem.W.instObj C s.heap.objs.size)).get? (s.heap.objs.size + 1) = some (PySem.W.instObj C s.heap.objs.size) := by
  have := Heap.get?_push_size (s.heap.push PySem.W.emptyDict) (o := PySem.W.instObj C s.heap.objs.size) rfl
  rwa [Heap.size_push] at this
 have e3 : (s.heap.push PySem.W.emptyDict).Ns s.heap.objs.size (fun _ => none) := ⟨PySem.W.emptyDict, #[], _, e1, rfl, (fun e he => absurd he (by simp)), fun _ => rfl⟩
 have I1 := I.laid (a := s.heap.objs.size) (o := .own (s.heap.objs.size + 1)) (h' := s.heap.push PySem.W.emptyDict) (t' := s.toks) (fun b u q => Heap.get?_push_of_some _ q) (Nat.le_refl _) ⟨_, e1⟩
 refine I1.laid (a := s.heap.objs.size + 1) (o := .ins C s.heap.objs.size []) (t' := s.toks) (fun b u q => Heap.get?_push_of_some _ q) (Nat.le_of_eq (Heap.size_push _ _)) ?_
 have ne : s.heap.objs.size ≠ s.heap.objs.size + 1 := Nat.ne_of_lt (Nat.lt_succ_self _)
 refine ⟨by rw [ZC3 ne, ZCy], Nat.zero_le _, ne, e2, fun _ => none, (Heap.Ns1.of_empty e3).at fun o q => Heap.get?_push_of_some _ q, fun _ => True.intro, fun y hy => absurd rfl hy⟩
theorem ZQ5 {prog : Program} {w : World} {env : Env} {e : Expr} {f : Str} {pos : Pos} {s : Shared} {Q : Value → Shared → Prop} (hb : attributeBase e f env (eval e env) = eval e env)
  (h : wpAny (model prog w) A (eval e env) (fun o s₁ => wpAny (model prog w) A (getAttr o f true) Q E s₁) E s) : wpAny (model prog w) A (eval (.Attribute e f pos) env) Q E s :=
 Attribute_any_ h (by rw [arm_eval_Attribute, hb])
end
def ZO7 (K : W.Frag) (ta : TE) (f : Str) : TE := fun σ H Q => ta σ H fun x H1 => ∃ a C dx fs v, x = .ref a ∧ H1 a = some (.ins C dx fs) ∧ Cls K C ∧ ZDr K C f ∧ fs.lookup f = some v ∧ Q v H1
def ZO8 (K : W.Frag) (ta tv : TE) (f : Str) : TS := fun D σ H => tv σ H fun y H1 => ta σ H1 fun x H2 => ∃ a C dx fs, x = .ref a ∧ H2 a = some (.ins C dx fs) ∧ Cls K C ∧ ZDr K C f ∧ fs.length < 1000 ∧
 D.nx σ (upd H2 a (.ins C dx (ZDQ f y fs)))
def ZSn (X : Cx) (op : Operator) (rd : V → V → Hp → VK → Prop) : Prop :=
 ∀ (pins : List (Addr × Obj)) (s : Shared) (σ : St) (H : Hp) (x y : V) (u v : Value) (Q : VK), Inv X pins σ H s → ZCx x u → ZCx y v → rd x y H Q → wpAny (model X.prog X.w) X.A (inplaceOp op u v) (EP X pins σ Q) X.xe s
def ZJP (K : W.Frag) (ta tv : TE) (rd : V → V → Hp → VK → Prop) (f : Str) : TS := fun D σ H => ta σ H fun x H1 => ∃ a C dx fs v, x = .ref a ∧ H1 a = some (.ins C dx fs) ∧ Cls K C ∧ ZDr K C f ∧ fs.lookup f = some v ∧
 tv σ H1 fun y H2 => rd v y H2 fun z H3 => ∃ dx' fs', H3 a = some (.ins C dx' fs') ∧ fs'.length < 1000 ∧ D.nx σ (upd H3 a (.ins C dx' (ZDQ f z fs')))
section
variable {X : Cx} {o e value : Expr} {f : Str} {pos pos' tpos : Pos} {ta tv : TE}
theorem ZSo (he : PE X e ta) (hb : attributeBase e f X.env (eval e X.env) = eval e X.env) : PE X (.Attribute e f pos) (ZO7 X.K ta f) := by
 intro pins s σ H Q I h
 refine ZQ5 hb (thn (he pins s σ H _ I h) fun u s1 ⟨x, H1, I1, rx, a, C, dx, fs, v, ex, ea, c, n, l, q⟩ => ?_)
 subst ex
 obtain rfl : u = Value.ref a := rx
 exact ZIz I1 ea c n l fun u' s2 I2 ru => ⟨v, H1, I2, ru, q⟩
theorem ZSp (ha : PE X o ta) (hv : PE X value tv) (hs : swapsWith value (some (.Attribute o f pos')) pos.line X.env = pure false) : PS X (.Assign [.Attribute o f pos'] value pos) (ZO8 X.K ta tv f) := by
 intro pins s σ H D I h
 refine plainObj_wpAny_Assign_Attribute (thn (hv pins s σ H _ I h) fun u s1 ⟨y, H1, I1, ry, q⟩ => thn (ha pins s1 σ H1 _ I1 q) fun ov s2 ⟨x, H2, I2, rx, a, C, dx, fs, ex, ea, c, n, l, q2⟩ => ?_) hs
 subst ex
 obtain rfl : ov = Value.ref a := rx
 exact ZI1 I2 ea c n l ry fun s3 I3 => ⟨σ, _, I3, q2⟩
theorem ZNX {op : Operator} {rd : V → V → Hp → VK → Prop} (ha : PE X o ta) (hv : PE X value tv) (hop : ZSn X op rd) : PS X (.AugAssign (.Attribute o f tpos) op value pos) (ZJP X.K ta tv rd f) := by
 intro pins s σ H D I h
 refine wpAny_AugAssign_AttributeAny (thn (ha pins s σ H _ I h) fun ov s1 ⟨x, H1, I1, rx, a, C, dx, fs, v, ex, ea, c, n, l, q⟩ => ?_)
 subst ex
 obtain rfl : ov = Value.ref a := rx
 refine ZIz I1 ea c n l fun u s2 I2 ru => thn (hv pins s2 σ H1 _ I2 q) fun w3 s3 ⟨y, H2, I3, ry, q3⟩ => thn (hop pins s3 σ H2 v y u w3 _ I3 ru ry q3) fun w4 s4 ⟨z, H3, I4, rz, dx', fs', ea', l', q4⟩ => ?_
 exact ZI1 I4 ea' c n l' rz fun s5 I5 => ⟨σ, _, I5, q4⟩
def ZKc : V → V → Hp → VK → Prop := fun x y H Q => ∃ i j, x = .int i ∧ y = .int j ∧ Q (.int (i + j)) H
theorem ZSq : ZSn X .Add ZKc := by
 rintro pins s σ H x y u v Q I rx ry ⟨i, j, rfl, rfl, q⟩
 obtain ⟨t, rfl⟩ := (show ∃ t, u = Value.int i t from rx)
 obtain ⟨t', rfl⟩ := (show ∃ t', v = Value.int j t' from ry)
 exact PyProof.Rows.iadd_int ⟨.int (i + j), H, I.tok _, ⟨_, rfl⟩, q⟩
end
section
variable {X : Cx} {pins : List (Addr × Obj)} {σ : St} {H : Hp} {s : Shared} {A : Around} {E : Value → Shared → Prop} {Q : Value → Shared → Prop} {c : Value} {b : Bool}
inductive ZFE (K : W.Frag) (H : Hp) : V → Value → Prop where
 | non : ZFE K H .non (.type "NoneType")
 | bl (x : Bool) : ZFE K H (.bl x) (.type "bool")
 | int (i : Int) : ZFE K H (.int i) (.type "int")
 | str (x : Str) : ZFE K H (.str x) (.type "str")
 | flt (x : UInt64) : ZFE K H (.flt x) (.type "float")
 | lst {a : Addr} {xs : List V} (e : H a = some (.lst xs)) : ZFE K H (.ref a) (.type "list")
 | frz {a : Addr} {o : Obj} {xs : List V} (e : H a = some (.frz o (.lst xs))) : ZFE K H (.ref a) (.type "list")
 | tup {a : Addr} {xs : List V} (e : H a = some (.tup xs)) : ZFE K H (.ref a) (.type "tuple")
 | dK {a : Addr} {kvs : List (Key × V)} (e : H a = some (.dK kvs)) : ZFE K H (.ref a) (.type "dict")
 | dT {a : Addr} {kvs : List (List Key × V)} (e : H a = some (.dT kvs)) : ZFE K H (.ref a) (.type "dict")
 | ins {a C dx : Addr} {fs : List (Str × V)} (e : H a = some (.ins C dx fs)) (cl : Cls K C) (ha : W.findIn K (.ref C) "__class__" = some (some (.builtin "object.__class__")))
  (hn : PySem.W.specialIn K (.builtin "object.__class__") "__get__" = some (some (.builtin "getset_descriptor.__get__"))) (htk : PySem.W.takesIn K (.builtin "object.__class__") = some true)
  (hm : PySem.W.mroIn K C (.type "object") = some true) : ZFE K H (.ref a) (.ref C)
theorem ZNY {x : V} {u t : Value} (I : Inv X pins σ H s) (rx : ZCx x u) (ty : ZFE X.K H x t) (e : W.kitOne X.K t c = some b) (h : ∀ tk, Q (.bool b) { s with toks := tk }) :
  wpAny (model X.prog X.w) A (call (.builtin "isinstance") [u, c]) Q E s := by
 cases ty with
 | non => cases (show u = Value.none from rx); exact PySem.W.kia_one PySem.W.kitx_none I.kIn True.intro e (fun z => nomatch z) h
 | bl y => cases (show u = Value.bool y from rx); exact PySem.W.kia_one PySem.W.kitx_bool I.kIn True.intro e (fun z => nomatch z) h
 | int i => obtain ⟨t, q⟩ := (show ∃ t, u = Value.int i t from rx); cases q; exact PySem.W.kia_one PySem.W.kitx_int I.kIn True.intro e (fun z => nomatch z) h
 | str y => obtain ⟨t, q⟩ := (show ∃ t, u = Value.str y t from rx); cases q; exact PySem.W.kia_one PySem.W.kitx_str I.kIn True.intro e (fun z => nomatch z) h
 | flt y => obtain ⟨t, q⟩ := (show ∃ t, u = Value.float y t from rx); cases q; exact PySem.W.kia_one PySem.W.kitx_float I.kIn True.intro e (fun z => nomatch z) h
 | @lst a xs ea =>
  cases (show u = Value.ref a from rx)
  obtain ⟨_, _, n, _, h1⟩ := (show ZDR X.prog X.w H s.heap a (.lst xs) from I.hok a _ ea)
  exact PySem.W.kia_one PySem.W.kitx_list I.kIn ⟨_, h1, rfl⟩ e (fun z => nomatch z) h
 | @frz a ob xs ea =>
  cases (show u = Value.ref a from rx)
  obtain ⟨_, _, _, n, _, h1⟩ := (show ZDR X.prog X.w H s.heap a (.frz ob (.lst xs)) from I.hok a _ ea)
  exact PySem.W.kia_one PySem.W.kitx_list I.kIn ⟨_, h1, rfl⟩ e (fun z => nomatch z) h
 | @tup a xs ea =>
  cases (show u = Value.ref a from rx)
  obtain ⟨_, _, _, p⟩ := (show ZDR X.prog X.w H s.heap a (.tup xs) from I.hok a _ ea)
  obtain ⟨o, h1, h2, _⟩ := p
  exact PySem.W.kia_one PySem.W.kitx_tuple I.kIn ⟨o, h1, h2⟩ e (fun z => nomatch z) h
 | @dK a kvs ea =>
  cases (show u = Value.ref a from rx)
  obtain ⟨_, _, vs, _, p⟩ := (show ZDR X.prog X.w H s.heap a (.dK kvs) from I.hok a _ ea)
  obtain ⟨o, es, ep, h1, h2, _⟩ := p
  exact PySem.W.kia_one PySem.W.kitx_dict I.kIn ⟨o, h1, h2.1⟩ e (fun z => nomatch z) h
 | @dT a kvs ea =>
  cases (show u = Value.ref a from rx)
  obtain ⟨_, _, xs, _, o, es, ep, h1, h2, _⟩ := (show ZDR X.prog X.w H s.heap a (.dT kvs) from I.hok a _ ea)
  exact PySem.W.kia_one PySem.W.kitx_dict I.kIn ⟨o, h1, h2.1⟩ e (fun z => nomatch z) h
 | @ins a C dx fs ea cl ha hn htk hm =>
  cases (show u = Value.ref a from rx)
  obtain ⟨mA, O, _⟩ := ZH8 I.hok ea
  obtain ⟨od, J, _⟩ := O.look
  exact PySem.W.kia_one (PySem.W.kitx_own (cl.get _) cl.hd ha hn htk hm) I.kIn J e (fun z => nomatch z) h
end
structure Room (k : Nat) (A : Around) : Prop where
 hd : A.handled = none
 dp : A.depth + 3 * k + 5 < recursionLimit
 un : A.units + 16 * k + 200 < cLine
 gd : A.guards = some []
theorem Room.mono {j k : Nat} {A : Around} (r : Room k A) (h : j ≤ k) : Room j A := ⟨r.hd, by have := r.dp; omega, by have := r.un; omega, r.gd⟩
theorem Room.deeper {k : Nat} {A : Around} (r : Room (k + 1) A) (env : Env) : Room k (A.deeper env) :=
 ⟨r.hd, by have := r.dp; show A.depth + 1 + 3 * k + 5 < _; omega, by have := r.un; show A.units + 3 + 16 * k + 200 < _; omega, r.gd⟩
theorem Room.in1 {k : Nat} {A : Around} (r : Room (k + 1) A) : Room k A.in1 :=
 ⟨r.hd, by have := r.dp; show A.depth + 3 * k + 5 < _; omega, by have := r.un; show A.units + 1 + 16 * k + 200 < _; omega, r.gd⟩
theorem ZMe {A : Around} {C : Addr} {us : List Value} {kw : List (Str × Value)} : (A.under (.builtin "type.__call__" ⟨.ref C :: us, kw⟩)).depth = A.depth + 1 := by
 first | rfl | simp [Around.under, Code.weight, Code.isCreation, Code.isGuard, Code.isCaller, Code.frames, Code.isFrame, guardIds]
theorem ZMf {A : Around} {C : Addr} {us : List Value} {kw : List (Str × Value)} : (A.under (.builtin "type.__call__" ⟨.ref C :: us, kw⟩)).units = A.units + 1 := by
 first | rfl | simp [Around.under, Code.cUnits, Code.frames, Code.isFrame]
theorem ZLj {A : Around} {C : Addr} {us : List Value} {kw : List (Str × Value)} : (A.under (.builtin "type.__call__" ⟨.ref C :: us, kw⟩)).guards = A.guards := by
 have e : pushGuards [] A.guards = A.guards := by cases A.guards <;> rfl
 first | exact e | rfl | simp [Around.under, Code.guards, Code.isGuard, guardIds, pushGuards]
theorem Room.make {k : Nat} {A : Around} (r : Room (k + 1) A) (C : Addr) (us : List Value) (kw : List (Str × Value)) : Room k (A.under (.builtin "type.__call__" ⟨.ref C :: us, kw⟩)) :=
 ⟨r.hd, by have := r.dp; rw [ZMe]; omega, by have := r.un; rw [ZMf]; omega, (ZLj).trans r.gd⟩
theorem Room.depth {k : Nat} {A : Around} (r : Room k A) : A.depth < recursionLimit := by have := r.dp; omega
theorem Room.units {k : Nat} {A : Around} (r : Room k A) : A.units + 64 < cLine := by have := r.un; omega
def ZKd : TA := fun _ H Q => Q [] H
def ZKS (ta : TE) (tr : TA) : TA := fun σ H Q => ta σ H fun x H1 => tr σ H1 fun xs H2 => Q (x :: xs) H2
section
variable {X : Cx} {e : Expr} {es : List Expr} {te : TE} {t : TA} {pos : Pos}
theorem ZSr : PA X [] ZKd := fun _ _ _ _ H Q I h => Calls.spliced_nil ⟨[], H, I, .nil, h⟩
theorem ZQ6 (ha : PE X e te) (hr : PA X es t) (hs : starEach (e :: es) X.env = (false, eval e X.env) :: starEach es X.env := by rfl) : PA X (e :: es) (ZKS te t) := by
 intro pos pins s σ H Q I h
 rw [hs]
 show wpAny _ _ (spliced ((false, eval e X.env) :: backTo pos (starEach es X.env))) _ _ s
 refine Calls.spliced_cons (thn (ha pins s σ H _ I h) fun u s1 ⟨x, H1, I1, r1, q1⟩ => ?_)
 exact thn (hr pos pins s1 σ H1 _ I1 q1) fun us s2 ⟨xs, H2, I2, r2, q2⟩ => ⟨x :: xs, H2, I2, .cons r1 r2, q2⟩
def ZO9 (t : TA) : TE := fun σ H Q => t σ H fun xs H1 => xs.length ≤ sizeLine ∧ ∀ p, H1 p = none → Q (.ref p) (upd H1 p (.tup xs))
def ZPA (t : TA) : TE := fun σ H Q => t σ H fun xs H1 => xs.length ≤ sizeLine ∧ ∀ p, H1 p = none → Q (.ref p) (upd H1 p (.lst xs))
theorem ZSs {x1} (h : PA X es t) : PE X (.Tuple es x1 pos) (ZO9 t) := by
 intro pins s σ H Q I hq
 refine wpAny_Tuple_spliced (thn (h pos pins s σ H _ I hq) fun us s1 ⟨xs, H1, I1, r, z, q⟩ => ⟨by rw [← r.length]; exact z, ?_⟩)
 have hf : H1 s1.heap.objs.size = none := I1.hok.fresh (Nat.le_refl _)
 refine ⟨.ref s1.heap.objs.size, upd H1 s1.heap.objs.size (.tup xs), I1.laid (t' := s1.toks) (fun b u e => Heap.get?_push_of_some _ e) (Nat.le_refl _) ?_, rfl, q _ hf⟩
 exact ⟨⟨z, fun _ => ⟨_, Heap.get?_push_size _ rfl, rfl, rfl⟩⟩, us, r, ⟨_, Heap.get?_push_size _ rfl, rfl, _, rfl⟩⟩
theorem ZSt (h : PA X es t) : PE X (.List es pos) (ZPA t) := by
 intro pins s σ H Q I hq
 refine wpAny_List_spliced (thn (h pos pins s σ H _ I hq) fun us s1 ⟨xs, H1, I1, r, z, q⟩ => ⟨by rw [← r.length]; exact z, ?_⟩)
 have hf : H1 s1.heap.objs.size = none := I1.hok.fresh (Nat.le_refl _)
 refine ⟨.ref s1.heap.objs.size, upd H1 s1.heap.objs.size (.lst xs), I1.laid (t' := s1.toks) (fun b u e => Heap.get?_push_of_some _ e) (Nat.le_refl _) ?_, rfl, q _ hf⟩
 exact ⟨z, us, 0, r, Heap.get?_push_size _ rfl⟩
end
abbrev Sp := List V → Hp → VK → XK → Prop
abbrev CXT := List Env → Hp → Shared → XK → Value → Shared → Prop
structure ZGQ (P : Program) (w : World) (K : W.Frag) (mg : Str → Option Value) (base : Heap) (A : Around) (outer : List Env) (s : Shared) (H : Hp) : Prop where
 frames : A.frames = some outer
 mod : Mod K mg base
 bs : ∀ b o, base.get? b = some o → s.heap.get? b = some o ∧ H b = none
 bsz : base.objs.size ≤ s.heap.objs.size
 funs : s.heap.FunFrames base outer
 frf : ∀ b ∈ frs outer, H b = none
 hok : HOk P w H s.heap
 bare : AllBare s.gens
def CE (outer : List Env) (P : Program) (w : World) (H : Hp) (s : Shared) (Q : VK) (u : Value) (s' : Shared) : Prop :=
 ∃ v H', s'.os = s.os ∧ AllBare s'.gens ∧ Un (frs outer) [] H H' s.heap s'.heap ∧ HOk P w H' s'.heap ∧ ZCx v u ∧ Q v H'
def CR (CX : CXT) (outer : List Env) (P : Program) (w : World) (H : Hp) (s : Shared) (Q : VK) (E : XK) (r : Result) (s' : Shared) : Prop :=
 match r with
 | .ok (.ret u) => CE outer P w H s Q u s'
 | .ok _ => False
 | .error e => CX outer H s E e s'
structure ZCr (P : Program) (w : World) (K : W.Frag) (mg : Str → Option Value) (base : Heap) (CX : CXT) (k : Nat) (f : Addr) (fd : FuncData) (ps : List Str) (sp : Sp) : Prop where
 len : ∀ vs H Q E, sp vs H Q E → vs.length = ps.length
 run : ∀ (A : Around) (outer : List Env) (s : Shared) (H : Hp) (args : Args) (us : List Value) (vs : List V) (Q : VK) (E : XK), Room k A → ZGQ P w K mg base A outer s H → BindsTo s fd args (ps.zip us) → ZCz vs us → sp vs H Q E →
  codeAny (model P w) A (.call (.ref f) args) (CR CX outer P w H s Q E) s
theorem ZGQ.make {P : Program} {w : World} {K : W.Frag} {mg : Str → Option Value} {base : Heap} {A : Around} {outer : List Env} {s : Shared} {H : Hp} (e : ZGQ P w K mg base A outer s H) (C : Addr) (us : List Value) (kw : List (Str × Value)) :
 ZGQ P w K mg base (A.under (.builtin "type.__call__" ⟨.ref C :: us, kw⟩)) outer s H := ⟨by first | exact e.frames | (simpa [Around.under, Code.envs, Code.isFrame, pushEnvs] using e.frames), e.mod, e.bs, e.bsz, e.funs, e.frf, e.hok, e.bare⟩
theorem ZGQ.in1 {P : Program} {w : World} {K : W.Frag} {mg : Str → Option Value} {base : Heap} {A : Around} {outer : List Env} {s : Shared} {H : Hp} (e : ZGQ P w K mg base A outer s H) :
 ZGQ P w K mg base A.in1 outer s H := ⟨e.frames, e.mod, e.bs, e.bsz, e.funs, e.frf, e.hok, e.bare⟩
section
variable {X : Cx} {pins : List (Addr × Obj)} {σ : St} {H : Hp} {s s' : Shared}
theorem Inv.env0 (I : Inv X pins σ H s) : ZGQ X.prog X.w X.K X.mg X.base X.A X.stack s H :=
 ⟨I.ok.frames, I.ok.mod, I.bs, Nat.le_trans I.ok.bsz I.sz, I.stack, I.stkFree, I.hok, I.bare⟩
theorem Inv.after {Q : VK} {u : Value} (I : Inv X pins σ H s) (h : CE X.stack X.prog X.w H s Q u s') : EP X pins σ Q u s' := by
 obtain ⟨v, H', os, bare, un, hok, r, q⟩ := h
 obtain ⟨hh, g, d, t, os'⟩ := s'
 obtain rfl : os' = s.os := os
 exact ⟨v, H', I.call (h' := hh) (g' := g) (d' := d) (t' := t) (ch := []) un hok bare (fun b z => absurd z (by simp)), r, q⟩
end
def ZI2 (sp : Sp) (dvs : List V) (E : XK) (t : TA) : TE := fun σ H Q => t σ H fun vs H1 => sp (vs ++ dvs) H1 Q E
def ZI3 (C : Addr) (m : Str) (sp : Sp) (dvs : List V) (E : XK) (ta : TE) (t : TA) : TE := fun σ H Q => ta σ H fun x H1 => ∃ a dx fs, x = .ref a ∧ H1 a = some (.ins C dx fs) ∧ fs.lookup m = none ∧
 t σ H1 fun vs H2 => sp (x :: (vs ++ dvs)) H2 Q E
def ZMg (C : Addr) (sp : Sp) (dvs : List V) (E : XK) (t : TA) : TE := fun σ H Q => t σ H fun vs H1 => ∀ x dx, H1 x = none → H1 dx = none → dx ≠ x →
 sp (.ref x :: (vs ++ dvs)) (upd (upd H1 dx (.own x)) x (.ins C dx [])) (fun v H2 => v = .non ∧ Q (.ref x) H2) E
def ZCu (K : W.Frag) (fd : FuncData) (ps : List Str) (ds : List Value) : Prop :=
 ∀ (s : Shared) (us : List Value), K.In s.heap → (us ++ ds).length = ps.length → BindsTo s fd ⟨us, []⟩ (ps.zip (us ++ ds))
theorem ZCu.all {K : W.Frag} {fd : FuncData} {ps : List Str} (h : ∀ us : List Value, us.length = ps.length → bindArgs fd ⟨us, []⟩ = pure (ps.zip us)) : ZCu K fd ps [] := fun s us _ hl => by
 rw [List.append_nil] at hl ⊢
 exact .of_eq (h us hl)
def ZEN (CX : CXT) (X : Cx) (E : XK) : Prop := ∀ (pins : List (Addr × Obj)) (σ : St) (H : Hp) (s : Shared) (e : Value) (s' : Shared), Inv X pins σ H s → CX X.stack H s E e s' → X.xe e s'
section
variable {X : Cx} {CX : CXT} {k : Nat} {f C : Addr} {fd : FuncData} {ps : List Str} {sp : Sp} {dvs : List V} {ds : List Value} {E : XK} {x m : Str} {p pos apos : Pos} {e o : Expr} {es : List Expr} {ta : TE} {t : TA}
theorem ZKe {pins : List (Addr × Obj)} {σ : St} {H : Hp} {s : Shared} {Q : VK} {us : List Value} {vs : List V} (F : ZCr X.prog X.w X.K X.mg X.base CX k f fd ps sp) (hr : Room k X.A) (hb : ZCu X.K fd ps ds) (hd : ZCz dvs ds) (hx : ZEN CX X E)
  (I : Inv X pins σ H s) (r : ZCz vs us) (h : sp (vs ++ dvs) H Q E) : wpAny (model X.prog X.w) X.A (call (.ref f) us) (EP X pins σ Q) X.xe s := by
 have r2 : ZCz (vs ++ dvs) (us ++ ds) := r.append hd
 have hl : (us ++ ds).length = ps.length := by rw [← r2.length]; exact F.len _ _ _ _ h
 refine wpAny_call (codeAny_mono (F.run X.A X.stack s H ⟨us, []⟩ (us ++ ds) (vs ++ dvs) Q E hr I.env0 (hb s us I.kIn hl) r2 h) fun r s' hq => ?_)
 cases r with
 | error e => exact hx pins σ H s e s' I hq
 | ok fl =>
  cases fl with
  | ret u => exact I.after hq
  | next => exact False.elim hq
  | brk => exact False.elim hq
  | cont => exact False.elim hq
theorem ZQ7 (F : ZCr X.prog X.w X.K X.mg X.base CX k f fd ps sp) (hr : Room k X.A) (hg : Gl X x) (hm : X.mg x = some (.ref f)) (hk : W.keepIn X.K (.ref f) = true) (hb : ZCu X.K fd ps ds) (hd : ZCz dvs ds) (hx : ZEN CX X E)
  (ha : PA X (e :: es) t) (hdb : (x == ("__debug__" : Str)) = false := by decide) (he : starEach (e :: es) X.env = (false, eval e X.env) :: starEach es X.env := by rfl) (hpl : (backTo pos (starEach es X.env)).any (·.1) = false := by rfl) :
  PE X (.Call (.Name x p) (e :: es) [] pos) (ZI2 sp dvs E t) := by
 intro pins s σ H Q I h
 refine wpAny_Call_Name_kw (ZEu I hg hm ?_ hdb)
 refine PySem.W.callWith_K (h₀ := X.base) I.ok.mod.kin hk (thn (ha pos pins s σ H _ I h) fun us s1 ⟨vs, H1, I1, r, q⟩ => ⟨I1.kIn, ?_⟩) he hpl
 exact ZKe F hr hb hd hx I1 r q
theorem ZQ8 {pl : Sem Bool} (he : PE X o ta) (c : Cls X.K C) (hm : ZD8 X.K C m f) (F : ZCr X.prog X.w X.K X.mg X.base CX k f fd ps sp) (hr : Room k X.A) (hb : ZCu X.K fd ps ds) (hd : ZCz dvs ds) (hx : ZEN CX X E) (ha : PA X (e :: es) t)
  (hst : starEach (e :: es) X.env = (false, eval e X.env) :: starEach es X.env := by rfl) (hpl : (backTo pos (starEach es X.env)).any (·.1) = false := by rfl)
  (ht : eval (.Call (.Attribute o m apos) (e :: es) [] pos) X.env = (do
   let ov ← eval o X.env
   standAt apos.atName
   let (f, first) ← holding [ov] (getMethod ov m pl)
   callWith pos f first (backTo pos (starEach (e :: es) X.env)) (backToKw pos (keywordEach [] X.env))) := by rfl) :
  PE X (.Call (.Attribute o m apos) (e :: es) [] pos) (ZI3 C m sp dvs E ta t) := by
 intro pins s σ H Q I h
 refine PySem.W.methodCall_KW (pl := pl) (thn (he pins s σ H _ I h) fun u s1 ⟨x, H1, I1, rx, a, dx, fs, ex, ea, l, q⟩ => ?_) ht
 subst ex
 obtain rfl : u = Value.ref a := rx
 refine ZI0 I1 ea c hm l ?_
 refine PySem.W.callWith_K (first := [.ref a]) (h₀ := X.base) I.ok.mod.kin hm.kp (thn (ha pos pins s1 σ H1 _ I1 q) fun us s2 ⟨vs, H2, I2, r, q2⟩ => ⟨I2.kIn, ?_⟩) hst hpl
 exact ZKe (us := .ref a :: us) (vs := .ref a :: vs) F hr hb hd hx I2 (.cons rfl r) q2
theorem ZPB {pl : Sem Bool} (he : PE X o ta) (c : Cls X.K C) (hm : ZD8 X.K C m f) (F : ZCr X.prog X.w X.K X.mg X.base CX k f fd ps sp) (hr : Room k X.A) (hb : ZCu X.K fd ps ds) (hd : ZCz dvs ds) (hx : ZEN CX X E)
  (ht : eval (.Call (.Attribute o m apos) [] [] pos) X.env = (do
   let ov ← eval o X.env
   standAt apos.atName
   let (f, first) ← holding [ov] (getMethod ov m pl)
   callWith pos f first (backTo pos (starEach [] X.env)) (backToKw pos (keywordEach [] X.env))) := by rfl) :
  PE X (.Call (.Attribute o m apos) [] [] pos) (ZI3 C m sp dvs E ta ZKd) := by
 intro pins s σ H Q I h
 refine PySem.W.methodCall_KW (pl := pl) (thn (he pins s σ H _ I h) fun u s1 ⟨x, H1, I1, rx, a, dx, fs, ex, ea, l, q⟩ => ?_) ht
 subst ex
 obtain rfl : u = Value.ref a := rx
 refine ZI0 I1 ea c hm l ?_
 exact PySem.W.callWith_K0 (first := [.ref a]) I1.kIn hm.kp (ZKe (us := [.ref a]) (vs := [.ref a]) F hr hb hd hx I1 (.cons rfl .nil) q)
structure Mk (K : W.Frag) (C f : Addr) : Prop where
 makes : PySem.W.makesIn K C = true
 init : W.findIn K (.ref C) "__init__" = some (some (.ref f))
 fn : PySem.W.isFn K (.ref f) = true
 kp : W.keepIn K (.ref C) = true
theorem ZPC {pins : List (Addr × Obj)} {σ : St} {H : Hp} {s : Shared} {Q : VK} {us : List Value} {vs : List V} (M : Mk X.K C f) (F : ZCr X.prog X.w X.K X.mg X.base CX k f fd ps sp) (hr : Room (k + 1) X.A) (hb : ZCu X.K fd ps ds) (hd : ZCz dvs ds)
  (hx : ZEN CX X E) (I : Inv X pins σ H s) (r : ZCz vs us)
  (h : ∀ x dx, H x = none → H dx = none → dx ≠ x → sp (.ref x :: (vs ++ dvs)) (upd (upd H dx (.own x)) x (.ins C dx [])) (fun v H2 => v = .non ∧ Q (.ref x) H2) E) :
  wpAny (model X.prog X.w) X.A (call (.ref C) us) (EP X pins σ Q) X.xe s := by
 have hq := h (s.heap.objs.size + 1) s.heap.objs.size (I.hok.fresh (Nat.le_succ _)) (I.hok.fresh (Nat.le_refl _)) (Nat.ne_of_lt (Nat.lt_succ_self _))
 have I2 := Inv.made (C := C) I
 have r2 : ZCz (V.ref (s.heap.objs.size + 1) :: (vs ++ dvs)) (Value.ref (s.heap.objs.size + 1) :: (us ++ ds)) := .cons rfl (r.append hd)
 have hl : (Value.ref (s.heap.objs.size + 1) :: us ++ ds).length = ps.length := by
  have e := r2.length
  rw [F.len _ _ _ _ hq] at e
  exact e.symm
 refine wpAny_call (ZKb (f := f) I.kIn M.makes M.init (beq_iff_eq.mp M.fn) (codeAny_mono (F.run _ X.stack _ _ ⟨Value.ref (s.heap.objs.size + 1) :: us, []⟩ (Value.ref (s.heap.objs.size + 1) :: (us ++ ds)) _ _ E (hr.make C us [])
  (I2.env0.make C us []) (hb _ (Value.ref (s.heap.objs.size + 1) :: us) I2.kIn hl) r2 hq) fun r s' hq' => ?_))
 cases r with
 | error e => exact hx pins σ _ _ e s' I2 hq'
 | ok fl =>
  cases fl with
  | ret u =>
   obtain ⟨v, H', I3, rv, ev, q3⟩ := I2.after hq'
   subst ev
   exact ⟨rv, ⟨V.ref (s.heap.objs.size + 1), H', I3, rfl, q3⟩⟩
  | next => exact False.elim hq'
  | brk => exact False.elim hq'
  | cont => exact False.elim hq'
theorem ZQ9 (M : Mk X.K C f) (F : ZCr X.prog X.w X.K X.mg X.base CX k f fd ps sp) (hr : Room (k + 1) X.A) (hg : Gl X x) (hm : X.mg x = some (.ref C)) (hb : ZCu X.K fd ps ds) (hd : ZCz dvs ds) (hx : ZEN CX X E)
  (ha : PA X (e :: es) t) (hdb : (x == ("__debug__" : Str)) = false := by decide) (he : starEach (e :: es) X.env = (false, eval e X.env) :: starEach es X.env := by rfl) (hpl : (backTo pos (starEach es X.env)).any (·.1) = false := by rfl) :
  PE X (.Call (.Name x p) (e :: es) [] pos) (ZMg C sp dvs E t) := by
 intro pins s σ H Q I h
 refine wpAny_Call_Name_kw (ZEu I hg hm ?_ hdb)
 refine PySem.W.callWith_K (h₀ := X.base) I.ok.mod.kin M.kp (thn (ha pos pins s σ H _ I h) fun us s1 ⟨vs, H1, I1, r, q⟩ => ⟨I1.kIn, ?_⟩) he hpl
 exact ZPC M F hr hb hd hx I1 r q
end
structure ZCv (N P : List Str) (sc : Scope) : Prop where
 kind : sc.kind = .function
 co : sc.isCoroutine = false
 gen : sc.isGenerator = false
 nd : N.Nodup
 pre : N.take P.length = P
 par : ∀ x ∈ P, sc.names.lookup x = some .local ∨ sc.names.lookup x = some .cell
 nofree : ∀ y ∈ sc.names, y.2 ≠ .free
theorem ZJn {kindOf : Str → Option NameKind} {x : Str} : ∀ {binds : List (Str × Value)} {m : Str → Option Value}, (∀ v, (x, v) ∉ binds) → bindL kindOf binds m x = m x
 | [], _, _ => rfl
 | (n, v) :: r, m, h => by
  unfold bindL
  rw [ZJn fun w hw => h w (List.mem_cons_of_mem _ hw)]
  split
  ·have : x ≠ n := by rintro rfl; exact h v List.mem_cons_self
   simp [this]
  ·rfl
theorem ZJo {kindOf : Str → Option NameKind} {x : Str} : ∀ {binds : List (Str × Value)} {m : Str → Option Value}, (∀ v, (x, v) ∉ binds) → bindC kindOf binds m x = m x
 | [], _, _ => rfl
 | (n, v) :: r, m, h => by
  unfold bindC
  rw [ZJo fun w hw => h w (List.mem_cons_of_mem _ hw)]
  split
  ·rfl
  ·have : x ≠ n := by rintro rfl; exact h v List.mem_cons_self
   simp [this]
theorem ZJp {kindOf : Str → Option NameKind} {x : Str} {v : Value} : ∀ {P : List Str} {vs : List Value} {i : Nat} {m : Str → Option Value}, P.Nodup → P[i]? = some x → vs[i]? = some v → kindOf x = some .local →
  bindL kindOf (P.zip vs) m x = some v
 | [], _, _, _, _, h, _, _ => by simp at h
 | _ :: _, [], _, _, _, _, h, _ => by simp at h
 | p :: P, w :: vs, 0, m, nd, h1, h2, hk => by
  simp at h1 h2; subst h1; subst h2
  show bindL kindOf ((p, w) :: P.zip vs) m p = _
  unfold bindL
  rw [ZJn fun v hv => (List.nodup_cons.mp nd).1 (List.of_mem_zip hv).1, if_pos hk]
  simp
 | p :: P, w :: vs, i + 1, m, nd, h1, h2, hk => by
  show bindL kindOf ((p, w) :: P.zip vs) m x = _
  unfold bindL
  exact ZJp (i := i) (List.nodup_cons.mp nd).2 (by simpa using h1) (by simpa using h2) hk
theorem ZJq {kindOf : Str → Option NameKind} {x : Str} {v : Value} : ∀ {P : List Str} {vs : List Value} {i : Nat} {m : Str → Option Value}, P.Nodup → P[i]? = some x → vs[i]? = some v → kindOf x ≠ some .local →
  bindC kindOf (P.zip vs) m x = some v
 | [], _, _, _, _, h, _, _ => by simp at h
 | _ :: _, [], _, _, _, _, h, _ => by simp at h
 | p :: P, w :: vs, 0, m, nd, h1, h2, hk => by
  simp at h1 h2; subst h1; subst h2
  show bindC kindOf ((p, w) :: P.zip vs) m p = _
  unfold bindC
  rw [ZJo fun v hv => (List.nodup_cons.mp nd).1 (List.of_mem_zip hv).1, if_neg hk]
  simp
 | p :: P, w :: vs, i + 1, m, nd, h1, h2, hk => by
  show bindC kindOf ((p, w) :: P.zip vs) m x = _
  unfold bindC
  exact ZJq (i := i) (List.nodup_cons.mp nd).2 (by simpa using h1) (by simpa using h2) hk
def start (N : List Str) (vs : List V) : St := vs.map some ++ List.replicate (N.length - vs.length) none
def ZHm (CX : CXT) (P : Program) (w : World) (K : W.Frag) (mg : Str → Option Value) (base : Heap) (N : List Str) (qual : Str) (scope : Scope) (f : Addr) (cd : Value) (A : Around) (outer : List Env) (s : Shared) (H : Hp) (E : XK) : Cx where
 prog := P
 w := w
 K := K
 mg := mg
 base := base
 A := A.deeper (envOfC qual scope s.heap.objs.size f cd)
 N := N
 s₀ := s
 H₀ := H
 env := envOfC qual scope s.heap.objs.size f cd
 outer := outer
 stack := envOfC qual scope s.heap.objs.size f cd :: outer
 ex := []
 calm := true
 fn := fun _ => true
 pn := []
 xe := fun e s' => wpAny (model P w) (A.deeper (envOfC qual scope s.heap.objs.size f cd)) (leaving (envOfC qual scope s.heap.objs.size f cd) e) (fun _ s'' => CX outer H s E e s'') (fun e' s'' => CX outer H s E e' s'') s'
theorem ZKf {sc : Scope} {n : Nat} {x : Str} (h : sc.names.lookup x = some .cell) : ∃ c, (cellsFrom n sc.names []).lookup x = some c := by
 have q := PySem.W.cellsFrom_some sc.names n [] (.inl h)
 exact Option.isSome_iff_exists.mp q
theorem ZNZ {CX : CXT} {P : Program} {w : World} {K : W.Frag} {mg : Str → Option Value} {base : Heap} {N ps : List Str} {qual : Str} {scope : Scope} {f : Addr} {cd : Value} {A : Around} {outer : List Env} {s s1 : Shared} {H : Hp} {E : XK} {us : List Value} {vs : List V}
  (S : ZCv N ps scope) (hd : A.handled = none) (e0 : ZGQ P w K mg base A outer s H) (hl : vs.length = ps.length) (r : ZCz vs us)
  (x : InCallC s s.heap.objs.size (bindL (envOfC qual scope s.heap.objs.size f cd).kindOf (ps.zip us) fun _ => none) (cellsFrom (s.heap.objs.size + 1) scope.names []) (bindC (envOfC qual scope s.heap.objs.size f cd).kindOf (ps.zip us) fun _ => none) s1) :
  Inv (ZHm CX P w K mg base N qual scope f cd A outer s H E) [] (start N vs) H s1 := by
 have hpl : ps.length ≤ N.length := by have := congrArg List.length S.pre; rw [List.length_take] at this; omega
 obtain ⟨h1, tk, rfl, hk⟩ := x.done
 have noA : ∀ b : Addr, b ∉ (ZHm CX P w K mg base N qual scope f cd A outer s H E).ex := fun b z => absurd (show b ∈ ([] : List Addr) from z) (by simp)
 refine ⟨⟨e0.mod, S.kind, rfl, rfl, Nat.le_refl _, fun y z c h1 h2 => ?_, fun y hy => ?_, fun y c _ h => ?_, fun _ => hd, Around.frames_deeper e0.frames, .inr ⟨rfl, rfl⟩, fun b z => absurd z (noA b), e0.bs, e0.bsz, fun b _ _ => noA b, fun b z => absurd z (noA b), e0.funs, e0.frf⟩,
  rfl, e0.bare, Un.kept hk, ⟨_, x.toInCall.ns, fun i y v h1 h2 h3 => ?_⟩, fun y c h => ⟨_, x.cell y c h⟩, e0.hok.fresh (Nat.le_refl _), fun y c h => ?_, fun p hp => absurd (show p ∈ ([] : List (Addr × Obj)) from hp) (by simp), e0.hok.kept hk, ?_⟩
 ·exact name_of_addr x.apart (PySem.mem_of_lookup h1) (PySem.mem_of_lookup h2)
 ·have hy : scope.names.lookup y = some .cell ∨ scope.names.lookup y = some .free := hy
  rcases hy with hy | hy
  ·exact ZKf hy
  ·exact absurd rfl (S.nofree _ (PySem.mem_of_lookup hy))
 ·exact Nat.le_of_lt (x.above y c (PySem.mem_of_lookup h))
 ·have hi : i < vs.length := by
   unfold start at h2
   by_cases hi : i < vs.length
   ·exact hi
   ·rw [List.getElem?_append_right (by simpa using hi)] at h2
    rw [List.getElem?_replicate] at h2
    split at h2 <;> cases h2
  have ha : vs[i]? = some v := by
   unfold start at h2
   rw [List.getElem?_append_left (by simpa using hi), List.getElem?_map] at h2
   cases e : vs[i]? with
   | none => rw [e] at h2; cases h2
   | some a => rw [e] at h2; cases h2; rfl
  obtain ⟨u, hu, rv⟩ := r.get ha
  have hp : ps[i]? = some y := by
   rw [← S.pre, List.getElem?_take_of_lt (by omega)]; exact h1
  have ndP : ps.Nodup := by rw [← S.pre]; exact S.nd.sublist (List.take_sublist _ _)
  refine ⟨u, rv, ?_⟩
  rcases S.par y (List.mem_of_getElem? hp) with k | k
  ·exact .inl ⟨k, ZJp ndP hp hu k⟩
  ·obtain ⟨c, e⟩ := ZKf (n := s.heap.objs.size + 1) k
   refine .inr ⟨.inl k, c, e, ?_⟩
   have q := x.cell y c e
   rw [ZJq ndP hp hu (by show scope.names.lookup y ≠ _; rw [k]; decide)] at q
   exact q
 ·exact e0.hok.fresh (Nat.le_of_lt (x.above y c (PySem.mem_of_lookup h)))
 ·unfold start
  show _ = N.length
  rw [List.length_append, List.length_map, List.length_replicate]
  omega
theorem ZKT {CX : CXT} {P : Program} {w : World} {K : W.Frag} {mg : Str → Option Value} {base : Heap} {k : Nat} {f : Addr} {name qual : Str} {params : Arguments} {body : List Stmt} {scope : Scope} {dV kV doc pm cdv ct oc : Value} {an od : Option Addr}
  {osl : Array (Option Value)} {N ps : List Str} {sp : Sp} (lk : K.lookup f = some ⟨oc, od, .func (W.fnOf name qual params body scope dV kV doc pm an cdv ct), osl⟩) (hcd : W.codeIn K cdv qual = true) (S : ZCv N ps scope)
  (len : ∀ vs H Q E, sp vs H Q E → vs.length = ps.length)
  (hbody : ∀ (A : Around) (outer : List Env) (s : Shared) (H : Hp) (vs : List V) (Q : VK) (E : XK), Room k (A.deeper (envOfC qual scope s.heap.objs.size f cdv)) → sp vs H Q E →
   ∃ t, PSs (ZHm CX P w K mg base N qual scope f cdv A outer s H E) body t ∧ t { nx := fun _ H' => Q .non H', rt := Q } (start N vs) H) :
  ZCr P w K mg base CX (k + 1) f (W.fnOf name qual params body scope dV kV doc pm an cdv ct) ps sp := by
 refine ⟨len, fun A outer s H args us vs Q E hr e0 hb r hsp => ?_⟩
 have hl := len _ _ _ _ hsp
 have KX : K.In s.heap := e0.mod.kin.keeps fun b o e => (e0.bs b o e).1
 have lim : s.heap.NoLimit := e0.mod.nolimit.keeps fun b o e => (e0.bs b o e).1
 have hkind : ∀ y ∈ ps.zip us, scope.names.lookup y.1 = some .local ∨ (scope.names.lookup y.1 = some .cell ∧ ((cellsFrom (s.heap.objs.size + 1) scope.names []).lookup y.1).isSome = true) := fun ⟨n, v⟩ hy => by
  rcases S.par n (List.of_mem_zip hy).1 with q | q
  ·exact .inl q
  ·exact .inr ⟨q, PySem.W.cellsFrom_some _ _ _ (.inl q)⟩
 refine codeAny_call_function hr.depth (KX _ _ lk) rfl S.co S.gen rfl (PySem.W.codeRec_of KX hcd) (hb _ _ _ _ ?_)
 refine wpAny_newFunctionEnv_cells S.kind hkind fun env he s1 x => ?_
 subst he
 refine ⟨lim.keeps x.toInCall.keep, codeAny_func ?_⟩
 obtain ⟨t, ht, hq⟩ := hbody A outer s H vs Q E (hr.deeper _) hsp
 have I : Inv (ZHm CX P w K mg base N qual scope f cdv A outer s H E) [] (start N vs) H s1 := ZNZ S hr.hd e0 hl r x
 refine wpAny_mono (ht [] s1 (start N vs) H _ I hq) (fun fl s' hs => ?_) fun e s' hs => hs
 have fin : ∀ {σ' : St} {H' : Hp} {v : V} {u : Value}, Inv (ZHm CX P w K mg base N qual scope f cdv A outer s H E) [] σ' H' s' → ZCx v u → Q v H' → CE outer P w H s Q u s' :=
  fun {σ' H' v u} J rv q => ⟨v, H', J.os, J.bare, J.base, J.hok, rv, q⟩
 cases fl with
 | ret u =>
  obtain ⟨v, σ', H', J, rv, q⟩ := hs
  exact fin J rv q
 | next =>
  obtain ⟨σ', H', J, q⟩ := hs
  exact fin (v := V.non) (u := Value.none) J rfl q
 | brk =>
  obtain ⟨_, _, _, q⟩ := hs
  exact False.elim q
 | cont =>
  obtain ⟨_, _, _, q⟩ := hs
  exact False.elim q
section
variable {X : Cx} {x : Str} {p pos : Pos} {e : Expr} {es : List Expr} {t : TA} {id T : String} {r : List V → Hp → VK → Prop}
def tCB (r : List V → Hp → VK → Prop) (t : TA) : TE := fun σ H Q => t σ H fun vs H1 => r vs H1 Q
theorem ZPD (hc : ZDh X (.builtin id) r) (hg : Gl X x) (hm : X.mg x = none) (hv : bootBuiltins x = some (.builtin id)) (ha : PA X (e :: es) t) (hn : x ≠ "__name__" := by decide) (hdb : (x == ("__debug__" : Str)) = false := by decide)
  (he : starEach (e :: es) X.env = (false, eval e X.env) :: starEach es X.env := by rfl) (hpl : (backTo pos (starEach es X.env)).any (·.1) = false := by rfl) : PE X (.Call (.Name x p) (e :: es) [] pos) (tCB r t) := by
 intro pins s σ H Q I h
 refine wpAny_Call_Name_kw (ZFj I hg hm hv ?_ hn hdb)
 exact PyProof.Rows.callWith_builtin1 (thn (ha pos pins s σ H _ I h) fun us s1 ⟨vs, H1, I1, r1, q1⟩ => hc pins s1 σ H1 vs us Q I1 r1 q1) he hpl
theorem ZNa (hc : ZDh X (.type T) r) (hg : Gl X x) (hm : X.mg x = none) (hv : bootBuiltins x = some (.type T)) (ha : PA X (e :: es) t) (hn : x ≠ "__name__" := by decide) (hdb : (x == ("__debug__" : Str)) = false := by decide)
  (he : starEach (e :: es) X.env = (false, eval e X.env) :: starEach es X.env := by rfl) (hpl : (backTo pos (starEach es X.env)).any (·.1) = false := by rfl) : PE X (.Call (.Name x p) (e :: es) [] pos) (tCB r t) := by
 intro pins s σ H Q I h
 refine wpAny_Call_Name_kw (ZFj I hg hm hv ?_ hn hdb)
 exact PyProof.Rows.callWith_type1 (thn (ha pos pins s σ H _ I h) fun us s1 ⟨vs, H1, I1, r1, q1⟩ => hc pins s1 σ H1 vs us Q I1 r1 q1) he hpl
end
end L2
namespace HT
open PySem PyProof.Rows
section
variable {prog : Program} {w : World} {A : Around} {E : Value → Shared → Prop} {s : Shared}
theorem cat_tup {t b : Addr} {vs ws : List Value} {Q : Value → Shared → Prop} (ht : IsTup s.heap t vs.toArray) (hb : IsTup s.heap b ws.toArray) (hv : vs ≠ [])
  (h1 : ws = [] → Q (.ref t) s) (h2 : ws ≠ [] → Q (.ref s.heap.objs.size) { s with heap := s.heap.push { cls := .type "tuple", data := .seq (vs ++ ws).toArray } })
  (hsz : vs.length + ws.length ≤ sizeLine) : wpAny (model prog w) A (binaryOp .Add (.ref t) (.ref b)) Q E s := by
 obtain ⟨⟨cls, dd, data, sl⟩, ho, hc, n, hd⟩ := id ht
 obtain ⟨⟨cls2, dd2, data2, sl2⟩, ho2, hc2, n2, hd2⟩ := id hb
 simp only at hc hd hc2 hd2
 subst hc hd hc2 hd2
 have e : vs.toArray ++ ws.toArray = (vs ++ ws).toArray := by simp
 by_cases hw : ws = []
 ·exact concat_meets ⟨_, ho, rfl⟩ ⟨_, ho2, rfl⟩ noFill_tuple_add seq_tuple_add PySem.F.slot_tuple_add PySem.F.entry_tuple_add (PySem.F.args_tuple_add_2 _ _)
   (tuple_addW1 t b vs.toArray ws.toArray n n2 dd dd2 sl sl2 (by simpa using hv) (by simp [hw])) ⟨ho, ho2, h1 hw⟩
 ·refine concat_meets ⟨_, ho, rfl⟩ ⟨_, ho2, rfl⟩ noFill_tuple_add seq_tuple_add PySem.F.slot_tuple_add PySem.F.entry_tuple_add (PySem.F.args_tuple_add_2 _ _)
   (tuple_addW2 t b vs.toArray ws.toArray n n2 dd dd2 sl sl2 (by simpa using hv) (by simpa using hw) (by rw [List.size_toArray, List.size_toArray]; exact hsz)) ⟨ho, ho2, ?_⟩
  rw [e]
  exact h2 hw
end
end HT
namespace L2
open PySem PySem.Spec PyProof.Rows
abbrev TO := St → Hp → (Option Int → Hp → Prop) → Prop
section
variable {X : Cx} {e : Expr} {te : TE} {lo hi : Option Expr} {tl th : TO} {pos p2 : Pos}
def ZT7 (K : W.Frag) : R2 := fun x y H Q => ∃ a b xs ys, x = .ref a ∧ y = .ref b ∧ SqT K H a xs ∧ SqT K H b ys ∧ xs ≠ [] ∧ xs.length + ys.length ≤ sizeLine ∧
 (ys = [] → Q (.ref a) H) ∧ (ys ≠ [] → ∀ p, H p = none → Q (.ref p) (upd H p (.tup (xs ++ ys))))
theorem ZCz.nil_iff {xs : List V} {us : List Value} (r : ZCz xs us) : us = [] ↔ xs = [] := by
 cases r with
 | nil => simp
 | cons _ _ => simp
theorem ZRA : OpR X (binaryOp .Add) (ZT7 X.K) := by
 intro pins s σ H x y v u Q I rx ry h
 obtain ⟨a, b, xs, ys, rfl, rfl, ha, hb, hx, hz, q1, q2⟩ := h
 cases rx
 cases ry
 obtain ⟨its, r1, p1, _⟩ := I.tuple ha
 obtain ⟨its2, r2, p2, _⟩ := I.tuple hb
 refine HT.cat_tup p1 p2 (fun z => hx (r1.nil_iff.mp z)) (fun z => ⟨.ref a, H, I, rfl, q1 (r2.nil_iff.mp z)⟩) (fun z => ?_) (by rw [← r1.length, ← r2.length]; exact hz)
 refine ⟨.ref s.heap.objs.size, _, I.laid (t' := s.toks) (o := .tup (xs ++ ys)) (fun b ob q => Heap.get?_push_of_some _ q) (Nat.le_refl _) ?_, rfl, q2 (fun w => z (r2.nil_iff.mpr w)) _ (I.hok.fresh (Nat.le_refl _))⟩
 exact ⟨⟨by rw [List.length_append]; exact hz, fun _ => ⟨_, Heap.get?_push_size _ rfl, rfl, rfl⟩⟩, _, r1.append r2, IsTup.new _ _⟩
end
def ixN (n : Nat) (i : Int) : Option Nat := if 0 ≤ i then (if i < n then some i.toNat else none) else if -(n : Int) ≤ i then some (i + n).toNat else none
def atI {α : Type} (xs : List α) (i : Int) : Option α := (ixN xs.length i).bind fun j => xs[j]?
theorem ZL5 {n : Nat} {i : Int} {j : Nat} (h : ixN n i = some j) : seqIndex? i n = some j ∧ j < n ∧ -(n : Int) ≤ i ∧ i < n := by
 unfold ixN at h
 by_cases h0 : 0 ≤ i
 ·rw [if_pos h0] at h
  by_cases h1 : i < n
  ·rw [if_pos h1] at h
   have e : i.toNat = j := Option.some.inj h
   exact ⟨by rw [seqIndex_of h0 h1, e], by omega, by omega, h1⟩
  ·rw [if_neg h1] at h; cases h
 ·rw [if_neg h0] at h
  by_cases h1 : -(n : Int) ≤ i
  ·rw [if_pos h1] at h
   have e : (i + n).toNat = j := Option.some.inj h
   exact ⟨by rw [seqIndex_neg (by omega) h1, e], by omega, h1, by omega⟩
  ·rw [if_neg h1] at h; cases h
theorem ZL6 {α : Type} {xs : List α} {i : Int} {v : α} (h : atI xs i = some v) : ∃ j, seqIndex? i xs.length = some j ∧ xs[j]? = some v ∧ j < xs.length ∧ -(xs.length : Int) ≤ i ∧ i < xs.length := by
 unfold atI at h
 cases e : ixN xs.length i with
 | none => rw [e] at h; cases h
 | some j =>
  rw [e] at h
  obtain ⟨h1, h2, h3, h4⟩ := ZL5 e
  exact ⟨j, h1, h, h2, h3, h4⟩
theorem ZEw {α : Type} {xs : List α} {j : Nat} {v : α} (h : xs[j]? = some v) : atI xs (j : Int) = some v := by
 have hj : j < xs.length := (List.getElem?_eq_some_iff.mp h).1
 have e : ixN xs.length (j : Int) = some j := by
  unfold ixN
  rw [if_pos (by omega), if_pos (by omega)]; simp
 unfold atI; rw [e]; exact h
def ZL7 (b : Expr) : Prop := ∀ o i, subscripted b false o i = operate [o, i] (getItem o i)
def IxR (X : Cx) (r : R2) : Prop :=
 ∀ (value slice : Expr) (pins : List (Addr × Obj)) (s : Shared) (σ : St) (H : Hp) (x y : V) (v u : Value) (Q : VK), Inv X pins σ H s → ZCx x v → ZCx y u → r x y H Q →
  subscripted slice false v u = operate [v, u] (getItem v u) → wpAny (model X.prog X.w) X.A (subscriptTail value slice v u) (EP X pins σ Q) X.xe s
def MtR (X : Cx) (id : String) (r : V → List V → Hp → VK → Prop) : Prop :=
 ∀ (pins : List (Addr × Obj)) (s : Shared) (σ : St) (H : Hp) (x : V) (xs : List V) (v : Value) (us : List Value) (Q : VK), Inv X pins σ H s → ZCx x v → ZCz xs us → r x xs H Q →
  wpAny (model X.prog X.w) X.A (call (.builtin id) (v :: us)) (EP X pins σ Q) X.xe s
section
variable {X : Cx} {a b : Expr} {ta tb : TE} {pos : Pos}
theorem ZT8 {r : R2} (hr : IxR X r) (ha : PE X a ta) (hb : PE X b tb) (hs : ZL7 b) : PE X (.Subscript a b pos) (tOp r ta tb) := by
 intro pins s σ H Q I h
 exact Subscript_ (ZOz ha hb I h fun v u s2 x y H2 I2 rx ry q => hr a b pins s2 σ H2 x y v u Q I2 rx ry q (hs _ _))
def ZPE (K : W.Frag) : R2 := fun x y H Q => ∃ p xs i v, x = .ref p ∧ y = .int i ∧ SqL K H p xs ∧ atI xs i = some v ∧ Q v H
def ZPF (K : W.Frag) : R2 := fun x y H Q => ∃ p xs i v, x = .ref p ∧ y = .int i ∧ SqT K H p xs ∧ atI xs i = some v ∧ Q v H
theorem ZRB : IxR X (ZPE X.K) := by
 intro value slice pins s σ H x y v u Q I rx ry h hs
 obtain ⟨p, xs, i, z, rfl, rfl, hq, he, q⟩ := h
 cases rx
 obtain ⟨t, rfl⟩ := ry
 obtain ⟨its, r, pl, hz⟩ := I.list hq
 obtain ⟨j, h1, h2, h3, h4, h5⟩ := ZL6 he
 obtain ⟨w, ew, rw'⟩ := r.get h2
 have hl := r.length
 have hn := ZIx
 have fin : EP X pins σ Q w s := ⟨z, H, I, rw', q⟩
 by_cases h0 : 0 ≤ i
 ·have hj : i.toNat = j := by
   rw [seqIndex_of h0 h5] at h1
   exact Option.some.inj h1
  exact item_listR pl.isList h0 (by omega) (by rw [hj]; simpa using ew) fin hs
 ·have hj : (i + (its.toArray.size : Int)).toNat = j := by
   rw [seqIndex_neg (by omega) h4] at h1
   rw [List.size_toArray, ← hl]
   exact Option.some.inj h1
  exact subscriptTail_builtinR (x := w) pl.isList.typeIs slot_list_getitem.lookup
   (wpAny_getItem_list_neg (Q := fun r s' => r = w ∧ EP X pins σ Q r s') pl.isList (by omega) (by rw [List.size_toArray] <;> omega) (by omega) (by rw [hj]; simpa using ew) ⟨rfl, fin⟩) hs
theorem ZSu : IxR X (ZPF X.K) := by
 intro value slice pins s σ H x y v u Q I rx ry h hs
 obtain ⟨p, xs, i, z, rfl, rfl, hq, he, q⟩ := h
 cases rx
 obtain ⟨t, rfl⟩ := ry
 obtain ⟨its, r, pl, hz⟩ := I.tuple hq
 obtain ⟨j, h1, h2, h3, h4, h5⟩ := ZL6 he
 obtain ⟨w, ew, rw'⟩ := r.get h2
 have hl := r.length
 have hn := ZIx
 have fin : EP X pins σ Q w s := ⟨z, H, I, rw', q⟩
 exact subscriptTail_builtinR (x := w) pl.typeIs slot_tuple_getitem.lookup
  (getItem_tuple (j := j) (Q := fun r s' => r = w ∧ EP X pins σ Q r s') pl (by omega) (by omega) (by rw [List.size_toArray, ← hl]; exact h1) (by simpa using ew) ⟨rfl, fin⟩) hs
theorem ZMh (its : List Value) (n j : Nat) (u : Value) : Obj.mapSeq (·.setIfInBounds j u) { cls := .type "list", data := .seq its.toArray n } = { cls := .type "list", data := .seq (its.set j u).toArray n } := by
 simp [Obj.mapSeq]
theorem Inv.lst {pins : List (Addr × Obj)} {σ : St} {H : Hp} {s : Shared} {p : Addr} {xs : List V} (I : Inv X pins σ H s) (h : H p = some (.lst xs)) :
  ∃ (its : List Value) (n : Nat), ZCz xs its ∧ s.heap.get? p = some { cls := .type "list", data := .seq its.toArray n } ∧ xs.length ≤ sizeLine := by
 obtain ⟨z, its, n, r, e⟩ := I.hok p _ h
 exact ⟨its, n, r, e, z⟩
theorem Inv.lstUpd {pins : List (Addr × Obj)} {σ : St} {H : Hp} {s : Shared} {p : Addr} {xs ys : List V} {its its' : List Value} {n n' : Nat} {f : Obj → Obj} (I : Inv X pins σ H s) (h : H p = some (.lst xs))
  (ho : s.heap.get? p = some { cls := .type "list", data := .seq its.toArray n }) (hf : f { cls := .type "list", data := .seq its.toArray n } = { cls := .type "list", data := .seq its'.toArray n' }) (r : ZCz ys its') (hz : ys.length ≤ sizeLine) (t : Nat) :
  Inv X pins σ (upd H p (.lst ys)) { s with heap := s.heap.update p f, toks := t } := by
 have e : (s.heap.update p f).get? p = some { cls := .type "list", data := .seq its'.toArray n' } := by
  rw [Heap.get?_update_self f ho (by rw [hf] <;> rfl), hf]
 refine I.write (x := p) (e := p) (by rw [h]; trivial) (.inl rfl) (fun b u hb q => (Heap.get?_update_other _ _ (Ne.symm hb)).trans q) ⟨_, e⟩ ?_
 exact ⟨hz, its', n', r, e⟩
def ZQe : V → V → V → Hp → (Hp → Prop) → Prop := fun o i v H Q => ∃ p xs k j, o = .ref p ∧ i = .int k ∧ H p = some (.lst xs) ∧ ixN xs.length k = some j ∧ Q (upd H p (.lst (xs.set j v)))
theorem ZIZ : ZOr X ZQe := by
 intro pins s σ H o i v ov iv u Q I ro ri rv h
 obtain ⟨p, xs, k, j, rfl, rfl, hp, hj, q⟩ := h
 cases ro
 obtain ⟨t, rfl⟩ := ri
 obtain ⟨its, n, r, ho, hz⟩ := I.lst hp
 obtain ⟨h1, h2, h3, h4⟩ := ZL5 hj
 have hl := r.length
 have hn := ZIx
 have I' : Inv X pins σ (upd H p (.lst (xs.set j v))) { s with heap := s.heap.update p (Obj.mapSeq (·.setIfInBounds j u)) } :=
  I.lstUpd hp ho (ZMh its n j u) (r.set rv j) (by rw [List.length_set]; exact hz) s.toks
 by_cases h0 : 0 ≤ k
 ·have hk : k.toNat = j := by
   rw [seqIndex_of h0 h4] at h1
   exact Option.some.inj h1
  exact PySem.W.ki_setAt ho h0 (by omega) (by rw [List.size_toArray, ← hl]; exact h4) (by rw [hk]; exact ⟨_, I', q⟩)
 ·have hk : (k + (its.toArray.size : Int)).toNat = j := by
   rw [seqIndex_neg (by omega) h3] at h1
   rw [List.size_toArray, ← hl]
   exact Option.some.inj h1
  exact PySem.W.ki_setBack ho (by omega) (by rw [List.size_toArray, ← hl]; exact h3) (by omega) (by rw [hk]; exact ⟨_, I', q⟩)
def ZGG : V → Bool
 | .non => true
 | .bl _ => true
 | .int _ => true
 | .str _ => true
 | _ => false
def eqV : V → V → Bool
 | .non, .non => true
 | .bl a, .bl b => a == b
 | .bl a, .int b => (if a then 1 else 0) == b
 | .int a, .bl b => a == (if b then 1 else 0)
 | .int a, .int b => a == b
 | .str a, .str b => a == b
 | _, _ => false
theorem ZSv {A : Around} {s : Shared} {y x : V} {u v : Value} (ry : ZCx y u) (rx : ZCx x v) (fy : ZGG y = true) (fx : ZGG x = true) : SeqAt.EqAt A s u v (eqV y x) := by
 cases y with
 | non =>
  cases ry
  cases x with
  | non => cases rx; exact SeqAt.EqAt.same _
  | bl b => cases rx; exact SeqAt.EqAt.none_bool b
  | int b => obtain ⟨t, rfl⟩ := rx; exact SeqAt.EqAt.none_int b t
  | str b => obtain ⟨t, rfl⟩ := rx; exact SeqAt.EqAt.none_str b t
  | _ => exact absurd (show false = true from fx) Bool.false_ne_true
 | bl a =>
  cases ry
  cases x with
  | non => cases rx; exact SeqAt.EqAt.bool_none a
  | bl b => cases rx; exact SeqAt.EqAt.bool_bool a b
  | int b => obtain ⟨t, rfl⟩ := rx; exact SeqAt.EqAt.bool_int a b t
  | str b => obtain ⟨t, rfl⟩ := rx; exact SeqAt.EqAt.bool_str a b t
  | _ => exact absurd (show false = true from fx) Bool.false_ne_true
 | int a =>
  obtain ⟨t', rfl⟩ := ry
  cases x with
  | non => cases rx; exact SeqAt.EqAt.int_none a t'
  | bl b => cases rx; exact SeqAt.EqAt.int_bool a t' b
  | int b => obtain ⟨t, rfl⟩ := rx; exact SeqAt.EqAt.int_int a t' b t
  | str b => obtain ⟨t, rfl⟩ := rx; exact SeqAt.EqAt.int_str a t' b t
  | _ => exact absurd (show false = true from fx) Bool.false_ne_true
 | str a =>
  obtain ⟨t', rfl⟩ := ry
  cases x with
  | non => cases rx; exact SeqAt.EqAt.str_none a t'
  | bl b => cases rx; exact SeqAt.EqAt.str_bool a t' b
  | int b => obtain ⟨t, rfl⟩ := rx; exact SeqAt.EqAt.str_int a t' b t
  | str b => obtain ⟨t, rfl⟩ := rx; exact SeqAt.EqAt.str_str a t' b t
  | _ => exact absurd (show false = true from fx) Bool.false_ne_true
 | _ => exact absurd (show false = true from fy) Bool.false_ne_true
def eqU (x : V) (u : Value) : Bool := match u with
 | .none => eqV .non x
 | .bool b => eqV (.bl b) x
 | .int i _ => eqV (.int i) x
 | .str z _ => eqV (.str z) x
 | _ => false
theorem ZNb {x y : V} {u : Value} (r : ZCx y u) (f : ZGG y = true) : eqU x u = eqV y x := by
 cases y with
 | non => cases r; rfl
 | bl b => cases r; rfl
 | int i => obtain ⟨t, rfl⟩ := r; rfl
 | str z => obtain ⟨t, rfl⟩ := r; rfl
 | _ => exact absurd (show false = true from f) Bool.false_ne_true
theorem ZJQ {x : V} : ∀ {xs : List V} {us : List Value}, ZCz xs us → xs.all ZGG = true → us.any (eqU x) = xs.any fun y => eqV y x
 | _, _, .nil, _ => rfl
 | y :: xs, u :: us, .cons r t, f => by
  rw [List.all_cons, Bool.and_eq_true] at f
  rw [List.any_cons, List.any_cons, ZNb r f.1, ZJQ t f.2]
theorem ZIa {A : Around} {s : Shared} {x : V} {v : Value} (rx : ZCx x v) (fx : ZGG x = true) : ∀ {xs : List V} {us : List Value}, ZCz xs us → xs.all ZGG = true → ∀ u ∈ us, SeqAt.EqAt A s u v (eqU x u)
 | _, _, .nil, _ => fun u hu => by cases hu
 | y :: xs, u :: us, .cons r t, f => fun u' hu => by
  rw [List.all_cons, Bool.and_eq_true] at f
  rcases List.mem_cons.mp hu with rfl | hu
  ·rw [ZNb r f.1]; exact ZSv r rx f.1 fx
  ·exact ZIa rx fx t f.2 u' hu
def inV (x : V) (xs : List V) : Bool := xs.any fun y => eqV y x
def rIn (K : W.Frag) (neg : Bool) : R2 := fun x y H Q => ∃ p xs, y = .ref p ∧ (SqL K H p xs ∨ SqT K H p xs) ∧ ZGG x = true ∧ xs.all ZGG = true ∧ Q (.bl (if neg then !inV x xs else inV x xs)) H
theorem ZNc : OpR X (compareOp .In) (rIn X.K false) := by
 intro pins s σ H x y v u Q I rx ry h
 obtain ⟨p, xs, rfl, hq, fx, fs, q⟩ := h
 cases ry
 rcases hq with hq | hq
 ·obtain ⟨its, r, pl, hz⟩ := I.list hq
  refine SeqAt.in_listAt (eqU x) pl.isList (fun w hw => ZIa rx fx r fs w (by simpa using hw)) ⟨.bl _, H, I, rfl, ?_⟩
  rw [show its.toArray.any (eqU x) = its.any (eqU x) by simp, ZJQ r fs]
  exact q
 ·obtain ⟨its, r, pl, hz⟩ := I.tuple hq
  refine SeqAt.in_tupleAt (eqU x) pl (fun w hw => ZIa rx fx r fs w (by simpa using hw)) ⟨.bl _, H, I, rfl, ?_⟩
  rw [show its.toArray.any (eqU x) = its.any (eqU x) by simp, ZJQ r fs]
  exact q
theorem ZKg : ZDh X (.builtin "len") (fun xs H Q => ∃ p ys, xs = [.ref p] ∧ (SqL X.K H p ys ∨ SqT X.K H p ys) ∧ Q (.int ys.length) H) := by
 intro pins s σ H xs us Q I r h
 obtain ⟨p, ys, rfl, hq, q⟩ := h
 obtain ⟨u, rfl, rx⟩ := ZIy r
 cases rx
 have hn := ZIx
 rcases hq with hq | hq
 ·obtain ⟨its, r', pl, hz⟩ := I.list hq
  have hlen := r'.length
  exact Calls.call_len_list pl.isList (by simp only [List.size_toArray] <;> omega) ⟨.int ys.length, H, I.tok _, ⟨s.toks + 1, by rw [List.size_toArray, hlen]⟩, q⟩
 ·obtain ⟨its, r', pl, hz⟩ := I.tuple hq
  have hlen := r'.length
  exact len_tuple pl (by simp only [List.size_toArray] <;> omega) ⟨.int ys.length, H, I.tok _, ⟨s.toks + 1, by rw [List.size_toArray, hlen]⟩, q⟩
theorem ZKB : ZDh X (.type "tuple") (fun xs H Q => ∃ p ys, xs = [.ref p] ∧ ((SqL X.K H p ys ∧ ∀ l, H l = none → Q (.ref l) (upd H l (.tup ys))) ∨ (SqT X.K H p ys ∧ Q (.ref p) H))) := by
 intro pins s σ H xs us Q I r h
 obtain ⟨p, ys, rfl, h⟩ := h
 obtain ⟨u, rfl, rx⟩ := ZIy r
 cases rx
 rcases h with ⟨hq, q⟩ | ⟨hq, q⟩
 ·obtain ⟨its, r', pl, hz⟩ := I.list hq
  have hlen := r'.length
  refine call_tuple_list pl.isList (fun h' kp => ?_) (by simp only [List.size_toArray] <;> omega)
  have I1 : Inv X pins σ H { s with heap := h' } := I.kept (t' := s.toks) kp
  have I2 : Inv X pins σ (upd H h'.objs.size (.tup ys)) { s with heap := h'.push { cls := .type "tuple", data := .seq its.toArray } } :=
   I1.laid (t' := s.toks) (fun b o e => Heap.get?_push_of_some _ e) (Nat.le_refl _) (show ZDR X.prog X.w _ _ _ (.tup ys) from ⟨⟨hz, fun _ => ⟨_, Heap.get?_push_size _ rfl, rfl, rfl⟩⟩, its, r', IsTup.new _ _⟩)
  exact ⟨.ref h'.objs.size, _, I2, rfl, q _ (I1.hok.fresh (Nat.le_refl _))⟩
 ·obtain ⟨its, r', pl, hz⟩ := I.tuple hq
  exact call_tuple_same pl ⟨.ref p, H, I, rfl, q⟩
def tyV (K : W.Frag) (T : String) (x : V) (H : Hp) : Prop := match x with
 | .str _ => T = "str"
 | .int _ => T = "int"
 | .ref p => (T = "list" ∧ ∃ xs, SqL K H p xs) ∨ (T = "tuple" ∧ ∃ o, K.lookup p = some o ∧ o.cls = .type "tuple" ∧ o.dict = none) ∨
  (T = "dict" ∧ ((∃ kvs, H p = some (.dK kvs)) ∨ ∃ kvs, H p = some (.dT kvs))) ∨ (T = "set" ∧ ∃ S n, H p = some (.set S n))
 | _ => False
theorem ZNd {pins : List (Addr × Obj)} {σ : St} {H : Hp} {s : Shared} {T : String} {x : V} {v : Value} (I : Inv X pins σ H s) (r : ZCx x v) (ty : tyV X.K T x H) :
  s.TypeIs v T ∧ ∀ a, v = .ref a → ∃ ob, s.heap.get? a = some ob ∧ ob.dict = none := by
 cases x with
 | str z =>
  obtain ⟨t, rfl⟩ := r
  cases (show T = "str" from ty)
  exact ⟨typeIs_str s z t, fun _ e => nomatch e⟩
 | int i =>
  obtain ⟨t, rfl⟩ := r
  cases (show T = "int" from ty)
  exact ⟨typeIs_int s i t, fun _ e => nomatch e⟩
 | ref p =>
  cases r
  rcases ty with ⟨rfl, xs, hq⟩ | ⟨rfl, o, hk, hc, hd⟩ | ⟨rfl, hk⟩ | ⟨rfl, S, n, hk⟩
  ·obtain ⟨its, _, pl, _⟩ := I.list hq
   refine ⟨pl.isList.typeIs, fun a e => ?_⟩
   cases e
   obtain ⟨o, n, e, c, hd, _⟩ := pl
   exact ⟨o, e, hd⟩
  ·refine ⟨⟨o, I.kIn p o hk, hc⟩, fun a e => ?_⟩
   cases e
   exact ⟨o, I.kIn _ o hk, hd⟩
  ·have z : ∃ o, s.heap.get? p = some o ∧ o.ExactDict := by
    rcases hk with ⟨kvs, hk⟩ | ⟨kvs, hk⟩
    ·obtain ⟨_, _, _, _, o, _, _, e, ex, _⟩ := I.hok p _ hk
     exact ⟨o, e, ex⟩
    ·obtain ⟨_, _, _, _, o, _, _, e, ex, _⟩ := I.hok p _ hk
     exact ⟨o, e, ex⟩
   obtain ⟨o, e, ex⟩ := z
   refine ⟨⟨o, e, ex.1⟩, fun a e2 => ?_⟩
   cases e2
   exact ⟨o, e, ex.2.1⟩
  ·obtain ⟨o, _, _, _, e, ex, _⟩ := I.hok p _ hk
   refine ⟨⟨o, e, ex.1⟩, fun a e2 => ?_⟩
   cases e2
   exact ⟨o, e, ex.2.1⟩
 | _ => exact False.elim ty
def ZPG (K : W.Frag) (T : String) (r : V → List V → Hp → VK → Prop) (to : TE) : TE := fun σ H Q => to σ H fun x H1 => tyV K T x H1 ∧ r x [] H1 Q
def tBM (K : W.Frag) (T : String) (r : V → List V → Hp → VK → Prop) (to : TE) (t : TA) : TE := fun σ H Q => to σ H fun x H1 => tyV K T x H1 ∧ t σ H1 fun xs H2 => r x xs H2 Q
variable {o e : Expr} {es : List Expr} {to : TE} {t : TA} {name : Str} {apos cpos : Pos} {T id : String} {r : V → List V → Hp → VK → Prop}
theorem ZSw (pa : PlainAttrs T) (slot : Slot T name id) (hty : typeOf (.builtin id) = pure (.type "method_descriptor")) (hm : MtR X id r) (ho : PE X o to)
  (hbase : attributeBase o name X.env (eval o X.env) = eval o X.env := by rfl) (hline : (apos.endLine == cpos.line) = true := by rfl) : PE X (.Call (.Attribute o name apos) [] [] cpos) (ZPG X.K T r to) := by
 intro pins s σ H Q I h
 refine wpAny_Call_method0_late hbase hline (thn (ho pins s σ H _ I h) fun v s1 ⟨x, H1, I1, r1, ty, q1⟩ => ?_)
 obtain ⟨h1, h2⟩ := ZNd I1 r1 ty
 exact ⟨T, id, pa, slot, hty, h1, h2, Calls.callWith_builtin rfl (PySem.evalArgs_none (hm pins s1 σ H1 x [] v [] Q I1 r1 .nil q1))⟩
theorem ZT9 (pa : PlainAttrs T) (slot : Slot T name id) (hty : typeOf (.builtin id) = pure (.type "method_descriptor")) (hm : MtR X id r) (ho : PE X o to) (ha : PA X (e :: es) t)
  (hbase : attributeBase o name X.env (eval o X.env) = eval o X.env := by rfl)
  (hfew : ((backTo cpos (starEach (e :: es) X.env)).all (fun x => !x.1) && (backToKw cpos (keywordEach [] X.env)).all (fun x => x.1.isSome)
   && decide ((e :: es).length + ([] : List Keyword).length + (if ([] : List Keyword).isEmpty then 0 else 1) < 30)) = true := by rfl)
  (hline : (apos.endLine == cpos.line) = true := by rfl) (hs : starEach (e :: es) X.env = (false, eval e X.env) :: starEach es X.env := by rfl) (hplain : (backTo cpos (starEach es X.env)).any (·.1) = false := by rfl) :
  PE X (.Call (.Attribute o name apos) (e :: es) [] cpos) (tBM X.K T r to t) := by
 intro pins s σ H Q I h
 refine wpAny_Call_method_late hbase hfew hline rfl (thn (ho pins s σ H _ I h) fun v s1 ⟨x, H1, I1, r1, ty, q1⟩ => ?_)
 obtain ⟨h1, h2⟩ := ZNd I1 r1 ty
 refine ⟨T, id, pa, slot, hty, h1, h2, ?_⟩
 have hA := ha cpos pins s1 σ H1 _ I1 q1
 rw [hs] at hA ⊢
 refine Calls.callWith_builtin (by show (false || (backTo cpos (starEach es X.env)).any (·.1)) = false; rw [hplain] <;> rfl) (Calls.evalArgs_plain ?_)
 exact thn hA fun us s2 ⟨vs, H2, I2, r2, q2⟩ => hm pins s2 σ H2 x vs v us Q I2 r1 r2 q2
/- xs.append(e), list.index on a module's tuple .. are MtR facts of 06m -/
end
def MtM (X : Cx) (id : String) (r : V → List V → Hp → VK → Prop) : Prop :=
 ∀ (pins : List (Addr × Obj)) (s : Shared) (σ : St) (H : Hp) (x : V) (xs : List V) (v : Value) (us : List Value) (Q : VK), Inv X pins σ H s → ZCx x v → ZCz xs us → r x xs H Q →
  wpAny (model X.prog X.w) X.A (call (.builtin id) (v :: us)) (EP X pins σ Q) X.xe s
theorem ZCz.one : ∀ {x : V} {us : List Value}, ZCz [x] us → ∃ u, us = [u] ∧ ZCx x u
 | _, _, .cons r .nil => ⟨_, rfl, r⟩
theorem ZCz.two : ∀ {x y : V} {us : List Value}, ZCz [x, y] us → ∃ u v, us = [u, v] ∧ ZCx x u ∧ ZCx y v
 | _, _, _, .cons r (.cons q .nil) => ⟨_, _, rfl, r, q⟩
theorem ZCz.zero : ∀ {us : List Value}, ZCz [] us → us = []
 | _, .nil => rfl
theorem ZCz.dropLast {xs : List V} {us : List Value} (h : ZCz xs us) : ZCz xs.dropLast us.dropLast := by
 induction h with
 | nil => exact .nil
 | cons r t ih =>
  cases t with
  | nil => exact .nil
  | cons q t' => exact .cons r ih
theorem ZMi {α : Type} (l : List α) : l.eraseIdx (l.length - 1) = l.dropLast := by
 induction l with
 | nil => rfl
 | cons a r ih =>
  cases r with
  | nil => rfl
  | cons b r =>
   have e : (a :: b :: r).length - 1 = ((b :: r).length - 1) + 1 := by
    have h1 : (a :: b :: r).length = r.length + 2 := rfl
    have h2 : (b :: r).length = r.length + 1 := rfl
    omega
   rw [e, List.eraseIdx_cons_succ, ih]
   all_goals rfl
section
variable {X : Cx} {pins : List (Addr × Obj)} {σ : St} {H : Hp} {s : Shared} {l b : Addr} {xs ys zs : List V}
theorem Inv.lset {its its' : List Value} {n : Nat} {f : Array Value → Array Value} {t' : Nat} (I : Inv X pins σ H s) (hH : H l = some (.lst xs))
  (e : s.heap.get? l = some { cls := .type "list", data := .seq its.toArray n }) (hf : f its.toArray = its'.toArray) (hv : ZCz ys its') (hz : ys.length ≤ sizeLine) :
  Inv X pins σ (upd H l (.lst ys)) { s with heap := s.heap.update l (Obj.mapSeq f), toks := t' } := by
 have q := PySem.IsL.update e f
 rw [hf] at q
 refine I.write (x := l) (e := l) (by rw [hH]; exact trivial) (.inl rfl) (fun b' u hb hu => (Heap.get?_update_other s.heap (Obj.mapSeq f) (Ne.symm hb)).trans hu) ⟨_, q⟩ ?_
 exact ⟨hz, its', _, hv, q⟩
theorem Inv.lstM (I : Inv X pins σ H s) (hH : H l = some (.lst xs)) : xs.length ≤ sizeLine ∧ ∃ (its : List Value) (n : Nat), ZCz xs its ∧ xs.length = its.length ∧ s.heap.get? l = some { cls := .type "list", data := .seq its.toArray n } := by
 obtain ⟨z, its, n, r, e⟩ := I.hok l _ hH
 exact ⟨z, its, n, r, r.length, e⟩
end
section
variable {X : Cx}
def ZL8 : V → List V → Hp → VK → Prop := fun x vs H Q => ∃ l xs y, x = .ref l ∧ vs = [y] ∧ H l = some (.lst xs) ∧ xs.length < sizeLine ∧ Q .non (upd H l (.lst (xs ++ [y])))
theorem ZEn : MtM X "list.append" ZL8 := by
 intro pins s σ H x vs v us Q I rx rv h
 obtain ⟨l, xs, y, rfl, rfl, hH, hz, q⟩ := h
 cases rx
 obtain ⟨u, rfl, ru⟩ := rv.one
 obtain ⟨z, its, n, r, hl, e⟩ := I.lstM hH
 refine call_meets F.slot_list_append ⟨_, e, rfl⟩ F.entry_list_append (F.args_list_append_2 _ _) (PySem.list_append l its.toArray n u (by rw [List.size_toArray]; omega)) ⟨e, ?_⟩
 refine ⟨.non, _, I.lset (its' := its ++ [u]) hH e (by simp) (r.append (.cons ru .nil)) ?_, rfl, q⟩
 rw [List.length_append, List.length_singleton]
 omega
def ZSx : V → List V → Hp → VK → Prop := fun x vs H Q => ∃ l xs y, x = .ref l ∧ vs = [] ∧ H l = some (.lst xs) ∧ xs[xs.length - 1]? = some y ∧ Q y (upd H l (.lst xs.dropLast))
theorem ZSy : MtM X "list.pop" ZSx := by
 intro pins s σ H x vs v us Q I rx rv h
 obtain ⟨l, xs, y, rfl, rfl, hH, hy, q⟩ := h
 cases rx
 have hus := rv.zero
 subst hus
 obtain ⟨z, its, n, r, hl, e⟩ := I.lstM hH
 obtain ⟨u, hu, ru⟩ := r.get hy
 have hy' : its.toArray[its.toArray.size - 1]? = some u := by
  show its.toArray[its.length - 1]? = some u
  rw [← Array.getElem?_toList, ← hl]
  exact hu
 refine call_meets F.slot_list_pop ⟨_, e, rfl⟩ F.entry_list_pop (F.args_list_pop_1 _) (MeetsSeq.list_pop_last l its.toArray n u hy' (by rw [List.size_toArray]; omega)) ⟨e, ?_⟩
 refine ⟨y, _, I.lset (its' := its.dropLast) hH e ?_ r.dropLast ?_, ru, q⟩
 ·show its.toArray.eraseIdxIfInBounds (its.toArray.size - 1) = its.dropLast.toArray
  rw [List.size_toArray, List.eraseIdxIfInBounds_toArray, ZMi]
 ·rw [List.length_dropLast]
  omega
end
end L2
namespace Att
open PySem PySem.W PySem.Calls PyProof.Rows
theorem ZI4 {P : Params} {h : Heap} : ∀ (ns : List Int) (vs : List Value), WellAll P h vs (ns.map WData.int) → IntsAre vs ns := by
 intro ns
 induction ns with
 | nil =>
  intro vs w
  rw [List.map_nil] at w
  cases w
  exact .nil
 | cons n ns ih =>
  intro vs w
  rw [List.map_cons] at w
  cases w with
  | cons a b =>
   cases a
   exact .cons _ _ (ih _ b)
theorem ZNe {l : OpenLaw} {n : Nat} (hn : l.most = some n) {P : Params} {h : Heap} {args : List WData} {vals : List Value}
  (hpre : l.row.toRowW.claim.pre args = true) (hwl : WellAll P h vals args) :
  ∃ a vs ns, vals = [Value.ref a] ∧ args = [WData.list (ns.map WData.int)] ∧ h.get? a = some { cls := .type "list", data := .seq vs.toArray } ∧ IntsAre vs ns ∧ ns.length ≤ n := by
 have hsh : WShape.hasAll [] args [.list .int] = true := (pre_splitW hpre).1
 have hc : l.pre.holds [] { args := args } = true := (pre_splitW hpre).2
 obtain ⟨d, r, rfl, h1, h2⟩ := hasAllW_cons hsh
 obtain rfl := hasAllW_nil h2
 obtain ⟨xs, rfl, h3⟩ := hasW_list h1
 obtain ⟨ns, rfl⟩ := items_int h3
 have hlen : ns.length ≤ n := by
  unfold OpenLaw.pre at hc
  have h4 : (WTm.not (.lt (.lit (.int (n : Int))) (.len (.arg 0)))).holds [] { args := [.list (ns.map .int)] } = true := by
   have h4 := (holds_andW hc).1
   rw [hn] at h4
   exact h4
  have h5 := condW_of h4 (w_not (w_lt w_lit (w_len_list (w_arg rfl))))
  rw [List.length_map] at h5
  refine Nat.le_of_not_lt fun q => ?_
  have q' : (n : Int) < ((ns.length : Nat) : Int) := by omega
  first
   | (rw [decide_eq_true q'] at h5; exact absurd h5 (by decide))
   | (simp at h5; omega)
 cases hwl with
 | cons w1 w2 =>
  cases w2
  cases w1 with
  | list ho hall => exact ⟨_, _, ns, rfl, rfl, ho, ZI4 ns _ hall, hlen⟩
theorem ZNf (l : OpenLaw) (args : List WData) : l.row.toRowW.claim.post args (.bool true) args = true :=
 postW_of (r := l.row.toRowW) (X := (true == true))
  (show WShape.has [] (.bool true) .bool = true by first | rfl | decide | simp [WShape.has, WShape.arms, WShape.armsAll])
  (show (WTm.eq .res (.lit (.bool true))).value [] { args := args, res := some (.bool true), after := args } = some (.bool (true == true)) from w_eq_bool (w_res rfl) w_lit) rfl
theorem attach_call {l : OpenLaw} {n : Nat} {q : Program} {loose : List Str} {XP : (Str → Option Value) → Heap → Prop} {YP : World → Heap → Prop} {d : DefRec}
  (hn : l.most = some n) (hdf : d.params.defaults = [])
  (call : ∀ (w : World) (s₀ s₁ : Shared) (mg mb : Str → Option Value) (fa : Addr) (o : Obj) (pm cd doc : Value) (a : Addr) (vs : List Value) (ns : List Int),
   Ground q loose [] XP w s₀ mg mb s₁.heap → YP w s₁.heap →
   s₁.heap.get? fa = some o → o.data = .func (docDef d.name d.params d.body d.scope pm cd doc) → s₁.heap.CodeRec cd d.name → mg d.name = some (.ref fa) →
   s₁.heap.get? a = some { cls := .type "list", data := .seq vs.toArray } → IntsAre vs ns → ns.length ≤ n → s₁.gens = #[] →
   codeAny (model l.prog w) callerA (.call (.ref fa) ⟨[.ref a], []⟩) (fun r s' => r = .ok (.ret (.bool true)) ∧ OldK s₁.heap s'.heap ∧ s'.os = s₁.os ∧ AllBare s'.gens) s₁) :
  WalkO q loose XP YP l.row.toRowW d [] (fun f vs => PySem.call f vs) := by
 intro w s₀ s₁ mg mb G Y fa o pm cd doc dV kV ho hd hcd hD hmg hg args vals as hpre hlay hrd hwl hlo
 obtain rfl : dV = .none := Dflts.none hD hdf
 obtain rfl : kV = .none := Dflts.noKw hD
 obtain ⟨a, vs, ns, rfl, rfl, hobj, hints, hlen⟩ := ZNe hn hpre hwl
 refine enter_call (codeAny_mono (call w s₀ s₁ mg mb fa o pm cd doc a vs ns G Y ho (fd_plain hd) hcd hmg hobj hints hlen hg) fun r s' hq => ?_)
 obtain ⟨rfl, h2, h3, h4⟩ := hq
 exact ⟨.inl ⟨.bool true, .bool true, [], rfl, fun _ => rfl, .bool true, ZNf l _, fun _ => ⟨List.Pairwise.nil, fun _ hm => (nomatch hm)⟩⟩, h2, h3, h4⟩
section
variable {prog : Program} {w : World} {A : Around} {E : Value → Shared → Prop} {s : Shared} {K : Frag}
def ZUe (h : Heap) (L d : Addr) : List (Addr × Obj) := (List.range h.objs.size).filterMap fun a => if a = L ∨ a = d then none else (h.get? a).map fun o => (a, o)
end
end Att
namespace L2
open PySem PySem.Spec PyProof.Rows
theorem ZJr : ∀ {vs : List Value} {ns : List Int}, IntsAre vs ns → ZCz (ns.map V.int) vs
 | _, _, .nil => .nil
 | _, _, .cons n t h => .cons ⟨t, rfl⟩ (ZJr h)
def ZPH (H : Hp) : Prop := ∀ b, H b = none ∨ ∃ o xs, H b = some (.frz o (.lst xs))
theorem ZPI {P : Program} {w : World} {K : W.Frag} {mg mb : Str → Option Value} {CX : CXT} {k : Nat} {fa a : Addr} {fd : FuncData} {x : Str} {sp : Sp} {s₁ : Shared} {vs : List Value} {ns : List Int}
  (KX : K.In s₁.heap) (hns : s₁.heap.Ns mainGlobals mg) (hb : s₁.heap.Ns builtinsNs mb) (hbb : ∀ x : Str, x ≠ "__name__" → mb x = bootBuiltins x) (hlim : s₁.heap.NoLimit) (hg : s₁.gens = #[])
  (ha : s₁.heap.get? a = some { cls := .type "list", data := .seq vs.toArray }) (hi : IntsAre vs ns) (hl : ns.length ≤ sizeLine) (hr : Room k callerA)
  (F : ∀ base : Heap, K.In base → base.Ns mainGlobals mg → ZCr P w K mg base CX k fa fd [x] sp) (hbind : ∀ (s : Shared) (u : Value), BindsTo s fd ⟨[u], []⟩ [(x, u)])
  (hsp : ∀ H : Hp, ZPH H → SqL K H a (ns.map V.int) → sp [.ref a] H (fun v _ => v = .bl true) fun _ _ _ => False)
  (hCX : ∀ H e s', CX [] H s₁ (fun _ _ _ => False) e s' → False) :
  codeAny (model P w) callerA (.call (.ref fa) ⟨[.ref a], []⟩) (fun r s' => r = .ok (.ret (.bool true)) ∧ OldK s₁.heap s'.heap ∧ s'.os = s₁.os ∧ AllBare s'.gens) s₁ := by
 have rv := ZJr hi
 have lenV := hi.length
 -- from an abstract heap in which nothing but the script may be tracked
 have core : ∀ H : Hp, ZPH H → SqL K H a (ns.map V.int) → HOk P w H s₁.heap → (∀ b, H b ≠ none → b = a) → (H a ≠ none → K.lookup a = none) →
   codeAny (model P w) callerA (.call (.ref fa) ⟨[.ref a], []⟩) (fun r s' => r = .ok (.ret (.bool true)) ∧ OldK s₁.heap s'.heap ∧ s'.os = s₁.os ∧ AllBare s'.gens) s₁ := by
  intro H hO hS hok hA hK
  have base_of : ∀ {b : Addr} {o : Obj}, s₁.heap.get? b = some o → H b = none → (ZGw s₁.heap H).get? b = some o := fun e n => ZOj e n
  have noA : ∀ {b : Addr} {o : Obj} {es : Array DictEntry} {ep : Nat}, s₁.heap.get? b = some o → o.data = .dict es ep → H b = none := fun {b o es ep} e d => by
   cases q : H b with
   | none => rfl
   | some u =>
    have e' : b = a := hA b (by rw [q]; simp)
    subst e'
    rw [ha] at e; cases e
    have d' : Data.seq vs.toArray _ = Data.dict es ep := d
    cases d'
  have nsK : ∀ {b : Addr} {m : Str → Option Value}, s₁.heap.Ns b m → (ZGw s₁.heap H).Ns b m := fun {b m} ⟨o, es, ep, e, d, r⟩ => ⟨o, es, ep, base_of e (noA e d), d, r⟩
  have hKb : K.In (ZGw s₁.heap H) := fun b o e => base_of (KX b o e) (by
   cases q : H b with
   | none => rfl
   | some u =>
    have e' : b = a := hA b (by rw [q]; simp)
    subst e'
    rw [hK (by rw [q]; simp)] at e; cases e)
  have hM : Mod K mg (ZGw s₁.heap H) := ⟨hKb, nsK hns, ⟨mb, nsK hb, hbb⟩, let ⟨mc, h1, h2⟩ := hlim; ⟨mc, nsK h1, h2⟩⟩
  have e0 : ZGQ P w K mg (ZGw s₁.heap H) callerA [] s₁ H := ⟨rfl, hM, fun b o e => ZQn e, Nat.le_of_eq (ZNK _ _), trivial, fun b hb => absurd (show b ∈ ([] : List Addr) from hb) (by simp), hok, .of_eq hg⟩
  refine codeAny_mono ((F _ hKb (nsK hns)).run callerA [] s₁ H ⟨[.ref a], []⟩ [.ref a] [.ref a] _ _ hr e0 (hbind s₁ (.ref a)) (.cons rfl .nil) (hsp H hO hS)) fun r s' h => ?_
  cases r with
  | error e => exact (hCX H e s' h).elim
  | ok fl =>
   cases fl with
   | next => exact False.elim h
   | brk => exact False.elim h
   | cont => exact False.elim h
   | ret u =>
    obtain ⟨v, H', os, bare, un, hok', r', q⟩ := h
    have q' : v = .bl true := q
    subst q'
    obtain rfl : u = Value.bool true := r'
    refine ⟨rfl, OldK.of_keep fun b o e => ?_, os, bare⟩
    cases q : H b with
    | none => exact un.keep b o e q (by intro z; exact absurd (show b ∈ ([] : List Addr) from z) (by simp)) (by simp)
    | some u =>
     rcases hO b with z | ⟨ob, xs, z⟩
     ·rw [q] at z; cases z
     ·have z2 := un.frzs b ob _ z
      obtain ⟨e1, _⟩ := hok b _ z
      obtain ⟨e2, _⟩ := hok' b _ z2
      rw [e] at e1; cases e1
      exact e2
 cases hk : K.lookup a with
 | some o =>
  -- the script is one of the module's own objects
  have e := KX a o hk
  rw [ha] at e
  cases e
  refine core (fun _ => none) (fun _ => .inl rfl) (.inr ⟨_, vs.toArray, _, hk, rfl, rfl, rfl, by rw [List.size_toArray, lenV]; exact hl, by simpa using rv⟩) (fun b u z => by have z' : (none : Option HO) = some u := z; cases z') (fun b z => absurd rfl z) fun z => absurd rfl z
 | none =>
  refine core (fun b => if b = a then some (.frz { cls := .type "list", data := .seq vs.toArray } (.lst (ns.map V.int))) else none) (fun b => ?_) (.inl (.inr ⟨{ cls := .type "list", data := .seq vs.toArray }, if_pos rfl⟩)) (fun b u z => ?_) (fun b z => ?_) fun _ => hk
  ·by_cases hb : b = a
   ·exact .inr ⟨_, _, if_pos hb⟩
   ·exact .inl (if_neg hb)
  ·by_cases hb : b = a
   ·have z' := (if_pos hb).symm.trans z
    cases z'
    subst hb
    exact ⟨ha, by rw [List.length_map]; exact hl, vs, _, rv, ha⟩
   ·have z' := (if_neg hb).symm.trans z
    cases z'
  ·by_cases hb : b = a
   ·exact hb
   ·exact absurd (if_neg hb) z
theorem walk_of {l : PySem.W.OpenLaw} {n k : Nat} {q : Program} {loose : List Str} {XP : (Str → Option Value) → Heap → Prop} {YP : World → Heap → Prop} {d : DefRec} {K : Params → W.Frag} {CX : World → CXT} {sp : World → Sp} {x : Str}
  (hn : l.most = some n) (hn2 : n ≤ sizeLine) (hdf : d.params.defaults = []) (hr : Room k callerA)
  (hY : ∀ (w : World) (h : Heap), YP w h → (K w.params).In h)
  (F : ∀ (w : World) (mg : Str → Option Value) (fa : Addr) (h : Heap), (K w.params).In h → h.Ns mainGlobals mg → mg d.name = some (.ref fa) →
   ∃ fd : FuncData, (∀ (s : Shared) (u : Value), BindsTo s fd ⟨[u], []⟩ [(x, u)]) ∧
    ∀ base : Heap, (K w.params).In base → base.Ns mainGlobals mg → ZCr l.prog w (K w.params) mg base (CX w) k fa fd [x] (sp w))
  (hsp : ∀ (w : World) (H : Hp) (a : Addr) (ns : List Int), ns.length ≤ n → ZPH H → SqL (K w.params) H a (ns.map V.int) → sp w [.ref a] H (fun v _ => v = .bl true) fun _ _ _ => False)
  (hCX : ∀ (w : World) (H : Hp) (s : Shared) (e : Value) (s' : Shared), CX w [] H s (fun _ _ _ => False) e s' → False) :
  PySem.W.WalkO q loose XP YP l.row.toRowW d [] (fun f vs => PySem.call f vs) := by
 refine Att.attach_call hn hdf fun w s₀ s₁ mg mb fa o pm cd doc a vs ns G Y ho hd hcd hmg hobj hints hlen hg => ?_
 have KX := hY w _ Y
 obtain ⟨fd, hb, hF⟩ := F w mg fa _ KX G.T.g hmg
 exact ZPI KX G.T.g G.T.b G.T.builtins G.T.nolimit hg hobj hints (Nat.le_trans hlen hn2) hr hF hb (fun H hO hS => hsp w H a ns hlen hO hS) fun H e s' => hCX w H s₁ e s'
end L2
/- THE LAST THEOREM (shape; LID, My.* are yours):
 My.Adr: a structure of the addresses that your layer names (classes, functions); My.Txt K t: a structure (Prop) of the equations over K;
 My.txt_mk : {K} {implicit addresses ..} (e1 : nsIn K mainGlobals "law" = some (some (.ref f))) (e2 : K.lookup f = some ⟨oc, od, .func (fnOf "law" "law" params body scope dV kV doc pm an cdv ct), sl⟩) (e3 : codeIn K cdv "law" = true) .. : ∃ t, My.Txt K t
(the tactic k_is has no namespace: write k_is) -/
namespace L2
open PySem PySem.Spec PyProof.Rows
def ZDW (s : Stmt) (j : Nat) : Stmt := match s with
 | .ClassDef _ _ _ body _ _ _ _ _ _ _ => body.getD j (.Pass ⟨0, 0, 0, 0⟩)
 | _ => .Pass ⟨0, 0, 0, 0⟩
def ZDs (s : Stmt) : Arguments := match s with
 | .FunctionDef _ a _ _ _ _ _ _ _ _ => a
 | _ => { posonlyargs := [], args := [], vararg := none, kwonlyargs := [], kw_defaults := [], kwarg := none, defaults := [] }
def ZDX (s : Stmt) : List Stmt := match s with
 | .FunctionDef _ _ b _ _ _ _ _ _ _ => b
 | _ => []
def ZCo (s : Stmt) : Scope := match s with
 | .FunctionDef _ _ _ _ _ _ sc _ _ _ => sc
 | _ => { kind := .function, names := [], isGenerator := false, isCoroutine := false }
abbrev CX0 : CXT := fun _ _ _ _ _ _ => False
abbrev E0 : XK := fun _ _ _ => False
theorem ZDd {X : Cx} : ZEN CX0 X E0 := fun _ _ _ _ _ _ _ h => h.elim
structure Fun (K : W.Frag) (x qual : Str) (st : Stmt) (f : Addr) (fd : FuncData) : Prop where
 ex : ∃ (oc : Value) (od : Option Addr) (kV doc pm : Value) (an : Option Addr) (cdv ct : Value) (osl : Array (Option Value)),
  fd = W.fnOf x qual (ZDs st) (ZDX st) (ZCo st) .none kV doc pm an cdv ct ∧ K.lookup f = some ⟨oc, od, .func fd, osl⟩ ∧ W.codeIn K cdv qual = true
 kp : W.keepIn K (.ref f) = true
section
variable {P : Program} {w : World} {K : W.Frag} {mg : Str → Option Value} {base : Heap}
theorem Fun.ok {x qual : Str} {st : Stmt} {f : Addr} {fd : FuncData} {N ps : List Str} {k : Nat} {sp : Sp} (F : Fun K x qual st f fd) (S : ZCv N ps (ZCo st)) (len : ∀ vs H Q E, sp vs H Q E → vs.length = ps.length)
  (hbody : ∀ (cdv : Value) (A : Around) (outer : List Env) (s : Shared) (H : Hp) (vs : List V) (Q : VK) (E : XK), Room k (A.deeper (envOfC qual (ZCo st) s.heap.objs.size f cdv)) → sp vs H Q E →
   ∃ t, PSs (ZHm CX0 P w K mg base N qual (ZCo st) f cdv A outer s H E).nox (ZDX st) t ∧ t { nx := fun _ H' => Q .non H', rt := Q } (start N vs) H) : ZCr P w K mg base CX0 (k + 1) f fd ps sp := by
 obtain ⟨oc, od, kV, doc, pm, an, cdv, ct, osl, rfl, lk, hcd⟩ := F.ex
 refine ZKT lk hcd S len fun A outer s H vs Q E hr hsp => ?_
 obtain ⟨t, h, q⟩ := hbody cdv A outer s H vs Q E hr hsp
 exact ⟨t, h.nox, q⟩
theorem Fun.binds {x qual : Str} {st : Stmt} {f : Addr} {fd : FuncData} {ps : List Str} (F : Fun K x qual st f fd)
  (h : ∀ (kV doc pm : Value) (an : Option Addr) (cdv ct : Value) (us : List Value), us.length = ps.length → bindArgs (W.fnOf x qual (ZDs st) (ZDX st) (ZCo st) .none kV doc pm an cdv ct) ⟨us, []⟩ = pure (ps.zip us)) : ZCu K fd ps [] := by
 obtain ⟨oc, od, kV, doc, pm, an, cdv, ct, osl, rfl, lk, hcd⟩ := F.ex
 exact .all (h kV doc pm an cdv ct)
theorem fun_mk {x qual : Str} {st : Stmt} {f : Addr} {oc : Value} {od an : Option Addr} {osl : Array (Option Value)} {kV doc pm cdv ct : Value} (l : K.lookup f = some ⟨oc, od, .func (W.fnOf x qual (ZDs st) (ZDX st) (ZCo st) .none kV doc pm an cdv ct), osl⟩)
 (c : W.codeIn K cdv qual = true) (k : W.keepIn K (.ref f) = true) : Fun K x qual st f (W.fnOf x qual (ZDs st) (ZDX st) (ZCo st) .none kV doc pm an cdv ct) := ⟨⟨oc, od, kV, doc, pm, an, cdv, ct, osl, rfl, l, c⟩, k⟩
end
theorem ZD9 {A : Around} {k : Nat} (hr : Room k A) : A.units + 1 < cLine := Nat.lt_of_le_of_lt (Nat.add_le_add_left (by decide : 1 ≤ 64) _) hr.units
section
variable {X : Cx}
theorem pv (i : Nat) {x : Str} {pos : Pos} (hN : X.N[i]? = some x := by rfl) (hv : Vis X.env.scope x := by first | exact Or.inl rfl | exact Or.inr (Or.inl rfl) | exact Or.inr (Or.inr rfl)) (hd : (x == ("__debug__" : Str)) = false := by decide)
 (hcd : (x == ("__classdict__" : Str)) = false := by decide) : PE X (.Name x pos) (ZMR i) := ZNL hN hv hd hcd
end
theorem ZDu {A B : Prop} (h : B) : if false = true then A else B := by
 rw [if_neg Bool.false_ne_true]
 exact h
theorem ZD0 {A B : Prop} (h : A) : if true = true then A else B := by
 rw [if_pos rfl]
 exact h
def ZCq (H H' : Hp) : Prop := ∀ b o, H b = some o → H' b = some o
theorem ZCq.refl (H : Hp) : ZCq H H := fun _ _ h => h
theorem ZCq.trans {H H1 H2 : Hp} (a : ZCq H H1) (b : ZCq H1 H2) : ZCq H H2 := fun c o h => b c o (a c o h)
theorem ZCq.free {H H' : Hp} (e : ZCq H H') {l : Addr} (h : H' l = Option.none) : H l = Option.none := by
 cases q : H l with
 | none => rfl
 | some o =>
  rw [e l o q] at h
  cases h
theorem ZCq.seq {K : W.Frag} {H H' : Hp} {a : Addr} {xs : List V} (e : ZCq H H') (h : SqL K H a xs) : SqL K H' a xs := by
 rcases h with (h | ⟨o, h⟩) | h
 ·exact .inl (.inl (e _ _ h))
 ·exact .inl (.inr ⟨o, e _ _ h⟩)
 ·exact .inr h
end L2
namespace L2
open PySem PySem.Spec PyProof.Rows PySem.W
def evT (c : Nat → Nat → Bool) {α : Type} : KasT α → α
 | .ret a => a
 | .ask i j k => evT c (k (c i j))
theorem ZFS (c : Nat → Nat → Bool) {α β : Type} (f : α → KasT β) : ∀ t : KasT α, evT c (t.bind f) = evT c (f (evT c t))
 | .ret _ => rfl
 | .ask i j k => ZFS c f (k (c i j))
abbrev gt0 (p : Array Nat) (i : Nat) : Nat := p.getD i 0
section
variable {c : Nat → Nat → Bool} {n : Nat}
structure Ord (c : Nat → Nat → Bool) (n : Nat) : Prop where
 tr : ∀ i j k, c i j = true → c j k = true → c i k = true
 asy : ∀ i j, c i j = true → c j i = false
 tot : ∀ i j, i < n → j < n → i ≠ j → c i j = false → c j i = true
structure Ixs (p : Array Nat) (n : Nat) : Prop where
 size : p.size = n
 lt : ∀ i, i < n → gt0 p i < n
 inj : ∀ i j, i < n → j < n → gt0 p i = gt0 p j → i = j
theorem ZI5 {p : Array Nat} {i v : Nat} (h : p[i]? = some v) : gt0 p i = v := by
 simp [gt0, h]
theorem ZE9 {p : Array Nat} {i : Nat} (h : i < p.size) : p[i]? = some (gt0 p i) := by
 simp [gt0, h]
theorem Ixs.of_perm {p : Array Nat} (h : p.toList.Perm (List.range n)) : Ixs p n := by
 have hs : p.size = n := by have := h.length_eq; simpa using this
 refine ⟨hs, fun i hi => ?_, fun i j hi hj e => ?_⟩
 ·have hm : gt0 p i ∈ p.toList := by
   have := ZE9 (p := p) (i := i) (by omega)
   exact Array.mem_toList_iff.mpr (Array.mem_of_getElem? this)
  exact List.mem_range.mp (h.mem_iff.mp hm)
 ·have hn : p.toList.Nodup := h.nodup_iff.mpr List.nodup_range
  have h1 : p.toList[i]? = some (gt0 p i) := by rw [Array.getElem?_toList]; exact ZE9 (by omega)
  have h2 : p.toList[j]? = some (gt0 p i) := by rw [Array.getElem?_toList, e]; exact ZE9 (by omega)
  have hi' : i < p.toList.length := by simp; omega
  have hj' : j < p.toList.length := by simp; omega
  rw [List.getElem?_eq_getElem hi'] at h1
  rw [List.getElem?_eq_getElem hj'] at h2
  have hpw := List.pairwise_iff_getElem.mp (List.nodup_iff_pairwise_ne.mp hn)
  have ee : p.toList[i] = p.toList[j] := by rw [Option.some.inj h1, Option.some.inj h2]
  rcases Nat.lt_trichotomy i j with z | z | z
  ·exact absurd ee (hpw i j hi' hj' z)
  ·exact z
  ·exact absurd ee.symm (hpw j i hj' hi' z)
def Up (c : Nat → Nat → Bool) (p : Array Nat) (m : Nat) : Prop := ∀ a b, a < b → b < m → c (gt0 p a) (gt0 p b) = true
theorem ZIO (O : Ord c n) {p : Array Nat} {m : Nat} (h : ∀ i, 1 ≤ i → i < m → c (gt0 p (i - 1)) (gt0 p i) = true) : Up c p m := by
 intro a b hab hb
 obtain ⟨d, rfl⟩ := Nat.exists_eq_add_of_lt hab
 induction d with
 | zero => have := h (a + 1) (by omega) hb; simpa using this
 | succ d ih =>
  have h1 := ih (by omega) (by omega)
  have h2 := h (a + (d + 1) + 1) (by omega) hb
  have e : a + (d + 1) + 1 - 1 = a + d + 1 := by omega
  rw [e] at h2
  exact O.tr _ _ _ h1 h2
theorem ZI6 (p : Array Nat) : ∀ (f a : Nat), a ≤ evT c (kas_asc p f a) ∧ evT c (kas_asc p f a) ≤ a + f ∧ (∀ i, a ≤ i → i < evT c (kas_asc p f a) → c (gt0 p i) (gt0 p (i - 1)) = false) ∧
  (evT c (kas_asc p f a) = a + f ∨ c (gt0 p (evT c (kas_asc p f a))) (gt0 p (evT c (kas_asc p f a) - 1)) = true)
 | 0, a => ⟨Nat.le_refl _, Nat.le_refl _, fun i h1 h2 => absurd h2 (by show ¬ i < a; omega), .inl rfl⟩
 | f + 1, a => by
  have e : evT c (kas_asc p (f + 1) a) = evT c (if c (gt0 p a) (gt0 p (a - 1)) = true then KasT.ret a else kas_asc p f (a + 1)) := rfl
  rw [e]
  cases hc : c (gt0 p a) (gt0 p (a - 1)) with
  | true =>
   rw [if_pos rfl]
   exact ⟨Nat.le_refl _, Nat.le_add_right _ _, fun i h1 h2 => absurd h2 (by show ¬ i < a; omega), .inr hc⟩
  | false =>
   rw [if_neg (by decide)]
   obtain ⟨h1, h2, h3, h4⟩ := ZI6 p f (a + 1)
   refine ⟨by omega, by omega, fun i g1 g2 => ?_, ?_⟩
   ·by_cases z : i = a
    ·rw [z]; exact hc
    ·exact h3 i (by omega) g2
   ·rcases h4 with h4 | h4
    ·left; omega
    ·right; exact h4
theorem ZL9 (O : Ord c n) {p : Array Nat} (P : Ixs p n) : ∀ (f a : Nat), 1 ≤ a → a + f ≤ n → ∃ m, evT c (kas_desc f p a 0) = (p, m, 0) ∧ a ≤ m ∧ m ≤ a + f ∧ ∀ i, a ≤ i → i < m → c (gt0 p i) (gt0 p (i - 1)) = true
 | 0, a, _, _ => ⟨a, rfl, Nat.le_refl _, Nat.le_refl _, fun i h1 h2 => absurd h2 (by omega)⟩
 | f + 1, a, h1, h2 => by
  have e : evT c (kas_desc (f + 1) p a 0) = evT c (if c (gt0 p a) (gt0 p (a - 1)) = true then (if 0 > 0 then kas_desc f (kas_rev p (a - (0 + 1)) a) (a + 1) 0 else kas_desc f p (a + 1) 0)
   else .ask (p.getD (a - 1) 0) (p.getD a 0) fun d => if d = true then .ret (p, a, 0) else kas_desc f p (a + 1) (0 + 1)) := rfl
  rw [e]
  cases hc : c (gt0 p a) (gt0 p (a - 1)) with
  | true =>
   rw [if_pos rfl, if_neg (by decide)]
   obtain ⟨m, g1, g2, g3, g4⟩ := ZL9 O P f (a + 1) (by omega) (by omega)
   refine ⟨m, g1, by omega, by omega, fun i k1 k2 => ?_⟩
   by_cases z : i = a
   ·rw [z]; exact hc
   ·exact g4 i (by omega) k2
  | false =>
   rw [if_neg (by decide)]
   have hd : c (gt0 p (a - 1)) (gt0 p a) = true := O.tot _ _ (P.lt _ (by omega)) (P.lt _ (by omega)) (fun z => by have := P.inj _ _ (by omega) (by omega) z; omega) hc
   have e2 : evT c (KasT.ask (p.getD (a - 1) 0) (p.getD a 0) fun d => if d = true then KasT.ret (p, a, 0) else kas_desc f p (a + 1) (0 + 1)) = evT c (if c (gt0 p (a - 1)) (gt0 p a) = true then KasT.ret (p, a, 0) else kas_desc f p (a + 1) (0 + 1)) := rfl
   rw [e2, hd, if_pos rfl]
   exact ⟨a, rfl, Nat.le_refl _, by omega, fun i k1 k2 => absurd k2 (by omega)⟩
theorem ZKh (p : Array Nat) (i j : Nat) : (kas_rev p i j).toList.Perm p.toList := Array.perm_iff_toList_perm.mp (mirror_perm p i j _)
theorem ZMA {p : Array Nat} {m : Nat} (hm : m ≤ p.size) (k : Nat) (hk : k < m) : gt0 (kas_rev p 0 m) k = gt0 p (m - 1 - k) := by
 refine ZI5 ?_
 have e : (kas_rev p 0 m)[k]? = if 0 ≤ k ∧ k < m then p[0 + m - 1 - k]? else p[k]? := getElem?_mirror_all (i := 0) hm k
 rw [e, if_pos ⟨by omega, hk⟩]
 have e2 : 0 + m - 1 - k = m - 1 - k := by omega
 rw [e2]
 exact ZE9 (by omega)
theorem ZMB (O : Ord c n) {p : Array Nat} (P : Ixs p n) {m f : Nat} (h1 : 1 ≤ m) (h : Up c p m) (hf : m + f ≤ n) : Up c p (evT c (kas_asc p f m)) := by
 obtain ⟨g1, g2, g3, _⟩ := ZI6 (c := c) p f m
 refine ZIO O fun i hi1 hi2 => ?_
 by_cases z : i < m
 ·exact h (i - 1) i (by omega) z
 ·have := g3 i (by omega) hi2
  exact O.tot _ _ (P.lt _ (by omega)) (P.lt _ (by omega)) (fun e => by have := P.inj _ _ (by omega) (by omega) e; omega) this
theorem ZPJ (O : Ord c n) {p : Array Nat} (hp : p.toList.Perm (List.range n)) (hn : 1 ≤ n) : (evT c (kas_count n p)).2.toList.Perm (List.range n) ∧ 1 ≤ (evT c (kas_count n p)).1 ∧ (evT c (kas_count n p)).1 ≤ n ∧ Up c (evT c (kas_count n p)).2 (evT c (kas_count n p)).1 := by
 have P := Ixs.of_perm hp
 unfold kas_count
 rw [ZFS]
 obtain ⟨g1, g2, g3, g4⟩ := ZI6 (c := c) p (n - 1) 1
 have hup := ZMB O P (m := 1) (f := n - 1) (Nat.le_refl _) (fun a b h1 h2 => by omega) (by omega)
 generalize hm : evT c (kas_asc p (n - 1) 1) = m at *
 by_cases h1 : (m == n) = true
 ·rw [if_pos h1]
  exact ⟨hp, g1, by show m ≤ n; omega, hup⟩
 ·rw [if_neg h1]
  have hmn : m < n := by
   have : m ≠ n := fun z => h1 (by simp [z])
   omega
  by_cases h2 : m > 1
  ·rw [if_pos h2]
   have hc : c (gt0 p 0) (gt0 p (m - 1)) = true := hup 0 (m - 1) (by omega) (by omega)
   have e : evT c (KasT.ask (p.getD 0 0) (p.getD (m - 1) 0) fun c => if c = true then KasT.ret (m, p) else kas_descPart m n (kas_rev p 0 m)) = evT c (if c (gt0 p 0) (gt0 p (m - 1)) = true then KasT.ret (m, p) else kas_descPart m n (kas_rev p 0 m)) := rfl
   rw [e, hc, if_pos rfl]
   exact ⟨hp, by show 1 ≤ m; omega, by show m ≤ n; omega, hup⟩
  ·rw [if_neg h2]
   have hm1 : m = 1 := by omega
   subst hm1
   have h10 : c (gt0 p 1) (gt0 p 0) = true := by
    rcases g4 with g4 | g4
    ·omega
    ·exact g4
   unfold kas_descPart
   rw [ZFS]
   obtain ⟨m, k1, k2, k3, k4⟩ := ZL9 O P (n - (1 + 1)) (1 + 1) (by omega) (by omega)
   rw [k1]
   rw [if_neg (show ¬ ((p, m, 0) : Array Nat × Nat × Nat).2.2 > 0 by show ¬ 0 > 0; omega)]
   show (evT c (kas_tail3 m n p)).2.toList.Perm (List.range n) ∧ _
   unfold kas_tail3
   rw [ZFS]
   have hrp : (kas_rev p 0 m).toList.Perm (List.range n) := (ZKh p 0 m).trans hp
   have R := Ixs.of_perm hrp
   have hupr : Up c (kas_rev p 0 m) m := by
    refine ZIO O fun i hi1 hi2 => ?_
    rw [ZMA (by rw [P.size]; omega) _ (by omega), ZMA (by rw [P.size]; omega) _ hi2]
    have e : m - 1 - (i - 1) = m - i := by omega
    have e2 : m - 1 - i = m - i - 1 := by omega
    rw [e, e2]
    by_cases z : m - i = 1
    ·rw [z]; exact h10
    ·exact k4 (m - i) (by omega) (by omega)
   have hfin := ZMB O R (m := m) (f := n - m) (by omega) hupr (by omega)
   obtain ⟨q1, q2, _, _⟩ := ZI6 (c := c) (kas_rev p 0 m) (n - m) m
   exact ⟨hrp, by show 1 ≤ evT c _; omega, by show evT c _ ≤ n; omega, hfin⟩
theorem ZIb (O : Ord c n) {p : Array Nat} (P : Ixs p n) {k : Nat} (hk : k < n) (h : Up c p k) : ∀ (f l r : Nat), l ≤ r → r ≤ k → r - l ≤ f → (∀ i, i < l → c (gt0 p i) (gt0 p k) = true) → (∀ i, r ≤ i → i < k → c (gt0 p k) (gt0 p i) = true) →
  ∃ m, evT c (kas_place p k f l r) = m ∧ m ≤ k ∧ (∀ i, i < m → c (gt0 p i) (gt0 p k) = true) ∧ (∀ i, m ≤ i → i < k → c (gt0 p k) (gt0 p i) = true)
 | 0, l, r, h1, h2, h3, h4, h5 => ⟨l, rfl, by omega, h4, fun i g1 g2 => h5 i (by omega) g2⟩
 | f + 1, l, r, h1, h2, h3, h4, h5 => by
  by_cases hlr : l ≥ r
  ·have e : evT c (kas_place p k (f + 1) l r) = l := by
    show evT c (if l ≥ r then KasT.ret l else _) = l
    rw [if_pos hlr]
    rfl
   exact ⟨l, e, by omega, h4, fun i g1 g2 => h5 i (by omega) g2⟩
  ·have e : evT c (kas_place p k (f + 1) l r) = evT c (if c (gt0 p k) (gt0 p ((l + r) / 2)) = true then kas_place p k f l ((l + r) / 2) else kas_place p k f ((l + r) / 2 + 1) r) := by
    show evT c (if l ≥ r then KasT.ret l else _) = _
    rw [if_neg hlr]
    rfl
   rw [e]
   cases hc : c (gt0 p k) (gt0 p ((l + r) / 2)) with
   | true =>
    rw [if_pos rfl]
    refine ZIb O P hk h f l ((l + r) / 2) (by omega) (by omega) (by omega) h4 fun i g1 g2 => ?_
    by_cases z : i = (l + r) / 2
    ·rw [z]; exact hc
    ·exact O.tr _ _ _ hc (h ((l + r) / 2) i (by omega) g2)
   | false =>
    rw [if_neg (by decide)]
    have hd : c (gt0 p ((l + r) / 2)) (gt0 p k) = true := O.tot _ _ (P.lt _ hk) (P.lt _ (by omega)) (fun z => by have := P.inj _ _ hk (by omega) z; omega) hc
    refine ZIb O P hk h f ((l + r) / 2 + 1) r (by omega) h2 (by omega) (fun i g1 => ?_) h5
    by_cases z : i = (l + r) / 2
    ·rw [z]; exact hd
    ·exact O.tr _ _ _ (h i ((l + r) / 2) (by omega) (by omega)) hd
theorem ZMC {p : Array Nat} {k l : Nat} (hk : k < p.size) (hl : l ≤ k) (i : Nat) (hi : i < p.size) : gt0 (bubble p k (k - l)) i = if i = l then gt0 p k else if l < i ∧ i ≤ k then gt0 p (i - 1) else gt0 p i := by
 refine ZI5 ?_
 rw [getElem?_bubble hk (k - l) (by omega)]
 have e : k - (k - l) = l := by omega
 rw [e]
 by_cases h1 : i = l
 ·rw [if_pos h1, if_pos h1]; exact ZE9 hk
 ·rw [if_neg h1, if_neg h1]
  by_cases h2 : l < i ∧ i ≤ k
  ·rw [if_pos h2, if_pos h2]; exact ZE9 (by omega)
  ·rw [if_neg h2, if_neg h2]; exact ZE9 hi
theorem ZNg (O : Ord c n) : ∀ (f : Nat) (p : Array Nat) (k : Nat), p.toList.Perm (List.range n) → k + f = n → Up c p k → (evT c (kas_bin f p k)).toList.Perm (List.range n) ∧ Up c (evT c (kas_bin f p k)) n
 | 0, p, k, hp, hk, h => by
  have e : k = n := by omega
  refine ⟨hp, ?_⟩
  show Up c p n
  rw [← e]
  exact h
 | f + 1, p, k, hp, hk, h => by
  have P := Ixs.of_perm hp
  show (evT c ((kas_place p k k 0 k).bind fun l => kas_bin f (bubble p k (k - l)) (k + 1))).toList.Perm (List.range n) ∧ Up c (evT c ((kas_place p k k 0 k).bind fun l => kas_bin f (bubble p k (k - l)) (k + 1))) n
  rw [ZFS]
  obtain ⟨m, e, g1, g2, g3⟩ := ZIb O P (k := k) (by omega) h k 0 k (by omega) (Nat.le_refl _) (by omega) (fun i hi => by omega) (fun i h1 h2 => by omega)
  rw [e]
  refine ZNg O f (bubble p k (k - m)) (k + 1) ((Array.perm_iff_toList_perm.mp (bubble_perm p k _)).trans hp) (by omega) fun a b hab hb => ?_
  rw [ZMC (by rw [P.size]; omega) g1 a (by rw [P.size]; omega), ZMC (by rw [P.size]; omega) g1 b (by rw [P.size]; omega)]
  by_cases ha : a = m
  ·rw [if_pos ha, if_neg (by omega), if_pos ⟨by omega, by omega⟩]
   exact g3 (b - 1) (by omega) (by omega)
  ·rw [if_neg ha]
   by_cases hb2 : b = m
   ·rw [if_pos hb2, if_neg (by omega)]
    exact g2 a (by omega)
   ·rw [if_neg hb2]
    by_cases ha3 : m < a ∧ a ≤ k
    ·rw [if_pos ha3, if_pos ⟨by omega, by omega⟩]
     exact h (a - 1) (b - 1) (by omega) (by omega)
    ·rw [if_neg ha3]
     by_cases hb3 : m < b ∧ b ≤ k
     ·rw [if_pos hb3]
      by_cases z : a = b - 1
      ·omega
      ·exact h a (b - 1) (by omega) (by omega)
     ·rw [if_neg hb3]
      exact h a b hab (by omega)
theorem ZRC (O : Ord c n) (hn : 1 ≤ n) : (evT c (kas_sort n)).toList.Perm (List.range n) ∧ Up c (evT c (kas_sort n)) n := by
 unfold kas_sort
 rw [ZFS]
 obtain ⟨h1, h2, h3, h4⟩ := ZPJ O (p := List.toArray (List.range n)) (List.Perm.refl _) hn
 generalize evT c (kas_count n (List.toArray (List.range n))) = r at *
 by_cases h : r.1 < n
 ·rw [if_pos h]
  have e : max r.1 1 = r.1 := by omega
  rw [e]
  exact ZNg O (n - r.1) r.2 r.1 h1 (by omega) h4
 ·rw [if_neg h]
  refine ⟨h1, ?_⟩
  have e : r.1 = n := by omega
  rw [e] at h4
  exact h4
end
section
variable {X : Cx}
theorem ZDl : OpR X (binaryOp .Mult) (rI IntMulOk fun i j => .int (i * j)) := opI fun _ _ _ _ _ _ _ hc q => mul_int q hc
def ZH9 (_ j : Int) : Prop := 0 < j ∧ j.natAbs.log2 < 9000
theorem ZGz : OpR X (binaryOp .FloorDiv) (rI ZH9 fun i j => .int (i / j)) := opI fun i j _ _ _ _ _ hc q => by
 have h1 : (0 : Int) < j := hc.1
 exact floordiv_int (by omega) (by rw [Int.fdiv_eq_ediv_of_nonneg i (by omega)]; exact q) (.inl (PyProof.noPylong_of_log2 hc.2))
theorem ZH9.of {i j : Int} (h : 0 < j) {k : Nat} (h2 : j < 2 ^ k) (hk : k ≤ 9000) : ZH9 i j := by
 refine ⟨h, ?_⟩
 have h3 : j.natAbs < 2 ^ k := by
  have e : ((j.natAbs : Nat) : Int) = j := by omega
  have e2 : ((2 ^ k : Nat) : Int) = (2 : Int) ^ k := by simp
  have : ((j.natAbs : Nat) : Int) < ((2 ^ k : Nat) : Int) := by rw [e, e2]; exact h2
  exact Int.ofNat_lt.mp this
 have h4 : j.natAbs.log2 < k := (Nat.log2_lt (by omega)).mpr h3
 omega
theorem ZUS {i j : Int} (h1 : -(2 ^ 64) < i) (h2 : i < 2 ^ 64) : IntMulOk i j := .of_left (intBits_le_64 h1 h2)
theorem ZUT {i j : Int} (h1 : -(2 ^ 64) < j) (h2 : j < 2 ^ 64) : IntMulOk i j := .of_right (intBits_le_64 h1 h2)
theorem ZCx.bool_iff {x : V} {v : Value} {b : Bool} (r : ZCx x v) : (v == Value.bool b) = decide (x = .bl b) := by
 cases x with
 | non => cases r; rfl
 | bl c => cases r; cases b <;> cases c <;> rfl
 | int _ => obtain ⟨t, rfl⟩ := r; rfl
 | str _ => obtain ⟨t, rfl⟩ := r; rfl
 | byt _ => obtain ⟨t, rfl⟩ := r; rfl
 | flt _ => obtain ⟨t, rfl⟩ := r; rfl
 | ref _ => cases r; rfl
 | ty _ => cases r; rfl
theorem ZCx.plainB {x : V} {v : Value} {b : Bool} (r : ZCx x v) : plainIs v (.bool b) = true := by
 cases x with
 | non => cases r; rfl
 | bl c => cases r; rfl
 | int _ => obtain ⟨t, rfl⟩ := r; rfl
 | str _ => obtain ⟨t, rfl⟩ := r; rfl
 | byt _ => obtain ⟨t, rfl⟩ := r; rfl
 | flt _ => obtain ⟨t, rfl⟩ := r; rfl
 | ref _ => cases r; rfl
 | ty _ => cases r; rfl
theorem ZSz : OpR X (compareOp .Is) (fun x y H Q => ∃ b, y = .bl b ∧ Q (.bl (decide (x = .bl b))) H) := by
 intro pins s σ H x y v u Q I rx ry h
 obtain ⟨b, rfl, q⟩ := h
 obtain rfl : u = Value.bool b := ry
 exact wpAny_is_plain rx.plainB ⟨.bl _, H, I, by rw [rx.bool_iff]; rfl, q⟩
def ZPK (K : W.Frag) : List V → Hp → VK → Prop := fun xs H Q => ∃ x n t b, xs = [x, .ty n] ∧ ZFE K H x t ∧ W.kitOne K t (.type n) = some b ∧ Q (.bl b) H
theorem ZPL : ZDh X (.builtin "isinstance") (ZPK X.K) := by
 intro pins s σ H xs us Q I r h
 obtain ⟨x, n, t, b, rfl, ty, e, q⟩ := h
 obtain ⟨u, v, rfl, ru, rv⟩ := r.two
 obtain rfl : v = Value.type n := rv
 exact ZNY I ru ty e fun tk => ⟨.bl b, H, I.tok _, rfl, q⟩
end
theorem ZKC {l : List (Str × Addr)} {x : Str} {c : Addr} (h : (x, c) ∈ l) : ∃ d, l.lookup x = some d := by
 induction l with
 | nil => cases h
 | cons p r ih =>
  obtain ⟨y, d⟩ := p
  cases hx : x == y with
  | true => exact ⟨d, by simp [List.lookup_cons, hx]⟩
  | false =>
   have hr : (x, c) ∈ r := by
    rcases List.mem_cons.mp h with e | e
    ·cases e
     simp at hx
    ·exact e
   obtain ⟨d', e⟩ := ih hr
   exact ⟨d', by simp only [List.lookup_cons, hx]; exact e⟩
theorem ZF2 {env : Env} : ∀ (names : List (Str × NameKind)) (acc : List (Str × Addr)), (∀ y ∈ names, y.2 = NameKind.free → ∃ c, env.cells.lookup y.1 = some c) → (∀ p ∈ acc, env.cells.lookup p.1 = some p.2) →
  ∃ cl : List (Str × Addr), (forIn names acc fun (x : Str × NameKind) (r : List (Str × Addr)) => (match x with | (name, kind) => if (kind == NameKind.free) = true then (do let a ← cellOf env name; pure (ForInStep.yield ((name, a) :: r))) else pure (ForInStep.yield r) : Sem (ForInStep (List (Str × Addr))))) = pure cl
   ∧ (∀ p ∈ cl, env.cells.lookup p.1 = some p.2) ∧ (∀ p ∈ acc, p ∈ cl) ∧ ∀ y ∈ names, y.2 = NameKind.free → ∃ c, (y.1, c) ∈ cl
 | [], acc, _, ha => ⟨acc, by simp, ha, fun _ h => h, fun y h => by cases h⟩
 | (n, k) :: r, acc, h, ha => by
  by_cases hk : k = NameKind.free
  ·subst hk
   obtain ⟨c, hc⟩ := h (n, .free) List.mem_cons_self rfl
   obtain ⟨cl, e, h1, h2, h3⟩ := ZF2 r ((n, c) :: acc) (fun y hy => h y (List.mem_cons_of_mem _ hy)) (fun p hp => by
    rcases List.mem_cons.mp hp with rfl | hp
    ·exact hc
    ·exact ha p hp)
   refine ⟨cl, ?_, h1, fun p hp => h2 p (List.mem_cons_of_mem _ hp), fun y hy hf => ?_⟩
   ·rw [List.forIn_cons]
    simp only [beq_self_eq_true, if_true, cellOf, hc, pure_bind]
    exact e
   ·rcases List.mem_cons.mp hy with rfl | hy
    ·exact ⟨c, h2 _ List.mem_cons_self⟩
    ·exact h3 y hy hf
  ·obtain ⟨cl, e, h1, h2, h3⟩ := ZF2 r acc (fun y hy => h y (List.mem_cons_of_mem _ hy)) ha
   have hb : (k == NameKind.free) = false := by simpa using hk
   refine ⟨cl, ?_, h1, h2, fun y hy hf => ?_⟩
   ·rw [List.forIn_cons]
    simp only [hb, Bool.false_eq_true, if_false, pure_bind]
    exact e
   ·rcases List.mem_cons.mp hy with rfl | hy
    ·exact absurd hf hk
    ·exact h3 y hy hf
theorem ZI7 {scope : Scope} {env : Env} (h : ∀ y ∈ scope.names, y.2 = NameKind.free → ∃ c, env.cells.lookup y.1 = some c) :
  ∃ cl, closureFor scope env = pure cl ∧ (∀ x c, cl.lookup x = some c → env.cells.lookup x = some c) ∧ ∀ y ∈ scope.names, y.2 = .free → ∃ c, cl.lookup y.1 = some c := by
 obtain ⟨cl, e, h1, _, h3⟩ := ZF2 scope.names [] h (fun p hp => by cases hp)
 refine ⟨cl, ?_, fun x c hx => h1 (x, c) (PySem.mem_of_lookup hx), fun y hy hf => ?_⟩
 ·simp only [closureFor]
  rw [e]
  rfl
 ·obtain ⟨c, hc⟩ := h3 y hy hf
  exact ZKC hc
theorem ZFT {env : Env} : ∀ (names : List (Str × NameKind)) (x : Str),
  (names.map fun (n, k) => if (k == NameKind.free && env.scope.kind == .function && env.kindOf n == some .cell) then (n, NameKind.cell) else (n, k)).lookup x =
   (names.lookup x).map fun k => if (k == NameKind.free && env.scope.kind == .function && env.kindOf x == some .cell) then NameKind.cell else k
 | [], _ => rfl
 | (n, k) :: r, x => by
  have ih := ZFT (env := env) r x
  show List.lookup x ((if (k == NameKind.free && env.scope.kind == .function && env.kindOf n == some .cell) = true then (n, NameKind.cell) else (n, k)) :: _) = _
  cases hx : x == n with
  | true =>
   have e : x = n := eq_of_beq hx
   subst e
   by_cases hc : (k == NameKind.free && env.scope.kind == .function && env.kindOf x == some .cell) = true
   ·rw [if_pos hc]
    simp only [List.lookup_cons, beq_self_eq_true, Option.map_some]
    rw [if_pos hc]
   ·rw [if_neg hc]
    simp only [List.lookup_cons, beq_self_eq_true, Option.map_some]
    rw [if_neg hc]
  | false =>
   by_cases hc : (k == NameKind.free && env.scope.kind == .function && env.kindOf n == some .cell) = true
   ·rw [if_pos hc]; simp only [List.lookup_cons, hx]; exact ih
   ·rw [if_neg hc]; simp only [List.lookup_cons, hx]; exact ih
structure ZHn (N : List Str) (sc : Scope) (own caps : List Str) (ks : List Nat) (scope : Scope) : Prop where
 kind : scope.kind = .function
 nocell : ∀ y ∈ scope.names, y.2 ≠ .cell
 names : ∀ y ∈ scope.names, y.2 = .local → scope.names.lookup y.1 = some .local
 free : ∀ y ∈ scope.names, y.2 = .free → sc.names.lookup y.1 = some .cell
 nd : (own ++ caps).Nodup
 cap : ks.map (fun k => N[k]?) = caps.map some
 fr : ∀ x ∈ caps, scope.names.lookup x = some .free
def ZDC (X : Cx) (N' : List Str) (scope : Scope) (cl : List (Str × Addr)) (C : Addr) (s₂ : Shared) (H₂ : Hp) (fp : List Addr) : Cx :=
 { X with N := N', s₀ := s₂, H₀ := H₂, env := compEnvC scope cl C X.env, outer := X.stack, stack := X.stack, ex := fp, fn := fun _ => false, pn := [], xe := fun _ _ => False }
def ZE5 (own : Nat) (ks : List Nat) (σ : St) : St := List.replicate own none ++ ks.map fun k => (σ[k]?).join
section
variable {prog : Program} {w : World} {A : Around} {R : Result → Shared → Prop} {s : Shared}
theorem ZFF {elt target iter : Expr} {ifs : List Expr} {scope : Scope} {pos : Pos} {it acc : Value} {env : Env} (I : Nat → Shared → Prop)
  (turn : ∀ n s, I n s → wpAny (model prog w) A (pyNext it) (fun r s₁ => match r with
   | none => R (.ok .next) s₁
   | some v => wpAny (model prog w) A (letOwnedTupleGo target it v) (fun _ s₁' => wpAny (model prog w) A (assign target env v) (fun _ s₂ =>
    wpAny (model prog w) A (forIn ifs true fun c r => if r = true then do let ok ← isTrue c env (eval c env); pure (ForInStep.yield ok) else pure (ForInStep.yield r)) (fun ok s₃ =>
     if ok = true then wpAny (model prog w) A (eval elt env) (fun x s₄ =>
      wpAny (model prog w) A (call (.builtin "list.append") [acc, x]) (fun _ s₅ => ∃ m, m < n ∧ I m s₅) (notedBy (model prog w) A env fun e s' => R (.error e) s') s₄) (notedBy (model prog w) A env fun e s' => R (.error e) s') s₃
     else ∃ m, m < n ∧ I m s₃) (notedBy (model prog w) A env fun e s' => R (.error e) s') s₂) (notedBy (model prog w) A env fun e s' => R (.error e) s') s₁') (notedBy (model prog w) A env fun e s' => R (.error e) s') s₁) (notedBy (model prog w) A env fun e s' => R (.error e) s') s)
  (n : Nat) (h : I n s) :
  codeAny (model prog w) A (.compLoop (.ListComp elt [⟨target, iter, ifs, 0⟩] scope pos) 0 it acc env) R s := by
 refine codeAny_loop rfl I (fun n s hI => ?_) n h
 show wpAny _ A ((compTurn (.ListComp elt [⟨target, iter, ifs, 0⟩] scope pos) 0 it acc env).onRaise (fun x => do noteFrame x env; theTreesLotGoes x)) _ _ s
 refine wpAny_noted ?_
 rw [compTurn_list]
 refine wpAny_bind (wpAny_standAt (wpAny_bind (wpAny_mono (turn n s hI) (fun r s₁ h₁ => ?_) fun _ _ h' => h')))
 cases r with
 | none => exact wpAny_pure h₁
 | some v =>
  refine wpAny_bind (wpAny_mono h₁ (fun _ s₁' h₁' => ?_) fun _ _ h' => h')
  refine wpAny_bind (wpAny_mono h₁' (fun _ s₂ h₂ => wpAny_bind (wpAny_mono h₂ (fun ok s₃ h₃ => ?_) fun _ _ h' => h')) fun _ _ h' => h')
  cases ok with
  | false => exact wpAny_pure ⟨rfl, h₃⟩
  | true =>
   exact wpAny_bind (wpAny_bind (wpAny_mono h₃ (fun x s₄ h₄ => wpAny_bind (wpAny_mono h₄ (fun _ s₅ h₅ => wpAny_pure (wpAny_pure ⟨rfl, h₅⟩)) fun _ _ h' => h')) fun _ _ h' => h'))
end
def ZJR (X : Cx) (ifs : List Expr) (t : TT) : Prop :=
 ∀ (pins : List (Addr × Obj)) (s : Shared) (σ : St) (H : Hp) (Q : Bool → Hp → Prop), Inv X pins σ H s → t σ H Q →
  wpAny (model X.prog X.w) X.A (forIn ifs true fun c r => if r = true then do let ok ← isTrue c X.env (eval c X.env); pure (ForInStep.yield ok) else pure (ForInStep.yield r)) (TP X pins σ Q) X.xe s
def ZMj : TT := fun _ H Q => Q true H
section
variable {X : Cx}
theorem ZPM : ZJR X [] ZMj := fun _ _ _ H _ I h => wpAny_tests_nil ⟨H, I, h⟩
theorem ZPN {c : Expr} {t : TT} (hc : PT X c t) : ZJR X [c] t := fun pins s σ H Q I h => wpAny_tests_one (hc pins s σ H Q I h)
def ZIA (own : Nat) (ks : List Nat) (wi : TI) (g : TG) (tt : TT) (te : TE) : TE := fun σ H Q => wi σ H fun J H1 => ∀ l, H1 l = none →
 ∃ W : Nat → Nat → St → Hp → Prop, (∃ m, W 0 m (ZE5 own ks σ) (upd H1 l (.lst []))) ∧ ∀ i m σ' H', W i m σ' H' →
  (J.stop i H' ∧ Q (.ref l) H') ∨ (J.go i H' ∧ ∃ N : St → Hp → Prop, (∀ σ2 H2, N σ2 H2 → ∃ m', m' < m ∧ W (i + 1) m' σ2 H2) ∧
   ∀ x H'', J.yld i H' x H'' → g x σ' H'' fun σ2 H2 => tt σ2 H2 fun b H3 =>
    if b = true then te σ2 H3 fun v H4 => ∃ xs, H4 l = some (.lst xs) ∧ xs.length < sizeLine ∧ N σ2 (upd H4 l (.lst (xs ++ [v]))) else N σ2 H3)
theorem ZJs {α : Type} {o : Option (Option α)} {v : α} (h : o.join = some v) : o = some (some v) := by
 cases o with
 | none => cases h
 | some x => exact congrArg some h
theorem ZRD {N : List Str} {sc : Scope} {own caps : List Str} {ks : List Nat} {elt tg iter : Expr} {ifs : List Expr} {scope : Scope} {pos : Pos} {wi : TI} {g : TG} {tt : TT} {te : TE}
  (hN : X.N = N) (hsc : X.env.scope = sc) (hc : X.calm = true) (S : ZHn N sc own caps ks scope) (hi : PI X tg iter wi)
  (hg : ∀ cl C s₂ H₂ fp, PG (ZDC X (own ++ caps) scope cl C s₂ H₂ fp) tg g)
  (ht : ∀ cl C s₂ H₂ fp, ZJR (ZDC X (own ++ caps) scope cl C s₂ H₂ fp) ifs tt)
  (he : ∀ cl C s₂ H₂ fp, PE (ZDC X (own ++ caps) scope cl C s₂ H₂ fp) elt te)
  (hs : ∀ x, foldedSetIterable iter X.env x = pure x := by intro _; rfl) :
  PE X (.ListComp elt [⟨tg, iter, ifs, 0⟩] scope pos) (ZIA own.length ks wi g tt te) := by
 intro pins s σ H Q I h
 subst hN hsc
 rw [eval_ListComp]
 obtain ⟨cl, hclos, hcl, hclf⟩ := ZI7 (scope := scope) (env := X.env) fun y hy hf => I.ok.has y.1 (.inl (S.free y hy hf))
 refine wpAny_comprehension_free (use := none) rfl hs hclos S.kind S.names (wpAny_mono (hi pins s σ H _ I h) (fun xv s₁ h₁ => wpAny_mono h₁ (fun it s₂ h₂ => ?_) fun _ _ e => e) fun _ _ e => e)
 obtain ⟨it, fp, tn, J, H2, e, I2, T, st2, f2, q⟩ := h₂
 subst e
 refine wpAny_newObj_type (wpAny_newFunctionEnv S.nocell (by intro y hy; simp at hy) (fun h₁ hns₁ hsb₁ => ?_) S.kind)
 dsimp only at hns₁ hsb₁ ⊢
 generalize hH2 : s₂.heap.push { cls := .type "list", dict := none, data := .seq ([] : List Value).toArray } = HP at hns₁ hsb₁ ⊢
 have hC : HP.objs.size = s₂.heap.objs.size + 1 := by rw [← hH2, Heap.size_push]
 have hDC : s₂.heap.objs.size ≠ HP.objs.size := by rw [hC]; exact Nat.ne_of_lt (Nat.lt_succ_self _)
 have hCle : s₂.heap.objs.size ≤ HP.objs.size := by rw [hC]; exact Nat.le_succ _
 have old : ∀ b o, s₂.heap.get? b = some o → h₁.get? b = some o := fun b o e => by
  have hb : b < s₂.heap.objs.size := Heap.lt_size e
  exact hsb₁.extBut b o (by rw [hC]; exact Nat.ne_of_lt (Nat.lt_succ_of_lt hb)) (Heap.get?_push_of_some _ (hH2 ▸ Heap.get?_push_of_some _ e))
 have hacc : h₁.get? s₂.heap.objs.size = some { cls := .type "list", dict := none, data := .seq ([] : List Value).toArray } := hsb₁.extBut _ _ hDC (Heap.get?_push_of_some _ (hH2 ▸ Heap.get?_push_size _ rfl))
 have fpl : ∀ b ∈ fp, b < s₂.heap.objs.size := fun b hb => by
  obtain ⟨o, e, _⟩ := T.obj _ _ st2 b hb
  exact Heap.lt_size e
 have hfD : H2 s₂.heap.objs.size = none := I2.hok.fresh (Nat.le_refl _)
 obtain ⟨W, ⟨m0, w0⟩, turn⟩ := q s₂.heap.objs.size hfD
 have hkr : ∀ x, (compEnvC scope cl HP.objs.size X.env).kindOf x = (scope.names.lookup x).map fun k => if (k == NameKind.free && X.env.scope.kind == .function && X.env.kindOf x == some .cell) then NameKind.cell else k := fun x => ZFT (env := X.env) scope.names x
 have cellOfN : ∀ x, scope.names.lookup x = some .free → X.env.kindOf x = some .cell := fun x e => S.free (x, .free) (PySem.mem_of_lookup e) rfl
 -- the context within
 have ok : (ZDC X (own ++ caps) scope cl HP.objs.size s₂ H2 fp).Ok := by
  refine ⟨I2.ok.mod, S.kind, I2.ok.glob, I2.ok.blt, hCle, fun x y c e1 e2 => I2.ok.inj x y c (hcl x c e1) (hcl y c e2), fun x hx => ?_, fun x c z => (by cases z), I2.ok.hd, I2.ok.frames, .inl rfl, fun b hb => ⟨?_, fun x c e => (f2 b hb).2.2.2.2.1 x c (hcl x c e)⟩,
   I2.bs, Nat.le_trans I2.ok.bsz I2.sz, fun b o e hb => ?_, fun b hb z => ?_, I2.stack, I2.stkFree⟩
  ·have hx' : (scope.names.lookup x).map (fun k => if (k == NameKind.free && X.env.scope.kind == .function && X.env.kindOf x == some .cell) then NameKind.cell else k) = some .cell ∨
     (scope.names.lookup x).map (fun k => if (k == NameKind.free && X.env.scope.kind == .function && X.env.kindOf x == some .cell) then NameKind.cell else k) = some .free := by rw [← hkr x]; exact hx
   cases e : scope.names.lookup x with
   | none => rw [e] at hx'; rcases hx' with z | z <;> cases z
   | some k =>
    have hm := PySem.mem_of_lookup e
    have hk : k = .free := by
     by_cases hkf : k = .free
     ·exact hkf
     ·have hb : (k == NameKind.free) = false := by simpa using hkf
      rw [e] at hx'
      simp only [Option.map_some, hb, Bool.false_and, Bool.false_eq_true, if_false, Option.some.injEq] at hx'
      rcases hx' with z | z
      ·exact absurd z (S.nocell _ hm)
      ·exact z
    exact hclf _ hm hk
  ·exact Nat.ne_of_lt (Nat.lt_of_lt_of_le (fpl b hb) hCle)
  ·rcases (f2 b hb).2.2.2.1 with z | z
   ·exact I2.ok.noex b o e z
   ·exact absurd (Nat.lt_of_lt_of_le (Heap.lt_size e) (Nat.le_trans I2.ok.bsz z)) (Nat.lt_irrefl _)
  ·rcases List.mem_cons.mp (I2.stkSub b z) with r | r
   ·exact (f2 b hb).2.1 r
   ·exact (f2 b hb).2.2.1 r
 have hlen : (ZE5 own.length ks σ).length = (own ++ caps).length := by
  have := congrArg List.length S.cap
  simp only [List.length_map] at this
  simp [ZE5, this]
 have I4 : Inv (ZDC X (own ++ caps) scope cl HP.objs.size s₂ H2 fp) [] (ZE5 own.length ks σ) (upd H2 s₂.heap.objs.size (.lst [])) { s₂ with heap := h₁, toks := s₂.toks + ([] : List (Str × Value)).length } := by
  obtain ⟨mX, hnX, hlX⟩ := I2.loc
  refine ⟨ok, rfl, I2.bare, Un.laid old (Nat.le_refl _) hfD, ⟨_, hns₁, fun i x v e1 e2 e3 => ?_⟩, fun x c e => ?_, ?_, fun x c e => ?_, fun p hp => (by cases hp), I2.hok.laid old (Nat.le_refl _) ⟨Nat.zero_le _, [], 0, .nil, hacc⟩, hlen⟩
  ·have e1 : (own ++ caps)[i]? = some x := e1
   by_cases hio : i < own.length
   ·unfold ZE5 at e2
    rw [List.getElem?_append_left (by simpa using hio), List.getElem?_replicate] at e2
    rw [if_pos hio] at e2
    cases e2
   ·unfold ZE5 at e2
    rw [List.getElem?_append_right (by simpa using hio), List.length_replicate, List.getElem?_map] at e2
    rw [List.getElem?_append_right (by simpa using hio)] at e1
    cases ek : ks[i - own.length]? with
    | none => rw [ek] at e2; cases e2
    | some k =>
     rw [ek] at e2
     have e2' := ZJs (Option.some.inj e2)
     have hcap := congrArg (fun l => l[i - own.length]?) S.cap
     simp only [List.getElem?_map, ek, e1, Option.map_some] at hcap
     have hNk : X.N[k]? = some x := Option.some.inj hcap
     have hfx := S.fr x (List.mem_of_getElem? e1)
     have hkX := cellOfN x hfx
     obtain ⟨u, ru, lk⟩ := hlX k x v hNk e2' (.inr (.inl hkX))
     refine ⟨u, ru, .inr ⟨.inl ?_, ?_⟩⟩
     ·show (compEnvC scope cl HP.objs.size X.env).kindOf x = some .cell
      rw [hkr x, hfx]
      simp [I2.ok.kind, hkX]
     ·rcases lk with ⟨z, _⟩ | ⟨_, c, ec, o, ho, hd⟩
      ·rw [hkX] at z; cases z
      ·obtain ⟨c', ec'⟩ := hclf (x, .free) (PySem.mem_of_lookup hfx) rfl
       have := hcl _ _ ec'
       rw [ec] at this
       cases this
       exact ⟨c, ec', o, old _ _ ho, hd⟩
  ·obtain ⟨v, o, ho, hd⟩ := I2.cell x c (hcl x c e)
   exact ⟨v, o, old _ _ ho, hd⟩
  ·show upd H2 s₂.heap.objs.size (.lst []) HP.objs.size = none
   rw [ZC3 (Ne.symm hDC)]
   exact I2.hok.fresh hCle
  ·obtain ⟨v, o, ho, hd⟩ := I2.cell x c (hcl x c e)
   show upd H2 s₂.heap.objs.size (.lst []) c = none
   rw [ZC3 (Nat.ne_of_lt (Heap.lt_size ho))]
   exact I2.freeC x c (hcl x c e)
 -- the way out
 have out : ∀ {σ' : St} {H' : Hp} {s' : Shared}, Inv (ZDC X (own ++ caps) scope cl HP.objs.size s₂ H2 fp) [] σ' H' s' → Q (.ref s₂.heap.objs.size) H' →
   ∃ m, s'.heap.Ns HP.objs.size m ∧ ∀ h', Heap.SameBut HP.objs.size s'.heap h' → EP X pins σ Q (.ref s₂.heap.objs.size) { s' with heap := h' } := fun {σ' H' s'} I' q' => by
  obtain ⟨m, hn, _⟩ := I'.loc
  refine ⟨m, hn, fun h' hs' => ⟨.ref s₂.heap.objs.size, H', ?_, rfl, q'⟩⟩
  have hfree : H' HP.objs.size = none := I'.free
  have neC : ∀ {b : Addr} {o : Obj}, s₂.heap.get? b = some o → b ≠ HP.objs.size := fun e => Nat.ne_of_lt (Nat.lt_of_lt_of_le (Heap.lt_size e) hCle)
  refine I2.call' (ch := fp) (s' := { s' with heap := h' }) I'.os ⟨fun b o e n hb hx => ?_, fun b o e n hb hx => ?_, I'.base.free, fun b o e hx => ?_, I'.base.tups, I'.base.frzs, I'.base.tbls⟩ (fun b ob e => ?_) I'.bare fun b hb => ⟨(f2 b hb).2.2.2.1, (f2 b hb).2.1, (f2 b hb).2.2.2.2.1, (f2 b hb).2.2.2.2.2⟩
  ·exact (hs'.2 b (neC e)).trans (I'.base.keep b o e n hb hx)
  ·obtain ⟨sl, e1⟩ := I'.base.slot b o e n hb hx
   exact ⟨sl, (hs'.2 b (neC e)).trans e1⟩
  ·obtain ⟨o', e1⟩ := I'.base.there b o e hx
   exact ⟨o', (hs'.2 b (neC e)).trans e1⟩
  ·refine (I'.hok b ob e).stay (fun c w' hc q => (hs'.2 c ?_).trans q) (fun _ q => q) fun _ _ q => q
   rintro rfl
   rcases hc with rfl | hc
   ·rw [hfree] at e; cases e
   ·rw [hfree] at hc; cases hc
 have stat : ∀ {H' : Hp}, (∀ b ∈ fp, H' b = none) → ∀ b ∈ fp, ZEL (ZDC X (own ++ caps) scope cl HP.objs.size s₂ H2 fp) [] H' b := fun hn b hb =>
  ⟨hn b hb, Nat.ne_of_lt (Nat.lt_of_lt_of_le (fpl b hb) hCle), ok.exfs b hb, .inl hb, (ok.exf b hb).2, fun p hp => by cases hp⟩
 have fr4 : ∀ b ∈ fp, upd H2 s₂.heap.objs.size (.lst []) b = none := fun b hb => by
  rw [ZC3 (Nat.ne_of_lt (fpl b hb))]
  exact (f2 b hb).1
 have tn4 : tn 0 h₁ := T.keep _ _ _ st2 fun b _ o e => old b o e
 have loop : ∀ s4 : Shared, s4 = { s₂ with heap := h₁, toks := s₂.toks + ([] : List (Str × Value)).length } →
   codeAny (model X.prog X.w) X.A (.compLoop (.ListComp elt [⟨tg, iter, ifs, 0⟩] scope pos) 0 (.ref it) (.ref s₂.heap.objs.size) (compEnvC scope cl HP.objs.size X.env))
    (compPost (model X.prog X.w) X.A X.xe none (EP X pins σ Q) (.ref s₂.heap.objs.size) HP.objs.size) s4 := by
  rintro s4 rfl
  refine ZFF (fun n s' => ∃ i σ' H', Inv (ZDC X (own ++ caps) scope cl HP.objs.size s₂ H2 fp) [] σ' H' s' ∧ tn i s'.heap ∧ (∀ b ∈ fp, H' b = none) ∧ W i n σ' H') ?_ m0 ⟨0, _, _, I4, tn4, fr4, w0⟩
  rintro n s3 ⟨i, σ3, H3, I3, st3, fr3, w3⟩
  rcases turn i n σ3 H3 w3 with ⟨stop, qn⟩ | ⟨go, N, hN, step⟩
  ·refine wpAny_mono (T.done (ZDC X (own ++ caps) scope cl HP.objs.size s₂ H2 fp) rfl rfl rfl hc i [] s3 σ3 H3 (fun _ _ => False) I3 (stat fr3) st3 stop) (fun r s4 ⟨hr, I4'⟩ => ?_) fun _ _ z => False.elim z
   subst hr
   exact out I4' qn
  ·refine wpAny_mono (T.item (ZDC X (own ++ caps) scope cl HP.objs.size s₂ H2 fp) rfl rfl rfl hc i [] s3 σ3 H3 (fun _ _ => False) I3 (stat fr3) st3 go) (fun r s4 ⟨u, hr, h4⟩ => ?_) fun _ _ z => False.elim z
   subst hr
   refine wpAny_mono h4 (fun _ s5 ⟨x, H5, I5, r5, y5, st5, fr5⟩ => ?_) fun _ _ z => False.elim z
   have I5' := I5.pinned (stat fr5) (T.obj _ _ st5)
   have back : ∀ {s7 : Shared} {σ7 : St} {H7 : Hp}, Inv (ZDC X (own ++ caps) scope cl HP.objs.size s₂ H2 fp) ([] ++ ZGe fp s5.heap) σ7 H7 s7 → N σ7 H7 →
     ∃ m, m < n ∧ ∃ i σ' H', Inv (ZDC X (own ++ caps) scope cl HP.objs.size s₂ H2 fp) [] σ' H' s7 ∧ tn i s7.heap ∧ (∀ b ∈ fp, H' b = none) ∧ W i m σ' H' := fun {s7 σ7 H7} I7 n7 => by
    obtain ⟨m', hm, w7⟩ := hN σ7 H7 n7
    refine ⟨m', hm, i + 1, σ7, H7, I7.unpinned, T.keep _ _ _ st5 fun b hb o e => (I7.pin (b, o) (List.mem_append_right _ (List.mem_append_right _ (ZEv hb e)))).1, fun b hb => ?_, w7⟩
    obtain ⟨o, e, d⟩ := T.obj _ _ st5 b hb
    exact (I7.pin (b, o) (List.mem_append_right _ (List.mem_append_right _ (ZEv hb e)))).2.1
   refine wpAny_mono (hg _ _ _ _ _ _ s5 σ3 H5 x u _ I5' r5 (step x H5 y5)) (fun _ s6 ⟨σ6, H6, I6, q6⟩ => ?_) fun _ _ z => False.elim z
   refine wpAny_mono (ht _ _ _ _ _ _ s6 σ6 H6 _ I6 q6) (fun b s7 ⟨H7, I7, q7⟩ => ?_) fun _ _ z => False.elim z
   cases b with
   | false =>
    rw [if_neg Bool.false_ne_true]
    rw [if_neg Bool.false_ne_true] at q7
    exact back I7 q7
   | true =>
    rw [if_pos rfl]
    rw [if_pos rfl] at q7
    refine wpAny_mono (he _ _ _ _ _ _ s7 σ6 H7 _ I7 q7) (fun y s8 ⟨v, H8, I8, r8, xs, hx8, hz8, n8⟩ => ?_) fun _ _ z => False.elim z
    refine wpAny_mono (ZEn (X := ZDC X (own ++ caps) scope cl HP.objs.size s₂ H2 fp) _ s8 σ6 H8 (.ref s₂.heap.objs.size) [v] (.ref s₂.heap.objs.size) [y] (fun _ H' => N σ6 H') I8 rfl (.cons r8 .nil) ⟨_, xs, v, rfl, rfl, hx8, hz8, n8⟩) (fun _ s9 ⟨_, H9, I9, _, n9⟩ => ?_) fun _ _ z => False.elim z
    exact back I9 n9
 exact codeAny_compStart_list (loop _ rfl) (T.self _ 0 _ _ _ tn4 (loop _ rfl))
end
theorem ZHo : bootBuiltins "int" = some (.type "int") := by decide +kernel
theorem ZRE : bootBuiltins "bool" = some (.type "bool") := by decide +kernel
theorem ZEo : bootBuiltins "tuple" = some (.type "tuple") := by decide +kernel
theorem ZRF : bootBuiltins "list" = some (.type "list") := by decide +kernel
theorem ZFG : bootBuiltins "len" = some (.builtin "len") := by decide +kernel
theorem ZS0 : bootBuiltins "abs" = some (.builtin "abs") := by decide +kernel
theorem ZNh : bootBuiltins "max" = some (.builtin "max") := by decide +kernel
theorem ZNi : bootBuiltins "min" = some (.builtin "min") := by decide +kernel
theorem ZGH : bootBuiltins "sorted" = some (.builtin "sorted") := by decide +kernel
theorem ZDn : bootBuiltins "isinstance" = some (.builtin "isinstance") := by decide +kernel
def ZEp : Expr → Bool
 | .Starred _ _ => true
 | _ => false
def ZDY (es : List Expr) : Bool := es.all fun e => !ZEp e
theorem ZET {e : Expr} {es : List Expr} {env : Env} (h : ZEp e = false) : starEach (e :: es) env = (false, eval e env) :: starEach es env := by
 cases e <;> first | rfl | cases h
theorem ZEg {e : Expr} {es : List Expr} {env : Env} (h : ZDY (e :: es) = true) : starEach (e :: es) env = (false, eval e env) :: starEach es env := by
 refine ZET ?_
 unfold ZDY at h
 rw [List.all_cons, Bool.and_eq_true] at h
 simpa using h.1
theorem ZEH {pos : Pos} {env : Env} : ∀ {es : List Expr}, ZDY es = true → (backTo pos (starEach es env)).any (·.1) = false
 | [], _ => rfl
 | e :: es, h => by
  rw [ZEg h]
  have h2 : ZDY es = true := by
   unfold ZDY at h ⊢
   rw [List.all_cons, Bool.and_eq_true] at h
   exact h.2
  exact ZEH h2
theorem ZEG {e : Expr} {es : List Expr} (h : ZDY (e :: es) = true) : ZDY es = true := by
 unfold ZDY at h ⊢
 rw [List.all_cons, Bool.and_eq_true] at h
 exact h.2
section
variable {X : Cx} {CX : CXT} {k : Nat} {f : Addr} {fd : FuncData} {ps : List Str} {sp : Sp} {dvs : List V} {ds : List Value} {E : XK} {x : Str} {p pos : Pos} {e : Expr} {es : List Expr} {te : TE} {t : TA} {id T : String} {r : List V → Hp → VK → Prop}
theorem ZUU (ha : PE X e te) (hr : PA X es t) (hs : ZEp e = false := by rfl) : PA X (e :: es) (ZKS te t) := ZQ6 ha hr (ZET hs)
theorem ZPO (F : ZCr X.prog X.w X.K X.mg X.base CX k f fd ps sp) (hr : Room k X.A) (hg : Gl X x) (hm : X.mg x = some (.ref f)) (hk : W.keepIn X.K (.ref f) = true) (hb : ZCu X.K fd ps ds) (hd : ZCz dvs ds) (hx : ZEN CX X E)
  (ha : PA X (e :: es) t) (hns : ZDY (e :: es) = true := by rfl) (hdb : (x == ("__debug__" : Str)) = false := by decide) : PE X (.Call (.Name x p) (e :: es) [] pos) (ZI2 sp dvs E t) :=
 ZQ7 F hr hg hm hk hb hd hx ha hdb (ZEg hns) (ZEH (ZEG hns))
theorem ZNj (hc : ZDh X (.builtin id) r) (hg : Gl X x) (hm : X.mg x = none) (hv : bootBuiltins x = some (.builtin id)) (ha : PA X (e :: es) t) (hns : ZDY (e :: es) = true := by rfl) (hn : x ≠ "__name__" := by decide) (hdb : (x == ("__debug__" : Str)) = false := by decide) :
 PE X (.Call (.Name x p) (e :: es) [] pos) (tCB r t) := ZPD hc hg hm hv ha hn hdb (ZEg hns) (ZEH (ZEG hns))
theorem ZMk (hc : ZDh X (.type T) r) (hg : Gl X x) (hm : X.mg x = none) (hv : bootBuiltins x = some (.type T)) (ha : PA X (e :: es) t) (hns : ZDY (e :: es) = true := by rfl) (hn : x ≠ "__name__" := by decide) (hdb : (x == ("__debug__" : Str)) = false := by decide) :
 PE X (.Call (.Name x p) (e :: es) [] pos) (tCB r t) := ZNa hc hg hm hv ha hn hdb (ZEg hns) (ZEH (ZEG hns))
end
def ZEh : Expr → Bool
 | .ListComp _ _ _ _ => true
 | .SetComp _ _ _ _ => true
 | .DictComp _ _ _ _ _ => true
 | _ => false
theorem ZFU {e : Expr} {tg : Option Expr} {n : Nat} {env : Env} (h : ZEh e = false) : swapsWith e tg n env = pure false := by
 cases e <;> first | rfl | cases h
section
variable {X : Cx} {e : Expr} {te : TE} {pos : Pos}
theorem ZPP (he : PE X e te) (hs : ZEh e = false := by rfl) : PS X (.Expr e pos) (ZKQ te) := ZQu he (ZFU hs)
theorem ZRG {i : Nat} {x : Str} {pos' : Pos} (hN : X.N.Nodup) (hi : X.N[i]? = some x) (hx : Loc X.env.scope x) (he : PE X e te) (hs : ZEh e = false := by rfl) (hf : X.fn x = true ∨ X.env.scope.names.lookup x = some .local := by first | exact .inl rfl | exact .inr rfl | assumption) :
 PS X (.Assign [.Name x pos'] e pos) (ZGy te (ZFd i)) := ZSh hN hi hx he (ZFU hs) hf
end
def ZMl (K : W.Frag) : List V → Hp → VK → Prop := fun xs H Q => ∃ p ys, xs = [.ref p] ∧ (SqL K H p ys ∨ SqT K H p ys) ∧ Q (.int ys.length) H
def ZQf : List V → Hp → VK → Prop := fun xs H Q => (∃ i, xs = [.int i] ∧ Q (.int i) H) ∨ ∃ k, xs = [.bl k] ∧ Q (.int (if k then 1 else 0)) H
def ZS1 : List V → Hp → VK → Prop := fun xs H Q => ∃ i, xs = [.int i] ∧ Q (.int (if i < 0 then -i else i)) H
def ZS2 : List V → Hp → VK → Prop := fun xs H Q => ∃ i j, xs = [.int i, .int j] ∧ Q (.int (if j > i then j else i)) H
def ZS3 : List V → Hp → VK → Prop := fun xs H Q => ∃ i j, xs = [.int i, .int j] ∧ Q (.int (if j < i then j else i)) H
def ZKi (K : W.Frag) : List V → Hp → VK → Prop := fun xs H Q => ∃ p ys, xs = [.ref p] ∧ ((SqL K H p ys ∧ ∀ l, H l = none → Q (.ref l) (upd H l (.tup ys))) ∨ (SqT K H p ys ∧ Q (.ref p) H))
def ZS4 : R2 := fun x y H Q => ∃ b, y = .bl b ∧ Q (.bl (decide (x = .bl b))) H
def ZS5 : R2 := fun x y H Q => y = .non ∧ Q (.bl (decide (x = .non))) H
def ZQg : R2 := fun x y H Q => y = .non ∧ Q (.bl (!decide (x = .non))) H
section
variable {X : Cx}
theorem ZS6 : ZDh X (.builtin "len") (ZMl X.K) := ZKg
theorem ZI8 : ZDh X (.type "int") ZQf := ZNU
theorem ZS7 : ZDh X (.builtin "abs") ZS1 := ZO5
theorem ZS8 (hc : X.calm = true) : ZDh X (.builtin "max") ZS2 := ZNS hc
theorem ZS9 (hc : X.calm = true) : ZDh X (.builtin "min") ZS3 := ZNT hc
theorem ZPQ : ZDh X (.type "tuple") (ZKi X.K) := ZKB
theorem ZNk : OpR X (compareOp .Is) ZS4 := ZSz
theorem ZKj : OpR X (compareOp .Is) ZS5 := ZSm
theorem ZMD : OpR X (compareOp .IsNot) ZQg := ZQ0
end
section
variable {K : W.Frag} {σ : St} {H : Hp} {Q : VK} {D : ZDp}
theorem ZTA {t u : TS} (h : t { D with nx := u D } σ H) : ZOn t u D σ H := h
theorem ZTB {te : TE} (h : te σ H D.rt) : ZOp te D σ H := h
theorem ZRH {te : TE} (h : te σ H fun _ H1 => D.nx σ H1) : ZKQ te D σ H := h
theorem ZRI (h : D.nx σ H) : ZMU D σ H := h
theorem ZTC {te : TE} {g : TG} (h : te σ H fun x H1 => g x σ H1 D.nx) : ZGy te g D σ H := h
theorem ZPR {i : Nat} {v : V} {R : St → Hp → Prop} (h : R (σ.set i (some v)) H) : ZFd i v σ H R := h
theorem ZRJ {R : St → Hp → Prop} (h : R σ H) : ZOs [] σ H R := ⟨rfl, h⟩
theorem ZPS {t : TG} {u : TGs} {v : V} {r : List V} {R : St → Hp → Prop} (h : t v σ H fun σ' H' => u r σ' H' R) : ZMV t u (v :: r) σ H R := ⟨v, r, rfl, h⟩
theorem ZRK {to ti : TE} {t : ZKY} {v : V} {R : St → Hp → Prop} (h : to σ H fun o H1 => ti σ H1 fun i H2 => t o i v H2 fun H3 => R σ H3) : ZOu to ti t v σ H R := h
theorem ZTD {c : TT} {t u : TS} (h : c σ H fun b H1 => if b = true then t D σ H1 else u D σ H1) : ZKX c t u D σ H := h
theorem ZRL {t : TE} {R : Bool → Hp → Prop} (h : t σ H fun x H' => ∃ k, x = .bl k ∧ R k H') : ZIw t σ H R := h
theorem ZUV {t : TE} {R : Bool → Hp → Prop} (h : t σ H fun x H' => ∃ k, x = .bl k ∧ R k H') : tB t σ H R := h
theorem ZG0 {b : Bool} {R : Bool → Prop} (h : R b) : ∃ k, V.bl b = .bl k ∧ R k := ⟨b, rfl, h⟩
theorem ZTE {t u : TT} {R : Bool → Hp → Prop} (h : t σ H fun c H1 => if c = true then u σ H1 R else R false H1) : ZOk t u σ H R := h
theorem ZUA {t u : TT} {R : Bool → Hp → Prop} (h : t σ H fun c H1 => if c = true then R true H1 else u σ H1 R) : tOr t u σ H R := h
theorem ZTF {t : TT} {R : Bool → Hp → Prop} (h : t σ H fun c H1 => R (!c) H1) : ZOl t σ H R := h
theorem ZRM {t u : TE} (h : t σ H fun x H1 => ∃ c, x = .bl c ∧ if c = true then u σ H1 Q else Q (.bl false) H1) : ZMS t u σ H Q := h
theorem ZRN {t : TE} (h : t σ H fun x H1 => ∃ c, x = .bl c ∧ Q (.bl (!c)) H1) : ZMT t σ H Q := h
theorem ZUB {t : TT} {ta tb : TE} (h : t σ H fun c H1 => if c = true then ta σ H1 Q else tb σ H1 Q) : tIf t ta tb σ H Q := h
theorem ZTG {i : Nat} {v : V} (e : σ[i]? = some (some v)) (h : Q v H) : ZMR i σ H Q := ⟨v, e, h⟩
theorem ZKk {i j : Int} (h1 : 0 ≤ j) (h2 : j ≤ 1000000) (h3 : i.natAbs < 2 ^ 64) : ZO1 i j := ⟨h1, h2, h3⟩
theorem ZUW {v : V} (h : Q v H) : tC v σ H Q := h
theorem ZUC {r : R2} {ta tb : TE} (h : ta σ H fun x H1 => tb σ H1 fun y H2 => r x y H2 Q) : tOp r ta tb σ H Q := h
theorem ZUD {r : V → Hp → VK → Prop} {ta : TE} (h : ta σ H fun x H1 => r x H1 Q) : tUn r ta σ H Q := h
theorem ZUE {g : Int → Int → V} {i j : Int} (h : Q (g i j) H) : rI0 g (.int i) (.int j) H Q := ⟨i, j, rfl, rfl, h⟩
theorem ZTH {C : Int → Int → Prop} {g : Int → Int → V} {i j : Int} (c : C i j) (h : Q (g i j) H) : rI C g (.int i) (.int j) H Q := ⟨i, j, rfl, rfl, c, h⟩
theorem ZUX {g : Int → V} {i : Int} (h : Q (g i) H) : rU g (.int i) H Q := ⟨i, rfl, h⟩
theorem ZTI {i j : Int} (h : Q (.bl (decide (V.int i = V.int j))) H) : rEq (.int i) (.int j) H Q := ⟨rfl, h⟩
theorem ZTJ {i j : Int} (h : Q (.bl (!decide (V.int i = V.int j))) H) : rNe (.int i) (.int j) H Q := ⟨rfl, h⟩
theorem ZUF {r : List V → Hp → VK → Prop} {t : TA} (h : t σ H fun vs H1 => r vs H1 Q) : tCB r t σ H Q := h
theorem ZRO {sp : Sp} {dvs : List V} {E : XK} {t : TA} (h : t σ H fun vs H1 => sp (vs ++ dvs) H1 Q E) : ZI2 sp dvs E t σ H Q := h
theorem ZRP {ta : TE} {tr : TA} {R : List V → Hp → Prop} (h : ta σ H fun x H1 => tr σ H1 fun xs H2 => R (x :: xs) H2) : ZKS ta tr σ H R := h
theorem ZTK {R : List V → Hp → Prop} (h : R [] H) : ZKd σ H R := h
def ZPT (n : Nat) (o : HO) (H : Hp) (Q : VK) : Prop := n ≤ sizeLine ∧ ∀ p, H p = none → Q (.ref p) (upd H p o)
theorem ZTL {t : TA} (h : t σ H fun xs H1 => ZPT xs.length (.tup xs) H1 Q) : ZO9 t σ H Q := h
theorem ZTM {t : TA} (h : t σ H fun xs H1 => ZPT xs.length (.lst xs) H1 Q) : ZPA t σ H Q := h
theorem ZC1 {n : Nat} {o : HO} (hz : n ≤ sizeLine) (h : ∀ p H2, H p = none → H2 p = some o → ZCq H H2 → Q (.ref p) H2) : ZPT n o H Q :=
 ⟨hz, fun p hp => h p _ hp ZCy (fun b u e => by rw [ZC3 (ZDH e hp)]; exact e)⟩
theorem ZPU {r r' : R2} {ta tb tc : TE} (h : ta σ H fun x H1 => tb σ H1 fun y H2 => r x y H2 fun z H3 => ∃ k, z = .bl k ∧ (if k = true then tc σ H3 fun w' H4 => r' y w' H4 Q else Q (.bl false) H3)) : ZHk r r' ta tb tc σ H Q := h
theorem ZEB {p : Addr} {xs : List V} {i : Int} {v : V} (h1 : SqL K H p xs) (h2 : atI xs i = some v) (h : Q v H) : ZPE K (.ref p) (.int i) H Q := ⟨p, xs, i, v, rfl, rfl, h1, h2, h⟩
theorem ZHp {p : Addr} {xs : List V} {i : Int} {v : V} (h1 : SqT K H p xs) (h2 : atI xs i = some v) (h : Q v H) : ZPF K (.ref p) (.int i) H Q := ⟨p, xs, i, v, rfl, rfl, h1, h2, h⟩
theorem ZJS {p : Addr} {xs : List V} {k : Int} {j : Nat} {v : V} {R : Hp → Prop} (h1 : H p = some (.lst xs)) (h2 : ixN xs.length k = some j) (h : R (upd H p (.lst (xs.set j v)))) : ZQe (.ref p) (.int k) v H R := ⟨p, xs, k, j, rfl, rfl, h1, h2, h⟩
def rFor (J : It) (g : TG) (tb : TS) (D : ZDp) (σ : St) (H : Hp) : Prop := ∃ W : Nat → Nat → St → Hp → Prop, (∃ m, W 0 m σ H) ∧ ∀ i m σ H, W i m σ H →
 (J.stop i H ∧ D.nx σ H) ∨ (J.go i H ∧ ∃ N : St → Hp → Prop, (∀ σ' H', N σ' H' → ∃ m', m' < m ∧ W (i + 1) m' σ' H') ∧ ∀ x H', J.yld i H x H' → g x σ H' fun σ2 H2 => tb { D with nx := N, ct := N, bk := D.nx } σ2 H2)
theorem ZTN {wi : TI} {g : TG} {tb : TS} (h : wi σ H fun J H1 => rFor J g tb D σ H1) : ZOx wi g tb D σ H := h
def ZQh (vs : List V) (H : Hp) (R : It → Hp → Prop) : Prop := ∃ j : Int, vs = [.int j] ∧ -(2 ^ 62) ≤ j ∧ j < 2 ^ 62 ∧ R (Itr 0 j.toNat) H
theorem ZRQ {ta : TA} {R : It → Hp → Prop} (h : ta σ H fun vs H1 => ZQh vs H1 R) : ZMb ta σ H R := h
theorem ZHq {j : Int} {R : It → Hp → Prop} (h1 : -(2 ^ 62) ≤ j) (h2 : j < 2 ^ 62) (h : R (Itr 0 j.toNat) H) : ZQh [.int j] H R := ⟨j, rfl, h1, h2, h⟩
def ZUG (vs : List V) (H : Hp) (R : It → Hp → Prop) : Prop := ∃ i j : Int, vs = [.int i, .int j] ∧ (-(2 ^ 62) ≤ i ∧ i < 2 ^ 62 ∧ -(2 ^ 62) ≤ j ∧ j < 2 ^ 62) ∧ R (Itr i (j - i).toNat) H
theorem ZRR {ta : TA} {R : It → Hp → Prop} (h : ta σ H fun vs H1 => ZUG vs H1 R) : ZMc ta σ H R := h
theorem ZRS {b : Bool} (h : Q (.int (if b then 1 else 0)) H) : ZQf [.bl b] H Q := .inr ⟨b, rfl, h⟩
theorem ZTO {i : Int} (h : Q (.int (if i < 0 then -i else i)) H) : ZS1 [.int i] H Q := ⟨i, rfl, h⟩
theorem ZTP {i j : Int} (h : Q (.int (if j > i then j else i)) H) : ZS2 [.int i, .int j] H Q := ⟨i, j, rfl, h⟩
theorem ZTQ {i j : Int} (h : Q (.int (if j < i then j else i)) H) : ZS3 [.int i, .int j] H Q := ⟨i, j, rfl, h⟩
theorem ZRT {p : Addr} {ys : List V} (h1 : SqL K H p ys) (h : Q (.int ys.length) H) : ZMl K [.ref p] H Q := ⟨p, ys, rfl, .inl h1, h⟩
theorem ZRU {p : Addr} {ys : List V} (h1 : SqT K H p ys) (h : Q (.int ys.length) H) : ZMl K [.ref p] H Q := ⟨p, ys, rfl, .inr h1, h⟩
theorem ZGg {x : V} {n : String} {t : Value} {b : Bool} (ty : ZFE K H x t) (e : W.kitOne K t (.type n) = some b) (h : Q (.bl b) H) : ZPK K [x, .ty n] H Q := ⟨x, n, t, b, rfl, ty, e, h⟩
theorem ZTR {x : V} {b : Bool} (h : Q (.bl (decide (x = .bl b))) H) : ZS4 x (.bl b) H Q := ⟨b, rfl, h⟩
theorem ZTS {x : V} (h : Q (.bl (decide (x = .non))) H) : ZS5 x .non H Q := ⟨rfl, h⟩
theorem ZRV {x : V} (h : Q (.bl (!decide (x = .non))) H) : ZQg x .non H Q := ⟨rfl, h⟩
theorem ZRW {n : Nat} {t : TGs} {p : Addr} {xs : List V} {R : St → Hp → Prop} (h1 : SqT K H p xs) (h2 : xs.length = n) (h : t xs σ H R) : ZMW K n t (.ref p) σ H R := ⟨p, xs, rfl, h1, h2, h⟩
theorem ZFA {p : Addr} {ys : List V} (h1 : SqL K H p ys) (h : ∀ l H2, H l = none → H2 l = some (.tup ys) → ZCq H H2 → Q (.ref l) H2) :
  ZKi K [.ref p] H Q :=
 ⟨p, ys, rfl, .inl ⟨h1, fun l hl => h l _ hl ZCy (fun b u e => by rw [ZC3 (ZDH e hl)]; exact e)⟩⟩
theorem ZDU {c A B : Prop} [Decidable c] (h1 : c → A) (h2 : ¬ c → B) : if decide c = true then A else B := by
 by_cases h : c
 ·rw [decide_eq_true h]; exact ZD0 (h1 h)
 ·rw [decide_eq_false h]; exact ZDu (h2 h)
theorem ZG1 {c A B : Prop} [Decidable c] (h1 : ¬ c → A) (h2 : c → B) : if (!decide c) = true then A else B := by
 by_cases h : c
 ·rw [decide_eq_true h]; exact ZDu (h2 h)
 ·rw [decide_eq_false h]; exact ZD0 (h1 h)
theorem ZEJ {i j : Int} : decide (V.int i = V.int j) = decide (i = j) := by
 by_cases h : i = j
 ·subst h; simp
 ·rw [decide_eq_false h, decide_eq_false (fun z => h (V.int.inj z))]
theorem ZJT {lo : Int} {n : Nat} {g : TG} {tb : TS} (Pv : Nat → St → Hp → Prop) (h0 : Pv 0 σ H)
 (hs : ∀ i σ H, i < n → Pv i σ H → g (.int (lo + i)) σ H fun σ2 H2 => tb { D with nx := Pv (i + 1), ct := Pv (i + 1), bk := D.nx } σ2 H2) (hd : ∀ σ H, Pv n σ H → D.nx σ H) :
 rFor (Itr lo n) g tb D σ H := ZNQ Pv h0 hs hd
theorem ZME {a : Addr} {xs : List V} {g : TG} {tb : TS} (Pv : Nat → St → Hp → Prop) (h0 : Pv 0 σ H) (hl : ∀ i σ H, i ≤ xs.length → Pv i σ H → SqL K H a xs)
 (hs : ∀ i x σ H, xs[i]? = some x → Pv i σ H → g x σ H fun σ2 H2 => tb { D with nx := Pv (i + 1), ct := Pv (i + 1), bk := D.nx } σ2 H2) (hd : ∀ σ H, Pv xs.length σ H → D.nx σ H) :
 rFor (Itl K a) g tb D σ H := ZOy Pv h0 hl hs hd
theorem ZIB {a : Addr} {xs : List V} {g : TG} {tb : TS} (Pv : Nat → St → Hp → Prop) (h0 : Pv 0 σ H) (hl : ∀ i σ H, i ≤ xs.length → Pv i σ H → SqT K H a xs)
 (hs : ∀ i x σ H, xs[i]? = some x → Pv i σ H → g x σ H fun σ2 H2 => tb { D with nx := Pv (i + 1), ct := Pv (i + 1), bk := D.nx } σ2 H2) (hd : ∀ σ H, Pv xs.length σ H → D.nx σ H) :
 rFor (Itt K a) g tb D σ H := ZQy Pv h0 hl hs hd
def ZQi (J : It) (g : TG) (tt : TT) (te : TE) (l : Addr) (σ0 : St) (H : Hp) (Q : VK) : Prop :=
 ∃ W : Nat → Nat → St → Hp → Prop, (∃ m, W 0 m σ0 (upd H l (.lst []))) ∧ ∀ i m σ' H', W i m σ' H' →
  (J.stop i H' ∧ Q (.ref l) H') ∨ (J.go i H' ∧ ∃ N : St → Hp → Prop, (∀ σ2 H2, N σ2 H2 → ∃ m', m' < m ∧ W (i + 1) m' σ2 H2) ∧
   ∀ x H'', J.yld i H' x H'' → g x σ' H'' fun σ2 H2 => tt σ2 H2 fun b H3 =>
    if b = true then te σ2 H3 fun v H4 => ∃ xs, H4 l = some (.lst xs) ∧ xs.length < sizeLine ∧ N σ2 (upd H4 l (.lst (xs ++ [v]))) else N σ2 H3)
theorem ZFV {J : It} {g : TG} {tt : TT} {te : TE} {σ0 : St} {l : Addr} (n : Nat) (Pv : Nat → St → Hp → Prop) (h0 : Pv 0 σ0 (upd H l (.lst [])))
  (stop : ∀ σ H, Pv n σ H → J.stop n H ∧ Q (.ref l) H)
  (go : ∀ i σ H, i < n → Pv i σ H → J.go i H ∧ ∀ x H', J.yld i H x H' → g x σ H' fun σ2 H2 => tt σ2 H2 fun b H3 =>
   if b = true then te σ2 H3 fun v H4 => ∃ xs, H4 l = some (.lst xs) ∧ xs.length < sizeLine ∧ Pv (i + 1) σ2 (upd H4 l (.lst (xs ++ [v]))) else Pv (i + 1) σ2 H3) :
  ZQi J g tt te l σ0 H Q := by
 refine ⟨fun i m σ H => m = n - i ∧ i ≤ n ∧ Pv i σ H, ⟨n, by simp, Nat.zero_le _, h0⟩, ?_⟩
 rintro i m σ H ⟨rfl, hi, p⟩
 by_cases hlt : i < n
 ·obtain ⟨hgo, h⟩ := go i σ H hlt p
  exact .inr ⟨hgo, Pv (i + 1), fun σ' H' p' => ⟨n - (i + 1), by omega, rfl, hlt, p'⟩, h⟩
 ·have e : i = n := by omega
  subst e
  exact .inl (stop σ H p)
theorem ZRX {own : Nat} {ks : List Nat} {wi : TI} {g : TG} {tt : TT} {te : TE} (h : wi σ H fun J H1 => ∀ l, H1 l = none → ZQi J g tt te l (ZE5 own ks σ) H1 Q) : ZIA own ks wi g tt te σ H Q := h
def ZTT (K : W.Frag) (x : V) (H : Hp) (R : It → Hp → Prop) : Prop := ∃ a, x = .ref a ∧ (∃ xs, SqT K H a xs) ∧ R (Itt K a) H
def ZTU (K : W.Frag) (x : V) (H : Hp) (R : It → Hp → Prop) : Prop := ∃ a, x = .ref a ∧ (∃ xs, SqL K H a xs) ∧ R (Itl K a) H
theorem ZRY {tl : TE} {R : It → Hp → Prop} (h : tl σ H fun x H1 => ZTT K x H1 R) : ZMa K tl σ H R := h
theorem ZPV {tl : TE} {R : It → Hp → Prop} (h : tl σ H fun x H1 => ZTU K x H1 R) : ZKR K tl σ H R := h
theorem ZTV {p : Addr} {xs : List V} {R : It → Hp → Prop} (h1 : SqT K H p xs) (h : R (Itt K p) H) : ZTT K (.ref p) H R := ⟨p, rfl, ⟨xs, h1⟩, h⟩
theorem ZTW {p : Addr} {xs : List V} {R : It → Hp → Prop} (h1 : SqL K H p xs) (h : R (Itl K p) H) : ZTU K (.ref p) H R := ⟨p, rfl, ⟨xs, h1⟩, h⟩
theorem ZRZ {R : Bool → Hp → Prop} (h : R true H) : ZMj σ H R := h
end
theorem ZCq.seqT {K : W.Frag} {H H' : Hp} {a : Addr} {xs : List V} (e : ZCq H H') (h : SqT K H a xs) : SqT K H' a xs := by
 rcases h with (h | ⟨o, h⟩) | h
 ·exact .inl (.inl (e _ _ h))
 ·exact .inl (.inr ⟨o, e _ _ h⟩)
 ·exact .inr h
def Kp (p : Addr) (H H' : Hp) : Prop := ∀ q o, H q = some o → q ≠ p → H' q = some o
theorem Kp.trans {p : Addr} {H H1 H2 : Hp} (a : Kp p H H1) (b : Kp p H1 H2) : Kp p H H2 := fun q o h n => b q o (a q o h n) n
theorem Kp.upd {p : Addr} {H : Hp} {o : HO} : Kp p H (upd H p o) := fun q u h n => by rw [ZC3 n]; exact h
theorem Kp.same {p : Addr} {H H' : Hp} (a : ZCq H H') : Kp p H H' := fun q o h _ => a q o h
theorem ZCq.new {H : Hp} {l : Addr} {o : HO} (h : H l = none) : ZCq H (upd H l o) := fun b u e => by rw [ZC3 (ZDH e h)]; exact e
def Pot (H : Hp) (p : Addr) : Prop := ∃ a b : Int, H p = some (.lst [.int a, .int b]) ∧ 0 ≤ a ∧ 0 ≤ b ∧ b < 2147483648
theorem Pot.same {H H' : Hp} {p : Addr} (h : Pot H p) (s : ZCq H H') : Pot H' p := by
 obtain ⟨x, y, h, r⟩ := h
 exact ⟨x, y, s _ _ h, r⟩
theorem Pot.neN {H : Hp} {p l : Addr} (h : Pot H p) (hl : H l = none) : l ≠ p := by
 obtain ⟨x, y, h, r⟩ := h
 exact (ZDH h hl).symm
theorem Kp.then {H H1 H2 : Hp} {p : Addr} (h : Kp p H H1) (s : ZCq H1 H2) : Kp p H H2 := h.trans (Kp.same s)
structure QE (X : Cx) (e : Expr) (t : TE) : Prop where
 h : PE X e t
structure QT (X : Cx) (e : Expr) (t : TT) : Prop where
 h : PT X e t
structure QW (X : Cx) (e : Expr) (t : TT) : Prop where
 h : PW X e t
structure QA (X : Cx) (es : List Expr) (t : TA) : Prop where
 h : PA X es t
structure QS (X : Cx) (st : Stmt) (t : TS) : Prop where
 h : PS X st t
structure QB (X : Cx) (st : List Stmt) (t : TS) : Prop where
 h : PSs X st t
structure QG (X : Cx) (e : Expr) (t : TG) : Prop where
 h : PG X e t
structure QGs (X : Cx) (es : List Expr) (t : TGs) : Prop where
 h : PGs X es t
structure QI (X : Cx) (tg e : Expr) (t : TI) : Prop where
 h : PI X tg e t
structure QF (X : Cx) (es : List Expr) (t : TT) : Prop where
 h : ZJR X es t
def ZKU : Expr → Bool
 | .Slice _ _ _ _ => true
 | _ => false
theorem ZRa {b : Expr} (h : ZKU b = false) : ZL7 b := by
 intro o i
 cases b <;> first | rfl | cases h
def ZKl : Expr → Bool
 | .UnaryOp _ _ _ => false
 | .BoolOp _ _ _ => false
 | .IfExp _ _ _ _ => false
 | .Compare _ _ _ _ => false
 | _ => true
theorem ZTX {e : Expr} {env : Env} (h : ZKl e = true) : ∀ whole, isTrue e env whole = (do let v ← whole; standAt e.pos; holding [v] (truthy v)) := by
 intro whole
 cases e <;> first | rfl | cases h
section
variable {X : Cx} {a b c e o : Expr} {es ZEA : List Expr} {ta tb tc te to ti : TE} {tA tB' : TT} {t tr : TA} {pos p p2 pos' : Pos} {x : Str}
theorem qv (i : Nat) {x : Str} {pos : Pos} (hN : X.N[i]? = some x := by rfl) (hv : Vis X.env.scope x := by first | exact Or.inl rfl | exact Or.inr (Or.inl rfl) | exact Or.inr (Or.inr rfl)) (hd : (x == ("__debug__" : Str)) = false := by decide)
 (hcd : (x == ("__classdict__" : Str)) = false := by decide) : QE X (.Name x pos) (ZMR i) := ⟨ZNL hN hv hd hcd⟩
theorem ZCl {i j pos} : QE X (.Constant (.int i) j pos) (tC (.int i)) := ⟨ZST⟩
theorem ZFe {b j pos} : QE X (.Constant (.bool b) j pos) (tC (.bl b)) := ⟨ZT1⟩
theorem ZEb {j pos} : QE X (.Constant .none j pos) (tC .non) := ⟨ZSU⟩
theorem ZGh {x j pos} : QE X (.Constant (.str x) j pos) (tC (.str x)) := ⟨ZSV⟩
theorem ZEE {v : V} {u : Value} (hg : Gl X x) (hm : X.mg x = some u) (r : ZCx v u) (hd : (x == ("__debug__" : Str)) = false := by decide) : QE X (.Name x pos) (tC v) := ⟨ZQp hg hm r hd⟩
theorem ZMF {v : V} {u : Value} (hg : Gl X x) (hm : X.mg x = none) (hv : bootBuiltins x = some u) (r : ZCx v u) (hn : x ≠ "__name__" := by decide) (hd : (x == ("__debug__" : Str)) = false := by decide) : QE X (.Name x pos) (tC v) := ⟨ZQq hg hm hv r hn hd⟩
theorem ZCs {op : Operator} {r : R2} (ho : OpR X (binaryOp op) r) (ha : QE X a ta) (hb : QE X b tb) : QE X (.BinOp a op b pos) (tOp r ta tb) := ⟨ZT4 ho ha.h hb.h⟩
theorem ZEx {op : UnaryOp} {r : V → Hp → VK → Prop} (ho : UnR X (unaryOp op) r) (ha : QE X a ta) : QE X (.UnaryOp op a pos) (tUn r ta) := ⟨ZT5 ho ha.h⟩
theorem ZI9 (ha : QE X a ta) : QE X (.UnaryOp .Not a pos) (ZMT ta) := ⟨ZSc ha.h⟩
theorem ZGi {op} (h : QE X a ta) : QE X (.BoolOp op [a] pos) ta := ⟨ZSa h.h⟩
theorem ZF3 (ha : QE X a ta) (hb : QE X (.BoolOp .And (b :: ZEA) pos) tb) : QE X (.BoolOp .And (a :: b :: ZEA) pos) (ZMS ta tb) := ⟨ZSb ha.h hb.h⟩
theorem ZIc (hc : QT X c tA) (ha : QE X a ta) (hb : QE X b tb) : QE X (.IfExp c a b pos) (tIf tA ta tb) := ⟨ZOm hc.h ha.h hb.h⟩
theorem ZFW {op : CmpOp} {r : R2} (ho : OpR X (compareOp op) r) (ha : QE X a ta) (hb : QE X b tb) (hm : behindInMarks op b = false) : QE X (.Compare a [op] [b] pos) (tOp r ta tb) := ⟨ZQ1 ho ha.h hb.h hm⟩
theorem ZC2 {op : CmpOp} {r : R2} (ho : OpR X (compareOp op) r) (ha : QE X a ta) (hb : QE X b tb) (hm : behindInMarks op b = false) : QT X (.Compare a [op] [b] pos) (ZIw (tOp r ta tb)) := ⟨ZQ2 ho ha.h hb.h hm⟩
theorem ZPW {op op' : CmpOp} {r r' : R2} (ho : OpR X (compareOp op) r) (ho' : OpR X (compareOp op') r') (ha : QE X a ta) (hb : QE X b tb) (hc : QE X c tc)
 (hm : lastMarks [op, op'] [b, c] = false := by with_unfolding_all rfl) : QE X (.Compare a [op, op'] [b, c] pos) (ZHk r r' ta tb tc) := ⟨ZO3 ho ho' ha.h hb.h hc.h hm⟩
theorem ZG2 {op op' : CmpOp} {r r' : R2} (ho : OpR X (compareOp op) r) (ho' : OpR X (compareOp op') r') (ha : QE X a ta) (hb : QE X b tb) (hc : QE X c tc)
 (hm : lastMarks [op, op'] [b, c] = false := by with_unfolding_all rfl) : QT X (.Compare a [op, op'] [b, c] pos) (ZIw (ZHk r r' ta tb tc)) := ⟨ZO4 ho ho' ha.h hb.h hc.h hm⟩
theorem ZEO (h : QE X e te) (he : ZKl e = true := by rfl) : QT X e (tB te) := ⟨ZSW h.h (ZTX he)⟩
theorem QW.pt (h : QW X e tA) : QT X e tA := ⟨h.h.pt⟩
theorem ZRb (ha : QT X a tA) : QW X (.BoolOp .And [a] pos) tA := ⟨ZQr ha.h⟩
theorem ZEc (ha : QT X a tA) : QW X (.BoolOp .Or [a] pos) tA := ⟨ZSX ha.h⟩
theorem ZTY (ha : QT X a tA) (hb : QW X (.BoolOp .And (b :: ZEA) pos) tB') : QW X (.BoolOp .And (a :: b :: ZEA) pos) (ZOk tA tB') := ⟨ZSY ha.h hb.h⟩
theorem ZE6 (ha : QT X a tA) (hb : QW X (.BoolOp .Or (b :: ZEA) pos) tB') : QW X (.BoolOp .Or (a :: b :: ZEA) pos) (tOr tA tB') := ⟨ZT2 ha.h hb.h⟩
theorem ZD6 (ha : QT X a tA) : QT X (.UnaryOp .Not a pos) (ZOl tA) := ⟨ZSZ ha.h⟩
theorem ZCk : QA X [] ZKd := ⟨ZSr⟩
theorem ZCj (ha : QE X e te) (hr : QA X es t) (hs : ZEp e = false := by rfl) : QA X (e :: es) (ZKS te t) := ⟨ZUU ha.h hr.h hs⟩
theorem ZDK {x1} (h : QA X es t) : QE X (.Tuple es x1 pos) (ZO9 t) := ⟨ZSs h.h⟩
theorem ZD7 (h : QA X es t) : QE X (.List es pos) (ZPA t) := ⟨ZSt h.h⟩
theorem ZDB {r : R2} (hr : IxR X r) (ha : QE X a ta) (hb : QE X b tb) (hs : ZKU b = false := by rfl) : QE X (.Subscript a b pos) (tOp r ta tb) := ⟨ZT8 hr ha.h hb.h (ZRa hs)⟩
theorem ZE7 {CX : CXT} {k : Nat} {f : Addr} {fd : FuncData} {ps : List Str} {sp : Sp} {dvs : List V} {ds : List Value} {E : XK} (F : ZCr X.prog X.w X.K X.mg X.base CX k f fd ps sp) (hr : Room k X.A) (hg : Gl X x) (hm : X.mg x = some (.ref f)) (hk : W.keepIn X.K (.ref f) = true) (hb : ZCu X.K fd ps ds) (hd : ZCz dvs ds) (hx : ZEN CX X E)
 (ha : QA X (e :: es) t) (hns : ZDY (e :: es) = true := by rfl) (hdb : (x == ("__debug__" : Str)) = false := by decide) : QE X (.Call (.Name x p) (e :: es) [] pos) (ZI2 sp dvs E t) := ⟨ZPO F hr hg hm hk hb hd hx ha.h hns hdb⟩
theorem ZC8 {id : String} {r : List V → Hp → VK → Prop} (hc : ZDh X (.builtin id) r) (hg : Gl X x) (hm : X.mg x = none) (hv : bootBuiltins x = some (.builtin id)) (ha : QA X (e :: es) t) (hns : ZDY (e :: es) = true := by rfl) (hn : x ≠ "__name__" := by decide) (hdb : (x == ("__debug__" : Str)) = false := by decide) :
 QE X (.Call (.Name x p) (e :: es) [] pos) (tCB r t) := ⟨ZNj hc hg hm hv ha.h hns hn hdb⟩
theorem ZDi {T : String} {r : List V → Hp → VK → Prop} (hc : ZDh X (.type T) r) (hg : Gl X x) (hm : X.mg x = none) (hv : bootBuiltins x = some (.type T)) (ha : QA X (e :: es) t) (hns : ZDY (e :: es) = true := by rfl) (hn : x ≠ "__name__" := by decide) (hdb : (x == ("__debug__" : Str)) = false := by decide) :
 QE X (.Call (.Name x p) (e :: es) [] pos) (tCB r t) := ⟨ZMk hc hg hm hv ha.h hns hn hdb⟩
theorem ZG3 : QF X [] ZMj := ⟨ZPM⟩
theorem ZId (hc : QT X c tA) : QF X [c] tA := ⟨ZPN hc.h⟩
theorem ZRc {tg : Expr} (hl : QE X e te) : QI X tg e (ZKR X.K te) := ⟨ZQx hl.h⟩
theorem ZTZ {tg : Expr} (hl : QE X e te) : QI X tg e (ZMa X.K te) := ⟨ZSj hl.h⟩
theorem ZFk {tg : Expr} (hg : Gl X "range") (hm : X.mg "range" = none) (ha : QA X [a] t) (hs : ZEp a = false := by rfl) : QI X tg (.Call (.Name "range" p) [a] [] pos) (ZMb t) := ⟨ZNN hg hm ha.h (ZET hs)⟩
theorem ZNl {tg : Expr} (hg : Gl X "range") (hm : X.mg "range" = none) (ha : QA X [a, b] t) (hs : ZEp a = false := by rfl) (hs2 : ZEp b = false := by rfl) : QI X tg (.Call (.Name "range" p) [a, b] [] pos) (ZMc t) := ⟨ZNO hg hm ha.h (by rw [ZET hs, ZET hs2]; rfl) (ZET hs2)⟩
theorem ZEy {i : Nat} (hN : X.N.Nodup) (hi : X.N[i]? = some x) (hx : Loc X.env.scope x) (hf : X.fn x = true ∨ X.env.scope.names.lookup x = some .local := by first | exact .inl rfl | exact .inr rfl | assumption) : QG X (.Name x pos) (ZFd i) := ⟨ZQv hN hi hx hf⟩
theorem ZEi : QGs X [] ZOs := ⟨ZQw⟩
theorem ZNm {e : Expr} {es : List Expr} {env : Env} (h : ZEp e = false) : (assignEach (e :: es) env).map (·.2) = assign e env :: (assignEach es env).map (·.2) := by
 cases e <;> first | rfl | cases h
theorem ZDL {g : TG} {u : TGs} (h1 : QG X e g) (h2 : QGs X es u) (hs : ZEp e = false := by rfl) : QGs X (e :: es) (ZMV g u) := ⟨ZOt h1.h h2.h (ZNm hs)⟩
theorem ZTa {k : Nat} {u : TGs} {n : Nat} (hc : X.calm = true) (h : QGs X es u) (hn : (assignEach es X.env).length = n := by rfl) (hst : (assignEach es X.env).findIdx? (·.1) = none := by rfl) : QG X (.Tuple es k pos) (ZMW X.K n u) := ⟨ZSe hc h.h hn hst⟩
theorem ZKm {s : ZKY} (ho : QE X o to) (hi : QE X e ti) (hs : ZOr X s)
 (ha : ∀ v, assign (.Subscript o e pos) X.env v = (do
  let ov ← holding [v] (eval o X.env)
  let iv ← holding [v, ov] (eval e X.env)
  standAt pos
  holding [v, ov, iv] (setItem ov iv v)
  release [v, ov, iv] []) := by intro _; rfl) : QG X (.Subscript o e pos) (ZOu to ti s) := ⟨ZSf ho.h hi.h hs ha⟩
theorem ZGj {N : List Str} {sc : Scope} {own caps : List Str} {ks : List Nat} {elt tg iter : Expr} {ifs : List Expr} {scope : Scope} {wi : TI} {g : TG} {tt : TT}
  (hN : X.N = N) (hsc : X.env.scope = sc) (hc : X.calm = true) (S : ZHn N sc own caps ks scope) (hi : QI X tg iter wi)
  (hg : ∀ cl C s₂ H₂ fp, QG (ZDC X (own ++ caps) scope cl C s₂ H₂ fp) tg g)
  (ht : ∀ cl C s₂ H₂ fp, QF (ZDC X (own ++ caps) scope cl C s₂ H₂ fp) ifs tt)
  (he : ∀ cl C s₂ H₂ fp, QE (ZDC X (own ++ caps) scope cl C s₂ H₂ fp) elt te)
  (hs : ∀ x, foldedSetIterable iter X.env x = pure x := by intro _; rfl) :
  QE X (.ListComp elt [⟨tg, iter, ifs, 0⟩] scope pos) (ZIA own.length ks wi g tt te) :=
 ⟨ZRD hN hsc hc S hi.h (fun cl C s₂ H₂ fp => (hg cl C s₂ H₂ fp).h) (fun cl C s₂ H₂ fp => (ht cl C s₂ H₂ fp).h) (fun cl C s₂ H₂ fp => (he cl C s₂ H₂ fp).h) hs⟩
theorem ZJA {T : String} {name : Str} {id : String} {r : V → List V → Hp → VK → Prop} {apos cpos : Pos} (pa : PlainAttrs T) (slot : Slot T name id) (hty : typeOf (.builtin id) = pure (.type "method_descriptor")) (hm : MtR X id r) (ho : QE X o to) (ha : QA X (e :: es) t)
  (hst : ZDY (e :: es) = true := by rfl) (hbase : attributeBase o name X.env (eval o X.env) = eval o X.env := by rfl)
  (hfew : ((backTo cpos (starEach (e :: es) X.env)).all (fun x => !x.1) && (backToKw cpos (keywordEach [] X.env)).all (fun x => x.1.isSome)
   && decide ((e :: es).length + ([] : List Keyword).length + (if ([] : List Keyword).isEmpty then 0 else 1) < 30)) = true := by rfl)
  (hline : (apos.endLine == cpos.line) = true := by rfl) : QE X (.Call (.Attribute o name apos) (e :: es) [] cpos) (tBM X.K T r to t) :=
 ⟨ZT9 pa slot hty hm ho.h ha.h hbase hfew hline (ZEg hst) (ZEH (ZEG hst))⟩
end
section
variable {X : Cx} {st : Stmt} {ZEA sa sb : List Stmt} {t u : TS} {e c : Expr} {te : TE} {tA : TT} {pos pos' : Pos} {x : Str}
theorem ZC6 : QB X [] ZMU := ⟨ZQs⟩
theorem ZCm (h1 : QS X st t) (h2 : QB X ZEA u) : QB X (st :: ZEA) (ZOn t u) := ⟨ZOo h1.h h2.h⟩
theorem ZCn (h1 : QS X st t) : QB X [st] t := ⟨ZQt h1.h⟩
theorem ZC5 (he : QE X e te) (hs : ZEh e = false := by rfl) : QS X (.Expr e pos) (ZKQ te) := ⟨ZPP he.h hs⟩
theorem ZCw (he : QE X e te) : QS X (.Return (some e) pos) (ZOp te) := ⟨ZSd he.h⟩
theorem ZDS (hc : QT X c tA) (ha : QB X sa t) (hb : QB X sb u) : QS X (.If c sa sb pos) (ZKX tA t u) := ⟨ZT3 hc.h ha.h hb.h⟩
theorem ZDF : QS X st ZNM := ⟨ZOq⟩
theorem ZRd {i : Nat} (hN : X.N.Nodup) (hi : X.N[i]? = some x) (hx : Loc X.env.scope x) (he : QE X e te) (hs : ZEh e = false := by rfl) (hf : X.fn x = true ∨ X.env.scope.names.lookup x = some .local := by first | exact .inl rfl | exact .inr rfl | assumption) :
 QS X (.Assign [.Name x pos'] e pos) (ZGy te (ZFd i)) := ⟨ZRG hN hi hx he.h hs hf⟩
theorem ZFH {tg : Expr} {g : TG} (he : QE X e te) (hg : QG X tg g) (hs : ZEh e = false := by rfl) (hw : swappedStores [tg] e X.env = pure none := by rfl)
 (h1 : (assignEach [tg] X.env).map (·.2) = [assign tg X.env] := by rfl) : QS X (.Assign [tg] e pos) (ZGy te g) := ⟨ZSg he.h hg.h (ZFU hs) hw h1⟩
theorem ZFl {tg iter : Expr} {wi : TI} {g : TG} (hp : PassesOwn (model X.prog X.w) X.A X.env X.xe) (hc : X.calm = true) (hi : QI X tg iter wi) (hg : QG X tg g) (hb : QB X sa t)
 (hs : ∀ x, foldedSetIterable iter X.env x = pure x := by intro _; rfl) : QS X (.For tg iter sa [] pos) (ZOx wi g t) := ⟨ZSk hp hc hi.h hg.h hb.h hs⟩
theorem ZKn (hp : PassesOwn (model X.prog X.w) X.A X.env X.xe) (hc : QT X c tA) (hb : QB X sa t) : QS X (.While c sa [] pos) (ZKZ tA t) := ⟨ZOw hp hc.h hb.h⟩
end
section
variable {X : Cx} {e : Expr} {es : List Expr} {te : TE} {pos : Pos} (K : W.Frag) (h : X.K = K)
include h
theorem ZFI : ZDh X (.builtin "len") (ZMl K) := h ▸ ZS6
theorem ZEq : ZDh X (.type "tuple") (ZKi K) := h ▸ ZPQ
theorem ZNn : ZDh X (.builtin "isinstance") (ZPK K) := h ▸ ZPL
theorem ZDc : IxR X (ZPE K) := h ▸ ZRB
theorem ZDf : IxR X (ZPF K) := h ▸ ZSu
theorem ZGk {tg : Expr} (hl : QE X e te) : QI X tg e (ZKR K te) := h ▸ ZRc hl
theorem ZKo {tg : Expr} (hl : QE X e te) : QI X tg e (ZMa K te) := h ▸ ZTZ hl
theorem ZE2 {k : Nat} {u : TGs} {n : Nat} (hc : X.calm = true) (hg : QGs X es u) (hn : (assignEach es X.env).length = n := by rfl) (hst : (assignEach es X.env).findIdx? (·.1) = none := by rfl) : QG X (.Tuple es k pos) (ZMW K n u) := h ▸ ZTa hc hg hn hst
end
mutual
inductive Dat (K : W.Frag) (H : Hp) : V → PyData → Prop
 | non : Dat K H .non .none
 | bl (b : Bool) : Dat K H (.bl b) (.bool b)
 | int (i : Int) : Dat K H (.int i) (.int i)
 | str (x : Str) : Dat K H (.str x) (.str x)
 | tup {a : Addr} {xs : List V} {ds : List PyData} (h : SqT K H a xs) (r : ZEm K H xs ds) : Dat K H (.ref a) (.tuple ds)
 | lst {a : Addr} {xs : List V} {ds : List PyData} (h : SqL K H a xs) (r : ZEm K H xs ds) : Dat K H (.ref a) (.list ds)
inductive ZEm (K : W.Frag) (H : Hp) : List V → List PyData → Prop
 | nil : ZEm K H [] []
 | cons {x : V} {d : PyData} {xs : List V} {ds : List PyData} (h : Dat K H x d) (r : ZEm K H xs ds) : ZEm K H (x :: xs) (d :: ds)
end
section
variable {X : Cx} {pins : List (Addr × Obj)} {σ : St} {H : Hp} {s : Shared}
mutual
theorem Dat.reads (I : Inv X pins σ H s) : ∀ {x : V} {d : PyData} {u : Value}, Dat X.K H x d → ZCx x u → ∃ as, Reads s.heap u d as
 | _, _, u, .non, r => by cases (show u = Value.none from r); exact ⟨_, .none⟩
 | _, _, u, .bl b, r => by cases (show u = Value.bool b from r); exact ⟨_, .bool b⟩
 | _, _, u, .int i, r => by obtain ⟨t, rfl⟩ := (show ∃ t, u = Value.int i t from r); exact ⟨_, .int i t⟩
 | _, _, u, .str x, r => by obtain ⟨t, rfl⟩ := (show ∃ t, u = Value.str x t from r); exact ⟨_, .str x t⟩
 | _, _, u, @Dat.tup _ _ a xs ds h rs, r => by
  cases (show u = Value.ref a from r)
  obtain ⟨its, rv, ⟨o, ho, hc, n, hd⟩, _⟩ := I.tuple h
  obtain ⟨as, ra⟩ := ZEm.reads I rs rv
  exact ⟨_, .tuple ho hc hd (by simpa using ra)⟩
 | _, _, u, @Dat.lst _ _ a xs ds h rs, r => by
  cases (show u = Value.ref a from r)
  obtain ⟨its, rv, ⟨o, n, ho, hc, _, hd⟩, _⟩ := I.list h
  obtain ⟨as, ra⟩ := ZEm.reads I rs rv
  exact ⟨_, .list ho hc hd (by simpa using ra)⟩
theorem ZEm.reads (I : Inv X pins σ H s) : ∀ {xs : List V} {ds : List PyData} {us : List Value}, ZEm X.K H xs ds → ZCz xs us → ∃ as, ReadsAll s.heap us ds as
 | _, _, _, .nil, .nil => ⟨_, .nil⟩
 | _, _, _, .cons h r, .cons r1 r2 => by
  obtain ⟨as, ra⟩ := Dat.reads I h r1
  obtain ⟨bs, rb⟩ := ZEm.reads I r r2
  exact ⟨_, .cons ra rb⟩
end
end
section
variable {X : Cx}
def ZMm (K : W.Frag) : R2 := fun x y H Q => ∃ d e, Dat K H x d ∧ Dat K H y e ∧ d.canLay0 = true ∧ e.canLay0 = true ∧ d.depth ≤ 60 ∧ Q (.bl (PyData.eqv d e)) H
def ZJU (K : W.Frag) : R2 := fun x y H Q => ∃ d e, Dat K H x d ∧ Dat K H y e ∧ d.canLay0 = true ∧ e.canLay0 = true ∧ d.depth ≤ 60 ∧ Q (.bl (!PyData.eqv d e)) H
theorem ZTb (K : W.Frag) (hK : X.K = K) (hu : X.A.units + 64 < cLine) : OpR X (compareOp .Eq) (ZMm K) := by
 subst hK
 intro pins s σ H x y v u Q I rx ry h
 obtain ⟨d, e, h1, h2, c1, c2, hd, q⟩ := h
 obtain ⟨as, ra⟩ := h1.reads I rx
 obtain ⟨bs, rb⟩ := h2.reads I ry
 exact SeqAt.compareEq_reads ra rb c1 c2 (by have := Nat.min_le_left d.depth e.depth; omega) ⟨.bl _, H, I, rfl, q⟩
theorem ZGl (K : W.Frag) (hK : X.K = K) (hu : X.A.units + 64 < cLine) : OpR X (compareOp .NotEq) (ZJU K) := by
 subst hK
 intro pins s σ H x y v u Q I rx ry h
 obtain ⟨d, e, h1, h2, c1, c2, hd, q⟩ := h
 obtain ⟨as, ra⟩ := h1.reads I rx
 obtain ⟨bs, rb⟩ := h2.reads I ry
 exact SeqAt.compareNe_reads ra rb c1 c2 (by have := Nat.min_le_left d.depth e.depth; omega) ⟨.bl _, H, I, rfl, q⟩
theorem ZTc {K : W.Frag} {H : Hp} {Q : VK} {x y : V} {d e : PyData} (h1 : Dat K H x d) (h2 : Dat K H y e) (c1 : d.canLay0 = true) (c2 : e.canLay0 = true) (hd : d.depth ≤ 60) (h : Q (.bl (PyData.eqv d e)) H) : ZMm K x y H Q := ⟨d, e, h1, h2, c1, c2, hd, h⟩
theorem ZKp {K : W.Frag} {H : Hp} {Q : VK} {x y : V} {d e : PyData} (h1 : Dat K H x d) (h2 : Dat K H y e) (c1 : d.canLay0 = true) (c2 : e.canLay0 = true) (hd : d.depth ≤ 60) (h : Q (.bl (!PyData.eqv d e)) H) : ZJU K x y H Q := ⟨d, e, h1, h2, c1, c2, hd, h⟩
theorem ZUH {K : W.Frag} {T : String} {r : V → List V → Hp → VK → Prop} {to : TE} {t : TA} {σ : St} {H : Hp} {Q : VK} (h : to σ H fun x H1 => tyV K T x H1 ∧ t σ H1 fun xs H2 => r x xs H2 Q) : tBM K T r to t σ H Q := h
theorem tyL {K : W.Frag} {H : Hp} {p : Addr} {xs : List V} (h : H p = some (.lst xs)) : tyV K "list" (.ref p) H := .inl ⟨rfl, xs, SqL.of h⟩
theorem ZFm {H : Hp} {Q : VK} {p : Addr} {xs : List V} {y : V} (h1 : H p = some (.lst xs)) (hz : xs.length < sizeLine) (h : ∀ H2, H2 p = some (.lst (xs ++ [y])) → Kp p H H2 → Q .non H2) : ZL8 (.ref p) [y] H Q :=
 ⟨p, xs, y, rfl, rfl, h1, hz, h _ ZCy Kp.upd⟩
end
def ZDj (p : Int × Int) : PyData := .tuple [.int p.1, .int p.2]
def ZCt (H : Hp) (vs : List V) (l : PL) : Prop := Paired (fun v (p : Int × Int) => ∃ a, v = V.ref a ∧ H a = some (.tup [.int p.1, .int p.2])) vs l
theorem ZCt.same {H H' : Hp} {vs : List V} {l : PL} (h : ZCt H vs l) (s : ZCq H H') : ZCt H' vs l := Paired.mapP h fun _ _ ⟨a, e, z⟩ => ⟨a, e, s _ _ z⟩
theorem ZCt.dats {K : W.Frag} {H : Hp} : ∀ {vs : List V} {l : PL}, ZCt H vs l → ZEm K H vs (l.map ZDj)
 | _, _, .nil => .nil
 | _, _, .cons ⟨a, e, z⟩ t => by
  subst e
  exact .cons (.tup (SqT.of z) (.cons (.int _) (.cons (.int _) .nil))) (ZCt.dats t)
theorem ZFB : ∀ l : PL, PyData.canLayAll0 (l.map ZDj) = true
 | [] => rfl
 | p :: l => by
  show (PyData.canLay0 (ZDj p) && PyData.canLayAll0 (l.map ZDj)) = true
  rw [ZFB l]
  rfl
section
variable {κ : Type} [DecidableEq κ]
def ZDq (kvs : List (κ × V)) (k : κ) : Option V := (kvs.find? fun kv => decide (kv.1 = k)).map (·.2)
def ZEP (kvs : List (κ × V)) (k : κ) (v : V) : List (κ × V) :=
 if (kvs.any fun kv => decide (kv.1 = k)) = true then kvs.map (fun kv => if kv.1 = k then (kv.1, v) else kv) else kvs ++ [(k, v)]
def ZGI (kvs : List (κ × V)) (k : κ) : List (κ × V) := kvs.filter fun kv => decide (kv.1 ≠ k)
theorem ZD1 {p : κ × V} {r : List (κ × V)} {k : κ} (e : p.1 = k) : ZDq (p :: r) k = some p.2 := by simp [ZDq, List.find?_cons, e]
theorem ZD2 {p : κ × V} {r : List (κ × V)} {k : κ} (e : ¬ p.1 = k) : ZDq (p :: r) k = ZDq r k := by simp [ZDq, List.find?_cons, e]
theorem ZG4 (k : κ) : ∀ kvs : List (κ × V), (kvs.any fun kv => decide (kv.1 = k)) = (ZDq kvs k).isSome
 | [] => rfl
 | p :: r => by
  rw [List.any_cons]
  by_cases e : p.1 = k
  ·simp only [ZD1 e, decide_eq_true e, Bool.true_or, Option.isSome_some]
  ·rw [ZD2 e, decide_eq_false e, Bool.false_or]; exact ZG4 k r
theorem ZKq (k j : κ) (y : V) : ∀ kvs : List (κ × V), ZDq (kvs.map fun kv => if kv.1 = k then (kv.1, y) else kv) j = (ZDq kvs j).map fun x => if j = k then y else x
 | [] => rfl
 | p :: r => by
  have ih := ZKq k j y r
  rw [List.map_cons]
  by_cases h : p.1 = k
  ·rw [if_pos h]
   by_cases e : p.1 = j
   ·rw [ZD1 (p := (p.1, y)) e, ZD1 e, Option.map_some, if_pos (e.symm.trans h)]
   ·rw [ZD2 (p := (p.1, y)) e, ZD2 e, ih]
  ·rw [if_neg h]
   by_cases e : p.1 = j
   ·rw [ZD1 (p := p) e, ZD1 e, Option.map_some, if_neg (fun z => h (e.trans z))]
   ·rw [ZD2 (p := p) e, ZD2 e, ih]
theorem ZJt (k j : κ) (y : V) : ∀ kvs : List (κ × V), ZDq kvs k = none → ZDq (kvs ++ [(k, y)]) j = if j = k then some y else ZDq kvs j
 | [], _ => by
  by_cases e : k = j
  ·rw [if_pos e.symm]; exact ZD1 (p := (k, y)) e
  ·rw [if_neg (fun z => e z.symm)]; exact ZD2 (p := (k, y)) e
 | p :: r, hn => by
  rw [List.cons_append]
  have hk : ¬ p.1 = k := fun z => by rw [ZD1 z] at hn; cases hn
  rw [ZD2 hk] at hn
  have ih := ZJt k j y r hn
  by_cases e : p.1 = j
  ·rw [ZD1 e, ZD1 e, if_neg (fun z => hk (e.trans z))]
  ·rw [ZD2 e, ZD2 e, ih]
theorem ZIe (kvs : List (κ × V)) (k j : κ) (y : V) : ZDq (ZEP kvs k y) j = if j = k then some y else ZDq kvs j := by
 unfold ZEP
 by_cases a : (kvs.any fun kv => decide (kv.1 = k)) = true
 ·rw [if_pos a, ZKq]
  rw [ZG4] at a
  by_cases e : j = k
  ·obtain ⟨x, hx⟩ := Option.isSome_iff_exists.mp a
   rw [if_pos e, e, hx, Option.map_some, if_pos rfl]
  ·rw [if_neg e]
   cases ZDq kvs j with
   | none => rfl
   | some x => rw [Option.map_some, if_neg e]
 ·rw [if_neg a]
  refine ZJt k j y kvs ?_
  rw [ZG4] at a
  cases q : ZDq kvs k with
  | none => rfl
  | some x => rw [q] at a; exact (a rfl).elim
theorem ZFf (kvs : List (κ × V)) (k : κ) (v : V) : (ZEP kvs k v).length ≤ kvs.length + 1 := by
 unfold ZEP
 split
 ·rw [List.length_map]; omega
 ·rw [List.length_append, List.length_cons, List.length_nil]; omega
theorem ZEV.isSome_eq {o : Option V} {u : Option Value} (r : ZEV o u) : o.isSome = u.isSome := by
 cases o with
 | none => cases u with
  | none => rfl
  | some _ => exact (show False from r).elim
 | some _ => cases u with
  | none => exact (show False from r).elim
  | some _ => rfl
theorem ZEV.getD {o : Option V} {u : Option Value} {d : V} {d' : Value} (r : ZEV o u) (rd : ZCx d d') : ZCx (o.getD d) (u.getD d') := by
 cases o with
 | none => cases u with
  | none => exact rd
  | some _ => exact (show False from r).elim
 | some _ => cases u with
  | none => exact (show False from r).elim
  | some _ => exact r
theorem KV.val {kvs : List (κ × V)} {vs : List (κ × Value)} (r : KV kvs vs) (k : κ) : ZEV (ZDq kvs k) (valueAt vs k) := by
 unfold KV at r
 induction r with
 | nil => exact True.intro
 | @cons p q ps qs h t ih =>
  obtain ⟨h1, h2⟩ := h
  by_cases e : p.1 = k
  ·have e' : q.1 = k := h1.symm.trans e
   have b : valueAt (q :: qs) k = some q.2 := by simp [valueAt, List.find?_cons, e']
   rw [ZD1 e, b]; exact h2
  ·have e' : ¬ q.1 = k := fun z => e (h1.trans z)
   have b : valueAt (q :: qs) k = valueAt qs k := by simp [valueAt, List.find?_cons, e']
   rw [ZD2 e, b]; exact ih
theorem KV.any {kvs : List (κ × V)} {vs : List (κ × Value)} (r : KV kvs vs) (k : κ) : (kvs.any fun kv => decide (kv.1 = k)) = vs.any fun kv => decide (kv.1 = k) := by
 unfold KV at r
 induction r with
 | nil => rfl
 | cons h t ih => rw [List.any_cons, List.any_cons, ih, h.1]
theorem KV.repl {kvs : List (κ × V)} {vs : List (κ × Value)} (r : KV kvs vs) (k : κ) {y : V} {u : Value} (ry : ZCx y u) :
  KV (kvs.map fun kv => if kv.1 = k then (kv.1, y) else kv) (vs.map fun kv => if kv.1 = k then (kv.1, u) else kv) := by
 unfold KV at r ⊢
 induction r with
 | nil => exact .nil
 | @cons p q ps qs h t ih =>
  rw [List.map_cons, List.map_cons]
  refine .cons ?_ ih
  obtain ⟨h1, h2⟩ := h
  by_cases e : p.1 = k
  ·rw [if_pos e, if_pos (h1.symm.trans e)]; exact ⟨h1, ry⟩
  ·rw [if_neg e, if_neg (fun z => e (h1.trans z))]; exact ⟨h1, h2⟩
theorem KV.put {kvs : List (κ × V)} {vs : List (κ × Value)} (r : KV kvs vs) (k : κ) {y : V} {u : Value} (ry : ZCx y u) : KV (ZEP kvs k y) (stored vs k u) := by
 unfold ZEP stored
 rw [r.any k]
 by_cases e : (vs.any fun kv => decide (kv.1 = k)) = true
 ·rw [if_pos e, if_pos e]; exact r.repl k ry
 ·rw [if_neg e, if_neg e]; exact Paired.snoc r ⟨rfl, ry⟩
theorem KV.drop {kvs : List (κ × V)} {vs : List (κ × Value)} (r : KV kvs vs) (k : κ) : KV (ZGI kvs k) (without vs k) := by
 unfold KV at r ⊢
 unfold ZGI without
 induction r with
 | nil => exact .nil
 | @cons p q ps qs h t ih =>
  obtain ⟨h1, h2⟩ := h
  rw [List.filter_cons, List.filter_cons]
  by_cases e : p.1 = k
  ·have a : ¬ decide (p.1 ≠ k) = true := by simp [e]
   have b : ¬ decide (q.1 ≠ k) = true := by simp [h1.symm.trans e]
   rw [if_neg a, if_neg b]; exact ih
  ·have e' : ¬ q.1 = k := fun z => e (h1.trans z)
   have a : decide (p.1 ≠ k) = true := by simp [e]
   have b : decide (q.1 ≠ k) = true := by simp [e']
   rw [if_pos a, if_pos b]; exact .cons ⟨h1, h2⟩ ih
theorem KV.length {kvs : List (κ × V)} {vs : List (κ × Value)} (r : KV kvs vs) : kvs.length = vs.length := Paired.length r
theorem ZPX (kvs : List (κ × V)) (k : κ) : (ZGI kvs k).length ≤ kvs.length := List.length_filter_le _ _
end
theorem ZIC {P : Program} {w : World} {k : Key} {u : Value} (r : ZCx (kV k) u) : (ZDg P w).is k u = true := by
 cases k with
 | inl i => obtain ⟨t, e⟩ := (show ∃ t, u = Value.int i t from r); subst e; exact ZLh P w i t
 | inr x => obtain ⟨t, e⟩ := (show ∃ t, u = Value.str x t from r); subst e; exact ZLi P w x t
theorem ZJu {P : Program} {w : World} : ∀ {ks : List Key} {us : List Value}, ZCz (ks.map kV) us → ItemsAre (ZDg P w) ks us
 | [], _, r => by rw [List.map_nil] at r; cases r; exact .nil
 | k :: ks, _, r => by
  rw [List.map_cons] at r
  cases r with
  | cons h t => exact .cons (ZIC h) (ZJu t)
abbrev KT (H : Hp) : List (List Key × V) → List (List Key × Addr × Value) → Prop := Paired fun p q => p.1 = q.1 ∧ H q.2.1 = some (.tup (p.1.map kV)) ∧ ZCx p.2 q.2.2
theorem KT.val {H : Hp} {kvs : List (List Key × V)} {xs : List (List Key × Addr × Value)} (r : KT H kvs xs) (k : List Key) : ZEV (ZDq kvs k) ((atKey xs k).map (·.2)) := by
 induction r with
 | nil => exact True.intro
 | @cons p q ps qs h t ih =>
  obtain ⟨h1, _, h2⟩ := h
  by_cases e : p.1 = k
  ·have e' : q.1 = k := h1.symm.trans e
   have b : atKey (q :: qs) k = some q.2 := by simp [atKey, List.find?_cons, e']
   rw [ZD1 e, b]; exact h2
  ·have e' : ¬ q.1 = k := fun z => e (h1.trans z)
   have b : atKey (q :: qs) k = atKey qs k := by simp [atKey, List.find?_cons, e']
   rw [ZD2 e, b]; exact ih
theorem KT.repl {H : Hp} {kvs : List (List Key × V)} {xs : List (List Key × Addr × Value)} (r : KT H kvs xs) (k : List Key) {y : V} {u : Value} (ry : ZCx y u) :
  KT H (kvs.map fun kv => if kv.1 = k then (kv.1, y) else kv) (xs.map (putAt k u)) := by
 induction r with
 | nil => exact .nil
 | @cons p q ps qs h t ih =>
  rw [List.map_cons, List.map_cons]
  refine .cons ?_ ih
  obtain ⟨h1, h2, h3⟩ := h
  unfold putAt
  by_cases e : p.1 = k
  ·rw [if_pos e, if_pos (h1.symm.trans e)]; exact ⟨h1, h2, ry⟩
  ·rw [if_neg e, if_neg (fun z => e (h1.trans z))]; exact ⟨h1, h2, h3⟩
theorem KT.put {H : Hp} {kvs : List (List Key × V)} {xs : List (List Key × Addr × Value)} (r : KT H kvs xs) (k : List Key) {b : Addr} {y : V} {u : Value} (hb : H b = some (.tup (k.map kV))) (ry : ZCx y u) :
  KT H (ZEP kvs k y) (storedH xs k b u) := by
 have e : (kvs.any fun kv => decide (kv.1 = k)) = (atKey xs k).isSome := by
  rw [ZG4, (r.val k).isSome_eq, Option.isSome_map]
 unfold ZEP storedH
 rw [e]
 by_cases q : (atKey xs k).isSome = true
 ·rw [if_pos q, if_pos q]; exact r.repl k ry
 ·rw [if_neg q, if_neg q]; exact Paired.snoc r ⟨rfl, hb, ry⟩
theorem KT.keeps {H H' : Hp} {kvs : List (List Key × V)} {xs : List (List Key × Addr × Value)} (r : KT H kvs xs) (ht : ∀ b ys, H b = some (.tup ys) → H' b = some (.tup ys)) : KT H' kvs xs :=
 Paired.mapP r fun _ _ z => ⟨z.1, ht _ _ z.2.1, z.2.2⟩
section
variable {P : Program} {w : World} {H : Hp} {h : Heap} {a : Addr}
theorem ZQj {u : HO} (ok : HOk P w H h) (e : Rd H a u) : ZDR P w H h a u := e.ok ok
theorem ZFv {kvs : List (Key × V)} (ok : HOk P w H h) (e : Rd H a (.dK kvs)) : kvs.length ≤ sizeLine ∧ (a == sysModules) = false ∧ ∃ vs, KV kvs vs ∧ h.DictOf (ZDg P w) a vs :=
 show ZDR P w H h a (.dK kvs) from ZQj ok e
theorem ZKV {kvs : List (Key × V)} (ok : HOk P w H h) (e : H a = some (.dK kvs)) : kvs.length ≤ sizeLine ∧ (a == sysModules) = false ∧ ∃ vs, KV kvs vs ∧ h.DictOf (ZDg P w) a vs := ZFv ok (.inl e)
theorem ZHr {ks : List Key} (ok : HOk P w H h) (e : H a = some (.tup (ks.map kV))) : (tupleKind (ZDg P w)).is h ks a := by
 obtain ⟨_, its, r, o, h1, h2, n, h3⟩ := (show ZDR P w H h a (.tup (ks.map kV)) from ok a _ e)
 exact ⟨o, its.toArray, n, h1, h2, h3, by simpa using ZJu r⟩
theorem ZG5 {kvs : List (List Key × V)} (ok : HOk P w H h) (e : Rd H a (.dT kvs)) : kvs.length ≤ sizeLine ∧ (a == sysModules) = false ∧
  ∃ xs, KT H kvs xs ∧ h.DictOfH (tupleKind (ZDg P w)) a xs := by
 obtain ⟨z, y, xs, r, o, es, ep, h1, h2, h3, h4, h5⟩ := (show ZDR P w H h a (.dT kvs) from ZQj ok e)
 refine ⟨z, y, xs, r, o, es, ep, h1, h2, h3, h4, fun x hx => ?_, h5⟩
 have all : ∀ {l : List (List Key × V)} {m : List (List Key × Addr × Value)}, KT H l m → ∀ x ∈ m, (tupleKind (ZDg P w)).is h x.1 x.2.1 := by
  intro l m q
  induction q with
  | nil => intro x hx; exact nomatch hx
  | @cons p q ps qs hq t ih =>
   intro x hx
   rcases List.mem_cons.mp hx with e | hx
   ·subst e
    exact ZHr ok (by rw [← hq.1]; exact hq.2.1)
   ·exact ih x hx
 exact all r x hx
theorem ZUI {kvs : List (List Key × V)} (ok : HOk P w H h) (e : H a = some (.dT kvs)) : kvs.length ≤ sizeLine ∧ (a == sysModules) = false ∧
 ∃ xs, KT H kvs xs ∧ h.DictOfH (tupleKind (ZDg P w)) a xs := ZG5 ok (.inl e)
end
def ZEW (H : Hp) (a : Addr) (y : V) (r : Option V) : Prop :=
 (∃ kvs k, Rd H a (.dK kvs) ∧ y = kV k ∧ r = ZDq kvs k) ∨ ∃ kvs k b, Rd H a (.dT kvs) ∧ y = .ref b ∧ H b = some (.tup (k.map kV)) ∧ r = ZDq kvs k
def ZG6 (H : Hp) (a : Addr) (y v : V) (H' : Hp) : Prop :=
 (∃ kvs k, H a = some (.dK kvs) ∧ y = kV k ∧ kvs.length < sizeLine ∧ H' = upd H a (.dK (ZEP kvs k v))) ∨
 ∃ kvs k b, H a = some (.dT kvs) ∧ y = .ref b ∧ H b = some (.tup (k.map kV)) ∧ kvs.length < sizeLine ∧ H' = upd H a (.dT (ZEP kvs k v))
theorem ZEW.k {H : Hp} {a : Addr} {kvs : List (Key × V)} {k : Key} (e : H a = some (.dK kvs)) : ZEW H a (kV k) (ZDq kvs k) := .inl ⟨kvs, k, .inl e, rfl, rfl⟩
theorem ZEW.t {H : Hp} {a b : Addr} {kvs : List (List Key × V)} {k : List Key} (e : H a = some (.dT kvs)) (eb : H b = some (.tup (k.map kV))) : ZEW H a (.ref b) (ZDq kvs k) := .inr ⟨kvs, k, b, .inl e, rfl, eb, rfl⟩
theorem ZG6.k {H : Hp} {a : Addr} {kvs : List (Key × V)} {k : Key} {v : V} (e : H a = some (.dK kvs)) (hl : kvs.length < sizeLine) : ZG6 H a (kV k) v (upd H a (.dK (ZEP kvs k v))) := .inl ⟨kvs, k, e, rfl, hl, rfl⟩
theorem ZG6.t {H : Hp} {a b : Addr} {kvs : List (List Key × V)} {k : List Key} {v : V} (e : H a = some (.dT kvs)) (eb : H b = some (.tup (k.map kV))) (hl : kvs.length < sizeLine) :
 ZG6 H a (.ref b) v (upd H a (.dT (ZEP kvs k v))) := .inr ⟨kvs, k, b, e, rfl, eb, hl, rfl⟩
section
variable {X : Cx} {pins : List (Addr × Obj)} {σ : St} {H : Hp} {s : Shared} {a : Addr} {y v : V} {u r : Value} {o : Option V} {A : Around} {E : Value → Shared → Prop}
theorem Inv.big (I : Inv X pins σ H s) : sysModules < s.heap.objs.size := by
 have h : mainGlobals < s.heap.objs.size := (I.mod.glob.keeps I.bk).lt
 exact Nat.lt_trans (by decide) h
theorem ZNo {Q : Value → Shared → Prop} (hu : A.units + 1 < cLine) (I : Inv X pins σ H s) (g : ZEW H a y (some v)) (ry : ZCx y u) (h : ∀ w' s', Inv X pins σ H s' → ZCx v w' → Q w' s') :
  wpAny (model X.prog X.w) A (getItem (.ref a) u) Q E s := by
 rcases g with ⟨kvs, k, e, ey, l⟩ | ⟨kvs, k, b, e, ey, eb, l⟩
 ·subst ey
  obtain ⟨z, hd, vs, rel, dd⟩ := ZFv I.hok e
  obtain ⟨w', hw, rw'⟩ := ZEV.some_of (v := v) (o := valueAt vs k) (by rw [l]; exact rel.val k)
  exact wpAny_getItem_of (ZIC ry) dd.mapOf hw (h w' _ (I.tok _) rw')
 ·subst ey
  cases (show u = Value.ref b from ry)
  obtain ⟨z, hd, xs, rel, dd⟩ := ZG5 I.hok e
  obtain ⟨w', hw, rw'⟩ := ZEV.some_of (v := v) (o := (atKey xs k).map (·.2)) (by rw [l]; exact rel.val k)
  obtain ⟨p, hp, hp2⟩ := Option.map_eq_some_iff.mp hw
  refine wpAny_getItem_heap (tupleKind_room_in1 hu) (ZHr I.hok eb) dd hp ?_
  rw [hp2]
  exact h w' _ (I.tok _) rw'
theorem ZRe {Q : Value → Shared → Prop} (hu : A.units + 1 < cLine) (I : Inv X pins σ H s) (g : ZEW H a y o) (ry : ZCx y u) (h : ∀ s', Inv X pins σ H s' → Q (.bool (!o.isSome)) s') :
  wpAny (model X.prog X.w) A (compareOp .NotIn u (.ref a)) Q E s := by
 rcases g with ⟨kvs, k, e, ey, l⟩ | ⟨kvs, k, b, e, ey, eb, l⟩
 ·subst ey
  obtain ⟨z, hd, vs, rel, dd⟩ := ZFv I.hok e
  refine wpAny_notIn_of (ZIC ry) hd dd.mapOf ?_
  rw [← (rel.val k).isSome_eq, ← l]
  exact h _ (I.tok _)
 ·subst ey
  cases (show u = Value.ref b from ry)
  obtain ⟨z, hd, xs, rel, dd⟩ := ZG5 I.hok e
  refine wpAny_notIn_heap (tupleKind_room_in1 hu) (ZHr I.hok eb) hd dd ?_
  have q := (rel.val k).isSome_eq
  rw [Option.isSome_map] at q
  rw [← q, ← l]
  exact h _ (I.tok _)
theorem ZJV {h' : Heap} {t' : Nat} {ob : HO} (I : Inv X pins σ H s) (mu : Mut (H a)) (hs : Heap.SameBut a s.heap h') (he : ∃ q, h'.get? a = some q) (new : ZDR X.prog X.w (upd H a ob) h' a ob) :
  Inv X pins σ (upd H a ob) { s with heap := h', toks := t' } :=
 I.write (x := a) (e := a) mu (.inl rfl) (fun b q hb z => (hs.2 b hb).trans z) he new
theorem ZKr {P : Program} {w : World} {H' : Hp} {h' : Heap} {kvs : List (Key × V)} {vs : List (Key × Value)} (z : kvs.length ≤ sizeLine) (hd : (a == sysModules) = false) (rel : KV kvs vs) (dd : h'.DictOf (ZDg P w) a vs) :
 ZDR P w H' h' a (.dK kvs) := ⟨z, hd, vs, rel, dd⟩
theorem ZNp {H' : Hp} {Q : Unit → Shared → Prop} (hu : A.units + 1 < cLine) (I : Inv X pins σ H s) (g : ZG6 H a y v H') (ry : ZCx y u) (rv : ZCx v r) (h : ∀ s', Inv X pins σ H' s' → Q () s') :
  wpAny (model X.prog X.w) A (setItem (.ref a) u r) Q E s := by
 rcases g with ⟨kvs, k, e, ey, l, eH⟩ | ⟨kvs, k, b, e, ey, eb, l, eH⟩
 ·subst ey eH
  obtain ⟨z, hd, vs, rel, dd⟩ := ZKV I.hok e
  have hz : vs.length ≤ sizeLine := by rw [← rel.length]; exact z
  have hl : (ZEP kvs k v).length ≤ sizeLine := by have := ZFf kvs k v; omega
  refine wpAny_setItem_pairs (hsz := hz) (ZIC ry) dd fun h' dd' hs => h _ ?_
  have he : ∃ q, h'.get? a = some q := let ⟨q, _, _, hq, _⟩ := dd'; ⟨q, hq⟩
  exact ZJV I (by rw [e]; exact True.intro) hs he (ZKr hl hd (rel.put k rv) dd')
 ·subst ey eH
  cases (show u = Value.ref b from ry)
  obtain ⟨z, hd, xs, rel, dd⟩ := ZUI I.hok e
  have hz : xs.length ≤ sizeLine := by rw [← Paired.length rel]; exact z
  have hl : (ZEP kvs k v).length ≤ sizeLine := by have := ZFf kvs k v; omega
  refine wpAny_setItem_heap (hsz := hz) (tupleKind_room_in1 hu) (ZHr I.hok eb) dd fun h' dd' hs => h _ ?_
  obtain ⟨q, es, ep, hq, h2, h3, h4, _, h5⟩ := dd'
  refine ZJV I (by rw [e]; exact True.intro) hs ⟨q, hq⟩ ⟨hl, hd, _, (rel.put k eb rv).keeps fun c ys ec => ?_, q, es, ep, hq, h2, h3, h4, h5⟩
  rw [ZC3 (ZT0 ec e (fun z => nomatch z))]
  exact ec
end
section
variable {X : Cx} {pins : List (Addr × Obj)} {σ : St} {H : Hp} {s : Shared} {a : Addr} {kvs : List (Key × V)} {k : Key} {u : Value} {A : Around} {E : Value → Shared → Prop}
theorem ZUJ {v : V} {more : List Value} {Q : Value → Shared → Prop} (I : Inv X pins σ H s) (e : H a = some (.dK kvs)) (ry : ZCx (kV k) u) (l : ZDq kvs k = some v) (hm : more = [] ∨ ∃ x, more = [x])
  (h : ∀ w' s', Inv X pins σ (upd H a (.dK (ZGI kvs k))) s' → ZCx v w' → Q w' s') : wpAny (model X.prog X.w) A (call (.builtin "dict.pop") (.ref a :: u :: more)) Q E s := by
 obtain ⟨z, hd, vs, rel, dd⟩ := ZKV I.hok e
 obtain ⟨w', hw, rw'⟩ := ZEV.some_of (v := v) (o := valueAt vs k) (by rw [← l]; exact rel.val k)
 have hp : (keyPart u).isSome = true := by
  cases k with
  | inl i => obtain ⟨t, q⟩ := (show ∃ t, u = Value.int i t from ry); subst q; rfl
  | inr x => obtain ⟨t, q⟩ := (show ∃ t, u = Value.str x t from ry); subst q; rfl
 have ha : argsOk "dict.pop" ⟨.ref a :: u :: more, []⟩ := by
  rcases hm with q | ⟨x, q⟩
  ·subst q; exact PySem.F.args_dict_pop_2 _ _
  ·subst q; exact PySem.F.args_dict_pop_3 _ _ _
 refine call_meetsIn PySem.F.slot_dict_pop dd.typeIs PySem.F.entry_dict_pop ha (meets_dict_pop_there (ZDg X.prog X.w) a (ZIC ry) more hm hp)
  ⟨vs, w', dd, by rw [← rel.length]; exact z, hw, fun h' dd' hs => h w' _ ?_ rw'⟩
 have he : ∃ q, h'.get? a = some q := let ⟨q, _, _, hq, _⟩ := dd'; ⟨q, hq⟩
 exact ZJV I (by rw [e]; exact True.intro) hs he (ZKr (Nat.le_trans (ZPX kvs k) z) hd (rel.drop k) dd')
end
def ZPY (i : Expr) : Prop := ∀ ov iv, subscripted i false ov iv = operate [ov, iv] (getItem ov iv)
theorem ZRf {prog : Program} {w : World} {A : Around} {E : Value → Shared → Prop} {s : Shared} {env : Env} {value slice : Expr} {pos : Pos} {T id : String} {Q : Value → Shared → Prop}
  (hl : typeLookup (.type T) "__getitem__" = pure (some (.builtin id))) (hs : ZPY slice)
  (h : wpAny (model prog w) A (eval value env) (fun o s₁ => wpAny (model prog w) A (eval slice env) (fun i s₂ => s₂.TypeIs o T ∧ wpAny (model prog w) A (getItem o i) Q E s₂) E s₁) E s) :
  wpAny (model prog w) A (eval (.Subscript value slice pos) env) Q E s := by
 refine Subscript_ (wpAny_mono h (fun o s₁ h₁ => wpAny_mono h₁ (fun i s₂ h₂ => ?_) fun _ _ x => x) fun _ _ x => x)
 obtain ⟨hT, h₂⟩ := h₂
 unfold subscriptTail
 refine wpAny_bind ?_
 rw [getitemInPython_of_ne hT.not_modules]
 refine wpAny_bind (wpAny_specialOf hT hl ?_)
 have fin : wpAny (model prog w) A (subscripted slice false o i) (fun r s₃ => wpAny (model prog w) A (letTemporaryGo value o r >>= fun _ => pure r) Q E s₃) E s₂ := by
  rw [hs o i]
  exact wpAny_operating (wpAny_mono h₂ (fun r s₃ h₃ => wpAny_bind (wpAny_letTemporaryGo (wpAny_pure h₃))) fun _ _ x => x)
 first
  | exact wpAny_pure (wpAny_bind fin)
  | exact wpAny_bind (wpAny_pure (wpAny_bind fin))
  | exact wpAny_bind fin
theorem ZLk {X : Cx} {pins : List (Addr × Obj)} {σ : St} {H : Hp} {s : Shared} {a : Addr} {y : V} {o : Option V} (I : Inv X pins σ H s) (g : ZEW H a y o) : s.TypeIs (.ref a) "dict" := by
 rcases g with ⟨kvs, k, e, _, _⟩ | ⟨kvs, k, b, e, _, _, _⟩
 ·obtain ⟨_, _, vs, _, dd⟩ := ZFv I.hok e
  exact dd.typeIs
 ·obtain ⟨_, _, xs, _, dd⟩ := ZG5 I.hok e
  exact dd.typeIs
theorem ZLl {X : Cx} {pins : List (Addr × Obj)} {σ : St} {H : Hp} {s : Shared} {a : Addr} {y : V} {o : Option V} (I : Inv X pins σ H s) (g : ZEW H a y o) :
  ∀ b, Value.ref a = .ref b → ∃ ob, s.heap.get? b = some ob ∧ ob.dict = none := fun b q => by
 cases q
 rcases g with ⟨kvs, k, e, _, _⟩ | ⟨kvs, k, b, e, _, _, _⟩
 ·obtain ⟨_, _, vs, _, ob, _, _, h1, h2, _⟩ := ZFv I.hok e
  exact ⟨ob, h1, h2.2.1⟩
 ·obtain ⟨_, _, xs, _, ob, _, _, h1, h2, _⟩ := ZG5 I.hok e
  exact ⟨ob, h1, h2.2.1⟩
def ZMn (td ty : TE) : TE := fun σ H Q => td σ H fun x H1 => ty σ H1 fun y H2 => ∃ a v, x = .ref a ∧ ZEW H2 a y (some v) ∧ Q v H2
def ZMo (td ty tv : TE) : TS := fun D σ H => tv σ H fun v H1 => td σ H1 fun x H2 => ty σ H2 fun y H3 => ∃ a H4, x = .ref a ∧ ZG6 H3 a y v H4 ∧ D.nx σ H4
section
variable {X : Cx} {o i e value : Expr} {pos pos' tpos : Pos} {td ty tv : TE}
theorem ZRg (hu : X.A.units + 1 < cLine) (ho : PE X o td) (hi : PE X i ty) (hs : ZPY i) : PE X (.Subscript o i pos) (ZMn td ty) := by
 intro pins s σ H Q I h
 refine ZRf PySem.F.slot_dict_getitem.lookup hs (thn (ho pins s σ H _ I h) fun u s1 ⟨x, H1, I1, rx, q1⟩ => thn (hi pins s1 σ H1 _ I1 q1) fun iv s2 ⟨y, H2, I2, ry, a, v, ex, g, q2⟩ => ?_)
 subst ex
 obtain rfl : u = Value.ref a := rx
 exact ⟨ZLk I2 g, ZNo hu I2 g ry fun w' s3 I3 rw' => ⟨v, H2, I3, rw', q2⟩⟩
theorem ZRh (hu : X.A.units + 1 < cLine) (ho : PE X o td) (hi : PE X i ty) (hv : PE X value tv) (hs : swapsWith value (some (.Subscript o i pos')) pos.line X.env = pure false) :
  PS X (.Assign [.Subscript o i pos'] value pos) (ZMo td ty tv) := by
 intro pins s σ H D I h
 refine wpAny_Assign_Subscript (thn (hv pins s σ H _ I h) fun r s1 ⟨v, H1, I1, rv, q1⟩ => thn (ho pins s1 σ H1 _ I1 q1) fun u s2 ⟨x, H2, I2, rx, q2⟩ => thn (hi pins s2 σ H2 _ I2 q2) fun iv s3 ⟨y, H3, I3, ry, a, H4, ex, g, q3⟩ => ?_) hs
 subst ex
 obtain rfl : u = Value.ref a := rx
 exact ZNp hu I3 g ry rv fun s4 I4 => ⟨σ, H4, I4, q3⟩
end
theorem ZPZ {P : Program} {w : World} {H : Hp} (h : Heap) (hb : sysModules < h.objs.size) : ZDR P w H (h.push { cls := .type "dict", data := .dict #[] }) h.objs.size (.dK []) :=
 ⟨Nat.zero_le _, beq_eq_false_iff_ne.mpr (Ne.symm (Nat.ne_of_lt hb)), [], .nil, Heap.DictOf.new h⟩
theorem ZPa {P : Program} {w : World} {H : Hp} (h : Heap) (hb : sysModules < h.objs.size) : ZDR P w H (h.push { cls := .type "dict", data := .dict #[] }) h.objs.size (.dT []) :=
 ⟨Nat.zero_le _, beq_eq_false_iff_ne.mpr (Ne.symm (Nat.ne_of_lt hb)), [], .nil, _, #[], 0, Heap.get?_push_size _ rfl, ⟨rfl, rfl, rfl⟩, rfl, rfl, List.nodup_nil⟩
def ZKs : TE := fun _ H Q => ∀ p, H p = none → Q (.ref p) (upd H p (.dK []))
def ZKt : TE := fun _ H Q => ∀ p, H p = none → Q (.ref p) (upd H p (.dT []))
section
variable {X : Cx} {pos : Pos}
theorem ZPb : PE X (.Dict [] [] pos) ZKs := fun pins s σ H Q I h =>
 wpAny_Dict_empty ⟨.ref s.heap.objs.size, _, I.laid (a := s.heap.objs.size) (o := .dK []) (t' := s.toks) (fun _ _ q => Heap.get?_push_of_some _ q) (Nat.le_refl _) (ZPZ s.heap I.big), rfl, h _ (I.hok.fresh (Nat.le_refl _))⟩
theorem ZPc : PE X (.Dict [] [] pos) ZKt := fun pins s σ H Q I h =>
 wpAny_Dict_empty ⟨.ref s.heap.objs.size, _, I.laid (a := s.heap.objs.size) (o := .dT []) (t' := s.toks) (fun _ _ q => Heap.get?_push_of_some _ q) (Nat.le_refl _) (ZPa s.heap I.big), rfl, h _ (I.hok.fresh (Nat.le_refl _))⟩
end
structure M1 (X : Cx) (o : Expr) (m : Str) (apos : Pos) (e : Expr) (cpos : Pos) : Prop where
 base : attributeBase o m X.env (eval o X.env) = eval o X.env
 few : ((backTo cpos (starEach [e] X.env)).all (fun x => !x.1) && (backToKw cpos (keywordEach [] X.env)).all (fun x => x.1.isSome)
  && decide (([e] : List Expr).length + ([] : List Keyword).length + (if ([] : List Keyword).isEmpty then 0 else 1) < 30)) = true
 line : (apos.endLine == cpos.line) = true
 trees : backTo cpos (starEach [e] X.env) = [(false, eval e X.env)]
def IsD (H : Hp) (a : Addr) : Prop := (∃ kvs, Rd H a (.dK kvs)) ∨ ∃ kvs, Rd H a (.dT kvs)
theorem ZNq {X : Cx} {pins : List (Addr × Obj)} {σ : St} {H : Hp} {s : Shared} {a : Addr} (I : Inv X pins σ H s) (d : IsD H a) :
  s.TypeIs (.ref a) "dict" ∧ (∀ b, Value.ref a = .ref b → ∃ ob, s.heap.get? b = some ob ∧ ob.dict = none) ∧ (a == sysModules) = false := by
 rcases d with ⟨kvs, e⟩ | ⟨kvs, e⟩
 ·obtain ⟨_, hd, vs, _, dd⟩ := ZFv I.hok e
  refine ⟨dd.typeIs, fun b q => ?_, hd⟩
  cases q
  obtain ⟨ob, _, _, h1, h2, _⟩ := dd
  exact ⟨ob, h1, h2.2.1⟩
 ·obtain ⟨_, hd, xs, _, dd⟩ := ZG5 I.hok e
  refine ⟨dd.typeIs, fun b q => ?_, hd⟩
  cases q
  obtain ⟨ob, _, _, h1, h2, _⟩ := dd
  exact ⟨ob, h1, h2.2.1⟩
section
variable {X : Cx} {pins : List (Addr × Obj)} {σ : St} {H : Hp} {s : Shared} {a : Addr} {y d : V} {u r : Value} {o : Option V} {A : Around} {E : Value → Shared → Prop}
theorem ZTd {Q : Value → Shared → Prop} (hu : A.units + 1 < cLine) (I : Inv X pins σ H s) (g : ZEW H a y o) (ry : ZCx y u) (h : ∀ w' s', Inv X pins σ H s' → ZCx (o.getD .non) w' → Q w' s') :
  wpAny (model X.prog X.w) A (call (.builtin "dict.get") [.ref a, u]) Q E s := by
 rcases g with ⟨kvs, k, e, ey, l⟩ | ⟨kvs, k, b, e, ey, eb, l⟩
 ·subst ey
  obtain ⟨z, hd, vs, rel, dd⟩ := ZFv I.hok e
  refine call_meetsIn PySem.F.slot_dict_get dd.typeIs PySem.F.entry_dict_get (PySem.F.args_dict_get_2 _ _) (meets_dict_get (ZDg X.prog X.w) a (ZIC ry) hd) ⟨_, dd.mapOf, h _ _ (I.tok _) ?_⟩
  rw [l]
  exact (rel.val k).getD rfl
 ·subst ey
  cases (show u = Value.ref b from ry)
  obtain ⟨z, hd, xs, rel, dd⟩ := ZG5 I.hok e
  refine call_meetsIn PySem.F.slot_dict_get dd.typeIs PySem.F.entry_dict_get (PySem.F.args_dict_get_2 _ _) (meetsH_dict_get (tupleKind (ZDg X.prog X.w)) a b hd) ⟨tupleKind_room_in1 hu, k, xs, ZHr I.hok eb, dd, h _ _ (I.tok _) ?_⟩
  rw [l]
  exact (rel.val k).getD rfl
end
def ZKu (td ty : TE) : TE := fun σ H Q => td σ H fun x H1 => ∃ a, x = .ref a ∧ IsD H1 a ∧ ty σ H1 fun y H2 => ∃ o, ZEW H2 a y o ∧ Q (o.getD .non) H2
def ZKv (td ty : TE) : TE := fun σ H Q => td σ H fun x H1 => ∃ a, x = .ref a ∧ IsD H1 a ∧ ty σ H1 fun y H2 => ∃ kvs k v, H2 a = some (.dK kvs) ∧ y = kV k ∧ ZDq kvs k = some v ∧ Q v (upd H2 a (.dK (ZGI kvs k)))
section
variable {X : Cx} {o e f : Expr} {apos cpos : Pos} {td ty tx : TE}
theorem ZPd (hu : X.A.units + 1 < cLine) (ho : PE X o td) (he : PE X e ty) (m : M1 X o "get" apos e cpos) : PE X (.Call (.Attribute o "get" apos) [e] [] cpos) (ZKu td ty) := by
 intro pins s σ H Q I h
 refine wpAny_Call_method m.base m.few m.line PySem.F.plainAttrs_dict PySem.F.slot_dict_get PySem.F.type_dict_get (thn (ho pins s σ H _ I h) fun u s1 ⟨x, H1, I1, rx, a, ex, d, q1⟩ => ?_)
 subst ex
 obtain rfl : u = Value.ref a := rx
 obtain ⟨t1, t2, _⟩ := ZNq I1 d
 refine ⟨t1, t2, ?_⟩
 rw [m.trees]
 refine Calls.callWith_builtin rfl (Calls.evalArgs_plain (Calls.spliced_cons (thn (he pins s1 σ H1 _ I1 q1) fun iv s2 ⟨y, H2, I2, ry, ov, g, q2⟩ => Calls.spliced_nil ?_)))
 exact ZTd hu I2 g ry fun w' s3 I3 rw' => ⟨_, H2, I3, rw', q2⟩
theorem ZPe (ho : PE X o td) (he : PE X e ty) (m : M1 X o "pop" apos e cpos) : PE X (.Call (.Attribute o "pop" apos) [e] [] cpos) (ZKv td ty) := by
 intro pins s σ H Q I h
 refine wpAny_Call_method m.base m.few m.line PySem.F.plainAttrs_dict PySem.F.slot_dict_pop PySem.F.type_dict_pop (thn (ho pins s σ H _ I h) fun u s1 ⟨x, H1, I1, rx, a, ex, d, q1⟩ => ?_)
 subst ex
 obtain rfl : u = Value.ref a := rx
 obtain ⟨t1, t2, _⟩ := ZNq I1 d
 refine ⟨t1, t2, ?_⟩
 rw [m.trees]
 refine Calls.callWith_builtin rfl (Calls.evalArgs_plain (Calls.spliced_cons (thn (he pins s1 σ H1 _ I1 q1) fun iv s2 ⟨y, H2, I2, ry, kvs, k, v, ea, ey, l, q2⟩ => Calls.spliced_nil ?_)))
 subst ey
 exact ZUJ I2 ea ry l (.inl rfl) fun w' s3 I3 rw' => ⟨v, _, I3, rw', q2⟩
end
section
variable {X : Cx} {pins : List (Addr × Obj)} {σ : St} {H : Hp} {s : Shared} {a : Addr} {kvs : List (Key × V)} {A : Around} {E : Value → Shared → Prop}
theorem ZPf {Q : Value → Shared → Prop} (I : Inv X pins σ H s) (e : Rd H a (.dK kvs)) (h : ∀ p s', H p = none → Inv X pins σ (upd H p (.dK kvs)) s' → Q (.ref p) s') : wpAny (model X.prog X.w) A (call (.type "dict") [.ref a]) Q E s := by
 obtain ⟨z, hd, vs, rel, dd⟩ := ZFv I.hok e
 refine kt_call_dict hd dd (by rw [← rel.length]; exact z) fun h' dd' hs => ?_
 refine h _ _ (I.hok.fresh (Nat.le_refl _)) (I.laid (a := s.heap.objs.size) (o := .dK kvs) (t' := s.toks) (fun b q hq => ?_) (Nat.le_refl _) (ZKr z (beq_eq_false_iff_ne.mpr (Ne.symm (Nat.ne_of_lt I.big))) rel dd'))
 exact (hs.2 b (Nat.ne_of_lt (Heap.lt_size hq))).trans (Heap.get?_push_of_some _ hq)
end
def ZUY (H : Hp) (vs : List V) (prs : List (Key × V)) : Prop := Paired (fun v (p : Key × V) => ∃ a, v = V.ref a ∧ H a = some (.tup [kV p.1, p.2])) vs prs
section
variable {prog : Program} {w : World} {A : Around} {E : Value → Shared → Prop} {s : Shared} {κ : Type} [DecidableEq κ] {knd : KeyKind prog w κ}
theorem ZKw {d : Addr} {kvs : List (κ × Value)} {ep : Nat} {Q : List Value → Shared → Prop} (hh : A.handled = none) (hd : (d == sysModules) = false) (hm : s.heap.DictAt knd d kvs ep) (hn : kvs.length ≤ sizeLine)
  (hQ : ∀ s' acc, (∀ b o, s.heap.get? b = some o → s'.heap.get? b = some o) → s'.gens = s.gens → s'.drawn = s.drawn → s'.os = s.os → s.heap.objs.size < s'.heap.objs.size → ItemsOf (fun i v => ∃ k x, kvs[i]? = some (k, x) ∧ knd.is k v = true) acc kvs.length → Q acc.toList s') :
  wpAny (model prog w) A (collect (.ref d)) Q E s := by
 have hdl : d < s.heap.objs.size := let ⟨_, _, ho, _⟩ := hm; Heap.lt_size ho
 unfold collect
 refine wpAny_bind (wpAny_runValue (codeAny_builtin F.entry_proto_collect ?_))
 rw [Around.under_plainId F.plain_proto_collect _]
 show wpAny _ A.in1 (newList [] >>= fun l => again (.builtin "list.__iadd__" ⟨[l, .ref d], []⟩)) _ _ s
 refine wpAny_bind (wpAny_newObj_type ?_)
 refine wpAny_pure ⟨plainId_quiet F.plain_list_iadd _, codeAny_builtin F.entry_list_iadd ?_⟩
 rw [Around.under_plainId F.plain_list_iadd _]
 generalize hH : s.heap.push { cls := .type "list", data := .seq ([] : List Value).toArray } = H
 have hHs : H.objs.size = s.heap.objs.size + 1 := by rw [← hH, Heap.size_push]
 have hm1 : H.DictAt knd d kvs ep := hm.at' fun o e => hH ▸ Heap.get?_push_of_some _ e
 have hT1 : (⟨H, s.gens, s.drawn, s.toks, s.os⟩ : Shared).TypeIs (.ref d) "dict" := hm1.dictOf.typeIs
 show wpAny _ A.in1 (Builtin.List.listExtendWith (.ref s.heap.objs.size) (.ref d) (.ref s.heap.objs.size)) _ _ (⟨H, s.gens, s.drawn, s.toks, s.os⟩ : Shared)
 unfold Builtin.List.listExtendWith
 refine wpAny_bind (wpAny_typeOf hT1 ?_)
 have h1 : Builtin.List.listSameRef (.ref s.heap.objs.size) (.ref d) = false := by
  simp only [Builtin.List.listSameRef]
  exact beq_eq_false_iff_ne.mpr (Nat.ne_of_gt hdl)
 have h2 : (Value.type "dict" == Value.type "list") = false := by decide
 have h3 : (Value.type "dict" == Value.type "tuple") = false := by decide
 simp only [h1, h2, h3, Bool.or_false, Bool.false_eq_true, if_false]
 refine wpAny_bind (wpAny_pyIter_dict hd hm1 ?_)
 generalize hO : ({ cls := .type "dict_keyiterator", data := .fields #[.ref d, .int 0 0, .int kvs.length 0, .int ep 0] } : Obj) = O
 have hm2 : (H.push O).DictAt knd d kvs ep := hm1.at' fun o e => Heap.get?_push_of_some _ e
 have hT2 : (⟨H.push O, s.gens, s.drawn, s.toks, s.os⟩ : Shared).TypeIs (.ref d) "dict" := hm2.dictOf.typeIs
 refine wpAny_bind (wpAny_holding ?_)
 unfold Builtin.List.listLengthHint
 refine wpAny_bind (wpAny_specialOf hT2 PySem.F.slot_dict_len.lookup ?_)
 wp_delta
 refine wpAny_bind (wpAny_isInstance (b := true) hT2 (by rw [isSubtype_type]; kernel_rfl) ?_)
 show wpAny _ A.in1 (typeOf (Value.ref d) >>= _) _ _ _
 refine wpAny_bind (wpAny_typeOf hT2 ?_)
 refine wpAny_pure ?_
 show wpAny _ A.in1 (rule "list.extend.makes-room" >>= fun _ => Builtin.List.listTouch (.ref s.heap.objs.size) >>= fun _ =>
  again (.builtin "list.extend.loop" ⟨[.ref s.heap.objs.size, .ref H.objs.size, .ref s.heap.objs.size], []⟩)) _ _ _
 refine wpAny_bind (wpAny_rule ?_)
 have hS₁ : (H.push O).get? s.heap.objs.size = some { cls := .type "list", data := .seq ([] : List Value).toArray } := Heap.get?_push_of_some _ (hH ▸ Heap.get?_push_size _ rfl)
 refine wpAny_bind ?_
 show wpAny _ A.in1 (updateSeq s.heap.objs.size (·.push .none) >>= fun _ => updateSeq s.heap.objs.size (·.pop)) _ _ _
 refine wpAny_bind (wpAny_updateSeq hS₁ rfl ?_)
 have hS₂ := Heap.get?_update_self (Obj.mapSeq (·.push Value.none)) hS₁ rfl
 refine wpAny_updateSeq hS₂ rfl ?_
 have hS₃ := Heap.get?_update_self (Obj.mapSeq (·.pop)) hS₂ rfl
 have oth : ∀ b o, b ≠ s.heap.objs.size → (H.push O).get? b = some o → (((H.push O).update s.heap.objs.size (Obj.mapSeq (·.push Value.none))).update s.heap.objs.size (Obj.mapSeq (·.pop))).get? b = some o :=
  fun b o hb e => (Heap.get?_update_other _ _ (Ne.symm hb)).trans ((Heap.get?_update_other _ _ (Ne.symm hb)).trans e)
 have hdH : d < H.objs.size := by rw [hHs]; exact Nat.lt_succ_of_lt hdl
 have hHne : H.objs.size ≠ s.heap.objs.size := by rw [hHs]; exact Nat.succ_ne_self _
 have hSf : s.heap.objs.size ∉ [H.objs.size, d] := fun z => by
  simp only [List.mem_cons, List.not_mem_nil, or_false] at z
  rcases z with z | z
  ·exact hHne z.symm
  ·exact Nat.ne_of_gt hdl z
 have W := (Walks.dictKeys (knd := knd) (A := A.in1) hh H.objs.size d (Nat.ne_of_lt hdH) kvs ep).toS
 refine wpAny_pure ⟨plainId_quiet F.plain_extend_loop _, codeAny_extend_loopS (A := A) W hn _ hSf _ kvs.length 0 _ _ _ rfl (Nat.zero_le _) ⟨?_, ?_⟩ hS₃ (ItemsOf.nil _) fun s' acc' c' hmv hS' hacc => ?_⟩
 ·exact ⟨_, oth _ _ hHne (Heap.get?_push_size _ (by rw [← hO]; rfl)), by rw [← hO], by rw [← hO]; rfl⟩
 ·exact hm2.at' fun o e => oth _ _ (Nat.ne_of_lt hdl) e
 ·show wpAny _ A (load s.heap.objs.size >>= _) _ _ s'
  refine wpAny_bind (wpAny_load hS' ?_)
  refine wpAny_pure (hQ s' acc' (fun b ob e => hmv.heap b ob (fun hb => ?_) (oth _ _ (Nat.ne_of_lt (Heap.lt_size e)) (Heap.get?_push_of_some _ (hH ▸ Heap.get?_push_of_some _ e)))) hmv.gens hmv.drawn hmv.os (Heap.lt_size hS') hacc)
  have hlt := Heap.lt_size e
  simp only [List.mem_cons, List.not_mem_nil, or_false] at hb
  rcases hb with h | h
  ·exact Nat.ne_of_lt hlt h
  ·rw [h, hHs] at hlt; exact absurd hlt (Nat.not_lt.mpr (Nat.le_succ _))
theorem ZLm {d : Addr} {kvs : List (κ × Value)} {ep : Nat} {Q : Value → Shared → Prop} (hh : A.handled = none) (hd : (d == sysModules) = false) (hm : s.heap.DictAt knd d kvs ep) (h64 : kvs.length < 64)
  (hI : ∀ acc : Array Value, ItemsOf (fun i v => ∃ k x, kvs[i]? = some (k, x) ∧ knd.is k v = true) acc kvs.length → ∃ ns, IntsAre acc.toList ns ∧ ∀ (s' : Shared) (l : Addr) (out : Array Value) (ns' : List Int) (e : Nat), s.heap.objs.size ≤ l → (∀ b o, s.heap.get? b = some o → s'.heap.get? b = some o) → s'.gens = s.gens → s'.drawn = s.drawn → s'.os = s.os →
   s'.heap.get? l = some (seqObj "list" out e) → out.size = kvs.length → IntsAre out.toList ns' → ns'.Perm ns → ns'.Pairwise (· ≤ ·) → Q (.ref l) s') :
  wpAny (model prog w) A (call (.builtin "sorted") [.ref d]) Q E s := by
 refine Calls.call_function_entry kind_sorted plain_sorted entry_sorted (args_sorted1 _) ?_
 unfold Builtin.«sorted»
 refine wpAny_bind (m := checkCount "sorted" 1 1 _) (wpAny_pure ?_)
 refine wpAny_bind (ZKw (knd := knd) hh hd hm (by rw [sizeLine_eq]; omega) fun s1 acc hk e1 e2 e3 hlt hacc => ?_)
 obtain ⟨ns, hns, hQ⟩ := hI acc hacc
 refine wpAny_bind (wpAny_newList (hsz := by rw [Array.length_toList, hacc.1, sizeLine_eq]; omega) ?_)
 have hoL : (s1.heap.push (seqObj "list" acc.toList.toArray 0)).get? s1.heap.objs.size = some (seqObj "list" acc.toList.toArray 0) := Heap.get?_push_size _ rfl
 show wpAny _ _ _ _ _ { s1 with heap := s1.heap.push (seqObj "list" acc.toList.toArray 0) }
 refine wpAny_bind (wpAny_holding (wpAny_call_entry slot_list_sort ⟨_, hoL, rfl⟩ entry_list_sort (list_sort_tree hoL hns (by rw [Array.length_toList, hacc.1]; exact h64) fun out ns' a1 a2 a3 => ⟨_, rfl, ?_⟩) (args_list_sort _)))
 refine wpAny_pure ⟨_, rfl, ?_⟩
 obtain ⟨e, he⟩ := sortedHeap_at (out := out) hoL
 have hle : s.heap.objs.size ≤ s1.heap.objs.size := Nat.le_of_lt hlt
 refine hQ _ _ out ns' e hle (fun b o eb => ?_) e1 e2 e3 he ?_ a1 a2 a3
 ·have hb := Heap.lt_size (hk _ _ eb)
  exact (sortedHeap_old (Nat.ne_of_lt hb) (by rw [Heap.size_push]; exact Nat.lt_succ_of_lt hb)).trans (Heap.get?_push_of_some _ (hk _ _ eb))
 ·have l1 := IntsAre.length a1
  have l2 := IntsAre.length hns
  have l3 := a2.length_eq
  have l4 := hacc.1
  simp only [Array.length_toList] at l1 l2
  omega
end
theorem ZJv : ∀ (vs : List (Key × Value)) (ns : List Int) (l : List Value), vs.map (·.1) = ns.map Sum.inl → l.length = vs.length → (∀ (j : Nat) (v : Value), l[j]? = some v → ∃ k x, vs[j]? = some (k, x) ∧ ZGv k v = true) → IntsAre l ns
 | [], [], [], _, _, _ => .nil
 | [], [], _ :: _, _, h, _ => by simp at h
 | [], _ :: _, _, h, _, _ => by simp at h
 | _ :: _, [], _, h, _, _ => by simp at h
 | _ :: _, _ :: _, [], _, h, _ => by simp at h
 | (k, x) :: vs, n :: ns, v :: l, h1, h2, h3 => by
  simp only [List.map_cons, List.cons.injEq] at h1
  obtain ⟨rfl, h1⟩ := h1
  obtain ⟨k', x', e, hk⟩ := h3 0 v rfl
  simp only [List.getElem?_cons_zero, Option.some.injEq, Prod.mk.injEq] at e
  obtain ⟨rfl, rfl⟩ := e
  rcases ZDm hk with ⟨i, t, e1, e2⟩ | ⟨y, t, e1, e2⟩
  ·cases e1; cases e2
   refine .cons _ _ (ZJv vs ns l h1 (by simpa using h2) fun j v e => ?_)
   have := h3 (j + 1) v (by simpa using e)
   simpa using this
  ·cases e1
theorem KV.keysEq {κ : Type} : ∀ {kvs : List (κ × V)} {us : List (κ × Value)}, KV kvs us → us.map (·.1) = kvs.map (·.1)
 | _, _, .nil => rfl
 | _, _, .cons h t => by rw [List.map_cons, List.map_cons, h.1, KV.keysEq t]
theorem IntsAre.vals : ∀ {vs : List Value} {ns : List Int}, IntsAre vs ns → ZCz (ns.map V.int) vs
 | _, _, .nil => .nil
 | _, _, .cons _ t h => .cons ⟨t, rfl⟩ (IntsAre.vals h)
def ZKx : List V → Hp → VK → Prop := fun xs H Q => ∃ (p : Addr) (kvs : List (Key × V)) (ns : List Int), xs = [.ref p] ∧ Rd H p (.dK kvs) ∧ kvs.map (·.1) = ns.map Sum.inl ∧ kvs.length < 64 ∧ ∀ (l : Addr) (ns' : List Int), H l = none → ns'.Perm ns → ns'.Pairwise (· ≤ ·) → Q (.ref l) (upd H l (.lst (ns'.map V.int)))
theorem ZG7 {X : Cx} (hc : X.calm = true) : ZDh X (.builtin "sorted") ZKx := by
 intro pins s σ H xs us Q I r h
 obtain ⟨p, kvs, ns, rfl, hd, hns, h64, q⟩ := h
 obtain ⟨u, rfl, ru⟩ := r.one
 cases ru
 obtain ⟨z, hd, vs, rel, dd⟩ := ZFv I.hok hd
 obtain ⟨ep, dd⟩ := dd.dictAt
 have hlen : vs.length = kvs.length := rel.length.symm
 refine ZLm (I.ok.hd hc) hd dd (by rw [hlen]; exact h64) fun acc hacc => ⟨ns, ?_, fun s' l out ns' e hl hk e1 e2 e3 he ho a1 a2 a3 => ?_⟩
 ·exact ZJv vs ns acc.toList (by rw [KV.keysEq rel]; exact hns) (by rw [Array.length_toList]; exact hacc.1) fun j v e => hacc.2 j v (by simpa using e)
 ·obtain ⟨h', g', d', tk, os'⟩ := s'
  simp only at e1 e2 e3
  subst e1 e2 e3
  refine ⟨.ref l, upd H l (.lst (ns'.map V.int)), I.laid (t' := tk) hk hl ?_, rfl, q l ns' (I.hok.fresh hl) a2 a3⟩
  refine ⟨?_, out.toList, e, IntsAre.vals a1, he⟩
  have l1 := a2.length_eq
  have l2 := congrArg List.length hns
  simp only [List.length_map] at l2 ⊢
  rw [sizeLine_eq]
  omega
section
variable {X : Cx} {o i value : Expr} {pos pos' : Pos} {td ty tv : TE}
theorem ZUZ {b : Expr} (h : ZKU b = false) : ZPY b := by
 intro ov iv
 cases b <;> first | rfl | cases h
theorem ZID (hu : X.A.units + 1 < cLine) (ho : QE X o td) (hi : QE X i ty) (hs : ZKU i = false := by rfl) : QE X (.Subscript o i pos) (ZMn td ty) := ⟨ZRg hu ho.h hi.h (ZUZ hs)⟩
theorem ZF0 (hu : X.A.units + 1 < cLine) (hv : QE X value tv) (ho : QE X o td) (hi : QE X i ty) (hs : ZEh value = false := by rfl) : QS X (.Assign [.Subscript o i pos'] value pos) (ZMo td ty tv) := ⟨ZRh hu ho.h hi.h hv.h (ZFU hs)⟩
theorem ZG8 : QE X (.Dict [] [] pos) ZKs := ⟨ZPb⟩
end
section
variable {σ : St} {H : Hp} {Q : VK} {D : ZDp}
def ZQk (x y : V) (H : Hp) (Q : VK) : Prop := ∃ a v, x = .ref a ∧ ZEW H a y (some v) ∧ Q v H
theorem ZPg {td ty : TE} (h : td σ H fun x H1 => ty σ H1 fun y H2 => ZQk x y H2 Q) : ZMn td ty σ H Q := h
def ZMp (v x y : V) (H : Hp) (R : Hp → Prop) : Prop := ∃ a H4, x = .ref a ∧ ZG6 H a y v H4 ∧ R H4
theorem ZPh {td ty tv : TE} (h : tv σ H fun v H1 => td σ H1 fun x H2 => ty σ H2 fun y H3 => ZMp v x y H3 (D.nx σ)) : ZMo td ty tv D σ H := h
def ZMq (H : Hp) (Q : VK) : Prop := ∀ p, H p = none → Q (.ref p) (upd H p (.dK []))
theorem ZPi (h : ZMq H Q) : ZKs σ H Q := h
theorem ZRi (h : ∀ p H2, H p = none → H2 p = some (.dK []) → ZCq H H2 → Q (.ref p) H2) : ZMq H Q := fun p hp => h p _ hp ZCy (ZCq.new hp)
end
def ZC9 (m : PL) (t : Int) : Option Int := (m.find? fun kv => decide (kv.1 = t)).map (·.2)
def ZDO (m : PL) (t h : Int) : PL := if (m.any fun kv => decide (kv.1 = t)) = true then m.map fun kv => if kv.1 = t then (kv.1, h) else kv else m ++ [(t, h)]
def dkE (p : Int × Int) : Key × V := (.inl p.1, .int p.2)
def ZDN (m : PL) : List (Key × V) := m.map dkE
theorem ZKy {a b : Int} : ((Sum.inl a : Key) = Sum.inl b) ↔ a = b := ⟨fun h => Sum.inl.inj h, fun h => h ▸ rfl⟩
theorem ZTe (m : PL) (t : Int) : ((ZDN m).any fun kv => decide (kv.1 = Sum.inl t)) = m.any fun kv => decide (kv.1 = t) := by
 unfold ZDN
 rw [List.any_map]
 congr 1
 funext p
 simp only [Function.comp, dkE, ZKy]
theorem ZNr (m : PL) (t h : Int) : ZEP (ZDN m) (.inl t) (.int h) = ZDN (ZDO m t h) := by
 unfold ZEP ZDO
 rw [ZTe]
 by_cases c : (m.any fun kv => decide (kv.1 = t)) = true
 ·rw [if_pos c, if_pos c]
  unfold ZDN
  rw [List.map_map, List.map_map]
  refine List.map_congr_left fun p _ => ?_
  simp only [Function.comp, dkE, ZKy]
  split <;> simp
 ·rw [if_neg c, if_neg c]
  simp [ZDN, dkE]
theorem ZF4 (t : Int) : ∀ m : PL, ZDq (ZDN m) (.inl t) = (ZC9 m t).map V.int
 | [] => rfl
 | p :: m => by
  have ih := ZF4 t m
  by_cases e : p.1 = t
  ·have : ZDq (ZDN (p :: m)) (.inl t) = some (.int p.2) := ZD1 (p := dkE p) (by simp [dkE, e])
   rw [this]
   simp [ZC9, List.find?_cons, e]
  ·have : ZDq (ZDN (p :: m)) (.inl t) = ZDq (ZDN m) (.inl t) := ZD2 (p := dkE p) (by simp [dkE, e])
   rw [this, ih]
   simp [ZC9, List.find?_cons, e]
theorem ZG9 {H : Hp} {Q : VK} {p : Addr} {m : PL} {t v : Int} (h1 : H p = some (.dK (ZDN m))) (h2 : ZC9 m t = some v) (h : Q (.int v) H) : ZQk (.ref p) (.int t) H Q :=
 ⟨p, .int v, rfl, by
  have := ZEW.k (k := Sum.inl t) h1
  rw [ZF4, h2] at this
  exact this, h⟩
theorem ZHA {H : Hp} {R : Hp → Prop} {p : Addr} {m : PL} {t v : Int} (h1 : H p = some (.dK (ZDN m))) (hz : m.length < sizeLine) (h : ∀ H2, H2 p = some (.dK (ZDN (ZDO m t v))) → Kp p H H2 → R H2) : ZMp (.int v) (.ref p) (.int t) H R :=
 ⟨p, _, rfl, ZG6.k (k := Sum.inl t) h1 (by simpa [ZDN] using hz), by
  rw [ZNr]
  exact h _ ZCy Kp.upd⟩
theorem ZHB {H : Hp} {Q : VK} (h : ∀ p H2, H p = none → H2 p = some (.dK (ZDN [])) → ZCq H H2 → Q (.ref p) H2) : ZMq H Q := ZRi h
theorem ZIf (m : PL) (t h j : Int) : ZC9 (ZDO m t h) j = if j = t then some h else ZC9 m j := by
 have e1 := ZF4 j (ZDO m t h)
 rw [← ZNr, ZIe] at e1
 have e2 := ZF4 j m
 rw [e2] at e1
 simp only [ZKy] at e1
 by_cases e : j = t
 ·rw [if_pos e] at e1 ⊢
  cases hg : ZC9 (ZDO m t h) j with
  | none => rw [hg] at e1; cases e1
  | some x => rw [hg] at e1; simp at e1; rw [e1]
 ·rw [if_neg e] at e1 ⊢
  cases hg : ZC9 (ZDO m t h) j <;> cases hm : ZC9 m j <;> rw [hg, hm] at e1 <;> simp_all
theorem ZE8 (m : PL) (t h : Int) : (ZDO m t h).length ≤ m.length + 1 := by
 unfold ZDO
 split <;> simp
theorem ZEU {t : Int} : ∀ {m : PL}, ZC9 m t = none ↔ t ∉ m.map (·.1)
 | [] => by simp [ZC9]
 | p :: m => by
  have ih := ZEU (t := t) (m := m)
  by_cases e : p.1 = t
  ·simp [ZC9, List.find?_cons, e]
  ·have e' : ¬ t = p.1 := fun z => e z.symm
   have : ZC9 (p :: m) t = ZC9 m t := by simp [ZC9, List.find?_cons, e]
   rw [this, ih]
   simp [e']
theorem ZNs (m : PL) (t h : Int) : (ZDO m t h).map (·.1) = if t ∈ m.map (·.1) then m.map (·.1) else m.map (·.1) ++ [t] := by
 have ha : (m.any fun kv => decide (kv.1 = t)) = true ↔ t ∈ m.map (·.1) := by simp
 unfold ZDO
 by_cases c : (m.any fun kv => decide (kv.1 = t)) = true
 ·rw [if_pos c, if_pos (ha.mp c), List.map_map]
  refine List.map_congr_left fun p _ => ?_
  simp only [Function.comp]
  split <;> rfl
 ·rw [if_neg c, if_neg (fun z => c (ha.mpr z))]
  simp
theorem ZEz {m : PL} {t h : Int} (n : (m.map (·.1)).Nodup) : ((ZDO m t h).map (·.1)).Nodup := by
 rw [ZNs]
 split
 ·exact n
 ·rename_i c
  rw [List.nodup_append]
  exact ⟨n, by simp, fun a ha b hb e => c (by simp at hb; subst hb; subst e; exact ha)⟩
theorem ZD3 {t h : Int} : ∀ {m : PL}, (m.map (·.1)).Nodup → (ZC9 m t = some h ↔ (t, h) ∈ m)
 | [], _ => by simp [ZC9]
 | p :: m, n => by
  simp only [List.map_cons, List.nodup_cons] at n
  have ih := ZD3 (t := t) (h := h) n.2
  by_cases e : p.1 = t
  ·have : ZC9 (p :: m) t = some p.2 := by simp [ZC9, List.find?_cons, e]
   rw [this]
   constructor
   ·intro z; cases z; rw [← e]; exact List.mem_cons_self
   ·intro z
    rcases List.mem_cons.mp z with z | z
    ·rw [← z]
    ·exact absurd (List.mem_map.mpr ⟨_, z, rfl⟩) (by rw [← e] at *; exact n.1)
  ·have : ZC9 (p :: m) t = ZC9 m t := by simp [ZC9, List.find?_cons, e]
   rw [this, ih]
   constructor
   ·exact fun z => List.mem_cons_of_mem _ z
   ·intro z
    rcases List.mem_cons.mp z with z | z
    ·exact absurd (by rw [← z]) e
    ·exact z
def ZEX (prs : PL) : PL := prs.foldl (fun m p => ZDO m p.1 p.2) []
theorem ZIP : ∀ (prs acc : PL), (acc.map (·.1)).Nodup → ((prs.foldl (fun m p => ZDO m p.1 p.2) acc).map (·.1)).Nodup
 | [], _, h => h
 | p :: prs, acc, h => ZIP prs _ (ZEz h)
theorem ZHC (prs : PL) : ((ZEX prs).map (·.1)).Nodup := ZIP prs [] List.nodup_nil
theorem ZJw : ∀ (prs acc : PL), (prs.foldl (fun m p => ZDO m p.1 p.2) acc).length ≤ acc.length + prs.length
 | [], acc => Nat.le_refl _
 | p :: prs, acc => by
  have h1 := ZJw prs (ZDO acc p.1 p.2)
  have h2 := ZE8 acc p.1 p.2
  show (prs.foldl (fun m p => ZDO m p.1 p.2) (ZDO acc p.1 p.2)).length ≤ acc.length + (prs.length + 1)
  omega
theorem ZKz (prs : PL) : (ZEX prs).length ≤ prs.length := by
 have := ZJw prs []
 simpa [ZEX] using this
theorem ZCt.prs {H : Hp} : ∀ {vs : List V} {l : PL}, ZCt H vs l → ZUY H vs (l.map dkE)
 | _, _, .nil => .nil
 | _, _, .cons ⟨a, e, z⟩ t => .cons ⟨a, e, z⟩ (ZCt.prs t)
theorem ZCt.length {H : Hp} {vs : List V} {l : PL} (h : ZCt H vs l) : vs.length = l.length := Paired.length h
theorem ZCt.snoc {H : Hp} : ∀ {vs : List V} {l : PL}, ZCt H vs l → ∀ {a : Addr} {p : Int × Int}, H a = some (.tup [.int p.1, .int p.2]) → ZCt H (vs ++ [.ref a]) (l ++ [p])
 | _, _, .nil, a, p, z => .cons ⟨a, rfl, z⟩ .nil
 | _, _, .cons h t, a, p, z => .cons h (ZCt.snoc t z)
theorem ZCt.at {H : Hp} : ∀ {vs : List V} {l : PL}, ZCt H vs l → ∀ {i : Nat} {v : V}, vs[i]? = some v → ∃ a p, v = .ref a ∧ l[i]? = some p ∧ H a = some (.tup [.int p.1, .int p.2])
 | _, _, .nil, i, v, e => by simp at e
 | _, _, @Paired.cons _ _ _ _ p _ _ ⟨a, e1, z⟩ t, 0, v, e => by
  simp at e; subst e
  exact ⟨a, p, e1, rfl, z⟩
 | _, _, .cons _ t, i + 1, v, e => by
  obtain ⟨a, p, h1, h2, h3⟩ := ZCt.at t (by simpa using e)
  exact ⟨a, p, h1, by simpa using h2, h3⟩
theorem ZCt.kp {p : Addr} {H H' : Hp} (k : Kp p H H') {n : Nat} {xs : List V} (hp : H p = some (.lst xs)) : ∀ {vs : List V} {l : PL}, ZCt H vs l → ZCt H' vs l
 | _, _, .nil => .nil
 | _, _, .cons ⟨a, e, z⟩ t => .cons ⟨a, e, k _ _ z (fun c => by subst c; rw [hp] at z; cases z)⟩ (ZCt.kp k (n := n) hp t)
theorem ZHD {H : Hp} {Q : VK} {p : Addr} {m : PL} (h1 : H p = some (.dK (ZDN m))) (hz : m.length < 64) (h : ∀ l H2 (ns : List Int), H l = none → H2 l = some (.lst (ns.map V.int)) → ns.Perm (m.map (·.1)) → ns.Pairwise (· ≤ ·) → ZCq H H2 → Q (.ref l) H2) : ZKx [.ref p] H Q :=
 ⟨p, _, m.map (·.1), rfl, .inl h1, by simp [ZDN, dkE], by simpa [ZDN] using hz, fun l ns hl hp hs => h l _ ns hl ZCy hp hs (ZCq.new hl)⟩
def Asc (cv : PL) : Prop := cv.Pairwise fun a b => a.1 < b.1
def ZMG (m cv : PL) : Prop := Asc cv ∧ ∀ t h, (t, h) ∈ cv ↔ ZC9 m t = some h
theorem ZJW : ∀ {a b : PL}, Asc a → Asc b → (∀ p, p ∈ a ↔ p ∈ b) → a = b
 | [], [], _, _, _ => rfl
 | [], q :: b, _, _, h => by have := (h q).mpr List.mem_cons_self; simp at this
 | p :: a, [], _, _, h => by have := (h p).mp List.mem_cons_self; simp at this
 | p :: a, q :: b, ha, hb, h => by
  unfold Asc at ha hb
  rw [List.pairwise_cons] at ha hb
  have e : p = q := by
   rcases List.mem_cons.mp ((h p).mp List.mem_cons_self) with e | e
   ·exact e
   ·rcases List.mem_cons.mp ((h q).mpr List.mem_cons_self) with e2 | e2
    ·exact e2.symm
    ·have h1 := hb.1 _ e
     have h2 := ha.1 _ e2
     omega
  subst e
  rw [ZJW ha.2 hb.2 fun r => ?_]
  constructor
  ·intro hr
   rcases List.mem_cons.mp ((h r).mp (List.mem_cons_of_mem _ hr)) with e | e
   ·subst e; have := ha.1 _ hr; omega
   ·exact e
  ·intro hr
   rcases List.mem_cons.mp ((h r).mpr (List.mem_cons_of_mem _ hr)) with e | e
   ·subst e; have := hb.1 _ hr; omega
   ·exact e
def ZDM (m : PL) (ns : List Int) : PL := ns.map fun t => (t, (ZC9 m t).getD 0)
theorem ZHE {m : PL} {ns : List Int} (nd : (m.map (·.1)).Nodup) (hp : ns.Perm (m.map (·.1))) (hs : ns.Pairwise (· ≤ ·)) : ZMG m (ZDM m ns) := by
 have hn : ns.Nodup := hp.nodup_iff.mpr nd
 refine ⟨?_, fun t h => ?_⟩
 ·unfold Asc ZDM
  rw [List.pairwise_map]
  exact (hs.and hn).imp fun ⟨a, b⟩ => by
   show _ < _
   omega
 ·unfold ZDM
  rw [List.mem_map]
  constructor
  ·rintro ⟨u, hu, e⟩
   have hu' := hp.mem_iff.mp hu
   cases hg : ZC9 m u with
   | none => exact absurd hu' (ZEU.mp hg)
   | some x =>
    rw [hg] at e
    cases e
    exact hg
  ·intro hg
   refine ⟨t, hp.mem_iff.mpr ?_, by rw [hg]; rfl⟩
   by_cases c : t ∈ m.map (·.1)
   ·exact c
   ·rw [ZEU.mpr c] at hg; cases hg
theorem ZLn {m : PL} {ns : List Int} (hp : ns.Perm (m.map (·.1))) : (ZDM m ns).length = m.length := by
 have := hp.length_eq
 simpa [ZDM] using this
theorem ZRj : bootBuiltins "dict" = some (.type "dict") := by decide +kernel
def ZMr (K : W.Frag) : R2 := fun x y H Q => ∃ a b xs ys, x = .ref a ∧ y = .ref b ∧ SqT K H a xs ∧ SqT K H b ys ∧ xs.length + ys.length ≤ sizeLine ∧ (xs = [] → Q (.ref b) H) ∧ (xs ≠ [] → ys = [] → Q (.ref a) H) ∧
 (xs ≠ [] → ys ≠ [] → ∀ p, H p = none → Q (.ref p) (upd H p (.tup (xs ++ ys))))
theorem ZPj {prog : Program} {w : World} {A : Around} {E : Value → Shared → Prop} {s : Shared} {t b : Addr} {ws : List Value} {Q : Value → Shared → Prop} (ht : IsTup s.heap t ([] : List Value).toArray) (hb : IsTup s.heap b ws.toArray) (h : Q (.ref b) s) : wpAny (model prog w) A (binaryOp .Add (.ref t) (.ref b)) Q E s := by
 obtain ⟨⟨cls, dd, data, sl⟩, ho, hc, n, hd⟩ := id ht
 obtain ⟨⟨cls2, dd2, data2, sl2⟩, ho2, hc2, n2, hd2⟩ := id hb
 simp only at hc hd hc2 hd2
 subst hc hd hc2 hd2
 exact concat_meets ⟨_, ho, rfl⟩ ⟨_, ho2, rfl⟩ noFill_tuple_add seq_tuple_add PySem.F.slot_tuple_add PySem.F.entry_tuple_add (PySem.F.args_tuple_add_2 _ _)
  (tuple_addW0 t b ([] : List Value).toArray ws.toArray n n2 dd dd2 sl sl2 (by simp)) ⟨ho, ho2, h⟩
theorem ZRk {X : Cx} (K : W.Frag) (hK : X.K = K) : OpR X (binaryOp .Add) (ZMr K) := by
 subst hK
 intro pins s σ H x y v u Q I rx ry h
 obtain ⟨a, b, xs, ys, rfl, rfl, ha, hb, hz, q0, q1, q2⟩ := h
 by_cases hx : xs = []
 ·subst hx
  cases rx
  cases ry
  obtain ⟨its, r1, p1, _⟩ := I.tuple ha
  obtain ⟨its2, r2, p2, _⟩ := I.tuple hb
  cases r1
  exact ZPj p1 p2 ⟨.ref b, H, I, rfl, q0 rfl⟩
 ·exact ZRA pins s σ H (.ref a) (.ref b) v u Q I rx ry ⟨a, b, xs, ys, rfl, rfl, ha, hb, hx, hz, q1 hx, q2 hx⟩
section
variable {X : Cx} {pos pos' : Pos} {e : Expr} {te : TE}
theorem ZUa {op : Operator} {r : R2} (ho : OpR X (inplaceOp op) r) : PIp X op r := ho
theorem ZK0 {i : Nat} {x : Str} {op : Operator} {r : R2} (hN : X.N.Nodup) (hi : X.N[i]? = some x) (hx : Loc X.env.scope x) (ho : OpR X (inplaceOp op) r) (he : QE X e te) (hf : X.fn x = true ∨ X.env.scope.names.lookup x = some .local := by first | exact .inl rfl | exact .inr rfl | assumption) :
 QS X (.AugAssign (.Name x pos') op e pos) (ZOv i te r) := ⟨ZSi hN hi hx he.h (ZUa ho) hf⟩
theorem ZTf {i : Nat} {r : R2} {D : ZDp} {σ : St} {H : Hp} {x : V} (e1 : σ[i]? = some (some x)) (h : te σ H fun y H1 => r x y H1 fun z H2 => D.nx (σ.set i (some z)) H2) : ZOv i te r D σ H := ⟨x, e1, h⟩
end
def ZQl (Pv : St → Hp → Prop) (μ : St → Hp → Nat) (tb : TS) (D : ZDp) (n : Nat) (σ : St) (H : Hp) : Prop :=
 ∃ N : St → Hp → Prop, (∀ σ' H', N σ' H' → ∃ m', m' < n ∧ m' = μ σ' H' ∧ Pv σ' H') ∧ tb { D with nx := N, ct := N, bk := D.nx } σ H
theorem ZK1 {c : TT} {tb : TS} {D : ZDp} {σ : St} {H : Hp} (Pv : St → Hp → Prop) (μ : St → Hp → Nat) (h0 : Pv σ H)
  (hs : ∀ σ H, Pv σ H → c σ H fun b H1 => if b = true then ZQl Pv μ tb D (μ σ H) σ H1 else D.nx σ H1) : ZKZ c tb D σ H := by
 refine ⟨fun m σ H => m = μ σ H ∧ Pv σ H, ⟨_, rfl, h0⟩, ?_⟩
 rintro m σ H ⟨rfl, p⟩
 exact hs σ H p
theorem ZMH {Pv : St → Hp → Prop} {μ : St → Hp → Nat} {tb : TS} {D : ZDp} {n : Nat} {σ : St} {H : Hp} (h : tb { D with nx := fun σ' H' => Pv σ' H' ∧ μ σ' H' < n, ct := fun σ' H' => Pv σ' H' ∧ μ σ' H' < n, bk := D.nx } σ H) : ZQl Pv μ tb D n σ H :=
 ⟨_, fun σ' H' ⟨p, l⟩ => ⟨_, l, rfl, p⟩, h⟩
theorem ZNt (p q : Int × Int) : PyData.eqv (ZDj p) (ZDj q) = decide (p = q) := by
 have e : PyData.eqv (ZDj p) (ZDj q) = ((p.1 == q.1) && ((p.2 == q.2) && true)) := rfl
 rw [e]
 obtain ⟨a, b⟩ := p
 obtain ⟨c, d⟩ := q
 by_cases h1 : a = c <;> by_cases h2 : b = d <;> simp [h1, h2]
theorem ZFw : ∀ l m : PL, PyData.eqvAll (l.map ZDj) (m.map ZDj) = decide (l = m)
 | [], [] => rfl
 | [], q :: m => by simp [PyData.eqvAll]
 | p :: l, [] => by simp [PyData.eqvAll]
 | p :: l, q :: m => by
  show (PyData.eqv (ZDj p) (ZDj q) && PyData.eqvAll (l.map ZDj) (m.map ZDj)) = _
  rw [ZNt, ZFw l m]
  by_cases h1 : p = q <;> by_cases h2 : l = m <;> simp [h1, h2]
theorem ZF5 : ∀ l : PL, PyData.depthAll (l.map ZDj) ≤ 50
 | [] => by decide
 | p :: l => by
  have ih := ZF5 l
  have h0 : PyData.depth (ZDj p) ≤ 50 := by
   show PyData.depth (.tuple [.int p.1, .int p.2]) ≤ 50
   simp only [PyData.depth, PyData.depthAll]
   decide
  show PyData.depthAll (ZDj p :: l.map ZDj) ≤ 50
  simp only [PyData.depthAll]
  omega
section
variable {K : W.Frag} {H : Hp} {Q : VK} {a b : Addr} {vs ws : List V} {l m : PL}
theorem ZHs (l : PL) : (PyData.tuple (l.map ZDj)).depth ≤ 60 := by
 have := ZF5 l
 simp only [PyData.depth]
 omega
theorem ZRl (h1 : SqT K H a vs) (p1 : ZCt H vs l) (h2 : SqT K H b ws) (p2 : ZCt H ws m) (h : Q (.bl (decide (l = m))) H) : ZMm K (.ref a) (.ref b) H Q := by
 refine ZTc (.tup h1 p1.dats) (.tup h2 p2.dats) (ZFB l) (ZFB m) (ZHs l) ?_
 have e : PyData.eqv (.tuple (l.map ZDj)) (.tuple (m.map ZDj)) = decide (l = m) := ZFw l m
 rw [e]
 exact h
theorem ZRm (h1 : SqT K H a vs) (p1 : ZCt H vs l) (h2 : SqT K H b ws) (p2 : ZCt H ws m) (h : Q (.bl (!decide (l = m))) H) : ZJU K (.ref a) (.ref b) H Q := by
 refine ZKp (.tup h1 p1.dats) (.tup h2 p2.dats) (ZFB l) (ZFB m) (ZHs l) ?_
 have e : PyData.eqv (.tuple (l.map ZDj)) (.tuple (m.map ZDj)) = decide (l = m) := ZFw l m
 rw [e]
 exact h
end
theorem ZCq.kpN {H H1 H2 : Hp} {l : Addr} (s : ZCq H H1) (hl : H l = none) (k : Kp l H1 H2) : ZCq H H2 := fun q o e => k q o (s q o e) (ZDH e hl)
theorem ZCt.kpL {p : Addr} {H H' : Hp} (k : Kp p H H') {xs : List V} (hp : H p = some (.lst xs)) {vs : List V} {l : PL} (h : ZCt H vs l) : ZCt H' vs l := ZCt.kp k (n := 0) hp h
theorem Pot.ne_tup {H : Hp} {p l : Addr} {xs : List V} (h : Pot H p) (hl : H l = some (.tup xs)) : l ≠ p := by
 obtain ⟨x, y, h, r⟩ := h
 intro e; subst e; rw [h] at hl; cases hl
theorem ZCt.pot {p : Addr} {H H' : Hp} (k : Kp p H H') (hp : Pot H p) {vs : List V} {l : PL} (h : ZCt H vs l) : ZCt H' vs l := by
 obtain ⟨x, y, e, _⟩ := hp
 exact ZCt.kpL k e h
section
variable {K : W.Frag} {H H' : Hp} {Q : VK} {a b : Addr} {xs ys : List V} {cv l m : PL}
theorem rd_catH (h1 : H a = some (.tup xs)) (h2 : H b = some (.tup ys)) (hz : xs.length + ys.length ≤ sizeLine) (h : ∀ p H2, H2 p = some (.tup (xs ++ ys)) → ZCq H H2 → Q (.ref p) H2) : ZMr K (.ref a) (.ref b) H Q :=
 ⟨a, b, xs, ys, rfl, rfl, SqT.of h1, SqT.of h2, hz, fun e => h b H (by rw [e]; exact h2) (ZCq.refl H), fun _ e => h a H (by rw [e, List.append_nil]; exact h1) (ZCq.refl H), fun _ _ p hp => h p _ ZCy (ZCq.new hp)⟩
def PrT (H : Hp) (a : Addr) (cv : PL) : Prop := ∃ vs, H a = some (.tup vs) ∧ ZCt H vs cv
def PrL (H : Hp) (a : Addr) (cv : PL) : Prop := ∃ vs, H a = some (.lst vs) ∧ ZCt H vs cv
theorem PrT.same (h : PrT H a cv) (s : ZCq H H') : PrT H' a cv := by
 obtain ⟨vs, h1, h2⟩ := h
 exact ⟨vs, s _ _ h1, h2.same s⟩
theorem PrT.pot {p : Addr} (h : PrT H a cv) (hp : Pot H p) (k : Kp p H H') : PrT H' a cv := by
 obtain ⟨vs, h1, h2⟩ := h
 exact ⟨vs, k _ _ h1 (hp.ne_tup h1), h2.pot k hp⟩
theorem ZRn (h1 : PrT H a l) (h2 : PrT H b m) (h : Q (.bl (decide (l = m))) H) : ZMm K (.ref a) (.ref b) H Q := by
 obtain ⟨vs, g1, p1⟩ := h1
 obtain ⟨ws, g2, p2⟩ := h2
 exact ZRl (SqT.of g1) p1 (SqT.of g2) p2 h
theorem ZRo (h1 : PrT H a l) (h2 : PrT H b m) (h : Q (.bl (!decide (l = m))) H) : ZJU K (.ref a) (.ref b) H Q := by
 obtain ⟨vs, g1, p1⟩ := h1
 obtain ⟨ws, g2, p2⟩ := h2
 exact ZRm (SqT.of g1) p1 (SqT.of g2) p2 h
end
section
variable {X : Cx}
theorem ZNu {N : List Str} {sc : Scope} {own caps : List Str} {ks : List Nat} {elt tg iter : Expr} {ifs : List Expr} {scope : Scope} {pos cpos : Pos} {wi : TI} {g : TG} {tt : TT} {te : TE}
  (hN : X.N = N) (hsc : X.env.scope = sc) (hc : X.calm = true) (S : ZHn N sc own caps ks scope) (hi : PI X tg iter wi)
  (hg : ∀ cl C s₂ H₂ fp, PG (ZDC X (own ++ caps) scope cl C s₂ H₂ fp) tg g)
  (ht : ∀ cl C s₂ H₂ fp, ZJR (ZDC X (own ++ caps) scope cl C s₂ H₂ fp) ifs tt)
  (he : ∀ cl C s₂ H₂ fp, PE (ZDC X (own ++ caps) scope cl C s₂ H₂ fp) elt te)
  (hs : ∀ x, foldedSetIterable iter X.env x = pure x) {use : Option (Value → Sem Unit)} {QQ : Value → Shared → Prop} {pins : List (Addr × Obj)} {s : Shared} {σ : St} {H : Hp} {Q : VK} (I : Inv X pins σ H s)
  (fin : ∀ (C l : Addr) (H' : Hp) (s' : Shared), (∃ m, s'.heap.Ns C m) → Inv X pins σ H' s' → ZEL X pins H' C → Q (.ref l) H' → compPost (model X.prog X.w) X.A X.xe use QQ (.ref l) C (.ok .next) s')
  (h : ZIA own.length ks wi g tt te σ H Q) :
  wpAny (model X.prog X.w) X.A (comprehension (.ListComp elt [⟨tg, iter, ifs, 0⟩] scope pos) scope X.env cpos (newList []) false (eval iter X.env) use) QQ X.xe s := by
 subst hN hsc
 obtain ⟨cl, hclos, hcl, hclf⟩ := ZI7 (scope := scope) (env := X.env) fun y hy hf => I.ok.has y.1 (.inl (S.free y hy hf))
 refine wpAny_comprehension_free (use := use) rfl hs hclos S.kind S.names (wpAny_mono (hi pins s σ H _ I h) (fun xv s₁ h₁ => wpAny_mono h₁ (fun it s₂ h₂ => ?_) fun _ _ e => e) fun _ _ e => e)
 obtain ⟨it, fp, tn, J, H2, e, I2, T, st2, f2, q⟩ := h₂
 subst e
 refine wpAny_newObj_type (wpAny_newFunctionEnv S.nocell (by intro y hy; simp at hy) (fun h₁ hns₁ hsb₁ => ?_) S.kind)
 dsimp only at hns₁ hsb₁ ⊢
 generalize hH2 : s₂.heap.push { cls := .type "list", dict := none, data := .seq ([] : List Value).toArray } = HP at hns₁ hsb₁ ⊢
 have hC : HP.objs.size = s₂.heap.objs.size + 1 := by rw [← hH2, Heap.size_push]
 have hDC : s₂.heap.objs.size ≠ HP.objs.size := by rw [hC]; exact Nat.ne_of_lt (Nat.lt_succ_self _)
 have hCle : s₂.heap.objs.size ≤ HP.objs.size := by rw [hC]; exact Nat.le_succ _
 have old : ∀ b o, s₂.heap.get? b = some o → h₁.get? b = some o := fun b o e => by
  have hb : b < s₂.heap.objs.size := Heap.lt_size e
  exact hsb₁.extBut b o (by rw [hC]; exact Nat.ne_of_lt (Nat.lt_succ_of_lt hb)) (Heap.get?_push_of_some _ (hH2 ▸ Heap.get?_push_of_some _ e))
 have hacc : h₁.get? s₂.heap.objs.size = some { cls := .type "list", dict := none, data := .seq ([] : List Value).toArray } := hsb₁.extBut _ _ hDC (Heap.get?_push_of_some _ (hH2 ▸ Heap.get?_push_size _ rfl))
 have fpl : ∀ b ∈ fp, b < s₂.heap.objs.size := fun b hb => by
  obtain ⟨o, e, _⟩ := T.obj _ _ st2 b hb
  exact Heap.lt_size e
 have hfD : H2 s₂.heap.objs.size = none := I2.hok.fresh (Nat.le_refl _)
 obtain ⟨W, ⟨m0, w0⟩, turn⟩ := q s₂.heap.objs.size hfD
 have hkr : ∀ x, (compEnvC scope cl HP.objs.size X.env).kindOf x = (scope.names.lookup x).map fun k => if (k == NameKind.free && X.env.scope.kind == .function && X.env.kindOf x == some .cell) then NameKind.cell else k := fun x => ZFT (env := X.env) scope.names x
 have cellOfN : ∀ x, scope.names.lookup x = some .free → X.env.kindOf x = some .cell := fun x e => S.free (x, .free) (PySem.mem_of_lookup e) rfl
 -- the context within
 have ok : (ZDC X (own ++ caps) scope cl HP.objs.size s₂ H2 fp).Ok := by
  refine ⟨I2.ok.mod, S.kind, I2.ok.glob, I2.ok.blt, hCle, fun x y c e1 e2 => I2.ok.inj x y c (hcl x c e1) (hcl y c e2), fun x hx => ?_, fun x c z => (by cases z), I2.ok.hd, I2.ok.frames, .inl rfl, fun b hb => ⟨?_, fun x c e => (f2 b hb).2.2.2.2.1 x c (hcl x c e)⟩,
   I2.bs, Nat.le_trans I2.ok.bsz I2.sz, fun b o e hb => ?_, fun b hb z => ?_, I2.stack, I2.stkFree⟩
  ·have hx' : (scope.names.lookup x).map (fun k => if (k == NameKind.free && X.env.scope.kind == .function && X.env.kindOf x == some .cell) then NameKind.cell else k) = some .cell ∨
     (scope.names.lookup x).map (fun k => if (k == NameKind.free && X.env.scope.kind == .function && X.env.kindOf x == some .cell) then NameKind.cell else k) = some .free := by rw [← hkr x]; exact hx
   cases e : scope.names.lookup x with
   | none => rw [e] at hx'; rcases hx' with z | z <;> cases z
   | some k =>
    have hm := PySem.mem_of_lookup e
    have hk : k = .free := by
     by_cases hkf : k = .free
     ·exact hkf
     ·have hb : (k == NameKind.free) = false := by simpa using hkf
      rw [e] at hx'
      simp only [Option.map_some, hb, Bool.false_and, Bool.false_eq_true, if_false, Option.some.injEq] at hx'
      rcases hx' with z | z
      ·exact absurd z (S.nocell _ hm)
      ·exact z
    exact hclf _ hm hk
  ·exact Nat.ne_of_lt (Nat.lt_of_lt_of_le (fpl b hb) hCle)
  ·rcases (f2 b hb).2.2.2.1 with z | z
   ·exact I2.ok.noex b o e z
   ·exact absurd (Nat.lt_of_lt_of_le (Heap.lt_size e) (Nat.le_trans I2.ok.bsz z)) (Nat.lt_irrefl _)
  ·rcases List.mem_cons.mp (I2.stkSub b z) with r | r
   ·exact (f2 b hb).2.1 r
   ·exact (f2 b hb).2.2.1 r
 have hlen : (ZE5 own.length ks σ).length = (own ++ caps).length := by
  have := congrArg List.length S.cap
  simp only [List.length_map] at this
  simp [ZE5, this]
 have I4 : Inv (ZDC X (own ++ caps) scope cl HP.objs.size s₂ H2 fp) [] (ZE5 own.length ks σ) (upd H2 s₂.heap.objs.size (.lst [])) { s₂ with heap := h₁, toks := s₂.toks + ([] : List (Str × Value)).length } := by
  obtain ⟨mX, hnX, hlX⟩ := I2.loc
  refine ⟨ok, rfl, I2.bare, Un.laid old (Nat.le_refl _) hfD, ⟨_, hns₁, fun i x v e1 e2 e3 => ?_⟩, fun x c e => ?_, ?_, fun x c e => ?_, fun p hp => (by cases hp), I2.hok.laid old (Nat.le_refl _) ⟨Nat.zero_le _, [], 0, .nil, hacc⟩, hlen⟩
  ·have e1 : (own ++ caps)[i]? = some x := e1
   by_cases hio : i < own.length
   ·unfold ZE5 at e2
    rw [List.getElem?_append_left (by simpa using hio), List.getElem?_replicate] at e2
    rw [if_pos hio] at e2
    cases e2
   ·unfold ZE5 at e2
    rw [List.getElem?_append_right (by simpa using hio), List.length_replicate, List.getElem?_map] at e2
    rw [List.getElem?_append_right (by simpa using hio)] at e1
    cases ek : ks[i - own.length]? with
    | none => rw [ek] at e2; cases e2
    | some k =>
     rw [ek] at e2
     have e2' := ZJs (Option.some.inj e2)
     have hcap := congrArg (fun l => l[i - own.length]?) S.cap
     simp only [List.getElem?_map, ek, e1, Option.map_some] at hcap
     have hNk : X.N[k]? = some x := Option.some.inj hcap
     have hfx := S.fr x (List.mem_of_getElem? e1)
     have hkX := cellOfN x hfx
     obtain ⟨u, ru, lk⟩ := hlX k x v hNk e2' (.inr (.inl hkX))
     refine ⟨u, ru, .inr ⟨.inl ?_, ?_⟩⟩
     ·show (compEnvC scope cl HP.objs.size X.env).kindOf x = some .cell
      rw [hkr x, hfx]
      simp [I2.ok.kind, hkX]
     ·rcases lk with ⟨z, _⟩ | ⟨_, c, ec, o, ho, hd⟩
      ·rw [hkX] at z; cases z
      ·obtain ⟨c', ec'⟩ := hclf (x, .free) (PySem.mem_of_lookup hfx) rfl
       have := hcl _ _ ec'
       rw [ec] at this
       cases this
       exact ⟨c, ec', o, old _ _ ho, hd⟩
  ·obtain ⟨v, o, ho, hd⟩ := I2.cell x c (hcl x c e)
   exact ⟨v, o, old _ _ ho, hd⟩
  ·show upd H2 s₂.heap.objs.size (.lst []) HP.objs.size = none
   rw [ZC3 (Ne.symm hDC)]
   exact I2.hok.fresh hCle
  ·obtain ⟨v, o, ho, hd⟩ := I2.cell x c (hcl x c e)
   show upd H2 s₂.heap.objs.size (.lst []) c = none
   rw [ZC3 (Nat.ne_of_lt (Heap.lt_size ho))]
   exact I2.freeC x c (hcl x c e)
 -- the way out
 have out : ∀ {σ' : St} {H' : Hp} {s' : Shared}, Inv (ZDC X (own ++ caps) scope cl HP.objs.size s₂ H2 fp) [] σ' H' s' → Q (.ref s₂.heap.objs.size) H' →
   compPost (model X.prog X.w) X.A X.xe use QQ (.ref s₂.heap.objs.size) HP.objs.size (.ok .next) s' := fun {σ' H' s'} I' q' => by
  obtain ⟨m, hn, _⟩ := I'.loc
  refine fin HP.objs.size s₂.heap.objs.size H' s' ⟨m, hn⟩ ?_ (I2.fpOk hCle I'.free) q'
  have hs' : Heap.SameBut HP.objs.size s'.heap s'.heap := Heap.SameBut.refl ..
  have hfree : H' HP.objs.size = none := I'.free
  have neC : ∀ {b : Addr} {o : Obj}, s₂.heap.get? b = some o → b ≠ HP.objs.size := fun e => Nat.ne_of_lt (Nat.lt_of_lt_of_le (Heap.lt_size e) hCle)
  refine I2.call' (ch := fp) (s' := s') I'.os ⟨fun b o e n hb hx => ?_, fun b o e n hb hx => ?_, I'.base.free, fun b o e hx => ?_, I'.base.tups, I'.base.frzs, I'.base.tbls⟩ (fun b ob e => ?_) I'.bare fun b hb => ⟨(f2 b hb).2.2.2.1, (f2 b hb).2.1, (f2 b hb).2.2.2.2.1, (f2 b hb).2.2.2.2.2⟩
  ·exact (I'.base.keep b o e n hb hx)
  ·obtain ⟨sl, e1⟩ := I'.base.slot b o e n hb hx
   exact ⟨sl, e1⟩
  ·obtain ⟨o', e1⟩ := I'.base.there b o e hx
   exact ⟨o', e1⟩
  ·exact I'.hok b ob e
 have stat : ∀ {H' : Hp}, (∀ b ∈ fp, H' b = none) → ∀ b ∈ fp, ZEL (ZDC X (own ++ caps) scope cl HP.objs.size s₂ H2 fp) [] H' b := fun hn b hb =>
  ⟨hn b hb, Nat.ne_of_lt (Nat.lt_of_lt_of_le (fpl b hb) hCle), ok.exfs b hb, .inl hb, (ok.exf b hb).2, fun p hp => by cases hp⟩
 have fr4 : ∀ b ∈ fp, upd H2 s₂.heap.objs.size (.lst []) b = none := fun b hb => by
  rw [ZC3 (Nat.ne_of_lt (fpl b hb))]
  exact (f2 b hb).1
 have tn4 : tn 0 h₁ := T.keep _ _ _ st2 fun b _ o e => old b o e
 have loop : ∀ s4 : Shared, s4 = { s₂ with heap := h₁, toks := s₂.toks + ([] : List (Str × Value)).length } →
   codeAny (model X.prog X.w) X.A (.compLoop (.ListComp elt [⟨tg, iter, ifs, 0⟩] scope pos) 0 (.ref it) (.ref s₂.heap.objs.size) (compEnvC scope cl HP.objs.size X.env))
    (compPost (model X.prog X.w) X.A X.xe use QQ (.ref s₂.heap.objs.size) HP.objs.size) s4 := by
  rintro s4 rfl
  refine ZFF (fun n s' => ∃ i σ' H', Inv (ZDC X (own ++ caps) scope cl HP.objs.size s₂ H2 fp) [] σ' H' s' ∧ tn i s'.heap ∧ (∀ b ∈ fp, H' b = none) ∧ W i n σ' H') ?_ m0 ⟨0, _, _, I4, tn4, fr4, w0⟩
  rintro n s3 ⟨i, σ3, H3, I3, st3, fr3, w3⟩
  rcases turn i n σ3 H3 w3 with ⟨stop, qn⟩ | ⟨go, N, hN, step⟩
  ·refine wpAny_mono (T.done (ZDC X (own ++ caps) scope cl HP.objs.size s₂ H2 fp) rfl rfl rfl hc i [] s3 σ3 H3 (fun _ _ => False) I3 (stat fr3) st3 stop) (fun r s4 ⟨hr, I4'⟩ => ?_) fun _ _ z => False.elim z
   subst hr
   exact out I4' qn
  ·refine wpAny_mono (T.item (ZDC X (own ++ caps) scope cl HP.objs.size s₂ H2 fp) rfl rfl rfl hc i [] s3 σ3 H3 (fun _ _ => False) I3 (stat fr3) st3 go) (fun r s4 ⟨u, hr, h4⟩ => ?_) fun _ _ z => False.elim z
   subst hr
   refine wpAny_mono h4 (fun _ s5 ⟨x, H5, I5, r5, y5, st5, fr5⟩ => ?_) fun _ _ z => False.elim z
   have I5' := I5.pinned (stat fr5) (T.obj _ _ st5)
   have back : ∀ {s7 : Shared} {σ7 : St} {H7 : Hp}, Inv (ZDC X (own ++ caps) scope cl HP.objs.size s₂ H2 fp) ([] ++ ZGe fp s5.heap) σ7 H7 s7 → N σ7 H7 →
     ∃ m, m < n ∧ ∃ i σ' H', Inv (ZDC X (own ++ caps) scope cl HP.objs.size s₂ H2 fp) [] σ' H' s7 ∧ tn i s7.heap ∧ (∀ b ∈ fp, H' b = none) ∧ W i m σ' H' := fun {s7 σ7 H7} I7 n7 => by
    obtain ⟨m', hm, w7⟩ := hN σ7 H7 n7
    refine ⟨m', hm, i + 1, σ7, H7, I7.unpinned, T.keep _ _ _ st5 fun b hb o e => (I7.pin (b, o) (List.mem_append_right _ (List.mem_append_right _ (ZEv hb e)))).1, fun b hb => ?_, w7⟩
    obtain ⟨o, e, d⟩ := T.obj _ _ st5 b hb
    exact (I7.pin (b, o) (List.mem_append_right _ (List.mem_append_right _ (ZEv hb e)))).2.1
   refine wpAny_mono (hg _ _ _ _ _ _ s5 σ3 H5 x u _ I5' r5 (step x H5 y5)) (fun _ s6 ⟨σ6, H6, I6, q6⟩ => ?_) fun _ _ z => False.elim z
   refine wpAny_mono (ht _ _ _ _ _ _ s6 σ6 H6 _ I6 q6) (fun b s7 ⟨H7, I7, q7⟩ => ?_) fun _ _ z => False.elim z
   cases b with
   | false =>
    rw [if_neg Bool.false_ne_true]
    rw [if_neg Bool.false_ne_true] at q7
    exact back I7 q7
   | true =>
    rw [if_pos rfl]
    rw [if_pos rfl] at q7
    refine wpAny_mono (he _ _ _ _ _ _ s7 σ6 H7 _ I7 q7) (fun y s8 ⟨v, H8, I8, r8, xs, hx8, hz8, n8⟩ => ?_) fun _ _ z => False.elim z
    refine wpAny_mono (ZEn (X := ZDC X (own ++ caps) scope cl HP.objs.size s₂ H2 fp) _ s8 σ6 H8 (.ref s₂.heap.objs.size) [v] (.ref s₂.heap.objs.size) [y] (fun _ H' => N σ6 H') I8 rfl (.cons r8 .nil) ⟨_, xs, v, rfl, rfl, hx8, hz8, n8⟩) (fun _ s9 ⟨_, H9, I9, _, n9⟩ => ?_) fun _ _ z => False.elim z
    exact back I9 n9
 exact codeAny_compStart_list (loop _ rfl) (T.self _ 0 _ _ _ tn4 (loop _ rfl))
theorem ZRp {N : List Str} {sc : Scope} {own caps : List Str} {ks : List Nat} {elt tg iter : Expr} {ifs : List Expr} {scope : Scope} {pos spos pos' : Pos} {wi : TI} {g : TG} {tt : TT} {te : TE} {i : Nat} {x : Str}
  (hN : X.N = N) (hsc : X.env.scope = sc) (hc : X.calm = true) (S : ZHn N sc own caps ks scope) (hi : PI X tg iter wi)
  (hg : ∀ cl C s₂ H₂ fp, PG (ZDC X (own ++ caps) scope cl C s₂ H₂ fp) tg g)
  (ht : ∀ cl C s₂ H₂ fp, ZJR (ZDC X (own ++ caps) scope cl C s₂ H₂ fp) ifs tt)
  (he : ∀ cl C s₂ H₂ fp, PE (ZDC X (own ++ caps) scope cl C s₂ H₂ fp) elt te)
  (hNd : X.N.Nodup) (hix : X.N[i]? = some x) (hx : Loc X.env.scope x)
  (hsw : swapsWith (.ListComp elt [⟨tg, iter, ifs, 0⟩] scope pos) (some (.Name x pos')) spos.line X.env = pure true)
  (hs : ∀ x, foldedSetIterable iter X.env x = pure x := by intro _; rfl)
  (hf : X.fn x = true ∨ X.env.scope.names.lookup x = some .local := by first | exact .inl rfl | exact .inr rfl | assumption) :
  PS X (.Assign [.Name x pos'] (.ListComp elt [⟨tg, iter, ifs, 0⟩] scope pos) spos) (ZGy (ZIA own.length ks wi g tt te) (ZFd i)) := by
 intro pins s σ H D I h
 rw [exec_Assign_Name_used _ _ _ _ hsw]
 refine wpAny_bind (wpAny_standAt (wpAny_bind ?_))
 show wpAny _ X.A (do let _ ← comprehension (.ListComp elt [⟨tg, iter, ifs, 0⟩] scope pos) scope X.env _ (newList []) false (eval iter X.env) (some (assign (.Name x pos') X.env))) _ _ s
 refine wpAny_bind (wpAny_mono (ZNu (QQ := fun _ s' => SP X pins D .next s') hN hsc hc S hi hg ht he hs I ?_ h) (fun _ s' hq => wpAny_pure (wpAny_pure hq)) fun _ _ e => e)
 rintro C l H' s' ⟨m, hn⟩ I' hF q
 show wpAny (model X.prog X.w) X.A (assign (.Name x pos') X.env (.ref l)) (fun _ s'' => ∃ m, s''.heap.Ns C m ∧ ∀ h', Heap.SameBut C s''.heap h' → SP X pins D .next { s'' with heap := h' }) X.xe s'
 obtain ⟨f0, f1, f2, f3, f4, f5⟩ := hF
 refine wpAny_assign_Name (ZJl (v := .ref l) I' hNd hix hx rfl (fun s'' I'' ⟨b, hsb, hb⟩ => ?_) hf)
 have hCb : C ≠ b := by
  rcases hb with rfl | hb
  ·exact f1
  ·exact fun z => f4 x b hb z.symm
 refine ⟨m, hn.sameBut hsb hCb, fun h' hs' => ⟨_, H', I''.turned (t' := s''.toks) (fun c o hc e => hs'.extBut c o hc e) f0 f1 f3 f4 f5, q⟩⟩
theorem ZMI {N : List Str} {sc : Scope} {own caps : List Str} {ks : List Nat} {elt tg iter : Expr} {ifs : List Expr} {scope : Scope} {pos spos pos' : Pos} {wi : TI} {g : TG} {tt : TT} {te : TE} {i : Nat} {x : Str}
  (hN : X.N = N) (hsc : X.env.scope = sc) (hc : X.calm = true) (S : ZHn N sc own caps ks scope) (hNd : X.N.Nodup) (hix : X.N[i]? = some x) (hx : Loc X.env.scope x)
  (hi : QI X tg iter wi)
  (hg : ∀ cl C s₂ H₂ fp, QG (ZDC X (own ++ caps) scope cl C s₂ H₂ fp) tg g)
  (ht : ∀ cl C s₂ H₂ fp, QF (ZDC X (own ++ caps) scope cl C s₂ H₂ fp) ifs tt)
  (he : ∀ cl C s₂ H₂ fp, QE (ZDC X (own ++ caps) scope cl C s₂ H₂ fp) elt te)
  (hsw : swapsWith (.ListComp elt [⟨tg, iter, ifs, 0⟩] scope pos) (some (.Name x pos')) spos.line X.env = pure true := by rfl)
  (hs : ∀ x, foldedSetIterable iter X.env x = pure x := by intro _; rfl)
  (hf : X.fn x = true ∨ X.env.scope.names.lookup x = some .local := by first | exact .inl rfl | exact .inr rfl | assumption) :
  QS X (.Assign [.Name x pos'] (.ListComp elt [⟨tg, iter, ifs, 0⟩] scope pos) spos) (ZGy (ZIA own.length ks wi g tt te) (ZFd i)) :=
 ⟨ZRp hN hsc hc S hi.h (fun cl C s₂ H₂ fp => (hg cl C s₂ H₂ fp).h) (fun cl C s₂ H₂ fp => (ht cl C s₂ H₂ fp).h) (fun cl C s₂ H₂ fp => (he cl C s₂ H₂ fp).h) hNd hix hx hsw hs hf⟩
end
section
variable {K : W.Frag} {H H' : Hp} {a p l : Addr} {cv : PL} {xs : List V}
theorem PrT.kpL (h : PrT H a cv) (k : Kp l H H') (hl : H l = some (.lst xs)) : PrT H' a cv := by
 obtain ⟨vs, h1, h2⟩ := h
 exact ⟨vs, k _ _ h1 (fun e => by subst e; rw [h1] at hl; cases hl), h2.kpL k hl⟩
end
section
variable {X : Cx}
theorem ZTg {T : String} {name : Str} {id : String} {r : V → List V → Hp → VK → Prop} {apos cpos : Pos} {o : Expr} {to : TE} (pa : PlainAttrs T) (slot : Slot T name id) (hty : typeOf (.builtin id) = pure (.type "method_descriptor")) (hm : MtR X id r) (ho : QE X o to)
 (hbase : attributeBase o name X.env (eval o X.env) = eval o X.env := by rfl) (hline : (apos.endLine == cpos.line) = true := by rfl) : QE X (.Call (.Attribute o name apos) [] [] cpos) (ZPG X.K T r to) := ⟨ZSw pa slot hty hm ho.h hbase hline⟩
theorem ZTh {K : W.Frag} {T : String} {r : V → List V → Hp → VK → Prop} {to : TE} {σ : St} {H : Hp} {Q : VK} (h : to σ H fun x H1 => tyV K T x H1 ∧ r x [] H1 Q) : ZPG K T r to σ H Q := h
end
def ZPk (K : W.Frag) (x : V) (H : Hp) (R : It → Hp → Prop) : Prop := (∃ a, x = .ref a ∧ (∃ xs, SqL K H a xs) ∧ R (Itl K a) H) ∨ (∃ a, x = .ref a ∧ (∃ xs, SqT K H a xs) ∧ R (Itt K a) H)
def ZTi (K : W.Frag) (tl : TE) : TI := fun σ H R => tl σ H fun x H1 => ZPk K x H1 R
theorem ZTj {X : Cx} {tg e : Expr} {te : TE} (K : W.Frag) (hK : X.K = K) (hl : QE X e te) : QI X tg e (ZTi K te) := by
 subst hK
 refine ⟨?_⟩
 intro pins s σ H R I h
 refine thn (hl.h pins s σ H _ I h) fun v s1 ⟨x, H1, I1, r1, q1⟩ => ?_
 rcases q1 with ⟨a, e, ⟨xs, hq⟩, q⟩ | ⟨a, e, ⟨xs, hq⟩, q⟩
 ·subst e
  cases r1
  obtain ⟨its, rv, p, hz⟩ := I1.list hq
  refine wpAny_pyIter_list p.isList ?_
  refine ⟨s1.heap.objs.size, [s1.heap.objs.size], _, _, H1, rfl, I1.kept (t' := s1.toks) fun b o e => Heap.get?_push_of_some _ e, ZJm a _, ⟨_, Heap.get?_push_size _ rfl, rfl, rfl⟩, fun b hb => ?_, q⟩
  have e : b = s1.heap.objs.size := by simpa using hb
  subst e
  exact I1.fpOk (Nat.le_refl _) (I1.hok.fresh (Nat.le_refl _))
 ·subst e
  cases r1
  obtain ⟨its, rv, p, hz⟩ := I1.tuple hq
  refine wpAny_pyIter_tuple (show s1.heap.IsTuple a its.toArray from p) ?_
  refine ⟨s1.heap.objs.size, [s1.heap.objs.size], _, _, H1, rfl, I1.kept (t' := s1.toks) fun b o e => Heap.get?_push_of_some _ e, ZIv a _, ⟨_, Heap.get?_push_size _ rfl, rfl, rfl⟩, fun b hb => ?_, q⟩
  have e : b = s1.heap.objs.size := by simpa using hb
  subst e
  exact I1.fpOk (Nat.le_refl _) (I1.hok.fresh (Nat.le_refl _))
def SQ (b : Bool) (H : Hp) (a : Addr) (vs : List V) : Prop := H a = some (if b then .lst vs else .tup vs)
section
variable {K : W.Frag} {σ : St} {H : Hp} {D : ZDp}
theorem ZRq {tl : TE} {R : It → Hp → Prop} (h : tl σ H fun x H1 => ZPk K x H1 R) : ZTi K tl σ H R := h
theorem ZRr {b : Bool} {a : Addr} {xs : List V} {g : TG} {tb : TS} (Pv : Nat → St → Hp → Prop) (hq : SQ b H a xs) (h0 : Pv 0 σ H) (hl : ∀ i σ H, i ≤ xs.length → Pv i σ H → SQ b H a xs)
  (hs : ∀ i x σ H, xs[i]? = some x → Pv i σ H → g x σ H fun σ2 H2 => tb { D with nx := Pv (i + 1), ct := Pv (i + 1), bk := D.nx } σ2 H2) (hd : ∀ σ H, Pv xs.length σ H → D.nx σ H) :
  ZPk K (.ref a) H (fun J H1 => rFor J g tb D σ H1) := by
 cases b with
 | true => exact .inl ⟨a, rfl, ⟨xs, SqL.of hq⟩, ZME Pv h0 (fun i σ H hi p => SqL.of (hl i σ H hi p)) hs hd⟩
 | false => exact .inr ⟨a, rfl, ⟨xs, SqT.of hq⟩, ZIB Pv h0 (fun i σ H hi p => SqT.of (hl i σ H hi p)) hs hd⟩
end
theorem SQ.same {b : Bool} {H H' : Hp} {a : Addr} {vs : List V} (h : SQ b H a vs) (s : ZCq H H') : SQ b H' a vs := s _ _ h
def ZDo (n : Nat) {α : Type} : KasT α → (α → Prop) → Prop
 | .ret a, R => R a
 | .ask i j k, R => i < n ∧ j < n ∧ ∀ b, ZDo n (k b) R
theorem ZDo.bind {n : Nat} {α β : Type} {f : α → KasT β} {R : α → Prop} {R' : β → Prop} (h : ∀ a, R a → ZDo n (f a) R') : ∀ t : KasT α, ZDo n t R → ZDo n (t.bind f) R'
 | .ret a, g => h a g
 | .ask i j k, g => ⟨g.1, g.2.1, fun b => ZDo.bind h (k b) (g.2.2 b)⟩
theorem ZNv {n : Nat} {cmp : Nat → Nat → (Bool → Shared → Prop) → Shared → Prop} {c : Nat → Nat → Bool} {s : Shared} (hc : ∀ i j C, i < n → j < n → C (c i j) s → cmp i j C s) {α : Type} {Q : α → Shared → Prop} {R : α → Prop} : ∀ t : KasT α, ZDo n t R → Q (evT c t) s → t.kasWp cmp Q s
 | .ret _, _, h => h
 | .ask i j k, g, h => hc i j _ g.1 g.2.1 (ZNv hc (k (c i j)) (g.2.2 _) h)
section
variable {n : Nat}
def Inn (n : Nat) (p : Array Nat) : Prop := 0 < n ∧ ∀ v ∈ p.toList, v < n
theorem Inn.at {p : Array Nat} (h : Inn n p) (i : Nat) : p.getD i 0 < n := by
 by_cases hi : i < p.size
 ·have := ZE9 (p := p) hi
  exact h.2 _ (Array.mem_toList_iff.mpr (Array.mem_of_getElem? this))
 ·have : p.getD i 0 = 0 := by simp [Array.getD, hi]
  rw [this]
  exact h.1
theorem Inn.perm {p q : Array Nat} (h : Inn n p) (e : q.toList.Perm p.toList) : Inn n q := ⟨h.1, fun v hv => h.2 v (e.mem_iff.mp hv)⟩
theorem Inn.rev {p : Array Nat} (h : Inn n p) (i j : Nat) : Inn n (kas_rev p i j) := h.perm (ZKh p i j)
theorem ZIg {p : Array Nat} (h : Inn n p) : ∀ f a, ZDo n (kas_asc p f a) (fun _ => True)
 | 0, _ => trivial
 | f + 1, a => ⟨h.at _, h.at _, fun b => by
  cases b with
  | true => exact trivial
  | false => exact ZIg h f (a + 1)⟩
theorem ZGJ : ∀ (f : Nat) {p : Array Nat} (a q : Nat), Inn n p → ZDo n (kas_desc f p a q) (fun r => Inn n r.1)
 | 0, _, _, _, h => h
 | f + 1, p, a, q, h => ⟨h.at _, h.at _, fun b => by
  cases b with
  | true =>
   show ZDo n (if q > 0 then kas_desc f (kas_rev p (a - (q + 1)) a) (a + 1) 0 else kas_desc f p (a + 1) 0) _
   split
   ·exact ZGJ f _ _ (h.rev _ _)
   ·exact ZGJ f _ _ h
  | false =>
   refine ⟨h.at _, h.at _, fun d => ?_⟩
   cases d with
   | true => exact h
   | false => exact ZGJ f _ _ h⟩
theorem ZJx {p : Array Nat} (h : Inn n p) (m k : Nat) : ZDo n (kas_tail3 m k p) (fun r => Inn n r.2) := by
 unfold kas_tail3
 refine ZDo.bind (R := fun _ => True) (fun a _ => ?_) _ (ZIg (h.rev _ _) _ _)
 exact h.rev _ _
theorem ZJB {p : Array Nat} (h : Inn n p) (m k : Nat) : ZDo n (kas_descPart m k p) (fun r => Inn n r.2) := by
 refine ZDo.bind (R := fun r => Inn n r.1) (fun r hr => ?_) _ (ZGJ _ _ _ h)
 show ZDo n (if r.2.2 > 0 then _ else _) _
 split
 ·exact ZJx (hr.rev _ _) _ _
 ·exact ZJx hr _ _
theorem ZMs {p : Array Nat} (h : Inn n p) (k : Nat) : ZDo n (kas_count k p) (fun r => Inn n r.2) := by
 refine ZDo.bind (R := fun _ => True) (fun m _ => ?_) _ (ZIg h _ _)
 show ZDo n (if (m == k) = true then _ else _) _
 split
 ·exact h
 ·split
  ·refine ⟨h.at _, h.at _, fun b => ?_⟩
   cases b with
   | true => exact h
   | false => exact ZJB (h.rev _ _) _ _
  ·exact ZJB h _ _
theorem ZHF {p : Array Nat} (h : Inn n p) (k : Nat) : ∀ f l r, ZDo n (kas_place p k f l r) (fun _ => True)
 | 0, _, _ => trivial
 | f + 1, l, r => by
  show ZDo n (if l ≥ r then _ else _) _
  split
  ·exact trivial
  ·refine ⟨h.at _, h.at _, fun b => ?_⟩
   cases b with
   | true => exact ZHF h k f _ _
   | false => exact ZHF h k f _ _
theorem ZK2 : ∀ (f : Nat) {p : Array Nat} (k : Nat), Inn n p → ZDo n (kas_bin f p k) (fun _ => True)
 | 0, _, _, _ => trivial
 | f + 1, p, k, h => ZDo.bind (R := fun _ => True) (fun l _ => ZK2 f _ (h.perm (Array.perm_iff_toList_perm.mp (bubble_perm p k _)))) _ (ZHF h k _ _ _)
theorem ZNw (hn : 0 < n) : ZDo n (kas_sort n) (fun _ => True) := by
 have h : Inn n (List.toArray (List.range n)) := ⟨hn, fun v hv => by simpa using hv⟩
 refine ZDo.bind (R := fun r => Inn n r.2) (fun r hr => ?_) _ (ZMs h _)
 show ZDo n (if r.1 < n then _ else _) _
 split
 ·exact ZK2 _ _ hr
 ·exact trivial
end
def ltP (p q : Int × Int) : Bool := decide (p.1 < q.1) || (decide (p.1 = q.1) && decide (p.2 < q.2))
theorem ZF1 {p q : Int × Int} : ltP p q = true ↔ p.1 < q.1 ∨ (p.1 = q.1 ∧ p.2 < q.2) := by simp [ltP]
theorem ZHt {p q : Int × Int} : ltP p q = false ↔ ¬ (p.1 < q.1 ∨ (p.1 = q.1 ∧ p.2 < q.2)) := by
 rw [← ZF1]; simp
def ZJC (h : Heap) (a : Addr) (v : Value) (p : Int × Int) : Prop := ∃ b t u, v = .ref b ∧ b ≠ a ∧ IsTup h b #[.int p.1 t, .int p.2 u]
def ZEd (h : Heap) (a : Addr) (vs : List Value) (l : PL) : Prop := Paired (ZJC h a) vs l
theorem ZEd.get {h : Heap} {a : Addr} : ∀ {vs : List Value} {l : PL}, ZEd h a vs l → ∀ {i : Nat}, i < l.length → ZJC h a (vs.getD i .none) (l.getD i (0, 0))
 | _, _, .nil, i, hi => absurd hi (Nat.not_lt_zero _)
 | _, _, .cons g t, 0, _ => g
 | _, _, .cons g t, i + 1, hi => by
  have := ZEd.get t (i := i) (by simpa using hi)
  simpa using this
theorem ZEd.katT {h : Heap} {a : Addr} : ∀ {vs : List Value} {l : PL}, ZEd h a vs l → ∃ fs, KatTups h vs fs ∧ fs.length = vs.length ∧ ∀ v ∈ fs, ∃ x t, v = .int x t
 | _, _, .nil => ⟨[], .nil, rfl, fun v hv => by cases hv⟩
 | _, _, @Paired.cons _ _ _ v p _ _ ⟨b, t, u, e, _, o, ho, hc, k, hd⟩ r => by
  obtain ⟨fs, h1, h2, h3⟩ := ZEd.katT r
  subst e
  refine ⟨.int p.1 t :: fs, .cons ho hc hd rfl h1, by simp [h2], fun v hv => ?_⟩
  rcases List.mem_cons.mp hv with rfl | hv
  ·exact ⟨_, _, rfl⟩
  ·exact h3 v hv
section
variable {prog : Program} {w : World} {A : Around} {E : Value → Shared → Prop} {s : Shared}
theorem ZLo {a : Addr} {v v' : Value} {p q : Int × Int} {C : Bool → Shared → Prop} (hp : ZJC s.heap a v p) (hq : ZJC s.heap a v' q) (h : C (ltP p q) s) : wpAny (model prog w) A (keyLt' (tuples' true) v v') C E s := by
 obtain ⟨b, t, u, rfl, _, o, ho, hc, k, hd⟩ := hp
 obtain ⟨b', t', u', rfl, _, o', ho', hc', k', hd'⟩ := hq
 refine kat_lt ho hd ho' hd' ?_
 refine kat_cons (wpAny_eqBool_int ?_)
 by_cases e1 : p.1 = q.1
 ·rw [show (p.1 == q.1) = true by simp [e1]]
  refine kat_yes (kat_cons (wpAny_eqBool_int ?_))
  by_cases e2 : p.2 = q.2
  ·rw [show (p.2 == q.2) = true by simp [e2]]
   refine kat_yes (kat_nil ?_)
   have : ltP p q = false := by rw [ZHt]; omega
   rw [this] at h
   exact h
  ·rw [show (p.2 == q.2) = false by simp [e2]]
   refine kat_no (kat_one _ _ (lt_int ?_))
   have : ltP p q = decide (p.2 < q.2) := by simp [ltP, e1]
   rw [this] at h
   exact h
 ·rw [show (p.1 == q.1) = false by simp [e1]]
  refine kat_no (oneLt_int ?_)
  have : ltP p q = decide (p.1 < q.1) := by simp [ltP, e1]
  rw [this] at h
  exact h
theorem ZJD {a : Addr} {vs : List Value} {l : PL} {n : Nat} {P : Fin → Shared → Prop} (ho : s.heap.get? a = some (seqObj "list" vs.toArray n))
  (hT : ZEd s.heap a vs l) (hd : l.Nodup) (h64 : vs.length < 64)
  (h : ∀ (ix : List Nat), ix.Perm (List.range vs.length) → (ix.map fun i => l.getD i (0, 0)).Pairwise (fun p q => ltP p q = true) → P (.done (.ret .none)) { s with heap := sortedHeap s.heap a vs (ix.map fun i => vs.getD i Value.none).toArray }) :
  wpAny (model prog w) A (Builtin.«list.sort» ⟨[.ref a], []⟩) P E s := by
 have hlen : vs.length = l.length := Paired.length hT
 have ha : a < s.heap.objs.size := Heap.lt_size ho
 rw [list_sort_plain]
 refine wpAny_bind (listItems_at ho rfl ?_)
 refine wpAny_bind (listUpdate_at ho rfl ?_ (by rw [List.size_toArray, sizeLine_eq]; omega) (Nat.zero_le _))
 obtain ⟨e1, ho1⟩ : ∃ e1, (s.heap.update a (Obj.mapSeq fun _ => (#[] : Array Value))).get? a = some (seqObj "list" #[] e1) := ⟨_, get?_update_seq ho fun _ => #[]⟩
 refine wpAny_bind (seqEpoch_at ho1 rfl ?_)
 refine wpAny_bind (wpAny_newTuple ?_ (by show vs.length ≤ _; rw [sizeLine_eq]; omega))
 refine wpAny_bind (wpAny_newList ?_ (Nat.zero_le _))
 refine wpAny_holding ?_
 generalize hh : (((s.heap.update a (Obj.mapSeq fun _ => (#[] : Array Value))).push (seqObj "tuple" vs.toArray 0)).push (seqObj "list" #[] 0)) = h3
 have ho3 : h3.get? a = some (seqObj "list" #[] e1) := by rw [← hh]; exact Heap.get?_push_of_some _ (Heap.get?_push_of_some _ ho1)
 have keep : ∀ b o, b ≠ a → s.heap.get? b = some o → h3.get? b = some o := fun b o hb e => by
  rw [← hh]
  exact Heap.get?_push_of_some _ (Heap.get?_push_of_some _ ((Heap.get?_update_other _ _ (Ne.symm hb)).trans e))
 have hT3 : ZEd h3 a vs l := Paired.mapP hT fun v p ⟨b, t, u, e, hb, o, hx, r⟩ => ⟨b, t, u, e, hb, o, keep b o hb hx, r⟩
 have done : ∀ (ix : List Nat), ix.Perm (List.range vs.length) → (ix.map fun i => l.getD i (0, 0)).Pairwise (fun p q => ltP p q = true) →
   P (.done (.ret .none)) { s with heap := h3.update a (Obj.mapSeq fun _ => (ix.map fun i => vs.getD i Value.none).toArray) } := fun ix hp hs => by
  have := h ix hp hs
  unfold sortedHeap at this
  rw [hh] at this
  exact this
 show wpAny (model prog w) A _ P E { s with heap := h3 }
 dsimp only
 by_cases h2 : vs.toArray.size < 2
 ·rw [if_pos h2, if_pos h2]
  refine wpAny_bind (wpAny_pure ?_)
  have hsmall : (List.range vs.length).map (fun i => vs.getD i Value.none) = vs := by
   rw [List.size_toArray] at h2
   match vs, h2 with
   | [], _ => rfl
   | [v], _ => rfl
  have hpw : ((List.range vs.length).map fun i => l.getD i (0, 0)).Pairwise (fun p q => ltP p q = true) := by
   rw [List.size_toArray] at h2
   match vs, h2 with
   | [], _ => exact List.Pairwise.nil
   | [v], _ => exact List.pairwise_singleton _ _
  have D := done (List.range vs.length) (List.Perm.refl _) hpw
  rw [hsmall] at D
  show wpAny (model prog w) A ((pure () : StateT SortSt Sem Unit).run (SortSt.mk' general' (vs.toArray.zip vs.toArray) #[] 7 none) >>= _) P E { s with heap := h3 }
  rw [StateT.run_pure]
  refine wpAny_bind (wpAny_pure ?_)
  dsimp only
  have hout : ((arrOf (SortSt.mk' general' (vs.toArray.zip vs.toArray) #[] 7 none)).map (·.2)) = vs.toArray := by
   show ((vs.toArray.zip vs.toArray).map (·.2)) = vs.toArray
   apply Array.toList_inj.mp
   rw [Array.toList_map, Array.toList_zip]
   exact List.map_snd_zip (Nat.le_refl _)
  rw [hout]
  refine wpAny_bind (seqEpoch_at (s := { s with heap := h3 }) ho3 rfl ?_)
  refine wpAny_bind (listUpdate_at (s := { s with heap := h3 }) ho3 rfl ?_ (Nat.zero_le _) (by rw [List.size_toArray, sizeLine_eq]; omega))
  simp only [bne_self_eq_false, Bool.false_eq_true, if_false]
  exact wpAny_pure D
 ·rw [if_neg h2, if_neg h2]
  have h2' : 2 ≤ vs.length := by rw [List.size_toArray] at h2; omega
  obtain ⟨fs, k1, k2, k3⟩ := hT3.katT
  refine wpAny_bind (kat_kind (T := .type "int") (s := { s with heap := h3 }) k1 (by omega) (fun v hv => ?_) (by decide) ?_)
  ·obtain ⟨x, t, rfl⟩ := k3 v hv
   exact Looks.of_pure rfl
  have hkk : tuples' (Value.type "int" != Value.type "tuple") = tuples' true := by
   have : (Value.type "int" != Value.type "tuple") = true := by decide
   rw [this]
  rw [hkk]
  let c : Nat → Nat → Bool := fun i j => ltP (l.getD i (0, 0)) (l.getD j (0, 0))
  have O : Ord c vs.length := by
   refine ⟨fun i j k h1 h2 => ?_, fun i j h1 => ?_, fun i j hi hj hne h1 => ?_⟩
   ·have h1 := ZF1.mp h1
    have h2 := ZF1.mp h2
    exact ZF1.mpr (by omega)
   ·have h1 := ZF1.mp h1
    exact ZHt.mpr (by omega)
   ·have h1 := ZHt.mp h1
    refine ZF1.mpr ?_
    have hne2 : l.getD i (0, 0) ≠ l.getD j (0, 0) := by
     intro e
     have hi' : i < l.length := by omega
     have hj' : j < l.length := by omega
     have hpw := List.pairwise_iff_getElem.mp (List.nodup_iff_pairwise_ne.mp hd)
     have e1 : l.getD i (0, 0) = l[i] := by simp [hi']
     have e2 : l.getD j (0, 0) = l[j] := by simp [hj']
     rw [e1, e2] at e
     rcases Nat.lt_trichotomy i j with z | z | z
     ·exact hpw i j hi' hj' z e
     ·exact hne z
     ·exact hpw j i hj' hi' z e.symm
    have hne3 : ¬ ((l.getD i (0, 0)).1 = (l.getD j (0, 0)).1 ∧ (l.getD i (0, 0)).2 = (l.getD j (0, 0)).2) := fun z => hne2 (Prod.ext z.1 z.2)
    omega
  obtain ⟨S1, S2⟩ := ZRC O (by omega)
  refine wpAny_bind (wpAny_mono (kat_run (E := E) (vs := vs) (ks := vs) (Q := fun st' s' => s' = { s with heap := h3 } ∧ arrOf st' = (evT c (kas_sort vs.length)).map (kas_item (vs.toArray.zip vs.toArray)) ∧ failedOf st' = none)
   (G := fun p s' => s' = { s with heap := h3 } ∧ p = evT c (kas_sort vs.length)) rfl h2' h64 (fun p st' s' a1 a2 a3 a4 => ⟨a4.1, by rw [a2, a4.2], a3⟩)
   (ZNv (c := c) (n := vs.length) (fun i j C hi hj hC => ?_) _ (ZNw (by omega)) ⟨rfl, rfl⟩)) ?_ fun _ _ e => e)
  ·exact ZLo (hT3.get (by omega)) (hT3.get (by omega)) hC
  ·rintro ⟨⟨⟩, st'⟩ s' ⟨rfl, har, hf⟩
   dsimp only
   rw [kat_snds rfl har]
   have hperm : (evT c (kas_sort vs.length)).toList.Perm (List.range vs.length) := S1
   have hsz : (evT c (kas_sort vs.length)).size = vs.length := by have := S1.length_eq; simpa using this
   have hpw : ((evT c (kas_sort vs.length)).toList.map fun i => l.getD i (0, 0)).Pairwise (fun p q => ltP p q = true) := by
    rw [List.pairwise_map, List.pairwise_iff_getElem]
    intro i j hi hj hij
    have := S2 i j hij (by simp at hj; omega)
    have e1 : gt0 (evT c (kas_sort vs.length)) i = (evT c (kas_sort vs.length)).toList[i] := ZI5 (by rw [← Array.getElem?_toList, List.getElem?_eq_getElem hi])
    have e2 : gt0 (evT c (kas_sort vs.length)) j = (evT c (kas_sort vs.length)).toList[j] := ZI5 (by rw [← Array.getElem?_toList, List.getElem?_eq_getElem hj])
    rw [e1, e2] at this
    exact this
   refine wpAny_bind (seqEpoch_at (s := { s with heap := h3 }) ho3 rfl ?_)
   refine wpAny_bind (listUpdate_at (s := { s with heap := h3 }) ho3 rfl ?_ (Nat.zero_le _) ?_)
   ·rw [hf]
    simp only [bne_self_eq_false, Bool.false_eq_true, if_false]
    exact wpAny_pure (done _ hperm hpw)
   ·show (((evT c (kas_sort vs.length)).toList.map fun i => vs.getD i Value.none).toArray).size ≤ _
    rw [List.size_toArray, List.length_map, Array.length_toList, hsz, sizeLine_eq]
    omega
end
section
variable {X : Cx} {pins : List (Addr × Obj)} {σ : St} {H H' : Hp} {s : Shared} {h' : Heap}
theorem Inv.old (I : Inv X pins σ H s) {b : Addr} {o : HO} (e : H b = some o) : b < s.heap.objs.size := by
 by_cases h : b < s.heap.objs.size
 ·exact h
 ·rw [I.hok.fresh (Nat.le_of_not_lt h)] at e
  cases e
theorem Inv.many {t' : Nat} (I : Inv X pins σ H s) (k : ∀ b u, s.heap.get? b = some u → h'.get? b = some u) (hs : ∀ b, b < s.heap.objs.size → H' b = H b) (new : ∀ b o, s.heap.objs.size ≤ b → H' b = some o → ZDR X.prog X.w H' h' b o) :
  Inv X pins σ H' { s with heap := h', toks := t' } := by
 have old : ∀ b o, H b = some o → H' b = some o := fun b o e => (hs b (I.old e)).trans e
 refine I.un ⟨fun b u q _ _ _ => k b u q, fun b u q _ _ _ => ⟨u.slots, k b u q⟩, fun b u q n _ => (hs b (Heap.lt_size q)).trans n, fun b u q _ => ⟨u, k b u q⟩, fun b xs q => old _ _ q, fun b u xs q => old _ _ q, fun b ps q => ⟨#[], by rw [old _ _ q]; simp⟩⟩ fun b u e => ?_
 by_cases hb : b < s.heap.objs.size
 ·rw [hs b hb] at e
  exact (I.hok b u e).stay (fun c v _ q => k c v q) (fun c q => old _ _ q) fun c xs q => old _ _ q
 ·exact new b u (Nat.le_of_not_lt hb) e
end
section
variable {X : Cx} {o : Expr} {to : TE} {apos cpos : Pos}
def ZK3 (to : TE) : (σ : St) → Hp → (Addr → PL → Hp → Prop) → Prop := fun σ H R => to σ H fun x H1 => ∃ a m, x = .ref a ∧ H1 a = some (.dK (ZDN m)) ∧ R a m H1
theorem ZMt {pins : List (Addr × Obj)} {s : Shared} {σ : St} {H : Hp} {R : Addr → PL → Hp → Prop} (ho : PE X o to) (I : Inv X pins σ H s) (h : ZK3 to σ H R)
  (hbase : attributeBase o "items" X.env (eval o X.env) = eval o X.env) (hline : (apos.endLine == cpos.line) = true) :
  wpAny (model X.prog X.w) X.A (eval (.Call (.Attribute o "items" apos) [] [] cpos) X.env) (fun u s1 => ∃ r a m H1, u = .ref r ∧ s1.heap.objs.size = r + 1 ∧ s1.heap.IsItemsView r a ∧ H1 a = some (.dK (ZDN m)) ∧ Inv X pins σ H1 s1 ∧ R a m H1) X.xe s := by
 refine wpAny_Call_method0_late hbase hline (thn (ho pins s σ H _ I h) fun v s1 ⟨x, H1, I1, r1, a, m, ex, hd, q1⟩ => ?_)
 subst ex
 cases r1
 obtain ⟨z, hsm, vs, rel, dd⟩ := ZKV I1.hok hd
 refine ⟨"dict", "dict.items", PySem.F.plainAttrs_dict, PySem.F.slot_dict_items, PySem.F.type_dict_items, dd.typeIs, ZLl I1 (ZEW.k (k := Sum.inl 0) hd), ?_⟩
 refine Calls.callWith_builtin rfl (PySem.evalArgs_none ?_)
 refine call_meetsIn PySem.F.slot_dict_items dd.typeIs PySem.F.entry_dict_items (PySem.F.args_dict_items_1 _) (meets_dict_items (ZDg X.prog X.w) a hsm) ⟨⟨vs, dd⟩, ?_⟩
 exact ⟨_, a, m, H1, rfl, by rw [Heap.size_push], ⟨_, Heap.get?_push_size _ rfl, rfl, rfl⟩, hd, I1.kept (t' := s1.toks) fun b o e => Heap.get?_push_of_some _ e, q1⟩
end
theorem ZNx {m : PL} {vs : List (Key × Value)} (rel : KV (ZDN m) vs) : vs.length = m.length ∧ ∀ (j : Nat) (k : Key) (x : Value), vs[j]? = some (k, x) → ∃ (p : Int × Int) (t : Tok), m[j]? = some p ∧ k = Sum.inl p.1 ∧ x = Value.int p.2 t := by
 have hl : vs.length = m.length := by
  have := rel.length
  simp [ZDN] at this
  omega
 refine ⟨hl, ?_⟩
 induction m generalizing vs with
 | nil => intro j k x e; cases rel; simp at e
 | cons p m ih =>
  cases rel with
  | cons h t =>
   rename_i q vs'
   intro j k x e
   cases j with
   | zero =>
    simp at e
    obtain ⟨h1, h2⟩ := h
    rw [e] at h1 h2
    obtain ⟨t', rfl⟩ := h2
    exact ⟨p, t', rfl, h1.symm, rfl⟩
   | succ j =>
    obtain ⟨p', t', g1, g2, g3⟩ := ih t (by simpa using hl) j k x (by simpa using e)
    exact ⟨p', t', by simpa using g1, g2, g3⟩
theorem ZHG {α β : Type} {F : α → β → Prop} : ∀ {l₁ : List α} {l₂ : List β}, l₁.length = l₂.length → (∀ (i : Nat) a b, l₁[i]? = some a → l₂[i]? = some b → F a b) → Paired F l₁ l₂
 | [], [], _, _ => .nil
 | [], _ :: _, h, _ => by simp at h
 | _ :: _, [], h, _ => by simp at h
 | a :: l₁, b :: l₂, h, f => .cons (f 0 a b rfl rfl) (ZHG (by simpa using h) fun i x y e1 e2 => f (i + 1) x y (by simpa using e1) (by simpa using e2))
theorem ZRs {P : Program} {w : World} {m : PL} {vs : List (Key × Value)} {lo : Addr} {h : Heap} {as : List Addr} (rel : KV (ZDN m) vs) (hl : as.length = vs.length) (g : KdxG (ZDg P w) vs lo h as) (a : Addr) (hna : ∀ b ∈ as, b ≠ a) :
  ZEd h a (as.map Value.ref) m := by
 obtain ⟨hvl, hv⟩ := ZNx rel
 refine ZHG (by rw [List.length_map]; omega) fun i v p e1 e2 => ?_
 rw [List.getElem?_map] at e1
 cases hb : as[i]? with
 | none => rw [hb] at e1; cases e1
 | some b =>
  rw [hb] at e1
  cases e1
  obtain ⟨key, k, x, g1, g2, g3⟩ := g.pairs i b hb
  obtain ⟨p', t', e3, e4, e5⟩ := hv i k x g1
  rw [e2] at e3
  cases e3
  subst e4 e5
  rcases ZDm (k := Sum.inl p.1) (v := key) g2 with ⟨y, t, z1, z2⟩ | ⟨y, t, z1, z2⟩
  ·cases z1
   subst z2
   exact ⟨b, t, t', rfl, hna b (List.mem_of_getElem? hb), _, g3, rfl, _, rfl⟩
  ·cases z1
theorem ZNy {P : Program} {w : World} {h : Heap} {a b : Addr} {p : Int × Int} {Hn : Hp} (e : ZJC h a (.ref b) p) : ZDR P w Hn h b (.tup [.int p.1, .int p.2]) := by
 obtain ⟨b', t, u, e1, _, ht⟩ := e
 cases e1
 exact ⟨⟨by show 2 ≤ sizeLine; decide, fun z => absurd rfl (z p.1)⟩, [.int p.1 t, .int p.2 u], .cons ⟨t, rfl⟩ (.cons ⟨u, rfl⟩ .nil), ht⟩
def ZHu (H : Hp) (as : List Addr) (ps : PL) (l : Addr) (vs : List V) (n : Nat) : Hp := fun b => if b < n then H b else if b = l then some (.lst vs) else ((as.zip ps).lookup b).map fun p => .tup [.int p.1, .int p.2]
theorem ZMu {as : List Addr} {ps : PL} (hn : as.Nodup) : ∀ {i : Nat} {b : Addr} {p : Int × Int}, as[i]? = some b → ps[i]? = some p → (as.zip ps).lookup b = some p := by
 induction as generalizing ps with
 | nil => intro i b p e; simp at e
 | cons a as ih =>
  intro i b p e1 e2
  rw [List.nodup_cons] at hn
  cases ps with
  | nil => simp at e2
  | cons q ps =>
   cases i with
   | zero => simp at e1 e2; subst e1 e2; simp [List.lookup]
   | succ i =>
    have e1 : as[i]? = some b := by simpa using e1
    have hb : b ≠ a := fun z => hn.1 (z ▸ List.mem_of_getElem? e1)
    have hb' : (b == a) = false := by simpa using hb
    have := ih hn.2 (ps := ps) e1 (by simpa using e2)
    simpa [List.lookup, hb'] using this
theorem ZJX {as : List Addr} {ps : PL} : ∀ {b : Addr} {p : Int × Int}, (as.zip ps).lookup b = some p → ∃ i : Nat, as[i]? = some b ∧ ps[i]? = some p := by
 induction as generalizing ps with
 | nil => intro b p e; simp [List.lookup] at e
 | cons a as ih =>
  intro b p e
  cases ps with
  | nil => simp [List.lookup] at e
  | cons q ps =>
   by_cases hb : b = a
   ·subst hb
    simp [List.lookup] at e
    subst e
    exact ⟨0, rfl, rfl⟩
   ·have hb' : (b == a) = false := by simpa using hb
    have e : (as.zip ps).lookup b = some p := by simpa [List.lookup, hb'] using e
    obtain ⟨i, h1, h2⟩ := ih e
    exact ⟨i + 1, by simpa using h1, by simpa using h2⟩
theorem ZNz {α : Type} {l : List α} {d : α} {ix : List Nat} (h : ix.Perm (List.range l.length)) : (ix.map fun i => l.getD i d).Perm l := by
 have e : (List.range l.length).map (fun i => l.getD i d) = l := by
  apply List.ext_getElem
  ·simp
  ·intro i h1 h2
   simp at h1 ⊢
   rw [List.getElem?_eq_getElem h1]
   rfl
 have := h.map fun i => l.getD i d
 rw [e] at this
 exact this
inductive ZDE (H : Hp) : V → Option (PL) → Prop where
 | non : ZDE H .non Option.none
 | pr {c : Addr} {qs : PL} (h : PrT H c qs) (hl : qs.length = 4) : ZDE H (.ref c) (Option.some qs)
theorem ZDE.same {H H' : Hp} {v : V} {o : Option (PL)} (h : ZDE H v o) (s : ZCq H H') : ZDE H' v o := by
 cases h with
 | non => exact .non
 | pr e hl => exact .pr (e.same s) hl
theorem ZDE.kpL {H H' : Hp} {l : Addr} {xs : List V} {v : V} {o : Option (PL)} (h : ZDE H v o) (k : Kp l H H') (hl : H l = Option.some (.lst xs)) : ZDE H' v o := by
 cases h with
 | non => exact .non
 | pr e hn => exact .pr (e.kpL k hl) hn
inductive ZDe (H : Hp) : List V → List (Option (PL)) → Prop where
 | nil : ZDe H [] []
 | cons {v : V} {o : Option (PL)} {vs : List V} {os : List (Option (PL))} (h : ZDE H v o) (t : ZDe H vs os) : ZDe H (v :: vs) (o :: os)
theorem ZDe.mapP {H H' : Hp} (f : ∀ v o, ZDE H v o → ZDE H' v o) : ∀ {vs : List V} {os : List (Option (PL))}, ZDe H vs os → ZDe H' vs os
 | _, _, .nil => .nil
 | _, _, .cons h t => .cons (f _ _ h) (ZDe.mapP f t)
theorem ZDe.same {H H' : Hp} {vs : List V} {os : List (Option (PL))} (h : ZDe H vs os) (s : ZCq H H') : ZDe H' vs os := h.mapP fun _ _ d => d.same s
theorem ZDe.len {H : Hp} : ∀ {vs : List V} {os : List (Option (PL))}, ZDe H vs os → vs.length = os.length
 | _, _, .nil => rfl
 | _, _, .cons _ t => by simp [ZDe.len t]
theorem ZDe.snoc {H : Hp} : ∀ {vs : List V} {os : List (Option (PL))}, ZDe H vs os → ∀ {v : V} {o : Option (PL)}, ZDE H v o → ZDe H (vs ++ [v]) (os ++ [o])
 | _, _, .nil, _, _, d => .cons d .nil
 | _, _, .cons h t, _, _, d => .cons h (ZDe.snoc t d)
theorem ZDe.at {H : Hp} : ∀ {vs : List V} {os : List (Option (PL))}, ZDe H vs os → ∀ {i : Nat} {v : V}, vs[i]? = Option.some v → ∃ o, os[i]? = Option.some o ∧ ZDE H v o
 | _, _, .nil, i, v, e => by simp at e
 | _, _, .cons h t, 0, v, e => by simp at e; subst e; exact ⟨_, rfl, h⟩
 | _, _, .cons _ t, i + 1, v, e => by
  obtain ⟨o, h1, h2⟩ := ZDe.at t (by simpa using e)
  exact ⟨o, by simpa using h1, h2⟩
def ZJE : Option (PL) → PyData
 | none => .none
 | some qs => .tuple (qs.map ZDj)
section
variable {X : Cx}
mutual
theorem Dat.same {K : W.Frag} {H H' : Hp} (s : ZCq H H') : ∀ {x : V} {d : PyData}, Dat K H x d → Dat K H' x d
 | _, _, .non => .non
 | _, _, .bl b => .bl b
 | _, _, .int i => .int i
 | _, _, .str x => .str x
 | _, _, .tup h r => .tup (s.seqT h) (ZEm.same s r)
 | _, _, .lst h r => .lst (s.seq h) (ZEm.same s r)
theorem ZEm.same {K : W.Frag} {H H' : Hp} (s : ZCq H H') : ∀ {x : List V} {d : List PyData}, ZEm K H x d → ZEm K H' x d
 | _, _, .nil => .nil
 | _, _, .cons h r => .cons (Dat.same s h) (ZEm.same s r)
end
end
section
variable {X : Cx} {pins : List (Addr × Obj)} {σ : St} {H : Hp} {s : Shared}
theorem ZJy {h' : Heap} {a : Addr} (I : Inv X pins σ H s) (k : ∀ b o, s.heap.get? b = some o → h'.get? b = some o) (ha : s.heap.objs.size ≤ a) :
  ∀ {us : List V} {m : PL} {its : List Value}, ZCt H us m → ZCz us its → ZEd h' a its m
 | _, _, _, .nil, .nil => .nil
 | _, _, _, .cons (b := p) ⟨b, e, z⟩ t, .cons r q => by
  subst e
  cases r
  obtain ⟨its, rv, hp, _⟩ := I.tuple (SqT.of z)
  obtain ⟨o, ho, hc, n, hd⟩ := hp
  have hb : b < s.heap.objs.size := Heap.lt_size ho
  obtain ⟨u1, u2, e2, r1, r2⟩ := rv.two
  obtain ⟨t1, rfl⟩ := r1
  obtain ⟨t2, rfl⟩ := r2
  subst e2
  exact .cons ⟨b, t1, t2, rfl, fun z => Nat.lt_irrefl _ (Nat.lt_of_lt_of_le (z ▸ hb) ha), o, k _ _ ho, hc, n, hd⟩ (ZJy I k ha t q)
end
theorem ZRt : ∀ {us : List V} {its : List Value}, ZCz us its → ∀ (ix : List Nat), (∀ i ∈ ix, i < us.length) → ZCz (ix.map fun i => us.getD i .non) (ix.map fun i => its.getD i Value.none) := by
 intro us its rv ix
 induction ix with
 | nil => intro _; exact .nil
 | cons i ix ih =>
  intro h
  have hi := h i (List.mem_cons_self ..)
  obtain ⟨u, hu, ru⟩ := rv.get (List.getElem?_eq_getElem hi)
  have e1 : us.getD i .non = us[i] := by simp [hi]
  have e2 : its.getD i Value.none = u := by simp [hu]
  refine .cons ?_ (ih fun j hj => h j (List.mem_cons_of_mem _ hj))
  show ZCx (us.getD i .non) (its.getD i Value.none)
  rw [e1, e2]
  exact ru
theorem ZPl {H : Hp} {us : List V} {m : PL} (hP : ZCt H us m) : ∀ (ix : List Nat), (∀ i ∈ ix, i < us.length) → ZCt H (ix.map fun i => us.getD i .non) (ix.map fun i => m.getD i (0, 0)) := by
 intro ix
 induction ix with
 | nil => intro _; exact .nil
 | cons i ix ih =>
  intro h
  have hi := h i (List.mem_cons_self ..)
  obtain ⟨c, p, e, hp, hc⟩ := hP.at (List.getElem?_eq_getElem hi)
  have e1 : us.getD i .non = us[i] := by simp [hi]
  have e2 : m.getD i (0, 0) = p := by simp [hp]
  refine .cons ⟨c, ?_, ?_⟩ (ih fun j hj => h j (List.mem_cons_of_mem _ hj))
  ·show us.getD i .non = _
   rw [e1, e]
  ·show H c = some (.tup [.int (m.getD i (0, 0)).1, .int (m.getD i (0, 0)).2])
   rw [e2]; exact hc
section
variable {X : Cx} {k : Nat} {f : Addr} {fd : FuncData} {ps : List Str} {sp : Sp}
theorem ZIE {pins : List (Addr × Obj)} {σ : St} {H : Hp} {s : Shared} {Q : VK} {us : List Value} {vs : List V} {E1 : Value → Shared → Prop} (F : ZCr X.prog X.w X.K X.mg X.base CX0 k f fd ps sp) (hr : Room k X.A.in1) (hb : ZCu X.K fd ps [])
  (I : Inv X pins σ H s) (r : ZCz vs us) (h : sp vs H Q E0) : wpAny (model X.prog X.w) X.A.in1 (call (.ref f) us) (EP X pins σ Q) E1 s := by
 have hl : (us ++ []).length = ps.length := by rw [List.append_nil, ← r.length]; exact F.len _ _ _ _ h
 refine wpAny_call (codeAny_mono (F.run X.A.in1 X.stack s H ⟨us, []⟩ (us ++ []) vs Q E0 hr I.env0.in1 (hb s us I.kIn hl) (by rw [List.append_nil]; exact r) h) fun r s' hq => ?_)
 cases r with
 | error e => exact False.elim hq
 | ok fl =>
  cases fl with
  | ret u => exact I.after hq
  | next => exact False.elim hq
  | brk => exact False.elim hq
  | cont => exact False.elim hq
theorem Inv.pin2 {pins : List (Addr × Obj)} {σ : St} {H : Hp} {s : Shared} {a b : Addr} {oa ob : Obj} (I : Inv X pins σ H s) (fa : ZEL X pins H a) (fb : ZEL X pins H b) (ha : s.heap.get? a = some oa) (hb : s.heap.get? b = some ob) (ca : ∀ v, oa.data ≠ .cell v) (cb : ∀ v, ob.data ≠ .cell v) :
  Inv X ((a, oa) :: (b, ob) :: pins) σ H s := I.pins_of fun p hp => by
 rcases List.mem_cons.mp hp with rfl | hp
 ·exact ⟨ha, fa.1, fa.2.1, fa.2.2.1, ca⟩
 ·rcases List.mem_cons.mp hp with rfl | hp
  ·exact ⟨hb, fb.1, fb.2.1, fb.2.2.1, cb⟩
  ·exact I.pin p (List.mem_append_right _ hp)
theorem Inv.unpin2 {pins : List (Addr × Obj)} {σ : St} {H : Hp} {s : Shared} {a b : Addr} {oa ob : Obj} (I : Inv X ((a, oa) :: (b, ob) :: pins) σ H s) : s.heap.get? a = some oa ∧ s.heap.get? b = some ob ∧ Inv X pins σ H s :=
 ⟨(I.pin (a, oa) (List.mem_append_right _ (.head _))).1, (I.pin (b, ob) (List.mem_append_right _ (.tail _ (.head _)))).1, I.pins_of fun p hp => I.pin p (List.mem_append_right _ (.tail _ (.tail _ hp)))⟩
theorem Inv.turnedAt {pins : List (Addr × Obj)} {σ : St} {H : Hp} {s : Shared} {h' : Heap} {t' : Nat} {it : Addr} (I : Inv X pins σ H s) (fa : ZEL X pins H it) (k : ∀ b o, b ≠ it → s.heap.get? b = some o → h'.get? b = some o) : Inv X pins σ H { s with heap := h', toks := t' } := by
 obtain ⟨f0, f1, f2, f3, f4, f5⟩ := fa
 exact I.turned k f0 f1 f3 f4 f5
theorem ZKD {pins : List (Addr × Obj)} {σ : St} {H : Hp} (hc : X.calm = true) (F : ZCr X.prog X.w X.K X.mg X.base CX0 k f fd ps sp) (hr : Room k X.A.in1) (hb : ZCu X.K fd ps []) {l I S : Addr} {us : List V} (kf : Nat → Int) (hSI : S ≠ I) (hS : SqT X.K H l us)
  (fI : ZEL X pins H I) (fS : ZEL X pins H S) (turn : ∀ i v, us[i]? = some v → ∀ Q : VK, Q (.int (kf i)) H → sp [v] H Q E0) {R : Result → Shared → Prop}
  (hR : ∀ i v u s', us[i]? = some v → ZCx v u → (∀ j, j < us.length → kf i ≤ kf j ∧ (j < i → kf i < kf j)) → Inv X pins σ H s' → R (.ok (.ret u)) s') :
  ∀ (r j i : Nat) (s : Shared) (v : V) (vb : Value) (tb : Tok) (c : Nat), us.length - (j + 1) = r → j + 1 ≤ us.length → Inv X pins σ H s → s.heap.get? S = some (seqObj "list" #[vb, .int (kf i) tb] c) → s.heap.IsTupleIter I l (j + 1) →
   us[i]? = some v → ZCx v vb → i ≤ j → (∀ j', j' ≤ j → kf i ≤ kf j' ∧ (j' < i → kf i < kf j')) →
   codeAny (model X.prog X.w) X.A (.builtin "min.loop" ⟨[.ref I, .ref f, .ref S], []⟩) R s := by
 have hname : (toString "min" ++ toString ".loop" : String) = "min.loop" := by decide
 intro r
 induction r with
 | zero =>
  intro j i s v vb tb c hr' hj J nS hit hv rv hij hbest
  have hin : j + 1 = us.length := by omega
  obtain ⟨its, rvs, p, hz⟩ := J.tuple hS
  have hl := rvs.length
  refine codeAny_builtin PySem.F.entry_min_loop ?_
  rw [Around.under_plainId PySem.F.plain_min_loop _]
  show wpAny _ X.A.in1 (seqItems? (.ref S) >>= _) _ _ _
  refine wpAny_bind (wpAny_seqItems nS rfl ?_)
  show wpAny _ X.A.in1 (tryCatch (pyNext (.ref I)) _ >>= _) _ _ _
  refine wpAny_bind (wpAny_tryCatch (wpAny_pyNext_tuple_end (J.ok.hd hc) hit (show s.heap.IsTuple l its.toArray from p) (by simp; omega) fun h' eb => ?_))
  have J1 : Inv X pins σ H { s with heap := h' } := J.turnedAt (t' := s.toks) fI fun b o hb e => eb b o hb e
  have hS' : h'.get? S = some (seqObj "list" #[vb, .int (kf i) tb] c) := eb S _ hSI nS
  show wpAny _ X.A.in1 (updateSeq S (fun _ => #[]) >>= _) _ _ _
  refine wpAny_bind ?_
  refine wpAny_updateSeq hS' rfl (wpAny_bind (wpAny_letGo (wpAny_pure ?_)))
  exact hR i v vb _ hv rv (fun j' hj' => hbest j' (by omega)) (J1.turnedAt (t' := s.toks) fS fun b o hb e => (Heap.get?_update_other _ _ (Ne.symm hb)).trans e)
 | succ r ih =>
  intro j i s v vb tb c hr' hj J nS hit hv rv hij hbest
  have hlt : j + 1 < us.length := by omega
  obtain ⟨its, rvs, p, hz⟩ := J.tuple hS
  have hx : us[j + 1]? = some us[j + 1] := List.getElem?_eq_getElem hlt
  obtain ⟨u, hu, ru⟩ := rvs.get hx
  refine codeAny_builtin PySem.F.entry_min_loop ?_
  rw [Around.under_plainId PySem.F.plain_min_loop _]
  show wpAny _ X.A.in1 (seqItems? (.ref S) >>= _) _ _ _
  refine wpAny_bind (wpAny_seqItems nS rfl ?_)
  show wpAny _ X.A.in1 (tryCatch (pyNext (.ref I)) _ >>= _) _ _ _
  refine wpAny_bind (wpAny_tryCatch (wpAny_pyNext_tuple_item hit (show s.heap.IsTuple l its.toArray from p) (x := u) (by simpa using hu) fun h' st' sb => ?_))
  have J1 : Inv X pins σ H { s with heap := h' } := J.turnedAt (t' := s.toks) fI fun b o hb e => (sb.2 b hb).trans e
  have hS' : h'.get? S = some (seqObj "list" #[vb, .int (kf i) tb] c) := (sb.2 S hSI).trans nS
  obtain ⟨oI, hoI, hoc, hod⟩ := id st'
  have J2 := J1.pin2 (s := { s with heap := h' }) fS fI hS' hoI (fun v z => by cases z) (fun v z => by rw [hod] at z; cases z)
  show wpAny _ X.A.in1 (tryCatch (holding [u] (call (.ref f) [u])) _ >>= _) _ _ _
  refine wpAny_bind (wpAny_tryCatch (wpAny_holding (wpAny_mono (ZIE (E1 := fun _ _ => False) F hr hb J2 (.cons ru .nil) (turn (j + 1) _ hx (fun v H' => v = .int (kf (j + 1)) ∧ H' = H) ⟨rfl, rfl⟩)) (fun x s'' he => ?_) fun _ _ hF => hF.elim)))
  obtain ⟨v2, H2, J3, r2, e2, e3⟩ := he
  subst e2 e3
  obtain ⟨t2, rfl⟩ := r2
  obtain ⟨nS2, nI2, J4⟩ := J3.unpin2
  have hit2 : s''.heap.IsTupleIter I l (j + 1 + 1) := ⟨oI, nI2, hoc, hod⟩
  show wpAny _ X.A.in1 (tryCatch (holding [u, .int (kf (j + 1)) t2] (richCompare .Lt (.int (kf (j + 1)) t2) (.int (kf i) tb) >>= _)) _ >>= _) _ _ _
  refine wpAny_bind (wpAny_tryCatch (wpAny_holding (wpAny_bind (CmpOf.ints_lt (prog := X.prog) (w := X.w) (A := X.A.in1) (P := fun i v => ∃ t, v = .int (kf i) t) kf (fun i v h => h) (j + 1) i _ _ _ _ _ ⟨t2, rfl⟩ ⟨tb, rfl⟩ ?_))))
  refine wpAny_bind (wpAny_holding (wpAny_truthy_bool ?_))
  refine wpAny_bind (wpAny_letGo (wpAny_pure ?_))
  by_cases hb' : kf (j + 1) < kf i
  ·obtain ⟨c2, hc2⟩ : ∃ c2, (s''.heap.update S (Obj.mapSeq fun _ => #[u, .int (kf (j + 1)) t2])).get? S = some (seqObj "list" #[u, .int (kf (j + 1)) t2] c2) := ⟨_, get?_update_seq nS2 fun _ => #[u, .int (kf (j + 1)) t2]⟩
   simp only [hb', decide_true, if_true]
   refine wpAny_bind ?_
   refine wpAny_updateSeq nS2 rfl (wpAny_bind (wpAny_letGo ?_))
   rw [hname]
   refine wpAny_pure ⟨plainId_quiet PySem.F.plain_min_loop _, ih (j + 1) (j + 1) _ _ u t2 c2 (by omega) hlt (J4.turnedAt (t' := s''.toks) fS fun b o hb e => (Heap.get?_update_other _ _ (Ne.symm hb)).trans e) hc2 ⟨oI, (Heap.get?_update_other _ _ hSI).trans nI2, hoc, hod⟩ hx ru (Nat.le_refl _) fun j' hj' => ?_⟩
   by_cases e : j' = j + 1
   ·subst e
    exact ⟨by omega, fun _ => by omega⟩
   ·have hb1 := hbest j' (by omega)
    have hb2 := hb1.1
    exact ⟨by omega, fun _ => by omega⟩
  ·simp only [hb', decide_false, Bool.false_eq_true, if_false]
   refine wpAny_bind (wpAny_letGo ?_)
   rw [hname]
   refine wpAny_pure ⟨plainId_quiet PySem.F.plain_min_loop _, ih (j + 1) i _ v vb tb c (by omega) hlt J4 nS2 hit2 hv rv (by omega) fun j' hj' => ?_⟩
   by_cases e : j' = j + 1
   ·subst e
    exact ⟨by omega, fun _ => by omega⟩
   ·exact hbest j' (by omega)
theorem ZKE {pins : List (Addr × Obj)} {σ : St} {H : Hp} {s : Shared} {Q : VK} {E1 : Value → Shared → Prop} (hc : X.calm = true) (F : ZCr X.prog X.w X.K X.mg X.base CX0 k f fd ps sp) (hr : Room k X.A.in1) (hb : ZCu X.K fd ps []) {l : Addr} {us : List V} (kf : Nat → Int) (J : Inv X pins σ H s) (hS : SqT X.K H l us) (hne : us ≠ [])
  (turn : ∀ i v, us[i]? = some v → ∀ Q : VK, Q (.int (kf i)) H → sp [v] H Q E0) (hQ : ∀ i v, us[i]? = some v → (∀ j, j < us.length → kf i ≤ kf j ∧ (j < i → kf i < kf j)) → Q v H) :
  wpAny (model X.prog X.w) X.A (call (.builtin "min") [.ref l] [(Str.ofString "key", .ref f)]) (EP X pins σ Q) E1 s := by
 have hname : (toString "min" ++ toString ".loop" : String) = "min.loop" := by decide
 have hpos : 0 < us.length := List.length_pos_iff.mpr hne
 obtain ⟨its, rvs, p, hz⟩ := J.tuple hS
 have hls : s.heap.IsTuple l its.toArray := p
 refine kmk_tree PySem.F.kind_min PySem.F.plain_min PySem.F.entry_min (kmk_min_key _ _) ?_
 show wpAny _ X.A.in1 (Builtin.Builtins.bindParams "min" ["key", "default"] 0 ⟨[], [(Str.ofString "key", .ref f)]⟩ >>= _) _ _ s
 refine wpAny_bind (wpAny_of_eq (show Builtin.Builtins.bindParams "min" ["key", "default"] 0 ⟨[], [(Str.ofString "key", .ref f)]⟩ = pure [some (.ref f), none] from rfl) ?_)
 refine wpAny_bind (wpAny_pure ?_)
 refine wpAny_bind (wpAny_pyIter_tuple hls ?_)
 refine wpAny_bind (wpAny_newList ?_ (Nat.zero_le _))
 rw [hname]
 refine wpAny_pure ⟨plainId_quiet PySem.F.plain_min_loop _, ?_⟩
 generalize hO : ({ cls := .type "tuple_iterator", data := .fields #[.ref l, .int 0 0] } : Obj) = O
 have hSs : (s.heap.push O).objs.size = s.heap.objs.size + 1 := size_push' ..
 have hSI : (s.heap.push O).objs.size ≠ s.heap.objs.size := by rw [hSs]; exact Nat.ne_of_gt (Nat.lt_succ_self _)
 have gI : ((s.heap.push O).push (seqObj "list" #[] 0)).get? s.heap.objs.size = some O := Heap.get?_push_of_some _ (Heap.get?_push_size _ (by rw [← hO]; rfl))
 have gS : ((s.heap.push O).push (seqObj "list" #[] 0)).get? (s.heap.push O).objs.size = some (seqObj "list" #[] 0) := Heap.get?_push_size _ rfl
 have fI : ZEL X pins H s.heap.objs.size := J.fpOk (Nat.le_refl _) (J.hok.fresh (Nat.le_refl _))
 have fS : ZEL X pins H (s.heap.push O).objs.size := J.fpOk (by rw [hSs]; exact Nat.le_succ _) (J.hok.fresh (by rw [hSs]; exact Nat.le_succ _))
 have J0 : Inv X pins σ H { s with heap := (s.heap.push O).push (seqObj "list" #[] 0) } := J.kept (t' := s.toks) fun b o e => Heap.get?_push_of_some _ (Heap.get?_push_of_some _ e)
 obtain ⟨its0, rvs0, p0, hz0⟩ := J0.tuple hS
 have hx : us[0]? = some us[0] := List.getElem?_eq_getElem hpos
 obtain ⟨u, hu, ru⟩ := rvs0.get hx
 refine codeAny_builtin PySem.F.entry_min_loop ?_
 rw [Around.under_plainId PySem.F.plain_min_loop _]
 show wpAny _ X.A.in1 (seqItems? (.ref _) >>= _) _ _ _
 refine wpAny_bind (wpAny_seqItems gS rfl ?_)
 show wpAny _ X.A.in1 (tryCatch (pyNext (.ref s.heap.objs.size)) _ >>= _) _ _ _
 refine wpAny_bind (wpAny_tryCatch (wpAny_pyNext_tuple_item (s := { s with heap := (s.heap.push O).push (seqObj "list" #[] 0) }) (i := 0) ⟨O, gI, by rw [← hO], by rw [← hO]; rfl⟩ (show ((s.heap.push O).push (seqObj "list" #[] 0)).IsTuple l its0.toArray from p0) (x := u) (by simpa using hu) fun h' st' sb => ?_))
 have J1 : Inv X pins σ H { s with heap := h' } := J0.turnedAt (t' := s.toks) fI fun b o hb e => (sb.2 b hb).trans e
 have hS' : h'.get? (s.heap.push O).objs.size = some (seqObj "list" #[] 0) := (sb.2 _ hSI).trans gS
 obtain ⟨oI, hoI, hoc, hod⟩ := id st'
 have J2 := J1.pin2 (s := { s with heap := h' }) fS fI hS' hoI (fun v z => by cases z) (fun v z => by rw [hod] at z; cases z)
 show wpAny _ X.A.in1 (tryCatch (holding [u] (call (.ref f) [u])) _ >>= _) _ _ _
 refine wpAny_bind (wpAny_tryCatch (wpAny_holding (wpAny_mono (ZIE (E1 := fun _ _ => False) F hr hb J2 (.cons ru .nil) (turn 0 _ hx (fun v H' => v = .int (kf 0) ∧ H' = H) ⟨rfl, rfl⟩)) (fun x s'' he => ?_) fun _ _ hF => hF.elim)))
 obtain ⟨v2, H2, J3, r2, e2, e3⟩ := he
 subst e2 e3
 obtain ⟨t2, rfl⟩ := r2
 obtain ⟨nS2, nI2, J4⟩ := J3.unpin2
 obtain ⟨c2, hc2⟩ : ∃ c2, (s''.heap.update (s.heap.push O).objs.size (Obj.mapSeq fun _ => #[u, .int (kf 0) t2])).get? (s.heap.push O).objs.size = some (seqObj "list" #[u, .int (kf 0) t2] c2) := ⟨_, get?_update_seq nS2 fun _ => #[u, .int (kf 0) t2]⟩
 show wpAny _ X.A.in1 (updateSeq (s.heap.push O).objs.size (fun _ => #[u, .int (kf 0) t2]) >>= _) _ _ _
 refine wpAny_bind ?_
 refine wpAny_updateSeq nS2 rfl ?_
 rw [hname]
 refine wpAny_pure ⟨plainId_quiet PySem.F.plain_min_loop _, ZKD hc F hr hb kf hSI hS fI fS turn (fun i v u s' hv rv hbest J' => ⟨v, _, J', rv, hQ i v hv hbest⟩) _ 0 0 _ _ u t2 c2 rfl hpos (J4.turnedAt (t' := s''.toks) fS fun b o hb e => (Heap.get?_update_other _ _ (Ne.symm hb)).trans e) hc2 ⟨oI, (Heap.get?_update_other _ _ hSI).trans nI2, hoc, hod⟩ hx ru (Nat.le_refl _) fun j' hj' => ?_⟩
 have e : j' = 0 := by omega
 subst e
 exact ⟨by omega, fun h => absurd h (Nat.lt_irrefl _)⟩
def ZIh (K : W.Frag) (sp : Sp) (vs : List V) (H : Hp) (Q : VK) : Prop := ∃ (l : Addr) (us : List V) (kf : Nat → Int), vs = [.ref l] ∧ SqT K H l us ∧ us ≠ [] ∧ (∀ i v, us[i]? = some v → ∀ Q : VK, Q (.int (kf i)) H → sp [v] H Q E0) ∧
 ∀ i v, us[i]? = some v → (∀ j, j < us.length → kf i ≤ kf j ∧ (j < i → kf i < kf j)) → Q v H
def ZK4 (K : W.Frag) (sp : Sp) (t : TA) : TE := fun σ H Q => t σ H fun vs H1 => ZIh K sp vs H1 Q
theorem ZMv {x : Str} {e : Expr} {t : TA} {p kp kpos pos : Pos} (K : W.Frag) (hK : X.K = K) (hc : X.calm = true) (F : ZCr X.prog X.w X.K X.mg X.base CX0 k f fd ps sp) (hr : Room (k + 1) X.A) (hgm : Gl X "min") (hmm : X.mg "min" = none) (hg : Gl X x) (hm : X.mg x = some (.ref f)) (hb : ZCu X.K fd ps []) (ha : QA X [e] t)
  (hs : ZEp e = false := by rfl) (hd : (x == ("__debug__" : Str)) = false := by decide) : QE X (.Call (.Name "min" p) [e] [⟨some "key", .Name x kp, kpos⟩] pos) (ZK4 K sp t) := by
 subst hK
 refine ⟨?_⟩
 intro pins s σ H Q I h
 refine wpAny_Call_Name_kw (ZFj I hgm hmm ZNi ?_ (by decide) (by decide))
 have hse := ZET (e := e) (es := []) (env := X.env) hs
 refine PyProof.Rows.callWith_kw (thn (ha.h pos pins s σ H _ I h) fun us s1 ⟨vs, H1, I1, r1, q1⟩ => PyProof.Rows.kws_cons (ZEu I1 hg hm (PyProof.Rows.kws_nil ?_) hd)) (by rw [hse]; rfl) (by rw [hse]; rfl)
 obtain ⟨l, ws, kf, e1, g1, g2, g3, g4⟩ := q1
 subst e1
 obtain ⟨u, rfl, ru⟩ := r1.one
 cases ru
 exact ZKE hc F hr.in1 hb kf I1 g1 g2 g3 g4
theorem ZMw {K : W.Frag} {H : Hp} {Q : VK} {sp : Sp} {l : Addr} {us : List V} (kf : Nat → Int) (h1 : SqT K H l us) (h2 : us ≠ []) (h3 : ∀ i v, us[i]? = some v → ∀ Q : VK, Q (.int (kf i)) H → sp [v] H Q E0)
 (h : ∀ i v, us[i]? = some v → (∀ j, j < us.length → kf i ≤ kf j ∧ (j < i → kf i < kf j)) → Q v H) : ZIh K sp [.ref l] H Q := ⟨l, us, kf, rfl, h1, h2, h3, h⟩
theorem ZLp {K : W.Frag} {sp : Sp} {t : TA} {σ : St} {H : Hp} {Q : VK} (h : t σ H fun vs H1 => ZIh K sp vs H1 Q) : ZK4 K sp t σ H Q := h
theorem ZKF {pins : List (Addr × Obj)} {σ : St} {H : Hp} (hc : X.calm = true) (F : ZCr X.prog X.w X.K X.mg X.base CX0 k f fd ps sp) (hr : Room k X.A.in1) (hb : ZCu X.K fd ps []) {l I S : Addr} {us : List V} (kf : Nat → Int) (hSI : S ≠ I) (hS : SqT X.K H l us)
  (fI : ZEL X pins H I) (fS : ZEL X pins H S) (turn : ∀ i v, us[i]? = some v → ∀ Q : VK, Q (.int (kf i)) H → sp [v] H Q E0) {R : Result → Shared → Prop}
  (hR : ∀ i v u s', us[i]? = some v → ZCx v u → (∀ j, j < us.length → kf i ≥ kf j ∧ (j < i → kf i > kf j)) → Inv X pins σ H s' → R (.ok (.ret u)) s') :
  ∀ (r j i : Nat) (s : Shared) (v : V) (vb : Value) (tb : Tok) (c : Nat), us.length - (j + 1) = r → j + 1 ≤ us.length → Inv X pins σ H s → s.heap.get? S = some (seqObj "list" #[vb, .int (kf i) tb] c) → s.heap.IsTupleIter I l (j + 1) →
   us[i]? = some v → ZCx v vb → i ≤ j → (∀ j', j' ≤ j → kf i ≥ kf j' ∧ (j' < i → kf i > kf j')) →
   codeAny (model X.prog X.w) X.A (.builtin "max.loop" ⟨[.ref I, .ref f, .ref S], []⟩) R s := by
 have hname : (toString "max" ++ toString ".loop" : String) = "max.loop" := by decide
 intro r
 induction r with
 | zero =>
  intro j i s v vb tb c hr' hj J nS hit hv rv hij hbest
  have hin : j + 1 = us.length := by omega
  obtain ⟨its, rvs, p, hz⟩ := J.tuple hS
  have hl := rvs.length
  refine codeAny_builtin PySem.F.entry_max_loop ?_
  rw [Around.under_plainId PySem.F.plain_max_loop _]
  show wpAny _ X.A.in1 (seqItems? (.ref S) >>= _) _ _ _
  refine wpAny_bind (wpAny_seqItems nS rfl ?_)
  show wpAny _ X.A.in1 (tryCatch (pyNext (.ref I)) _ >>= _) _ _ _
  refine wpAny_bind (wpAny_tryCatch (wpAny_pyNext_tuple_end (J.ok.hd hc) hit (show s.heap.IsTuple l its.toArray from p) (by simp; omega) fun h' eb => ?_))
  have J1 : Inv X pins σ H { s with heap := h' } := J.turnedAt (t' := s.toks) fI fun b o hb e => eb b o hb e
  have hS' : h'.get? S = some (seqObj "list" #[vb, .int (kf i) tb] c) := eb S _ hSI nS
  show wpAny _ X.A.in1 (updateSeq S (fun _ => #[]) >>= _) _ _ _
  refine wpAny_bind ?_
  refine wpAny_updateSeq hS' rfl (wpAny_bind (wpAny_letGo (wpAny_pure ?_)))
  exact hR i v vb _ hv rv (fun j' hj' => hbest j' (by omega)) (J1.turnedAt (t' := s.toks) fS fun b o hb e => (Heap.get?_update_other _ _ (Ne.symm hb)).trans e)
 | succ r ih =>
  intro j i s v vb tb c hr' hj J nS hit hv rv hij hbest
  have hlt : j + 1 < us.length := by omega
  obtain ⟨its, rvs, p, hz⟩ := J.tuple hS
  have hx : us[j + 1]? = some us[j + 1] := List.getElem?_eq_getElem hlt
  obtain ⟨u, hu, ru⟩ := rvs.get hx
  refine codeAny_builtin PySem.F.entry_max_loop ?_
  rw [Around.under_plainId PySem.F.plain_max_loop _]
  show wpAny _ X.A.in1 (seqItems? (.ref S) >>= _) _ _ _
  refine wpAny_bind (wpAny_seqItems nS rfl ?_)
  show wpAny _ X.A.in1 (tryCatch (pyNext (.ref I)) _ >>= _) _ _ _
  refine wpAny_bind (wpAny_tryCatch (wpAny_pyNext_tuple_item hit (show s.heap.IsTuple l its.toArray from p) (x := u) (by simpa using hu) fun h' st' sb => ?_))
  have J1 : Inv X pins σ H { s with heap := h' } := J.turnedAt (t' := s.toks) fI fun b o hb e => (sb.2 b hb).trans e
  have hS' : h'.get? S = some (seqObj "list" #[vb, .int (kf i) tb] c) := (sb.2 S hSI).trans nS
  obtain ⟨oI, hoI, hoc, hod⟩ := id st'
  have J2 := J1.pin2 (s := { s with heap := h' }) fS fI hS' hoI (fun v z => by cases z) (fun v z => by rw [hod] at z; cases z)
  show wpAny _ X.A.in1 (tryCatch (holding [u] (call (.ref f) [u])) _ >>= _) _ _ _
  refine wpAny_bind (wpAny_tryCatch (wpAny_holding (wpAny_mono (ZIE (E1 := fun _ _ => False) F hr hb J2 (.cons ru .nil) (turn (j + 1) _ hx (fun v H' => v = .int (kf (j + 1)) ∧ H' = H) ⟨rfl, rfl⟩)) (fun x s'' he => ?_) fun _ _ hF => hF.elim)))
  obtain ⟨v2, H2, J3, r2, e2, e3⟩ := he
  subst e2 e3
  obtain ⟨t2, rfl⟩ := r2
  obtain ⟨nS2, nI2, J4⟩ := J3.unpin2
  have hit2 : s''.heap.IsTupleIter I l (j + 1 + 1) := ⟨oI, nI2, hoc, hod⟩
  show wpAny _ X.A.in1 (tryCatch (holding [u, .int (kf (j + 1)) t2] (richCompare .Gt (.int (kf (j + 1)) t2) (.int (kf i) tb) >>= _)) _ >>= _) _ _ _
  refine wpAny_bind (wpAny_tryCatch (wpAny_holding (wpAny_bind (CmpOf.ints_gt (prog := X.prog) (w := X.w) (A := X.A.in1) (P := fun i v => ∃ t, v = .int (kf i) t) kf (fun i v h => h) (j + 1) i _ _ _ _ _ ⟨t2, rfl⟩ ⟨tb, rfl⟩ ?_))))
  refine wpAny_bind (wpAny_holding (wpAny_truthy_bool ?_))
  refine wpAny_bind (wpAny_letGo (wpAny_pure ?_))
  by_cases hb' : kf (j + 1) > kf i
  ·obtain ⟨c2, hc2⟩ : ∃ c2, (s''.heap.update S (Obj.mapSeq fun _ => #[u, .int (kf (j + 1)) t2])).get? S = some (seqObj "list" #[u, .int (kf (j + 1)) t2] c2) := ⟨_, get?_update_seq nS2 fun _ => #[u, .int (kf (j + 1)) t2]⟩
   simp only [hb', decide_true, if_true]
   refine wpAny_bind ?_
   refine wpAny_updateSeq nS2 rfl (wpAny_bind (wpAny_letGo ?_))
   rw [hname]
   refine wpAny_pure ⟨plainId_quiet PySem.F.plain_max_loop _, ih (j + 1) (j + 1) _ _ u t2 c2 (by omega) hlt (J4.turnedAt (t' := s''.toks) fS fun b o hb e => (Heap.get?_update_other _ _ (Ne.symm hb)).trans e) hc2 ⟨oI, (Heap.get?_update_other _ _ hSI).trans nI2, hoc, hod⟩ hx ru (Nat.le_refl _) fun j' hj' => ?_⟩
   by_cases e : j' = j + 1
   ·subst e
    exact ⟨by omega, fun _ => by omega⟩
   ·have hb1 := hbest j' (by omega)
    have hb2 := hb1.1
    exact ⟨by omega, fun _ => by omega⟩
  ·simp only [hb', decide_false, Bool.false_eq_true, if_false]
   refine wpAny_bind (wpAny_letGo ?_)
   rw [hname]
   refine wpAny_pure ⟨plainId_quiet PySem.F.plain_max_loop _, ih (j + 1) i _ v vb tb c (by omega) hlt J4 nS2 hit2 hv rv (by omega) fun j' hj' => ?_⟩
   by_cases e : j' = j + 1
   ·subst e
    exact ⟨by omega, fun _ => by omega⟩
   ·exact hbest j' (by omega)
theorem ZKG {pins : List (Addr × Obj)} {σ : St} {H : Hp} {s : Shared} {Q : VK} {E1 : Value → Shared → Prop} (hc : X.calm = true) (F : ZCr X.prog X.w X.K X.mg X.base CX0 k f fd ps sp) (hr : Room k X.A.in1) (hb : ZCu X.K fd ps []) {l : Addr} {us : List V} (kf : Nat → Int) (J : Inv X pins σ H s) (hS : SqT X.K H l us) (hne : us ≠ [])
  (turn : ∀ i v, us[i]? = some v → ∀ Q : VK, Q (.int (kf i)) H → sp [v] H Q E0) (hQ : ∀ i v, us[i]? = some v → (∀ j, j < us.length → kf i ≥ kf j ∧ (j < i → kf i > kf j)) → Q v H) :
  wpAny (model X.prog X.w) X.A (call (.builtin "max") [.ref l] [(Str.ofString "key", .ref f)]) (EP X pins σ Q) E1 s := by
 have hname : (toString "max" ++ toString ".loop" : String) = "max.loop" := by decide
 have hpos : 0 < us.length := List.length_pos_iff.mpr hne
 obtain ⟨its, rvs, p, hz⟩ := J.tuple hS
 have hls : s.heap.IsTuple l its.toArray := p
 refine kmk_tree PySem.F.kind_max PySem.F.plain_max PySem.F.entry_max (kmk_max_key _ _) ?_
 show wpAny _ X.A.in1 (Builtin.Builtins.bindParams "max" ["key", "default"] 0 ⟨[], [(Str.ofString "key", .ref f)]⟩ >>= _) _ _ s
 refine wpAny_bind (wpAny_of_eq (show Builtin.Builtins.bindParams "max" ["key", "default"] 0 ⟨[], [(Str.ofString "key", .ref f)]⟩ = pure [some (.ref f), none] from rfl) ?_)
 refine wpAny_bind (wpAny_pure ?_)
 refine wpAny_bind (wpAny_pyIter_tuple hls ?_)
 refine wpAny_bind (wpAny_newList ?_ (Nat.zero_le _))
 rw [hname]
 refine wpAny_pure ⟨plainId_quiet PySem.F.plain_max_loop _, ?_⟩
 generalize hO : ({ cls := .type "tuple_iterator", data := .fields #[.ref l, .int 0 0] } : Obj) = O
 have hSs : (s.heap.push O).objs.size = s.heap.objs.size + 1 := size_push' ..
 have hSI : (s.heap.push O).objs.size ≠ s.heap.objs.size := by rw [hSs]; exact Nat.ne_of_gt (Nat.lt_succ_self _)
 have gI : ((s.heap.push O).push (seqObj "list" #[] 0)).get? s.heap.objs.size = some O := Heap.get?_push_of_some _ (Heap.get?_push_size _ (by rw [← hO]; rfl))
 have gS : ((s.heap.push O).push (seqObj "list" #[] 0)).get? (s.heap.push O).objs.size = some (seqObj "list" #[] 0) := Heap.get?_push_size _ rfl
 have fI : ZEL X pins H s.heap.objs.size := J.fpOk (Nat.le_refl _) (J.hok.fresh (Nat.le_refl _))
 have fS : ZEL X pins H (s.heap.push O).objs.size := J.fpOk (by rw [hSs]; exact Nat.le_succ _) (J.hok.fresh (by rw [hSs]; exact Nat.le_succ _))
 have J0 : Inv X pins σ H { s with heap := (s.heap.push O).push (seqObj "list" #[] 0) } := J.kept (t' := s.toks) fun b o e => Heap.get?_push_of_some _ (Heap.get?_push_of_some _ e)
 obtain ⟨its0, rvs0, p0, hz0⟩ := J0.tuple hS
 have hx : us[0]? = some us[0] := List.getElem?_eq_getElem hpos
 obtain ⟨u, hu, ru⟩ := rvs0.get hx
 refine codeAny_builtin PySem.F.entry_max_loop ?_
 rw [Around.under_plainId PySem.F.plain_max_loop _]
 show wpAny _ X.A.in1 (seqItems? (.ref _) >>= _) _ _ _
 refine wpAny_bind (wpAny_seqItems gS rfl ?_)
 show wpAny _ X.A.in1 (tryCatch (pyNext (.ref s.heap.objs.size)) _ >>= _) _ _ _
 refine wpAny_bind (wpAny_tryCatch (wpAny_pyNext_tuple_item (s := { s with heap := (s.heap.push O).push (seqObj "list" #[] 0) }) (i := 0) ⟨O, gI, by rw [← hO], by rw [← hO]; rfl⟩ (show ((s.heap.push O).push (seqObj "list" #[] 0)).IsTuple l its0.toArray from p0) (x := u) (by simpa using hu) fun h' st' sb => ?_))
 have J1 : Inv X pins σ H { s with heap := h' } := J0.turnedAt (t' := s.toks) fI fun b o hb e => (sb.2 b hb).trans e
 have hS' : h'.get? (s.heap.push O).objs.size = some (seqObj "list" #[] 0) := (sb.2 _ hSI).trans gS
 obtain ⟨oI, hoI, hoc, hod⟩ := id st'
 have J2 := J1.pin2 (s := { s with heap := h' }) fS fI hS' hoI (fun v z => by cases z) (fun v z => by rw [hod] at z; cases z)
 show wpAny _ X.A.in1 (tryCatch (holding [u] (call (.ref f) [u])) _ >>= _) _ _ _
 refine wpAny_bind (wpAny_tryCatch (wpAny_holding (wpAny_mono (ZIE (E1 := fun _ _ => False) F hr hb J2 (.cons ru .nil) (turn 0 _ hx (fun v H' => v = .int (kf 0) ∧ H' = H) ⟨rfl, rfl⟩)) (fun x s'' he => ?_) fun _ _ hF => hF.elim)))
 obtain ⟨v2, H2, J3, r2, e2, e3⟩ := he
 subst e2 e3
 obtain ⟨t2, rfl⟩ := r2
 obtain ⟨nS2, nI2, J4⟩ := J3.unpin2
 obtain ⟨c2, hc2⟩ : ∃ c2, (s''.heap.update (s.heap.push O).objs.size (Obj.mapSeq fun _ => #[u, .int (kf 0) t2])).get? (s.heap.push O).objs.size = some (seqObj "list" #[u, .int (kf 0) t2] c2) := ⟨_, get?_update_seq nS2 fun _ => #[u, .int (kf 0) t2]⟩
 show wpAny _ X.A.in1 (updateSeq (s.heap.push O).objs.size (fun _ => #[u, .int (kf 0) t2]) >>= _) _ _ _
 refine wpAny_bind ?_
 refine wpAny_updateSeq nS2 rfl ?_
 rw [hname]
 refine wpAny_pure ⟨plainId_quiet PySem.F.plain_max_loop _, ZKF hc F hr hb kf hSI hS fI fS turn (fun i v u s' hv rv hbest J' => ⟨v, _, J', rv, hQ i v hv hbest⟩) _ 0 0 _ _ u t2 c2 rfl hpos (J4.turnedAt (t' := s''.toks) fS fun b o hb e => (Heap.get?_update_other _ _ (Ne.symm hb)).trans e) hc2 ⟨oI, (Heap.get?_update_other _ _ hSI).trans nI2, hoc, hod⟩ hx ru (Nat.le_refl _) fun j' hj' => ?_⟩
 have e : j' = 0 := by omega
 subst e
 exact ⟨by omega, fun h => absurd h (Nat.lt_irrefl _)⟩
def ZIi (K : W.Frag) (sp : Sp) (vs : List V) (H : Hp) (Q : VK) : Prop := ∃ (l : Addr) (us : List V) (kf : Nat → Int), vs = [.ref l] ∧ SqT K H l us ∧ us ≠ [] ∧ (∀ i v, us[i]? = some v → ∀ Q : VK, Q (.int (kf i)) H → sp [v] H Q E0) ∧
 ∀ i v, us[i]? = some v → (∀ j, j < us.length → kf i ≥ kf j ∧ (j < i → kf i > kf j)) → Q v H
def ZK5 (K : W.Frag) (sp : Sp) (t : TA) : TE := fun σ H Q => t σ H fun vs H1 => ZIi K sp vs H1 Q
theorem ZMx {x : Str} {e : Expr} {t : TA} {p kp kpos pos : Pos} (K : W.Frag) (hK : X.K = K) (hc : X.calm = true) (F : ZCr X.prog X.w X.K X.mg X.base CX0 k f fd ps sp) (hr : Room (k + 1) X.A) (hgm : Gl X "max") (hmm : X.mg "max" = none) (hg : Gl X x) (hm : X.mg x = some (.ref f)) (hb : ZCu X.K fd ps []) (ha : QA X [e] t)
  (hs : ZEp e = false := by rfl) (hd : (x == ("__debug__" : Str)) = false := by decide) : QE X (.Call (.Name "max" p) [e] [⟨some "key", .Name x kp, kpos⟩] pos) (ZK5 K sp t) := by
 subst hK
 refine ⟨?_⟩
 intro pins s σ H Q I h
 refine wpAny_Call_Name_kw (ZFj I hgm hmm ZNh ?_ (by decide) (by decide))
 have hse := ZET (e := e) (es := []) (env := X.env) hs
 refine PyProof.Rows.callWith_kw (thn (ha.h pos pins s σ H _ I h) fun us s1 ⟨vs, H1, I1, r1, q1⟩ => PyProof.Rows.kws_cons (ZEu I1 hg hm (PyProof.Rows.kws_nil ?_) hd)) (by rw [hse]; rfl) (by rw [hse]; rfl)
 obtain ⟨l, ws, kf, e1, g1, g2, g3, g4⟩ := q1
 subst e1
 obtain ⟨u, rfl, ru⟩ := r1.one
 cases ru
 exact ZKG hc F hr.in1 hb kf I1 g1 g2 g3 g4
theorem ZMy {K : W.Frag} {H : Hp} {Q : VK} {sp : Sp} {l : Addr} {us : List V} (kf : Nat → Int) (h1 : SqT K H l us) (h2 : us ≠ []) (h3 : ∀ i v, us[i]? = some v → ∀ Q : VK, Q (.int (kf i)) H → sp [v] H Q E0)
 (h : ∀ i v, us[i]? = some v → (∀ j, j < us.length → kf i ≥ kf j ∧ (j < i → kf i > kf j)) → Q v H) : ZIi K sp [.ref l] H Q := ⟨l, us, kf, rfl, h1, h2, h3, h⟩
theorem ZLq {K : W.Frag} {sp : Sp} {t : TA} {σ : St} {H : Hp} {Q : VK} (h : t σ H fun vs H1 => ZIi K sp vs H1 Q) : ZK5 K sp t σ H Q := h
end
section
variable {X : Cx} {o e value : Expr} {f m : Str} {pos pos' tpos apos : Pos} {ta tv : TE} {t : TA}
def ZTk (K : W.Frag) (f : Str) (x : V) (H : Hp) (Q : VK) : Prop := ∃ a C dx fs v, x = .ref a ∧ H a = some (.ins C dx fs) ∧ Cls K C ∧ ZDr K C f ∧ fs.lookup f = some v ∧ Q v H
def ZQm (K : W.Frag) (f : Str) (y x : V) (H : Hp) (R : Hp → Prop) : Prop := ∃ a C dx fs, x = .ref a ∧ H a = some (.ins C dx fs) ∧ Cls K C ∧ ZDr K C f ∧ fs.length < 1000 ∧ R (upd H a (.ins C dx (ZDQ f y fs)))
theorem ZDG (K : W.Frag) (hK : X.K = K) (he : QE X e ta) (hb : attributeBase e f X.env (eval e X.env) = eval e X.env := by rfl) : QE X (.Attribute e f pos) (ZO7 K ta f) := by
 subst hK
 exact ⟨ZSo he.h hb⟩
theorem ZEr (K : W.Frag) (hK : X.K = K) (ho : QE X o ta) (hv : QE X value tv) (hs : ZEh value = false := by rfl) : QS X (.Assign [.Attribute o f pos'] value pos) (ZO8 K ta tv f) := by
 subst hK
 exact ⟨ZSp ho.h hv.h (ZFU hs)⟩
theorem ZN0 (K : W.Frag) (hK : X.K = K) (ho : QE X o ta) (hv : QE X value tv) : QS X (.AugAssign (.Attribute o f tpos) .Add value pos) (ZJP K ta tv ZKc f) := by
 subst hK
 exact ⟨ZNX ho.h hv.h ZSq⟩
section
variable {CX : CXT} {k : Nat} {fa C : Addr} {fd : FuncData} {ps : List Str} {sp : Sp} {dvs : List V} {ds : List Value} {E : XK} {es : List Expr} {x : Str} {p : Pos}
theorem ZC7 {pl : Sem Bool} (he : QE X o ta) (c : Cls X.K C) (hm : ZD8 X.K C m fa) (F : ZCr X.prog X.w X.K X.mg X.base CX k fa fd ps sp) (hr : Room k X.A) (hb : ZCu X.K fd ps ds) (hd : ZCz dvs ds) (hx : ZEN CX X E) (ha : QA X (e :: es) t) (hns : ZDY (e :: es) = true := by rfl)
 (ht : eval (.Call (.Attribute o m apos) (e :: es) [] pos) X.env = (do
  let ov ← eval o X.env
  standAt apos.atName
  let (f, first) ← holding [ov] (getMethod ov m pl)
  callWith pos f first (backTo pos (starEach (e :: es) X.env)) (backToKw pos (keywordEach [] X.env))) := by rfl) :
 QE X (.Call (.Attribute o m apos) (e :: es) [] pos) (ZI3 C m sp dvs E ta t) := ⟨ZQ8 he.h c hm F hr hb hd hx ha.h (ZEg hns) (ZEH (ZEG hns)) ht⟩
theorem ZFX {pl : Sem Bool} (he : QE X o ta) (c : Cls X.K C) (hm : ZD8 X.K C m fa) (F : ZCr X.prog X.w X.K X.mg X.base CX k fa fd ps sp) (hr : Room k X.A) (hb : ZCu X.K fd ps ds) (hd : ZCz dvs ds) (hx : ZEN CX X E)
 (ht : eval (.Call (.Attribute o m apos) [] [] pos) X.env = (do
  let ov ← eval o X.env
  standAt apos.atName
  let (f, first) ← holding [ov] (getMethod ov m pl)
  callWith pos f first (backTo pos (starEach [] X.env)) (backToKw pos (keywordEach [] X.env))) := by rfl) :
 QE X (.Call (.Attribute o m apos) [] [] pos) (ZI3 C m sp dvs E ta ZKd) := ⟨ZPB he.h c hm F hr hb hd hx ht⟩
theorem ZJY (M : Mk X.K C fa) (F : ZCr X.prog X.w X.K X.mg X.base CX k fa fd ps sp) (hr : Room (k + 1) X.A) (hg : Gl X x) (hm : X.mg x = some (.ref C)) (hb : ZCu X.K fd ps ds) (hd : ZCz dvs ds) (hx : ZEN CX X E) (ha : QA X (e :: es) t)
 (hns : ZDY (e :: es) = true := by rfl) (hdb : (x == ("__debug__" : Str)) = false := by decide) : QE X (.Call (.Name x p) (e :: es) [] pos) (ZMg C sp dvs E t) := ⟨ZQ9 M F hr hg hm hb hd hx ha.h hdb (ZEg hns) (ZEH (ZEG hns))⟩
end
end
section
variable {K : W.Frag} {σ : St} {H : Hp} {Q : VK} {D : ZDp} {f m : Str} {ta tv : TE} {t : TA} {C : Addr} {sp : Sp} {dvs : List V} {E : XK}
theorem ZRu (h : ta σ H fun x H1 => ZTk K f x H1 Q) : ZO7 K ta f σ H Q := h
theorem ZDa {a dx : Addr} {fs : List (Str × V)} {v : V} (h1 : H a = some (.ins C dx fs)) (c : Cls K C) (n : ZDr K C f) (l : fs.lookup f = some v) (q : Q v H) : ZTk K f (.ref a) H Q := ⟨a, C, dx, fs, v, rfl, h1, c, n, l, q⟩
theorem ZPm (h : tv σ H fun y H1 => ta σ H1 fun x H2 => ZQm K f y x H2 (D.nx σ)) : ZO8 K ta tv f D σ H := h
theorem ZEj {a dx : Addr} {fs : List (Str × V)} {y : V} {R : Hp → Prop} (h1 : H a = some (.ins C dx fs)) (c : Cls K C) (n : ZDr K C f) (l : fs.length < 1000) (q : ∀ H2, H2 a = some (.ins C dx (ZDQ f y fs)) → Kp a H H2 → R H2) : ZQm K f y (.ref a) H R := ⟨a, C, dx, fs, rfl, h1, c, n, l, q _ ZCy Kp.upd⟩
def ZMJ (K : W.Frag) (f : Str) (tv : TE) (σ : St) (R : Hp → Prop) (x : V) (H : Hp) : Prop := ∃ a C dx fs v, x = .ref a ∧ H a = some (.ins C dx fs) ∧ Cls K C ∧ ZDr K C f ∧ fs.lookup f = some v ∧
 tv σ H fun y H2 => ZKc v y H2 fun z H3 => ∃ dx' fs', H3 a = some (.ins C dx' fs') ∧ fs'.length < 1000 ∧ R (upd H3 a (.ins C dx' (ZDQ f z fs')))
theorem ZMz (h : ta σ H fun x H1 => ZMJ K f tv σ (D.nx σ) x H1) : ZJP K ta tv ZKc f D σ H := h
def ZN1 (C : Addr) (m : Str) (x : V) (H : Hp) (R : Prop) : Prop := ∃ a dx fs, x = .ref a ∧ H a = some (.ins C dx fs) ∧ fs.lookup m = none ∧ R
theorem ZPn (h : ta σ H fun x H1 => ZN1 C m x H1 (t σ H1 fun vs H2 => sp (x :: (vs ++ dvs)) H2 Q E)) : ZI3 C m sp dvs E ta t σ H Q := h
theorem ZC0 {a dx : Addr} {fs : List (Str × V)} {R : Prop} (h1 : H a = some (.ins C dx fs)) (l : fs.lookup m = none) (q : R) : ZN1 C m (.ref a) H R := ⟨a, dx, fs, rfl, h1, l, q⟩
def ZJF (C : Addr) (sp : Sp) (dvs : List V) (E : XK) (vs : List V) (H : Hp) (Q : VK) : Prop := ∀ x dx, H x = none → H dx = none → dx ≠ x → sp (.ref x :: (vs ++ dvs)) (upd (upd H dx (.own x)) x (.ins C dx [])) (fun v H2 => v = .non ∧ Q (.ref x) H2) E
theorem ZPo (h : t σ H fun vs H1 => ZJF C sp dvs E vs H1 Q) : ZMg C sp dvs E t σ H Q := h
theorem ZIF {vs : List V} (h : ∀ x dx H2, H x = none → H2 x = some (.ins C dx []) → ZCq H H2 → sp (.ref x :: (vs ++ dvs)) H2 (fun v H3 => v = .non ∧ Q (.ref x) H3) E) : ZJF C sp dvs E vs H Q := fun x dx hx hdx hne =>
 h x dx _ hx ZCy fun b o e => by rw [ZC3 (ZDH e hx), ZC3 (ZDH e hdx)]; exact e
end
structure ZIj (K : W.Frag) (x qual : Str) (st : Stmt) (f : Addr) (fd : FuncData) : Prop where
 ex : ∃ (oc : Value) (od : Option Addr) (dV kV doc pm : Value) (an : Option Addr) (cdv ct : Value) (osl : Array (Option Value)),
  fd = W.fnOf x qual (ZDs st) (ZDX st) (ZCo st) dV kV doc pm an cdv ct ∧ K.lookup f = some ⟨oc, od, .func fd, osl⟩ ∧ W.codeIn K cdv qual = true
 kp : W.keepIn K (.ref f) = true
theorem ZIj.ok {P : Program} {w : World} {K : W.Frag} {mg : Str → Option Value} {base : Heap} {x qual : Str} {st : Stmt} {f : Addr} {fd : FuncData} {N ps : List Str} {k : Nat} {sp : Sp} (F : ZIj K x qual st f fd) (S : ZCv N ps (ZCo st)) (len : ∀ vs H Q E, sp vs H Q E → vs.length = ps.length)
  (hbody : ∀ (cdv : Value) (A : Around) (outer : List Env) (s : Shared) (H : Hp) (vs : List V) (Q : VK) (E : XK), Room k (A.deeper (envOfC qual (ZCo st) s.heap.objs.size f cdv)) → sp vs H Q E →
   ∃ t, PSs (ZHm CX0 P w K mg base N qual (ZCo st) f cdv A outer s H E).nox (ZDX st) t ∧ t { nx := fun _ H' => Q .non H', rt := Q } (start N vs) H) : ZCr P w K mg base CX0 (k + 1) f fd ps sp := by
 obtain ⟨oc, od, dV, kV, doc, pm, an, cdv, ct, osl, rfl, lk, hcd⟩ := F.ex
 refine ZKT lk hcd S len fun A outer s H vs Q E hr hsp => ?_
 obtain ⟨t, h, q⟩ := hbody cdv A outer s H vs Q E hr hsp
 exact ⟨t, h.nox, q⟩
section
variable {K : W.Frag} {σ : St} {H : Hp} {Q : VK} {f : Str} {tv td ty : TE} {C : Addr}
theorem ZM0 {a dx : Addr} {fs : List (Str × V)} {v : V} {R : Hp → Prop} (h1 : H a = some (.ins C dx fs)) (c : Cls K C) (n : ZDr K C f) (l : fs.lookup f = some v)
 (q : tv σ H fun y H2 => ZKc v y H2 fun z H3 => ∃ dx' fs', H3 a = some (.ins C dx' fs') ∧ fs'.length < 1000 ∧ R (upd H3 a (.ins C dx' (ZDQ f z fs')))) : ZMJ K f tv σ R (.ref a) H := ⟨a, C, dx, fs, v, rfl, h1, c, n, l, q⟩
def ZHv (a : Addr) (y : V) (H : Hp) (Q : VK) : Prop := ∃ o, ZEW H a y o ∧ Q (o.getD .non) H
def ZK6 (ty : TE) (σ : St) (Q : VK) (x : V) (H : Hp) : Prop := ∃ a, x = .ref a ∧ IsD H a ∧ ty σ H fun y H2 => ZHv a y H2 Q
theorem ZN2 (h : td σ H fun x H1 => ZK6 ty σ Q x H1) : ZKu td ty σ H Q := h
theorem ZHw {a : Addr} {kvs : List (List Key × V)} (h1 : H a = some (.dT kvs)) (q : ty σ H fun y H2 => ZHv a y H2 Q) : ZK6 ty σ Q (.ref a) H := ⟨a, rfl, .inr ⟨kvs, .inl h1⟩, q⟩
theorem ZIk {a b : Addr} {kvs : List (List Key × V)} {k : List Key} (h1 : H a = some (.dT kvs)) (hb : H b = some (.tup (k.map kV))) (q : Q ((ZDq kvs k).getD .non) H) : ZHv a (.ref b) H Q := ⟨_, ZEW.t h1 hb, q⟩
theorem ZN3 {a : Addr} {kvs : List (Key × V)} (h1 : H a = some (.dK kvs)) (q : ty σ H fun y H2 => ZHv a y H2 Q) : ZK6 ty σ Q (.ref a) H := ⟨a, rfl, .inl ⟨kvs, .inl h1⟩, q⟩
theorem ZPp {a : Addr} {m : PL} {i : Int} (h1 : H a = some (.dK (ZDN m))) (q : Q (((ZC9 m i).map V.int).getD .non) H) : ZHv a (.int i) H Q := ⟨_, ZEW.k (k := Sum.inl i) h1, by rw [ZF4]; exact q⟩
theorem ZK7 {a b : Addr} {kvs : List (List Key × V)} {k : List Key} {v : V} {R : Hp → Prop} (h1 : H a = some (.dT kvs)) (hb : H b = some (.tup (k.map kV))) (hz : kvs.length < sizeLine) (h : ∀ H2, H2 a = some (.dT (ZEP kvs k v)) → Kp a H H2 → R H2) : ZMp v (.ref a) (.ref b) H R :=
 ⟨a, _, rfl, ZG6.t h1 hb hz, h _ ZCy Kp.upd⟩
end
section
variable {X : Cx} {o e : Expr} {apos cpos pos p : Pos} {td ty to : TE}
theorem ZHH (hu : X.A.units + 1 < cLine) (ho : QE X o td) (he : QE X e ty) (m : M1 X o "get" apos e cpos := by exact ⟨rfl, rfl, rfl, rfl⟩) : QE X (.Call (.Attribute o "get" apos) [e] [] cpos) (ZKu td ty) := ⟨ZPd hu ho.h he.h m⟩
theorem ZK8 : QE X (.Dict [] [] pos) ZKt := ⟨ZPc⟩
def ZN4 (H : Hp) (Q : VK) : Prop := ∀ p, H p = none → Q (.ref p) (upd H p (.dT []))
theorem ZN5 {σ : St} {H : Hp} {Q : VK} (h : ZN4 H Q) : ZKt σ H Q := h
theorem ZK9 {H : Hp} {Q : VK} (h : ∀ p H2, H p = none → H2 p = some (.dT []) → ZCq H H2 → Q (.ref p) H2) : ZN4 H Q := fun p hp => h p _ hp ZCy (ZCq.new hp)
theorem ZM1 {pins : List (Addr × Obj)} {s : Shared} {σ : St} {H : Hp} {Q : VK} {a r : Addr} {m : PL} (hc : X.calm = true) (I : Inv X pins σ H s) (hd : H a = some (.dK (ZDN m))) (hv : s.heap.IsItemsView r a) (hz : m.length ≤ 1000)
  (q : ∀ (l : Addr) (vs : List V) (H' : Hp), H l = none → H' l = some (.lst vs) → ZCt H' vs m → ZCq H H' → Q (.ref l) H') :
  wpAny (model X.prog X.w) X.A (call (.type "list") [.ref r]) (EP X pins σ Q) X.xe s := by
 obtain ⟨z, hsm, kvs, rel, dd⟩ := ZKV I.hok hd
 obtain ⟨ep, dd⟩ := dd.dictAt
 obtain ⟨hkl, _⟩ := ZNx rel
 refine kdx_call (knd := ZDg X.prog X.w) (I.ok.hd hc) hv dd (by rw [sizeLine_eq]; omega) fun h' tk acc c as hk hS hl hG hacc => ?_
 have hasn : as.Nodup := List.nodup_iff_pairwise_ne.mpr (hG.rise.imp fun hab e => Nat.ne_of_lt hab e)
 have hlm : as.length = m.length := by omega
 have hT : ZEd h' s.heap.objs.size (as.map Value.ref) m := ZRs rel hl hG s.heap.objs.size fun b hb => Nat.ne_of_gt (hG.above b hb)
 have hat : ∀ (i : Nat) b p, as[i]? = some b → m[i]? = some p → ZHu H as m s.heap.objs.size (as.map V.ref) s.heap.objs.size b = some (.tup [.int p.1, .int p.2]) := fun i b p e1 e2 => by
  have hbl := hG.above b (List.mem_of_getElem? e1)
  unfold ZHu
  rw [if_neg (Nat.not_lt.mpr (Nat.le_of_lt hbl)), if_neg (Nat.ne_of_gt hbl), ZMu hasn e1 e2]
  rfl
 have hil : ZHu H as m s.heap.objs.size (as.map V.ref) s.heap.objs.size s.heap.objs.size = some (.lst (as.map V.ref)) := by
  unfold ZHu
  rw [if_neg (Nat.lt_irrefl _), if_pos rfl]
 have hSame : ZCq H (ZHu H as m s.heap.objs.size (as.map V.ref) s.heap.objs.size) := fun b u e => by
  unfold ZHu
  rw [if_pos (I.old e)]
  exact e
 refine ⟨.ref s.heap.objs.size, _, I.many (t' := tk) (h' := h') hk (fun b hb => by unfold ZHu; rw [if_pos hb]) (fun b ob hb e => ?_), rfl, q _ (as.map V.ref) _ (I.hok.fresh (Nat.le_refl _)) hil ?_ hSame⟩
 ·by_cases hbl : b = s.heap.objs.size
  ·subst hbl
   rw [hil] at e
   cases e
   refine ⟨by rw [List.length_map, sizeLine_eq]; omega, acc.toList, c, ?_, by rw [hS]⟩
   rw [hacc]
   clear hil hat hSame hT hacc hG hasn hlm hl
   induction as with
   | nil => exact .nil
   | cons b bs ih => exact .cons rfl ih
  ·unfold ZHu at e
   rw [if_neg (Nat.not_lt.mpr hb), if_neg hbl] at e
   cases hlk : (as.zip m).lookup b with
   | none => rw [hlk] at e; cases e
   | some p =>
    rw [hlk] at e
    cases e
    obtain ⟨i, e1, e2⟩ := ZJX hlk
    have hi : i < m.length := (List.getElem?_eq_some_iff.mp e2).1
    have g := hT.get (i := i) hi
    have e3 : (as.map Value.ref).getD i Value.none = .ref b := by simp [e1]
    have e4 : m.getD i (0, 0) = p := by simp [e2]
    rw [e3, e4] at g
    exact ZNy g
 ·refine ZHG (by rw [List.length_map]; exact hlm) fun i v p e1 e2 => ?_
  rw [List.getElem?_map] at e1
  cases hi : as[i]? with
  | none => rw [hi] at e1; cases e1
  | some b =>
   rw [hi] at e1
   cases e1
   exact ⟨b, rfl, hat i b p hi e2⟩
def ZMK (a : Addr) (m : PL) (H : Hp) (Q : VK) : Prop := m.length ≤ 1000 ∧ ∀ (l : Addr) (vs : List V) (H' : Hp), H l = none → H' l = some (.lst vs) → ZCt H' vs m → ZCq H H' → Q (.ref l) H'
def ZML (to : TE) : TE := fun σ H Q => ZK3 to σ H fun a m H1 => ZMK a m H1 Q
theorem ZN6 (hc : X.calm = true) (hg : Gl X "list") (hm : X.mg "list" = none) (ho : QE X o to)
  (hbase : attributeBase o "items" X.env (eval o X.env) = eval o X.env := by rfl) (hline : (apos.endLine == cpos.line) = true := by rfl) :
  QE X (.Call (.Name "list" p) [.Call (.Attribute o "items" apos) [] [] cpos] [] pos) (ZML to) := by
 refine ⟨?_⟩
 intro pins s σ H Q I h
 refine wpAny_Call_Name_kw (ZFj I hg hm ZRF ?_ (by decide) (by decide))
 refine PyProof.Rows.callWith_type1 ?_ rfl rfl
 show wpAny _ _ (spliced ((false, eval (.Call (.Attribute o "items" apos) [] [] cpos) X.env) :: backTo pos (starEach [] X.env))) _ _ s
 refine Calls.spliced_cons (thn (ZMt ho.h I h hbase hline) fun u s1 ⟨r, a, m, H1, eu, hsz, hv, hd, I1, q⟩ => ?_)
 subst eu
 refine Calls.spliced_nil ?_
 exact ZM1 hc I1 hd hv q.1 q.2
def ZMM (x : V) (H : Hp) (Q : VK) : Prop := ∃ a m, x = .ref a ∧ H a = some (.dK (ZDN m)) ∧ ZMK a m H Q
theorem ZM2 {σ : St} {H : Hp} {Q : VK} (h : to σ H fun x H1 => ZMM x H1 Q) : ZML to σ H Q := h
theorem ZN7 {H : Hp} {Q : VK} {a : Addr} {m : PL} (h1 : H a = some (.dK (ZDN m))) (hz : m.length ≤ 1000) (h : ∀ l H2, H l = none → PrL H2 l m → ZCq H H2 → Q (.ref l) H2) : ZMM (.ref a) H Q :=
 ⟨a, m, rfl, h1, hz, fun l vs H' n f hP S => h l H' n ⟨vs, f, hP⟩ S⟩
end
theorem ZMN {K : W.Frag} {x qual : Str} {st : Stmt} {f : Addr} {oc : Value} {od an : Option Addr} {osl : Array (Option Value)} {dV kV doc pm cdv ct : Value} (l : K.lookup f = some ⟨oc, od, .func (W.fnOf x qual (ZDs st) (ZDX st) (ZCo st) dV kV doc pm an cdv ct), osl⟩)
 (c : W.codeIn K cdv qual = true) (k : W.keepIn K (.ref f) = true) : ZIj K x qual st f (W.fnOf x qual (ZDs st) (ZDX st) (ZCo st) dV kV doc pm an cdv ct) := ⟨⟨oc, od, dV, kV, doc, pm, an, cdv, ct, osl, rfl, l, c⟩, k⟩
def ZMO (K : W.Frag) (fd : FuncData) (ps : List Str) (x : Str) : Prop := ∀ (s : Shared) (u v : Value), K.In s.heap → BindsTo s fd ⟨[u], [(x, v)]⟩ (ps.zip [u, v])
theorem ZDR.there {P : Program} {w : World} {H : Hp} {h : Heap} {a : Addr} {o : HO} (x : ZDR P w H h a o) : ∃ ob, h.get? a = some ob := by
 cases o with
 | lst xs => obtain ⟨_, _, _, _, e⟩ := x; exact ⟨_, e⟩
 | tup xs => obtain ⟨_, _, _, p⟩ := x; obtain ⟨o, e, _⟩ := p; exact ⟨_, e⟩
 | dK kvs => obtain ⟨_, _, _, _, o, _, _, e, _⟩ := x; exact ⟨_, e⟩
 | dT kvs => obtain ⟨_, _, _, _, o, _, _, e, _⟩ := x; exact ⟨_, e⟩
 | set S n => obtain ⟨o, _, _, _, e, _⟩ := x; exact ⟨_, e⟩
 | ins C dx fs => obtain ⟨_, _, _, e, _⟩ := x; exact ⟨_, e⟩
 | own y => exact x
 | xd fs => obtain ⟨_, ⟨_, _, _, e, _⟩, _⟩ := x; exact ⟨_, e⟩
 | rng lo hi => obtain ⟨_, _, _, e⟩ := x; exact ⟨_, e⟩
 | frz ob u => obtain ⟨e, _⟩ := x; exact ⟨_, e⟩
 | tbl ps => exact ⟨_, (show h.get? a = some _ from x)⟩
 | met f y => exact ⟨_, (show h.get? a = some _ from x)⟩
 | ext φ => obtain ⟨_, e, _⟩ := x; exact e
def Cov (B : Heap) (H' : Hp) (h0 h' : Heap) (fs : List Addr) : Prop := ∀ b o, h'.get? b = some o → b ∉ fs → ((∃ u, H' b = some u) ∨ ∃ o0, h0.get? b = some o0) → B.get? b = some o
def CX1 (P : Program) (w : World) : CXT := fun l H s E ev s' => ∃ (e : Addr) (C a0 : Value) (B : Heap) (H' : Hp), ev = .ref e ∧ s'.os = s.os ∧ AllBare s'.gens ∧ Un (frs l) [] H H' s.heap s'.heap ∧ HOk P w H' s'.heap ∧
 s.heap.get? e = none ∧ H' e = none ∧ Heap.FlyingW B l e C a0 s'.heap ∧ Cov B H' s.heap s'.heap (frs l) ∧ E C none H'
section
variable {P : Program} {w : World} {H H' : Hp} {h0 h' h'' B : Heap} {fs : List Addr}
theorem ZHI (hok : HOk P w H' h') (un : Un fs [] H H' h0 h') (cov : Cov B H' h0 h' fs) (st : B.StaysIn h'') (up : h'.UpToSlots h'') (fr : ∀ b ∈ fs, H' b = none ∧ ∃ o, h'.get? b = some o ∧ ∀ vs, o.data ≠ .fields vs) :
  HOk P w H' h'' ∧ Un fs [] H H' h0 h'' ∧ Cov B H' h0 h'' fs := by
 have trk : ∀ b u, H' b = some u → b ∉ fs := fun b u e hb => by rw [(fr b hb).1] at e; cases e
 have old : ∀ b o0, h0.get? b = some o0 → ∃ o', h''.get? b = some o' := fun b o0 e => by
  obtain ⟨o', e'⟩ := un.there b o0 e (by simp)
  by_cases hb : b ∈ fs
  ·obtain ⟨_, o, ho, hd⟩ := fr b hb
   obtain ⟨sl, q⟩ := up b o ho hd
   exact ⟨_, q⟩
  ·exact ⟨o', st _ _ (cov b o' e' hb (.inr ⟨o0, e⟩))⟩
 refine ⟨fun b u e => (hok b u e).stay (fun c v hc q => ?_) (fun _ q => q) fun _ _ q => q, ⟨fun b o e n hb hx => ?_, fun b o e n hb hx => ?_, un.free, fun b o e _ => old b o e, un.tups, un.frzs, un.tbls⟩, fun b o e hb ht => ?_⟩
 ·have hc' : ∃ u, H' c = some u := by
   rcases hc with rfl | hc
   ·exact ⟨_, e⟩
   ·exact ⟨_, hc⟩
  obtain ⟨u', hu'⟩ := hc'
  exact st _ _ (cov c v q (trk c u' hu') (.inl ⟨u', hu'⟩))
 ·exact st _ _ (cov b o (un.keep b o e n hb hx) hb (.inr ⟨o, e⟩))
 ·obtain ⟨sl, q⟩ := un.slot b o e n hb hx
  obtain ⟨_, o2, ho2, hd⟩ := fr b hb
  rw [q] at ho2
  cases ho2
  obtain ⟨sl2, q2⟩ := up b _ q hd
  exact ⟨sl2, q2⟩
 ·have : ∃ o1, h'.get? b = some o1 := by
   rcases ht with ⟨u, hu⟩ | ⟨o0, ho0⟩
   ·exact (hok b u hu).there
   ·exact un.there b o0 ho0 (by simp)
  obtain ⟨o1, h1⟩ := this
  have hB := cov b o1 h1 hb ht
  have := st _ _ hB
  rw [e] at this
  cases this
  exact hB
end
section
variable {P : Program} {w : World} {K : W.Frag} {mg : Str → Option Value} {base : Heap} {N : List Str} {qual : Str} {scope : Scope} {f : Addr} {cd : Value} {A : Around} {outer : List Env} {s : Shared} {H : Hp} {E : XK}
abbrev cxE (P : Program) (w : World) (K : W.Frag) (mg : Str → Option Value) (base : Heap) (N : List Str) (qual : Str) (scope : Scope) (f : Addr) (cd : Value) (A : Around) (outer : List Env) (s : Shared) (H : Hp) (E : XK) : Cx := ZHm (CX1 P w) P w K mg base N qual scope f cd A outer s H E
theorem ZIl {env : Env} {l : List Env} {L : Addr} (h : env.frame = some L) : frs (env :: l) = L :: frs l := by
 unfold frs
 rw [List.filterMap_cons, h]
theorem ZIG {X : Cx} {pins : List (Addr × Obj)} {σ : St} {H1 : Hp} {s1 : Shared} (I : Inv X pins σ H1 s1) {B h : Heap} {l : List Env} (hl : h.FunFrames B l) (hs : ∀ b ∈ frs l, b ∈ frs X.stack) : ∀ b ∈ frs l, H1 b = none ∧ ∃ o, h.get? b = some o ∧ ∀ vs, o.data ≠ .fields vs :=
 fun b hb => ⟨I.stkFree b (hs b hb), (hl.mem hb).2⟩
theorem ZDx : ZEN (CX1 P w) (cxE P w K mg base N qual scope f cd A outer s H E) E := by
 intro pins σ H1 s1 ev s' I hc
 obtain ⟨e, C, a0, B, H', rfl, os, bare, un, hok, hen, heH, fl, cov, q⟩ := hc
 have I2 := I.call' (ch := []) os un hok bare (fun b z => absurd z (by simp))
 have hfr : (cxE P w K mg base N qual scope f cd A outer s H E).A.frames = some ((cxE P w K mg base N qual scope f cd A outer s H E).env :: outer) := I.ok.frames
 show wpAny (model P w) _ (leaving _ (.ref e)) _ _ s'
 refine wpAny_leaves_onW (L := s.heap.objs.size) hfr rfl fl fun h'' fl2 up => ?_
 have nL : ∀ b o, s.heap.get? b = some o → b ≠ s.heap.objs.size := fun b o e => Nat.ne_of_lt (Heap.lt_size e)
 have efr : frs ((cxE P w K mg base N qual scope f cd A outer s H E).env :: outer) = s.heap.objs.size :: frs outer := ZIl rfl
 have un2 : Un (frs outer) [] H H' s.heap s'.heap := I2.base
 have cov2 : Cov B H' s.heap s'.heap (frs outer) := fun b o hb hn ht => by
  refine cov b o hb (fun z => ?_) (ht.imp id fun ⟨o0, h0⟩ => I.base.there b o0 h0 (show b ∉ ([] : List Addr) by simp))
  have z2 : b ∈ s.heap.objs.size :: frs outer := by rw [← efr]; exact z
  rcases List.mem_cons.mp z2 with rfl | z2
  ·rcases ht with ⟨u, hu⟩ | ⟨o0, h0⟩
   ·have z3 : H' s.heap.objs.size = none := I2.free
    rw [z3] at hu; cases hu
   ·exact nL _ _ h0 rfl
  ·exact hn z2
 have flo : s'.heap.FunFrames B outer := by
  obtain ⟨_, _, ⟨_, _, k⟩, _⟩ := fl
  exact k
 obtain ⟨hok3, un3, cov3⟩ := ZHI hok un2 cov2 fl2.1 up (ZIG I2 flo fun b hb => by
  show b ∈ frs ((cxE P w K mg base N qual scope f cd A outer s H E).env :: outer)
  rw [efr]; exact List.mem_cons_of_mem _ hb)
 refine ⟨e, C, a0, B, H', rfl, I2.os, bare, un3, hok3, ?_, heH, fl2, cov3, q⟩
 cases z : s.heap.get? e with
 | none => rfl
 | some o =>
  obtain ⟨o', e'⟩ := I.base.there e o z (show e ∉ ([] : List Addr) by simp)
  rw [hen] at e'; cases e'
end
theorem ZIH {K : W.Frag} {h : Heap} {C : Addr} {bmB : List Value} {newId : String} (X : K.In h) (q : excIn K C bmB newId = true) :
  ∃ bm N nm q bs hdct sn sub ab col dd k0 k1 k2 k3 k5 mN, h.get? C = some (excClassObj nm q C N bs bm hdct sn sub ab col dd k0 k1 k2 k3 k5 newId) ∧ h.Ns N mN ∧ mN "__init__" = none ∧ OwnTail h bmB bm := by
 unfold excIn at q
 split at q
 ·rename_i dd cd sl ho
  split at q
  ·rename_i C' bm k0 k1 k2 k3 n k5 hm hs
   simp only [Bool.and_eq_true, beq_iff_eq, Bool.not_eq_true'] at q
   obtain ⟨⟨⟨⟨⟨rfl, rfl⟩, hdel⟩, ht⟩, hok⟩, hni⟩ := q
   obtain ⟨nm, bs, mro, ns, qn, hd, sn, sub, ab, col, del⟩ := cd
   dsimp only at hm hdel hok hni
   subst hm hdel
   have hsl : sl = #[k0, k1, k2, k3, some (.builtin n), k5] := by
    obtain ⟨l⟩ := sl
    simp only at hs
    rw [hs]
   subst hsl
   exact ⟨bm, ns, nm, qn, bs, hd, sn, sub, ab, col, dd, k0, k1, k2, k3, k5, _, X _ _ ho, .of_isNs (isNs_of_in X hok), nsMap_none_of_in X hok hni, tail_of_in X ht⟩
  ·cases q
 ·cases q
def ZFn (K : W.Frag) (C : Addr) : Prop := excIn K C [.type "ValueError", .type "Exception", .type "BaseException", .type "object"] "ValueError.__new__" = true
section
variable {P : Program} {w : World} {K : W.Frag} {mg : Str → Option Value} {base : Heap} {N : List Str} {qual : Str} {scope : Scope} {f : Addr} {cd : Value} {A : Around} {outer : List Env} {s : Shared} {H : Hp} {E : XK}
 {x : Str} {np cpos pos : Pos} {e₀ : Expr} {es : List Expr} {t : TA} {C : Addr}
def ZLA (E : XK) (C : Addr) (t : TA) : TS := fun _ σ H => t σ H fun vs H1 => vs.length ≤ sizeLine ∧ E (.ref C) none H1
theorem ZPq (hC : ZFn K C) (hg : Gl (cxE P w K mg base N qual scope f cd A outer s H E) x) (hm : mg x = some (.ref C)) (ha : PA (cxE P w K mg base N qual scope f cd A outer s H E) (e₀ :: es) t)
  (hdb : (x == ("__debug__" : Str)) = false := by decide)
  (he : starEach (e₀ :: es) (cxE P w K mg base N qual scope f cd A outer s H E).env = (false, eval e₀ (cxE P w K mg base N qual scope f cd A outer s H E).env) :: starEach es (cxE P w K mg base N qual scope f cd A outer s H E).env := by rfl)
  (hpl : (backTo cpos (starEach es (cxE P w K mg base N qual scope f cd A outer s H E).env)).any (·.1) = false := by rfl) :
  PS (cxE P w K mg base N qual scope f cd A outer s H E) (.Raise (some (.Call (.Name x np) (e₀ :: es) [] cpos)) none pos) (ZLA E C t) := by
 intro pins s1 σ H1 D I h
 have hh : (cxE P w K mg base N qual scope f cd A outer s H E).A.handled = none := I.ok.hd rfl
 obtain ⟨bm, N', nm, qn, bs, hdct, sn, sub, ab, col, dd, k0, k1, k2, k3, k5, mN, hCo, hN, hni, TL⟩ := ZIH I.ok.mod.kin hC
 have FB := PySem.F.excBase_ValueError
 refine wpAny_Raise_call_subT (C := C) (nm := nm) (q := qn) (N := N') (bs := bs) (bm := bm) (hdct := hdct) (sn := sn) (sub := sub) (ab := ab) (col := col) (dd := dd) (k0 := k0) (k1 := k1) (k2 := k2) (k3 := k3) (k5 := k5)
  FB (mN := mN) (TL.hasType FB.hasBase) hh (by rw [he]; show (false || (backTo cpos (starEach es _)).any (·.1)) = false; rw [hpl]; rfl) hni (ZEu I hg hm ⟨rfl, ?_⟩ hdb)
 have hA := ha cpos pins s1 σ H1 _ I h
 rw [he] at hA ⊢
 refine Calls.evalArgs_plain (wpAny_mono hA (fun vs s2 ⟨xs, H2, I2, r, z, q⟩ => ⟨rfl, by rw [← r.length]; exact z, I2.bk _ _ hCo, hN.keeps I2.bk, TL.keeps I2.bk, fun h' e hx => ?_⟩) fun _ _ y => y)
 -- the exception is made: it leaves the frame
 have hfr : (cxE P w K mg base N qual scope f cd A outer s H E).A.frames = some ((cxE P w K mg base N qual scope f cd A outer s H E).env :: outer) := I.ok.frames
 have efr : frs ((cxE P w K mg base N qual scope f cd A outer s H E).env :: outer) = s.heap.objs.size :: frs outer := ZIl rfl
 have stk := I2.stack
 have hin : ∀ env ∈ ((cxE P w K mg base N qual scope f cd A outer s H E).env :: outer), ∀ b, env.frame = some b → b ∈ frs ((cxE P w K mg base N qual scope f cd A outer s H E).env :: outer) := fun env he b hb => List.mem_filterMap.mpr ⟨env, he, hb⟩
 show wpAny (model P w) _ (leaving _ (.ref e)) _ _ { s2 with heap := h' }
 refine wpAny_leaves_madeW (base := hideAll s2.heap (frs ((cxE P w K mg base N qual scope f cd A outer s H E).env :: outer))) (L := s.heap.objs.size) hfr rfl (fun b o q => of_hideAll _ q) (funFrames_hide stk hin) hx fun h'' t' fl2 htup hbt up => ?_
 have I3 : Inv (cxE P w K mg base N qual scope f cd A outer s H E) pins σ H2 { s2 with heap := h' } := I2.kept (h' := h') (t' := s2.toks) hx.keeps
 have cov : Cov (hideAll s2.heap (frs ((cxE P w K mg base N qual scope f cd A outer s H E).env :: outer))) H2 s.heap h' (frs outer) := fun b o hb hn ht => by
  have : ∃ o1, s2.heap.get? b = some o1 := by
   rcases ht with ⟨u, hu⟩ | ⟨o0, ho0⟩
   ·exact (I2.hok b u hu).there
   ·exact I2.base.there b o0 ho0 (show b ∉ ([] : List Addr) by simp)
  obtain ⟨o1, h1⟩ := this
  have h2 := hx.keeps _ _ h1
  rw [hb] at h2
  cases h2
  refine hideAll_get _ h1 fun z => ?_
  rw [efr] at z
  rcases List.mem_cons.mp z with rfl | z
  ·rcases ht with ⟨u, hu⟩ | ⟨o0, h0⟩
   ·have z3 : H2 s.heap.objs.size = none := I2.free
    rw [z3] at hu; cases hu
   ·exact Nat.lt_irrefl _ (Heap.lt_size h0)
  ·exact hn z
 have flo : h'.FunFrames (hideAll s2.heap (frs ((cxE P w K mg base N qual scope f cd A outer s H E).env :: outer))) outer := by
  obtain ⟨_, _, k⟩ := (funFrames_hide stk hin : s2.heap.FunFrames (hideAll s2.heap (frs ((cxE P w K mg base N qual scope f cd A outer s H E).env :: outer))) ((cxE P w K mg base N qual scope f cd A outer s H E).env :: outer))
  exact k.of_keeps fun b o hb _ => ⟨o, hx.keeps b o hb, rfl⟩
 obtain ⟨hok3, un3, cov3⟩ := ZHI (I3.hok) (show Un (frs outer) [] H H2 s.heap h' from I3.base) cov fl2.1 up (ZIG I3 flo fun b hb => by
  show b ∈ frs ((cxE P w K mg base N qual scope f cd A outer s H E).env :: outer)
  rw [efr]; exact List.mem_cons_of_mem _ hb)
 refine ⟨e, .ref C, .ref t', _, H2, rfl, I2.os, I2.bare, un3, hok3, ?_, ?_, fl2, cov3, q⟩
 ·cases z : s.heap.get? e with
  | none => rfl
  | some o =>
   obtain ⟨o', e'⟩ := I2.base.there e o z (show e ∉ ([] : List Addr) by simp)
   rw [hx.new] at e'; cases e'
 ·cases z : H2 e with
  | none => rfl
  | some u =>
   obtain ⟨o', e'⟩ := (I2.hok e u z).there
   rw [hx.new] at e'; cases e'
end
section
variable {P : Program} {w : World} {K : W.Frag} {mg : Str → Option Value} {base : Heap}
theorem ZCr.lift {k : Nat} {f : Addr} {fd : FuncData} {ps : List Str} {sp : Sp} (F : ZCr P w K mg base CX0 k f fd ps sp) : ZCr P w K mg base (CX1 P w) k f fd ps sp :=
 ⟨F.len, fun A outer s H args us vs Q E hr he hb hv hs => codeAny_mono (F.run A outer s H args us vs Q E hr he hb hv hs) fun r s' h => by
  cases r with
  | error e => exact h.elim
  | ok fl => cases fl <;> exact h⟩
theorem ZCr.or {k : Nat} {CX : CXT} {f : Addr} {fd : FuncData} {ps : List Str} {sp sq : Sp} (F : ZCr P w K mg base CX k f fd ps sp) (G : ZCr P w K mg base CX k f fd ps sq) : ZCr P w K mg base CX k f fd ps (fun vs H Q E => sp vs H Q E ∨ sq vs H Q E) :=
 ⟨fun vs H Q E h => h.elim (F.len vs H Q E) (G.len vs H Q E), fun A outer s H args us vs Q E hr he hb hv hs => hs.elim (F.run A outer s H args us vs Q E hr he hb hv) (G.run A outer s H args us vs Q E hr he hb hv)⟩
theorem Fun.okx {x qual : Str} {st : Stmt} {f : Addr} {fd : FuncData} {N ps : List Str} {k : Nat} {sp : Sp} (F : Fun K x qual st f fd) (S : ZCv N ps (ZCo st)) (len : ∀ vs H Q E, sp vs H Q E → vs.length = ps.length)
  (hbody : ∀ (cdv : Value) (A : Around) (outer : List Env) (s : Shared) (H : Hp) (vs : List V) (Q : VK) (E : XK), Room k (A.deeper (envOfC qual (ZCo st) s.heap.objs.size f cdv)) → sp vs H Q E →
   ∃ t, PSs (cxE P w K mg base N qual (ZCo st) f cdv A outer s H E) (ZDX st) t ∧ t { nx := fun _ H' => Q .non H', rt := Q } (start N vs) H) : ZCr P w K mg base (CX1 P w) (k + 1) f fd ps sp := by
 obtain ⟨oc, od, kV, doc, pm, an, cdv, ct, osl, rfl, lk, hcd⟩ := F.ex
 exact ZKT lk hcd S len fun A outer s H vs Q E hr hsp => hbody cdv A outer s H vs Q E hr hsp
theorem ZIj.okx {x qual : Str} {st : Stmt} {f : Addr} {fd : FuncData} {N ps : List Str} {k : Nat} {sp : Sp} (F : ZIj K x qual st f fd) (S : ZCv N ps (ZCo st)) (len : ∀ vs H Q E, sp vs H Q E → vs.length = ps.length)
  (hbody : ∀ (cdv : Value) (A : Around) (outer : List Env) (s : Shared) (H : Hp) (vs : List V) (Q : VK) (E : XK), Room k (A.deeper (envOfC qual (ZCo st) s.heap.objs.size f cdv)) → sp vs H Q E →
   ∃ t, PSs (cxE P w K mg base N qual (ZCo st) f cdv A outer s H E) (ZDX st) t ∧ t { nx := fun _ H' => Q .non H', rt := Q } (start N vs) H) : ZCr P w K mg base (CX1 P w) (k + 1) f fd ps sp := by
 obtain ⟨oc, od, dV, kV, doc, pm, an, cdv, ct, osl, rfl, lk, hcd⟩ := F.ex
 exact ZKT lk hcd S len fun A outer s H vs Q E hr hsp => hbody cdv A outer s H vs Q E hr hsp
end
theorem ZHb {α : Type} (p : α → Bool) : ∀ (l : List α) (i : Nat), (∀ a, l[i]? = some a → p a = false) → (l.eraseIdx i).find? p = l.find? p
 | [], _, _ => by simp
 | a :: l, 0, h => by
  have := h a rfl
  rw [List.eraseIdx_cons_zero, List.find?_cons, this]
 | a :: l, i + 1, h => by
  rw [List.eraseIdx_cons_succ, List.find?_cons, List.find?_cons, ZHb p l i fun b hb => h b (by simpa using hb)]
theorem ZPr {es : Array DictEntry} (hk : StrKeys es) {name : Str} {i : Nat} (hi : es.findIdx? (fun e => e.key.isStr name) = some i) (x : Str) (hx : x ≠ name) :
  nsFind (es.eraseIdxIfInBounds i) x = nsFind es x := by
 obtain ⟨l⟩ := es
 simp only [nsFind, findBy, List.eraseIdxIfInBounds_toArray, List.find?_toArray, List.findIdx?_toArray] at hi ⊢
 rw [ZHb]
 intro a ha
 obtain ⟨hlt, hp, _⟩ := List.findIdx?_eq_some_iff_getElem.mp hi
 have ea : l[i] = a := by
  rw [List.getElem?_eq_getElem hlt] at ha
  exact Option.some.inj ha
 rw [ea] at hp
 obtain ⟨n, t, h⟩ := hk a (by simpa using List.mem_of_getElem? ha)
 rw [h] at hp ⊢
 have e1 : n = name := by simpa [Value.isStr] using hp
 have e2 : n ≠ x := fun z => hx (z.symm.trans e1)
 simpa [Value.isStr] using e2
section
variable {M : Model} {A : Around} {E : Value → Shared → Prop} {s : Shared}
theorem ZPs {a : Addr} {m : Str → Option Value} {name : Str} {Q : Bool → Shared → Prop} (hn : s.heap.Ns a m)
  (hQ : ∀ h' m', h'.Ns a m' → (∀ x, x ≠ name → m' x = m x) → Heap.SameBut a s.heap h' → Q (m name).isSome { s with heap := h' }) : wpAny M A (nsDel a name) Q E s := by
 obtain ⟨o, es, ep, ho, hd, hk, hm⟩ := id hn
 have hany : es.any (·.refKey) = false := by
  rw [Array.any_eq_false']; intro e he; obtain ⟨n, t, h⟩ := hk e he; simp [DictEntry.refKey, h]
 have hsome : (m name).isSome = es.any (·.key.isStr name) := by
  rw [← hm name]; simp only [nsFind, findBy, Option.isSome_map]
  rw [Bool.eq_iff_iff]; simp only [Array.find?_isSome, Array.any_eq_true]
  constructor
  ·rintro ⟨x, hx, hp⟩; obtain ⟨i, hi, rfl⟩ := Array.mem_iff_getElem.mp hx; exact ⟨i, hi, hp⟩
  ·rintro ⟨i, hi, hp⟩; exact ⟨_, Array.getElem_mem hi, hp⟩
 have hhas : nsHas name o = pure (es.any (·.key.isStr name)) := by
  rw [nsHas_eq]; unfold nsHasByArray; rw [hd]
  show (if (es.any fun x => x.key.isStr name) = true then _ else _) = _
  generalize (es.any fun x => x.key.isStr name) = b
  cases b <;> simp [hany]
 unfold nsDel
 refine wpAny_bind (wpAny_loadPart ho ?_)
 rw [hhas]
 refine wpAny_bind (wpAny_pure ?_)
 rw [← hsome]
 cases hmn : (m name).isSome
 ·have := hQ s.heap m hn (fun _ _ => rfl) (.refl ..)
  rw [hmn] at this
  exact wpAny_pure this
 ·refine wpAny_bind (wpAny_updatePart ho (wpAny_pure ?_))
  have key : ∃ m', (s.heap.update a (Obj.dropName name)).Ns a m' ∧ ∀ x, x ≠ name → m' x = m x := by
   obtain ⟨cl, d, dt, sl⟩ := o
   subst hd
   cases hi : es.findIdx? (·.key.isStr name) with
   | some i => exact ⟨_, ⟨_, _, ep + 1, Heap.get?_update_self _ ho (by simp only [Obj.dropName_eq, Obj.dropNameByArray, hi] <;> rfl), (by simp only [Obj.dropName_eq, Obj.dropNameByArray, hi] <;> rfl), hk.erase i, fun _ => rfl⟩, fun x hx => by rw [← hm x]; exact ZPr hk hi x hx⟩
   | none => exact ⟨_, ⟨_, _, ep, Heap.get?_update_self _ ho (by simp only [Obj.dropName_eq, Obj.dropNameByArray, hi] <;> rfl), (by simp only [Obj.dropName_eq, Obj.dropNameByArray, hi] <;> rfl), hk, fun _ => rfl⟩, fun x _ => hm x⟩
  obtain ⟨m', hm', hx'⟩ := key
  have := hQ _ m' hm' hx' (Heap.SameBut.update ..)
  rw [hmn] at this
  exact this
theorem ZLr {env : Env} {n : Str} {pos : Pos} {m : Str → Option Value} {Q : Unit → Shared → Prop} (hl : env.kindOf n = some .local) (hn : s.heap.Ns env.locals m)
  (hp : (env.scope.kind == .class || (env.scope.kind == .module && env.locals != env.globals)) = false)
  (h : ∀ h' m', h'.Ns env.locals m' → (∀ x, x ≠ n → m' x = m x) → Heap.SameBut env.locals s.heap h' → Q () { s with heap := h', toks := s.toks + 1 }) :
  wpAny M A (do bindName env n .none; unbindBehindTheSuite env n pos) Q E s := by
 refine wpAny_bind (wpAny_bindName (wpAny_storeName_local hl hn (fun h₁ hn₁ hs₁ => ?_) hp))
 unfold unbindBehindTheSuite
 refine wpAny_onRaise ?_
 unfold unbindName
 refine wpAny_bind (wpAny_point (wpAny_bind ?_))
 unfold deleteName
 simp only [hl, hp]
 rw [if_neg (by decide)]
 refine wpAny_bind (ZPs hn₁ fun h₂ m₂ hn₂ hm₂ hs₂ => ?_)
 simp only [if_true, Option.isSome_some, Bool.not_true, Bool.false_eq_true, if_false]
 exact wpAny_pure (wpAny_point (h h₂ m₂ hn₂ (fun x hx => by rw [hm₂ x hx, if_neg hx]) (hs₁.trans hs₂)))
end
section
variable {X : Cx} {pins : List (Addr × Obj)} {σ : St} {H : Hp} {s : Shared}
theorem ZII {M : Model} {A : Around} {E : Value → Shared → Prop} {i : Nat} {n : Str} {pos : Pos} {Q : Unit → Shared → Prop} (I : Inv X pins σ H s) (hN : X.N.Nodup) (hi : X.N[i]? = some n) (hl : X.env.scope.names.lookup n = some .local)
  (h : ∀ s', Inv X pins (σ.set i none) H s' → Q () s') : wpAny M A (do bindName X.env n .none; unbindBehindTheSuite X.env n pos) Q E s := by
 obtain ⟨m, hn, hlk⟩ := id I.loc
 have hcls : (X.env.scope.kind == .class || (X.env.scope.kind == .module && X.env.locals != X.env.globals)) = false := by rw [I.ok.kind]; rfl
 obtain ⟨oL, _, _, hoL, _⟩ := id hn
 refine ZLr hl hn hcls fun h' m' hn' hm' hs => h _ ?_
 refine ⟨I.ok, I.os, I.bare, ⟨fun b o e n hb hx => ?_, fun b o e n hb hx => ?_, I.base.free, fun b o e hx => ?_, I.base.tups, I.base.frzs, I.base.tbls⟩, ⟨m', hn', fun j y v' e1 e2 e3 => ?_⟩, fun y c e => ?_, I.free, I.freeC, fun p hp => ?_, fun b ob e => ?_, by simpa using I.len⟩
 ·exact (hs.2 b (Nat.ne_of_lt (Nat.lt_of_lt_of_le (Heap.lt_size e) I.ok.above))).trans (I.base.keep b o e n hb hx)
 ·obtain ⟨sl, e1⟩ := I.base.slot b o e n hb hx
  exact ⟨sl, (hs.2 b (Nat.ne_of_lt (Nat.lt_of_lt_of_le (Heap.lt_size e) I.ok.above))).trans e1⟩
 ·obtain ⟨o', e1⟩ := I.base.there b o e hx
  exact ⟨o', (hs.2 b (Nat.ne_of_lt (Nat.lt_of_lt_of_le (Heap.lt_size e) I.ok.above))).trans e1⟩
 ·by_cases hj : j = i
  ·subst hj
   rw [List.getElem?_set] at e2
   split at e2
   ·split at e2 <;> cases e2
   ·rename_i z; exact absurd rfl z
  ·rw [List.getElem?_set_ne (Ne.symm hj)] at e2
   obtain ⟨u', r', q⟩ := hlk j y v' e1 e2 e3
   have hy : y ≠ n := fun e => hj (ZIX hN e1 (e ▸ hi))
   refine ⟨u', r', ?_⟩
   rcases q with ⟨k, e⟩ | ⟨k, c, e, z⟩
   ·exact .inl ⟨k, by rw [hm' y hy]; exact e⟩
   ·exact .inr ⟨k, c, e, z.sameBut hs (I.cne y c e)⟩
 ·obtain ⟨w', z⟩ := I.cell y c e
  exact ⟨w', z.sameBut hs (I.cne y c e)⟩
 ·obtain ⟨e, n, ne, nf, d⟩ := I.pin p hp
  exact ⟨(hs.2 p.1 ne).trans e, n, ne, nf, d⟩
 ·refine (I.hok b ob e).stay (fun c w' hc q => (hs.2 c ?_).trans q) (fun _ q => q) fun _ _ q => q
  rintro rfl
  rcases hc with z | hc
  ·have := I.free
   rw [z, e] at this; cases this
  ·have := I.free
   rw [hc] at this; cases this
end
def ZHJ (e : Addr) (C : Value) : HO := .ext fun h => ∃ oe, h.get? e = some oe ∧ oe.cls = C
abbrev Cx.suite (X : Cx) (e : Addr) : Cx := { X with A := X.A.mark (some (.ref e)), calm := false, xe := fun _ _ => False }
section
variable {X : Cx} {pins : List (Addr × Obj)} {σ : St} {H : Hp} {s : Shared} {e : Addr}
theorem Inv.around {A' : Around} {xe' : Value → Shared → Prop} (I : Inv X pins σ H s) (hf : A'.frames = X.A.frames) : Inv { X with A := A', calm := false, xe := xe' } pins σ H s :=
 ⟨⟨I.ok.mod, I.ok.kind, I.ok.glob, I.ok.blt, I.ok.above, I.ok.inj, I.ok.has, I.ok.cab, (fun z => nomatch z), hf.trans I.ok.frames, I.ok.stk, I.ok.exf, I.ok.bs, I.ok.bsz, I.ok.noex, I.ok.exfs, I.ok.funs, I.ok.frf⟩,
  I.os, I.bare, I.base, I.loc, I.cell, I.free, I.freeC, I.pin, I.hok, I.len⟩
theorem Inv.toSuite (I : Inv X pins σ H s) : Inv (X.suite e) pins σ H s := I.around rfl
theorem Inv.ofSuite (ok : X.Ok) (I : Inv (X.suite e) pins σ H s) : Inv X pins σ H s :=
 ⟨ok, I.os, I.bare, I.base, I.loc, I.cell, I.free, I.freeC, I.pin, I.hok, I.len⟩
theorem Inv.track {u : HO} (I : Inv X pins σ H s) (h1 : X.s₀.heap.get? e = none) (h2 : H e = none) (h3 : e ≠ X.env.locals) (h4 : ∀ x c, X.env.cells.lookup x = some c → c ≠ e) (h5 : ∀ p ∈ X.pn ++ pins, p.1 ≠ e) (new : ZDR X.prog X.w (upd H e u) s.heap e u) : Inv X pins σ (upd H e u) s := by
 have ne : ∀ b o, X.s₀.heap.get? b = some o → b ≠ e := fun b o q z => by rw [z, h1] at q; cases q
 refine ⟨I.ok, I.os, I.bare, ⟨I.base.keep, I.base.slot, fun b o q n hx => ?_, I.base.there, fun b xs q => ?_, fun b o xs q => ?_, fun b ps q => ?_⟩, I.loc, I.cell, ?_, fun x c q => ?_, fun p hp => ?_, fun b v q => ?_, I.len⟩
 ·rw [ZC3 (ne b o q)]; exact I.base.free b o q n hx
 ·have := I.base.tups b xs q
  rw [ZC3 (ZDH this h2)]; exact this
 ·have := I.base.frzs b o xs q
  rw [ZC3 (ZDH this h2)]; exact this
 ·obtain ⟨m, z⟩ := I.base.tbls b ps q
  exact ⟨m, by rw [ZC3 (ZDH z h2)]; exact z⟩
 ·rw [ZC3 (Ne.symm h3)]; exact I.free
 ·rw [ZC3 (h4 x c q)]; exact I.freeC x c q
 ·obtain ⟨a, b, c⟩ := I.pin p hp
  exact ⟨a, by rw [ZC3 (h5 p hp)]; exact b, c⟩
 ·by_cases hb : b = e
  ·subst hb; rw [ZCy] at q; cases q; exact new
  ·rw [ZC3 hb] at q
   exact (I.hok b v q).stay (fun _ _ _ q => q) (fun c r => by rw [ZC3 (ZDH r h2)]; exact r) fun c xs r => by rw [ZC3 (ZDH r h2)]; exact r
end
def Fl (X : Cx) (H1 : Hp) (s0 : Shared) (e : Addr) (C : Value) (H' : Hp) (s3 : Shared) : Prop := ∃ (a0 : Value) (B : Heap), s3.os = s0.os ∧ AllBare s3.gens ∧ Un (frs X.stack) [] H1 H' s0.heap s3.heap ∧ HOk X.prog X.w H' s3.heap ∧
 s0.heap.get? e = none ∧ H' e = none ∧ Heap.FlyingW B X.stack e C a0 s3.heap ∧ Cov B H' s0.heap s3.heap (frs X.stack)
section
variable {X : Cx} {pins : List (Addr × Obj)} {σ : St} {H1 H' : Hp} {s0 s3 : Shared} {e : Addr} {C : Value}
theorem Fl.inv (F : Fl X H1 s0 e C H' s3) (I : Inv X pins σ H1 s0) : Inv X pins σ H' s3 := by
 obtain ⟨a0, B, os, bare, un, hok, _⟩ := F
 exact I.call' (ch := []) os un hok bare (fun b z => absurd z (by simp))
theorem ZRv {P : Program} {w : World} {H : Hp} {h : Heap} {e : Addr} {oe : Obj} {C : Value} (he : h.get? e = some oe) (hc : oe.cls = C) : ZDR P w (upd H e (ZHJ e C)) h e (ZHJ e C) := ⟨⟨oe, he, hc⟩, ⟨oe, he⟩, fun h1 h2 ⟨o, q, c⟩ k => ⟨o, k o q, c⟩⟩
theorem Fl.suite (F : Fl X H1 s0 e C H' s3) (I : Inv X pins σ H1 s0) (hst : X.stack = X.env :: X.outer) (hfr : X.env.frame = some X.env.locals) (hex : X.ex = []) : ∃ oe, oe.cls = C ∧ s3.heap.get? e = some oe ∧ H' e = none ∧ Inv (X.suite e) pins σ (upd H' e (ZHJ e C)) s3 := by
 have I3 := F.inv I
 obtain ⟨a0, B, os, bare, un, hok, hen, heH, fl, cov⟩ := F
 obtain ⟨oe, vs, T, oT, ts, he, hc, hd, _⟩ := fl.2.2.2
 have nfr : e ∉ frs X.stack := fun z => by
  obtain ⟨_, o, ho, hn⟩ := fl.2.2.1.mem z
  rw [he] at ho; cases ho
  exact hn vs hd
 have efr : frs X.stack = X.env.locals :: X.fs := by rw [hst]; exact ZIl hfr
 rw [efr] at nfr
 refine ⟨oe, hc.1, he, heH, (I3.track (u := ZHJ e C) ?_ heH (fun z => nfr (by rw [z]; exact List.mem_cons_self)) (fun x c q z => ?_) (fun p hp z => ?_) (ZRv he hc.1)).toSuite⟩
 ·cases z : X.s₀.heap.get? e with
  | none => rfl
  | some o =>
   obtain ⟨o', e'⟩ := I.base.there e o z (by rw [hex]; simp)
   rw [hen] at e'; cases e'
 ·obtain ⟨v, o, ho, hdc⟩ := I3.cell x c q
  rw [z, he] at ho; cases ho
  rw [hd] at hdc; cases hdc
 ·have := (I.pin p hp).1
  rw [z, hen] at this; cases this
end
abbrev TX := St → Hp → VK → XK → Prop
def XP (X : Cx) (pins : List (Addr × Obj)) (σ : St) (E : XK) (ev : Value) (s' : Shared) : Prop := ∃ H1 s1 e C H', Inv X pins σ H1 s1 ∧ ev = .ref e ∧ Fl X H1 s1 e C H' s' ∧ E C none H'
structure QX (X : Cx) (e : Expr) (t : TX) : Prop where
 h : ∀ (pins : List (Addr × Obj)) (s : Shared) (σ : St) (H : Hp) (Q : VK) (E : XK), Inv X pins σ H s → t σ H Q E → wpAny (model X.prog X.w) X.A (eval e X.env) (EP X pins σ Q) (XP X pins σ E) s
section
variable {X : Cx} {k : Nat} {f C : Addr} {fd : FuncData} {ps : List Str} {sp : Sp} {dvs : List V} {ds : List Value} {E : XK} {x m : Str} {p pos apos : Pos} {e o : Expr} {es : List Expr} {ta : TE} {t : TA}
theorem ZRw {pins : List (Addr × Obj)} {σ : St} {H : Hp} {s : Shared} {Q : VK} {us : List Value} {vs : List V} (F : ZCr X.prog X.w X.K X.mg X.base (CX1 X.prog X.w) k f fd ps sp) (hr : Room k X.A) (hb : ZCu X.K fd ps ds) (hd : ZCz dvs ds)
  (I : Inv X pins σ H s) (r : ZCz vs us) (h : sp (vs ++ dvs) H Q E) : wpAny (model X.prog X.w) X.A (call (.ref f) us) (EP X pins σ Q) (XP X pins σ E) s := by
 have r2 : ZCz (vs ++ dvs) (us ++ ds) := r.append hd
 have hl : (us ++ ds).length = ps.length := by rw [← r2.length]; exact F.len _ _ _ _ h
 refine wpAny_call (codeAny_mono (F.run X.A X.stack s H ⟨us, []⟩ (us ++ ds) (vs ++ dvs) Q E hr I.env0 (hb s us I.kIn hl) r2 h) fun r s' hq => ?_)
 cases r with
 | error e =>
  obtain ⟨e, C, a0, B, H', rfl, q1, q2, q3, q4, q5, q6, q7, q8, q⟩ := hq
  exact ⟨H, s, e, C, H', I, rfl, ⟨a0, B, q1, q2, q3, q4, q5, q6, q7, q8⟩, q⟩
 | ok fl =>
  cases fl with
  | ret u => exact I.after hq
  | next => exact False.elim hq
  | brk => exact False.elim hq
  | cont => exact False.elim hq
def ZN8 (sp : Sp) (dvs : List V) (t : TA) : TX := fun σ H Q E => t σ H fun vs H1 => sp (vs ++ dvs) H1 Q E
theorem ZRx (F : ZCr X.prog X.w X.K X.mg X.base (CX1 X.prog X.w) k f fd ps sp) (hr : Room k X.A) (hg : Gl X x) (hm : X.mg x = some (.ref f)) (hk : W.keepIn X.K (.ref f) = true) (hb : ZCu X.K fd ps ds) (hd : ZCz dvs ds)
  (ha : QA X.nox (e :: es) t) (hns : ZDY (e :: es) = true := by rfl) (hdb : (x == ("__debug__" : Str)) = false := by decide) : QX X (.Call (.Name x p) (e :: es) [] pos) (ZN8 sp dvs t) := by
 refine ⟨?_⟩
 intro pins s σ H Q E I h
 refine wpAny_Call_Name_kw (ZEu I hg hm ?_ hdb)
 refine PySem.W.callWith_K (h₀ := X.base) I.ok.mod.kin hk (wpAny_mono (ha.h pos pins s σ H _ (I.wish _) h) (fun us s1 ⟨vs, H1, I1, r, q⟩ => ⟨I1.kIn, ?_⟩) fun _ _ z => False.elim z) (ZEg hns) (ZEH (ZEG hns))
 exact ZRw F hr hb hd I1.unwish r q
end
abbrev TBX := ZDp → XK → St → Hp → Prop
structure QBX (X : Cx) (st : List Stmt) (t : TBX) : Prop where
 h : ∀ (pins : List (Addr × Obj)) (s : Shared) (σ : St) (H : Hp) (D : ZDp) (E : XK), Inv X pins σ H s → t D E σ H → wpAny (model X.prog X.w) X.A (execs st X.env) (SP X pins D) (XP X pins σ E) s
def ZN9 (t : TX) : TBX := fun D E σ H => t σ H (fun _ H1 => D.nx σ H1) E
section
variable {X : Cx} {e : Expr} {t : TX} {pos pos' : Pos} {x : Str} {i : Nat}
theorem one_bx {st : Stmt} {E : Value → Shared → Prop} {pins : List (Addr × Obj)} {D : ZDp} {s : Shared} (h : wpAny (model X.prog X.w) X.A (exec st X.env) (SP X pins D) E s) : wpAny (model X.prog X.w) X.A (execs [st] X.env) (SP X pins D) E s := by
 refine wpAny_execs_cons (thn h fun f s1 q => ?_)
 cases f with
 | next => exact wpAny_execs_nil q
 | ret v => exact q
 | brk => exact q
 | cont => exact q
theorem ZLB (he : QX X e t) (hs : ZEh e = false := by rfl) : QBX X [.Expr e pos] (ZN9 t) := ⟨fun pins s σ H D E I h =>
 one_bx (wpAny_Expr_any (thn (he.h pins s σ H _ E I h) fun v s1 ⟨x, H1, I1, r1, q1⟩ => ⟨σ, H1, I1, q1⟩) I.quiet (ZFU hs))⟩
end
abbrev TH := Value → ZDp → St → Hp → Prop
structure QH (X : Cx) (hs : List ExceptHandler) (t : TH) : Prop where
 h : ∀ (pins : List (Addr × Obj)) (σ : St) (H1 : Hp) (s0 : Shared) (e : Addr) (C : Value) (H' : Hp) (s3 : Shared) (D : ZDp), Inv X pins σ H1 s0 → Fl X H1 s0 e C H' s3 → t C D σ H' → wpAny (model X.prog X.w) X.A (handleBy (.ref e) X.env hs) (SP X pins D) X.xe s3
section
variable {X : Cx}
def ZUb : TH := fun _ _ _ _ => False
theorem ZOA : QH X [] ZUb := ⟨fun _ _ _ _ _ _ _ _ _ _ _ h => False.elim h⟩
theorem ZOB {M : Model} {A : Around} {E : Value → Shared → Prop} {s : Shared} {K : W.Frag} {T e : Addr} {oe : Obj} {b : Bool} {Q : Bool → Shared → Prop} (hK : K.In s.heap) (hT : ZFn K T) (he : s.heap.get? e = some oe) (hsub : subIn K oe.cls (.ref T) = some b) (hq : Q b s) : wpAny M A (excMatches (.ref e) (.ref T)) Q E s := by
 obtain ⟨bm, N', nm, qn, bs, hdct, sn, sub, ab, col, dd, k0, k1, k2, k3, k5, mN, hC, hN, hni, TL⟩ := ZIH hK hT
 obtain ⟨h, g, d, tk, os⟩ := s
 have hbase := TL.hasType PySem.F.excBase_ValueError.hasBase
 have hcB : (Value.ref T :: bm).contains (.type "BaseException") = true := by rw [List.contains_cons, hbase, Bool.or_true]
 have f := tc_notTuple
 have L := looks_subIn (M := M) hK hsub
 unfold excMatches
 repeat (first | with_reducible refine wpAny_loadPart_at he ?_ | with_reducible refine wpAny_loadPart_at hC ?_ | (with_reducible refine wpAny_isSubtype_exc hC ?_; rw [hcB]) | with_reducible refine L.at ?_ | wp_step)
 cases b <;> (wp_walk; exact hq)
abbrev ZDp.gone (D : ZDp) (i : Nat) : ZDp := { nx := fun σ H => D.nx (σ.set i none) H, rt := D.rt, bk := fun σ H => D.bk (σ.set i none) H, ct := fun σ H => D.ct (σ.set i none) H }
variable {x n : Str} {np pos : Pos} {T : Addr} {b₀ : Stmt} {suite : List Stmt} {ZEA : List ExceptHandler} {ts : Addr → TS} {tr : TH} {i : Nat}
def ZLC (C : Value) (H : Hp) (R : Addr → Hp → Prop) : Prop := ∀ e, H e = none → R e (upd H e (ZHJ e C))
def ZJZ (K : W.Frag) (T : Addr) (C : Value) (A B : Prop) : Prop := ∃ b, subIn K C (.ref T) = some b ∧ if b = true then A else B
def tHN (K : W.Frag) (T : Addr) (i : Nat) (ts : Addr → TS) (tr : TH) : TH := fun C D σ H => ZJZ K T C (ZLC C H fun e H2 => ts e (D.gone i) (σ.set i (some (.ref e))) H2) (tr C D σ H)
theorem ZLD (K : W.Frag) (hK : X.K = K) (hst : X.stack = X.env :: X.outer) (hfr : X.env.frame = some X.env.locals) (hex : X.ex = []) (hN : X.N.Nodup) (hi : X.N[i]? = some n) (hl : X.env.scope.names.lookup n = some .local) (hg : Gl X x) (hm : X.mg x = some (.ref T)) (hT : ZFn K T)
  (hs : ∀ e : Addr, QB (X.suite e) (b₀ :: suite) (ts e)) (hr : QH X ZEA tr) (hdb : (x == ("__debug__" : Str)) = false := by decide) :
  QH X (.ExceptHandler (some (.Name x np)) (some n) (b₀ :: suite) pos :: ZEA) (tHN K T i ts tr) := by
 subst hK
 refine ⟨?_⟩
 intro pins σ H1 s0 e C H' s3 D I F h
 obtain ⟨oe, rfl, he3, heH, IS⟩ := F.suite I hst hfr hex
 obtain ⟨b, hsub, h⟩ := h
 refine wpAny_handleBy_cons (codeAny_handlers_test ?_) (by intro q; cases q)
 refine ZEu IS hg hm ?_ hdb
 refine ZOB IS.kIn hT he3 hsub ?_
 cases b with
 | false => exact hr.h pins σ H1 s0 e _ H' s3 D I F h
 | true =>
  have okX := I.ok
  refine codeAny_handlers_suite_as ?_
  have F2 := F
  obtain ⟨a0, B, q1, q2, q3, q4, q5, q6, q7, q8⟩ := F2
  refine lands_againW q7 fun h' fl' up => ?_
  have I3 := F.inv I
  obtain ⟨hok3, un3, cov3⟩ := ZHI q4 q3 q8 fl'.1 up (ZIG I3 q7.2.2.1 fun b hb => hb)
  have F3 : Fl X H1 s0 e oe.cls H' { s3 with heap := h' } := ⟨a0, B, q1, q2, un3, hok3, q5, q6, fl', cov3⟩
  obtain ⟨oe4, ec4, _, _, IS4⟩ := F3.suite I hst hfr hex
  have hf : (X.suite e).fn n = true ∨ (X.suite e).env.scope.names.lookup n = some .local := .inr hl
  refine ZGx (X := X.suite e) (v := .ref e) IS4 hN hi (.inl hl) rfl (fun s5 IS5 => ?_) hf
  have := (hs e).h pins _ _ _ (D.gone i) IS5 (h e q6)
  refine wpAny_mono this (fun f s6 hsp => ?_) fun _ _ z => False.elim z
  show wpAny (model X.prog X.w) X.A (do bindName X.env n .none; unbindBehindTheSuite X.env n pos) (fun _ s₃ => SP X pins D f s₃) X.xe s6
  cases f with
  | next => obtain ⟨σ', H', I, q⟩ := hsp; exact ZII (I.ofSuite okX) hN hi hl fun s7 I7 => ⟨_, _, I7, q⟩
  | brk => obtain ⟨σ', H', I, q⟩ := hsp; exact ZII (I.ofSuite okX) hN hi hl fun s7 I7 => ⟨_, _, I7, q⟩
  | cont => obtain ⟨σ', H', I, q⟩ := hsp; exact ZII (I.ofSuite okX) hN hi hl fun s7 I7 => ⟨_, _, I7, q⟩
  | ret u => obtain ⟨v, σ', H', I, r, q⟩ := hsp; exact ZII (I.ofSuite okX) hN hi hl fun s7 I7 => ⟨_, _, _, I7, r, q⟩
end
section
variable {X : Cx} {body : List Stmt} {h₀ : ExceptHandler} {hs : List ExceptHandler} {pos : Pos} {tb : TBX} {th : TH}
def ZTl (tb : TBX) (th : TH) : TS := fun D σ H => tb D (fun C _ H' => th C D σ H') σ H
theorem ZOC (hst : X.stack = X.env :: X.outer) (hfr : X.env.frame = some X.env.locals) (hb : QBX X body tb) (hh : QH X (h₀ :: hs) th) : QS X (.Try body (h₀ :: hs) [] [] pos) (ZTl tb th) := by
 refine ⟨?_⟩
 intro pins s σ H D I h
 refine wpAny_Try_except (wpAny_mono (hb.h pins s σ H D _ I h) (fun f s1 q => ?_) fun ev s1 ⟨H1, s0, e, C, H', I1, eq, F, q⟩ => ?_)
 ·cases f with
  | next => exact wpAny_execs_nil q
  | brk => exact q
  | cont => exact q
  | ret u => exact q
 ·subst eq
  have I3 := F.inv I1
  have F2 := F
  obtain ⟨a0, B, q1, q2, q3, q4, q5, q6, q7, q8⟩ := F2
  have hfrs : X.A.frames = some (X.env :: X.outer) := by rw [← hst]; exact I.ok.frames
  have q7' : Heap.FlyingW B (X.env :: X.outer) e C a0 s1.heap := by rw [← hst]; exact q7
  refine wpAny_looks_onW hfrs hfr q7' fun h4 hheld up4 => ?_
  refine wpAny_landsW hheld fun h5 fl5 up5 => ?_
  have fl5' : Heap.FlyingW B X.stack e C a0 h5 := by rw [hst]; exact fl5
  obtain ⟨hok3, un3, cov3⟩ := ZHI q4 q3 q8 fl5'.1 (up4.trans up5) (ZIG I3 q7.2.2.1 fun b hb => hb)
  exact hh.h pins σ H1 s0 e C H' { s1 with heap := h5 } D I1 ⟨a0, B, q1, q2, un3, hok3, q5, q6, fl5', cov3⟩ q
end
end L2
namespace L2
open PySem PySem.Spec PyProof.Rows PySem.W PySem.Builtin PySem.Builtin.ObjectAttr PySem.Builtin.Getset_descriptor
structure ZFJ (K : W.Frag) (C : Addr) : Prop where
 ga : findIn K (.ref C) "__getattribute__" = some (some (.builtin "BaseException.__getattribute__"))
 gt : findIn K (.ref C) "__getattr__" = some none
 cl : findIn K (.ref C) "__class__" = some (some (.builtin "object.__class__"))
 ob : mroIn K C (.type "object") = some true
 be : mroIn K C (.type "BaseException") = some true
section
variable {prog : Program} {w : World} {A : Around} {E : Value → Shared → Prop} {h : Heap} {g : Array GenState} {d : Drawn} {t : Nat} {os : OsState} {a C : Addr} {o : Obj} {K : W.Frag}
theorem ZLE {M : Model} (hx : h.get? a = some o) (hc : o.cls = .ref C) : Looks M h (typeOf (.ref a)) (.ref C) := hc ▸ (Looks.ld hx).andThen .now
theorem ZKH {R : Result → Shared → Prop} {tp : Value} (X : K.In h) (hx : h.get? a = some o) (hc : o.cls = .ref C) (F : ZFJ K C) (hq : R (.ok (.ret (.ref C))) ⟨h, g, d, t, os⟩) :
  codeAny (model prog w) A (.call (.builtin "getset_descriptor.__get__") ⟨[.builtin "object.__class__", .ref a, tp], []⟩) R ⟨h, g, d, t, os⟩ := by
 have L0 := ZLE (M := model prog w) hx hc
 have L1 := looks_mroIn (M := model prog w) X F.ob
 refine codeAny_call_builtin KF.slot_gs.plain KF.entry_gs (KF.slot_gs.check _ _ _ _ _ _ _ _ KF.type_class (KF.args_gs _ _ _) ?_)
 unfold Builtin.«getset_descriptor.__get__» descrGet
 rw [dga_obj]
 refine wpAny_bind (wpAny_pure ?_)
 unfold descrGetter descrCheckInstance descrNameAndClass isInstance
 simp only [KF.owner_class]
 repeat lk
 refine ⟨Code.quiet_builtin _ (by decide +kernel), codeAny_builtin KF.entry_class ?_⟩
 unfold Builtin.«object.__class__» shownTypeOf
 repeat lk
 exact hq
theorem ZLF {M : Model} {nameV : Value} {Q : Unit → Shared → Prop} (X : K.In h) (hx : h.get? a = some o) (hc : o.cls = .ref C) (F : ZFJ K C) (hq : Q () ⟨h, g, d, t, os⟩) : wpAny M A (checkBuiltinCall "BaseException.__getattribute__" ⟨[.ref a, nameV], []⟩) Q E ⟨h, g, d, t, os⟩ := by
 have hk : builtinKind "BaseException.__getattribute__" = some .slot := by decide +kernel
 have hsplit : splitId "BaseException.__getattribute__" = some ("BaseException", "__getattribute__") := by decide +kernel
 have ha := PySem.F.args_bexc_ga (.ref a) nameV
 have L0 := ZLE (M := M) hx hc
 have L1 := looks_mroIn (M := M) X F.be
 simp only [checkBuiltinCall, hk, hsplit]
 refine wpAny_bind ?_
 unfold isInstance
 repeat (first | with_reducible refine L0.at ?_ | with_reducible refine L1.at ?_ | wp_step)
 exact hq
theorem ZJG {tk : Tok} {Q : Fin → Shared → Prop} (X : K.In h) (hx : h.get? a = some o) (hc : o.cls = .ref C) (F : ZFJ K C) (hq : Q (.done (.ret (.ref C))) ⟨h, g, d, t, os⟩) :
  wpAny (model prog w) A (Builtin.«object.__getattribute__» ⟨[.ref a, .str "__class__" tk], []⟩) Q E ⟨h, g, d, t, os⟩ := by
 have hT5 : (⟨h, g, d, t, os⟩ : Shared).TypeIs (.builtin "object.__class__") "getset_descriptor" := PySem.F.typeOf_object_class
 have f5 := PySem.F.typeOf_object_class
 have f6 := PySem.F.slot_gs_get.lookup
 have f7 := PySem.F.slot_gs_set.lookup
 have L2 := looks_findIn (M := model prog w) X F.cl
 repeat (any_goals (first | assumption | (with_reducible refine wpAny_loadPart_at hx ?_; rw [hc]) | with_reducible refine L2.at ?_ | wp_step))
 refine ZKH X hx hc F ?_
 repeat (any_goals (first | assumption | wp_step))
theorem ZJa {tk : Tok} {R : Result → Shared → Prop} (X : K.In h) (hx : h.get? a = some o) (hc : o.cls = .ref C) (F : ZFJ K C) (hq : R (.ok (.ret (.ref C))) ⟨h, g, d, t, os⟩) :
  codeAny (model prog w) A (.call (.builtin "BaseException.__getattribute__") ⟨[.ref a, .str "__class__" tk], []⟩) R ⟨h, g, d, t, os⟩ :=
 codeAny_call_builtin PySem.F.attr_ValueError.ga.plain PySem.F.entry_bexc_ga (ZLF X hx hc F (ZJG X hx hc F hq))
theorem ZLG {tk : Tok} {Q : Value → Shared → Prop} (X : K.In h) (hx : h.get? a = some o) (hc : o.cls = .ref C) (F : ZFJ K C) (hq : Q (.ref C) ⟨h, g, d, t, os⟩) :
  wpAny (model prog w) A (getAttrBy (.ref a) (.str "__class__" tk) false) Q E ⟨h, g, d, t, os⟩ := by
 have f3 := PySem.F.attr_ValueError.ga.bind (.ref a)
 have hx2 : (Value.builtin "BaseException.__getattribute__" == Value.builtin "object.__getattribute__") = false := by decide +kernel
 have hx1 : (onTheHeap (Value.ref C) && Value.builtin "BaseException.__getattribute__" == Value.builtin "object.__getattribute__") = false := by rw [hx2]; rfl
 have L1 := looks_findIn (M := model prog w) X F.ga
 have L2 := looks_findIn (M := model prog w) X F.gt
 repeat (any_goals (first | assumption | (with_reducible refine wpAny_loadPart_at hx ?_; rw [hc]) | with_reducible refine L1.at ?_ | with_reducible refine L2.at ?_ | wp_step))
 refine ZJa X hx hc F ?_
 repeat (any_goals (first | assumption | wp_step))
theorem ZJb {Q : Option Value → Shared → Prop} (X : K.In h) (hx : h.get? a = some o) (hc : o.cls = .ref C) (F : ZFJ K C) (hq : Q (some (.ref C)) ⟨h, g, d, t + 1, os⟩) : wpAny (model prog w) A (getAttr? (.ref a) "__class__") Q E ⟨h, g, d, t, os⟩ := by
 unfold getAttr? getAttrBy?
 repeat (any_goals (first | assumption | with_reducible apply ZLG X hx hc F | wp_step))
end
section
variable {K : W.Frag}
theorem ZPt {e C : Addr} (hC : ZFn K C) (F : ZFJ K C) : KitX K (.ref e) (.ref C) (fun h => ∃ oe, h.get? e = some oe ∧ oe.cls = .ref C) where
 ty := fun _ _ _ ⟨oe, h1, h2⟩ => ZLE h1 h2
 it := fun _ h X _ => by
  obtain ⟨bm, N', nm, qn, bs, hdct, sn, sub, ab, col, dd, k0, k1, k2, k3, k5, mN, hCo, _⟩ := ZIH X hC
  intro A' Q' E' s' k q
  unfold isType loadHead
  exact wpAny_bind (wpAny_loadPart (k _ _ hCo) (wpAny_pure q))
 ne := fun h tp dd its n sl X htp => by
  obtain ⟨bm, N', nm, qn, bs, hdct, sn, sub, ab, col, dd', k0, k1, k2, k3, k5, mN, hCo, _⟩ := ZIH X hC
  refine Bool.eq_false_iff.mpr fun q => ?_
  have e : C = tp := Value.ref.inj (beq_iff_eq.mp q)
  subst e
  have z := congrArg Obj.data (Option.some.inj (hCo.symm.trans htp))
  unfold excClassObj at z
  cases z
 ca := fun {_ _ _ _ _ s} X ⟨oe, h1, h2⟩ k => by
  obtain ⟨h, g, d, t, os⟩ := s
  exact ZJb X h1 h2 F k
end
def ZPu : V → Value → Prop
 | .ref T, u => u = .ref T
 | .ty n, u => u = .type n
 | _, _ => False
def ZM3 (K : W.Frag) : List V → Hp → VK → Prop := fun xs H Q => ∃ e C y u b, xs = [.ref e, y] ∧ H e = some (ZHJ e (.ref C)) ∧ ZFn K C ∧ ZFJ K C ∧ ZPu y u ∧ W.kitOne K (.ref C) u = some b ∧ Q (.bl b) H
theorem ZPv {y : V} {u v : Value} (h : ZPu y u) (r : ZCx y v) : v = u := by
 cases y <;> first | exact False.elim h | (obtain rfl := h; exact r)
section
variable {X : Cx}
theorem ZOD : ZDh X (.builtin "isinstance") (ZM3 X.K) := by
 intro pins s σ H xs us Q I r h
 obtain ⟨e, C, y, u, b, rfl, he, hC, F, hy, hk, q⟩ := h
 obtain ⟨v1, v2, rfl, r1, r2⟩ := r.two
 obtain rfl : v1 = Value.ref e := r1
 obtain rfl := ZPv hy r2
 obtain ⟨p, _⟩ := (show ZDR X.prog X.w H s.heap e (ZHJ e (.ref C)) from I.hok e _ he)
 exact PySem.W.kia_one (ZPt hC F) I.kIn p hk (fun z => nomatch z) fun tk => ⟨.bl b, H, I.tok _, rfl, q⟩
theorem ZFY (K : W.Frag) (h : X.K = K) : ZDh X (.builtin "isinstance") (ZM3 K) := h ▸ ZOD
end
section
variable {K : W.Frag} {σ : St} {H : Hp} {Q : VK} {D : ZDp} {E : XK} {C T e : Addr} {t : TA} {tb : TBX} {th : TH} {ts : Addr → TS} {tr : TH} {i : Nat}
def ZOE (E : XK) (C : Addr) (vs : List V) (H : Hp) : Prop := vs.length ≤ sizeLine ∧ E (.ref C) none H
theorem ZOF (h : t σ H fun vs H1 => ZOE E C vs H1) : ZLA E C t D σ H := h
theorem ZEY {vs : List V} (h : vs.length ≤ 1000) (q : E (.ref C) none H) : ZOE E C vs H := ⟨Nat.le_trans h (by decide), q⟩
theorem ZTm (h : tb D (fun C _ H' => th C D σ H') σ H) : ZTl tb th D σ H := h
theorem ZPw {sp : Sp} {dvs : List V} (h : t σ H fun vs H1 => sp (vs ++ dvs) H1 Q E) : ZN8 sp dvs t σ H Q E := h
theorem ZPx {u : TX} (h : u σ H (fun _ H1 => D.nx σ H1) E) : ZN9 u D E σ H := h
theorem ZGK {C : Value} {A B : Prop} {b : Bool} (hs : subIn K C (.ref T) = some b) (h : if b = true then A else B) : ZJZ K T C A B := ⟨b, hs, h⟩
theorem ZUK {C : Value} (h : ZJZ K T C (ZLC C H fun e H2 => ts e (D.gone i) (σ.set i (some (.ref e))) H2) (tr C D σ H)) : tHN K T i ts tr C D σ H := h
theorem ZHK {C : Value} {R : Addr → Hp → Prop} (h : ∀ e H2, H e = none → H2 e = some (ZHJ e C) → ZCq H H2 → R e H2) : ZLC C H R := fun e he => h e _ he ZCy (ZCq.new he)
theorem ZFZ {y : V} {u : Value} {b : Bool} (he : H e = some (ZHJ e (.ref C))) (hC : ZFn K C) (F : ZFJ K C) (hy : ZPu y u) (hk : W.kitOne K (.ref C) u = some b) (q : Q (.bl b) H) : ZM3 K [.ref e, y] H Q := ⟨e, C, y, u, b, rfl, he, hC, F, hy, hk, q⟩
end
section
variable {P : Program} {w : World} {K : W.Frag} {mg : Str → Option Value} {base : Heap} {N : List Str} {qual : Str} {scope : Scope} {f : Addr} {cd : Value} {A : Around} {outer : List Env} {s : Shared} {H : Hp} {E : XK}
 {x : Str} {np cpos pos : Pos} {e₀ : Expr} {es : List Expr} {t : TA} {C : Addr}
theorem ZHL (hC : ZFn K C) (hg : Gl (cxE P w K mg base N qual scope f cd A outer s H E) x) (hm : mg x = some (.ref C)) (ha : QA (cxE P w K mg base N qual scope f cd A outer s H E) (e₀ :: es) t)
 (hns : ZDY (e₀ :: es) = true := by rfl) (hdb : (x == ("__debug__" : Str)) = false := by decide) :
 QS (cxE P w K mg base N qual scope f cd A outer s H E) (.Raise (some (.Call (.Name x np) (e₀ :: es) [] cpos)) none pos) (ZLA E C t) := ⟨ZPq hC hg hm ha.h hdb (ZEg hns) (ZEH (ZEG hns))⟩
end
def fl (low tall : Int) (q : Int × Int) : Int := (q.1 - low * q.2) / (tall * q.2)
def ZDP (cv : PL) (b e : Int) : PL := cv.filter fun p => decide (b ≤ p.1) && decide (p.1 < e)
def InT (cv : PL) : Prop := ∀ p ∈ cv, (-(10 ^ 64) < p.1 ∧ p.1 < 10 ^ 64) ∧ -(10 ^ 64) < p.2 ∧ p.2 < 10 ^ 64
theorem ZJH {cv : PL} (h : Asc cv) {i j : Nat} (hi : i < cv.length) (hj : j < cv.length) (hij : i < j) : cv[i].1 < cv[j].1 := List.pairwise_iff_getElem.mp h i j hi hj hij
theorem ZDt {cv : PL} {b e : Int} {p : Int × Int} : p ∈ ZDP cv b e ↔ p ∈ cv ∧ b ≤ p.1 ∧ p.1 < e := by
 unfold ZDP
 rw [List.mem_filter]
 simp
def Is4 (cv : PL) (o : Option (PL)) : Prop :=
 (o = none ∧ cv = []) ∨ ∃ q0 q1 q2 q3 : Int × Int, o = some [q0, q1, q2, q3] ∧ q0 ∈ cv ∧ q1 ∈ cv ∧ q2 ∈ cv ∧ q3 ∈ cv ∧
  ∀ p ∈ cv, q0.1 ≤ p.1 ∧ p.1 ≤ q1.1 ∧ (q2.2 < p.2 ∨ (q2.2 = p.2 ∧ q2.1 ≤ p.1)) ∧ (p.2 < q3.2 ∨ (p.2 = q3.2 ∧ q3.1 ≤ p.1))
theorem Is4.join {c1 c2 : PL} {a0 a1 a2 a3 b0 b1 b2 b3 : Int × Int} (h : Is4 c1 (some [a0, a1, a2, a3])) (g : Is4 c2 (some [b0, b1, b2, b3])) (hlt : ∀ p ∈ c1, ∀ q ∈ c2, p.1 < q.1) :
  Is4 (c1 ++ c2) (some [a0, b1, if a2.2 ≤ b2.2 then a2 else b2, if b3.2 ≤ a3.2 then a3 else b3]) := by
 rcases h with ⟨e, _⟩ | ⟨q0, q1, q2, q3, e, m0, m1, m2, m3, hb⟩
 ·cases e
 rcases g with ⟨e', _⟩ | ⟨r0, r1, r2, r3, e', n0, n1, n2, n3, gb⟩
 ·cases e'
 cases e
 cases e'
 refine .inr ⟨_, _, _, _, rfl, List.mem_append_left _ m0, List.mem_append_right _ n1, ?_, ?_, fun p hp => ?_⟩
 ·split
  ·exact List.mem_append_left _ m2
  ·exact List.mem_append_right _ n2
 ·split
  ·exact List.mem_append_left _ m3
  ·exact List.mem_append_right _ n3
 ·rcases List.mem_append.mp hp with hp | hp
  ·have k1 := hb p hp
   have k2 := hlt p hp _ n1
   have k3 := hlt p hp _ n2
   have k4 := hlt p hp _ n3
   refine ⟨k1.1, by omega, ?_, ?_⟩
   ·split <;> omega
   ·split <;> omega
  ·have k1 := gb p hp
   have k2 := hlt _ m0 p hp
   have k3 := hlt _ m2 p hp
   have k4 := hlt _ m3 p hp
   refine ⟨by omega, k1.2.1, ?_, ?_⟩
   ·split <;> omega
   ·split <;> omega
theorem Is4.of_none {cv : PL} (h : Is4 cv none) : cv = [] := by
 rcases h with ⟨_, e⟩ | ⟨q0, q1, q2, q3, e, _⟩
 ·exact e
 ·cases e
theorem Is4.minmax {cv : PL} {p0 p1 p2 p3 : Int × Int} {i2 i3 : Nat} (ha : Asc cv) (e0 : cv[0]? = some p0) (e1 : cv[cv.length - 1]? = some p1) (e2 : cv[i2]? = some p2) (e3 : cv[i3]? = some p3)
  (h2 : ∀ j, j < cv.length → (cv.getD i2 (0, 0)).2 ≤ (cv.getD j (0, 0)).2 ∧ (j < i2 → (cv.getD i2 (0, 0)).2 < (cv.getD j (0, 0)).2))
  (h3 : ∀ j, j < cv.length → (cv.getD i3 (0, 0)).2 ≥ (cv.getD j (0, 0)).2 ∧ (j < i3 → (cv.getD i3 (0, 0)).2 > (cv.getD j (0, 0)).2)) : Is4 cv (some [p0, p1, p2, p3]) := by
 obtain ⟨z0, y0⟩ := List.getElem?_eq_some_iff.mp e0
 obtain ⟨z1, y1⟩ := List.getElem?_eq_some_iff.mp e1
 obtain ⟨z2, y2⟩ := List.getElem?_eq_some_iff.mp e2
 obtain ⟨z3, y3⟩ := List.getElem?_eq_some_iff.mp e3
 have d : ∀ {j : Nat} (hj : j < cv.length), cv.getD j (0, 0) = cv[j] := fun {j} hj => by simp [hj]
 refine .inr ⟨p0, p1, p2, p3, rfl, List.mem_of_getElem? e0, List.mem_of_getElem? e1, List.mem_of_getElem? e2, List.mem_of_getElem? e3, fun p hp => ?_⟩
 obtain ⟨j, hj, rfl⟩ := List.getElem_of_mem hp
 have k2 := h2 j hj
 have k3 := h3 j hj
 rw [d z2, d hj, y2] at k2
 rw [d z3, d hj, y3] at k3
 refine ⟨?_, ?_, ?_, ?_⟩
 ·by_cases h : j = 0
  ·subst h; rw [y0]; exact Int.le_refl _
  ·have := ZJH ha z0 hj (by omega)
   rw [y0] at this
   omega
 ·by_cases h : j = cv.length - 1
  ·subst h; rw [y1]; exact Int.le_refl _
  ·have := ZJH ha hj z1 (by omega)
   rw [y1] at this
   omega
 ·by_cases h : i2 < j
  ·have := ZJH ha z2 hj h
   rw [y2] at this
   omega
  ·by_cases h' : j = i2
   ·subst h'; rw [y2]; omega
   ·have := k2.2 (by omega)
    omega
 ·by_cases h : i3 < j
  ·have := ZJH ha z3 hj h
   rw [y3] at this
   omega
  ·by_cases h' : j = i3
   ·subst h'; rw [y3]; omega
   ·have := k3.2 (by omega)
    omega
theorem ZRy {b y t i : Int} (hy : 0 < y) : (b + i * y ≤ t ∧ t < b + i * y + y) ↔ (t - b) / y = i := by
 have h1 := Int.emod_add_mul_ediv (t - b) y
 have h2 := Int.emod_nonneg (t - b) (show y ≠ 0 by omega)
 have h3 := Int.emod_lt_of_pos (t - b) hy
 constructor
 ·rintro ⟨g1, g2⟩
  refine (Int.ediv_emod_unique hy (r := t - b - i * y) (q := i)).mpr ⟨?_, by omega, by omega⟩ |>.1
  rw [Int.mul_comm y i]
  omega
 ·intro e
  rw [e, Int.mul_comm y i] at h1
  constructor <;> omega
theorem ZM4 {cv : PL} {j : Nat} {q : Int × Int} {x z : Int} (h : cv[j]? = some q) : ZDP (cv.take (j + 1)) x z = ZDP (cv.take j) x z ++ (if (decide (x ≤ q.1) && decide (q.1 < z)) = true then [q] else []) := by
 rw [List.take_succ, h, ZDP, List.filter_append]
 congr 1
 simp only [Option.toList, List.filter_cons, List.filter_nil]
def ZGm (cv : PL) (b y : Int) (m : Nat) (fs : List (Option (PL))) : Prop := fs.length = m ∧ ∀ (k : Nat) o, fs[k]? = some o → Is4 (ZDP cv (b + (k : Int) * y) (b + (k : Int) * y + y)) o
theorem ZOG {cv : PL} {b e : Int} (h : Asc cv) : Asc (ZDP cv b e) := List.Pairwise.filter _ h
def Ch (e : Int) : Int → PL → Int → Prop
 | x, [], y => x = y
 | x, p :: r, y => (0 ≤ p.1 ∧ p.1 ≤ 40) ∧ p.2 * 2 ^ p.1.toNat = x ∧ x + 2 ^ p.1.toNat ≤ e ∧ (p.1 < 40 → x % (2 * 2 ^ p.1.toNat) = 0 → x + 2 * 2 ^ p.1.toNat ≤ e → False) ∧ Ch e (x + 2 ^ p.1.toNat) r y
theorem ZEQ (k : Nat) : (0 : Int) < 2 ^ k := Int.pow_pos (by decide)
theorem Ch.le {e : Int} : ∀ {r : PL} {x y : Int}, Ch e x r y → x ≤ y
 | [], _, _, h => by cases h; exact Int.le_refl _
 | p :: r, x, y, h => by
  have := Ch.le h.2.2.2.2
  have := ZEQ p.1.toNat
  omega
theorem Ch.snoc {e : Int} {p : Int × Int} : ∀ {r : PL} {x y : Int}, Ch e x r y → (0 ≤ p.1 ∧ p.1 ≤ 40) → p.2 * 2 ^ p.1.toNat = y → y + 2 ^ p.1.toNat ≤ e → (p.1 < 40 → y % (2 * 2 ^ p.1.toNat) = 0 → y + 2 * 2 ^ p.1.toNat ≤ e → False) → Ch e x (r ++ [p]) (y + 2 ^ p.1.toNat)
 | [], _, _, h, h1, h2, h3, h4 => by cases h; exact ⟨h1, h2, h3, h4, rfl⟩
 | _ :: _, _, _, h, h1, h2, h3, h4 => ⟨h.1, h.2.1, h.2.2.1, h.2.2.2.1, Ch.snoc h.2.2.2.2 h1 h2 h3 h4⟩
theorem ZHM {a b : Nat} (h : a ≤ b) : (2 : Int) ^ a ≤ 2 ^ b := by
 obtain ⟨c, rfl⟩ := Nat.exists_eq_add_of_le h
 rw [Int.pow_add]
 have h1 := ZEQ a
 have h2 := ZEQ c
 have h3 : (2 : Int) ^ a * 1 ≤ 2 ^ a * 2 ^ c := Int.mul_le_mul_of_nonneg_left (by omega) (by omega)
 omega
theorem ZGR {a b : Nat} (h : a ≤ b) : (2 : Int) ^ a ∣ 2 ^ b := by
 obtain ⟨c, rfl⟩ := Nat.exists_eq_add_of_le h
 rw [Int.pow_add]
 exact Int.dvd_mul_right _ _
theorem ZHN (k : Nat) : (2 : Int) * 2 ^ k = 2 ^ (k + 1) := by rw [Int.pow_succ]; omega
def Few (e : Int) (n : Nat) (x : Int) : Prop := ((2 : Int) ^ n ∣ x ∧ n ≤ 40 ∧ -(2 ^ 40) + (n : Int) ≤ x) ∨ ∃ m : Nat, (2 : Int) ^ m ∣ x ∧ e - x < 2 ^ m ∧ n + m ≤ 80
theorem Few.len {e x : Int} {n : Nat} (h : Few e n x) : n ≤ 80 := by
 rcases h with h | ⟨m, h⟩ <;> omega
theorem ZOH {a : Nat} {x : Int} (h : (2 : Int) ^ a ∣ x) (h1 : -(2 ^ a) < x) (h2 : x < 2 ^ a) : x = 0 := by
 obtain ⟨c, rfl⟩ := h
 have hp := ZEQ a
 have hc : c = 0 := by
  by_cases h0 : c ≤ -1
  ·have : (2 : Int) ^ a * c ≤ 2 ^ a * (-1) := Int.mul_le_mul_of_nonneg_left h0 (by omega)
   omega
  ·by_cases h0' : 1 ≤ c
   ·have : (2 : Int) ^ a * 1 ≤ 2 ^ a * c := Int.mul_le_mul_of_nonneg_left h0' (by omega)
    omega
   ·omega
 rw [hc, Int.mul_zero]
theorem ZLH {e x : Int} {L : Nat} (he : e ≤ 2 ^ 40) (hx : -(2 ^ 40) ≤ x) (h1 : (2 : Int) ^ L ∣ x) (h2 : x + 2 ^ L ≤ e) : L ≤ 40 := by
 have hc : L ≤ 40 ∨ L = 41 ∨ 42 ≤ L := by omega
 rcases hc with h | rfl | h
 ·exact h
 ·exfalso
  obtain ⟨c, hc⟩ := h1
  have e1 : (2 : Int) ^ 41 = 2199023255552 := by decide
  have e2 : (2 : Int) ^ 40 = 1099511627776 := by decide
  rw [e1] at h2 hc
  rw [e2] at he hx
  omega
 ·exfalso
  have h3 := ZHM h
  have e1 : (2 : Int) ^ 42 = 4398046511104 := by decide
  have e2 : (2 : Int) ^ 40 = 1099511627776 := by decide
  rw [e1] at h3
  rw [e2] at he hx
  omega
theorem Few.step {e x : Int} {n L : Nat} (he : e ≤ 2 ^ 40) (hx : -(2 ^ 40) ≤ x) (h : Few e n x) (h1 : (2 : Int) ^ L ∣ x) (h2 : x + 2 ^ L ≤ e) (h3 : (2 : Int) ^ (L + 1) ∣ x → x + 2 ^ (L + 1) ≤ e → False) : Few e (n + 1) (x + 2 ^ L) := by
 have hL := ZLH he hx h1 h2
 have hp := ZEQ L
 have es : (2 : Int) ^ (L + 1) = 2 * 2 ^ L := (ZHN L).symm
 rcases h with ⟨hd, hn, hb⟩ | ⟨m, hd, hm, hnm⟩
 ·by_cases ha : (2 : Int) ^ (L + 1) ∣ x
  ·-- limited by the end
   have h4 : ¬ x + 2 ^ (L + 1) ≤ e := fun z => h3 ha z
   by_cases h40 : L = 40
   ·subst h40
    have e2 : (2 : Int) ^ 40 = 1099511627776 := by decide
    have e3 : (2 : Int) ^ (40 + 1) = 2199023255552 := by decide
    have hx0 : x = 0 := ZOH ha (by rw [e3]; rw [e2] at hx; omega) (by rw [e3]; rw [e2] at h2 he; omega)
    subst hx0
    right
    refine ⟨0, Int.one_dvd _, ?_, by omega⟩
    rw [e2] at he h2 ⊢
    show e - (0 + 1099511627776) < 1
    omega
   ·right
    exact ⟨L, Int.dvd_add h1 (Int.dvd_refl _), by omega, by omega⟩
  ·-- limited by where it begins
   have hLn : n ≤ L := by
    by_cases hlt : n ≤ L
    ·exact hlt
    ·exact absurd (Int.dvd_trans (ZGR (by omega)) hd) ha
   have hd' : (2 : Int) ^ (L + 1) ∣ x + 2 ^ L := by
    obtain ⟨c, hc⟩ := h1
    have hodd : c % 2 = 1 := by
     by_cases h0 : c % 2 = 0
     ·exfalso
      apply ha
      refine ⟨c / 2, ?_⟩
      have : c = 2 * (c / 2) := by omega
      rw [hc, es]
      rw [Int.mul_comm 2 ((2 : Int) ^ L), Int.mul_assoc, ← this]
     ·omega
    refine ⟨(c + 1) / 2, ?_⟩
    have : c + 1 = 2 * ((c + 1) / 2) := by omega
    have h5 : x + 2 ^ L = 2 ^ L * (c + 1) := by rw [hc, Int.mul_add, Int.mul_one]
    rw [h5, es, Int.mul_comm 2 ((2 : Int) ^ L), Int.mul_assoc, ← this]
   left
   refine ⟨Int.dvd_trans (ZGR (by omega)) hd', ?_, by omega⟩
   by_cases h40 : L = 40
   ·subst h40
    have e2 : (2 : Int) ^ 40 = 1099511627776 := by decide
    obtain ⟨c, hc⟩ := h1
    rw [e2] at hc he h2 hx hb
    have : c ≠ 0 := by
     rintro rfl
     apply ha
     rw [hc]
     exact ⟨0, by omega⟩
    omega
   ·omega
 ·have hlt : L < m := by
   by_cases hlt : L < m
   ·exact hlt
   ·have := ZHM (show m ≤ L by omega)
    omega
  have ha : (2 : Int) ^ (L + 1) ∣ x := Int.dvd_trans (ZGR (by omega)) hd
  have h4 : ¬ x + 2 ^ (L + 1) ≤ e := fun z => h3 ha z
  right
  exact ⟨L, Int.dvd_add h1 (Int.dvd_refl _), by omega, by omega⟩
theorem Few.start {e b : Int} (hb : -(2 ^ 40) ≤ b) : Few e 0 b := .inl ⟨Int.one_dvd _, by omega, by simpa using hb⟩
theorem Is4.congr {a b : PL} {o : Option (PL)} (h : Is4 a o) (e : ∀ p, p ∈ a ↔ p ∈ b) : Is4 b o := by
 rcases h with ⟨h1, h2⟩ | ⟨q0, q1, q2, q3, h1, m0, m1, m2, m3, hb⟩
 ·refine .inl ⟨h1, ?_⟩
  cases b with
  | nil => rfl
  | cons p ps =>
   have := (e p).mpr List.mem_cons_self
   rw [h2] at this
   cases this
 ·exact .inr ⟨q0, q1, q2, q3, h1, (e _).mp m0, (e _).mp m1, (e _).mp m2, (e _).mp m3, fun p hp => hb p ((e p).mpr hp)⟩
theorem Is4.uniqueD {cv : PL} {o o' : Option (PL)} (ha : ∀ p ∈ cv, ∀ q ∈ cv, p.1 = q.1 → p = q) (h : Is4 cv o) (g : Is4 cv o') : o = o' := by
 rcases h with ⟨e, hc⟩ | ⟨q0, q1, q2, q3, e, m0, m1, m2, m3, hb⟩
 ·rcases g with ⟨e', _⟩ | ⟨r0, r1, r2, r3, e', n0, _⟩
  ·rw [e, e']
  ·rw [hc] at n0; cases n0
 ·rcases g with ⟨e', hc⟩ | ⟨r0, r1, r2, r3, e', n0, n1, n2, n3, gb⟩
  ·rw [hc] at m0; cases m0
  ·have a0 := hb r0 n0
   have a1 := hb r1 n1
   have a2 := hb r2 n2
   have a3 := hb r3 n3
   have b0 := gb q0 m0
   have b1 := gb q1 m1
   have b2 := gb q2 m2
   have b3 := gb q3 m3
   have e0 : q0 = r0 := ha _ m0 _ n0 (by omega)
   have e1 : q1 = r1 := ha _ m1 _ n1 (by omega)
   have e2 : q2 = r2 := ha _ m2 _ n2 (by omega)
   have e3 : q3 = r3 := ha _ m3 _ n3 (by omega)
   rw [e, e', e0, e1, e2, e3]
def inS (sm : PL) (l : Nat) (s : Int) : PL := ZDP sm (s * 2 ^ l) (s * 2 ^ l + 2 ^ l)
theorem ZE0 {sm : PL} {l : Nat} {s : Int} {p : Int × Int} : p ∈ inS sm l s ↔ p ∈ sm ∧ p.1 / 2 ^ l = s := by
 unfold inS
 rw [ZDt]
 have := ZRy (b := 0) (t := p.1) (i := s) (ZEQ l)
 rw [Int.sub_zero, Int.zero_add] at this
 rw [this]
theorem ZLI (x : Int) (l : Nat) : x / 2 ^ (l + 1) = x / 2 ^ l / 2 := by
 rw [Int.pow_succ, ← Int.ediv_ediv_of_nonneg (Int.le_of_lt (ZEQ l))]
theorem ZPy {sm : PL} {l : Nat} {s : Int} {p : Int × Int} : p ∈ inS sm l (2 * s) ++ inS sm l (2 * s + 1) ↔ p ∈ inS sm (l + 1) s := by
 rw [List.mem_append, ZE0, ZE0, ZE0, ZLI]
 constructor
 ·rintro (⟨h1, h2⟩ | ⟨h1, h2⟩)
  ·exact ⟨h1, by omega⟩
  ·exact ⟨h1, by omega⟩
 ·rintro ⟨h1, h2⟩
  have : p.1 / 2 ^ l = 2 * s ∨ p.1 / 2 ^ l = 2 * s + 1 := by omega
  rcases this with h | h
  ·exact .inl ⟨h1, h⟩
  ·exact .inr ⟨h1, h⟩
theorem ZTn {sm : PL} {l : Nat} {a b : Int} (hab : a < b) : ∀ p ∈ inS sm l a, ∀ q ∈ inS sm l b, p.1 < q.1 := by
 intro p hp q hq
 have h1 := (ZE0.mp hp).2
 have h2 := (ZE0.mp hq).2
 by_cases h : p.1 < q.1
 ·exact h
 ·have := Int.ediv_le_ediv (ZEQ l) (show q.1 ≤ p.1 by omega)
  omega
theorem ZM5 {sm : PL} {b x e : Int} (h1 : b ≤ x) (h2 : x ≤ e) (p : Int × Int) : p ∈ ZDP sm b x ++ ZDP sm x e ↔ p ∈ ZDP sm b e := by
 rw [List.mem_append, ZDt, ZDt, ZDt]
 constructor
 ·rintro (⟨g1, g2, g3⟩ | ⟨g1, g2, g3⟩)
  ·exact ⟨g1, g2, by omega⟩
  ·exact ⟨g1, by omega, g3⟩
 ·rintro ⟨g1, g2, g3⟩
  by_cases h : p.1 < x
  ·exact .inl ⟨g1, g2, h⟩
  ·exact .inr ⟨g1, by omega, g3⟩
theorem ZPz {sm : PL} {b x e : Int} : ∀ p ∈ ZDP sm b x, ∀ q ∈ ZDP sm x e, p.1 < q.1 := by
 intro p hp q hq
 have h1 := (ZDt.mp hp).2
 have h2 := (ZDt.mp hq).2
 omega
theorem ZD4 {m : PL} (hn : (m.map (·.1)).Nodup) {t h : Int} {q : Int × Int} : q ∈ ZDO m t h ↔ (q.1 ≠ t ∧ q ∈ m) ∨ q = (t, h) := by
 obtain ⟨a, b⟩ := q
 rw [← ZD3 (ZEz hn), ZIf, ← ZD3 hn]
 by_cases e : a = t
 ·subst e
  simp only [if_true, Option.some.injEq, ne_eq, not_true_eq_false, false_and, false_or, Prod.mk.injEq, true_and]
  exact eq_comm
 ·simp [e]
def kOf (l : Nat) (s : Int) : List Key := [Sum.inl (l : Int), Sum.inl s]
theorem ZRz {l l' : Nat} {s s' : Int} (h : kOf l s = kOf l' s') : l = l' ∧ s = s' := by
 unfold kOf at h
 simp only [List.cons.injEq, Sum.inl.injEq, and_true] at h
 exact ⟨by omega, h.2⟩
def ZDy (H : Hp) (kvs : List (List Key × V)) (sm : PL) (G : Nat → Int → Prop) : Prop := ∀ (l : Nat) (s : Int), l ≤ 40 → G l s → ∃ o, ZDE H ((ZDq kvs (kOf l s)).getD .non) o ∧ Is4 (inS sm l s) o
theorem ZDy.same {H H' : Hp} {kvs : List (List Key × V)} {sm : PL} {G : Nat → Int → Prop} (h : ZDy H kvs sm G) (s : ZCq H H') : ZDy H' kvs sm G := fun l s' hl g => by
 obtain ⟨o, h1, h2⟩ := h l s' hl g
 exact ⟨o, h1.same s, h2⟩
theorem PrT.kpX {H H' : Hp} {a d : Addr} {cv : PL} {ob : HO} (h : PrT H a cv) (k : Kp d H H') (hd : H d = some ob) (hn : ∀ xs, ob ≠ .tup xs) : PrT H' a cv := by
 obtain ⟨us, g, p⟩ := h
 have ne : ∀ {b : Addr} {xs : List V}, H b = some (.tup xs) → H' b = some (.tup xs) := fun {b xs} e => k _ _ e fun z => by
  subst z
  rw [hd] at e
  exact hn _ (Option.some.inj e)
 exact ⟨us, ne g, Paired.mapP p fun _ _ ⟨a, e, z⟩ => ⟨a, e, ne z⟩⟩
theorem ZDE.kpX {H H' : Hp} {d : Addr} {v : V} {o : Option (PL)} {ob : HO} (h : ZDE H v o) (k : Kp d H H') (hd : H d = some ob) (hn : ∀ xs, ob ≠ .tup xs) : ZDE H' v o := by
 cases h with
 | non => exact .non
 | pr e hl => exact .pr (e.kpX k hd hn) hl
theorem ZDy.kpX {H H' : Hp} {kvs : List (List Key × V)} {sm : PL} {G : Nat → Int → Prop} {d : Addr} {ob : HO} (h : ZDy H kvs sm G) (k : Kp d H H') (hd : H d = some ob) (hn : ∀ xs, ob ≠ .tup xs) : ZDy H' kvs sm G := fun l s' hl g => by
 obtain ⟨o, h1, h2⟩ := h l s' hl g
 exact ⟨o, h1.kpX k hd hn, h2⟩
theorem ZDy.other {H : Hp} {kvs : List (List Key × V)} {sm sm' : PL} {t : Int} (h : ZDy H kvs sm fun _ _ => True) (e : ∀ q : Int × Int, q.1 ≠ t → (q ∈ sm ↔ q ∈ sm')) : ZDy H kvs sm' fun l s => s ≠ t / 2 ^ l := fun l s hl g => by
 obtain ⟨o, h1, h2⟩ := h l s hl trivial
 refine ⟨o, h1, h2.congr fun p => ?_⟩
 rw [ZE0, ZE0]
 constructor
 ·rintro ⟨g1, g2⟩
  exact ⟨(e p fun z => g (by rw [← g2, z])).mp g1, g2⟩
 ·rintro ⟨g1, g2⟩
  exact ⟨(e p fun z => g (by rw [← g2, z])).mpr g1, g2⟩
theorem ZDy.put {H' : Hp} {kvs : List (List Key × V)} {sm : PL} {G : Nat → Int → Prop} {t : Int} {i : Nat} {v : V} {o : Option (PL)} (h : ZDy H' kvs sm G) (hv : ZDE H' v o) (ho : Is4 (inS sm i (t / 2 ^ i)) o) :
  ZDy H' (ZEP kvs (kOf i (t / 2 ^ i)) v) sm fun l s => G l s ∨ (l = i ∧ s = t / 2 ^ l) := fun l s hl g => by
 by_cases e : kOf l s = kOf i (t / 2 ^ i)
 ·obtain ⟨rfl, rfl⟩ := ZRz e
  refine ⟨o, ?_, ho⟩
  rw [ZIe, if_pos rfl]
  exact hv
 ·rcases g with g | ⟨rfl, rfl⟩
  ·obtain ⟨o', h1, h2⟩ := h l s hl g
   refine ⟨o', ?_, h2⟩
   rw [ZIe, if_neg e]
   exact h1
  ·exact absurd rfl e
theorem ZDy.mono {H : Hp} {kvs : List (List Key × V)} {sm : PL} {G G' : Nat → Int → Prop} (h : ZDy H kvs sm G) (g : ∀ l s, l ≤ 40 → G' l s → G l s) : ZDy H kvs sm G' := fun l s hl hg => h l s hl (g l s hl hg)
theorem ZDy.tups {H H' : Hp} {kvs : List (List Key × V)} {sm : PL} {G : Nat → Int → Prop} (h : ZDy H kvs sm G) (t : ∀ b xs, H b = some (.tup xs) → H' b = some (.tup xs)) : ZDy H' kvs sm G := fun l s hl g => by
 obtain ⟨o, h1, h2⟩ := h l s hl g
 refine ⟨o, ?_, h2⟩
 generalize (ZDq kvs (kOf l s)).getD .non = v at h1
 cases h1 with
 | non => exact .non
 | pr e hl =>
  obtain ⟨us, g, p⟩ := e
  exact .pr ⟨us, t _ _ g, Paired.mapP p fun _ _ ⟨a, e, z⟩ => ⟨a, e, t _ _ z⟩⟩ hl
def ZEK (m : PL) (t : Int) : PL := m.filter fun p => decide (p.1 ≠ t)
theorem ZR0 (m : PL) (t : Int) : ZGI (ZDN m) (.inl t) = ZDN (ZEK m t) := by
 unfold ZGI ZDN ZEK
 rw [List.filter_map]
 congr 1
 apply List.filter_congr
 intro p _
 simp [dkE, Function.comp]
theorem ZGL {m : PL} {t : Int} {q : Int × Int} : q ∈ ZEK m t ↔ q.1 ≠ t ∧ q ∈ m := by
 unfold ZEK
 rw [List.mem_filter, decide_eq_true_iff, and_comm]
theorem ZIQ {m : PL} {t : Int} (n : (m.map (·.1)).Nodup) : ((ZEK m t).map (·.1)).Nodup := n.sublist ((List.filter_sublist).map _)
theorem ZOI (m : PL) (t : Int) : (ZEK m t).length ≤ m.length := List.length_filter_le _ _
def Eqv (m m' : PL) : Prop := ∀ q : Int × Int, q ∈ m ↔ q ∈ m'
theorem Eqv.put {m m' : PL} (h : Eqv m m') (n : (m.map (·.1)).Nodup) (n' : (m'.map (·.1)).Nodup) (t v : Int) : Eqv (ZDO m t v) (ZDO m' t v) := fun q => by rw [ZD4 n, ZD4 n', h q]
theorem ZOJ {m : PL} {t v : Int} (n : (m.map (·.1)).Nodup) (hg : ZC9 m t = some v) : Eqv (ZDO (ZEK m t) t v) m := fun q => by
 rw [ZD4 (ZIQ n), ZGL]
 obtain ⟨x, y⟩ := q
 constructor
 ·rintro (⟨_, _, h⟩ | h)
  ·exact h
  ·rw [h]; exact (ZD3 n).mp hg
 ·intro h
  by_cases e : x = t
  ·subst e
   have := (ZD3 n).mpr h
   rw [hg] at this
   cases this
   exact .inr rfl
  ·exact .inl ⟨e, e, h⟩
theorem ZOK {m : PL} {t v : Int} (n : (m.map (·.1)).Nodup) (hg : ZC9 m t = none) : Eqv (ZEK (ZDO m t v) t) m := fun q => by
 rw [ZGL, ZD4 n]
 constructor
 ·rintro ⟨h, (h' | h')⟩
  ·exact h'.2
  ·exact absurd (by rw [h']) h
 ·intro h
  have : q.1 ≠ t := fun e => by
   rw [ZEU] at hg
   exact hg (List.mem_map.mpr ⟨q, h, e⟩)
  exact ⟨this, .inl ⟨this, h⟩⟩
theorem ZP0 {m : PL} {t u v : Int} (n : (m.map (·.1)).Nodup) (hg : ZC9 m t = some u) : Eqv (ZDO (ZDO m t v) t u) m := fun q => by
 rw [ZD4 (ZEz n), ZD4 n]
 obtain ⟨x, y⟩ := q
 constructor
 ·rintro (⟨h, (h' | h')⟩ | h)
  ·exact h'.2
  ·exact absurd (by rw [h']) h
  ·rw [h]; exact (ZD3 n).mp hg
 ·intro h
  by_cases e : x = t
  ·subst e
   have := (ZD3 n).mpr h
   rw [hg] at this
   cases this
   exact .inr rfl
  ·exact .inl ⟨e, .inl ⟨e, h⟩⟩
section
variable {X : Cx} {o e : Expr} {apos cpos pos p : Pos} {td ty to : TE}
theorem ZP1 (ho : QE X o td) (he : QE X e ty) (m : M1 X o "pop" apos e cpos := by exact ⟨rfl, rfl, rfl, rfl⟩) : QE X (.Call (.Attribute o "pop" apos) [e] [] cpos) (ZKv td ty) := ⟨ZPe ho.h he.h m⟩
def ZLJ : R2 := fun y x H Q => ∃ a o, x = .ref a ∧ ZEW H a y o ∧ Q (.bl (!o.isSome)) H
theorem ZJI (hu : X.A.units + 1 < cLine) : OpR X (compareOp .NotIn) ZLJ := by
 intro pins s σ H x y v u Q I rx ry h
 obtain ⟨a, ov, rfl, g, q⟩ := h
 obtain rfl : u = Value.ref a := ry
 exact ZRe hu I g rx fun s3 I3 => ⟨.bl (!ov.isSome), H, I3, rfl, q⟩
def ZOL : List V → Hp → VK → Prop := fun xs H Q => ∃ a kvs, xs = [.ref a] ∧ H a = some (.dK kvs) ∧ ∀ p, H p = none → Q (.ref p) (upd H p (.dK kvs))
theorem ZM6 : ZDh X (.type "dict") ZOL := by
 intro pins s σ H xs us Q I r h
 obtain ⟨a, kvs, rfl, hd, q⟩ := h
 cases r with
 | cons r1 r2 =>
 cases r2
 cases r1
 exact ZPf I (.inl hd) fun p s' hp I' => ⟨.ref p, _, I', rfl, q p hp⟩
end
section
variable {K : W.Frag} {σ : St} {H : Hp} {Q : VK} {td ty : TE} {a b : Addr} {m m' : PL} {i v : Int}
def ZLK (a : Addr) (y : V) (H : Hp) (Q : VK) : Prop := ∃ kvs k v, H a = some (.dK kvs) ∧ y = kV k ∧ ZDq kvs k = some v ∧ Q v (upd H a (.dK (ZGI kvs k)))
def ZOM (ty : TE) (σ : St) (Q : VK) (x : V) (H : Hp) : Prop := ∃ a, x = .ref a ∧ IsD H a ∧ ty σ H fun y H2 => ZLK a y H2 Q
theorem ZP2 (h : td σ H fun x H1 => ZOM ty σ Q x H1) : ZKv td ty σ H Q := h
theorem ZP3 {kvs : List (Key × V)} (h1 : H a = some (.dK kvs)) (q : ty σ H fun y H2 => ZLK a y H2 Q) : ZOM ty σ Q (.ref a) H := ⟨a, rfl, .inl ⟨kvs, .inl h1⟩, q⟩
theorem ZP4 (h1 : H a = some (.dK (ZDN m))) (l : ZC9 m i = some v) (q : ∀ H2, H2 a = some (.dK (ZDN (ZEK m i))) → Kp a H H2 → Q (.int v) H2) : ZLK a (.int i) H Q :=
 ⟨ZDN m, .inl i, .int v, h1, rfl, by rw [ZF4, l]; rfl, by rw [ZR0]; exact q _ ZCy Kp.upd⟩
theorem ZJJ (h1 : H a = some (.dK (ZDN m))) (q : Q (.bl (!(ZC9 m i).isSome)) H) : ZLJ (.int i) (.ref a) H Q := ⟨a, _, rfl, ZEW.k (k := Sum.inl i) h1, by rw [ZF4, Option.isSome_map]; exact q⟩
theorem ZP5 (h1 : H a = some (.dK (ZDN m))) (q : ∀ p H2, H p = none → H2 p = some (.dK (ZDN m)) → ZCq H H2 → Q (.ref p) H2) : ZOL [.ref a] H Q := ⟨a, _, rfl, h1, fun p hp => q p _ hp ZCy (ZCq.new hp)⟩
theorem ZTo {l : Addr} {xs : List V} {y : V} (h : H l = some (.lst (xs ++ [y]))) (q : ∀ H2, H2 l = some (.lst xs) → Kp l H H2 → Q y H2) : ZSx (.ref l) [] H Q :=
 ⟨l, xs ++ [y], y, rfl, rfl, h, by simp, by rw [List.dropLast_concat]; exact q _ ZCy Kp.upd⟩
end
def ZON (K : W.Frag) : R2 := fun x y H Q => ∃ p q xs, x = .ref p ∧ y = .ref q ∧ SqL K H p xs ∧ SqL K H q [] ∧ Q (.bl xs.isEmpty) H
section
variable {X : Cx}
theorem ZP6 (K : W.Frag) (hK : X.K = K) (hu : X.A.units + 1 < cLine) : OpR X (compareOp .Eq) (ZON K) := by
 subst hK
 intro pins s σ H x y v u Q I rx ry h
 obtain ⟨p, q, xs, rfl, rfl, h1, h2, k⟩ := h
 obtain rfl : v = Value.ref p := rx
 obtain rfl : u = Value.ref q := ry
 obtain ⟨its, rv, pl, hz⟩ := I.list h1
 obtain ⟨its2, rv2, pl2, hz2⟩ := I.list h2
 cases rv2
 have hlen := rv.length
 cases xs with
 | nil =>
  cases rv
  refine SeqAt.eq_listAt (e := fun _ => true) pl.isList pl2.isList rfl (by omega) (fun j h1 _ => absurd h1 (by simp)) ⟨.bl true, H, I, rfl, k⟩
 | cons x xs =>
  refine SeqAt.eq_list_lengthsAt pl.isList pl2.isList ?_ (by omega) ⟨.bl false, H, I, rfl, k⟩
  simp only [List.length_cons] at hlen
  simp only [List.size_toArray, List.length_nil, bne_iff_ne, ne_eq]
  omega
end
section
variable {K : W.Frag} {H : Hp} {Q : VK} {p q : Addr} {xs : List V}
theorem ZP7 (h1 : SqL K H p xs) (h2 : SqL K H q []) (k : Q (.bl xs.isEmpty) H) : ZON K (.ref p) (.ref q) H Q := ⟨p, q, xs, rfl, rfl, h1, h2, k⟩
end
theorem ZHx {K : W.Frag} {H : Hp} : ∀ ns : List Int, ZEm K H (ns.map V.int) (ns.map PyData.int)
 | [] => .nil
 | n :: ns => .cons (.int n) (ZHx ns)
theorem ZLL : ∀ l m : List Int, PyData.eqvAll (l.map PyData.int) (m.map PyData.int) = decide (l = m)
 | [], [] => rfl
 | [], q :: m => by simp [PyData.eqvAll]
 | p :: l, [] => by simp [PyData.eqvAll]
 | p :: l, q :: m => by
  show (PyData.eqv (PyData.int p) (PyData.int q) && PyData.eqvAll (l.map PyData.int) (m.map PyData.int)) = _
  rw [ZLL l m, show PyData.eqv (PyData.int p) (PyData.int q) = (p == q) from rfl]
  by_cases h1 : p = q <;> by_cases h2 : l = m <;> simp [h1, h2]
theorem ZJK : ∀ l : List Int, PyData.depthAll (l.map PyData.int) ≤ 50
 | [] => by decide
 | p :: l => by
  have ih := ZJK l
  show PyData.depthAll (PyData.int p :: l.map PyData.int) ≤ 50
  simp only [PyData.depthAll, PyData.depth]
  omega
theorem ZLs (l : List Int) : (PyData.tuple (l.map PyData.int)).depth ≤ 60 := by
 have := ZJK l
 simp only [PyData.depth]
 omega
theorem ZLM : ∀ l : List Int, (PyData.tuple (l.map PyData.int)).canLay0 = true := by
 have h : ∀ l : List Int, PyData.canLayAll0 (l.map PyData.int) = true := fun l => by
  induction l with
  | nil => rfl
  | cons p l ih => exact ih
 exact h
section
variable {K : W.Frag} {H : Hp} {Q : VK} {a b : Addr} {l m : List Int}
theorem ZJc (h1 : H a = some (.tup (l.map V.int))) (h2 : H b = some (.tup (m.map V.int))) (h : Q (.bl (!decide (l = m))) H) : ZJU K (.ref a) (.ref b) H Q := by
 refine ZKp (.tup (SqT.of h1) (ZHx l)) (.tup (SqT.of h2) (ZHx m)) (ZLM l) (ZLM m) (ZLs l) ?_
 rw [show PyData.eqv (.tuple (l.map PyData.int)) (.tuple (m.map PyData.int)) = decide (l = m) from ZLL l m]
 exact h
end
end L2
namespace L2
theorem ZOO {cv : PL} (h : Asc cv) : (cv.map (·.1)).Nodup := by
 rw [List.nodup_iff_pairwise_ne, List.pairwise_map]
 exact h.imp fun {a b} hab e => by omega
end L2
namespace L2
open PySem PySem.Spec PyProof.Rows PySem.W
def FrL (l : List Addr) (H H' : Hp) : Prop := ∀ b o, H b = some o → b ∉ l → H' b = some o
theorem PrT.frL {H H' : Hp} {u : Addr} {cv : PL} {l : List Addr} (h : PrT H u cv) (f : FrL l H H') (nt : ∀ b ∈ l, ∀ xs, H b ≠ some (.tup xs)) : PrT H' u cv := by
 obtain ⟨us, h1, h2⟩ := h
 have kt : ∀ b xs, H b = some (.tup xs) → H' b = some (.tup xs) := fun b xs e => f _ _ e fun z => nt b z xs e
 exact ⟨us, kt _ _ h1, Paired.mapP h2 fun _ _ ⟨a, e, z⟩ => ⟨a, e, kt _ _ z⟩⟩
theorem PrT.tups {H H' : Hp} {u : Addr} {cv : PL} (h : PrT H u cv) (t : ∀ b xs, H b = some (.tup xs) → H' b = some (.tup xs)) : PrT H' u cv := by
 obtain ⟨us, h1, h2⟩ := h
 exact ⟨us, t _ _ h1, Paired.mapP h2 fun _ _ ⟨a, e, z⟩ => ⟨a, e, t _ _ z⟩⟩
end L2
namespace L2
theorem ZOP {c : TT} {t u : TS} {D : ZDp} {σ : St} {H : Hp} (h : ZKX c t u D σ H) : ZKX c t u D σ H := h
end L2
namespace L2
open PySem PySem.Spec PyProof.Rows PySem.W
theorem ZLN (o : Option (PL)) : (ZJE o).canLay0 = true := by
 cases o with
 | none => rfl
 | some qs => exact ZFB qs
theorem ZP8 (o : Option (PL)) : (ZJE o).depth ≤ 55 := by
 cases o with
 | none => show (PyData.none).depth ≤ 55; simp only [PyData.depth]; decide
 | some qs =>
  have := ZF5 qs
  show (PyData.tuple (qs.map ZDj)).depth ≤ 55
  simp only [PyData.depth]
  omega
theorem ZP9 (o o' : Option (PL)) : PyData.eqv (ZJE o) (ZJE o') = decide (o = o') := by
 cases o with
 | none =>
  cases o' with
  | none => rfl
  | some qs => rfl
 | some qs =>
  cases o' with
  | none => rfl
  | some rs =>
   show PyData.eqvAll (qs.map ZDj) (rs.map ZDj) = _
   rw [ZFw]
   simp only [Option.some.injEq]
theorem ZDE.dat {K : W.Frag} {H : Hp} {v : V} {o : Option (PL)} (h : ZDE H v o) : Dat K H v (ZJE o) := by
 cases h with
 | non => exact .non
 | pr h hl =>
  obtain ⟨us, g, p⟩ := h
  exact .tup (SqT.of g) p.dats
section
variable {K : W.Frag} {H : Hp} {Q : VK} {x y : V} {o o' : Option (PL)} {a b : Addr} {us ws : List V} {fs gs : List (Option (PL))}
theorem ZJz (h : ZDE H x o) (g : ZDE H y o') (q : Q (.bl (!decide (o = o'))) H) : ZJU K x y H Q :=
 ZKp h.dat g.dat (ZLN _) (ZLN _) (Nat.le_trans (ZP8 _) (by decide)) (by rw [ZP9]; exact q)
end
theorem ZDE.tups {H H' : Hp} {v : V} {o : Option (PL)} (h : ZDE H v o) (t : ∀ b xs, H b = some (.tup xs) → H' b = some (.tup xs)) : ZDE H' v o := by
 cases h with
 | non => exact .non
 | pr e hn => exact .pr (e.tups t) hn
theorem ZDe.tups {H H' : Hp} {vs : List V} {os : List (Option (PL))} (h : ZDe H vs os) (t : ∀ b xs, H b = some (.tup xs) → H' b = some (.tup xs)) : ZDe H' vs os := h.mapP fun _ _ d => d.tups t
theorem ZJ0 {m m' : PL} (h : Eqv m m') (b e : Int) : ∀ p, p ∈ ZDP m b e ↔ p ∈ ZDP m' b e := fun p => by rw [ZDt, ZDt, h p]
theorem ZOQ {m : PL} (n : (m.map (·.1)).Nodup) : ∀ p ∈ m, ∀ q ∈ m, p.1 = q.1 → p = q := fun p hp q hq e => by
 obtain ⟨x, y⟩ := p
 obtain ⟨z, w⟩ := q
 have e : x = z := e
 subst e
 have h1 := (ZD3 n).mpr hp
 have h2 := (ZD3 n).mpr hq
 rw [h1] at h2
 cases h2
 rfl
theorem ZQA {m m' : PL} {b e : Int} {o o' : Option (PL)} (hv : Eqv m m') (n : (m.map (·.1)).Nodup) (h : Is4 (ZDP m b e) o) (g : Is4 (ZDP m' b e) o') : o = o' :=
 Is4.uniqueD (fun p hp q hq => ZOQ n p (ZDt.mp hp).1 q (ZDt.mp hq).1) h (g.congr fun p => (ZJ0 hv b e p).symm)
theorem ZGS {m m' : PL} {b y : Int} {k : Nat} {fs gs : List (Option (PL))} (hv : Eqv m m') (n : (m.map (·.1)).Nodup) (h : ZGm m b y k fs) (g : ZGm m' b y k gs) : fs = gs := by
 refine List.ext_getElem (by rw [h.1, g.1]) fun i h1 h2 => ?_
 exact ZQA hv n (h.2 i _ (List.getElem?_eq_getElem h1)) (g.2 i _ (List.getElem?_eq_getElem h2))
structure ZLO (K : Frag) (x : Str) (C : Addr) : Prop where
 a : nsIn K mainGlobals x = some (some (.ref C))
 ex : excIn K C [.type "ValueError", .type "Exception", .type "BaseException", .type "object"] "ValueError.__new__" = true
 ga : findIn K (.ref C) "__getattribute__" = some (some (.builtin "BaseException.__getattribute__"))
 gt : findIn K (.ref C) "__getattr__" = some none
 cl : findIn K (.ref C) "__class__" = some (some (.builtin "object.__class__"))
 ob : mroIn K C (.type "object") = some true
 be : mroIn K C (.type "BaseException") = some true
structure ZTp (K : Frag) (x : Str) (C : Addr) : Prop where
 a : nsIn K mainGlobals x = some (some (.ref C))
 pg : plainGet K C Str.empty = true
 hd : hasDictIn K C = true
 po : plainOver K C = true
 sa : findIn K (.ref C) "__setattr__" = some (some (.builtin "object.__setattr__"))
 mi : makesIn K C = true
 kc : keepIn K (.ref C) = true
section
variable {K : Frag} {x qual : Str} {st : Stmt} {f : Addr} {fd : FuncData}
theorem Fun.b1 {p : Str} (F : Fun K x qual st f fd) (h : ∀ (kV doc pm : Value) (an : Option Addr) (cdv ct u : Value), bindArgs (fnOf x qual (ZDs st) (ZDX st) (ZCo st) .none kV doc pm an cdv ct) ⟨[u], []⟩ = pure ([p].zip [u])) : ZCu K fd [p] [] := F.binds fun _ _ _ _ _ _ us hl => match us, hl with | [_], _ => h _ _ _ _ _ _ _
theorem Fun.b2 {p q : Str} (F : Fun K x qual st f fd) (h : ∀ (kV doc pm : Value) (an : Option Addr) (cdv ct u v : Value), bindArgs (fnOf x qual (ZDs st) (ZDX st) (ZCo st) .none kV doc pm an cdv ct) ⟨[u, v], []⟩ = pure ([p, q].zip [u, v])) : ZCu K fd [p, q] [] := F.binds fun _ _ _ _ _ _ us hl => match us, hl with | [_, _], _ => h _ _ _ _ _ _ _ _
theorem Fun.b3 {p q r : Str} (F : Fun K x qual st f fd) (h : ∀ (kV doc pm : Value) (an : Option Addr) (cdv ct u v y : Value), bindArgs (fnOf x qual (ZDs st) (ZDX st) (ZCo st) .none kV doc pm an cdv ct) ⟨[u, v, y], []⟩ = pure ([p, q, r].zip [u, v, y])) : ZCu K fd [p, q, r] [] := F.binds fun _ _ _ _ _ _ us hl => match us, hl with | [_, _, _], _ => h _ _ _ _ _ _ _ _ _
end
section
variable {X : Cx} {k : Nat} {f C : Addr} {fd : FuncData} {ps : List Str} {sp : Sp} {dvs : List V} {ds : List Value} {E : XK} {x : Str} {p pos p1 : Pos} {e : Expr} {es : List Expr} {t : TA} {u : TX} {body : List Stmt}
theorem ZOR {pins : List (Addr × Obj)} {σ : St} {H : Hp} {s : Shared} {Q : VK} {us : List Value} {vs : List V} (M : Mk X.K C f) (F : ZCr X.prog X.w X.K X.mg X.base (CX1 X.prog X.w) k f fd ps sp) (hr : Room (k + 1) X.A) (hb : ZCu X.K fd ps ds) (hd : ZCz dvs ds)
  (I : Inv X pins σ H s) (r : ZCz vs us) (h : ZJF C sp dvs E vs H Q) : wpAny (model X.prog X.w) X.A (call (.ref C) us) (EP X pins σ Q) (XP X pins σ E) s := by
 have hq := h (s.heap.objs.size + 1) s.heap.objs.size (I.hok.fresh (Nat.le_succ _)) (I.hok.fresh (Nat.le_refl _)) (Nat.ne_of_lt (Nat.lt_succ_self _))
 have I2 := Inv.made (C := C) I
 have r2 : ZCz (V.ref (s.heap.objs.size + 1) :: (vs ++ dvs)) (Value.ref (s.heap.objs.size + 1) :: (us ++ ds)) := .cons rfl (r.append hd)
 have hl : (Value.ref (s.heap.objs.size + 1) :: us ++ ds).length = ps.length := by
  have e := r2.length
  rw [F.len _ _ _ _ hq] at e
  exact e.symm
 refine wpAny_call (ZKb (f := f) I.kIn M.makes M.init (beq_iff_eq.mp M.fn) (codeAny_mono (F.run _ X.stack _ _ ⟨Value.ref (s.heap.objs.size + 1) :: us, []⟩ (Value.ref (s.heap.objs.size + 1) :: (us ++ ds)) _ _ E (hr.make C us [])
  (I2.env0.make C us []) (hb _ (Value.ref (s.heap.objs.size + 1) :: us) I2.kIn hl) r2 hq) fun r s' hq' => ?_))
 cases r with
 | error e =>
  obtain ⟨e, C', a0, B, H', rfl, q1, q2, q3, q4, q5, q6, q7, q8, q⟩ := hq'
  exact ⟨_, _, e, C', H', I2, rfl, ⟨a0, B, q1, q2, q3, q4, q5, q6, q7, q8⟩, q⟩
 | ok fl =>
  cases fl with
  | ret u =>
   obtain ⟨v, H', I3, rv, ev, q3⟩ := I2.after hq'
   subst ev
   exact ⟨rv, ⟨V.ref (s.heap.objs.size + 1), H', I3, rfl, q3⟩⟩
  | next => exact False.elim hq'
  | brk => exact False.elim hq'
  | cont => exact False.elim hq'
def ZOS (C : Addr) (sp : Sp) (dvs : List V) (t : TA) : TX := fun σ H Q E => t σ H fun vs H1 => ZJF C sp dvs E vs H1 Q
theorem ZR1 (M : Mk X.K C f) (F : ZCr X.prog X.w X.K X.mg X.base (CX1 X.prog X.w) k f fd ps sp) (hr : Room (k + 1) X.A) (hg : Gl X x) (hm : X.mg x = some (.ref C)) (hb : ZCu X.K fd ps ds) (hd : ZCz dvs ds)
  (ha : QA X.nox (e :: es) t) (hns : ZDY (e :: es) = true := by rfl) (hdb : (x == ("__debug__" : Str)) = false := by decide) : QX X (.Call (.Name x p) (e :: es) [] pos) (ZOS C sp dvs t) := by
 refine ⟨?_⟩
 intro pins s σ H Q E I h
 refine wpAny_Call_Name_kw (ZEu I hg hm ?_ hdb)
 refine PySem.W.callWith_K (h₀ := X.base) I.ok.mod.kin M.kp (wpAny_mono (ha.h pos pins s σ H _ (I.wish _) h) (fun us s1 ⟨vs, H1, I1, r, q⟩ => ⟨I1.kIn, ?_⟩) fun _ _ z => False.elim z) (ZEg hns) (ZEH (ZEG hns))
 exact ZOR M F hr hb hd I1.unwish r q
theorem ZQB {σ : St} {H : Hp} {Q : VK} {E : XK} {t : TA} (h : t σ H fun vs H1 => ZJF C sp dvs E vs H1 Q) : ZOS C sp dvs t σ H Q E := h
end
def ZJ1 (K : W.Frag) : List V → Hp → VK → Prop := fun xs H Q => ∃ (p : Addr) (us : List V) (m : PL), xs = [.ref p] ∧ H p = some (.tup us) ∧ ZCt H us m ∧ m.Nodup ∧ m.length < 64 ∧
 ∀ (l : Addr) (us' : List V) (m' : PL), H l = none → ZCt H us' m' → m'.Perm m → m'.Pairwise (fun p q => ltP p q = true) → Q (.ref l) (upd H l (.lst us'))
section
variable {prog : Program} {w : World} {A : Around} {E : Value → Shared → Prop} {s : Shared}
def ZHO (h : Heap) (ys : List Value) : Heap := (h.push (seqObj "list" #[] 0)).update h.objs.size (Obj.mapSeq (· ++ ys.toArray))
theorem ZOT (h : Heap) (ys : List Value) : (ZHO h ys).objs.size = h.objs.size + 1 := by unfold ZHO; rw [Heap.size_update, size_push']
theorem ZQC {h : Heap} {ys : List Value} {b : Addr} {o : Obj} (e : h.get? b = some o) : (ZHO h ys).get? b = some o :=
 (Heap.get?_update_other _ _ (Ne.symm (Nat.ne_of_lt (Heap.lt_size e)))).trans (Heap.get?_push_of_some _ e)
theorem ZLP {t : Addr} {ys : List Value} {R : List Value → Shared → Prop} (ht : IsTup s.heap t ys.toArray) (k : R ys { s with heap := ZHO s.heap ys }) (hz : ys.length ≤ sizeLine) : wpAny (model prog w) A (collect (.ref t)) R E s := by
 obtain ⟨ot, et, ct, nt, dt⟩ := id ht
 have et' : (s.heap.push (seqObj "list" #[] 0)).get? t = some ot := Heap.get?_push_of_some _ et
 have eL : (s.heap.push (seqObj "list" #[] 0)).get? s.heap.objs.size = some (seqObj "list" #[] 0) := Heap.get?_push_size _ rfl
 have last : wpAny (model prog w) A (load s.heap.objs.size >>= fun o => match o.data with | .seq xs _ => pure xs.toList | _ => unsupported "internal:collect") R E { s with heap := ZHO s.heap ys } := by
  refine wpAny_bind (wpAny_load (get?_update_seq eL _) (wpAny_pure ?_))
  have e0 : ((#[] : Array Value) ++ ys.toArray).toList = ys := by simp
  exact (congrArg (fun l => R l { s with heap := ZHO s.heap ys }) e0).mpr k
 unfold collect
 refine wpAny_bind (wpAny_runValue (codeAny_builtin entry_proto_collect' (show wpAny _ _ (newList [] >>= fun l => again (.builtin "list.__iadd__" ⟨[l, .ref t], []⟩)) _ _ s from ?_)))
 refine wpAny_bind (wpAny_newList (wpAny_pure ⟨Code.quiet_builtin _ (by decide +kernel), codeAny_builtin entry_list_iadd' (show wpAny _ _ (Builtin.List.listExtendWith (.ref s.heap.objs.size) (.ref t) (.ref s.heap.objs.size)) _ _ { s with heap := s.heap.push (seqObj "list" #[] 0) } from ?_)⟩))
 unfold Builtin.List.listExtendWith
 refine wpAny_bind (wpAny_typeOf (T := "tuple") ⟨ot, et', ct⟩ ?_)
 rw [if_pos (by simp)]
 refine wpAny_bind (listItems_at et' dt (wpAny_bind (listItems_at (xs := #[]) (n := 0) eL rfl ?_)))
 rw [if_neg (by simp)]
 exact wpAny_bind (listUpdate_at (xs := #[]) (n := 0) eL rfl (wpAny_pure last) (Nat.zero_le _) (by show (#[] ++ ys.toArray).size ≤ sizeLine + 1; simp; omega))
end
theorem ZLt {X : Cx} (K : W.Frag) (hK : X.K = K) : ZDh X (.builtin "sorted") (ZJ1 K) := by
 subst hK
 intro pins s σ H xs us Q I r h
 obtain ⟨p, vs, m, rfl, hS, hP, hn, h64, q⟩ := h
 obtain ⟨u, rfl, ru⟩ := r.one
 cases ru
 obtain ⟨its, rv, hpt, hz⟩ := I.tuple (SqT.of hS)
 have hlen : vs.length = m.length := hP.length
 have hl2 := rv.length
 refine Calls.call_function_entry kind_sorted plain_sorted entry_sorted (args_sorted1 _) ?_
 unfold Builtin.«sorted»
 refine wpAny_bind (m := checkCount "sorted" 1 1 _) (wpAny_pure ?_)
 refine wpAny_bind (ZLP hpt ?_ (by rw [sizeLine_eq]; omega))
 have hk : ∀ b o, s.heap.get? b = some o → (ZHO s.heap its).get? b = some o := fun b o e => ZQC e
 have hsz1 : s.heap.objs.size ≤ (ZHO s.heap its).objs.size := by rw [ZOT]; exact Nat.le_succ _
 generalize ZHO s.heap its = h1 at hk hsz1
 refine wpAny_bind (wpAny_newList ?_ (by rw [sizeLine_eq]; omega))
 have hoL : (h1.push (seqObj "list" its.toArray 0)).get? h1.objs.size = some (seqObj "list" its.toArray 0) := Heap.get?_push_size _ rfl
 have kp : ∀ b o, s.heap.get? b = some o → (h1.push (seqObj "list" its.toArray 0)).get? b = some o := fun b o e => Heap.get?_push_of_some _ (hk _ _ e)
 have hT : ZEd (h1.push (seqObj "list" its.toArray 0)) h1.objs.size its m := ZJy I kp hsz1 hP rv
 show wpAny _ _ _ _ _ { s with heap := h1.push (seqObj "list" its.toArray 0) }
 refine wpAny_bind (wpAny_holding (wpAny_call_entry slot_list_sort ⟨_, hoL, rfl⟩ entry_list_sort (ZJD (s := { s with heap := h1.push (seqObj "list" its.toArray 0) }) hoL hT hn (by omega) fun ix a1 a2 => ⟨_, rfl, ?_⟩) (args_list_sort _)))
 refine wpAny_pure ⟨_, rfl, ?_⟩
 have hix : ∀ i ∈ ix, i < vs.length := fun i hi => by
  have := List.mem_range.mp (a1.mem_iff.mp hi)
  omega
 obtain ⟨e, he⟩ := sortedHeap_at (out := (ix.map fun i => its.getD i Value.none).toArray) hoL
 refine ⟨.ref h1.objs.size, upd H h1.objs.size (.lst (ix.map fun i => vs.getD i .non)), I.laid (t' := s.toks) (fun b u e => ?_) hsz1 ?_, rfl, q _ _ (ix.map fun i => m.getD i (0, 0)) (I.hok.fresh hsz1) (ZPl hP ix hix) (ZNz (by rw [← hlen, hl2]; exact a1)) a2⟩
 ·have hb := Heap.lt_size (hk _ _ e)
  exact (sortedHeap_old (Nat.ne_of_lt hb) (by rw [Heap.size_push]; exact Nat.lt_succ_of_lt hb)).trans (Heap.get?_push_of_some _ (hk _ _ e))
 refine ⟨?_, _, e, ZRt rv ix hix, he⟩
 have := a1.length_eq
 rw [List.length_map, this, List.length_range, sizeLine_eq]
 omega
theorem ZLu {K : W.Frag} {H : Hp} {Q : VK} {p : Addr} {us : List V} {m : PL} (h1 : H p = some (.tup us)) (h2 : ZCt H us m) (h3 : m.Nodup) (h4 : m.length < 64)
  (h : ∀ l us' m' H2, H l = none → H2 l = some (.lst us') → ZCt H2 us' m' → m'.Perm m → m'.Pairwise (fun p q => ltP p q = true) → ZCq H H2 → Q (.ref l) H2) : ZJ1 K [.ref p] H Q :=
 ⟨p, us, m, rfl, h1, h2, h3, h4, fun l us' m' n hP a1 a2 => h l us' m' _ n ZCy (hP.same (ZCq.new n)) a1 a2 (ZCq.new n)⟩
end L2
namespace My
open PySem L2
theorem ZDI {N P : List Str} {sc : Scope} (a : sc.kind = .function := by rfl) (b : sc.isCoroutine = false := by rfl) (c : sc.isGenerator = false := by rfl) (d : N.Nodup := by decide +kernel) (e : N.take P.length = P := by rfl) (f : ∀ x ∈ P, sc.names.lookup x = some .local ∨ sc.names.lookup x = some .cell := by decide +kernel) (g : ∀ y ∈ sc.names, y.2 ≠ .free := by decide +kernel) : ZCv N P sc := ⟨a, b, c, d, e, f, g⟩
theorem qsS {X : Cx} {x : Str} {e : Expr} {te : TE} {pos pos' : Pos} {i : Nat} (hN : X.N.Nodup) (he : QE X e te) (hi : X.N[i]? = some x := by rfl) (hx : Loc X.env.scope x := by first | exact Or.inl rfl | exact Or.inr rfl) (hs : ZEh e = false := by rfl) (hf : X.fn x = true ∨ X.env.scope.names.lookup x = some .local := by first | exact .inl rfl | exact .inr rfl | assumption) : QS X (.Assign [.Name x pos'] e pos) (ZGy te (ZFd i)) := ZRd hN hi hx he hs hf
theorem qgN {X : Cx} {x : Str} {pos : Pos} {i : Nat} (hN : X.N.Nodup) (hi : X.N[i]? = some x := by rfl) (hx : Loc X.env.scope x := by first | exact Or.inl rfl | exact Or.inr rfl) (hf : X.fn x = true ∨ X.env.scope.names.lookup x = some .local := by first | exact .inl rfl | exact .inr rfl | assumption) : QG X (.Name x pos) (ZFd i) := ZEy hN hi hx hf
theorem qcS {X : Cx} {e : Expr} {es : List Expr} {t : TA} {pos p : Pos} {x : Str} {k : Nat} {f : Addr} {fd : FuncData} {ps : List Str} {sp : Sp} (F : ZCr X.prog X.w X.K X.mg X.base CX0 k f fd ps sp) (hr : Room k X.A) (hm : X.mg x = some (.ref f)) (hk : W.keepIn X.K (.ref f) = true) (hb : ZCu X.K fd ps []) (ha : QA X (e :: es) t) (hg : Gl X x := by rfl) (hns : ZDY (e :: es) = true := by rfl) (hdb : (x == ("__debug__" : Str)) = false := by decide) : QE X (.Call (.Name x p) (e :: es) [] pos) (ZI2 sp [] E0 t) := ZE7 F hr hg hm hk hb .nil ZDd ha hns hdb
theorem _root_.L2.Room.m {j k : Nat} {A : Around} (r : Room k A) (h : j ≤ k := by decide) : Room j A := r.mono h
local macro_rules | `(tactic| walk_at "l") => `(tactic| (intro vs H Q E h; (repeat (obtain ⟨_, h⟩ := h)); all_goals (subst_vars; rfl)))
local macro_rules | `(tactic| walk_at "w") => `(tactic| repeat walk_at "rd")
local macro_rules | `(tactic| walk_at "s") => `(tactic| simp only [L2.start, List.length_cons, List.length_nil, List.map_cons, List.map_nil, Nat.reduceAdd, Nat.reduceSub, List.replicate_succ, List.replicate_zero, List.cons_append, List.nil_append])
local macro_rules | `(tactic| walk_at "o") => `(tactic| first | exact Or.inl rfl | exact Or.inr rfl)
def top (i : Nat) : Stmt := PySem.Challenge.pw_fourpoints_k65_stores_refuse.main.body.getD i (.Pass ⟨0, 0, 0, 0⟩)
abbrev ZHP : Stmt := top 7
abbrev ZFx : Stmt := top 9
abbrev ZHQ : Stmt := top 11
abbrev ZFK : Stmt := top 12
abbrev ZGT : Stmt := top 14
abbrev ZHy : Stmt := top 15
abbrev ZIm : Stmt := top 16
abbrev ZGU : Stmt := top 20
abbrev ZFL : Stmt := top 21
abbrev ZF6 : Stmt := top 22
abbrev ZFa : Stmt := top 23
abbrev ZGV : Stmt := top 24
abbrev ZHz : Stmt := top 25
abbrev ZDb : Stmt := ZDW (top 26) 0
abbrev ZHR : Stmt := ZDW (top 26) 1
abbrev ZGW : Stmt := ZDW (top 26) 2
abbrev ZF7 : Stmt := ZDW (top 26) 3
abbrev ZGX : Stmt := ZDW (top 26) 4
abbrev ZFM : Stmt := ZDW (top 26) 5
abbrev ZGY : Stmt := ZDW (top 26) 6
abbrev ZDV : Stmt := ZDW (top 28) 0
abbrev ZGZ : Stmt := ZDW (top 28) 1
abbrev ZF8 : Stmt := ZDW (top 28) 2
abbrev ZFb : Stmt := ZDW (top 28) 3
abbrev ZEZ : Stmt := ZDW (top 28) 4
abbrev ZHS : Stmt := ZDW (top 28) 5
abbrev ZFo : Stmt := ZDW (top 28) 6
abbrev ZF9 : Stmt := ZDW (top 28) 7
abbrev ZFp : Stmt := ZDW (top 28) 8
abbrev ZGA : Stmt := ZDW (top 28) 9
abbrev ZFq : Stmt := ZDW (top 28) 10
abbrev ZGB : Stmt := ZDW (top 28) 11
abbrev ZFr : Stmt := ZDW (top 28) 12
abbrev ZFN : Stmt := ZDW (top 28) 13
abbrev ZJd : Stmt := top 30
abbrev ZJe : Stmt := top 31
abbrev ZIn : Stmt := top 32
abbrev ZIo : Stmt := top 33
abbrev ZHT : Stmt := top 35
abbrev ZHU : Stmt := top 36
abbrev ZHV : Stmt := top 38
abbrev ZH0 : Stmt := top 39
abbrev ZIp : Stmt := top 40
abbrev ZHW : Stmt := top 41
abbrev ZGa : Stmt := top 42
abbrev ZIq : Stmt := top 43
abbrev ZIr : Stmt := top 44
abbrev ZFg : Stmt := top 45
abbrev ZE1 : Stmt := top 46
set_option genInjectivity false in
set_option genSizeOf false in
set_option genSizeOfSpec false in
structure Ad where
 J9 : Addr
 Jt : FuncData
 Jr : Addr
 Jy : FuncData
 ZAC : Addr
 Jw : FuncData
 JZ : Addr
 JW : FuncData
 Ji : Addr
 Jl : FuncData
 ZAc : Addr
 ZAg : FuncData
 ZA7 : Addr
 ZA9 : FuncData
 Jd : Addr
 Jn : FuncData
 Zz : Addr
 Zv : FuncData
 Ya : Addr
 YT : FuncData
 Z2 : Addr
 Z1 : FuncData
 Yq : Addr
 Yv : FuncData
 ZAT : Addr
 ZAh : FuncData
 Zw : Addr
 ZT : FuncData
 YW : Addr
 YZ : FuncData
 Jg : Addr
 Jj : FuncData
 JP : Addr
 JQ : FuncData
 Yp : Addr
 Yu : FuncData
 YV : Addr
 YR : FuncData
 Jm : Addr
 Jf : FuncData
 Zj : Addr
 ZR : FuncData
 Yt : Addr
 Ys : FuncData
 YN : Addr
 YS : FuncData
 Yn : Addr
 Yo : FuncData
 ZW : Addr
 ZX : FuncData
 Jv : Addr
 ZAA : FuncData
 JC : Addr
 Y7 : FuncData
 JK : Addr
 JS : FuncData
 JD : Addr
 Y9 : FuncData
 JU : Addr
 JJ : FuncData
 YC : Addr
 Z9 : FuncData
 JL : Addr
 JN : FuncData
 YD : Addr
 YB : FuncData
 Yc : Addr
 YX : FuncData
 ZBN : Addr
 ZBO : FuncData
 ZBR : Addr
 ZBQ : FuncData
 ZA5 : Addr
 ZA8 : FuncData
 ZA2 : Addr
 ZAy : FuncData
 ZAK : Addr
 Jz : FuncData
 ZAz : Addr
 ZBA : FuncData
 J8 : Addr
 Jx : FuncData
 ZAS : Addr
 ZAk : FuncData
 ZA1 : Addr
 ZA6 : FuncData
 Ju : Addr
 ZAI : FuncData
 Je : Addr
 Jc : FuncData
 ZAx : Addr
 ZAw : FuncData
 ZA3 : Addr
 ZBB : FuncData
 Jo : Addr
 Jh : FuncData
 ZCB : Addr
 ZCC : FuncData
 ZF : Addr
 ZG : Addr
 ZE : Addr
 ZC : Addr
 ZA : Addr
 ZB : Addr
 ZD : Addr
 ZBx : Tok
 ZBy : Tok
structure Txt (K : W.Frag) (mg : Str → Option Value) (a : Ad) : Prop where
 Zf : Fun K "is_whole" "is_whole" ZHP a.J9 a.Jt
 Z5 : ZCu K a.Jt ["thing"] []
 Z4 : mg "is_whole" = some (.ref a.J9)
 ZBK : Fun K "curve_of" "curve_of" ZFx a.Jr a.Jy
 ZCI : ZCu K a.Jy ["samples"] []
 ZCE : mg "curve_of" = some (.ref a.Jr)
 ZBE : Fun K "times_of" "times_of" ZHQ a.ZAC a.Jw
 ZCG : ZCu K a.Jw ["window", "k"] []
 ZCF : mg "times_of" = some (.ref a.ZAC)
 ZAf : Fun K "columns_of" "columns_of" ZFK a.JZ a.JW
 ZBp : ZCu K a.JW ["window"] []
 ZBl : mg "columns_of" = some (.ref a.JZ)
 Z8 : Fun K "height_of" "height_of" ZGT a.Ji a.Jl
 Zq : ZCu K a.Jl ["sample"] []
 Zp : mg "height_of" = some (.ref a.Ji)
 ZBW : Fun K "four_of" "four_of" ZHy a.ZAc a.ZAg
 ZCJ : ZCu K a.ZAg ["curve"] []
 ZCK : mg "four_of" = some (.ref a.ZAc)
 ZA4 : Fun K "joined" "joined" ZIm a.ZA7 a.ZA9
 ZBm : ZCu K a.ZA9 ["one", "other"] []
 ZBs : mg "joined" = some (.ref a.ZA7)
 ZZ : Fun K "is_border" "is_border" ZGU a.Jd a.Jn
 Zo : ZCu K a.Jn ["thing"] []
 Zn : mg "is_border" = some (.ref a.Jd)
 ZU : Fun K "check_borders" "check_borders" ZFL a.Zz a.Zv
 Zx : ZCu K a.Zv ["begin", "end"] []
 Zy : mg "check_borders" = some (.ref a.Zz)
 Za : Fun K "check_time" "check_time" ZF6 a.Ya a.YT
 YU : ZCu K a.YT ["t"] []
 YY : mg "check_time" = some (.ref a.Ya)
 Z3 : Fun K "check_window" "check_window" ZFa a.Z2 a.Z1
 Jp : ZCu K a.Z1 ["window"] []
 Jq : mg "check_window" = some (.ref a.Z2)
 Yw : Fun K "stretches" "stretches" ZGV a.Yq a.Yv
 ZAp : ZCu K a.Yv ["begin", "end"] []
 ZAl : mg "stretches" = some (.ref a.Yq)
 ZBV : Fun K "longest" "longest" ZHz a.ZAT a.ZAh
 ZCN : ZCu K a.ZAh ["first", "end"] []
 ZCM : mg "longest" = some (.ref a.ZAT)
 Jb : ZIj K "__init__" "Tree.__init__" ZDb a.Zw a.ZT
 Ja : ZCu K a.ZT ["self", "curve"] []
 ZCT : ZCu K a.ZT ["self", "curve"] [Value.none]
 ZCY : ZMO K a.ZT ["self", "curve"] "curve"
 ZBI : Fun K "put" "Tree.put" ZHR a.YW a.YZ
 ZAF : ZCu K a.YZ ["self", "t", "h"] []
 ZAJ : ZD8 K a.ZF "put" a.YW
 ZB0 : Fun K "take" "Tree.take" ZGW a.Jg a.Jj
 ZB6 : ZCu K a.Jj ["self", "t"] []
 ZB3 : ZD8 K a.ZF "take" a.Jg
 ZBk : Fun K "renew" "Tree.renew" ZF7 a.JP a.JQ
 ZAU : ZCu K a.JQ ["self", "t", "four"] []
 ZAe : ZD8 K a.ZF "renew" a.JP
 ZAq : Fun K "four" "Tree.four" ZGX a.Yp a.Yu
 ZAs : ZCu K a.Yu ["self", "begin", "end"] []
 ZAo : ZD8 K a.ZF "four" a.Yp
 ZAd : Fun K "fours" "Tree.fours" ZFM a.YV a.YR
 ZAZ : ZCu K a.YR ["self", "window"] []
 ZAR : ZD8 K a.ZF "fours" a.YV
 ZBw : Fun K "told" "Tree.told" ZGY a.Jm a.Jf
 ZB1 : ZCu K a.Jf ["self"] []
 ZBz : ZD8 K a.ZF "told" a.Jm
 JV : ZIj K "__init__" "Store.__init__" ZDV a.Zj a.ZR
 JR : ZCu K a.ZR ["self", "curve"] []
 ZCQ : ZCu K a.ZR ["self", "curve"] [Value.none]
 ZCP : ZMO K a.ZR ["self", "curve"] "curve"
 ZAu : Fun K "put" "Store.put" ZGZ a.Yt a.Ys
 ZAt : ZCu K a.Ys ["self", "t", "h"] []
 ZAv : ZD8 K a.ZG "put" a.Yt
 ZAi : Fun K "take" "Store.take" ZF8 a.YN a.YS
 ZBr : ZCu K a.YS ["self", "t"] []
 ZBu : ZD8 K a.ZG "take" a.YN
 ZBS : Fun K "height" "Store.height" ZFb a.Yn a.Yo
 ZBM : ZCu K a.Yo ["self", "t"] []
 ZBP : ZD8 K a.ZG "height" a.Yn
 Yb : Fun K "check_sample" "Store.check_sample" ZEZ a.ZW a.ZX
 Zi : ZCu K a.ZX ["self", "t"] []
 Zh : ZD8 K a.ZG "check_sample" a.ZW
 ZCH : Fun K "do" "Store.do" ZHS a.Jv a.ZAA
 ZBH : ZCu K a.ZAA ["self", "t", "h"] []
 ZBJ : ZD8 K a.ZG "do" a.Jv
 ZBa : Fun K "bring" "Store.bring" ZFo a.JC a.Y7
 ZAN : ZCu K a.Y7 ["self", "t", "h"] []
 ZAL : ZD8 K a.ZG "bring" a.JC
 ZBj : Fun K "undo" "Store.undo" ZF9 a.JK a.JS
 ZAV : ZCu K a.JS ["self"] []
 ZAX : ZD8 K a.ZG "undo" a.JK
 ZBY : Fun K "times" "Store.times" ZFp a.JD a.Y9
 ZBX : ZCu K a.Y9 ["self"] []
 ZBZ : ZD8 K a.ZG "times" a.JD
 ZBg : Fun K "four" "Store.four" ZGA a.JU a.JJ
 ZAQ : ZCu K a.JJ ["self", "begin", "end"] []
 ZAa : ZD8 K a.ZG "four" a.JU
 ZAM : Fun K "fours" "Store.fours" ZFq a.YC a.Z9
 YE : ZCu K a.Z9 ["self", "window"] []
 YA : ZD8 K a.ZG "fours" a.YC
 ZBf : Fun K "told" "Store.told" ZGB a.JL a.JN
 ZAb : ZCu K a.JN ["self"] []
 ZAW : ZD8 K a.ZG "told" a.JL
 ZAO : Fun K "watch" "Store.watch" ZFr a.YD a.YB
 JB : ZCu K a.YB ["self", "window"] []
 Y8 : ZD8 K a.ZG "watch" a.YD
 ZAP : Fun K "news" "Store.news" ZFN a.Yc a.YX
 JX : ZCu K a.YX ["self", "number"] []
 JM : ZD8 K a.ZG "news" a.Yc
 ZB9 : Fun K "_law_nth" "_law_nth" ZJd a.ZBN a.ZBO
 ZCb : ZCu K a.ZBO ["_law_script", "_law_k"] []
 ZCa : mg "_law_nth" = some (.ref a.ZBN)
 ZB8 : Fun K "_law_pot" "_law_pot" ZJe a.ZBR a.ZBQ
 ZCc : ZCu K a.ZBQ ["_law_cell_here"] []
 ZCZ : mg "_law_pot" = some (.ref a.ZBR)
 ZJ : Fun K "_law_take" "_law_take" ZIn a.ZA5 a.ZA8
 ZL : ZCu K a.ZA8 ["_law_pot_here", "_law_many"] []
 ZK : mg "_law_take" = some (.ref a.ZA5)
 ZA0 : Fun K "_law_cell" "_law_cell" ZIo a.ZA2 a.ZAy
 ZBe : ZCu K a.ZAy ["_law_script", "_law_place"] []
 ZBh : mg "_law_cell" = some (.ref a.ZA2)
 JH : Fun K "_law_height" "_law_height" ZHT a.ZAK a.Jz
 ZAE : ZCu K a.Jz ["_law_pot_here"] []
 ZAH : mg "_law_height" = some (.ref a.ZAK)
 JI : Fun K "_law_told" "_law_told" ZHU a.ZAz a.ZBA
 ZAB : ZCu K a.ZBA ["_law_held"] []
 J7 : mg "_law_told" = some (.ref a.ZAz)
 J6 : Fun K "_law_beyond" "_law_beyond" ZHV a.J8 a.Jx
 ZBD : ZCu K a.Jx ["_law_pot_here"] []
 ZBF : mg "_law_beyond" = some (.ref a.J8)
 YF : Fun K "_law_thing" "_law_thing" ZH0 a.ZAS a.ZAk
 Y3 : ZCu K a.ZAk ["_law_pot_here"] []
 Yx : mg "_law_thing" = some (.ref a.ZAS)
 ZBt : Fun K "_law_deed" "_law_deed" ZIp a.ZA1 a.ZA6
 ZCV : ZCu K a.ZA6 ["_law_store", "_law_way", "_law_pot_here"] []
 ZCR : mg "_law_deed" = some (.ref a.ZA1)
 J5 : Fun K "_law_window" "_law_window" ZHW a.Ju a.ZAI
 ZBG : ZCu K a.ZAI ["_law_pot_here"] []
 ZBC : mg "_law_window" = some (.ref a.Ju)
 ZAm : Fun K "_law_refused" "_law_refused" ZGa a.Je a.Jc
 ZB2 : ZCu K a.Jc ["_law_store", "_law_way", "_law_pot_here"] []
 ZB4 : mg "_law_refused" = some (.ref a.Je)
 ZBv : Fun K "_law_made" "_law_made" ZIq a.ZAx a.ZAw
 ZCW : ZCu K a.ZAw ["_law_held", "_law_pot_here"] []
 ZCS : mg "_law_made" = some (.ref a.ZAx)
 ZBi : Fun K "_law_near" "_law_near" ZIr a.ZA3 a.ZBB
 ZCX : ZCu K a.ZBB ["_law_pot_here"] []
 ZCU : mg "_law_near" = some (.ref a.ZA3)
 Jk : Fun K "_law_four_in" "_law_four_in" ZFg a.Jo a.Jh
 ZAr : ZCu K a.Jh ["_law_held", "_law_k"] []
 ZAn : mg "_law_four_in" = some (.ref a.Jo)
 ZCe : Fun K "law" "law" ZE1 a.ZCB a.ZCC
 ZCh : ZCu K a.ZCC ["_law_script"] []
 ZCi : mg "law" = some (.ref a.ZCB)
 ZI : Cls K a.ZF
 ZCL : mg "Tree" = some (.ref a.ZF)
 ZB7 : Mk K a.ZF a.Zw
 ZS : ZDr K a.ZF "looks"
 ZO : ZDr K a.ZF "samples"
 ZP : ZDr K a.ZF "kept_fours"
 ZH : Cls K a.ZG
 ZCA : mg "Store" = some (.ref a.ZG)
 ZBd : Mk K a.ZG a.Zj
 JY : ZDr K a.ZG "tree"
 JA : ZDr K a.ZG "deeds"
 JT : ZDr K a.ZG "done"
 Zu : ZDr K a.ZG "watches"
 JF : ZFn K a.ZE
 ZCO : ZFJ K a.ZE
 JE : mg "FourPointsError" = some (.ref a.ZE)
 ZCd : ZFn K a.ZC
 ZCg : ZFJ K a.ZC
 ZCf : mg "NoColumn" = some (.ref a.ZC)
 Z0 : ZFn K a.ZA
 JO : ZFJ K a.ZA
 Zc : mg "OutOfTimes" = some (.ref a.ZA)
 ZAD : ZFn K a.ZB
 ZBL : ZFJ K a.ZB
 ZAG : mg "NoSample" = some (.ref a.ZB)
 ZAj : ZFn K a.ZD
 ZBU : ZFJ K a.ZD
 ZBT : mg "NoWatch" = some (.ref a.ZD)
 Zl : W.subIn K (.ref a.ZC) (.ref a.ZE) = some true
 Zm : W.kitOne K (.ref a.ZC) (.ref a.ZE) = some true
 Yg : W.subIn K (.ref a.ZC) (.ref a.ZC) = some true
 Yj : W.kitOne K (.ref a.ZC) (.ref a.ZC) = some true
 YH : W.subIn K (.ref a.ZC) (.ref a.ZA) = some false
 YM : W.kitOne K (.ref a.ZC) (.ref a.ZA) = some false
 Yf : W.subIn K (.ref a.ZC) (.ref a.ZB) = some false
 Yh : W.kitOne K (.ref a.ZC) (.ref a.ZB) = some false
 Yz : W.subIn K (.ref a.ZC) (.ref a.ZD) = some false
 Yy : W.kitOne K (.ref a.ZC) (.ref a.ZD) = some false
 ZN : W.subIn K (.ref a.ZA) (.ref a.ZE) = some true
 Ze : W.kitOne K (.ref a.ZA) (.ref a.ZE) = some true
 YL : W.subIn K (.ref a.ZA) (.ref a.ZC) = some false
 YK : W.kitOne K (.ref a.ZA) (.ref a.ZC) = some false
 Z6 : W.subIn K (.ref a.ZA) (.ref a.ZA) = some true
 ZQ : W.kitOne K (.ref a.ZA) (.ref a.ZA) = some true
 YG : W.subIn K (.ref a.ZA) (.ref a.ZB) = some false
 Zb : W.kitOne K (.ref a.ZA) (.ref a.ZB) = some false
 Ye : W.subIn K (.ref a.ZA) (.ref a.ZD) = some false
 YO : W.kitOne K (.ref a.ZA) (.ref a.ZD) = some false
 ZV : W.subIn K (.ref a.ZB) (.ref a.ZE) = some true
 Zk : W.kitOne K (.ref a.ZB) (.ref a.ZE) = some true
 Yl : W.subIn K (.ref a.ZB) (.ref a.ZC) = some false
 Yk : W.kitOne K (.ref a.ZB) (.ref a.ZC) = some false
 YJ : W.subIn K (.ref a.ZB) (.ref a.ZA) = some false
 Zd : W.kitOne K (.ref a.ZB) (.ref a.ZA) = some false
 Yi : W.subIn K (.ref a.ZB) (.ref a.ZB) = some true
 Zs : W.kitOne K (.ref a.ZB) (.ref a.ZB) = some true
 Y1 : W.subIn K (.ref a.ZB) (.ref a.ZD) = some false
 Y2 : W.kitOne K (.ref a.ZB) (.ref a.ZD) = some false
 ZY : W.subIn K (.ref a.ZD) (.ref a.ZE) = some true
 Zt : W.kitOne K (.ref a.ZD) (.ref a.ZE) = some true
 Y4 : W.subIn K (.ref a.ZD) (.ref a.ZC) = some false
 Y5 : W.kitOne K (.ref a.ZD) (.ref a.ZC) = some false
 Yd : W.subIn K (.ref a.ZD) (.ref a.ZA) = some false
 Zg : W.kitOne K (.ref a.ZD) (.ref a.ZA) = some false
 Y6 : W.subIn K (.ref a.ZD) (.ref a.ZB) = some false
 Y0 : W.kitOne K (.ref a.ZD) (.ref a.ZB) = some false
 JG : W.subIn K (.ref a.ZD) (.ref a.ZD) = some true
 Z7 : W.kitOne K (.ref a.ZD) (.ref a.ZD) = some true
 ZB5 : mg "TOP_LEVEL" = some (.int 40 a.ZBx)
 Yr : mg "TIMES_END" = some (.int 1099511627776 a.ZBy)
 ZAY : mg "ValueError" = none
 ZCD : mg "abs" = none
 ZBq : mg "bool" = none
 ZBn : mg "dict" = none
 Js : mg "int" = none
 ZM : mg "isinstance" = none
 YQ : mg "len" = none
 ZBo : mg "list" = none
 ZBc : mg "max" = none
 ZBb : mg "min" = none
 YI : mg "range" = none
 Ym : mg "sorted" = none
 Zr : mg "tuple" = none
local macro_rules | `(tactic| walk_at "sd") => `(tactic| first
 | (show (0 : Int) < _; omega)
 | decide
 | exact ZUS (by omega) (by omega)
 | exact ZUT (by omega) (by omega)
 | exact ZH9.of (k := 250) (by omega) (by omega) (by decide)
 | exact Or.inr ⟨by omega, by omega⟩
 | exact Or.inl ⟨by omega, by omega⟩
 | exact ZKk (by omega) (by omega) (by decide))
local macro_rules | `(tactic| walk_at "hp") => `(tactic| first
 | assumption
 | exact ZCy
 | (rw [ZC3 (by assumption)]; assumption)
 | (rw [ZC3 (Ne.symm (by assumption))]; assumption)
 | (rw [ZC3 (by assumption)]; rw [ZC3 (by assumption)]; assumption))
local macro_rules | `(tactic| walk_at "rd") => `(tactic| first
 | with_reducible first | refine ZTA ?_ | refine ZOF ?_ | refine ZTm ?_ | refine ZPx ?_ | refine ZPw ?_ | refine ZUK ?_ | refine ZP2 ?_ | refine ZPg ?_ | refine ZRu ?_ | refine ZPm ?_ | refine ZMz ?_ | refine ZPn ?_ | refine ZPo ?_ | refine ZN2 ?_ | refine ZN5 ?_ | refine ZM2 ?_ | refine ZLp ?_ | refine ZLq ?_ | refine ZTh ?_ | refine ZRq ?_ | refine ZPh ?_ | refine ZPi ?_
 | ((with_reducible refine' ZTf ?e ?_); (case e => rfl))
 | with_reducible first | refine ZTB ?_ | refine ZRH ?_ | refine ZRI ?_ | refine ZTC ?_ | refine ZPR ?_ | refine ZRJ ?_ | refine ZPS ?_ | refine ZRK ?_ | refine ZTD ?_ | refine ZRL ?_ | refine ZUV ?_ | refine ZTE ?_ | refine ZUA ?_ | refine ZTF ?_ | refine ZRM ?_ | refine ZRN ?_ | refine ZUB ?_
 | ((with_reducible refine' ZTG ?e ?_); (case e => rfl))
 | with_reducible first | refine ZUW ?_ | refine ZUC ?_ | refine ZUD ?_ | refine ZUE ?_
 | ((with_reducible refine ZTH (C := ZO1) ?c ?_); (case c => exact ZKk (by decide) (by decide) (by decide)); (simp only [Int.reduceToNat, Int.reducePow]))
 | ((with_reducible refine ZTH ?c ?_); (case c => walk_at "sd"))
 | with_reducible first | refine ZUX ?_ | refine ZTI ?_ | refine ZTJ ?_ | refine ZUF ?_ | refine ZRO ?_ | refine ZRP ?_ | refine ZTK ?_ | refine ZTL ?_ | refine ZTM ?_ | refine ZPU ?_ | refine ZRZ ?_ | refine ZG0 ?_ | refine ZRS ?_ | refine ZTO ?_ | refine ZTP ?_ | refine ZTQ ?_ | refine ZTR ?_ | refine ZTS ?_ | refine ZRV ?_
 | ((with_reducible refine' ZRT ?s ?_); (case s => first | assumption | exact SqL.of (by assumption)))
 | ((with_reducible refine' ZRU ?s ?_); (case s => first | assumption | exact SqT.of (by assumption)))
 | with_reducible first | refine ZTN ?_ | refine ZRQ ?_ | refine ZRR ?_ | refine ZRX ?_ | refine ZUH ?_ | refine ZRY ?_ | refine ZPV ?_
 | ((with_reducible refine' ZTV ?s ?_); (case s => first | assumption | exact SqT.of (by assumption)))
 | ((with_reducible refine' ZTW ?s ?_); (case s => first | assumption | exact SqL.of (by assumption)))
 | ((with_reducible refine' ZEB ?s ?e ?_); (case s => exact SqL.of (by assumption)); (case e => rfl))
 | ((with_reducible refine' ZHp ?s ?e ?_); (case s => first | assumption | exact SqT.of (by assumption)); (case e => rfl))
 | ((with_reducible refine' ZRW ?s ?e ?_); (case s => first | assumption | exact SqT.of (by assumption)); (case e => rfl)))
local macro_rules | `(tactic| walk_at "ri") => `(tactic| ((fail_if_success with_reducible refine ZOP ?_); walk_at "rd"))
local macro_rules | `(tactic| walk_at "rd") => `(tactic| first
 | with_reducible refine ZQB ?_)
theorem ZOU (K : W.Frag) : W.kitOne K (.type "int") (.type "int") = some true := by kernel_rfl
theorem ZOV (K : W.Frag) : W.kitOne K (.type "NoneType") (.type "int") = some false := by kernel_rfl
theorem ZM7 (K : W.Frag) : W.kitOne K (.type "int") (.type "bool") = some false := by kernel_rfl
section
variable {P : Program} {w : World} {K : W.Frag} {mg : Str → Option Value} {base : Heap} {a : Ad}
def ZOW (K : W.Frag) : Sp := fun vs H Q _ => ∃ (b : Bool) (l : Addr) (us : List V) (prs : PL), vs = [.ref l] ∧ SQ b H l us ∧ ZCt H us prs ∧ prs.length < 64 ∧
 ∀ (t : Addr) (cv : PL) (H' : Hp), PrT H' t cv → ZMG (ZEX prs) cv → cv.length ≤ prs.length → ZCq H H' → Q (.ref t) H'
theorem ZJ2 (l : PL) (p : Int × Int) : ZEX (l ++ [p]) = ZDO (ZEX l) p.1 p.2 := by
 unfold ZEX
 rw [List.foldl_append]
 rfl
theorem ZFh : ZCv ["samples", "heights", "t", "h"] ["samples"] (ZCo ZFx) := ZDI
theorem ZLv (T : Txt K mg a) : ZCr P w K mg base CX0 1 a.Jr a.Jy ["samples"] (ZOW K) := by
 refine T.ZBK.ok ZFh (by walk_at "l") (fun cdv A outer s H vs Q E hr h => ?_)
 ·obtain ⟨b, l, us, prs, rfl, hL, hP, hlen, k⟩ := h
  have hu := ZD9 hr
  have hm := ZKz prs
  refine ⟨_, QB.h (ZCm (qsS (i := 1) ZFh.nd ZG8) (ZCm (ZFl PassesOwn.never rfl (ZTj K rfl (qv 0)) (ZE2 (n := 2) K rfl rfl (ZDL (qgN (i := 2) ZFh.nd) (ZDL (qgN (i := 3) ZFh.nd) ZEi))) (ZCn (ZF0 hu (qv 3) (qv 1) (qv 2)))) (ZCn (ZCw (ZDi (ZEq K rfl) rfl T.Zr ZEo (ZCj (ZGj (N := ["samples", "heights", "t", "h"]) (sc := ZCo ZFx) (own := ["t"]) (caps := ["heights"]) (ks := [1]) rfl rfl rfl ⟨rfl, by decide +kernel, by decide +kernel, by decide +kernel, by decide +kernel, rfl, by decide +kernel⟩ (ZGk K rfl (ZC8 (ZG7 rfl) rfl T.Ym ZGH (ZCj (qv 1) ZCk))) (fun _ _ _ _ _ => ZEy (i := 0) (show List.Nodup (α := Str) ["t", "heights"] from by decide +kernel) rfl (by walk_at "o") (.inr rfl)) (fun _ _ _ _ _ => ZG3) (fun _ _ _ _ _ => ZDK (ZCj (qv 0) (ZCj (ZID hu (qv 1) (qv 0)) ZCk)))) ZCk)))))), ?_⟩
  walk_at "s"
  walk_at "w"
  refine ZHB fun d H0 n0 f0 S0 => ?_
  walk_at "w"
  refine ZRr (b := b) (xs := us) (fun i σ H' => (∃ v2 v3, σ = [some (.ref l), some (.ref d), v2, v3]) ∧ ZCq H H' ∧ H' d = some (.dK (ZDN (ZEX (prs.take i))))) (hL.same S0) ?_ (fun i σ H' _ h => hL.same h.2.1) ?_ ?_
  ·exact ⟨⟨_, _, rfl⟩, S0, f0⟩
  ·rintro i x σ H1 hx ⟨⟨v2, v3, rfl⟩, S1, f1⟩
   obtain ⟨c, p, rfl, hp, hc⟩ := (hP.same S1).at hx
   have e3 : prs.take (i + 1) = prs.take i ++ [p] := by
    rw [List.take_succ, hp]
    rfl
   walk_at "w"
   refine ZHA f1 ?_ fun H2 f2 K2 => ?_
   ·exact Nat.lt_of_le_of_lt (ZKz _) (Nat.lt_of_le_of_lt (by rw [List.length_take]; exact Nat.min_le_right _ _) (Nat.lt_of_lt_of_le hlen (by decide)))
   walk_at "w"
   refine ⟨⟨_, _, rfl⟩, S1.kpN n0 K2, ?_⟩
   rw [e3, ZJ2]
   exact f2
  ·rintro σ H1 ⟨⟨v2, v3, rfl⟩, S1, f1⟩
   rw [hP.length, List.take_length] at f1
   walk_at "w"
   refine ZHD f1 (by omega) fun l2 H2 ns n2 f2 hp hs S2 => ?_
   have hnl : ns.length = (ZEX prs).length := by have := hp.length_eq; simpa using this
   walk_at "w"
   intro l3 n3
   have S23 : ZCq H2 (upd H2 l3 (.lst [])) := ZCq.new n3
   refine ZFV ns.length (fun i σ' H' => (∃ o, σ' = [o, some (.ref d)]) ∧ ZCq H2 H' ∧ ∃ vs, H' l3 = some (.lst vs) ∧ ZCt H' vs ((ZDM (ZEX prs) ns).take i)) ?_ ?_ ?_
   ·exact ⟨⟨none, rfl⟩, S23, [], ZCy, .nil⟩
   ·rintro σ H' ⟨_, s, vs, f3, hPc⟩
    refine ⟨⟨_, SqL.of (s _ _ f2), by simp⟩, ?_⟩
    walk_at "w"
    refine ZFA (SqL.of f3) fun t H4 n4 f4 S4 => ?_
    have ecv : (ZDM (ZEX prs) ns).take ns.length = ZDM (ZEX prs) ns := List.take_of_length_le (by simp [ZDM])
    rw [ecv] at hPc
    exact k t _ H4 ⟨vs, f4, hPc.same S4⟩ (ZHE (ZHC prs) hp hs) (by unfold ZDM; rw [List.length_map, hnl]; exact hm) (((S1.trans S2).trans s).trans S4)
   ·rintro i σ H' hi ⟨⟨o, rfl⟩, s, vs, f3, hPc⟩
    have hi2 : i < (ns.map V.int).length := by simpa using hi
    refine ⟨⟨_, _, SqL.of (s _ _ f2), List.getElem?_eq_getElem hi2⟩, ?_⟩
    rintro u H'' ⟨rfl, hu'⟩
    have hu' := hu' _ (SqL.of (s _ _ f2))
    have eu : u = .int ns[i] := by
     rw [List.getElem?_map, List.getElem?_eq_getElem hi] at hu'
     simpa using hu'.symm
    subst eu
    walk_at "w"
    refine ZD0 ?_
    walk_at "w"
    have hmem : ns[i] ∈ (ZEX prs).map (·.1) := hp.mem_iff.mp (List.getElem_mem hi)
    obtain ⟨x, hx⟩ : ∃ x, ZC9 (ZEX prs) ns[i] = some x := by
     cases hg : ZC9 (ZEX prs) ns[i] with
     | none => exact absurd hmem (ZEU.mp hg)
     | some x => exact ⟨x, rfl⟩
    refine ZG9 (s _ _ (S2 _ _ f1)) hx ?_
    walk_at "w"
    refine ZC1 (by show 2 ≤ sizeLine; decide) fun t H4 n4 f4 S4 => ?_
    have f34 := S4 _ _ f3
    refine ⟨vs, f34, ?_, ⟨_, rfl⟩, ?_, ?_⟩
    ·have e := hPc.length
     rw [e, List.length_take]
     exact Nat.lt_of_le_of_lt (Nat.min_le_left _ _) (Nat.lt_of_lt_of_le hi (by rw [hnl]; exact Nat.le_of_lt (Nat.lt_of_le_of_lt hm (Nat.lt_of_lt_of_le hlen (by decide)))))
    ·exact (s.trans S4).kpN (l := l3) n3 Kp.upd
    ·refine ⟨_, ZCy, ?_⟩
     have e3 : (ZDM (ZEX prs) ns).take (i + 1) = (ZDM (ZEX prs) ns).take i ++ [(ns[i], x)] := by
      rw [List.take_succ]
      congr 1
      simp [ZDM, List.getElem?_eq_getElem hi, hx]
     rw [e3]
     exact ZCt.kpL Kp.upd f34 ((hPc.same S4).snoc f4)
def ZLQ : Sp := fun vs H Q _ => ∃ (c : Addr) (x y : Int), vs = [.ref c] ∧ H c = some (.tup [.int x, .int y]) ∧ Q (.int y) H
theorem ZLR : ZCv ["sample"] ["sample"] (ZCo ZGT) := ZDI
theorem ZER (T : Txt K mg a) : ZCr P w K mg base CX0 1 a.Ji a.Jl ["sample"] ZLQ := by
 refine T.Z8.ok ZLR (by walk_at "l") (fun cdv A outer s H vs Q E hr h => ?_)
 ·obtain ⟨c, x, y, rfl, hc, q⟩ := h
  refine ⟨_, QB.h (ZCn (ZCw (ZDB (ZDf K rfl) (qv 0) ZCl))), ?_⟩
  walk_at "s"
  walk_at "w"
  exact q
def ZQD (K : W.Frag) : Sp := fun vs H Q _ => ∃ (v1 v2 : V) (o1 o2 : Option (PL)) (c1 c2 : PL), vs = [v1, v2] ∧ ZDE H v1 o1 ∧ Is4 c1 o1 ∧ ZDE H v2 o2 ∧ Is4 c2 o2 ∧ (∀ p ∈ c1, ∀ q ∈ c2, p.1 < q.1) ∧
 ∀ (v : V) (o : Option (PL)) (H' : Hp), ZDE H' v o → Is4 (c1 ++ c2) o → ZCq H H' → Q v H'
theorem ZJ3 {H : Hp} {v : V} {c : PL} {qs : PL} (h : ZDE H v (some qs)) (g : Is4 c (some qs)) : ∃ (l : Addr) (q0 q1 q2 q3 : Int × Int) (a0 a1 a2 a3 : Addr), v = .ref l ∧ qs = [q0, q1, q2, q3] ∧ H l = some (.tup [.ref a0, .ref a1, .ref a2, .ref a3]) ∧
  H a0 = some (.tup [.int q0.1, .int q0.2]) ∧ H a1 = some (.tup [.int q1.1, .int q1.2]) ∧ H a2 = some (.tup [.int q2.1, .int q2.2]) ∧ H a3 = some (.tup [.int q3.1, .int q3.2]) := by
 cases h with
 | @pr l qs h hl =>
  obtain ⟨us, f, hP⟩ := h
  rcases g with ⟨e, _⟩ | ⟨q0, q1, q2, q3, e, _⟩
  ·cases e
  ·cases e
   cases hP with
   | cons h0 t => cases t with
    | cons h1 t => cases t with
     | cons h2 t => cases t with
      | cons h3 t =>
       cases t
       obtain ⟨a0, rfl, e0⟩ := h0
       obtain ⟨a1, rfl, e1⟩ := h1
       obtain ⟨a2, rfl, e2⟩ := h2
       obtain ⟨a3, rfl, e3⟩ := h3
       exact ⟨l, q0, q1, q2, q3, a0, a1, a2, a3, rfl, rfl, f, e0, e1, e2, e3⟩
theorem ZH1 : ZCv ["one", "other", "lowest", "highest"] ["one", "other"] (ZCo ZIm) := ZDI
theorem ZJ4 (T : Txt K mg a) : ZCr P w K mg base CX0 2 a.ZA7 a.ZA9 ["one", "other"] (ZQD K) := by
 refine T.ZA4.ok ZH1 (by walk_at "l") (fun cdv A outer s H vs Q E hr h => ?_)
 ·obtain ⟨v1, v2, o1, o2, c1, c2, rfl, h1, g1, h2, g2, hlt, k⟩ := h
  refine ⟨_, QB.h (ZCm (ZDS (ZC2 (ZKj) (qv 0) ZEb (ZC4 _)) (ZCn (ZCw (qv 1))) ZC6) (ZCm (ZDS (ZC2 (ZKj) (qv 1) ZEb (ZC4 _)) (ZCn (ZCw (qv 0))) ZC6) (ZCm (qsS (i := 2) ZH1.nd (ZIc (ZC2 (ZGF) (qcS (ZER T) hr T.Zp T.Z8.kp T.Zq (ZCj (ZDB (ZDf K rfl) (qv 0) ZCl) ZCk)) (qcS (ZER T) hr T.Zp T.Z8.kp T.Zq (ZCj (ZDB (ZDf K rfl) (qv 1) ZCl) ZCk)) (ZC4 _)) (ZDB (ZDf K rfl) (qv 0) ZCl) (ZDB (ZDf K rfl) (qv 1) ZCl))) (ZCm (qsS (i := 3) ZH1.nd (ZIc (ZC2 (ZQc) (qcS (ZER T) hr T.Zp T.Z8.kp T.Zq (ZCj (ZDB (ZDf K rfl) (qv 0) ZCl) ZCk)) (qcS (ZER T) hr T.Zp T.Z8.kp T.Zq (ZCj (ZDB (ZDf K rfl) (qv 1) ZCl) ZCk)) (ZC4 _)) (ZDB (ZDf K rfl) (qv 0) ZCl) (ZDB (ZDf K rfl) (qv 1) ZCl))) (ZCn (ZCw (ZDK (ZCj (ZDB (ZDf K rfl) (qv 0) ZCl) (ZCj (ZDB (ZDf K rfl) (qv 1) ZCl) (ZCj (qv 2) (ZCj (qv 3) ZCk))))))))))), ?_⟩
  walk_at "s"
  walk_at "w"
  cases o1 with
  | none =>
   cases h1
   refine ZDU (fun _ => ?_) (fun h => absurd rfl h)
   walk_at "w"
   refine k v2 o2 H h2 ?_ (ZCq.refl H)
   rw [g1.of_none, List.nil_append]
   exact g2
  | some qs1 =>
   obtain ⟨l1, q0, q1, q2, q3, a0, a1, a2, a3, rfl, rfl, f1, e0, e1, e2, e3⟩ := ZJ3 h1 g1
   refine ZDU (fun h => by cases h) (fun _ => ?_)
   walk_at "w"
   cases o2 with
   | none =>
    cases h2
    refine ZDU (fun _ => ?_) (fun h => absurd rfl h)
    walk_at "w"
    refine k (.ref l1) _ H h1 ?_ (ZCq.refl H)
    rw [g2.of_none, List.append_nil]
    exact g1
   | some qs2 =>
    obtain ⟨l2, r0, r1, r2, r3, b0, b1, b2, b3, rfl, rfl, f2, d0, d1, d2, d3⟩ := ZJ3 h2 g2
    refine ZDU (fun h => by cases h) (fun _ => ?_)
    walk_at "w"
    refine ⟨a2, _, _, rfl, e2, ?_⟩
    walk_at "w"
    refine ⟨b2, _, _, rfl, d2, ?_⟩
    walk_at "w"
    have J := g1.join g2 hlt
    have fin : ∀ (x y : Addr) (p2 p3 : Int × Int), H x = some (.tup [.int p2.1, .int p2.2]) → H y = some (.tup [.int p3.1, .int p3.2]) → Is4 (c1 ++ c2) (some [q0, r1, p2, p3]) → ∀ l H', H l = none → H' l = some (.tup [.ref a0, .ref b1, .ref x, .ref y]) → ZCq H H' → Q (.ref l) H' := fun x y p2 p3 hx hy J l H' n' f' S' =>
     k (.ref l) _ H' (.pr ⟨_, f', .cons ⟨a0, rfl, S' _ _ e0⟩ (.cons ⟨b1, rfl, S' _ _ d1⟩ (.cons ⟨x, rfl, S' _ _ hx⟩ (.cons ⟨y, rfl, S' _ _ hy⟩ .nil)))⟩ rfl) J S'
    have part2 : ∀ (x : Addr) (p2 : Int × Int), True := fun _ _ => trivial
    refine ZDU (fun hl => ?_) (fun hl => ?_)
    ·walk_at "w"
     refine ⟨a3, _, _, rfl, e3, ?_⟩
     walk_at "w"
     refine ⟨b3, _, _, rfl, d3, ?_⟩
     walk_at "w"
     refine ZDU (fun hh => ?_) (fun hh => ?_)
     ·walk_at "w"
      rw [if_pos hl, if_pos hh] at J
      exact ZC1 (by show 4 ≤ sizeLine; decide) fun l H' n' f' S' => fin _ _ _ _ e2 e3 J l H' n' f' S'
     ·walk_at "w"
      rw [if_pos hl, if_neg hh] at J
      exact ZC1 (by show 4 ≤ sizeLine; decide) fun l H' n' f' S' => fin _ _ _ _ e2 d3 J l H' n' f' S'
    ·walk_at "w"
     refine ⟨a3, _, _, rfl, e3, ?_⟩
     walk_at "w"
     refine ⟨b3, _, _, rfl, d3, ?_⟩
     walk_at "w"
     refine ZDU (fun hh => ?_) (fun hh => ?_)
     ·walk_at "w"
      rw [if_neg hl, if_pos hh] at J
      exact ZC1 (by show 4 ≤ sizeLine; decide) fun l H' n' f' S' => fin _ _ _ _ d2 e3 J l H' n' f' S'
     ·walk_at "w"
      rw [if_neg hl, if_neg hh] at J
      exact ZC1 (by show 4 ≤ sizeLine; decide) fun l H' n' f' S' => fin _ _ _ _ d2 d3 J l H' n' f' S'
theorem ZMP {xs : List V} {v : V} (h : xs[xs.length - 1]? = some v) : atI xs (-1) = some v := by
 have hlt := (List.getElem?_eq_some_iff.mp h).1
 unfold atI ixN
 rw [if_neg (by decide), if_pos (by omega)]
 have : ((-1 : Int) + (xs.length : Int)).toNat = xs.length - 1 := by omega
 rw [this]
 exact h
def ZQE (K : W.Frag) : Sp := fun vs H Q _ => ∃ (l : Addr) (cv : PL), vs = [.ref l] ∧ PrT H l cv ∧ Asc cv ∧
 ∀ (v : V) (o : Option (PL)) (H' : Hp), ZDE H' v o → Is4 cv o → ZCq H H' → Q v H'
theorem ZM8 : ZCv ["curve"] ["curve"] (ZCo ZHy) := ZDI
theorem ZM9 (T : Txt K mg a) : ZCr P w K mg base CX0 3 a.ZAc a.ZAg ["curve"] (ZQE K) := by
 refine T.ZBW.ok ZM8 (by walk_at "l") (fun cdv A outer s H vs Q E hr h => ?_)
 ·obtain ⟨l, cv, rfl, ⟨us, gL, pL⟩, hasc, k⟩ := h
  have hul : us.length = cv.length := pL.length
  refine ⟨_, QB.h (ZCm (ZDS (ZC2 (ZEI) (ZC8 (ZFI K rfl) rfl T.YQ ZFG (ZCj (qv 0) ZCk)) ZCl (ZC4 _)) (ZCn (ZCw ZEb)) ZC6) (ZCn (ZCw (ZDK (ZCj (ZDB (ZDf K rfl) (qv 0) ZCl) (ZCj (ZDB (ZDf K rfl) (qv 0) (ZEx ZEM ZCl)) (ZCj (ZMv K rfl rfl (ZER T) hr rfl T.ZBb rfl T.Zp T.Zq (ZCj (qv 0) ZCk)) (ZCj (ZMx K rfl rfl (ZER T) hr rfl T.ZBc rfl T.Zp T.Zq (ZCj (qv 0) ZCk)) ZCk)))))))), ?_⟩
  walk_at "s"
  walk_at "w"
  refine ZDU (fun h => ?_) (fun h => ?_)
  ·walk_at "w"
   have : cv = [] := List.length_eq_zero_iff.mp (by have h := V.int.inj h; omega)
   exact k _ none H .non (.inl ⟨rfl, this⟩) (ZCq.refl H)
  ·have hpos : 0 < us.length := by
    rcases Nat.eq_zero_or_pos us.length with z | z
    ·exact absurd (by rw [z]; rfl) h
    ·exact z
   have hne : us ≠ [] := List.length_pos_iff.mp hpos
   obtain ⟨c0, q0, ec0, hq0, hc0⟩ := pL.at (List.getElem?_eq_getElem hpos)
   obtain ⟨c1, q1, ec1, hq1, hc1⟩ := pL.at (List.getElem?_eq_getElem (show us.length - 1 < us.length by omega))
   have hx0 : us[0]? = some (.ref c0) := by rw [List.getElem?_eq_getElem hpos, ec0]
   have hx1 : us[us.length - 1]? = some (.ref c1) := by rw [List.getElem?_eq_getElem (show us.length - 1 < us.length by omega), ec1]
   have turn : ∀ i v, us[i]? = some v → ∀ Q : VK, Q (.int (cv.getD i (0, 0)).2) H → ZLQ [v] H Q E0 := fun i v hv Q q => by
    obtain ⟨c, p, rfl, hp, hc⟩ := pL.at hv
    have e : cv.getD i (0, 0) = p := by simp [hp]
    rw [e] at q
    exact ⟨c, p.1, p.2, rfl, hc, q⟩
   walk_at "w"
   refine ZHp (SqT.of gL) (ZEw (j := 0) hx0) ?_
   walk_at "w"
   refine ZHp (SqT.of gL) (ZMP hx1) ?_
   walk_at "w"
   refine ZMw (fun i => (cv.getD i (0, 0)).2) (SqT.of gL) hne turn fun i2 v2 hv2 hb2 => ?_
   walk_at "w"
   refine ZMy (fun i => (cv.getD i (0, 0)).2) (SqT.of gL) hne turn fun i3 v3 hv3 hb3 => ?_
   obtain ⟨c2, q2, rfl, hq2, hc2⟩ := pL.at hv2
   obtain ⟨c3, q3, rfl, hq3, hc3⟩ := pL.at hv3
   walk_at "w"
   refine ZC1 (by show 4 ≤ sizeLine; decide) fun c4 H4 n4 f4 S4 => ?_
   have hP4 : ZCt H4 [.ref c0, .ref c1, .ref c2, .ref c3] [q0, q1, q2, q3] := .cons ⟨c0, rfl, S4 _ _ hc0⟩ (.cons ⟨c1, rfl, S4 _ _ hc1⟩ (.cons ⟨c2, rfl, S4 _ _ hc2⟩ (.cons ⟨c3, rfl, S4 _ _ hc3⟩ .nil)))
   rw [hul] at hq1 hb2 hb3
   exact k _ (some [q0, q1, q2, q3]) H4 (.pr ⟨_, f4, hP4⟩ rfl) (Is4.minmax hasc hq0 hq1 hq2 hq3 hb2 hb3) S4
def InT (x : Int) : Prop := -1099511627776 ≤ x ∧ x ≤ 1099511627776
inductive ZEs (H : Hp) : V → Prop where
 | non : ZEs H .non
 | str (x : Str) : ZEs H (.str x)
 | tup {p : Addr} {xs : List V} (e : H p = some (.tup xs)) : ZEs H (.ref p)
 | lst {p : Addr} {xs : List V} (e : H p = some (.lst xs)) : ZEs H (.ref p)
theorem ZEs.same {H H' : Hp} {v : V} (s : ZCq H H') : ZEs H v → ZEs H' v
 | .non => .non
 | .str x => .str x
 | .tup e => .tup (s _ _ e)
 | .lst e => .lst (s _ _ e)
def Off (H : Hp) (v : V) : Prop := (∃ i, v = .int i ∧ ¬ InT i) ∨ ZEs H v
theorem ZOX (K : W.Frag) : W.kitOne K (.type "str") (.type "int") = some false := by kernel_rfl
theorem ZOY (K : W.Frag) : W.kitOne K (.type "list") (.type "int") = some false := by kernel_rfl
theorem ZOZ (K : W.Frag) : W.kitOne K (.type "tuple") (.type "int") = some false := by kernel_rfl
def ZR2 : Sp := fun vs H Q _ => ∃ v, vs = [v] ∧ ((∃ i : Int, v = .int i ∧ Q (.bl true) H) ∨ (ZEs H v ∧ Q (.bl false) H))
theorem ZLw : ZCv ["thing"] ["thing"] (ZCo ZHP) := ZDI
theorem ZEk (T : Txt K mg a) : ZCr P w K mg base CX0 1 a.J9 a.Jt ["thing"] ZR2 := by
 refine T.Zf.ok ZLw (by walk_at "l") (fun cdv A outer s H vs Q E hr h => ?_)
 ·obtain ⟨v, rfl, h⟩ := h
  refine ⟨_, QB.h (ZCn (ZCw (ZF3 (ZC8 (ZNn K rfl) rfl T.ZM ZDn (ZCj (qv 0) (ZCj (ZMF (v := .ty "int") rfl T.Js ZHo rfl) ZCk))) (ZGi (ZI9 (ZC8 (ZNn K rfl) rfl T.ZM ZDn (ZCj (qv 0) (ZCj (ZMF (v := .ty "bool") rfl T.ZBq ZRE rfl) ZCk)))))))), ?_⟩
  walk_at "s"
  walk_at "w"
  rcases h with ⟨i, rfl, q⟩ | ⟨hv, q⟩
  ·refine ZGg (.int i) (ZOU _) (ZG0 (ZD0 ?_))
   walk_at "w"
   refine ZGg (.int i) (ZM7 _) ?_
   walk_at "w"
   exact q
  ·cases hv with
   | non => exact ZGg .non (ZOV _) (ZG0 (ZDu q))
   | str x => exact ZGg (.str x) (ZOX _) (ZG0 (ZDu q))
   | tup e => exact ZGg (.tup e) (ZOZ _) (ZG0 (ZDu q))
   | lst e => exact ZGg (.lst e) (ZOY _) (ZG0 (ZDu q))
def ZQF : Sp := fun vs H Q _ => ∃ v, vs = [v] ∧ ((∃ i : Int, v = .int i ∧ InT i ∧ Q (.bl true) H) ∨ (Off H v ∧ Q (.bl false) H))
theorem ZLS : ZCv ["thing"] ["thing"] (ZCo ZGU) := ZDI
theorem ZES (T : Txt K mg a) : ZCr P w K mg base CX0 2 a.Jd a.Jn ["thing"] ZQF := by
 refine T.ZZ.ok ZLS (by walk_at "l") (fun cdv A outer s H vs Q E hr h => ?_)
 ·obtain ⟨v, rfl, h⟩ := h
  have g : (∃ i : Int, v = .int i ∧ ((InT i ∧ Q (.bl true) H) ∨ (¬ InT i ∧ Q (.bl false) H))) ∨ (ZEs H v ∧ Q (.bl false) H) := by
   rcases h with ⟨i, e, h, q⟩ | ⟨⟨i, e, h⟩ | h, q⟩
   ·exact .inl ⟨i, e, .inl ⟨h, q⟩⟩
   ·exact .inl ⟨i, e, .inr ⟨h, q⟩⟩
   ·exact .inr ⟨h, q⟩
  clear h
  refine ⟨_, QB.h (ZCn (ZCw (ZF3 (qcS (ZEk T) hr T.Z4 T.Zf.kp T.Z5 (ZCj (qv 0) ZCk)) (ZGi (ZPW ZGF ZGF (ZEx ZEM (ZEE (v := .int 1099511627776) rfl T.Yr ⟨_, rfl⟩)) (qv 0) (ZEE (v := .int 1099511627776) rfl T.Yr ⟨_, rfl⟩)))))), ?_⟩
  walk_at "s"
  walk_at "w"
  rcases g with ⟨i, rfl, h⟩ | ⟨hv, q⟩
  ·refine ⟨_, rfl, .inl ⟨i, rfl, ?_⟩⟩
   walk_at "w"
   refine ZD0 ?_
   walk_at "w"
   unfold InT at h
   refine ZDU (fun h1 => ?_) (fun h1 => ?_)
   ·walk_at "w"
    rcases h with ⟨hi, q⟩ | ⟨hi, q⟩
    ·rw [decide_eq_true hi.2]
     exact q
    ·rw [decide_eq_false fun z => hi ⟨by omega, z⟩]
     exact q
   ·rcases h with ⟨hi, q⟩ | ⟨hi, q⟩
    ·exact absurd hi.1 (by omega)
    ·walk_at "w"
     exact q
  ·refine ⟨_, rfl, .inr ⟨hv, ?_⟩⟩
   walk_at "w"
   refine ZDu ?_
   walk_at "w"
   exact q
def ZR3 : Sp := fun vs H Q _ => ∃ b e : Int, vs = [.int b, .int e] ∧ InT b ∧ InT e ∧ Q .non H
theorem ZGC : ZCv ["begin", "end"] ["begin", "end"] (ZCo ZFL) := ZDI
theorem ZGD (T : Txt K mg a) : ZCr P w K mg base CX0 3 a.Zz a.Zv ["begin", "end"] ZR3 := by
 refine T.ZU.ok ZGC (by walk_at "l") (fun cdv A outer s H vs Q E hr h => ?_)
 ·obtain ⟨b, e, rfl, hb, he, q⟩ := h
  refine ⟨_, QB.h (ZCn (ZDS (QW.pt (ZE6 (ZD6 (ZEO (qcS (ZES T) hr T.Zn T.ZZ.kp T.Zo (ZCj (qv 0) ZCk)))) (ZEc (ZD6 (ZEO (qcS (ZES T) hr T.Zn T.ZZ.kp T.Zo (ZCj (qv 1) ZCk))))))) (ZCn ZDF) ZC6)), ?_⟩
  walk_at "s"
  walk_at "w"
  refine ⟨_, rfl, .inl ⟨b, rfl, hb, ?_⟩⟩
  walk_at "w"
  refine ZDu ?_
  walk_at "w"
  refine ⟨_, rfl, .inl ⟨e, rfl, he, ?_⟩⟩
  walk_at "w"
  refine ZDu ?_
  walk_at "w"
  exact q
def ZOa : Sp := fun vs H Q _ => ∃ x e : Int, vs = [.int x, .int e] ∧ InT x ∧ InT e ∧ x < e ∧
 ∀ (t : Addr) (L : Nat) (H' : Hp), H' t = some (.tup [.int L, .int (2 ^ L)]) → (2 : Int) ^ L ∣ x → x + 2 ^ L ≤ e → ((2 : Int) ^ (L + 1) ∣ x → x + 2 ^ (L + 1) ≤ e → False) → ZCq H H' → Q (.ref t) H'
theorem ZFO : ZCv ["first", "end", "level", "size"] ["first", "end"] (ZCo ZHz) := ZDI
theorem ZNA (T : Txt K mg a) : ZCr P w K mg base CX0 1 a.ZAT a.ZAh ["first", "end"] ZOa := by
 refine T.ZBV.ok ZFO (by walk_at "l") (fun cdv A outer s H vs Q E hr h => ?_)
 ·obtain ⟨x, e, rfl, hx, he, hxe, k⟩ := h
  unfold InT at hx he
  refine ⟨_, QB.h (ZCm (qsS (i := 2) ZFO.nd ZCl) (ZCm (qsS (i := 3) ZFO.nd ZCl) (ZCm (ZKn PassesOwn.never (QW.pt (ZTY (ZC2 (ZEI) (ZCs ZGf (qv 0) (ZCs ZDl ZCl (qv 3))) ZCl (ZC4 _)) (ZRb (ZC2 (ZGF) (ZCs ZDZ (qv 0) (ZCs ZDl ZCl (qv 3))) (qv 1) (ZC4 _))))) (ZCm (ZK0 (i := 2) ZFO.nd rfl (by walk_at "o") ZL1 ZCl) (ZCn (ZK0 (i := 3) ZFO.nd rfl (by walk_at "o") ZQz ZCl)))) (ZCn (ZCw (ZDK (ZCj (qv 2) (ZCj (qv 3) ZCk)))))))), ?_⟩
  walk_at "s"
  walk_at "w"
  refine ZK1 (fun σ H' => H' = H ∧ ∃ L : Nat, ∃ z : Int, z = 2 ^ L ∧ σ = [some (.int x), some (.int e), some (.int L), some (.int z)] ∧ z ∣ x ∧ x + z ≤ e) (fun σ H' => match σ with | [_, _, some (.int l), some (.int z)] => (2199023255552 - z).toNat | _ => 0) ?_ ?_
  ·exact ⟨rfl, 0, 1, rfl, rfl, Int.one_dvd _, by omega⟩
  ·rintro σ H' ⟨rfl, L, z, hz, rfl, hd, hle⟩
   have hp : 0 < z := by rw [hz]; exact ZEQ L
   have hz2 : z ≤ 2199023255552 := by omega
   walk_at "w"
   rw [ZEJ]
   refine ZDU (fun h1 => ?_) (fun h1 => ?_)
   ·walk_at "w"
    refine ZDU (fun h2 => ?_) (fun h2 => ?_)
    ·refine ZMH ?_
     walk_at "w"
     refine ⟨⟨rfl, L + 1, z * 2, ?_, ?_, ?_, by omega⟩, ?_⟩
     ·rw [hz, Int.pow_succ]
     ·show [some (V.int x), some (V.int e), some (V.int ((L : Int) + 1)), some (V.int (z * 2))] = _
      rfl
     ·rw [Int.mul_comm]; exact Int.dvd_of_emod_eq_zero h1
     ·show (2199023255552 - z * 2).toNat < (2199023255552 - z).toNat
      omega
    ·walk_at "w"
     refine ZC1 (by show 2 ≤ sizeLine; decide) fun t H2 n2 f2 S2 => ?_
     subst hz
     refine k t L H2 f2 hd hle (fun _ h4 => h2 ?_) S2
     rw [ZHN]; exact h4
   ·refine ZDu ?_
    walk_at "w"
    refine ZC1 (by show 2 ≤ sizeLine; decide) fun t H2 n2 f2 S2 => ?_
    subst hz
    refine k t L H2 f2 hd hle (fun h3 _ => h1 ?_) S2
    rw [ZHN]; exact Int.emod_eq_zero_of_dvd h3
def ZH2 (b e : Int) : Int := if e > b then e else b
def ZLx : Sp := fun vs H Q _ => ∃ b e : Int, vs = [.int b, .int e] ∧ InT b ∧ InT e ∧
 ∀ (t : Addr) (prs : PL) (H' : Hp), PrT H' t prs → Ch e b prs (ZH2 b e) → prs.length ≤ 80 → ZCq H H' → Q (.ref t) H'
theorem ZEC : ZCv ["begin", "end", "found", "first", "level", "size"] ["begin", "end"] (ZCo ZGV) := ZDI
theorem ZLT (T : Txt K mg a) : ZCr P w K mg base CX0 4 a.Yq a.Yv ["begin", "end"] ZLx := by
 refine T.Yw.ok ZEC (by walk_at "l") (fun cdv A outer s H vs Q E hr h => ?_)
 ·obtain ⟨b, e, rfl, hb, he, k⟩ := h
  refine ⟨_, QB.h (ZCm (ZC5 (qcS (ZGD T) hr T.Zy T.ZU.kp T.Zx (ZCj (qv 0) (ZCj (qv 1) ZCk)))) (ZCm (qsS (i := 2) ZEC.nd (ZD7 ZCk)) (ZCm (qsS (i := 3) ZEC.nd (qv 0)) (ZCm (ZKn PassesOwn.never (ZC2 (ZGE) (qv 3) (qv 1) (ZC4 _)) (ZCm (ZFH (qcS (ZNA T) hr.m T.ZCM T.ZBV.kp T.ZCN (ZCj (qv 3) (ZCj (qv 1) ZCk))) (ZE2 (n := 2) K rfl rfl (ZDL (qgN (i := 4) ZEC.nd) (ZDL (qgN (i := 5) ZEC.nd) ZEi)))) (ZCm (ZC5 (ZJA PySem.F.plainAttrs_list PySem.F.slot_list_append PySem.F.type_list_append ZEn (qv 2) (ZCj (ZDK (ZCj (qv 4) (ZCj (ZCs ZGz (qv 3) (qv 5)) ZCk))) ZCk))) (ZCn (ZK0 (i := 3) ZEC.nd rfl (by walk_at "o") ZL1 (qv 5)))))) (ZCn (ZCw (ZDi (ZEq K rfl) rfl T.Zr ZEo (ZCj (qv 2) ZCk)))))))), ?_⟩
  walk_at "s"
  walk_at "w"
  refine ⟨b, e, rfl, hb, he, ?_⟩
  unfold InT at hb he
  walk_at "w"
  refine ZC1 (by show 0 ≤ sizeLine; decide) fun l H1 n1 f1 S1 => ?_
  walk_at "w"
  have e40 : (2 : Int) ^ 40 = 1099511627776 := by decide
  refine ZK1 (fun σ H' => ZCq H H' ∧ ∃ (x : Int) (prs : PL), (∃ v4 v5, σ = [some (.int b), some (.int e), some (.ref l), some (.int x), v4, v5]) ∧ PrL H' l prs ∧ Ch e b prs x ∧ Few e prs.length x ∧ x ≤ ZH2 b e ∧ b ≤ x) (fun σ H' => match σ with | [_, _, _, some (.int x), _, _] => (e - x).toNat | _ => 0) ?_ ?_
  ·exact ⟨S1, b, [], ⟨_, _, rfl⟩, ⟨[], f1, .nil⟩, rfl, Few.start (by rw [e40]; omega), by unfold ZH2; split <;> omega, Int.le_refl _⟩
  ·rintro σ H' ⟨S', x, prs, ⟨v4, v5, rfl⟩, ⟨vs, f', hP⟩, hch, hfew, hmx, hbx⟩
   walk_at "w"
   refine ZDU (fun hxe => ?_) (fun hxe => ?_)
   ·refine ZMH ?_
    walk_at "w"
    refine ⟨x, e, rfl, ⟨by omega, by omega⟩, he, hxe, fun t L H2 f2 hd hle hmax S2 => ?_⟩
    have hL : L ≤ 40 := ZLH (by rw [e40]; omega) (by rw [e40]; omega) hd hle
    have hp := ZEQ L
    have hL2 := ZHM hL
    rw [e40] at hL2
    have hfs := Few.step (by rw [e40]; omega) (by rw [e40]; omega) hfew hd hle hmax
    generalize hz : (2 : Int) ^ L = z at *
    walk_at "w"
    refine ⟨tyL (S2 _ _ f'), ?_⟩
    walk_at "w"
    refine ZC1 (by show 2 ≤ sizeLine; decide) fun t3 H3 n3 f3 S3 => ?_
    have fl := S3 _ _ (S2 _ _ f')
    walk_at "w"
    refine ZFm fl ?_ fun H4 f4 K4 => ?_
    ·rw [hP.length]
     exact Nat.lt_of_le_of_lt hfew.len (by decide)
    walk_at "w"
    have hxz : x / z * z = x := Int.ediv_mul_cancel hd
    refine ⟨⟨((S'.trans S2).trans S3).kpN n1 K4, x + z, prs ++ [((L : Int), x / z)], ⟨_, _, rfl⟩, ⟨_, f4, ?_⟩, ?_, ?_, ?_, by omega⟩, ?_⟩
    ·exact ZCt.kpL K4 fl ((hP.same (S2.trans S3)).snoc f3)
    ·have := Ch.snoc (p := ((L : Int), x / z)) hch ⟨by simp, by simp; omega⟩ (by rw [show ((L : Int), x / z).1.toNat = L from Int.toNat_natCast L, hz]; exact hxz) (by rw [show ((L : Int), x / z).1.toNat = L from Int.toNat_natCast L, hz]; exact hle) (by
      rw [show ((L : Int), x / z).1.toNat = L from Int.toNat_natCast L, hz]
      intro _ h5 h6
      have ez : (2 : Int) ^ (L + 1) = 2 * z := by rw [← ZHN, hz]
      refine hmax ?_ ?_
      ·rw [ez]; exact Int.dvd_of_emod_eq_zero h5
      ·rw [ez]; exact h6)
     rw [show ((L : Int), x / z).1.toNat = L from Int.toNat_natCast L, hz] at this
     exact this
    ·rw [List.length_append]; exact hfs
    ·unfold ZH2; split <;> omega
    ·show (e - (x + z)).toNat < (e - x).toNat
     omega
   ·walk_at "w"
    refine ZFA (SqL.of f') fun t H2 n2 f2 S2 => ?_
    have ex : x = ZH2 b e := by
     unfold ZH2 at hmx ⊢
     split <;> rename_i hh
     ·rw [if_pos hh] at hmx; omega
     ·rw [if_neg hh] at hmx; omega
    rw [ex] at hch
    exact k t prs H2 ⟨vs, f2, hP.same S2⟩ hch hfew.len (S'.trans S2)
def ZNB (H : Hp) (x y : V) : Prop := Off H x ∨ ((∃ i, x = .int i ∧ InT i) ∧ Off H y)
theorem ZQG {H : Hp} {b e : Int} (h : ¬ (InT b ∧ InT e)) : ZNB H (.int b) (.int e) := by
 by_cases hb : InT b
 ·exact .inr ⟨⟨b, rfl, hb⟩, .inl ⟨e, rfl, fun he => h ⟨hb, he⟩⟩⟩
 ·exact .inl (.inl ⟨b, rfl, hb⟩)
def ZLU (C : Addr) : Sp := fun vs H _ E => ∃ x y : V, vs = [x, y] ∧ ZNB H x y ∧ E (.ref C) none H
theorem ZFt (T : Txt K mg a) : ZCr P w K mg base (CX1 P w) 3 a.Zz a.Zv ["begin", "end"] (ZLU a.ZA) := by
 refine T.ZU.okx ZGC (by walk_at "l") (fun cdv A outer s H vs Q E hr h => ?_)
 ·obtain ⟨b, e, rfl, hn, q⟩ := h
  refine ⟨_, QB.h (ZCn (ZDS (QW.pt (ZE6 (ZD6 (ZEO (qcS (ZES T) hr T.Zn T.ZZ.kp T.Zo (ZCj (qv 0) ZCk)))) (ZEc (ZD6 (ZEO (qcS (ZES T) hr T.Zn T.ZZ.kp T.Zo (ZCj (qv 1) ZCk))))))) (ZCn (ZHL T.Z0 rfl T.Zc (ZCj ZGh ZCk))) ZC6)), ?_⟩
  walk_at "s"
  walk_at "w"
  rcases hn with hb | ⟨⟨i, rfl, hi⟩, he⟩
  ·refine ⟨_, rfl, .inr ⟨hb, ?_⟩⟩
   walk_at "w"
   refine ZD0 ?_
   walk_at "w"
   exact ZEY (by decide) q
  ·refine ⟨_, rfl, .inl ⟨i, rfl, hi, ?_⟩⟩
   walk_at "w"
   refine ZDu ?_
   walk_at "w"
   refine ⟨_, rfl, .inr ⟨he, ?_⟩⟩
   walk_at "w"
   refine ZD0 ?_
   walk_at "w"
   exact ZEY (by decide) q
theorem ZKI (T : Txt K mg a) : ZCr P w K mg base (CX1 P w) 4 a.Yq a.Yv ["begin", "end"] (ZLU a.ZA) := by
 refine T.Yw.okx ZEC (by walk_at "l") (fun cdv A outer s H vs Q E hr h => ?_)
 ·obtain ⟨b, e, rfl, hn, q⟩ := h
  refine ⟨_, QB.h (ZCm (ZC5 (ZE7 (ZFt T) hr rfl T.Zy T.ZU.kp T.Zx .nil ZDx (ZCj (qv 0) (ZCj (qv 1) ZCk)))) (ZCm ZDF (ZCm ZDF (ZCm ZDF (ZCn ZDF))))), ?_⟩
  walk_at "s"
  walk_at "w"
  exact ⟨b, e, rfl, hn, q⟩
def ZR4 (K : W.Frag) : Sp := fun vs H Q _ => ∃ (p : Addr) (b y m k : Int), vs = [.ref p, .int k] ∧ H p = some (.tup [.int b, .int y, .int m]) ∧ 0 ≤ k ∧ k < m ∧ m ≤ 1000 ∧
 ∀ (u : Addr) (H' : Hp), H u = none → H' u = some (.tup [.int (b + k * y), .int (b + k * y + y)]) → ZCq H H' → Q (.ref u) H'
theorem ZE3 : ZCv ["window", "k", "begin", "wide", "many", "first"] ["window", "k"] (ZCo ZHQ) := ZDI
theorem ZLy (T : Txt K mg a) : ZCr P w K mg base CX0 2 a.ZAC a.Jw ["window", "k"] (ZR4 K) := by
 refine T.ZBE.ok ZE3 (by walk_at "l") (fun cdv A outer s H vs Q E hr h => ?_)
 ·obtain ⟨p, b, y, m, n, rfl, hT, h0, h1, h2, k⟩ := h
  refine ⟨_, QB.h (ZCm (ZFH (qv 0) (ZE2 (n := 3) K rfl rfl (ZDL (qgN (i := 2) ZE3.nd) (ZDL (qgN (i := 3) ZE3.nd) (ZDL (qgN (i := 4) ZE3.nd) ZEi))))) (ZCm (ZDS (QW.pt (ZE6 (ZD6 (ZEO (qcS (ZEk T) hr T.Z4 T.Zf.kp T.Z5 (ZCj (qv 1) ZCk)))) (ZEc (ZD6 (ZG2 ZGF ZGE ZCl (qv 1) (qv 4)))))) (ZCn ZDF) ZC6) (ZCm (qsS (i := 5) ZE3.nd (ZCs ZDZ (qv 2) (ZCs ZDl (qv 1) (qv 3)))) (ZCn (ZCw (ZDK (ZCj (qv 5) (ZCj (ZCs ZDZ (qv 5) (qv 3)) ZCk)))))))), ?_⟩
  walk_at "s"
  walk_at "w"
  refine ⟨_, rfl, .inl ⟨n, rfl, ?_⟩⟩
  walk_at "w"
  refine ZDu ?_
  walk_at "w"
  refine ZDU (fun _ => ?_) (fun h => absurd h0 h)
  walk_at "w"
  rw [decide_eq_true h1]
  refine ZDu ?_
  walk_at "w"
  exact ZC1 (by show 2 ≤ sizeLine; decide) fun u H2 n2 f2 S2 => k u H2 n2 f2 S2
def ZFy (b y : Int) (n : Nat) : PL := (List.range n).map fun (i : Nat) => (b + (i : Int) * y, b + (i : Int) * y + y)
theorem ZH3 (b y : Int) (n : Nat) : (ZFy b y n).length = n := by rw [ZFy, List.length_map, List.length_range]
theorem ZNC (b y : Int) (n : Nat) : ZFy b y (n + 1) = ZFy b y n ++ [(b + (n : Int) * y, b + (n : Int) * y + y)] := by rw [ZFy, List.range_succ, List.map_append]; rfl
theorem ZQH {b y : Int} {n i : Nat} {p : Int × Int} (h : (ZFy b y n)[i]? = some p) : p = (b + (i : Int) * y, b + (i : Int) * y + y) := by
 rw [ZFy, List.getElem?_map] at h
 obtain ⟨j, hj, rfl⟩ := Option.map_eq_some_iff.mp h
 rw [List.getElem?_range (by have := (List.getElem?_eq_some_iff.mp hj).1; rwa [List.length_range] at this)] at hj
 rw [← Option.some.inj hj]
def ZOb (K : W.Frag) : Sp := fun vs H Q _ => ∃ (p : Addr) (b y m : Int), vs = [.ref p] ∧ H p = some (.tup [.int b, .int y, .int m]) ∧ 1 ≤ m ∧ m ≤ 1000 ∧
 ∀ (l : Addr) (us : List V) (H' : Hp), H l = none → H' l = some (.lst us) → ZCt H' us (ZFy b y m.toNat) → ZCq H H' → Q (.ref l) H'
theorem ZKJ : ZCv ["window"] ["window"] (ZCo ZFK) := ZDI
theorem ZKK (T : Txt K mg a) : ZCr P w K mg base CX0 3 a.JZ a.JW ["window"] (ZOb K) := by
 refine T.ZAf.ok ZKJ (by walk_at "l") (fun cdv A outer s H vs Q E hr h => ?_)
 ·obtain ⟨p, b, y, m, rfl, hT, h1, h2, k⟩ := h
  refine ⟨_, QB.h (ZCn (ZCw (ZGj (N := ["window"]) (sc := ZCo ZFK) (own := ["k"]) (caps := ["window"]) (ks := [0]) rfl rfl rfl ⟨rfl, by decide +kernel, by decide +kernel, by decide +kernel, by decide +kernel, rfl, by decide +kernel⟩ (ZFk rfl T.YI (ZCj (ZDB (ZDf K rfl) (qv 0) ZCl) ZCk)) (fun _ _ _ _ _ => ZEy (i := 0) (show List.Nodup (α := Str) ["k", "window"] from by decide +kernel) rfl (by walk_at "o") (.inr rfl)) (fun _ _ _ _ _ => ZG3) (fun _ _ _ _ _ => qcS (ZLy T) hr T.ZCF T.ZBE.kp T.ZCG (ZCj (qv 1) (ZCj (qv 0) ZCk)))))), ?_⟩
  walk_at "s"
  walk_at "w"
  refine ZHq (by omega) (by omega) ?_
  intro l n1
  refine ZFV m.toNat (fun i σ' H' => (∃ o, σ' = [o, some (.ref p)]) ∧ ZCq H H' ∧ ∃ vs, H' l = some (.lst vs) ∧ ZCt H' vs (ZFy b y i)) ?_ ?_ ?_
  ·exact ⟨⟨none, rfl⟩, ZCq.new n1, [], ZCy, .nil⟩
  ·rintro σ H2 ⟨_, S2, vs, f2, hP⟩
   refine ⟨Nat.le_refl _, ?_⟩
   walk_at "w"
   exact k l vs H2 n1 f2 hP S2
  ·rintro i σ H2 hi ⟨⟨o, rfl⟩, S2, vs, f2, hP⟩
   refine ⟨hi, ?_⟩
   rintro x H'' ⟨rfl, rfl⟩
   walk_at "w"
   refine ZD0 ?_
   walk_at "w"
   refine ⟨p, b, y, m, _, rfl, S2 _ _ hT, by omega, by omega, by omega, fun u H3 n3 f3 S3 => ?_⟩
   have e0 : (0 + (i : Int)) = (i : Int) := by omega
   rw [e0] at f3
   refine ⟨vs, S3 _ _ f2, ?_, ⟨_, rfl⟩, (S2.trans S3).kpN n1 Kp.upd, vs ++ [.ref u], ZCy, ?_⟩
   ·rw [hP.length, ZH3]
    exact Nat.lt_of_lt_of_le hi (Nat.le_trans (show m.toNat ≤ 1000 by omega) (by decide))
   ·rw [ZNC]
    exact ZCt.kpL Kp.upd (S3 _ _ f2) ((hP.same S3).snoc (p := (b + (i : Int) * y, b + (i : Int) * y + y)) f3)
end
def tfl (n : Int) (d1 d2 : Addr) : List (Str × V) := [("looks", V.int n), ("samples", V.ref d1), ("kept_fours", V.ref d2)]
theorem sn1 : (("samples" : Str) == "looks") = false := by decide +kernel
theorem sn2 : (("kept_fours" : Str) == "looks") = false := by decide +kernel
theorem sn3 : (("kept_fours" : Str) == "samples") = false := by decide +kernel
theorem ZFC {n : Int} {d1 d2 : Addr} : (tfl n d1 d2).lookup ("looks" : Str) = some (.int n) := by
 unfold tfl
 rw [List.lookup_cons, beq_self_eq_true]
theorem ZEl {n : Int} {d1 d2 : Addr} : (tfl n d1 d2).lookup ("samples" : Str) = some (.ref d1) := by
 unfold tfl
 rw [List.lookup_cons, sn1, List.lookup_cons, beq_self_eq_true]
theorem ZHX {n : Int} {d1 d2 : Addr} : (tfl n d1 d2).lookup ("kept_fours" : Str) = some (.ref d2) := by
 unfold tfl
 rw [List.lookup_cons, sn2, List.lookup_cons, sn3, List.lookup_cons, beq_self_eq_true]
theorem ZEt {n : Int} {d1 d2 : Addr} {m : Str} (h1 : (m == ("looks" : Str)) = false := by decide +kernel) (h2 : (m == ("samples" : Str)) = false := by decide +kernel) (h3 : (m == ("kept_fours" : Str)) = false := by decide +kernel) : (tfl n d1 d2).lookup m = none := by
 unfold tfl
 rw [List.lookup_cons, h1, List.lookup_cons, h2, List.lookup_cons, h3]
 rfl
theorem ZR5 {n n' : Int} {d1 d2 : Addr} : ZDQ "looks" (.int n') (tfl n d1 d2) = tfl n' d1 d2 := by
 show (if ("looks" : Str) = "looks" then [(("looks" : Str), V.int n')] ++ _ else _) = _
 rw [if_pos rfl]
 rfl
theorem ZMQ {d1 d2 : Addr} : ZDQ "kept_fours" (.ref d2) (ZDQ "samples" (.ref d1) (ZDQ "looks" (.int 0) [])) = tfl 0 d1 d2 := by
 have e1 : ¬ ("looks" : Str) = "samples" := by decide +kernel
 have e2 : ¬ ("looks" : Str) = "kept_fours" := by decide +kernel
 have e3 : ¬ ("samples" : Str) = "kept_fours" := by decide +kernel
 show ZDQ "kept_fours" (.ref d2) (ZDQ "samples" (.ref d1) [(("looks" : Str), V.int 0)]) = _
 rw [show ZDQ "samples" (.ref d1) [(("looks" : Str), V.int 0)] = (if ("looks" : Str) = "samples" then [(("looks" : Str), V.ref d1)] else (("looks" : Str), V.int 0) :: ZDQ "samples" (.ref d1) []) from rfl, if_neg e1]
 show (if ("looks" : Str) = "kept_fours" then _ else (("looks" : Str), V.int 0) :: (if ("samples" : Str) = "kept_fours" then _ else (("samples" : Str), V.ref d1) :: ZDQ "kept_fours" (.ref d2) [])) = _
 rw [if_neg e2, if_neg e3]
 rfl
def ZDA (C : Addr) (H : Hp) (p : Addr) (n : Int) (d1 d2 : Addr) (sm : PL) (c : Nat) : Prop :=
 ∃ dx kvs, H p = some (.ins C dx (tfl n d1 d2)) ∧ H d1 = some (.dK (ZDN sm)) ∧ H d2 = some (.dT kvs) ∧ (sm.map (·.1)).Nodup ∧ ZDy H kvs sm (fun _ _ => True) ∧ kvs.length ≤ 41 * c
theorem ZDA.same {C : Addr} {H H' : Hp} {p d1 d2 : Addr} {n : Int} {sm : PL} {c : Nat} (h : ZDA C H p n d1 d2 sm c) (s : ZCq H H') : ZDA C H' p n d1 d2 sm c := by
 obtain ⟨dx, kvs, h1, h2, h3, h4, h5, h6⟩ := h
 exact ⟨dx, kvs, s _ _ h1, s _ _ h2, s _ _ h3, h4, h5.same s, h6⟩
def Fr3 (p d1 d2 : Addr) (H H' : Hp) : Prop := ∀ b o, H b = some o → b ≠ p → b ≠ d1 → b ≠ d2 → H' b = some o
section
variable {P : Program} {w : World} {K : W.Frag} {mg : Str → Option Value} {base : Heap} {a : Ad}
local macro_rules | `(tactic| walk_at "rd") => `(tactic| first
 | with_reducible first | refine ZDa (by assumption) (‹Txt _ _ _›).ZI (‹Txt _ _ _›).ZS ZFC ?_ | refine ZDa (by assumption) (‹Txt _ _ _›).ZI (‹Txt _ _ _›).ZO ZEl ?_ | refine ZDa (by assumption) (‹Txt _ _ _›).ZI (‹Txt _ _ _›).ZP ZHX ?_)
def Tm (t : Int) : Prop := -1099511627776 ≤ t ∧ t < 1099511627776
def ZQI : Sp := fun vs H Q _ => ∃ t : Int, vs = [.int t] ∧ Tm t ∧ Q .non H
theorem ZHc : ZCv ["t"] ["t"] (ZCo ZF6) := ZDI
theorem ZHd (T : Txt K mg a) : ZCr P w K mg base CX0 3 a.Ya a.YT ["t"] ZQI := by
 refine T.Za.ok ZHc (by walk_at "l") (fun cdv A outer s H vs Q E hr h => ?_)
 ·obtain ⟨t, rfl, ht, q⟩ := h
  unfold Tm at ht
  refine ⟨_, QB.h (ZCn (ZDS (QW.pt (ZE6 (ZD6 (ZEO (qcS (ZES T) hr T.Zn T.ZZ.kp T.Zo (ZCj (qv 0) ZCk)))) (ZEc (ZC2 (ZEI) (qv 0) (ZEE (v := .int 1099511627776) rfl T.Yr ⟨_, rfl⟩) (ZC4 _))))) (ZCn ZDF) ZC6)), ?_⟩
  walk_at "s"
  walk_at "w"
  refine ⟨_, rfl, .inl ⟨t, rfl, ⟨by omega, by omega⟩, ?_⟩⟩
  walk_at "w"
  refine ZDu ?_
  walk_at "w"
  rw [ZEJ]
  refine ZDU (fun h => ?_) (fun h => ?_)
  ·exfalso
   omega
  ·walk_at "w"
   exact q
def ZR6 (C : Addr) : Sp := fun vs H Q _ => ∃ (p d1 d2 dx : Addr) (n t : Int) (v : V) (o : Option (PL)) (sm : PL) (kvs : List (List Key × V)) (c : Nat), vs = [.ref p, .int t, v] ∧ H p = some (.ins C dx (tfl n d1 d2)) ∧ H d1 = some (.dK (ZDN sm)) ∧ H d2 = some (.dT kvs) ∧ (sm.map (·.1)).Nodup ∧
 ZDy H kvs sm (fun l s => s ≠ t / 2 ^ l) ∧ kvs.length ≤ 41 * c ∧ c ≤ 1000 ∧ ZDE H v o ∧ Is4 (inS sm 0 t) o ∧ ∀ H', ZDA C H' p n d1 d2 sm (c + 1) → Kp d2 H H' → Q .non H'
theorem ZEe : ZCv ["self", "t", "four", "s", "level", "halves"] ["self", "t", "four"] (ZCo ZF7) := ZDI
theorem ZHe (T : Txt K mg a) : ZCr P w K mg base CX0 3 a.JP a.JQ ["self", "t", "four"] (ZR6 a.ZF) := by
 refine T.ZBk.ok ZEe (by walk_at "l") (fun cdv A outer s H vs Q E hr h => ?_)
 ·obtain ⟨p, d1, d2, dx, n, t, v, o, sm, kvs, c, rfl, hp, h1, h2, hnd, hkf, hlen, hc, hv, ho, k⟩ := h
  have hu := ZD9 hr
  have np2 : p ≠ d2 := fun z => by subst z; rw [hp] at h2; cases h2
  have n12 : d1 ≠ d2 := fun z => by subst z; rw [h1] at h2; cases h2
  refine ⟨_, QB.h (ZCm (ZF0 hu (qv 2) (ZDG K rfl (qv 0)) (ZDK (ZCj ZCl (ZCj (qv 1) ZCk)))) (ZCm (qsS (i := 3) ZEe.nd (qv 1)) (ZCn (ZFl PassesOwn.never rfl (ZFk rfl T.YI (ZCj (ZEE (v := .int 40) rfl T.ZB5 ⟨_, rfl⟩) ZCk)) (qgN (i := 4) ZEe.nd) (ZCm (qsS (i := 3) ZEe.nd (ZCs ZGz (qv 3) ZCl)) (ZCm (qsS (i := 5) ZEe.nd (ZDK (ZCj (ZHH hu (ZDG K rfl (qv 0)) (ZDK (ZCj (qv 4) (ZCj (ZCs ZDl ZCl (qv 3)) ZCk)))) (ZCj (ZHH hu (ZDG K rfl (qv 0)) (ZDK (ZCj (qv 4) (ZCj (ZCs ZDZ (ZCs ZDl ZCl (qv 3)) ZCl) ZCk)))) ZCk)))) (ZCn (ZF0 hu (qcS (ZJ4 T) hr T.ZBs T.ZA4.kp T.ZBm (ZCj (ZDB (ZDf K rfl) (qv 5) ZCl) (ZCj (ZDB (ZDf K rfl) (qv 5) ZCl) ZCk))) (ZDG K rfl (qv 0)) (ZDK (ZCj (ZCs ZDZ (qv 4) ZCl) (ZCj (qv 3) ZCk))))))))))), ?_⟩
  walk_at "s"
  walk_at "w"
  refine ZC1 (by show 2 ≤ sizeLine; decide) fun b3 H3 n3 f3 S3 => ?_
  walk_at "w"
  refine ZK7 (k := kOf 0 t) (S3 _ _ h2) f3 (Nat.lt_of_le_of_lt (show kvs.length ≤ 41000 by omega) (by decide)) fun H4 f4 K4 => ?_
  have K04 : Kp d2 H H4 := (Kp.same S3).trans K4
  have nt : ∀ (l : List (List Key × V)) (xs : List V), HO.dT l ≠ .tup xs := fun l xs z => by cases z
  have e0 : t / 2 ^ 0 = t := by simp
  have hk4 : ZDy H4 (ZEP kvs (kOf 0 t) v) sm (fun l s => s ≠ t / 2 ^ l ∨ l ≤ 0) := by
   have h := ((hkf.same S3).put (i := 0) (t := t) (hv.same S3) (by rw [e0]; exact ho)).kpX K4 (S3 _ _ h2) (nt _)
   rw [e0] at h
   refine h.mono fun l s hl g => ?_
   rcases g with g | g
   ·exact .inl g
   ·have : l = 0 := by omega
    subst this
    by_cases e : s = t / 2 ^ 0
    ·exact .inr ⟨rfl, e⟩
    ·exact .inl e
  have hl4 : (ZEP kvs (kOf 0 t) v).length ≤ 41 * c + 1 := Nat.le_trans (ZFf _ _ _) (by omega)
  walk_at "w"
  refine ZHq (by decide) (by decide) (ZJT (fun i σ H' => (∃ v4 v5, σ = [some (.ref p), some (.int t), some v, some (.int (t / 2 ^ i)), v4, v5]) ∧ Kp d2 H H' ∧ ∃ kvs', H' d2 = some (.dT kvs') ∧ ZDy H' kvs' sm (fun l s => s ≠ t / 2 ^ l ∨ l ≤ i) ∧ kvs'.length ≤ 41 * c + 1 + i) ?_ ?_ ?_)
  ·exact ⟨⟨none, none, by rw [e0]; rfl⟩, K04, _, f4, hk4, hl4⟩
  ·rintro i σ H5 hi ⟨⟨v4, v5, rfl⟩, K5, kv5, f5, hk5, hl5⟩
   have hi40 : i < 40 := hi
   have hp5 := K5 _ _ hp np2
   have ez : (0 + (i : Int)) = (i : Int) := by omega
   rw [ez]
   walk_at "w"
   generalize hs : t / 2 ^ i / 2 = s
   have hs1 : t / 2 ^ (i + 1) = s := by rw [ZLI, hs]
   refine ZHw f5 ?_
   walk_at "w"
   refine ZC1 (by show 2 ≤ sizeLine; decide) fun b6 H6 n6 f6 S6 => ?_
   refine ZIk (k := kOf i (2 * s)) (S6 _ _ f5) f6 ?_
   have hp6 := S6 _ _ hp5
   have f56 := S6 _ _ f5
   walk_at "w"
   refine ZHw f56 ?_
   walk_at "w"
   refine ZC1 (by show 2 ≤ sizeLine; decide) fun b7 H7 n7 f7 S7 => ?_
   refine ZIk (k := kOf i (2 * s + 1)) (S7 _ _ f56) f7 ?_
   have S57 := S6.trans S7
   walk_at "w"
   refine ZC1 (by show 2 ≤ sizeLine; decide) fun b8 H8 n8 f8 S8 => ?_
   have S58 := S57.trans S8
   have hk8 := hk5.same S58
   obtain ⟨oa, ha1, ha2⟩ := hk8 i (2 * s) (by omega) (.inr (Nat.le_refl _))
   obtain ⟨ob, hb1, hb2⟩ := hk8 i (2 * s + 1) (by omega) (.inr (Nat.le_refl _))
   walk_at "w"
   refine ⟨_, _, oa, ob, _, _, rfl, ha1, ha2, hb1, hb2, ZTn (by omega), fun v9 o9 H9 h9 g9 S9 => ?_⟩
   have g9 : Is4 (inS sm (i + 1) s) o9 := g9.congr fun q => ZPy
   have S59 := S58.trans S9
   have hp9 := S59 _ _ hp5
   walk_at "w"
   refine ZC1 (by show 2 ≤ sizeLine; decide) fun b10 H10 n10 f10 S10 => ?_
   have S510 := S59.trans S10
   have f510 := S510 _ _ f5
   refine ZK7 (k := kOf (i + 1) s) f510 ?_ (Nat.lt_of_le_of_lt (show kv5.length ≤ 42000 by omega) (by decide)) fun H11 f11 K11 => ?_
   ·rw [f10]
    show some (HO.tup [V.int ((i : Int) + 1), V.int s]) = some (HO.tup [V.int ((i + 1 : Nat) : Int), V.int s])
    rw [show ((i + 1 : Nat) : Int) = (i : Int) + 1 by omega]
   walk_at "w"
   refine ⟨⟨some (.int i), some (.ref b8), by rw [hs1]; rfl⟩, (K5.then S510).trans K11, _, f11, ?_, Nat.le_trans (ZFf _ _ _) (by omega)⟩
   have h := ((hk5.same S510).put (i := i + 1) (t := t) (h9.same S10) (by rw [hs1]; exact g9)).kpX K11 f510 (nt _)
   rw [hs1] at h
   refine h.mono fun l s' hl g => ?_
   rcases g with g | g
   ·exact .inl (.inl g)
   ·by_cases e : l = i + 1
    ·by_cases e2 : s' = t / 2 ^ l
     ·exact .inr ⟨e, e2⟩
     ·exact .inl (.inl e2)
    ·exact .inl (.inr (by omega))
  ·rintro σ H5 ⟨⟨v4, v5, rfl⟩, K5, kv5, f5, hk5, hl5⟩
   walk_at "w"
   refine k H5 ⟨dx, kv5, K5 _ _ hp np2, K5 _ _ h1 n12, f5, hnd, hk5.mono fun l s hl _ => .inr hl, ?_⟩ K5
   have : kv5.length ≤ 41 * c + 1 + 40 := hl5
   omega
def ZOc (C : Addr) : Sp := fun vs H Q _ => ∃ (p d1 d2 : Addr) (n t h : Int) (sm : PL) (c : Nat), vs = [.ref p, .int t, .int h] ∧ ZDA C H p n d1 d2 sm c ∧ Tm t ∧ c ≤ 1000 ∧ sm.length ≤ 1000 ∧
 ∀ H', ZDA C H' p n d1 d2 (ZDO sm t h) (c + 1) → Fr3 p d1 d2 H H' → Q .non H'
theorem ZIR : ZCv ["self", "t", "h"] ["self", "t", "h"] (ZCo ZHR) := ZDI
theorem ZGb (T : Txt K mg a) : ZCr P w K mg base CX0 4 a.YW a.YZ ["self", "t", "h"] (ZOc a.ZF) := by
 refine T.ZBI.ok ZIR (by walk_at "l") (fun cdv A outer s H vs Q E hr h => ?_)
 ·obtain ⟨p, d1, d2, n, t, x, sm, c, rfl, ⟨dx, kvs, hp, h1, h2, hnd, hkf, hlen⟩, ht, hc, hsl, k⟩ := h
  have hu := ZD9 hr
  have np1 : p ≠ d1 := fun z => by subst z; rw [hp] at h1; cases h1
  have n21 : d2 ≠ d1 := fun z => by subst z; rw [h1] at h2; cases h2
  refine ⟨_, QB.h (ZCm (ZC5 (qcS (ZHd T) hr T.YY T.Za.kp T.YU (ZCj (qv 1) ZCk))) (ZCm (ZF0 hu (qv 2) (ZDG K rfl (qv 0)) (qv 1)) (ZCn (ZC5 (ZC7 (qv 0) T.ZI T.ZAe (ZHe T) hr T.ZAU .nil ZDd (ZCj (qv 1) (ZCj (qcS (ZM9 T) hr T.ZCK T.ZBW.kp T.ZCJ (ZCj (ZDK (ZCj (ZDK (ZCj (qv 1) (ZCj (qv 2) ZCk))) ZCk)) ZCk)) ZCk))))))), ?_⟩
  walk_at "s"
  walk_at "w"
  refine ⟨t, rfl, ht, ?_⟩
  walk_at "w"
  refine ZHA h1 (Nat.lt_of_le_of_lt hsl (by decide)) fun H3 f3 K3 => ?_
  have hp3 := K3 _ _ hp np1
  have h23 := K3 _ _ h2 n21
  have hk3 : ZDy H3 kvs (ZDO sm t x) (fun l s => s ≠ t / 2 ^ l) := (ZDy.other hkf fun q hq => by
   rw [ZD4 hnd]
   constructor
   ·exact fun z => .inl ⟨hq, z⟩
   ·rintro (z | z)
    ·exact z.2
    ·exact absurd (by rw [z]) hq).kpX K3 h1 (fun xs z => by cases z)
  walk_at "w"
  refine ZC0 hp3 ZEt ?_
  walk_at "w"
  refine ZC1 (by show 2 ≤ sizeLine; decide) fun b4 H4 n4 f4 S4 => ?_
  walk_at "w"
  refine ZC1 (by show 1 ≤ sizeLine; decide) fun b5 H5 n5 f5 S5 => ?_
  walk_at "w"
  refine ⟨b5, [(t, x)], rfl, ⟨_, f5, .cons ⟨b4, rfl, S5 _ _ f4⟩ .nil⟩, List.pairwise_singleton _ _, fun v6 o6 H6 h6 g6 S6 => ?_⟩
  have S36 := S4.trans (S5.trans S6)
  walk_at "w"
  refine ⟨p, d1, d2, dx, n, t, v6, o6, ZDO sm t x, kvs, c, rfl, S36 _ _ hp3, S36 _ _ f3, S36 _ _ h23, ZEz hnd, hk3.same S36, hlen, hc, h6, g6.congr fun q => ?_, fun H7 hT7 K7 => ?_⟩
  ·rw [List.mem_singleton, ZE0, ZD4 hnd]
   simp only [Int.pow_zero, Int.ediv_one]
   constructor
   ·rintro rfl
    exact ⟨.inr rfl, rfl⟩
   ·rintro ⟨h1 | h1, h2⟩
    ·exact absurd h2 h1.1
    ·exact h1
  ·walk_at "w"
   exact k H7 hT7 fun b o e e1 e2 e3 => K7 _ _ (S36 _ _ (K3 _ _ e e2)) e3
def ZR7 (C : Addr) : Sp := fun vs H Q _ => ∃ (p dx : Addr) (x : V) (cv : PL), vs = [.ref p, x] ∧ H p = some (.ins C dx []) ∧ ((x = .non ∧ cv = []) ∨ ∃ t, x = .ref t ∧ PrT H t cv) ∧ (cv.map (·.1)).Nodup ∧ (∀ q ∈ cv, Tm q.1) ∧ cv.length ≤ 100 ∧
 ∀ (d1 d2 : Addr) (sm : PL) (H' : Hp), H d1 = none → H d2 = none → ZDA C H' p 0 d1 d2 sm cv.length → (∀ q, q ∈ sm ↔ q ∈ cv) → sm.length ≤ cv.length → Kp p H H' → Q .non H'
theorem ZDv : ZCv ["self", "curve", "t", "h"] ["self", "curve"] (ZCo ZDb) := ZDI
theorem ZIs (T : Txt K mg a) : ZCr P w K mg base CX0 5 a.Zw a.ZT ["self", "curve"] (ZR7 a.ZF) := by
 refine T.Jb.ok ZDv (by walk_at "l") (fun cdv A outer s H vs Q E hr h => ?_)
 ·obtain ⟨p, dx, x, cv, rfl, hp, hx, hnd, htm, hlen, k⟩ := h
  refine ⟨_, QB.h (ZCm (ZEr K rfl (qv 0) ZCl) (ZCm (ZEr K rfl (qv 0) ZG8) (ZCm (ZEr K rfl (qv 0) ZK8) (ZCn (ZDS (ZC2 (ZMD) (qv 1) ZEb (ZC4 _)) (ZCn (ZFl PassesOwn.never rfl (ZKo K rfl (qv 1)) (ZE2 (n := 2) K rfl rfl (ZDL (qgN (i := 2) ZDv.nd) (ZDL (qgN (i := 3) ZDv.nd) ZEi))) (ZCn (ZC5 (ZC7 (qv 0) T.ZI T.ZAJ (ZGb T) hr T.ZAF .nil ZDd (ZCj (qv 2) (ZCj (qv 3) ZCk))))))) ZC6))))), ?_⟩
  walk_at "s"
  walk_at "w"
  refine ZEj hp T.ZI T.ZS (by show 0 < 1000; decide) fun H1 f1 K1 => ?_
  walk_at "w"
  refine ZHB fun d1 H2 n2 f2 S2 => ?_
  have hp2 := S2 _ _ f1
  have nd1 : d1 ≠ p := fun z => by rw [z, f1] at n2; cases n2
  walk_at "w"
  refine ZEj hp2 T.ZI T.ZO (by show 1 < 1000; decide) fun H3 f3 K3 => ?_
  have f23 := K3 _ _ f2 nd1
  walk_at "w"
  refine ZK9 fun d2 H4 n4 f4 S4 => ?_
  have hp4 := S4 _ _ f3
  have nd2 : d2 ≠ p := fun z => by rw [z, f3] at n4; cases n4
  walk_at "w"
  refine ZEj hp4 T.ZI T.ZP (by show 2 < 1000; decide) fun H5 f5 K5 => ?_
  have f5 : H5 p = some (.ins a.ZF dx (tfl 0 d1 d2)) := by rw [f5, ZMQ]
  have K05 : Kp p H H5 := (((K1.then S2).trans K3).then S4).trans K5
  have f25 := K5 _ _ (S4 _ _ f23) nd1
  have f45 := K5 _ _ f4 nd2
  have hn1 : H d1 = none := by
   cases e : H d1 with
   | none => rfl
   | some o =>
    have := K1 _ _ e nd1
    rw [n2] at this
    cases this
  have hn2 : H d2 = none := by
   cases e : H d2 with
   | none => rfl
   | some o =>
    have := ((K1.then S2).trans K3) _ _ e nd2
    rw [n4] at this
    cases this
  have hT5 : ZDA a.ZF H5 p 0 d1 d2 [] 0 := ⟨dx, [], f5, f25, f45, List.nodup_nil, fun l s hl _ => ⟨none, .non, .inl ⟨rfl, rfl⟩⟩, Nat.le_refl _⟩
  walk_at "w"
  rcases hx with ⟨rfl, rfl⟩ | ⟨t, rfl, hT⟩
  ·refine ZG1 (fun h => absurd rfl h) (fun _ => ?_)
   walk_at "w"
   exact k d1 d2 [] H5 hn1 hn2 hT5 (fun q => Iff.rfl) (Nat.le_refl _) K05
  ·refine ZG1 (fun _ => ?_) (fun h => by cases h)
   obtain ⟨us, g, hP⟩ := hT
   have ntp : ∀ {b : Addr} {xs : List V}, H b = some (.tup xs) → b ≠ p := fun e z => by rw [z, hp] at e; cases e
   have g5 := K05 _ _ g (ntp g)
   walk_at "w"
   refine ZIB (xs := us) (fun i σ H' => (∃ v2 v3, σ = [some (.ref p), some (.ref t), v2, v3]) ∧ Kp p H H' ∧ ∃ sm, ZDA a.ZF H' p 0 d1 d2 sm i ∧ (∀ q, q ∈ sm ↔ q ∈ cv.take i) ∧ sm.length ≤ i) ?_ ?_ ?_ ?_
   ·exact ⟨⟨_, _, rfl⟩, K05, [], hT5, fun q => by rw [List.take_zero], Nat.le_refl _⟩
   ·rintro i σ H6 _ ⟨_, K6, _⟩
    exact SqT.of (K6 _ _ g (ntp g))
   ·rintro i x σ H6 hx ⟨⟨v2, v3, rfl⟩, K6, sm, hT6, hm6, hl6⟩
    obtain ⟨cc, q, rfl, hq, hc⟩ := hP.at hx
    have hc6 := K6 _ _ hc (ntp hc)
    obtain ⟨dx6, kv6, hp6, h16, h26, hnd6, hkf6, hlen6⟩ := id hT6
    have hi : i < cv.length := (List.getElem?_eq_some_iff.mp hq).1
    walk_at "w"
    refine ZC0 hp6 ZEt ?_
    walk_at "w"
    refine ⟨p, d1, d2, 0, q.1, q.2, sm, i, rfl, hT6, htm q (List.mem_of_getElem? hq), by omega, by omega, fun H7 hT7 Fr7 => ?_⟩
    walk_at "w"
    refine ⟨⟨_, _, rfl⟩, fun b o e nb => Fr7 _ _ (K6 _ _ e nb) nb (fun z => by rw [z, hn1] at e; cases e) (fun z => by rw [z, hn2] at e; cases e), ZDO sm q.1 q.2, hT7, fun r => ?_, Nat.le_trans (ZE8 _ _ _) (by omega)⟩
    rw [ZD4 hnd6, List.take_succ, hq, List.mem_append, hm6]
    have hne : ∀ r ∈ cv.take i, r.1 ≠ q.1 := fun r hr e => by
     obtain ⟨j, hj, rfl⟩ := List.getElem_of_mem hr
     rw [List.length_take] at hj
     rw [List.getElem_take] at e
     obtain ⟨z2, y2⟩ := List.getElem?_eq_some_iff.mp hq
     have : (cv.map (·.1))[j]'(by rw [List.length_map]; omega) = (cv.map (·.1))[i]'(by rw [List.length_map]; omega) := by
      rw [List.getElem_map, List.getElem_map, y2]
      exact e
     have := (List.getElem_inj hnd).mp this
     omega
    constructor
    ·rintro (h | h)
     ·exact .inl h.2
     ·exact .inr (by rw [h]; exact List.mem_cons_self)
    ·rintro (h | h)
     ·exact .inl ⟨hne r h, h⟩
     ·exact .inr (by simpa using h)
   ·rintro σ H6 ⟨⟨v2, v3, rfl⟩, K6, sm, hT6, hm6, hl6⟩
    rw [hP.length] at hT6 hm6 hl6
    rw [List.take_length] at hm6
    walk_at "w"
    exact k d1 d2 sm H6 hn1 hn2 hT6 hm6 hl6 K6
end
theorem ZDA.kpX {C : Addr} {H H' : Hp} {p d1 d2 l : Addr} {n : Int} {sm : PL} {c : Nat} {xs : List V} (h : ZDA C H p n d1 d2 sm c) (k : Kp l H H') (hl : H l = some (.lst xs)) : ZDA C H' p n d1 d2 sm c := by
 obtain ⟨dx, kvs, h1, h2, h3, h4, h5, h6⟩ := h
 exact ⟨dx, kvs, k _ _ h1 (fun z => by rw [z, hl] at h1; cases h1), k _ _ h2 (fun z => by rw [z, hl] at h2; cases h2), k _ _ h3 (fun z => by rw [z, hl] at h3; cases h3), h4, h5.kpX k hl (fun _ z => by cases z), h6⟩
theorem ZTq {p d1 d2 : Addr} {H H' : Hp} (h : Kp p H H') : Fr3 p d1 d2 H H' := fun b o e e1 _ _ => h b o e e1
theorem ZDA.keepT {C : Addr} {H H' : Hp} {p d1 d2 : Addr} {n : Int} {sm : PL} {c : Nat} (g : ZDA C H p n d1 d2 sm c) (f : Fr3 p d1 d2 H H') {b : Addr} {xs : List V} (e : H b = some (.tup xs)) : H' b = some (.tup xs) := by
 obtain ⟨dy, kws, g1, g2, g3, _⟩ := g
 exact f _ _ e (fun z => by rw [z, g1] at e; cases e) (fun z => by rw [z, g2] at e; cases e) (fun z => by rw [z, g3] at e; cases e)
theorem ZDA.keepL {C : Addr} {H H' : Hp} {p d1 d2 : Addr} {n : Int} {sm : PL} {c : Nat} (g : ZDA C H p n d1 d2 sm c) (f : Fr3 p d1 d2 H H') {b : Addr} {xs : List V} (e : H b = some (.lst xs)) : H' b = some (.lst xs) := by
 obtain ⟨dy, kws, g1, g2, g3, _⟩ := g
 exact f _ _ e (fun z => by rw [z, g1] at e; cases e) (fun z => by rw [z, g2] at e; cases e) (fun z => by rw [z, g3] at e; cases e)
theorem ZDA.nd {C : Addr} {H : Hp} {p d1 d2 : Addr} {n : Int} {sm : PL} {c : Nat} (g : ZDA C H p n d1 d2 sm c) : (sm.map (·.1)).Nodup := by
 obtain ⟨dy, kws, g1, g2, g3, g4, _⟩ := g
 exact g4
section
variable {P : Program} {w : World} {K : W.Frag} {mg : Str → Option Value} {base : Heap} {a : Ad}
local macro_rules | `(tactic| walk_at "rd") => `(tactic| first
 | with_reducible first | refine ZDa (by assumption) (‹Txt _ _ _›).ZI (‹Txt _ _ _›).ZS ZFC ?_ | refine ZDa (by assumption) (‹Txt _ _ _›).ZI (‹Txt _ _ _›).ZO ZEl ?_ | refine ZDa (by assumption) (‹Txt _ _ _›).ZI (‹Txt _ _ _›).ZP ZHX ?_)
def ZR8 (C : Addr) : Sp := fun vs H Q _ => ∃ (p d1 d2 : Addr) (n b e : Int) (sm : PL) (c : Nat), vs = [.ref p, .int b, .int e] ∧ ZDA C H p n d1 d2 sm c ∧ InT b ∧ InT e ∧
 ∀ (v : V) (o : Option (PL)) (prs : PL) (H' : Hp), ZDE H' v o → Is4 (ZDP sm b e) o → Ch e b prs (ZH2 b e) → ZDA C H' p (n + prs.length) d1 d2 sm c → Kp p H H' → Q v H'
theorem Ch.cut {e : Int} : ∀ {prs : PL} {x y : Int}, Ch e x prs y → ∀ {i : Nat} {q : Int × Int}, prs[i]? = some q → ∃ z, Ch e x (prs.take i) z ∧ (0 ≤ q.1 ∧ q.1 ≤ 40) ∧ q.2 * 2 ^ q.1.toNat = z ∧ Ch e x (prs.take (i + 1)) (z + 2 ^ q.1.toNat)
 | [], _, _, _, i, q, h => by simp at h
 | p :: r, x, y, hc, 0, q, h => by
  have : p = q := by simpa using h
  subst this
  obtain ⟨h1, h2, h3, h4, h5⟩ := hc
  exact ⟨x, rfl, h1, h2, h1, h2, h3, h4, rfl⟩
 | p :: r, x, y, hc, i + 1, q, h => by
  obtain ⟨h1, h2, h3, h4, h5⟩ := hc
  obtain ⟨z, g1, g2, g3, g4⟩ := Ch.cut h5 (i := i) (q := q) (by simpa using h)
  exact ⟨z, ⟨h1, h2, h3, h4, g1⟩, g2, g3, h1, h2, h3, h4, g4⟩
theorem Ch.fun {e : Int} : ∀ {prs : PL} {x y z : Int}, Ch e x prs y → Ch e x prs z → y = z
 | [], _, _, _, h, g => h.symm.trans g
 | p :: r, x, y, z, h, g => Ch.fun h.2.2.2.2 g.2.2.2.2
theorem ZDz : ZCv ["self", "begin", "end", "four", "parts", "stretch"] ["self", "begin", "end"] (ZCo ZGX) := ZDI
theorem ZLV (T : Txt K mg a) : ZCr P w K mg base CX0 5 a.Yp a.Yu ["self", "begin", "end"] (ZR8 a.ZF) := by
 refine T.ZAq.ok ZDz (by walk_at "l") (fun cdv A outer s H vs Q E hr h => ?_)
 ·obtain ⟨p, d1, d2, n, b, e, sm, c, rfl, hTr, hb, he, k⟩ := h
  have hu := ZD9 hr
  obtain ⟨dx, kvs, hp, h1, h2, hnd, hkf, hlen⟩ := id hTr
  refine ⟨_, QB.h (ZCm (qsS (i := 3) ZDz.nd ZEb) (ZCm (qsS (i := 4) ZDz.nd (qcS (ZLT T) hr T.ZAl T.Yw.kp T.ZAp (ZCj (qv 1) (ZCj (qv 2) ZCk)))) (ZCm (ZFl PassesOwn.never rfl (ZKo K rfl (qv 4)) (qgN (i := 5) ZDz.nd) (ZCn (qsS (i := 3) ZDz.nd (qcS (ZJ4 T) hr.m T.ZBs T.ZA4.kp T.ZBm (ZCj (qv 3) (ZCj (ZHH hu (ZDG K rfl (qv 0)) (qv 5)) ZCk)))))) (ZCm (ZN0 K rfl (qv 0) (ZC8 (ZFI K rfl) rfl T.YQ ZFG (ZCj (qv 4) ZCk))) (ZCn (ZCw (qv 3))))))), ?_⟩
  walk_at "s"
  walk_at "w"
  refine ⟨b, e, rfl, hb, he, fun t prs H1 hT1 hch hpl S1 => ?_⟩
  obtain ⟨us, g1, hP1⟩ := hT1
  have hp1 := S1 _ _ hp
  walk_at "w"
  refine ZIB (xs := us) (fun i σ H' => (∃ v v5, σ = [some (.ref p), some (.int b), some (.int e), some v, some (.ref t), v5] ∧ ∃ o z, ZDE H' v o ∧ Ch e b (prs.take i) z ∧ Is4 (ZDP sm b z) o) ∧ ZCq H1 H') ?_ ?_ ?_ ?_
  ·refine ⟨⟨_, _, rfl, none, b, .non, rfl, .inl ⟨rfl, ?_⟩⟩, ZCq.refl _⟩
   cases e0 : ZDP sm b b with
   | nil => rfl
   | cons q qs =>
    have := (ZDt.mp (show q ∈ ZDP sm b b by rw [e0]; exact List.mem_cons_self)).2
    omega
  ·rintro i σ H' _ ⟨_, S'⟩
   exact SqT.of (S' _ _ g1)
  ·rintro i x σ H2 hx ⟨⟨v, v5, rfl, o, z, hv, hz, ho⟩, S2⟩
   obtain ⟨cc, q, rfl, hq, hc⟩ := (hP1.same S2).at hx
   obtain ⟨z', hz', hq1, hq2, hz2⟩ := Ch.cut hch hq
   obtain rfl := Ch.fun hz hz'
   have S02 := S1.trans S2
   obtain ⟨l, hl⟩ : ∃ l : Nat, q.1 = (l : Int) := ⟨q.1.toNat, by omega⟩
   have hln : q.1.toNat = l := by omega
   rw [hln] at hq2 hz2
   have hp2 := S02 _ _ hp
   have h22 := S02 _ _ h2
   obtain ⟨o2, hf2, hi2⟩ := (hkf.same S02) l q.2 (by omega) trivial
   have e4 : inS sm l q.2 = ZDP sm z (z + 2 ^ l) := by unfold inS; rw [hq2]
   rw [e4] at hi2
   walk_at "w"
   refine ZHw h22 ?_
   walk_at "w"
   refine ZIk (k := kOf l q.2) h22 (by rw [hc, hl]; rfl) ?_
   refine ⟨v, _, o, o2, _, _, rfl, hv, ho, hf2, hi2, ZPz, fun v3 o3 H3 h3 g3 S3 => ?_⟩
   walk_at "w"
   refine ⟨⟨_, _, rfl, o3, z + 2 ^ l, h3, hz2, g3.congr fun r => ZM5 hz.le (by have := ZEQ l; omega) r⟩, S2.trans S3⟩
  ·rintro σ H2 ⟨⟨v, v5, rfl, o, z, hv, hz, ho⟩, S2⟩
   rw [hP1.length, List.take_length] at hz
   obtain rfl := Ch.fun hz hch
   have S02 := S1.trans S2
   have hp2 := S02 _ _ hp
   have g2 := S2 _ _ g1
   have hul : us.length = prs.length := hP1.length
   walk_at "w"
   refine ZM0 hp2 T.ZI T.ZS ZFC ?_
   walk_at "w"
   refine ⟨n, _, rfl, rfl, dx, _, hp2, by show 3 < 1000; decide, ?_⟩
   rw [ZR5]
   have f3 : (upd H2 p (.ins a.ZF dx (tfl (n + (us.length : Int)) d1 d2))) p = some (.ins a.ZF dx (tfl (n + (us.length : Int)) d1 d2)) := ZCy
   have K3 : Kp p H2 (upd H2 p (.ins a.ZF dx (tfl (n + (us.length : Int)) d1 d2))) := Kp.upd
   generalize upd H2 p (.ins a.ZF dx (tfl (n + (us.length : Int)) d1 d2)) = H3 at f3 K3
   have ntp : ∀ (xs : List V), HO.ins a.ZF dx (tfl n d1 d2) ≠ .tup xs := fun xs z => by cases z
   walk_at "w"
   refine k v o prs H3 (hv.kpX K3 hp2 ntp) (ho.congr fun r => ?_) hch ⟨dx, kvs, by rw [← hul]; exact f3, K3 _ _ (S02 _ _ h1) (fun z => by rw [z, hp] at h1; cases h1), K3 _ _ (S02 _ _ h2) (fun z => by rw [z, hp] at h2; cases h2), hnd, (hkf.same S02).kpX K3 hp2 ntp, hlen⟩ ((Kp.same S02).trans K3)
   rw [ZDt, ZDt]
   unfold ZH2
   split
   ·exact Iff.rfl
   ·constructor
    ·rintro ⟨_, g1, g2⟩
     omega
    ·rintro ⟨_, g1, g2⟩
     omega
end
section
variable {P : Program} {w : World} {K : W.Frag} {mg : Str → Option Value} {base : Heap} {a : Ad}
local macro_rules | `(tactic| walk_at "rd") => `(tactic| first
 | with_reducible first | refine ZDa (by assumption) (‹Txt _ _ _›).ZI (‹Txt _ _ _›).ZS ZFC ?_ | refine ZDa (by assumption) (‹Txt _ _ _›).ZI (‹Txt _ _ _›).ZO ZEl ?_ | refine ZDa (by assumption) (‹Txt _ _ _›).ZI (‹Txt _ _ _›).ZP ZHX ?_)
def ZQJ : Sp := fun vs H Q _ => ∃ (p : Addr) (b y m : Int), vs = [.ref p] ∧ H p = some (.tup [.int b, .int y, .int m]) ∧ 0 ≤ m ∧ m ≤ 1000 ∧ InT b ∧ InT (b + m * y) ∧ Q .non H
theorem ZDk : ZCv ["window", "begin", "wide", "many"] ["window"] (ZCo ZFa) := ZDI
theorem ZJL (T : Txt K mg a) : ZCr P w K mg base CX0 4 a.Z2 a.Z1 ["window"] ZQJ := by
 refine T.Z3.ok ZDk (by walk_at "l") (fun cdv A outer s H vs Q E hr h => ?_)
 ·obtain ⟨p, b, y, m, rfl, hp, h0, h1, hb, he, q⟩ := h
  refine ⟨_, QB.h (ZCm (ZFH (qv 0) (ZE2 (n := 3) K rfl rfl (ZDL (qgN (i := 1) ZDk.nd) (ZDL (qgN (i := 2) ZDk.nd) (ZDL (qgN (i := 3) ZDk.nd) ZEi))))) (ZCn (ZC5 (qcS (ZGD T) hr T.Zy T.ZU.kp T.Zx (ZCj (qv 1) (ZCj (ZCs ZDZ (qv 1) (ZCs ZDl (qv 3) (qv 2))) ZCk)))))), ?_⟩
  walk_at "s"
  walk_at "w"
  refine ⟨b, b + m * y, rfl, hb, he, ?_⟩
  walk_at "w"
  exact q
def ZHY (H : Hp) (q : Addr) (b y m : Int) : Prop := H q = some (.tup [.int b, .int y, .int m]) ∧ 0 < y ∧ 1 ≤ m ∧ m ≤ 100 ∧ InT b ∧ InT (b + m * y)
theorem ZHY.col {H : Hp} {q : Addr} {b y m : Int} (h : ZHY H q b y m) {k : Int} (h0 : 0 ≤ k) (h1 : k < m) : InT (b + k * y) ∧ InT (b + k * y + y) := by
 obtain ⟨_, hy, _, _, hb, he⟩ := h
 have g1 : 0 ≤ k * y := Int.mul_nonneg h0 (by omega)
 have g2 : (k + 1) * y ≤ m * y := Int.mul_le_mul_of_nonneg_right (by omega) (by omega)
 rw [Int.add_mul, Int.one_mul] at g2
 unfold InT at *
 constructor <;> constructor <;> omega
def ZQK (C : Addr) : Sp := fun vs H Q _ => ∃ (p q d1 d2 : Addr) (n b y m : Int) (sm : PL) (c : Nat), vs = [.ref p, .ref q] ∧ ZDA C H p n d1 d2 sm c ∧ ZHY H q b y m ∧
 ∀ (u : Addr) (us : List V) (fs : List (Option (PL))) (n' : Int) (H' : Hp), H' u = some (.tup us) → ZDe H' us fs → ZGm sm b y m.toNat fs → ZDA C H' p n' d1 d2 sm c → Kp p H H' → Q (.ref u) H'
theorem ZHf : ZCv ["self", "window"] ["self", "window"] (ZCo ZFM) := ZDI
theorem ZKL (T : Txt K mg a) : ZCr P w K mg base CX0 6 a.YV a.YR ["self", "window"] (ZQK a.ZF) := by
 refine T.ZAd.ok ZHf (by walk_at "l") (fun cdv A outer s H vs Q E hr h => ?_)
 ·obtain ⟨p, q, d1, d2, n, b, y, m, sm, c, rfl, hTr, hW, k⟩ := h
  obtain ⟨hq, hy, hm1, hm2, hb, he⟩ := id hW
  refine ⟨_, QB.h (ZCm (ZC5 (qcS (ZJL T) hr.m T.Jq T.Z3.kp T.Jp (ZCj (qv 1) ZCk))) (ZCn (ZCw (ZDi (ZEq K rfl) rfl T.Zr ZEo (ZCj (ZGj (N := ["self", "window"]) (sc := ZCo ZFM) (own := ["first", "behind"]) (caps := ["self"]) (ks := [0]) rfl rfl rfl ⟨rfl, by decide +kernel, by decide +kernel, by decide +kernel, by decide +kernel, rfl, by decide +kernel⟩ (ZGk K rfl (qcS (ZKK T) hr.m T.ZBl T.ZAf.kp T.ZBp (ZCj (qv 1) ZCk))) (fun _ _ _ _ _ => ZE2 (n := 2) K rfl rfl (ZDL (ZEy (i := 0) (show List.Nodup (α := Str) ["first", "behind", "self"] from by decide +kernel) rfl (by walk_at "o") (.inr rfl)) (ZDL (ZEy (i := 1) (show List.Nodup (α := Str) ["first", "behind", "self"] from by decide +kernel) rfl (by walk_at "o") (.inr rfl)) ZEi))) (fun _ _ _ _ _ => ZG3) (fun _ _ _ _ _ => ZC7 (qv 2) T.ZI T.ZAo (ZLV T) hr T.ZAs .nil ZDd (ZCj (qv 0) (ZCj (qv 1) ZCk)))) ZCk))))), ?_⟩
  walk_at "s"
  walk_at "w"
  refine ⟨q, b, y, m, rfl, hq, by omega, by omega, hb, he, ?_⟩
  walk_at "w"
  refine ⟨q, b, y, m, rfl, hq, hm1, by omega, fun l0 us0 H1 n1 f1 hP1 S1 => ?_⟩
  have hT1 := hTr.same S1
  have np1 : ∀ {b : Addr} {xs : List V}, H1 b = some (.tup xs) → b ≠ p := fun e z => by
   obtain ⟨dy, kws, g1, _⟩ := hT1
   rw [z, g1] at e; cases e
  have nl1 : l0 ≠ p := fun z => by
   obtain ⟨dy, kws, g1, _⟩ := hT1
   rw [z, g1] at f1; cases f1
  walk_at "w"
  intro l n2
  have nlp : l ≠ p := fun z => by
   obtain ⟨dy, kws, g1, _⟩ := hT1
   rw [z, g1] at n2; cases n2
  refine ZFV m.toNat (fun i σ' H' => (∃ o1 o2, σ' = [o1, o2, some (.ref p)]) ∧ Kp p H1 H' ∧ (∃ n', ZDA a.ZF H' p n' d1 d2 sm c) ∧ ∃ vs fs, H' l = some (.lst vs) ∧ ZDe H' vs fs ∧ fs.length = i ∧ ∀ (k : Nat) o, fs[k]? = some o → Is4 (ZDP sm (b + (k : Int) * y) (b + (k : Int) * y + y)) o) ?_ ?_ ?_
  ·exact ⟨⟨none, none, rfl⟩, Kp.same (ZCq.new n2), ⟨n, hT1.same (ZCq.new n2)⟩, [], [], ZCy, .nil, rfl, fun k o h => by simp at h⟩
  ·rintro σ' H2 ⟨_, K2, ⟨n', hT2⟩, vs, fs, f2, hF2, hfl, hO2⟩
   refine ⟨⟨_, SqL.of (K2 _ _ f1 nl1), by rw [hP1.length, ZH3]; exact Nat.le_refl _⟩, ?_⟩
   walk_at "w"
   refine ZFA (SqL.of f2) fun u H3 n3 f3 S3 => ?_
   exact k u vs fs n' H3 f3 (hF2.same S3) ⟨hfl, hO2⟩ (hT2.same S3) (((Kp.same S1).trans K2).then S3)
  ·rintro i σ' H2 hi ⟨⟨o1, o2, rfl⟩, K2, ⟨n', hT2⟩, vs, fs, f2, hF2, hfl, hO2⟩
   have hi2 : i < us0.length := by rw [hP1.length, ZH3]; exact hi
   have f12 := K2 _ _ f1 nl1
   refine ⟨⟨_, _, SqL.of f12, List.getElem?_eq_getElem hi2⟩, ?_⟩
   rintro x H'' ⟨rfl, hx⟩
   have hx := hx _ (SqL.of f12)
   obtain ⟨u, pr, rfl, hpr, f3⟩ := hP1.at hx
   have hpr := ZQH hpr
   subst hpr
   have f32 := K2 _ _ f3 (np1 f3)
   obtain ⟨w1, w2⟩ := hW.col (k := (i : Int)) (by omega) (by omega)
   obtain ⟨dx, kvs, hp2, _⟩ := id hT2
   walk_at "w"
   refine ZD0 ?_
   walk_at "w"
   refine ZC0 hp2 ZEt ?_
   walk_at "w"
   refine ⟨p, d1, d2, n', _, _, sm, c, rfl, hT2, w1, w2, fun v o3 prs H3 h3 g3 _ hT3 K3 => ?_⟩
   have fl3 := K3 _ _ f2 nlp
   have hF3 : ZDe H3 vs fs := hF2.mapP fun _ _ d => d.kpX K3 hp2 (fun _ z => by cases z)
   refine ⟨vs, fl3, ?_, ⟨_, _, rfl⟩, ?_, ⟨_, hT3.kpX Kp.upd fl3⟩, vs ++ [v], fs ++ [o3], ZCy, (hF3.snoc h3).mapP fun _ _ d => d.kpL Kp.upd fl3, by simp [hfl], ?_⟩
   ·rw [hF2.len, hfl]
    exact Nat.lt_of_lt_of_le (show i < 100 by omega) (by decide)
   ·intro b' o' e nb
    rw [ZC3 (fun z => by rw [z, n2] at e; cases e)]
    exact (K2.trans K3) b' o' e nb
   ·intro k' o' h'
    rw [List.getElem?_append] at h'
    split at h'
    ·exact hO2 k' o' h'
    ·have : k' = i := by
      have := (List.getElem?_eq_some_iff.mp h').1
      simp at this
      omega
     subst this
     rw [hfl, Nat.sub_self] at h'
     have : o3 = o' := by simpa using h'
     subst this
     exact g3
end
theorem ZQL {m : PL} (hn : (m.map (·.1)).Nodup) : ∀ q, q ∈ ZEX m ↔ q ∈ m := by
 have main : ∀ i : Nat, i ≤ m.length → ∀ q, q ∈ ZEX (m.take i) ↔ q ∈ m.take i := by
  intro i
  induction i with
  | zero => intro _ q; rw [List.take_zero]; exact Iff.rfl
  | succ i ih =>
   intro hi q
   have hp : m[i]? = some m[i] := List.getElem?_eq_getElem (by omega)
   have e : m.take (i + 1) = m.take i ++ [m[i]] := by rw [List.take_succ, hp]; rfl
   rw [e, ZJ2, ZD4 (ZHC _), ih (by omega), List.mem_append, List.mem_singleton]
   have hne : ∀ r ∈ m.take i, r.1 ≠ m[i].1 := fun r hr z => by
    obtain ⟨j, hj, rfl⟩ := List.getElem_of_mem hr
    rw [List.length_take] at hj
    rw [List.getElem_take] at z
    have : (m.map (·.1))[j]'(by rw [List.length_map]; omega) = (m.map (·.1))[i]'(by rw [List.length_map]; omega) := by
     rw [List.getElem_map, List.getElem_map]
     exact z
    have := (List.getElem_inj hn).mp this
    omega
   constructor
   ·rintro (h | h)
    ·exact .inl h.2
    ·exact .inr h
   ·rintro (h | h)
    ·exact .inl ⟨hne q h, h⟩
    ·exact .inr h
 intro q
 have := main m.length (Nat.le_refl _) q
 rwa [List.take_length] at this
section
variable {P : Program} {w : World} {K : W.Frag} {mg : Str → Option Value} {base : Heap} {a : Ad}
local macro_rules | `(tactic| walk_at "rd") => `(tactic| first
 | with_reducible first | refine ZDa (by assumption) (‹Txt _ _ _›).ZI (‹Txt _ _ _›).ZS ZFC ?_ | refine ZDa (by assumption) (‹Txt _ _ _›).ZI (‹Txt _ _ _›).ZO ZEl ?_ | refine ZDa (by assumption) (‹Txt _ _ _›).ZI (‹Txt _ _ _›).ZP ZHX ?_)
def ZR9 (C : Addr) : Sp := fun vs H Q _ => ∃ (p d1 d2 : Addr) (n : Int) (sm : PL) (c : Nat), vs = [.ref p] ∧ ZDA C H p n d1 d2 sm c ∧ sm.length < 64 ∧
 ∀ (t : Addr) (cv : PL) (H' : Hp), PrT H' t cv → Asc cv → (∀ q, q ∈ cv ↔ q ∈ sm) → ZCq H H' → Q (.ref t) H'
theorem ZLW : ZCv ["self"] ["self"] (ZCo ZGY) := ZDI
theorem ZLX (T : Txt K mg a) : ZCr P w K mg base CX0 2 a.Jm a.Jf ["self"] (ZR9 a.ZF) := by
 refine T.ZBw.ok ZLW (by walk_at "l") (fun cdv A outer s H vs Q E hr h => ?_)
 ·obtain ⟨p, d1, d2, n, sm, c, rfl, hTr, hl, k⟩ := h
  obtain ⟨dx, kvs, hp, h1, h2, hnd, hkf, hlen⟩ := id hTr
  refine ⟨_, QB.h (ZCn (ZCw (qcS (ZLv T) hr T.ZCE T.ZBK.kp T.ZCI (ZCj (ZN6 rfl rfl T.ZBo (ZDG K rfl (qv 0))) ZCk)))), ?_⟩
  walk_at "s"
  walk_at "w"
  refine ZN7 h1 (by omega) fun l H1 n1 hL1 S1 => ?_
  obtain ⟨vs, f1, hP1⟩ := hL1
  walk_at "w"
  refine ⟨true, l, vs, sm, rfl, f1, hP1, hl, fun t cv H2 hT2 hC _ S2 => ?_⟩
  refine k t cv H2 hT2 hC.1 (fun q => ?_) (S1.trans S2)
  obtain ⟨x, y⟩ := q
  rw [hC.2, ZD3 (ZHC _), ZQL hnd]
end
section
variable {P : Program} {w : World} {K : W.Frag} {mg : Str → Option Value} {base : Heap} {a : Ad}
def ZSA (C D : Addr) : Sp := fun vs H _ E => ∃ (p d1 d2 : Addr) (n : Int) (b e : V) (sm : PL) (c : Nat), vs = [.ref p, b, e] ∧ ZDA C H p n d1 d2 sm c ∧ ZNB H b e ∧ E (.ref D) none H
theorem ZKM (T : Txt K mg a) : ZCr P w K mg base (CX1 P w) 5 a.Yp a.Yu ["self", "begin", "end"] (ZSA a.ZF a.ZA) := by
 refine T.ZAq.okx ZDz (by walk_at "l") (fun cdv A outer s H vs Q E hr h => ?_)
 ·obtain ⟨p, d1, d2, n, b, e, sm, c, rfl, hTr, hn, q⟩ := h
  refine ⟨_, QB.h (ZCm (qsS (i := 3) ZDz.nd ZEb) (ZCm (qsS (i := 4) ZDz.nd (ZE7 (ZKI T) hr rfl T.ZAl T.Yw.kp T.ZAp .nil ZDx (ZCj (qv 1) (ZCj (qv 2) ZCk)))) (ZCm ZDF (ZCm ZDF (ZCn ZDF))))), ?_⟩
  walk_at "s"
  walk_at "w"
  exact ⟨b, e, rfl, hn, q⟩
def ZTr (D : Addr) : Sp := fun vs H _ E => ∃ (p : Addr) (b y m : Int), vs = [.ref p] ∧ H p = some (.tup [.int b, .int y, .int m]) ∧ 0 ≤ m ∧ m ≤ 1000 ∧ ¬ (InT b ∧ InT (b + m * y)) ∧ E (.ref D) none H
theorem ZIt (T : Txt K mg a) : ZCr P w K mg base (CX1 P w) 4 a.Z2 a.Z1 ["window"] (ZTr a.ZA) := by
 refine T.Z3.okx ZDk (by walk_at "l") (fun cdv A outer s H vs Q E hr h => ?_)
 ·obtain ⟨p, b, y, m, rfl, hp, h0, h1, hn, q⟩ := h
  refine ⟨_, QB.h (ZCm (ZFH (qv 0) (ZE2 (n := 3) K rfl rfl (ZDL (qgN (i := 1) ZDk.nd) (ZDL (qgN (i := 2) ZDk.nd) (ZDL (qgN (i := 3) ZDk.nd) ZEi))))) (ZCn (ZC5 (ZE7 (ZFt T) hr rfl T.Zy T.ZU.kp T.Zx .nil ZDx (ZCj (qv 1) (ZCj (ZCs ZDZ (qv 1) (ZCs ZDl (qv 3) (qv 2))) ZCk)))))), ?_⟩
  walk_at "s"
  walk_at "w"
  exact ⟨_, _, rfl, ZQG hn, q⟩
def ZQM (C D : Addr) : Sp := fun vs H _ E => ∃ (p q d1 d2 : Addr) (n b y m : Int) (sm : PL) (c : Nat), vs = [.ref p, .ref q] ∧ ZDA C H p n d1 d2 sm c ∧ H q = some (.tup [.int b, .int y, .int m]) ∧ 0 ≤ m ∧ m ≤ 1000 ∧ ¬ (InT b ∧ InT (b + m * y)) ∧ E (.ref D) none H
theorem ZJf (T : Txt K mg a) : ZCr P w K mg base (CX1 P w) 6 a.YV a.YR ["self", "window"] (ZQM a.ZF a.ZA) := by
 refine T.ZAd.okx ZHf (by walk_at "l") (fun cdv A outer s H vs Q E hr h => ?_)
 ·obtain ⟨p, q, d1, d2, n, b, y, m, sm, c, rfl, hTr, hq, h0, h1, hn, k⟩ := h
  refine ⟨_, QB.h (ZCm (ZC5 (ZE7 (ZIt T) hr.m rfl T.Jq T.Z3.kp T.Jp .nil ZDx (ZCj (qv 1) ZCk))) (ZCn ZDF)), ?_⟩
  walk_at "s"
  walk_at "w"
  exact ⟨q, b, y, m, rfl, hq, h0, h1, hn, k⟩
def ZOd (C : Addr) : Sp := fun vs H _ E => ∃ t : Int, vs = [.int t] ∧ ¬ Tm t ∧ E (.ref C) none H
theorem ZGn (T : Txt K mg a) : ZCr P w K mg base (CX1 P w) 3 a.Ya a.YT ["t"] (ZOd a.ZA) := by
 refine T.Za.okx ZHc (by walk_at "l") (fun cdv A outer s H vs Q E hr h => ?_)
 ·obtain ⟨t, rfl, hn, q⟩ := h
  unfold Tm at hn
  refine ⟨_, QB.h (ZCn (ZDS (QW.pt (ZE6 (ZD6 (ZEO (qcS (ZES T) hr T.Zn T.ZZ.kp T.Zo (ZCj (qv 0) ZCk)))) (ZEc (ZC2 (ZEI) (qv 0) (ZEE (v := .int 1099511627776) rfl T.Yr ⟨_, rfl⟩) (ZC4 _))))) (ZCn (ZHL T.Z0 rfl T.Zc (ZCj ZGh ZCk))) ZC6)), ?_⟩
  walk_at "s"
  walk_at "w"
  by_cases hb : InT t
  ·refine ⟨_, rfl, .inl ⟨t, rfl, hb, ?_⟩⟩
   unfold InT at hb
   walk_at "w"
   refine ZDu ?_
   walk_at "w"
   rw [ZEJ]
   refine ZDU (fun h => ?_) (fun h => ?_)
   ·walk_at "w"
    exact ZEY (by decide) q
   ·exfalso
    omega
  ·refine ⟨_, rfl, .inr ⟨.inl ⟨t, rfl, hb⟩, ?_⟩⟩
   walk_at "w"
   refine ZD0 ?_
   walk_at "w"
   exact ZEY (by decide) q
def ZOe (C D : Addr) : Sp := fun vs H _ E => ∃ (p d1 d2 : Addr) (n t : Int) (h : V) (sm : PL) (c : Nat), vs = [.ref p, .int t, h] ∧ ZDA C H p n d1 d2 sm c ∧ ¬ Tm t ∧ E (.ref D) none H
theorem ZLY (T : Txt K mg a) : ZCr P w K mg base (CX1 P w) 4 a.YW a.YZ ["self", "t", "h"] (ZOe a.ZF a.ZA) := by
 refine T.ZBI.okx ZIR (by walk_at "l") (fun cdv A outer s H vs Q E hr h => ?_)
 ·obtain ⟨p, d1, d2, n, t, x, sm, c, rfl, hTr, hn, q⟩ := h
  refine ⟨_, QB.h (ZCm (ZC5 (ZE7 (ZGn T) hr rfl T.YY T.Za.kp T.YU .nil ZDx (ZCj (qv 1) ZCk))) (ZCm ZDF (ZCn ZDF))), ?_⟩
  walk_at "s"
  walk_at "w"
  exact ⟨t, rfl, hn, q⟩
theorem ZLZ (T : Txt K mg a) : ZCr P w K mg base (CX1 P w) 4 a.YW a.YZ ["self", "t", "h"] (fun vs H Q E => ZOc a.ZF vs H Q E ∨ ZOe a.ZF a.ZA vs H Q E) := (ZGb T).lift.or (ZLY T)
local macro_rules | `(tactic| walk_at "rd") => `(tactic| first
 | with_reducible refine ZDa (by assumption) (‹Txt _ _ _›).ZI (‹Txt _ _ _›).ZS ZFC ?_)
def ZSB (C D : Addr) : Sp := fun vs H _ E => ∃ (p dx t : Addr) (cv : PL), vs = [.ref p, .ref t] ∧ H p = some (.ins C dx []) ∧ PrT H t cv ∧ (cv.map (·.1)).Nodup ∧ (∃ q ∈ cv, ¬ Tm q.1) ∧ cv.length ≤ 100 ∧ ∀ H', Kp p H H' → E (.ref D) none H'
theorem ZIK (T : Txt K mg a) : ZCr P w K mg base (CX1 P w) 5 a.Zw a.ZT ["self", "curve"] (ZSB a.ZF a.ZA) := by
 refine T.Jb.okx ZDv (by walk_at "l") (fun cdv A outer s H vs Q E hr h => ?_)
 ·obtain ⟨p, dx, t, cv, rfl, hp, hT, hnd, hbad, hlen, k⟩ := h
  refine ⟨_, QB.h (ZCm (ZEr K rfl (qv 0) ZCl) (ZCm (ZEr K rfl (qv 0) ZG8) (ZCm (ZEr K rfl (qv 0) ZK8) (ZCn (ZDS (ZC2 (ZMD) (qv 1) ZEb (ZC4 _)) (ZCn (ZFl PassesOwn.leaving rfl (ZKo K rfl (qv 1)) (ZE2 (n := 2) K rfl rfl (ZDL (qgN (i := 2) ZDv.nd) (ZDL (qgN (i := 3) ZDv.nd) ZEi))) (ZCn (ZC5 (ZC7 (qv 0) T.ZI T.ZAJ (ZLZ T) hr T.ZAF .nil ZDx (ZCj (qv 2) (ZCj (qv 3) ZCk))))))) ZC6))))), ?_⟩
  walk_at "s"
  walk_at "w"
  refine ZEj hp T.ZI T.ZS (by show 0 < 1000; decide) fun H1 f1 K1 => ?_
  walk_at "w"
  refine ZHB fun d1 H2 n2 f2 S2 => ?_
  have hp2 := S2 _ _ f1
  have nd1 : d1 ≠ p := fun z => by rw [z, f1] at n2; cases n2
  walk_at "w"
  refine ZEj hp2 T.ZI T.ZO (by show 1 < 1000; decide) fun H3 f3 K3 => ?_
  have f23 := K3 _ _ f2 nd1
  walk_at "w"
  refine ZK9 fun d2 H4 n4 f4 S4 => ?_
  have hp4 := S4 _ _ f3
  have nd2 : d2 ≠ p := fun z => by rw [z, f3] at n4; cases n4
  walk_at "w"
  refine ZEj hp4 T.ZI T.ZP (by show 2 < 1000; decide) fun H5 f5 K5 => ?_
  have f5 : H5 p = some (.ins a.ZF dx (tfl 0 d1 d2)) := by rw [f5, ZMQ]
  have K05 : Kp p H H5 := (((K1.then S2).trans K3).then S4).trans K5
  have f25 := K5 _ _ (S4 _ _ f23) nd1
  have f45 := K5 _ _ f4 nd2
  have hn1 : H d1 = none := by
   cases e : H d1 with
   | none => rfl
   | some o =>
    have := K1 _ _ e nd1
    rw [n2] at this
    cases this
  have hn2 : H d2 = none := by
   cases e : H d2 with
   | none => rfl
   | some o =>
    have := ((K1.then S2).trans K3) _ _ e nd2
    rw [n4] at this
    cases this
  have hT5 : ZDA a.ZF H5 p 0 d1 d2 [] 0 := ⟨dx, [], f5, f25, f45, List.nodup_nil, fun l s hl _ => ⟨none, .non, .inl ⟨rfl, rfl⟩⟩, Nat.le_refl _⟩
  walk_at "w"
  ·refine ZG1 (fun _ => ?_) (fun h => by cases h)
   obtain ⟨us, g, hP⟩ := hT
   have ntp : ∀ {b : Addr} {xs : List V}, H b = some (.tup xs) → b ≠ p := fun e z => by rw [z, hp] at e; cases e
   have g5 := K05 _ _ g (ntp g)
   walk_at "w"
   refine ZIB (xs := us) (fun i σ H' => (∃ v2 v3, σ = [some (.ref p), some (.ref t), v2, v3]) ∧ Kp p H H' ∧ (∀ q ∈ cv.take i, Tm q.1) ∧ ∃ sm, ZDA a.ZF H' p 0 d1 d2 sm i ∧ sm.length ≤ i) ?_ ?_ ?_ ?_
   ·exact ⟨⟨_, _, rfl⟩, K05, (fun q hq => by rw [List.take_zero] at hq; cases hq), [], hT5, Nat.le_refl _⟩
   ·rintro i σ H6 _ ⟨_, K6, _⟩
    exact SqT.of (K6 _ _ g (ntp g))
   ·rintro i x σ H6 hx ⟨⟨v2, v3, rfl⟩, K6, hm6, sm, hT6, hl6⟩
    obtain ⟨cc, q, rfl, hq, hc⟩ := hP.at hx
    have hc6 := K6 _ _ hc (ntp hc)
    obtain ⟨dx6, kv6, hp6, h16, h26, hnd6, hkf6, hlen6⟩ := id hT6
    have hi : i < cv.length := (List.getElem?_eq_some_iff.mp hq).1
    walk_at "w"
    refine ZC0 hp6 ZEt ?_
    walk_at "w"
    by_cases hq6 : Tm q.1
    ·refine .inl ⟨p, d1, d2, 0, q.1, q.2, sm, i, rfl, hT6, hq6, by omega, by omega, fun H7 hT7 Fr7 => ?_⟩
     walk_at "w"
     refine ⟨⟨_, _, rfl⟩, fun b o e nb => Fr7 _ _ (K6 _ _ e nb) nb (fun z => by rw [z, hn1] at e; cases e) (fun z => by rw [z, hn2] at e; cases e), fun r hr => ?_, ZDO sm q.1 q.2, hT7, Nat.le_trans (ZE8 _ _ _) (by omega)⟩
     rw [List.take_succ, hq, List.mem_append] at hr
     rcases hr with hr | hr
     ·exact hm6 r hr
     ·have : r = q := by simpa using hr
      rw [this]; exact hq6
    ·exact .inr ⟨p, d1, d2, 0, q.1, .int q.2, sm, i, rfl, hT6, hq6, k H6 K6⟩
   ·rintro σ H6 ⟨⟨v2, v3, rfl⟩, K6, hm6, sm, hT6, hl6⟩
    rw [hP.length, List.take_length] at hm6
    obtain ⟨q, hq, hb⟩ := hbad
    exact absurd (hm6 q hq) hb
end
def sfl (tr dd dn wt : Addr) : List (Str × V) := [("tree", V.ref tr), ("deeds", V.ref dd), ("done", V.ref dn), ("watches", V.ref wt)]
section
variable {tr dd dn wt : Addr}
theorem sg1 : (("deeds" : Str) == "tree") = false := by decide +kernel
theorem sg2 : (("done" : Str) == "tree") = false := by decide +kernel
theorem sg3 : (("done" : Str) == "deeds") = false := by decide +kernel
theorem sg4 : (("watches" : Str) == "tree") = false := by decide +kernel
theorem sg5 : (("watches" : Str) == "deeds") = false := by decide +kernel
theorem sg6 : (("watches" : Str) == "done") = false := by decide +kernel
theorem ZLa : (sfl tr dd dn wt).lookup ("tree" : Str) = some (.ref tr) := by
 unfold sfl
 rw [List.lookup_cons, beq_self_eq_true]
theorem ZJ5 : (sfl tr dd dn wt).lookup ("deeds" : Str) = some (.ref dd) := by
 unfold sfl
 rw [List.lookup_cons, sg1, List.lookup_cons, beq_self_eq_true]
theorem ZLb : (sfl tr dd dn wt).lookup ("done" : Str) = some (.ref dn) := by
 unfold sfl
 rw [List.lookup_cons, sg2, List.lookup_cons, sg3, List.lookup_cons, beq_self_eq_true]
theorem ZGc : (sfl tr dd dn wt).lookup ("watches" : Str) = some (.ref wt) := by
 unfold sfl
 rw [List.lookup_cons, sg4, List.lookup_cons, sg5, List.lookup_cons, sg6, List.lookup_cons, beq_self_eq_true]
theorem ZDT {m : Str} (h1 : (m == ("tree" : Str)) = false := by decide +kernel) (h2 : (m == ("deeds" : Str)) = false := by decide +kernel) (h3 : (m == ("done" : Str)) = false := by decide +kernel) (h4 : (m == ("watches" : Str)) = false := by decide +kernel) : (sfl tr dd dn wt).lookup m = none := by
 unfold sfl
 rw [List.lookup_cons, h1, List.lookup_cons, h2, List.lookup_cons, h3, List.lookup_cons, h4]
 rfl
theorem ZSC : ZDQ "watches" (.ref wt) (ZDQ "done" (.ref dn) (ZDQ "deeds" (.ref dd) (ZDQ "tree" (.ref tr) []))) = sfl tr dd dn wt := by
 have e1 : ¬ ("tree" : Str) = "deeds" := by decide +kernel
 have e2 : ¬ ("tree" : Str) = "done" := by decide +kernel
 have e3 : ¬ ("deeds" : Str) = "done" := by decide +kernel
 have e4 : ¬ ("tree" : Str) = "watches" := by decide +kernel
 have e5 : ¬ ("deeds" : Str) = "watches" := by decide +kernel
 have e6 : ¬ ("done" : Str) = "watches" := by decide +kernel
 show ZDQ "watches" (.ref wt) (ZDQ "done" (.ref dn) (ZDQ "deeds" (.ref dd) [(("tree" : Str), V.ref tr)])) = _
 rw [show ZDQ "deeds" (.ref dd) [(("tree" : Str), V.ref tr)] = (if ("tree" : Str) = "deeds" then _ else (("tree" : Str), V.ref tr) :: ZDQ "deeds" (.ref dd) []) from rfl, if_neg e1]
 rw [show ZDQ "done" (.ref dn) ((("tree" : Str), V.ref tr) :: ZDQ "deeds" (.ref dd) []) = (if ("tree" : Str) = "done" then _ else (("tree" : Str), V.ref tr) :: (if ("deeds" : Str) = "done" then _ else (("deeds" : Str), V.ref dd) :: ZDQ "done" (.ref dn) [])) from rfl, if_neg e2, if_neg e3]
 show (if ("tree" : Str) = "watches" then _ else (("tree" : Str), V.ref tr) :: (if ("deeds" : Str) = "watches" then _ else (("deeds" : Str), V.ref dd) :: (if ("done" : Str) = "watches" then _ else (("done" : Str), V.ref dn) :: ZDQ "watches" (.ref wt) []))) = _
 rw [if_neg e4, if_neg e5, if_neg e6]
 rfl
theorem ZTs {n : Int} {d1 d2 : Addr} : sfl tr dd dn wt ≠ tfl n d1 d2 := fun h => by
 have := congrArg List.length h
 simp [sfl, tfl] at this
end
structure SA where
 p : Addr
 tr : Addr
 d1 : Addr
 d2 : Addr
 dd : Addr
 dn : Addr
 wt : Addr
def SA.ls (S : SA) : List Addr := [S.dd, S.dn, S.wt]
def SA.own (S : SA) : List Addr := [S.tr, S.d1, S.d2, S.dd, S.dn, S.wt]
def ZHZ : Option Int → V
 | none => .non
 | some i => .int i
theorem ZQN (o : Option Int) : (o.map V.int).getD .non = ZHZ o := by cases o <;> rfl
def ZDw (H : Hp) (vs : List V) (ds : List (Int × Option Int)) : Prop := Paired (fun v (q : Int × Option Int) => ∃ b, v = .ref b ∧ H b = some (.tup [.int q.1, ZHZ q.2])) vs ds
theorem ZDw.tups {H H' : Hp} {vs : List V} {ds : List (Int × Option Int)} (h : ZDw H vs ds) (t : ∀ b xs, H b = some (.tup xs) → H' b = some (.tup xs)) : ZDw H' vs ds := Paired.mapP h fun _ _ ⟨b, e, z⟩ => ⟨b, e, t _ _ z⟩
theorem ZDw.snoc {H : Hp} : ∀ {vs : List V} {ds : List (Int × Option Int)}, ZDw H vs ds → ∀ {b : Addr} {q : Int × Option Int}, H b = some (.tup [.int q.1, ZHZ q.2]) → ZDw H (vs ++ [.ref b]) (ds ++ [q])
 | _, _, .nil, _, _, e => .cons ⟨_, rfl, e⟩ .nil
 | _, _, .cons h t, _, _, e => .cons h (ZDw.snoc t e)
theorem ZDw.unsnoc {H : Hp} {q : Int × Option Int} : ∀ {ds : List (Int × Option Int)} {vs : List V}, ZDw H vs (ds ++ [q]) → ∃ us b, vs = us ++ [.ref b] ∧ ZDw H us ds ∧ H b = some (.tup [.int q.1, ZHZ q.2])
 | [], _, h => by
  cases h with
  | cons h t =>
   cases t
   obtain ⟨b, rfl, e⟩ := h
   exact ⟨[], b, rfl, .nil, e⟩
 | d :: ds, _, h => by
  cases h with
  | cons h t =>
   obtain ⟨us, b, e1, e2, e3⟩ := ZDw.unsnoc t
   subst e1
   exact ⟨_ :: us, b, rfl, .cons h e2, e3⟩
theorem ZDw.len {H : Hp} {vs : List V} {ds : List (Int × Option Int)} (h : ZDw H vs ds) : vs.length = ds.length := Paired.length h
def ZCp (a : Ad) (H : Hp) (S : SA) (n : Int) (sm : PL) (c : Nat) (ds : List (Int × Option Int)) (ts : List Int) (ws : List V) : Prop :=
 ∃ dx vs, H S.p = some (.ins a.ZG dx (sfl S.tr S.dd S.dn S.wt)) ∧ ZDA a.ZF H S.tr n S.d1 S.d2 sm c ∧ H S.dd = some (.lst vs) ∧ ZDw H vs ds ∧ H S.dn = some (.lst (ts.map V.int)) ∧ H S.wt = some (.lst ws) ∧ S.dd ≠ S.dn ∧ S.dd ≠ S.wt ∧ S.dn ≠ S.wt
def FrS (S : SA) (H H' : Hp) : Prop := ∀ b o, H b = some o → b ∉ S.own → H' b = some o
theorem FrS.trans {S : SA} {H H1 H2 : Hp} (h : FrS S H H1) (g : FrS S H1 H2) : FrS S H H2 := fun b o e n => g b o (h b o e n) n
theorem FrS.same {S : SA} {H H' : Hp} (h : ZCq H H') : FrS S H H' := fun b o e _ => h b o e
theorem FrS.kp {S : SA} {H H' : Hp} {q : Addr} (h : Kp q H H') (m : q ∈ S.own) : FrS S H H' := fun b o e n => h b o e fun z => n (z ▸ m)
theorem FrS.fr3 {S : SA} {H H' : Hp} (h : Fr3 S.tr S.d1 S.d2 H H') : FrS S H H' := fun b o e n => h b o e (fun z => n (by simp [SA.own, z])) (fun z => n (by simp [SA.own, z])) (fun z => n (by simp [SA.own, z]))
section
variable {a : Ad} {H H' : Hp} {S : SA} {n : Int} {sm : PL} {c : Nat} {ds : List (Int × Option Int)} {ts : List Int} {ws : List V}
theorem ZCp.tree (h : ZCp a H S n sm c ds ts ws) : ZDA a.ZF H S.tr n S.d1 S.d2 sm c := let ⟨_, _, _, h, _⟩ := h; h
theorem ZCp.nd (h : ZCp a H S n sm c ds ts ws) : (sm.map (·.1)).Nodup := h.tree.nd
theorem ZCp.same (h : ZCp a H S n sm c ds ts ws) (s : ZCq H H') : ZCp a H' S n sm c ds ts ws := by
 obtain ⟨dx, vs, h1, h2, h3, h4, h5, h6, h7⟩ := h
 exact ⟨dx, vs, s _ _ h1, h2.same s, s _ _ h3, h4.tups fun b xs e => s _ _ e, s _ _ h5, s _ _ h6, h7⟩
theorem ZCp.nown (h : ZCp a H S n sm c ds ts ws) {b : Addr} {o : HO} (e : H b = some o) (h1 : ∀ C dx fs, o ≠ .ins C dx fs) (h2 : (∃ m, o = .dK m) → b ≠ S.d1) (h3 : ∀ m, o ≠ .dT m) (h4 : (∃ m, o = .lst m) → b ∉ S.ls) : b ∉ S.own := by
 obtain ⟨dx, vs, g1, ⟨dy, kvs, t1, t2, t3, _⟩, g3, g4, g5, g6, _⟩ := h
 intro z
 simp only [SA.own, List.mem_cons, List.not_mem_nil, or_false] at z
 rcases z with z | z | z | z | z | z
 ·rw [z, t1] at e; exact h1 _ _ _ (Option.some.inj e).symm
 ·exact h2 ⟨_, (by rw [z, t2] at e; exact (Option.some.inj e).symm)⟩ z
 ·rw [z, t3] at e; exact h3 _ (Option.some.inj e).symm
 ·exact h4 ⟨_, (by rw [z, g3] at e; exact (Option.some.inj e).symm)⟩ (by simp [SA.ls, z])
 ·exact h4 ⟨_, (by rw [z, g5] at e; exact (Option.some.inj e).symm)⟩ (by simp [SA.ls, z])
 ·exact h4 ⟨_, (by rw [z, g6] at e; exact (Option.some.inj e).symm)⟩ (by simp [SA.ls, z])
theorem ZCp.keepT (h : ZCp a H S n sm c ds ts ws) (f : FrS S H H') {b : Addr} {xs : List V} (e : H b = some (.tup xs)) : H' b = some (.tup xs) :=
 f _ _ e (h.nown e (fun _ _ _ z => by cases z) (fun ⟨_, z⟩ => by cases z) (fun _ z => by cases z) (fun ⟨_, z⟩ => by cases z))
theorem ZCp.kpL (h : ZCp a H S n sm c ds ts ws) {q : Addr} {xs : List V} (k : Kp q H H') (hq : H q = some (.lst xs)) (nq : q ∉ S.ls) : ZCp a H' S n sm c ds ts ws := by
 obtain ⟨dx, vs, h1, h2, h3, h4, h5, h6, h7⟩ := h
 simp only [SA.ls, List.mem_cons, List.not_mem_nil, or_false, not_or] at nq
 exact ⟨dx, vs, k _ _ h1 (fun z => by rw [z, hq] at h1; cases h1), h2.kpX k hq, k _ _ h3 (Ne.symm nq.1), h4.tups (fun b xs e => k _ _ e (fun z => by rw [z, hq] at e; cases e)), k _ _ h5 (Ne.symm nq.2.1), k _ _ h6 (Ne.symm nq.2.2), h7⟩
theorem ZCp.pot (h : ZCp a H S n sm c ds ts ws) {q : Addr} (hp : Pot H q) (k : Kp q H H') (nq : q ∉ S.ls) : ZCp a H' S n sm c ds ts ws := by
 obtain ⟨u, v, e, _⟩ := hp
 exact h.kpL k e nq
theorem ZCp.kpD (h : ZCp a H S n sm c ds ts ws) {q : Addr} {m : List (Key × V)} (k : Kp q H H') (hq : H q = some (.dK m)) (nq : q ≠ S.d1) : ZCp a H' S n sm c ds ts ws := by
 obtain ⟨dx, vs, h1, ⟨dy, kvs, t1, t2, t3, t4, t5, t6⟩, h3, h4, h5, h6, h7⟩ := h
 refine ⟨dx, vs, k _ _ h1 (fun z => by rw [z, hq] at h1; cases h1), ⟨dy, kvs, k _ _ t1 (fun z => by rw [z, hq] at t1; cases t1), k _ _ t2 (Ne.symm nq), k _ _ t3 (fun z => by rw [z, hq] at t3; cases t3), t4, t5.kpX k hq (fun _ z => by cases z), t6⟩, k _ _ h3 (fun z => by rw [z, hq] at h3; cases h3), h4.tups (fun b xs e => k _ _ e (fun z => by rw [z, hq] at e; cases e)), k _ _ h5 (fun z => by rw [z, hq] at h5; cases h5), k _ _ h6 (fun z => by rw [z, hq] at h6; cases h6), h7⟩
theorem ZCp.fresh (h : ZCp a H S n sm c ds ts ws) {q : Addr} (hq : H q = none) : q ∉ S.ls ∧ q ≠ S.d1 := by
 obtain ⟨dx, vs, h1, ⟨dy, kvs, t1, t2, t3, t4, t5, t6⟩, h3, h4, h5, h6, h7⟩ := h
 refine ⟨fun z => ?_, fun z => by rw [z, t2] at hq; cases hq⟩
 simp only [SA.ls, List.mem_cons, List.not_mem_nil, or_false] at z
 rcases z with z | z | z
 ·rw [z, h3] at hq; cases hq
 ·rw [z, h5] at hq; cases hq
 ·rw [z, h6] at hq; cases hq
theorem ZCp.fr3 (h : ZCp a H S n sm c ds ts ws) {n' : Int} {sm' : PL} {c' : Nat} (f : Fr3 S.tr S.d1 S.d2 H H') (t : ZDA a.ZF H' S.tr n' S.d1 S.d2 sm' c') : ZCp a H' S n' sm' c' ds ts ws := by
 obtain ⟨dx, vs, h1, h2, h3, h4, h5, h6, h7⟩ := h
 refine ⟨dx, vs, ?_, t, h2.keepL f h3, h4.tups (fun b xs e => h2.keepT f e), h2.keepL f h5, h2.keepL f h6, h7⟩
 obtain ⟨dy, kvs, t1, t2, t3, _⟩ := h2
 exact f _ _ h1 (fun z => by rw [z, t1] at h1; injection h1 with h1; injection h1 with _ _ h3; exact ZTs h3.symm) (fun z => by rw [z, t2] at h1; cases h1) (fun z => by rw [z, t3] at h1; cases h1)
theorem ZCp.kpDone (h : ZCp a H S n sm c ds ts ws) {ts' : List Int} (k : Kp S.dn H H') (f : H' S.dn = some (.lst (ts'.map V.int))) : ZCp a H' S n sm c ds ts' ws := by
 obtain ⟨dx, vs, h1, h2, h3, h4, h5, h6, h7, h8, h9⟩ := h
 exact ⟨dx, vs, k _ _ h1 (fun z => by rw [z, h5] at h1; cases h1), h2.kpX k h5, k _ _ h3 h7, h4.tups (fun b xs e => k _ _ e (fun z => by rw [z, h5] at e; cases e)), f, k _ _ h6 (Ne.symm h9), h7, h8, h9⟩
theorem ZCp.kpDeeds (h : ZCp a H S n sm c ds ts ws) {ds' : List (Int × Option Int)} {vs' : List V} (k : Kp S.dd H H') (f : H' S.dd = some (.lst vs')) (g : ZDw H' vs' ds') : ZCp a H' S n sm c ds' ts ws := by
 obtain ⟨dx, vs, h1, h2, h3, h4, h5, h6, h7, h8, h9⟩ := h
 exact ⟨dx, vs', k _ _ h1 (fun z => by rw [z, h3] at h1; cases h1), h2.kpX k h3, f, g, k _ _ h5 (Ne.symm h7), k _ _ h6 (Ne.symm h8), h7, h8, h9⟩
end
def ZFP (m : PL) (t : Int) : Option Int → PL
 | none => ZEK m t
 | some h => ZDO m t h
theorem ZND (m : PL) (t : Int) (o : Option Int) : (ZFP m t o).length ≤ m.length + 1 := by
 cases o with
 | none => exact Nat.le_succ_of_le (ZOI m t)
 | some h => exact ZE8 m t h
section
variable {P : Program} {w : World} {K : W.Frag} {mg : Str → Option Value} {base : Heap} {a : Ad}
local macro_rules | `(tactic| walk_at "rd") => `(tactic| first
 | with_reducible first | refine ZDa (by assumption) (‹Txt _ _ _›).ZI (‹Txt _ _ _›).ZO ZEl ?_ | refine ZDa (by assumption) (‹Txt _ _ _›).ZH (‹Txt _ _ _›).JY ZLa ?_ | refine ZDa (by assumption) (‹Txt _ _ _›).ZH (‹Txt _ _ _›).JA ZJ5 ?_ | refine ZDa (by assumption) (‹Txt _ _ _›).ZH (‹Txt _ _ _›).JT ZLb ?_ | refine ZDa (by assumption) (‹Txt _ _ _›).ZH (‹Txt _ _ _›).Zu ZGc ?_)
def ZSD (C : Addr) : Sp := fun vs H Q _ => ∃ (p d1 d2 : Addr) (n t v : Int) (sm : PL) (c : Nat), vs = [.ref p, .int t] ∧ ZDA C H p n d1 d2 sm c ∧ ZC9 sm t = some v ∧ c ≤ 1000 ∧
 ∀ H', ZDA C H' p n d1 d2 (ZEK sm t) (c + 1) → Fr3 p d1 d2 H H' → Q .non H'
theorem ZLc : ZCv ["self", "t"] ["self", "t"] (ZCo ZGW) := ZDI
theorem ZLd (T : Txt K mg a) : ZCr P w K mg base CX0 4 a.Jg a.Jj ["self", "t"] (ZSD a.ZF) := by
 refine T.ZB0.ok ZLc (by walk_at "l") (fun cdv A outer s H vs Q E hr h => ?_)
 ·obtain ⟨p, d1, d2, n, t, v, sm, c, rfl, ⟨dx, kvs, hp, h1, h2, hnd, hkf, hlen⟩, hg, hc, k⟩ := h
  have np1 : p ≠ d1 := fun z => by subst z; rw [hp] at h1; cases h1
  have n21 : d2 ≠ d1 := fun z => by subst z; rw [h1] at h2; cases h2
  refine ⟨_, QB.h (ZCm (ZC5 (ZP1 (ZDG K rfl (qv 0)) (qv 1))) (ZCn (ZC5 (ZC7 (qv 0) T.ZI T.ZAe (ZHe T) hr T.ZAU .nil ZDd (ZCj (qv 1) (ZCj ZEb ZCk)))))), ?_⟩
  walk_at "s"
  walk_at "w"
  refine ZP3 h1 ?_
  walk_at "w"
  refine ZP4 h1 hg fun H3 f3 K3 => ?_
  have hp3 := K3 _ _ hp np1
  have h23 := K3 _ _ h2 n21
  have hk3 : ZDy H3 kvs (ZEK sm t) (fun l s => s ≠ t / 2 ^ l) := (ZDy.other hkf fun q hq => by
   rw [ZGL]
   exact ⟨fun z => ⟨hq, z⟩, fun z => z.2⟩).kpX K3 h1 (fun xs z => by cases z)
  walk_at "w"
  refine ZC0 hp3 ZEt ?_
  walk_at "w"
  refine ⟨p, d1, d2, dx, n, t, .non, none, ZEK sm t, kvs, c, rfl, hp3, f3, h23, ZIQ hnd, hk3, hlen, hc, .non, .inl ⟨rfl, ?_⟩, fun H7 hT7 K7 => ?_⟩
  ·cases e : inS (ZEK sm t) 0 t with
   | nil => rfl
   | cons q qs =>
    have hq : q ∈ inS (ZEK sm t) 0 t := by rw [e]; exact List.mem_cons_self
    rw [ZE0, ZGL] at hq
    simp only [Int.pow_zero, Int.ediv_one] at hq
    exact absurd hq.2 hq.1.1
  ·walk_at "w"
   exact k H7 hT7 fun b o e e1 e2 e3 => K7 _ _ (K3 _ _ e e2) e3
def ZSE (a : Ad) : Sp := fun vs H Q _ => ∃ (p dx : Addr) (x : V) (cv : PL), vs = [.ref p, x] ∧ H p = some (.ins a.ZG dx []) ∧ ((x = .non ∧ cv = []) ∨ ∃ t, x = .ref t ∧ PrT H t cv) ∧ (cv.map (·.1)).Nodup ∧ (∀ q ∈ cv, Tm q.1) ∧ cv.length ≤ 100 ∧
 ∀ (S : SA) (sm : PL) (H' : Hp), S.p = p → (∀ b ∈ S.own, H b = none) → ZCp a H' S 0 sm cv.length [] [] [] → (∀ q, q ∈ sm ↔ q ∈ cv) → sm.length ≤ cv.length → Kp p H H' → Q .non H'
theorem ZFu : ZCv ["self", "curve"] ["self", "curve"] (ZCo ZDV) := ZDI
theorem ZIL (T : Txt K mg a) : ZCr P w K mg base CX0 7 a.Zj a.ZR ["self", "curve"] (ZSE a) := by
 refine T.JV.ok ZFu (by walk_at "l") (fun cdv A outer s H vs Q E hr h => ?_)
 ·obtain ⟨p, dx, x, cv, rfl, hp, hx, hnd, htm, hlen, k⟩ := h
  refine ⟨_, QB.h (ZCm (ZEr K rfl (qv 0) (ZJY T.ZB7 (ZIs T) hr rfl T.ZCL T.Ja .nil ZDd (ZCj (qv 1) ZCk))) (ZCm (ZEr K rfl (qv 0) (ZD7 ZCk)) (ZCm (ZEr K rfl (qv 0) (ZD7 ZCk)) (ZCn (ZEr K rfl (qv 0) (ZD7 ZCk)))))), ?_⟩
  walk_at "s"
  walk_at "w"
  refine ZIF fun tr dt H1 n1 f1 S1 => ?_
  refine ⟨tr, dt, x, cv, rfl, f1, ?_, hnd, htm, hlen, fun d1 d2 sm H2 m1 m2 hT2 hm hl K2 => ⟨rfl, ?_⟩⟩
  ·rcases hx with h | ⟨t, h1, h2⟩
   ·exact .inl h
   ·exact .inr ⟨t, h1, h2.same S1⟩
  have S02 : ZCq H H2 := fun b o e => K2 _ _ (S1 _ _ e) (ZDH e n1)
  have hp2 := S02 _ _ hp
  have nt : tr ≠ p := fun z => by rw [z, hp] at n1; cases n1
  have free : ∀ {b : Addr}, H1 b = none → H b = none := fun {b} e => by
   cases e2 : H b with
   | none => rfl
   | some o => rw [S1 _ _ e2] at e; cases e
  have free2 : ∀ {b : Addr}, H2 b = none → H b = none := fun {b} e => by
   cases e2 : H b with
   | none => rfl
   | some o => rw [S02 _ _ e2] at e; cases e
  walk_at "w"
  refine ZEj hp2 T.ZH T.JY (by show 0 < 1000; decide) fun H3 f3 K3 => ?_
  walk_at "w"
  refine ZC1 (by show 0 ≤ sizeLine; decide) fun dd H4 n4 f4 S4 => ?_
  have np4 : dd ≠ p := fun z => by rw [z, f3] at n4; cases n4
  walk_at "w"
  refine ZEj (S4 _ _ f3) T.ZH T.JA (by show 1 < 1000; decide) fun H5 f5 K5 => ?_
  walk_at "w"
  refine ZC1 (by show 0 ≤ sizeLine; decide) fun dn H6 n6 f6 S6 => ?_
  have np6 : dn ≠ p := fun z => by rw [z, f5] at n6; cases n6
  walk_at "w"
  refine ZEj (S6 _ _ f5) T.ZH T.JT (by show 2 < 1000; decide) fun H7 f7 K7 => ?_
  walk_at "w"
  refine ZC1 (by show 0 ≤ sizeLine; decide) fun wt H8 n8 f8 S8 => ?_
  have np8 : wt ≠ p := fun z => by rw [z, f7] at n8; cases n8
  walk_at "w"
  refine ZEj (S8 _ _ f7) T.ZH T.Zu (by show 3 < 1000; decide) fun H9 f9 K9 => ?_
  rw [ZSC] at f9
  have K29 : Kp p H2 H9 := (((((K3.then S4).trans K5).then S6).trans K7).then S8).trans K9
  have K24 : Kp p H2 H5 := (K3.then S4).trans K5
  have K26 : Kp p H2 H7 := (K24.then S6).trans K7
  have g4 : H9 dd = some (.lst []) := K9 _ _ (S8 _ _ (K7 _ _ (S6 _ _ (K5 _ _ f4 np4)) np4)) np4
  have g6 : H9 dn = some (.lst []) := K9 _ _ (S8 _ _ (K7 _ _ f6 np6)) np6
  have g8 : H9 wt = some (.lst []) := K9 _ _ f8 np8
  have e46 : dd ≠ dn := fun z => by rw [← z, K5 _ _ f4 np4] at n6; cases n6
  have e48 : dd ≠ wt := fun z => by rw [← z, K7 _ _ (S6 _ _ (K5 _ _ f4 np4)) np4] at n8; cases n8
  have e68 : dn ≠ wt := fun z => by rw [← z, K7 _ _ f6 np6] at n8; cases n8
  have hT9 : ZDA a.ZF H9 tr 0 d1 d2 sm cv.length := by
   obtain ⟨dy, kvs, t1, t2, t3, t4, t5, t6⟩ := hT2
   have nt2 : ∀ {b : Addr} {xs : List V}, H2 b = some (.tup xs) → H9 b = some (.tup xs) := fun e => K29 _ _ e (fun z => by rw [z, hp2] at e; cases e)
   exact ⟨dy, kvs, K29 _ _ t1 nt, K29 _ _ t2 (fun z => by rw [z, hp2] at t2; cases t2), K29 _ _ t3 (fun z => by rw [z, hp2] at t3; cases t3), t4, t5.tups (fun b xs e => nt2 e), t6⟩
  have fr4 : H dd = none := by
   cases e : H dd with
   | none => rfl
   | some o => rw [K3 _ _ (S02 _ _ e) np4] at n4; cases n4
  have fr6 : H dn = none := by
   cases e : H dn with
   | none => rfl
   | some o => rw [K24 _ _ (S02 _ _ e) np6] at n6; cases n6
  have fr8 : H wt = none := by
   cases e : H wt with
   | none => rfl
   | some o => rw [K26 _ _ (S02 _ _ e) np8] at n8; cases n8
  walk_at "w"
  refine k ⟨p, tr, d1, d2, dd, dn, wt⟩ sm H9 rfl (fun b hb => ?_) ⟨dx, [], f9, hT9, g4, .nil, g6, g8, e46, e48, e68⟩ hm hl ((Kp.same S02).trans K29)
  simp only [SA.own, List.mem_cons, List.not_mem_nil, or_false] at hb
  rcases hb with rfl | rfl | rfl | rfl | rfl | rfl
  ·exact n1
  ·exact free m1
  ·exact free m2
  ·exact fr4
  ·exact fr6
  ·exact fr8
def ZQO (a : Ad) : Sp := fun vs H Q _ => ∃ (S : SA) (n t : Int) (o : Option Int) (sm : PL) (c : Nat) (ds : List (Int × Option Int)) (ts : List Int) (ws : List V), vs = [.ref S.p, .int t, ZHZ o] ∧ ZCp a H S n sm c ds ts ws ∧
 Tm t ∧ (o = none → (ZC9 sm t).isSome = true) ∧ c ≤ 900 ∧ sm.length ≤ 900 ∧ ts.length ≤ 900 ∧
 ∀ H', ZCp a H' S n (ZFP sm t o) (c + 1) ds (ts ++ [t]) ws → FrS S H H' → Q .non H'
theorem ZJg : ZCv ["self", "t", "h"] ["self", "t", "h"] (ZCo ZFo) := ZDI
theorem ZGo (T : Txt K mg a) : ZCr P w K mg base CX0 5 a.JC a.Y7 ["self", "t", "h"] (ZQO a) := by
 refine T.ZBa.ok ZJg (by walk_at "l") (fun cdv A outer s H vs Q E hr h => ?_)
 ·obtain ⟨S, n, t, o, sm, c, ds, ts, ws, rfl, hS, ht, ho, hc, hsl, htl, k⟩ := h
  refine ⟨_, QB.h (ZCm (ZDS (ZC2 (ZKj) (qv 2) ZEb (ZC4 _)) (ZCn (ZC5 (ZC7 (ZDG K rfl (qv 0)) T.ZI T.ZB3 (ZLd T) hr T.ZB6 .nil ZDd (ZCj (qv 1) ZCk)))) (ZCn (ZC5 (ZC7 (ZDG K rfl (qv 0)) T.ZI T.ZAJ (ZGb T) hr T.ZAF .nil ZDd (ZCj (qv 1) (ZCj (qv 2) ZCk)))))) (ZCn (ZC5 (ZJA PySem.F.plainAttrs_list PySem.F.slot_list_append PySem.F.type_list_append ZEn (ZDG K rfl (qv 0)) (ZCj (qv 1) ZCk))))), ?_⟩
  walk_at "s"
  have fin : ∀ H1, ZDA a.ZF H1 S.tr n S.d1 S.d2 (ZFP sm t o) (c + 1) → Fr3 S.tr S.d1 S.d2 H H1 → ZCp a H1 S n (ZFP sm t o) (c + 1) ds ts ws := fun H1 hT F => hS.fr3 F hT
  obtain ⟨dx, vs, hp, hT, _⟩ := id hS
  obtain ⟨dy, kvs, hq, _⟩ := id hT
  walk_at "w"
  cases o with
  | none =>
   obtain ⟨v, hv⟩ := Option.isSome_iff_exists.mp (ho rfl)
   refine ZDU (fun _ => ?_) (fun h => absurd rfl h)
   walk_at "w"
   refine ZC0 hq ZEt ?_
   walk_at "w"
   refine ⟨S.tr, S.d1, S.d2, n, t, v, sm, c, rfl, hT, hv, by omega, fun H1 hT1 F1 => ?_⟩
   have hS1 := fin H1 hT1 F1
   obtain ⟨dx1, vs1, hp1, hT1', hd1, hD1, hn1, hw1, hne⟩ := id hS1
   walk_at "w"
   refine ⟨tyL hn1, ?_⟩
   walk_at "w"
   refine ZFm hn1 (by rw [List.length_map]; exact Nat.lt_of_le_of_lt htl (by decide)) fun H2 f2 K2 => ?_
   walk_at "w"
   exact k H2 (hS1.kpDone K2 (by rw [List.map_append]; exact f2)) ((FrS.fr3 F1).trans (.kp K2 (by simp [SA.own])))
  | some h =>
   refine ZDU (fun h => by simp [ZHZ] at h) (fun _ => ?_)
   walk_at "w"
   refine ZC0 hq ZEt ?_
   walk_at "w"
   refine ⟨S.tr, S.d1, S.d2, n, t, h, sm, c, rfl, hT, ht, by omega, by omega, fun H1 hT1 F1 => ?_⟩
   have hS1 := fin H1 hT1 F1
   obtain ⟨dx1, vs1, hp1, hT1', hd1, hD1, hn1, hw1, hne⟩ := id hS1
   walk_at "w"
   refine ⟨tyL hn1, ?_⟩
   walk_at "w"
   refine ZFm hn1 (by rw [List.length_map]; exact Nat.lt_of_le_of_lt htl (by decide)) fun H2 f2 K2 => ?_
   walk_at "w"
   exact k H2 (hS1.kpDone K2 (by rw [List.map_append]; exact f2)) ((FrS.fr3 F1).trans (.kp K2 (by simp [SA.own])))
def ZUL (a : Ad) : Sp := fun vs H Q _ => ∃ (S : SA) (n t : Int) (o : Option Int) (sm : PL) (c : Nat) (ds : List (Int × Option Int)) (ts : List Int) (ws : List V), vs = [.ref S.p, .int t, ZHZ o] ∧ ZCp a H S n sm c ds ts ws ∧
 Tm t ∧ (o = none → (ZC9 sm t).isSome = true) ∧ c ≤ 900 ∧ sm.length ≤ 900 ∧ ts.length ≤ 900 ∧ ds.length ≤ 900 ∧
 ∀ H', ZCp a H' S n (ZFP sm t o) (c + 1) (ds ++ [(t, ZC9 sm t)]) (ts ++ [t]) ws → FrS S H H' → Q (ZHZ (ZC9 sm t)) H'
theorem ZIS : ZCv ["self", "t", "h", "before"] ["self", "t", "h"] (ZCo ZHS) := ZDI
theorem ZIT (T : Txt K mg a) : ZCr P w K mg base CX0 6 a.Jv a.ZAA ["self", "t", "h"] (ZUL a) := by
 refine T.ZCH.ok ZIS (by walk_at "l") (fun cdv A outer s H vs Q E hr h => ?_)
 ·obtain ⟨S, n, t, o, sm, c, ds, ts, ws, rfl, hS, ht, ho, hc, hsl, htl, hdl, k⟩ := h
  have hu := ZD9 hr
  refine ⟨_, QB.h (ZCm (qsS (i := 3) ZIS.nd (ZHH hu (ZDG K rfl (ZDG K rfl (qv 0))) (qv 1))) (ZCm (ZC5 (ZC7 (qv 0) T.ZH T.ZAL (ZGo T) hr T.ZAN .nil ZDd (ZCj (qv 1) (ZCj (qv 2) ZCk)))) (ZCm (ZC5 (ZJA PySem.F.plainAttrs_list PySem.F.slot_list_append PySem.F.type_list_append ZEn (ZDG K rfl (qv 0)) (ZCj (ZDK (ZCj (qv 1) (ZCj (qv 3) ZCk))) ZCk))) (ZCn (ZCw (qv 3)))))), ?_⟩
  walk_at "s"
  obtain ⟨dx, vs, hp, hT, _⟩ := id hS
  obtain ⟨dy, kvs, hq, hd1, _⟩ := id hT
  walk_at "w"
  refine ZN3 hd1 ?_
  walk_at "w"
  refine ZPp hd1 ?_
  rw [ZQN]
  walk_at "w"
  refine ZC0 hp ZDT ?_
  walk_at "w"
  refine ⟨S, n, t, o, sm, c, ds, ts, ws, rfl, hS, ht, ho, hc, hsl, htl, fun H1 hS1 F1 => ?_⟩
  obtain ⟨dx1, vs1, hp1, hT1, hd1, hD1, _⟩ := id hS1
  walk_at "w"
  refine ⟨tyL hd1, ?_⟩
  walk_at "w"
  refine ZC1 (by show 2 ≤ sizeLine; decide) fun b H2 n2 f2 S2 => ?_
  walk_at "w"
  refine ZFm (S2 _ _ hd1) (by rw [hD1.len]; exact Nat.lt_of_le_of_lt hdl (by decide)) fun H3 f3 K3 => ?_
  have nt : ∀ {b : Addr} {xs : List V}, H2 b = some (.tup xs) → H3 b = some (.tup xs) := fun e => K3 _ _ e (fun z => by rw [z, S2 _ _ hd1] at e; cases e)
  walk_at "w"
  exact k H3 ((hS1.same S2).kpDeeds K3 f3 (((hD1.tups fun b xs e => S2 _ _ e).tups fun b xs e => nt e).snoc (q := (t, ZC9 sm t)) (nt f2))) ((F1.trans (.same S2)).trans (.kp K3 (by simp [SA.own])))
def ZTt (a : Ad) : Sp := fun vs H Q _ => ∃ (S : SA) (n t h : Int) (sm : PL) (c : Nat) (ds : List (Int × Option Int)) (ts : List Int) (ws : List V), vs = [.ref S.p, .int t, .int h] ∧ ZCp a H S n sm c ds ts ws ∧
 Tm t ∧ c ≤ 900 ∧ sm.length ≤ 900 ∧ ts.length ≤ 900 ∧ ds.length ≤ 900 ∧
 ∀ H', ZCp a H' S n (ZDO sm t h) (c + 1) (ds ++ [(t, ZC9 sm t)]) (ts ++ [t]) ws → FrS S H H' → Q (ZHZ (ZC9 sm t)) H'
theorem ZH4 : ZCv ["self", "t", "h"] ["self", "t", "h"] (ZCo ZGZ) := ZDI
theorem ZLe (T : Txt K mg a) : ZCr P w K mg base CX0 7 a.Yt a.Ys ["self", "t", "h"] (ZTt a) := by
 refine T.ZAu.ok ZH4 (by walk_at "l") (fun cdv A outer s H vs Q E hr h => ?_)
 ·obtain ⟨S, n, t, h, sm, c, ds, ts, ws, rfl, hS, ht, hc, hsl, htl, hdl, k⟩ := h
  refine ⟨_, QB.h (ZCm (ZC5 (qcS (ZHd T) hr.m T.YY T.Za.kp T.YU (ZCj (qv 1) ZCk))) (ZCn (ZCw (ZC7 (qv 0) T.ZH T.ZBJ (ZIT T) hr T.ZBH .nil ZDd (ZCj (qv 1) (ZCj (qv 2) ZCk)))))), ?_⟩
  walk_at "s"
  obtain ⟨dx, vs, hp, hT, _⟩ := id hS
  walk_at "w"
  refine ⟨t, rfl, ht, ?_⟩
  walk_at "w"
  refine ZC0 hp ZDT ?_
  walk_at "w"
  exact ⟨S, n, t, some h, sm, c, ds, ts, ws, rfl, hS, ht, (fun z => by cases z), hc, hsl, htl, hdl, fun H1 hS1 F1 => k H1 hS1 F1⟩
def ZQP (a : Ad) : Sp := fun vs H Q _ => ∃ (S : SA) (n t v : Int) (sm : PL) (c : Nat) (ds : List (Int × Option Int)) (ts : List Int) (ws : List V), vs = [.ref S.p, .int t] ∧ ZCp a H S n sm c ds ts ws ∧ ZC9 sm t = some v ∧ Q .non H
theorem ZFD : ZCv ["self", "t"] ["self", "t"] (ZCo ZEZ) := ZDI
theorem ZGp (T : Txt K mg a) : ZCr P w K mg base CX0 2 a.ZW a.ZX ["self", "t"] (ZQP a) := by
 refine T.Yb.ok ZFD (by walk_at "l") (fun cdv A outer s H vs Q E hr h => ?_)
 ·obtain ⟨S, n, t, v, sm, c, ds, ts, ws, rfl, hS, hg, q⟩ := h
  have hu := ZD9 hr
  refine ⟨_, QB.h (ZCn (ZDS (QW.pt (ZE6 (ZD6 (ZEO (qcS (ZEk T) hr T.Z4 T.Zf.kp T.Z5 (ZCj (qv 1) ZCk)))) (ZEc (ZC2 (ZJI hu) (qv 1) (ZDG K rfl (ZDG K rfl (qv 0))) (by with_unfolding_all rfl))))) (ZCn ZDF) ZC6)), ?_⟩
  walk_at "s"
  obtain ⟨dx, vs, hp, hT, _⟩ := id hS
  obtain ⟨dy, kvs, hq, hd1, _⟩ := id hT
  walk_at "w"
  refine ⟨_, rfl, .inl ⟨t, rfl, ?_⟩⟩
  walk_at "w"
  refine ZDu ?_
  walk_at "w"
  refine ZJJ hd1 ?_
  rw [hg]
  walk_at "w"
  refine ZDu ?_
  walk_at "w"
  exact q
def ZSF (a : Ad) : Sp := fun vs H Q _ => ∃ (S : SA) (n t v : Int) (sm : PL) (c : Nat) (ds : List (Int × Option Int)) (ts : List Int) (ws : List V), vs = [.ref S.p, .int t] ∧ ZCp a H S n sm c ds ts ws ∧
 Tm t ∧ ZC9 sm t = some v ∧ c ≤ 900 ∧ sm.length ≤ 900 ∧ ts.length ≤ 900 ∧ ds.length ≤ 900 ∧
 ∀ H', ZCp a H' S n (ZEK sm t) (c + 1) (ds ++ [(t, some v)]) (ts ++ [t]) ws → FrS S H H' → Q (.int v) H'
theorem ZHg : ZCv ["self", "t"] ["self", "t"] (ZCo ZF8) := ZDI
theorem ZSO (T : Txt K mg a) : ZCr P w K mg base CX0 7 a.YN a.YS ["self", "t"] (ZSF a) := by
 refine T.ZAi.ok ZHg (by walk_at "l") (fun cdv A outer s H vs Q E hr h => ?_)
 ·obtain ⟨S, n, t, v, sm, c, ds, ts, ws, rfl, hS, ht, hg, hc, hsl, htl, hdl, k⟩ := h
  refine ⟨_, QB.h (ZCm (ZC5 (ZC7 (qv 0) T.ZH T.Zh (ZGp T) hr.m T.Zi .nil ZDd (ZCj (qv 1) ZCk))) (ZCn (ZCw (ZC7 (qv 0) T.ZH T.ZBJ (ZIT T) hr T.ZBH .nil ZDd (ZCj (qv 1) (ZCj ZEb ZCk)))))), ?_⟩
  walk_at "s"
  obtain ⟨dx, vs, hp, hT, _⟩ := id hS
  walk_at "w"
  refine ZC0 hp ZDT ?_
  walk_at "w"
  refine ⟨S, n, t, v, sm, c, ds, ts, ws, rfl, hS, hg, ?_⟩
  walk_at "w"
  refine ZC0 hp ZDT ?_
  walk_at "w"
  refine ⟨S, n, t, none, sm, c, ds, ts, ws, rfl, hS, ht, (fun _ => by rw [hg]; rfl), hc, hsl, htl, hdl, fun H1 hS1 F1 => ?_⟩
  rw [hg] at hS1 ⊢
  exact k H1 hS1 F1
theorem ZJM : ZCv ["self", "t"] ["self", "t"] (ZCo ZFb) := ZDI
def ZSG (a : Ad) : Sp := fun vs H Q _ => ∃ (S : SA) (n : Int) (sm : PL) (c : Nat) (ds : List (Int × Option Int)) (ts : List Int) (ws : List V), vs = [.ref S.p] ∧ ZCp a H S n sm c ds ts ws ∧
  ((ds = [] ∧ Q (.bl false) H) ∨ ∃ ds' t o, ds = ds' ++ [(t, o)] ∧ Tm t ∧ (o = none → (ZC9 sm t).isSome = true) ∧ c ≤ 900 ∧ sm.length ≤ 900 ∧ ts.length ≤ 900 ∧
    ∀ H', ZCp a H' S n (ZFP sm t o) (c + 1) ds' (ts ++ [t]) ws → FrS S H H' → Q (.bl true) H')
theorem ZFs : ZCv ["self", "t", "before"] ["self"] (ZCo ZF9) := ZDI
theorem ZHh (T : Txt K mg a) : ZCr P w K mg base CX0 6 a.JK a.JS ["self"] (ZSG a) := by
 refine T.ZBj.ok ZFs (by walk_at "l") (fun cdv A outer s H vs Q E hr h => ?_)
 ·obtain ⟨S, n, sm, c, ds, ts, ws, rfl, hS, k⟩ := h
  refine ⟨_, QB.h (ZCm (ZDS (ZC2 (ZEI) (ZC8 (ZFI K rfl) rfl T.YQ ZFG (ZCj (ZDG K rfl (qv 0)) ZCk)) ZCl (ZC4 _)) (ZCn (ZCw ZFe)) ZC6) (ZCm (ZFH (ZTg PySem.F.plainAttrs_list PySem.F.slot_list_pop PySem.F.type_list_pop ZSy (ZDG K rfl (qv 0))) (ZE2 (n := 2) K rfl rfl (ZDL (qgN (i := 1) ZFs.nd) (ZDL (qgN (i := 2) ZFs.nd) ZEi)))) (ZCm (ZC5 (ZC7 (qv 0) T.ZH T.ZAL (ZGo T) hr T.ZAN .nil ZDd (ZCj (qv 1) (ZCj (qv 2) ZCk)))) (ZCn (ZCw ZFe))))), ?_⟩
  walk_at "s"
  obtain ⟨dx, vs, hp, hT, hd, hD, _⟩ := id hS
  have hvl := hD.len
  walk_at "w"
  rw [ZEJ]
  rcases k with ⟨rfl, q⟩ | ⟨ds', t, o, rfl, ht, ho, hc, hsl, htl, k⟩
  ·refine ZDU (fun _ => ?_) (fun h => absurd (by rw [hvl]; rfl) h)
   walk_at "w"
   exact q
  ·refine ZDU (fun h => ?_) (fun _ => ?_)
   ·rw [hvl, List.length_append] at h
    simp at h
    omega
   obtain ⟨us, b, rfl, hD', hb⟩ := hD.unsnoc
   walk_at "w"
   refine ⟨tyL hd, ?_⟩
   refine ZTo hd fun H1 f1 K1 => ?_
   have hb1 := K1 _ _ hb (fun z => by rw [z, hd] at hb; cases hb)
   have nt : ∀ {b : Addr} {xs : List V}, H b = some (.tup xs) → H1 b = some (.tup xs) := fun e => K1 _ _ e (fun z => by rw [z, hd] at e; cases e)
   have hS1 := hS.kpDeeds K1 f1 (hD'.tups fun b xs e => nt e)
   obtain ⟨dx1, vs1, hp1, _⟩ := id hS1
   walk_at "w"
   refine ZC0 hp1 ZDT ?_
   walk_at "w"
   refine ⟨S, n, t, o, sm, c, ds', ts, ws, rfl, hS1, ht, ho, hc, hsl, htl, fun H2 hS2 F2 => ?_⟩
   walk_at "w"
   exact k H2 hS2 ((FrS.kp K1 (by simp [SA.own])).trans F2)
def ZQQ (a : Ad) : Sp := fun vs H Q _ => ∃ (S : SA) (n : Int) (sm : PL) (c : Nat) (ds : List (Int × Option Int)) (ts : List Int) (ws : List V), vs = [.ref S.p] ∧ ZCp a H S n sm c ds ts ws ∧
 ∀ u H', H' u = some (.tup (ts.map V.int)) → ZCq H H' → Q (.ref u) H'
theorem ZJh : ZCv ["self"] ["self"] (ZCo ZFp) := ZDI
theorem ZJi (T : Txt K mg a) : ZCr P w K mg base CX0 1 a.JD a.Y9 ["self"] (ZQQ a) := by
 refine T.ZBY.ok ZJh (by walk_at "l") (fun cdv A outer s H vs Q E hr h => ?_)
 ·obtain ⟨S, n, sm, c, ds, ts, ws, rfl, hS, k⟩ := h
  refine ⟨_, QB.h (ZCn (ZCw (ZDi (ZEq K rfl) rfl T.Zr ZEo (ZCj (ZDG K rfl (qv 0)) ZCk)))), ?_⟩
  walk_at "s"
  obtain ⟨dx, vs, hp, hT, hd, hD, hn, _⟩ := id hS
  walk_at "w"
  exact ZFA (SqL.of hn) fun u H3 n3 f3 S3 => k u H3 f3 S3
def ZSH (a : Ad) : Sp := fun vs H Q _ => ∃ (S : SA) (n : Int) (sm : PL) (c : Nat) (ds : List (Int × Option Int)) (ts : List Int) (ws : List V), vs = [.ref S.p] ∧ ZCp a H S n sm c ds ts ws ∧ sm.length < 64 ∧
 ∀ (t : Addr) (cv : PL) (H' : Hp), PrT H' t cv → Asc cv → (∀ q, q ∈ cv ↔ q ∈ sm) → ZCq H H' → Q (.ref t) H'
theorem ZKN : ZCv ["self"] ["self"] (ZCo ZGB) := ZDI
theorem ZHi (T : Txt K mg a) : ZCr P w K mg base CX0 3 a.JL a.JN ["self"] (ZSH a) := by
 refine T.ZBf.ok ZKN (by walk_at "l") (fun cdv A outer s H vs Q E hr h => ?_)
 ·obtain ⟨S, n, sm, c, ds, ts, ws, rfl, hS, hl, k⟩ := h
  refine ⟨_, QB.h (ZCn (ZCw (ZFX (ZDG K rfl (qv 0)) T.ZI T.ZBz (ZLX T) hr T.ZB1 .nil ZDd))), ?_⟩
  walk_at "s"
  obtain ⟨dx, vs, hp, hT, _⟩ := id hS
  obtain ⟨dy, kvs, hq, hd1, _⟩ := id hT
  walk_at "w"
  refine ZC0 hq ZEt ?_
  walk_at "w"
  exact ⟨S.tr, S.d1, S.d2, n, sm, c, rfl, hT, hl, k⟩
theorem ZKO : ZCv ["self", "begin", "end"] ["self", "begin", "end"] (ZCo ZGA) := ZDI
def ZQR (a : Ad) : Sp := fun vs H Q _ => ∃ (S : SA) (q : Addr) (n b y m : Int) (sm : PL) (c : Nat) (ds : List (Int × Option Int)) (ts : List Int) (ws : List V), vs = [.ref S.p, .ref q] ∧ ZCp a H S n sm c ds ts ws ∧ ZHY H q b y m ∧
 ∀ (u : Addr) (us : List V) (fs : List (Option (PL))) (n' : Int) (H' : Hp), H' u = some (.tup us) → ZDe H' us fs → ZGm sm b y m.toNat fs → ZCp a H' S n' sm c ds ts ws → Kp S.tr H H' → Q (.ref u) H'
theorem ZGq : ZCv ["self", "window"] ["self", "window"] (ZCo ZFq) := ZDI
theorem ZGr (T : Txt K mg a) : ZCr P w K mg base CX0 7 a.YC a.Z9 ["self", "window"] (ZQR a) := by
 refine T.ZAM.ok ZGq (by walk_at "l") (fun cdv A outer s H vs Q E hr h => ?_)
 ·obtain ⟨S, q, n, b, y, m, sm, c, ds, ts, ws, rfl, hS, hW, k⟩ := h
  refine ⟨_, QB.h (ZCn (ZCw (ZC7 (ZDG K rfl (qv 0)) T.ZI T.ZAR (ZKL T) hr T.ZAZ .nil ZDd (ZCj (qv 1) ZCk)))), ?_⟩
  walk_at "s"
  obtain ⟨dx, vs, hp, hT, _⟩ := id hS
  obtain ⟨dy, kvs, hq, hd1, _⟩ := id hT
  walk_at "w"
  refine ZC0 hq ZEt ?_
  walk_at "w"
  exact ⟨S.tr, q, S.d1, S.d2, n, b, y, m, sm, c, rfl, hT, hW, fun u us fs n' H1 h1 g1 z1 hT1 K1 => k u us fs n' H1 h1 g1 z1 (hS.fr3 (ZTq K1) hT1) K1⟩
end
structure Wat where
 w : Addr
 b : Int
 y : Int
 m : Int
 fs : List (Option (PL))
def ZUM (H : Hp) (r : Wat) : Prop := ZHY H r.w r.b r.y r.m ∧ r.fs.length = r.m.toNat
def ZFc (H : Hp) (v : V) (r : Wat) : Prop := ∃ c u us, v = .ref c ∧ H c = some (.tup [.ref r.w, .ref u]) ∧ H u = some (.tup us) ∧ ZDe H us r.fs ∧ ZUM H r
theorem ZHY.tups {H H' : Hp} {q : Addr} {b y m : Int} (h : ZHY H q b y m) (t : ∀ b xs, H b = some (.tup xs) → H' b = some (.tup xs)) : ZHY H' q b y m := ⟨t _ _ h.1, h.2⟩
theorem ZFc.tups {H H' : Hp} {v : V} {r : Wat} (h : ZFc H v r) (t : ∀ b xs, H b = some (.tup xs) → H' b = some (.tup xs)) : ZFc H' v r := by
 obtain ⟨c, u, us, h1, h2, h3, h4, h5, h6⟩ := h
 exact ⟨c, u, us, h1, t _ _ h2, t _ _ h3, h4.tups t, h5.tups t, h6⟩
def ZEa (fs gs : List (Option (PL))) (n : Nat) : List Int := ((List.range n).filter fun k => decide (gs[k]? ≠ fs[k]?)).map fun k : Nat => (k : Int)
theorem ZJN (fs gs : List (Option (PL))) (n : Nat) : ZEa fs gs (n + 1) = ZEa fs gs n ++ (if gs[n]? ≠ fs[n]? then [(n : Int)] else []) := by
 unfold ZEa
 rw [List.range_succ, List.filter_append, List.map_append]
 congr 1
 by_cases h : gs[n]? = fs[n]? <;> simp [h]
theorem ZJ6 (fs gs : List (Option (PL))) (n : Nat) : (ZEa fs gs n).length ≤ n := by
 unfold ZEa
 rw [List.length_map]
 exact Nat.le_trans (List.length_filter_le _ _) (by rw [List.length_range]; exact Nat.le_refl _)
theorem ZNE (fs : List (Option (PL))) (n : Nat) : ZEa fs fs n = [] := by
 unfold ZEa
 rw [List.map_eq_nil_iff, List.filter_eq_nil_iff]
 intro k _
 simp
theorem ZSI {n i : Nat} (h : i < n) : ixN n (i : Int) = some i := by
 unfold ixN
 first
  | (rw [if_neg (by omega), if_pos (by omega)]; simp; done)
  | (simp; omega)
section
variable {a : Ad} {H H' : Hp} {S : SA} {n : Int} {sm : PL} {c : Nat} {ds : List (Int × Option Int)} {ts : List Int} {ws : List V}
theorem ZCp.kpWat (h : ZCp a H S n sm c ds ts ws) {ws' : List V} (k : Kp S.wt H H') (f : H' S.wt = some (.lst ws')) : ZCp a H' S n sm c ds ts ws' := by
 obtain ⟨dx, vs, h1, h2, h3, h4, h5, h6, h7, h8, h9⟩ := h
 exact ⟨dx, vs, k _ _ h1 (fun z => by rw [z, h6] at h1; cases h1), h2.kpX k h6, k _ _ h3 h8, h4.tups (fun b xs e => k _ _ e (fun z => by rw [z, h6] at e; cases e)), k _ _ h5 h9, f, h7, h8, h9⟩
end
section
variable {P : Program} {w : World} {K : W.Frag} {mg : Str → Option Value} {base : Heap} {a : Ad}
local macro_rules | `(tactic| walk_at "rd") => `(tactic| first
 | with_reducible refine ZDa (by assumption) (‹Txt _ _ _›).ZH (‹Txt _ _ _›).Zu ZGc ?_)
def ZQS (a : Ad) : Sp := fun vs H Q _ => ∃ (S : SA) (q : Addr) (n b y m : Int) (sm : PL) (c : Nat) (ds : List (Int × Option Int)) (ts : List Int) (ws : List V), vs = [.ref S.p, .ref q] ∧ ZCp a H S n sm c ds ts ws ∧ ZHY H q b y m ∧ ws.length ≤ 900 ∧
 ∀ (v : V) (fs : List (Option (PL))) (n' : Int) (H' : Hp), ZFc H' v ⟨q, b, y, m, fs⟩ → ZGm sm b y m.toNat fs → ZCp a H' S n' sm c ds ts (ws ++ [v]) → FrS S H H' → Q (.int ws.length) H'
theorem ZGs : ZCv ["self", "window"] ["self", "window"] (ZCo ZFr) := ZDI
theorem ZGt (T : Txt K mg a) : ZCr P w K mg base CX0 8 a.YD a.YB ["self", "window"] (ZQS a) := by
 refine T.ZAO.ok ZGs (by walk_at "l") (fun cdv A outer s H vs Q E hr h => ?_)
 ·obtain ⟨S, q, n, b, y, m, sm, c, ds, ts, ws, rfl, hS, hW, hwl, k⟩ := h
  refine ⟨_, QB.h (ZCm (ZC5 (ZJA PySem.F.plainAttrs_list PySem.F.slot_list_append PySem.F.type_list_append ZEn (ZDG K rfl (qv 0)) (ZCj (ZDK (ZCj (qv 1) (ZCj (ZC7 (qv 0) T.ZH T.YA (ZGr T) hr T.YE .nil ZDd (ZCj (qv 1) ZCk)) ZCk))) ZCk))) (ZCn (ZCw (ZCs ZEF (ZC8 (ZFI K rfl) rfl T.YQ ZFG (ZCj (ZDG K rfl (qv 0)) ZCk)) ZCl)))), ?_⟩
  walk_at "s"
  obtain ⟨dx, vs, hp, hT, hd, hD, hn, hw, _⟩ := id hS
  walk_at "w"
  refine ⟨tyL hw, ?_⟩
  walk_at "w"
  refine ZC0 hp ZDT ?_
  walk_at "w"
  refine ⟨S, q, n, b, y, m, sm, c, ds, ts, ws, rfl, hS, hW, fun u us fs n' H1 f1 hF1 h4 hS1 K1 => ?_⟩
  have F1 : FrS S H H1 := .kp K1 (by simp [SA.own])
  have hW1 := hW.tups (H' := H1) (fun b xs e => hS.keepT F1 e)
  walk_at "w"
  refine ZC1 (by show 2 ≤ sizeLine; decide) fun c2 H2 n2 f2 S2 => ?_
  have hS2 := hS1.same S2
  obtain ⟨dx2, vs2, hp2, hT2, hd2, hD2, hn2, hw2, _⟩ := id hS2
  walk_at "w"
  refine ZFm hw2 (Nat.lt_of_le_of_lt hwl (by decide)) fun H3 f3 K3 => ?_
  have nt3 : ∀ b xs, H2 b = some (.tup xs) → H3 b = some (.tup xs) := fun b xs e => K3 _ _ e (fun z => by rw [z, hw2] at e; cases e)
  have hS3 := hS2.kpWat K3 f3
  obtain ⟨dx3, vs3, hp3, hT3, hd3, hD3, hn3, hw3, _⟩ := id hS3
  walk_at "w"
  have e : (((ws ++ [V.ref c2]).length : Nat) : Int) - 1 = (ws.length : Int) := by rw [List.length_append]; simp
  rw [e]
  exact k (.ref c2) fs n' H3 ⟨c2, u, us, rfl, nt3 _ _ f2, nt3 _ _ (S2 _ _ f1), (hF1.same S2).tups nt3, (hW1.tups (fun b xs e => S2 _ _ e)).tups nt3, h4.1⟩ h4 hS3 ((F1.trans (.same S2)).trans (.kp K3 (by simp [SA.own])))
def ZSJ (a : Ad) : Sp := fun vs H Q _ => ∃ (S : SA) (i : Nat) (r : Wat) (v : V) (n : Int) (sm : PL) (c : Nat) (ds : List (Int × Option Int)) (ts : List Int) (ws : List V), vs = [.ref S.p, .int i] ∧ ZCp a H S n sm c ds ts ws ∧ ws[i]? = some v ∧ ZFc H v r ∧
 ∀ (t : Addr) (v' : V) (fs : List (Option (PL))) (n' : Int) (H' : Hp), H' t = some (.tup ((ZEa r.fs fs r.m.toNat).map V.int)) → ZFc H' v' ⟨r.w, r.b, r.y, r.m, fs⟩ → ZGm sm r.b r.y r.m.toNat fs → ZCp a H' S n' sm c ds ts (ws.set i v') → FrS S H H' → Q (.ref t) H'
theorem ZEf : ZCv ["self", "number", "window", "before", "now"] ["self", "number"] (ZCo ZFN) := ZDI
theorem ZHj (T : Txt K mg a) : ZCr P w K mg base CX0 8 a.Yc a.YX ["self", "number"] (ZSJ a) := by
 refine T.ZAP.ok ZEf (by walk_at "l") (fun cdv A outer s H vs Q E hr h => ?_)
 ·obtain ⟨S, i, r, v, n, sm, c, ds, ts, ws, rfl, hS, hv, hWt, k⟩ := h
  have hu64 := hr.units
  obtain ⟨c0, u0, us0, rfl, hc0, hu0, hF0, hW, hfl⟩ := id hWt
  obtain ⟨hw0, hy0, hm1, hm2, _⟩ := id hW
  have hi : i < ws.length := (List.getElem?_eq_some_iff.mp hv).1
  refine ⟨_, QB.h (ZCm (ZDS (QW.pt (ZE6 (ZD6 (ZEO (qcS (ZEk T) hr.m T.Z4 T.Zf.kp T.Z5 (ZCj (qv 1) ZCk)))) (ZEc (ZD6 (ZG2 ZGF ZGE ZCl (qv 1) (ZC8 (ZFI K rfl) rfl T.YQ ZFG (ZCj (ZDG K rfl (qv 0)) ZCk))))))) (ZCn ZDF) ZC6) (ZCm (ZFH (ZDB (ZDc K rfl) (ZDG K rfl (qv 0)) (qv 1)) (ZE2 (n := 2) K rfl rfl (ZDL (qgN (i := 2) ZEf.nd) (ZDL (qgN (i := 3) ZEf.nd) ZEi)))) (ZCm (qsS (i := 4) ZEf.nd (ZC7 (qv 0) T.ZH T.YA (ZGr T) hr T.YE .nil ZDd (ZCj (qv 2) ZCk))) (ZCm (ZFH (ZDK (ZCj (qv 2) (ZCj (qv 4) ZCk))) (ZKm (ZDG K rfl (qv 0)) (qv 1) ZIZ)) (ZCn (ZCw (ZDi (ZEq K rfl) rfl T.Zr ZEo (ZCj (ZGj (N := ["self", "number", "window", "before", "now"]) (sc := ZCo ZFN) (own := ["k"]) (caps := ["now", "before"]) (ks := [4, 3]) rfl rfl rfl ⟨rfl, by decide +kernel, by decide +kernel, by decide +kernel, by decide +kernel, rfl, by decide +kernel⟩ (ZFk rfl T.YI (ZCj (ZDB (ZDf K rfl) (qv 2) ZCl) ZCk)) (fun _ _ _ _ _ => ZEy (i := 0) (show List.Nodup (α := Str) ["k", "now", "before"] from by decide +kernel) rfl (by walk_at "o") (.inr rfl)) (fun _ _ _ _ _ => ZId (ZC2 (ZGl K rfl hu64) (ZDB (ZDf K rfl) (qv 1) (qv 0)) (ZDB (ZDf K rfl) (qv 2) (qv 0)) (ZC4 _))) (fun _ _ _ _ _ => qv 0)) ZCk)))))))), ?_⟩
  walk_at "s"
  obtain ⟨dx, vs, hp, hT, hd, hD, hn, hw, _⟩ := id hS
  walk_at "w"
  refine ⟨_, rfl, .inl ⟨(i : Int), rfl, ?_⟩⟩
  walk_at "w"
  refine ZDu ?_
  walk_at "w"
  refine ZDU (fun _ => ?_) (fun h => absurd h (by omega))
  walk_at "w"
  refine ZG1 (fun h => absurd (show (i : Int) < (ws.length : Int) by omega) h) (fun _ => ?_)
  walk_at "w"
  refine ZEB (SqL.of hw) (ZEw hv) ?_
  walk_at "w"
  refine ZC0 hp ZDT ?_
  walk_at "w"
  refine ⟨S, r.w, n, r.b, r.y, r.m, sm, c, ds, ts, ws, rfl, hS, hW, fun u us fs n' H1 f1 hF1 h4 hS1 K1 => ?_⟩
  have F1 : FrS S H H1 := .kp K1 (by simp [SA.own])
  have nt1 : ∀ b xs, H b = some (.tup xs) → H1 b = some (.tup xs) := fun b xs e => hS.keepT F1 e
  obtain ⟨dx1, vs1, hp1, hT1, hd1, hD1, hn1, hw1, _⟩ := id hS1
  walk_at "w"
  refine ZC1 (by show 2 ≤ sizeLine; decide) fun c2 H2 n2 f2 S2 => ?_
  have hp2 := S2 _ _ hp1
  have hw2 := S2 _ _ hw1
  walk_at "w"
  refine ZJS hw2 (ZSI hi) ?_
  have f3 : (upd H2 S.wt (.lst (ws.set i (.ref c2)))) S.wt = some (.lst (ws.set i (.ref c2))) := ZCy
  have K3 : Kp S.wt H2 (upd H2 S.wt (.lst (ws.set i (.ref c2)))) := Kp.upd
  generalize upd H2 S.wt (.lst (ws.set i (.ref c2))) = H3 at f3 K3
  have nt3 : ∀ b xs, H2 b = some (.tup xs) → H3 b = some (.tup xs) := fun b xs e => K3 _ _ e (fun z => by rw [z, hw2] at e; cases e)
  have hS3 := (hS1.same S2).kpWat K3 f3
  have nt13 : ∀ b xs, H1 b = some (.tup xs) → H3 b = some (.tup xs) := fun b xs e => nt3 _ _ (S2 _ _ e)
  have nt03 : ∀ b xs, H b = some (.tup xs) → H3 b = some (.tup xs) := fun b xs e => nt13 _ _ (nt1 _ _ e)
  have hw03 := nt03 _ _ hw0
  have F3 : FrS S H H3 := (F1.trans (.same S2)).trans (.kp K3 (by simp [SA.own]))
  have hWa3 : ZFc H3 (.ref c2) ⟨r.w, r.b, r.y, r.m, fs⟩ := ⟨c2, u, us, rfl, nt3 _ _ f2, nt13 _ _ f1, hF1.tups nt13, hW.tups nt03, h4.1⟩
  have f13 := nt13 _ _ f1
  have hF13 := hF1.tups nt13
  have hu03 := nt03 _ _ hu0
  have hF03 := hF0.tups nt03
  walk_at "w"
  refine ZHq (by omega) (by omega) ?_
  intro l n4
  refine ZFV r.m.toNat (fun j σ' H' => (∃ o, σ' = [o, some (.ref u), some (.ref u0)]) ∧ ZCq H3 H' ∧ H' l = some (.lst ((ZEa r.fs fs j).map V.int))) ?_ ?_ ?_
  ·exact ⟨⟨none, rfl⟩, ZCq.new n4, ZCy⟩
  ·rintro σ' H4 ⟨_, S4, f4⟩
   refine ⟨Nat.le_refl _, ?_⟩
   walk_at "w"
   refine ZFA (SqL.of f4) fun t H5 n5 f5 S5 => ?_
   have S35 := S4.trans S5
   exact k t (.ref c2) fs n' H5 f5 (hWa3.tups fun b xs e => S35 _ _ e) h4 (hS3.same S35) (F3.trans (.same S35))
  ·rintro j σ' H4 hj ⟨⟨o, rfl⟩, S4, f4⟩
   refine ⟨hj, ?_⟩
   rintro x H'' ⟨rfl, rfl⟩
   have hj1 : j < us.length := by rw [hF1.len, h4.1]; exact hj
   have hj0 : j < us0.length := by rw [hF0.len, hfl]; exact hj
   obtain ⟨o1, ho1, hI1⟩ := (hF13.same S4).at (List.getElem?_eq_getElem hj1)
   obtain ⟨o0, ho0, hI0⟩ := (hF03.same S4).at (List.getElem?_eq_getElem hj0)
   have e0 : (0 + (j : Int)) = (j : Int) := by omega
   rw [e0]
   walk_at "w"
   refine ZHp (SqT.of (S4 _ _ f13)) (ZEw (List.getElem?_eq_getElem hj1)) ?_
   walk_at "w"
   refine ZHp (SqT.of (S4 _ _ hu03)) (ZEw (List.getElem?_eq_getElem hj0)) ?_
   refine ZJz hI1 hI0 ?_
   have es := ZJN r.fs fs j
   rw [ho1, ho0] at es
   walk_at "w"
   refine ZG1 (fun hne => ?_) (fun heq => ?_)
   ·walk_at "w"
    refine ⟨_, f4, ?_, ⟨_, rfl⟩, S4.kpN n4 Kp.upd, ?_⟩
    ·rw [List.length_map]
     exact Nat.lt_of_le_of_lt (ZJ6 _ _ _) (Nat.lt_of_lt_of_le (show j < 1000 by omega) (by decide))
    ·rw [ZCy, es, if_pos (fun z => hne (Option.some.inj z)), List.map_append]
     rfl
   ·refine ⟨⟨_, rfl⟩, S4, ?_⟩
    rw [es, if_neg (fun z => z (by rw [heq])), List.append_nil]
    exact f4
end
section
variable {a : Ad} {H H' : Hp} {S : SA} {n : Int} {sm : PL} {c : Nat} {ds : List (Int × Option Int)} {ts : List Int} {ws : List V}
theorem ZCp.live (h : ZCp a H S n sm c ds ts ws) : ∀ b ∈ S.p :: S.own, ∃ o, H b = some o := by
 obtain ⟨dx, vs, h1, ⟨dy, kvs, t1, t2, t3, _⟩, h3, h4, h5, h6, h7⟩ := h
 intro b hb
 simp only [SA.own, List.mem_cons, List.not_mem_nil, or_false] at hb
 rcases hb with rfl | rfl | rfl | rfl | rfl | rfl | rfl
 ·exact ⟨_, h1⟩
 ·exact ⟨_, t1⟩
 ·exact ⟨_, t2⟩
 ·exact ⟨_, t3⟩
 ·exact ⟨_, h3⟩
 ·exact ⟨_, h5⟩
 ·exact ⟨_, h6⟩
theorem ZCp.apart (h : ZCp a H S n sm c ds ts ws) {l : List Addr} (m : ∀ b ∈ l, H b = none) : ∀ b ∈ l, b ∉ S.p :: S.own := fun b hb z => by
 obtain ⟨o, e⟩ := h.live b z
 rw [m b hb] at e; cases e
end
section
variable {P : Program} {w : World} {K : W.Frag} {mg : Str → Option Value} {base : Heap} {a : Ad}
local macro_rules | `(tactic| walk_at "rd") => `(tactic| first
 | with_reducible first | refine ZDa (by assumption) (‹Txt _ _ _›).ZI (‹Txt _ _ _›).ZO ZEl ?_ | refine ZDa (by assumption) (‹Txt _ _ _›).ZH (‹Txt _ _ _›).JY ZLa ?_ | refine ZDa (by assumption) (‹Txt _ _ _›).ZH (‹Txt _ _ _›).JA ZJ5 ?_ | refine ZDa (by assumption) (‹Txt _ _ _›).ZH (‹Txt _ _ _›).JT ZLb ?_ | refine ZDa (by assumption) (‹Txt _ _ _›).ZH (‹Txt _ _ _›).Zu ZGc ?_)
def StX (a : Ad) (C : Addr) (ok : Hp → PL → List V → List V → Prop) : Sp := fun vs H _ E => ∃ (S : SA) (n : Int) (sm : PL) (c : Nat) (ds : List (Int × Option Int)) (ts : List Int) (ws : List V) (us : List V), vs = .ref S.p :: us ∧ ZCp a H S n sm c ds ts ws ∧ ok H sm ws us ∧ E (.ref C) none H
def ZHa (H : Hp) (sm : PL) (_ us : List V) : Prop := ∃ v, us = [v] ∧ ((∃ t, v = .int t ∧ ZC9 sm t = none) ∨ ZEs H v)
theorem ZE4 (T : Txt K mg a) : ZCr P w K mg base (CX1 P w) 2 a.ZW a.ZX ["self", "t"] (StX a a.ZB ZHa) := by
 refine T.Yb.okx ZFD (fun vs H Q E h => ?_) (fun cdv A outer s H vs Q E hr h => ?_)
 ·obtain ⟨S, n, sm, c, ds, ts, ws, us, rfl, _, ⟨v, rfl, hv⟩, _⟩ := h
  rfl
 ·obtain ⟨S, n, sm, c, ds, ts, ws, us, rfl, hS, ⟨v, rfl, hv⟩, q⟩ := h
  have hu := ZD9 hr
  refine ⟨_, QB.h (ZCn (ZDS (QW.pt (ZE6 (ZD6 (ZEO (qcS (ZEk T) hr T.Z4 T.Zf.kp T.Z5 (ZCj (qv 1) ZCk)))) (ZEc (ZC2 (ZJI hu) (qv 1) (ZDG K rfl (ZDG K rfl (qv 0))) (by with_unfolding_all rfl))))) (ZCn (ZHL T.ZAD rfl T.ZAG (ZCj ZGh ZCk))) ZC6)), ?_⟩
  walk_at "s"
  obtain ⟨dx, vs, hp, hT, hd, hD, hn, hw, _⟩ := id hS
  obtain ⟨dy, kvs, hq, hd1, _⟩ := id hT
  walk_at "w"
  rcases hv with ⟨t, rfl, hg⟩ | hv
  ·refine ⟨_, rfl, .inl ⟨t, rfl, ?_⟩⟩
   walk_at "w"
   refine ZDu ?_
   walk_at "w"
   refine ZJJ hd1 ?_
   rw [hg]
   walk_at "w"
   refine ZD0 ?_
   walk_at "w"
   exact ZEY (by decide) q
  ·refine ⟨_, rfl, .inr ⟨hv, ?_⟩⟩
   walk_at "w"
   refine ZD0 ?_
   walk_at "w"
   exact ZEY (by decide) q
theorem ZJj (T : Txt K mg a) : ZCr P w K mg base (CX1 P w) 7 a.YN a.YS ["self", "t"] (StX a a.ZB ZHa) := by
 refine T.ZAi.okx ZHg (fun vs H Q E h => ?_) (fun cdv A outer s H vs Q E hr h => ?_)
 ·obtain ⟨S, n, sm, c, ds, ts, ws, us, rfl, _, ⟨v, rfl, hv⟩, _⟩ := h
  rfl
 ·obtain ⟨S, n, sm, c, ds, ts, ws, us, rfl, hS, ⟨v, rfl, hv⟩, q⟩ := h
  have hu := ZD9 hr
  refine ⟨_, QB.h (ZCm (ZC5 (ZC7 (qv 0) T.ZH T.Zh (ZE4 T) hr.m T.Zi .nil ZDx (ZCj (qv 1) ZCk))) (ZCn ZDF)), ?_⟩
  walk_at "s"
  obtain ⟨dx, vs, hp, hT, hd, hD, hn, hw, _⟩ := id hS
  obtain ⟨dy, kvs, hq, hd1, _⟩ := id hT
  walk_at "w"
  refine ZC0 hp ZDT ?_
  walk_at "w"
  exact ⟨S, n, sm, c, ds, ts, ws, [v], rfl, hS, ⟨v, rfl, hv⟩, q⟩
theorem ZIu (T : Txt K mg a) : ZCr P w K mg base (CX1 P w) 3 a.Yn a.Yo ["self", "t"] (StX a a.ZB ZHa) := by
 refine T.ZBS.okx ZJM (fun vs H Q E h => ?_) (fun cdv A outer s H vs Q E hr h => ?_)
 ·obtain ⟨S, n, sm, c, ds, ts, ws, us, rfl, _, ⟨v, rfl, hv⟩, _⟩ := h
  rfl
 ·obtain ⟨S, n, sm, c, ds, ts, ws, us, rfl, hS, ⟨v, rfl, hv⟩, q⟩ := h
  have hu := ZD9 hr
  refine ⟨_, QB.h (ZCm (ZC5 (ZC7 (qv 0) T.ZH T.Zh (ZE4 T) hr T.Zi .nil ZDx (ZCj (qv 1) ZCk))) (ZCn ZDF)), ?_⟩
  walk_at "s"
  obtain ⟨dx, vs, hp, hT, hd, hD, hn, hw, _⟩ := id hS
  obtain ⟨dy, kvs, hq, hd1, _⟩ := id hT
  walk_at "w"
  refine ZC0 hp ZDT ?_
  walk_at "w"
  exact ⟨S, n, sm, c, ds, ts, ws, [v], rfl, hS, ⟨v, rfl, hv⟩, q⟩
def ZUc (_ : Hp) (_ : PL) (_ us : List V) : Prop := ∃ (t : Int) (h : V), us = [.int t, h] ∧ ¬ Tm t
theorem ZKP (T : Txt K mg a) : ZCr P w K mg base (CX1 P w) 7 a.Yt a.Ys ["self", "t", "h"] (StX a a.ZA ZUc) := by
 refine T.ZAu.okx ZH4 (fun vs H Q E h => ?_) (fun cdv A outer s H vs Q E hr h => ?_)
 ·obtain ⟨S, n, sm, c, ds, ts, ws, us, rfl, _, ⟨t, h, rfl, ht⟩, _⟩ := h
  rfl
 ·obtain ⟨S, n, sm, c, ds, ts, ws, us, rfl, hS, ⟨t, h, rfl, ht⟩, q⟩ := h
  have hu := ZD9 hr
  refine ⟨_, QB.h (ZCm (ZC5 (ZE7 (ZGn T) hr.m rfl T.YY T.Za.kp T.YU .nil ZDx (ZCj (qv 1) ZCk))) (ZCn ZDF)), ?_⟩
  walk_at "s"
  obtain ⟨dx, vs, hp, hT, hd, hD, hn, hw, _⟩ := id hS
  obtain ⟨dy, kvs, hq, hd1, _⟩ := id hT
  walk_at "w"
  exact ⟨t, rfl, ht, q⟩
def ZUd (H : Hp) (_ : PL) (_ us : List V) : Prop := ∃ x y : V, us = [x, y] ∧ ZNB H x y
theorem ZGu (T : Txt K mg a) : ZCr P w K mg base (CX1 P w) 6 a.JU a.JJ ["self", "begin", "end"] (StX a a.ZA ZUd) := by
 refine T.ZBg.okx ZKO (fun vs H Q E h => ?_) (fun cdv A outer s H vs Q E hr h => ?_)
 ·obtain ⟨S, n, sm, c, ds, ts, ws, us, rfl, _, ⟨x, y, rfl, hb⟩, _⟩ := h
  rfl
 ·obtain ⟨S, n, sm, c, ds, ts, ws, us, rfl, hS, ⟨x, y, rfl, hb⟩, q⟩ := h
  have hu := ZD9 hr
  refine ⟨_, QB.h (ZCn (ZCw (ZC7 (ZDG K rfl (qv 0)) T.ZI T.ZAo (ZKM T) hr T.ZAs .nil ZDx (ZCj (qv 1) (ZCj (qv 2) ZCk))))), ?_⟩
  walk_at "s"
  obtain ⟨dx, vs, hp, hT, hd, hD, hn, hw, _⟩ := id hS
  obtain ⟨dy, kvs, hq, hd1, _⟩ := id hT
  walk_at "w"
  refine ZC0 hq ZEt ?_
  walk_at "w"
  exact ⟨S.tr, S.d1, S.d2, n, x, y, sm, c, rfl, hT, hb, q⟩
def ZTu (H : Hp) (_ : PL) (_ us : List V) : Prop := ∃ (u : Addr) (b y m : Int), us = [.ref u] ∧ H u = some (.tup [.int b, .int y, .int m]) ∧ 0 ≤ m ∧ m ≤ 1000 ∧ ¬ (InT b ∧ InT (b + m * y))
theorem ZGM (T : Txt K mg a) : ZCr P w K mg base (CX1 P w) 7 a.YC a.Z9 ["self", "window"] (StX a a.ZA ZTu) := by
 refine T.ZAM.okx ZGq (fun vs H Q E h => ?_) (fun cdv A outer s H vs Q E hr h => ?_)
 ·obtain ⟨S, n, sm, c, ds, ts, ws, us, rfl, _, ⟨u, b, y, m, rfl, hu1, hm0, hm1, hb⟩, _⟩ := h
  rfl
 ·obtain ⟨S, n, sm, c, ds, ts, ws, us, rfl, hS, ⟨u, b, y, m, rfl, hu1, hm0, hm1, hb⟩, q⟩ := h
  have hu := ZD9 hr
  refine ⟨_, QB.h (ZCn (ZCw (ZC7 (ZDG K rfl (qv 0)) T.ZI T.ZAR (ZJf T) hr T.ZAZ .nil ZDx (ZCj (qv 1) ZCk)))), ?_⟩
  walk_at "s"
  obtain ⟨dx, vs, hp, hT, hd, hD, hn, hw, _⟩ := id hS
  obtain ⟨dy, kvs, hq, hd1, _⟩ := id hT
  walk_at "w"
  refine ZC0 hq ZEt ?_
  walk_at "w"
  exact ⟨S.tr, u, S.d1, S.d2, n, b, y, m, sm, c, rfl, hT, hu1, hm0, hm1, hb, q⟩
theorem ZJO (T : Txt K mg a) : ZCr P w K mg base (CX1 P w) 8 a.YD a.YB ["self", "window"] (StX a a.ZA ZTu) := by
 refine T.ZAO.okx ZGs (fun vs H Q E h => ?_) (fun cdv A outer s H vs Q E hr h => ?_)
 ·obtain ⟨S, n, sm, c, ds, ts, ws, us, rfl, _, ⟨u, b, y, m, rfl, hu1, hm0, hm1, hb⟩, _⟩ := h
  rfl
 ·obtain ⟨S, n, sm, c, ds, ts, ws, us, rfl, hS, ⟨u, b, y, m, rfl, hu1, hm0, hm1, hb⟩, q⟩ := h
  have hu := ZD9 hr
  refine ⟨_, QB.h (ZCm (ZC5 (ZJA PySem.F.plainAttrs_list PySem.F.slot_list_append PySem.F.type_list_append ZEn (ZDG K rfl (qv 0)) (ZCj (ZDK (ZCj (qv 1) (ZCj (ZC7 (qv 0) T.ZH T.YA (ZGM T) hr T.YE .nil ZDx (ZCj (qv 1) ZCk)) ZCk))) ZCk))) (ZCn (ZCw (ZCs ZEF (ZC8 (ZFI K rfl) rfl T.YQ ZFG (ZCj (ZDG K rfl (qv 0)) ZCk)) ZCl)))), ?_⟩
  walk_at "s"
  obtain ⟨dx, vs, hp, hT, hd, hD, hn, hw, _⟩ := id hS
  obtain ⟨dy, kvs, hq, hd1, _⟩ := id hT
  walk_at "w"
  refine ⟨tyL hw, ?_⟩
  walk_at "w"
  refine ZC0 hp ZDT ?_
  walk_at "w"
  exact ⟨S, n, sm, c, ds, ts, ws, _, rfl, hS, ⟨u, b, y, m, rfl, hu1, hm0, hm1, hb⟩, q⟩
def ZTv (H : Hp) (_ : PL) (ws us : List V) : Prop := ∃ v, us = [v] ∧ ((∃ i : Int, v = .int i ∧ (i < 0 ∨ (ws.length : Int) ≤ i)) ∨ ZEs H v)
theorem ZJk (T : Txt K mg a) : ZCr P w K mg base (CX1 P w) 8 a.Yc a.YX ["self", "number"] (StX a a.ZD ZTv) := by
 refine T.ZAP.okx ZEf (fun vs H Q E h => ?_) (fun cdv A outer s H vs Q E hr h => ?_)
 ·obtain ⟨S, n, sm, c, ds, ts, ws, us, rfl, _, ⟨v, rfl, hv⟩, _⟩ := h
  rfl
 ·obtain ⟨S, n, sm, c, ds, ts, ws, us, rfl, hS, ⟨v, rfl, hv⟩, q⟩ := h
  have hu := ZD9 hr
  refine ⟨_, QB.h (ZCm (ZDS (QW.pt (ZE6 (ZD6 (ZEO (qcS (ZEk T) hr.m T.Z4 T.Zf.kp T.Z5 (ZCj (qv 1) ZCk)))) (ZEc (ZD6 (ZG2 ZGF ZGE ZCl (qv 1) (ZC8 (ZFI K rfl) rfl T.YQ ZFG (ZCj (ZDG K rfl (qv 0)) ZCk))))))) (ZCn (ZHL T.ZAj rfl T.ZBT (ZCj ZGh ZCk))) ZC6) (ZCm ZDF (ZCm ZDF (ZCm ZDF (ZCn ZDF))))), ?_⟩
  walk_at "s"
  obtain ⟨dx, vs, hp, hT, hd, hD, hn, hw, _⟩ := id hS
  obtain ⟨dy, kvs, hq, hd1, _⟩ := id hT
  walk_at "w"
  rcases hv with ⟨i, rfl, hg⟩ | hv
  ·refine ⟨_, rfl, .inl ⟨i, rfl, ?_⟩⟩
   walk_at "w"
   refine ZDu ?_
   walk_at "w"
   refine ZDU (fun h1 => ?_) (fun h1 => ?_)
   ·walk_at "w"
    refine ZG1 (fun _ => ?_) (fun h => absurd h (by omega))
    walk_at "w"
    exact ZEY (by decide) q
   ·walk_at "w"
    refine ZD0 ?_
    walk_at "w"
    exact ZEY (by decide) q
  ·refine ⟨_, rfl, .inr ⟨hv, ?_⟩⟩
   walk_at "w"
   refine ZD0 ?_
   walk_at "w"
   exact ZEY (by decide) q
def ZQT (a : Ad) : Sp := fun vs H _ E => ∃ (p dx t : Addr) (cv : PL), vs = [.ref p, .ref t] ∧ H p = some (.ins a.ZG dx []) ∧ PrT H t cv ∧ (cv.map (·.1)).Nodup ∧ (∃ q ∈ cv, ¬ Tm q.1) ∧ cv.length ≤ 100 ∧ ∀ H', ZCq H H' → E (.ref a.ZA) none H'
theorem ZH5 (T : Txt K mg a) : ZCr P w K mg base (CX1 P w) 7 a.Zj a.ZR ["self", "curve"] (ZQT a) := by
 refine T.JV.okx ZFu (by walk_at "l") (fun cdv A outer s H vs Q E hr h => ?_)
 ·obtain ⟨p, dx, t, cv, rfl, hp, hT, hnd, hb, hlen, k⟩ := h
  refine ⟨_, QB.h (ZCm (ZEr K rfl (qv 0) (ZJY T.ZB7 (ZIK T) hr rfl T.ZCL T.Ja .nil ZDx (ZCj (qv 1) ZCk))) (ZCm ZDF (ZCm ZDF (ZCn ZDF)))), ?_⟩
  walk_at "s"
  walk_at "w"
  refine ZIF fun tr dt H1 n1 f1 S1 => ?_
  exact ⟨tr, dt, t, cv, rfl, f1, hT.same S1, hnd, hb, hlen, fun H2 K2 => k H2 (S1.kpN n1 K2)⟩
end
def ZUN (K : W.Frag) : Sp := fun vs H Q _ => ∃ (s : Addr) (ns : List Int) (k : Int), vs = [.ref s, .int k] ∧ SqL K H s (ns.map V.int) ∧ 0 ≤ k ∧ Q (.int (ns.getD k.toNat 0)) H
def ZUO : Sp := fun vs H Q _ => ∃ c : Int, vs = [.int c] ∧ ∀ (p : Addr) (H' : Hp), H p = none → Pot H' p → ZCq H H' → Q (.ref p) H'
def ZTw : Sp := fun vs H Q _ => ∃ (p : Addr) (n : Int), vs = [.ref p, .int n] ∧ Pot H p ∧ 0 < n ∧ n < 2 ^ 250 ∧ ∀ (d : Int) (H' : Hp), 0 ≤ d → d < n → Pot H' p → Kp p H H' → Q (.int d) H'
section
variable {P : Program} {w : World} {K : W.Frag} {mg : Str → Option Value} {base : Heap} {a : Ad}
theorem ZQU : ZCv ["_law_script", "_law_k"] ["_law_script", "_law_k"] (ZCo ZJd) := ZDI
theorem ZQV (T : Txt K mg a) : ZCr P w K mg base CX0 1 a.ZBN a.ZBO ["_law_script", "_law_k"] (ZUN K) := by
 refine T.ZB9.ok ZQU (by walk_at "l") (fun cdv A outer s H vs Q E hr h => ?_)
 ·obtain ⟨p, ns, k, rfl, hS, hk, q⟩ := h
  refine ⟨_, QB.h (ZCn (ZCw (ZIc (ZC2 (ZGE) (qv 1) (ZC8 (ZFI K rfl) rfl T.YQ ZFG (ZCj (qv 0) ZCk)) (ZC4 _)) (ZDB (ZDc K rfl) (qv 0) (qv 1)) ZCl))), ?_⟩
  walk_at "s"
  walk_at "w"
  rw [List.length_map]
  refine ZDU (fun h => ?_) (fun h => ?_)
  ·walk_at "w"
   obtain ⟨n, rfl⟩ : ∃ n : Nat, k = (n : Int) := ⟨k.toNat, by omega⟩
   have hk2 : n < ns.length := by omega
   refine ZEB (v := .int (ns.getD n 0)) hS (ZEw ?_) q
   rw [List.getElem?_map, List.getElem?_eq_getElem hk2]
   simp [List.getD, hk2]
  ·walk_at "w"
   have e : ns.getD k.toNat 0 = 0 := by
    rw [List.getD, List.getElem?_eq_none (by omega)]
    rfl
   rw [e] at q
   exact q
theorem ZQW : ZCv ["_law_cell_here"] ["_law_cell_here"] (ZCo ZJe) := ZDI
theorem ZQX (T : Txt K mg a) : ZCr P w K mg base CX0 1 a.ZBR a.ZBQ ["_law_cell_here"] ZUO := by
 refine T.ZB8.ok ZQW (by walk_at "l") (fun cdv A outer s H vs Q E hr h => ?_)
 ·obtain ⟨c, rfl, k⟩ := h
  refine ⟨_, QB.h (ZCn (ZCw (ZD7 (ZCj (ZCs ZDl (qv 0) (ZDi ZI8 rfl T.Js ZHo (ZCj (ZFW (ZQc) (qv 0) (ZCs ZD5 ZCl ZCl) (ZC4 _)) ZCk))) (ZCj (ZCs ZGf (ZCs ZDZ (ZCs ZDl (qv 0) ZCl) ZCl) ZCl) ZCk))))), ?_⟩
  walk_at "s"
  walk_at "w"
  refine ZC1 (by show 2 ≤ sizeLine; decide) fun p H2 hp f2 S2 => ?_
  refine k p H2 hp ⟨_, _, f2, ?_, Int.emod_nonneg _ (by decide), ?_⟩ S2
  ·split
   ·rename_i h
    have := of_decide_eq_true h
    omega
   ·omega
  ·exact Int.lt_of_lt_of_le (Int.emod_lt_of_pos _ (by decide)) (by decide)
theorem ZJ7 : ZCv ["_law_pot_here", "_law_many", "_law_digit"] ["_law_pot_here", "_law_many"] (ZCo ZIn) := ZDI
theorem ZDD (T : Txt K mg a) : ZCr P w K mg base CX0 1 a.ZA5 a.ZA8 ["_law_pot_here", "_law_many"] ZTw := by
 refine T.ZJ.ok ZJ7 (by walk_at "l") (fun cdv A outer s H vs Q E hr h => ?_)
 ·obtain ⟨p, n, rfl, ⟨x, y, hp, hx, hy, hy2⟩, hn, hn2, k⟩ := h
  have hdiv : ∀ i : Int, ZH9 i n := fun i => ZH9.of (k := 250) hn hn2 (by decide)
  refine ⟨_, QB.h (ZCm (ZDS (ZC2 (ZQb) (ZDB (ZDc K rfl) (qv 0) ZCl) ZCl (ZC4 _)) (ZCm (qsS (i := 2) ZJ7.nd (ZCs ZGf (ZDB (ZDc K rfl) (qv 0) ZCl) (qv 1))) (ZCm (ZFH (ZCs ZGz (ZDB (ZDc K rfl) (qv 0) ZCl) (qv 1)) (ZKm (qv 0) ZCl ZIZ)) (ZCn (ZCw (qv 2))))) ZC6) (ZCm (ZFH (ZCs ZGf (ZCs ZDZ (ZCs ZDl (ZDB (ZDc K rfl) (qv 0) ZCl) ZCl) ZCl) ZCl) (ZKm (qv 0) ZCl ZIZ)) (ZCn (ZCw (ZCs ZGf (ZCs ZGz (ZCs ZGf (ZCs ZDl (ZDB (ZDc K rfl) (qv 0) ZCl) (ZDB (ZDc K rfl) (qv 0) ZCl)) ZCl) ZCl) (qv 1)))))), ?_⟩
  walk_at "s"
  walk_at "w"
  refine ZDU (fun h => ?_) (fun h => ?_)
  ·walk_at "w"
   refine ZJS hp (by rfl) ?_
   walk_at "w"
   exact k _ _ (Int.emod_nonneg _ (by omega)) (Int.emod_lt_of_pos _ hn) ⟨_, _, ZCy, Int.ediv_nonneg hx (by omega), hy, hy2⟩ Kp.upd
  ·walk_at "w"
   refine ZJS hp (by rfl) ?_
   have hs : upd H p (.lst [V.int x, V.int ((y * 39373 + 3023) % 2147483587)]) p = some (.lst [V.int x, V.int ((y * 39373 + 3023) % 2147483587)]) := ZCy
   have h0 : 0 ≤ (y * 39373 + 3023) % 2147483587 := Int.emod_nonneg _ (by decide)
   have h1 : (y * 39373 + 3023) % 2147483587 < 2147483587 := Int.emod_lt_of_pos _ (by decide)
   walk_at "w"
   exact k _ _ (Int.emod_nonneg _ (by omega)) (Int.emod_lt_of_pos _ hn) ⟨_, _, ZCy, hx, h0, Int.lt_of_lt_of_le h1 (by decide)⟩ Kp.upd
def ZSK (K : W.Frag) : Sp := fun vs H Q _ => ∃ (s : Addr) (ns : List Int) (k : Int), vs = [.ref s, .int k] ∧ SqL K H s (ns.map V.int) ∧ 0 ≤ k ∧ k ≤ 1000 ∧ ∀ (p : Addr) (H' : Hp), H p = none → Pot H' p → ZCq H H' → Q (.ref p) H'
theorem ZJ8 : ZCv ["_law_script", "_law_place", "_law_cell_here"] ["_law_script", "_law_place"] (ZCo ZIo) := ZDI
theorem ZJ9 (T : Txt K mg a) : ZCr P w K mg base CX0 2 a.ZA2 a.ZAy ["_law_script", "_law_place"] (ZSK K) := by
 refine T.ZA0.ok ZJ8 (by walk_at "l") (fun cdv A outer s H vs Q E hr h => ?_)
 ·obtain ⟨s, ns, k, rfl, hS, h0, h1, q⟩ := h
  refine ⟨_, QB.h (ZCm (qsS (i := 2) ZJ8.nd (qcS (ZQV T) hr T.ZCa T.ZB9.kp T.ZCb (ZCj (qv 0) (ZCj (qv 1) ZCk)))) (ZCn (ZCw (qcS (ZQX T) hr T.ZCZ T.ZB8.kp T.ZCc (ZCj (ZCs ZDZ (qv 2) (ZCs ZDl (ZCs ZDl ZCl (qv 1)) (ZDi ZI8 rfl T.Js ZHo (ZCj (ZFW (ZGE) (ZC8 ZS7 rfl T.ZCD ZS0 (ZCj (qv 2) ZCk)) (ZCs ZD5 ZCl ZCl) (ZC4 _)) ZCk)))) ZCk))))), ?_⟩
  walk_at "s"
  walk_at "w"
  refine ⟨s, ns, _, rfl, hS, h0, ?_⟩
  walk_at "w"
  exact ⟨_, rfl, q⟩
def ZOf : Sp := fun vs H Q _ => ∃ p, vs = [.ref p] ∧ Pot H p ∧ ∀ (x : Int) (H' : Hp), Pot H' p → Kp p H H' → Q (.int x) H'
theorem ZLz : ZCv ["_law_pot_here"] ["_law_pot_here"] (ZCo ZHT) := ZDI
theorem ZGd (T : Txt K mg a) : ZCr P w K mg base CX0 2 a.ZAK a.Jz ["_law_pot_here"] ZOf := by
 refine T.JH.ok ZLz (by walk_at "l") (fun cdv A outer s H vs Q E hr h => ?_)
 ·obtain ⟨p, rfl, hp, k⟩ := h
  refine ⟨_, QB.h (ZCm (ZDS (ZC2 (ZEI) (qcS (ZDD T) hr T.ZK T.ZJ.kp T.ZL (ZCj (qv 0) (ZCj ZCl ZCk))) ZCl (ZC4 _)) (ZCn (ZCw (ZCs ZDZ (ZCs ZEF (qcS (ZDD T) hr T.ZK T.ZJ.kp T.ZL (ZCj (qv 0) (ZCj (ZCs ZEF (ZCs ZDl ZCl (ZCs ZD5 ZCl ZCl)) ZCl) ZCk))) (ZCs ZD5 ZCl ZCl)) ZCl))) ZC6) (ZCn (ZCw (ZCs ZEF (qcS (ZDD T) hr T.ZK T.ZJ.kp T.ZL (ZCj (qv 0) (ZCj ZCl ZCk))) ZCl)))), ?_⟩
  walk_at "s"
  walk_at "w"
  refine ⟨p, _, rfl, hp, by decide, by decide, fun d1 H1 h1 h1' P1 K1 => ?_⟩
  walk_at "w"
  rw [ZEJ]
  refine ZDU (fun _ => ?_) (fun _ => ?_)
  ·walk_at "w"
   refine ⟨p, _, rfl, P1, by decide, by decide, fun d2 H2 h2 h2' P2 K2 => ?_⟩
   walk_at "w"
   exact k _ H2 P2 (K1.trans K2)
  ·walk_at "w"
   refine ⟨p, _, rfl, P1, by decide, by decide, fun d2 H2 h2 h2' P2 K2 => ?_⟩
   walk_at "w"
   exact k _ H2 P2 (K1.trans K2)
def ZSL (K : W.Frag) : Sp := fun vs H Q _ => ∃ (d : Addr) (m : PL), vs = [.ref d] ∧ H d = some (.dK (ZDN m)) ∧ (m.map (·.1)).Nodup ∧ m.length < 64 ∧
 ∀ (t : Addr) (cv : PL) (H' : Hp), PrT H' t cv → Asc cv → (∀ q, q ∈ cv ↔ q ∈ m) → cv.length = m.length → ZCq H H' → Q (.ref t) H'
theorem ZOg : ZCv ["_law_held"] ["_law_held"] (ZCo ZHU) := ZDI
theorem ZGN (T : Txt K mg a) : ZCr P w K mg base CX0 1 a.ZAz a.ZBA ["_law_held"] (ZSL K) := by
 refine T.JI.ok ZOg (by walk_at "l") (fun cdv A outer s H vs Q E hr h => ?_)
 ·obtain ⟨d, m, rfl, hd, hnd, hlen, k⟩ := h
  have hu := ZD9 hr
  refine ⟨_, QB.h (ZCn (ZCw (ZDi (ZEq K rfl) rfl T.Zr ZEo (ZCj (ZGj (N := ["_law_held"]) (sc := ZCo ZHU) (own := ["_law_t"]) (caps := ["_law_held"]) (ks := [0]) rfl rfl rfl ⟨rfl, by decide +kernel, by decide +kernel, by decide +kernel, by decide +kernel, rfl, by decide +kernel⟩ (ZGk K rfl (ZC8 (ZG7 rfl) rfl T.Ym ZGH (ZCj (qv 0) ZCk))) (fun _ _ _ _ _ => ZEy (i := 0) (show List.Nodup (α := Str) ["_law_t", "_law_held"] from by decide +kernel) rfl (by walk_at "o") (.inr rfl)) (fun _ _ _ _ _ => ZG3) (fun _ _ _ _ _ => ZDK (ZCj (qv 0) (ZCj (ZID hu (qv 1) (qv 0)) ZCk)))) ZCk)))), ?_⟩
  walk_at "s"
  walk_at "w"
  refine ZHD hd (by omega) fun l2 H2 ns n2 f2 hp hs S2 => ?_
  have hnl : ns.length = m.length := by have := hp.length_eq; simpa using this
  walk_at "w"
  intro l3 n3
  have S23 : ZCq H2 (upd H2 l3 (.lst [])) := ZCq.new n3
  refine ZFV ns.length (fun i σ' H' => (∃ o, σ' = [o, some (.ref d)]) ∧ ZCq H2 H' ∧ ∃ vs, H' l3 = some (.lst vs) ∧ ZCt H' vs ((ZDM m ns).take i)) ?_ ?_ ?_
  ·exact ⟨⟨none, rfl⟩, S23, [], ZCy, .nil⟩
  ·rintro σ H' ⟨_, s, vs, f3, hPc⟩
   refine ⟨⟨_, SqL.of (s _ _ f2), by simp⟩, ?_⟩
   walk_at "w"
   refine ZFA (SqL.of f3) fun t H4 n4 f4 S4 => ?_
   have ecv : (ZDM m ns).take ns.length = ZDM m ns := List.take_of_length_le (by simp [ZDM])
   rw [ecv] at hPc
   have hC := ZHE hnd hp hs
   refine k t _ H4 ⟨vs, f4, hPc.same S4⟩ hC.1 (fun q => ?_) (ZLn hp) ((S2.trans s).trans S4)
   obtain ⟨x, y⟩ := q
   rw [hC.2, ZD3 hnd]
  ·rintro i σ H' hi ⟨⟨o, rfl⟩, s, vs, f3, hPc⟩
   have hi2 : i < (ns.map V.int).length := by simpa using hi
   refine ⟨⟨_, _, SqL.of (s _ _ f2), List.getElem?_eq_getElem hi2⟩, ?_⟩
   rintro u H'' ⟨rfl, hu'⟩
   have hu' := hu' _ (SqL.of (s _ _ f2))
   have eu : u = .int ns[i] := by
    rw [List.getElem?_map, List.getElem?_eq_getElem hi] at hu'
    simpa using hu'.symm
   subst eu
   walk_at "w"
   refine ZD0 ?_
   walk_at "w"
   have hmem : ns[i] ∈ m.map (·.1) := hp.mem_iff.mp (List.getElem_mem hi)
   obtain ⟨x, hx⟩ : ∃ x, ZC9 m ns[i] = some x := by
    cases hg : ZC9 m ns[i] with
    | none => exact absurd hmem (ZEU.mp hg)
    | some x => exact ⟨x, rfl⟩
   refine ZG9 (s _ _ (S2 _ _ hd)) hx ?_
   walk_at "w"
   refine ZC1 (by show 2 ≤ sizeLine; decide) fun t H4 n4 f4 S4 => ?_
   have f34 := S4 _ _ f3
   refine ⟨vs, f34, ?_, ⟨_, rfl⟩, ?_, ?_⟩
   ·have e := hPc.length
    rw [e, List.length_take]
    exact Nat.lt_of_le_of_lt (Nat.min_le_left _ _) (Nat.lt_of_lt_of_le (show i < 64 by omega) (by decide))
   ·exact (s.trans S4).kpN (l := l3) n3 Kp.upd
   ·refine ⟨_, ZCy, ?_⟩
    have e3 : (ZDM m ns).take (i + 1) = (ZDM m ns).take i ++ [(ns[i], x)] := by
     rw [List.take_succ]
     congr 1
     simp [ZDM, List.getElem?_eq_getElem hi, hx]
    rw [e3]
    exact ZCt.kpL Kp.upd f34 ((hPc.same S4).snoc f4)
def ZTx : Sp := fun vs H Q _ => ∃ p, vs = [.ref p] ∧ Pot H p ∧ ∀ (d : Addr) (m : PL) (H' : Hp), H d = none → H' d = some (.dK (ZDN m)) → (m.map (·.1)).Nodup → m.length ≤ 6 → (∀ q ∈ m, -12 ≤ q.1 ∧ q.1 ≤ 12) → Pot H' p → Kp p H H' → Q (.ref d) H'
theorem ZGO : ZCv ["_law_pot_here", "_law_held", "_law_k", "_law_t"] ["_law_pot_here"] (ZCo ZIr) := ZDI
theorem ZOh (T : Txt K mg a) : ZCr P w K mg base CX0 3 a.ZA3 a.ZBB ["_law_pot_here"] ZTx := by
 refine T.ZBi.ok ZGO (by walk_at "l") (fun cdv A outer s H vs Q E hr h => ?_)
 ·obtain ⟨p, rfl, hp, k⟩ := h
  have hu := ZD9 hr
  refine ⟨_, QB.h (ZCm (qsS (i := 1) ZGO.nd ZG8) (ZCm (ZFl PassesOwn.never rfl (ZFk rfl T.YI (ZCj (ZCs ZDZ ZCl (qcS (ZDD T) hr.m T.ZK T.ZJ.kp T.ZL (ZCj (qv 0) (ZCj ZCl ZCk)))) ZCk)) (qgN (i := 2) ZGO.nd) (ZCm (qsS (i := 3) ZGO.nd (ZCs ZEF (qcS (ZDD T) hr.m T.ZK T.ZJ.kp T.ZL (ZCj (qv 0) (ZCj ZCl ZCk))) ZCl)) (ZCn (ZF0 hu (qcS (ZGd T) hr T.ZAH T.JH.kp T.ZAE (ZCj (qv 0) ZCk)) (qv 1) (qv 3))))) (ZCn (ZCw (qv 1))))), ?_⟩
  walk_at "s"
  walk_at "w"
  refine ZHB fun d H1 n1 f1 S1 => ?_
  have ndp : d ≠ p := hp.neN n1
  walk_at "w"
  refine ⟨p, _, rfl, hp.same S1, by decide, by decide, fun c H2 h2 h2' P2 K2 => ?_⟩
  have f2 := K2 _ _ f1 ndp
  have K02 : Kp p H H2 := (Kp.same S1).trans K2
  walk_at "w"
  refine ZHq (by omega) (by omega) (ZJT (fun i σ H' => (∃ v2 v3, σ = [some (.ref p), some (.ref d), v2, v3]) ∧ Pot H' p ∧ Kp p H H' ∧ ∃ m, H' d = some (.dK (ZDN m)) ∧ (m.map (·.1)).Nodup ∧ m.length ≤ i ∧ ∀ q ∈ m, -12 ≤ q.1 ∧ q.1 ≤ 12) ?_ ?_ ?_)
  ·exact ⟨⟨_, _, rfl⟩, P2, K02, [], f2, List.nodup_nil, Nat.le_refl _, fun q hq => by cases hq⟩
  ·rintro i σ H3 hi ⟨⟨v2, v3, rfl⟩, P3, K3, m, f3, hnd, hl, htm⟩
   walk_at "w"
   refine ⟨p, _, rfl, P3, by decide, by decide, fun t0 H4 ht0 ht1 P4 K4 => ?_⟩
   have ht : -12 ≤ t0 - 12 ∧ t0 - 12 ≤ 12 := by omega
   walk_at "w"
   refine ⟨p, rfl, P4, fun h H5 P5 K5 => ?_⟩
   have f5 := (K4.trans K5) _ _ f3 ndp
   walk_at "w"
   refine ZHA f5 (Nat.lt_of_le_of_lt (show m.length ≤ 6 by omega) (by decide)) fun H6 f6 K6 => ?_
   walk_at "w"
   refine ⟨⟨_, _, rfl⟩, ?_, ?_, ZDO m (t0 - 12) h, f6, ZEz hnd, Nat.le_trans (ZE8 _ _ _) (by omega), fun q hq => ?_⟩
   ·obtain ⟨u, v, e, z⟩ := P5
    exact ⟨u, v, K6 _ _ e (Ne.symm ndp), z⟩
   ·intro b o e nb
    exact K6 _ _ (((K3.trans K4).trans K5) b o e nb) (ZDH e n1)
   ·rcases (ZD4 hnd).mp hq with h' | h'
    ·exact htm q h'.2
    ·rw [h']; exact ht
  ·rintro σ H3 ⟨⟨v2, v3, rfl⟩, P3, K3, m, f3, hnd, hl, htm⟩
   walk_at "w"
   exact k d m H3 n1 f3 hnd (by omega) htm P3 K3
def ZQY : Sp := fun vs H Q _ => ∃ p, vs = [.ref p] ∧ Pot H p ∧ ∀ (x : Int) (H' : Hp), (1099511627776 ≤ x ∨ x < -1099511627776) → Pot H' p → Kp p H H' → Q (.int x) H'
theorem ZIU : ZCv ["_law_pot_here", "_law_far"] ["_law_pot_here"] (ZCo ZHV) := ZDI
theorem ZIV (T : Txt K mg a) : ZCr P w K mg base CX0 2 a.J8 a.Jx ["_law_pot_here"] ZQY := by
 refine T.J6.ok ZIU (by walk_at "l") (fun cdv A outer s H vs Q E hr h => ?_)
 ·obtain ⟨p, rfl, hp, k⟩ := h
  refine ⟨_, QB.h (ZCm (qsS (i := 1) ZIU.nd (qcS (ZDD T) hr T.ZK T.ZJ.kp T.ZL (ZCj (qv 0) (ZCj (ZCs ZD5 ZCl ZCl) ZCk)))) (ZCn (ZCw (ZDB (ZDc K rfl) (ZD7 (ZCj (ZCs ZD5 ZCl ZCl) (ZCj (ZCs ZEF (ZEx ZEM (ZCs ZD5 ZCl ZCl)) ZCl) (ZCj (ZCs ZDZ (ZCs ZD5 ZCl ZCl) (qv 1)) (ZCj (ZCs ZEF (ZCs ZEF (ZEx ZEM (ZCs ZD5 ZCl ZCl)) ZCl) (qv 1)) ZCk))))) (qcS (ZDD T) hr T.ZK T.ZJ.kp T.ZL (ZCj (qv 0) (ZCj ZCl ZCk))))))), ?_⟩
  walk_at "s"
  walk_at "w"
  refine ⟨p, _, rfl, hp, by decide, by decide, fun d0 H0 h0 h0' P0 K0 => ?_⟩
  walk_at "w"
  refine ZC1 (by show 4 ≤ sizeLine; decide) fun l1 H1 n1 f1 S1 => ?_
  walk_at "w"
  refine ⟨p, _, rfl, P0.same S1, by decide, by decide, fun d2 H2 h2 h2' P2 K2 => ?_⟩
  have f2 := K2 _ _ f1 (P0.neN n1)
  walk_at "w"
  have hx : ∃ x : Int, (1099511627776 ≤ x ∨ x < -1099511627776) ∧ atI [V.int 1099511627776, V.int (-1099511627776 - 1), V.int (1099511627776 + d0), V.int (-1099511627776 - 1 - d0)] d2 = some (.int x) := by
   have : d2 = 0 ∨ d2 = 1 ∨ d2 = 2 ∨ d2 = 3 := by omega
   rcases this with h | h | h | h <;> rw [h]
   ·exact ⟨_, .inl (Int.le_refl _), rfl⟩
   ·exact ⟨_, .inr (by decide), rfl⟩
   ·exact ⟨_, .inl (by omega), rfl⟩
   ·exact ⟨_, .inr (by omega), rfl⟩
  obtain ⟨x, hx1, hx2⟩ := hx
  refine ZEB (SqL.of f2) hx2 ?_
  walk_at "w"
  exact k x H2 hx1 P2 ((K0.then S1).trans K2)
def ZSM : Sp := fun vs H Q _ => ∃ p, vs = [.ref p] ∧ Pot H p ∧ ∀ (v : V) (H' : Hp), ZEs H' v → (∀ l, v = .ref l → H l = none) → Pot H' p → Kp p H H' → Q v H'
theorem ZNF : ZCv ["_law_pot_here"] ["_law_pot_here"] (ZCo ZH0) := ZDI
theorem ZFQ (T : Txt K mg a) : ZCr P w K mg base CX0 2 a.ZAS a.ZAk ["_law_pot_here"] ZSM := by
 refine T.YF.ok ZNF (by walk_at "l") (fun cdv A outer s H vs Q E hr h => ?_)
 ·obtain ⟨p, rfl, hp, k⟩ := h
  refine' ⟨_, QB.h ?pp, ?rr⟩
  case pp =>
   refine' ZCn ?h1
   case h1 =>
    refine' ZCw ?h2
    case h2 =>
     refine' ZDB (ZDc K rfl) ?h3 ?h4
     case h3 =>
      refine' ZD7 ?h5
      case h5 =>
       refine' ZCj ZEb ?h6
       case h6 =>
        refine' ZCj ZGh ?h7
        case h7 =>
         refine' ZCj ZGh ?h8
         case h8 =>
          refine' ZCj ?h9 ?h10
          case h9 =>
           exact ZDK ZCk
          case h10 =>
           refine' ZCj ?h11 ?h12
           case h11 =>
            refine' ZDK ?h13
            case h13 =>
             exact ZCj ZCl ZCk
           case h12 =>
            refine' ZCj ?h14 ?h15
            case h14 =>
             exact ZD7 ZCk
            case h15 =>
             refine' ZCj ?h16 ?h17
             case h16 =>
              refine' ZD7 ?h18
              case h18 =>
               exact ZCj ZCl ZCk
             case h17 =>
              refine' ZCj ?h19 ZCk
              case h19 =>
               refine' ZDK ?h20
               case h20 =>
                refine' ZCj ZCl ?h21
                case h21 =>
                 exact ZCj ZCl ZCk
     case h4 =>
      refine' qcS (ZDD T) hr T.ZK T.ZJ.kp T.ZL ?h22
      case h22 =>
       refine' ZCj (qv 0) ?h23
       case h23 =>
        exact ZCj ZCl ZCk
  case rr =>
  walk_at "s"
  walk_at "w"
  refine ZC1 (by show 0 ≤ sizeLine; decide) fun t1 H1 n1 f1 S1 => ?_
  walk_at "w"
  refine ZC1 (by show 1 ≤ sizeLine; decide) fun t2 H2 n2 f2 S2 => ?_
  walk_at "w"
  refine ZC1 (by show 0 ≤ sizeLine; decide) fun t3 H3 n3 f3 S3 => ?_
  walk_at "w"
  refine ZC1 (by show 1 ≤ sizeLine; decide) fun t4 H4 n4 f4 S4 => ?_
  walk_at "w"
  refine ZC1 (by show 2 ≤ sizeLine; decide) fun t5 H5 n5 f5 S5 => ?_
  walk_at "w"
  refine ZC1 (by show 8 ≤ sizeLine; decide) fun l6 H6 n6 f6 S6 => ?_
  have S56 := S5.trans S6
  have SA := S1.trans (S2.trans (S3.trans (S4.trans S56)))
  have P6 := hp.same SA
  walk_at "w"
  refine ⟨p, _, rfl, P6, by decide, by decide, fun d7 H7 h7 h7' P7 K7 => ?_⟩
  have fr2 := S1.free n2
  have fr3 := (S1.trans S2).free n3
  have fr4 := (S1.trans (S2.trans S3)).free n4
  have fr5 := (S1.trans (S2.trans (S3.trans S4))).free n5
  have fr6 := (S1.trans (S2.trans (S3.trans (S4.trans S5)))).free n6
  have g1 := K7 _ _ (S56 _ _ (S4 _ _ (S3 _ _ (S2 _ _ f1)))) (hp.neN n1)
  have g2 := K7 _ _ (S56 _ _ (S4 _ _ (S3 _ _ f2))) (hp.neN fr2)
  have g3 := K7 _ _ (S56 _ _ (S4 _ _ f3)) (hp.neN fr3)
  have g4 := K7 _ _ (S56 _ _ f4) (hp.neN fr4)
  have g5 := K7 _ _ (S6 _ _ f5) (hp.neN fr5)
  have g6 := K7 _ _ f6 (hp.neN fr6)
  have KA : Kp p H H7 := (Kp.same SA).trans K7
  walk_at "w"
  obtain ⟨n7, rfl⟩ : ∃ n : Nat, d7 = (n : Int) := ⟨d7.toNat, by omega⟩
  have h8 : n7 < 8 := by omega
  have hx : ∃ x, [V.non, .str "", .str "0", .ref t1, .ref t2, .ref t3, .ref t4, .ref t5][n7]? = some x ∧ ZEs H7 x ∧ ∀ l, x = .ref l → H l = none := by
    match n7, h8 with
    | 0, _ => exact ⟨_, rfl, .non, fun l e => by cases e⟩
    | 1, _ => exact ⟨_, rfl, .str _, fun l e => by cases e⟩
    | 2, _ => exact ⟨_, rfl, .str _, fun l e => by cases e⟩
    | 3, _ => exact ⟨_, rfl, .tup g1, fun l e => by cases e; exact n1⟩
    | 4, _ => exact ⟨_, rfl, .tup g2, fun l e => by cases e; exact fr2⟩
    | 5, _ => exact ⟨_, rfl, .lst g3, fun l e => by cases e; exact fr3⟩
    | 6, _ => exact ⟨_, rfl, .lst g4, fun l e => by cases e; exact fr4⟩
    | 7, _ => exact ⟨_, rfl, .tup g5, fun l e => by cases e; exact fr5⟩
  obtain ⟨x, hx, hB, hf⟩ := hx
  refine ZEB (SqL.of g6) (ZEw hx) ?_
  walk_at "w"
  exact k x H7 hB hf P7 KA
theorem ZEs.pot {H H' : Hp} {v : V} {q : Addr} (h : ZEs H v) (n : v ≠ .ref q) (k : Kp q H H') : ZEs H' v := by
 cases h with
 | non => exact .non
 | str x => exact .str x
 | tup e => exact .tup (k _ _ e fun z => n (by rw [z]))
 | lst e => exact .lst (k _ _ e fun z => n (by rw [z]))
def ZQZ : Sp := fun vs H Q _ => ∃ p, vs = [.ref p] ∧ Pot H p ∧ ∀ (u : Addr) (b y m : Int) (H' : Hp), H' u = some (.tup [.int b, .int y, .int m]) → 0 ≤ m → m ≤ 1000 → ¬ (InT b ∧ InT (b + m * y)) → Pot H' p → Kp p H H' → Q (.ref u) H'
theorem ZFi : ZCv ["_law_pot_here", "_law_wide", "_law_many", "_law_begins"] ["_law_pot_here"] (ZCo ZHW) := ZDI
theorem ZIW (T : Txt K mg a) : ZCr P w K mg base CX0 2 a.Ju a.ZAI ["_law_pot_here"] ZQZ := by
 refine T.J5.ok ZFi (by walk_at "l") (fun cdv A outer s H vs Q E hr h => ?_)
 ·obtain ⟨p, rfl, hp, k⟩ := h
  refine ⟨_, QB.h (ZCm (qsS (i := 1) ZFi.nd (ZCs ZDZ ZCl (qcS (ZDD T) hr T.ZK T.ZJ.kp T.ZL (ZCj (qv 0) (ZCj ZCl ZCk))))) (ZCm (qsS (i := 2) ZFi.nd (ZCs ZDZ ZCl (qcS (ZDD T) hr T.ZK T.ZJ.kp T.ZL (ZCj (qv 0) (ZCj ZCl ZCk))))) (ZCm (qsS (i := 3) ZFi.nd (ZD7 (ZCj (ZCs ZDZ (ZCs ZEF (ZCs ZD5 ZCl ZCl) (ZCs ZDl (qv 1) (qv 2))) ZCl) (ZCj (ZCs ZEF (ZEx ZEM (ZCs ZD5 ZCl ZCl)) ZCl) (ZCj (ZCs ZEF (ZEx ZEM (ZCs ZD5 ZCl ZCl)) (ZCs ZDl (qv 1) (qv 2))) (ZCj (ZCs ZDZ (ZCs ZD5 ZCl ZCl) (qcS (ZDD T) hr T.ZK T.ZJ.kp T.ZL (ZCj (qv 0) (ZCj (ZCs ZD5 ZCl ZCl) ZCk)))) ZCk)))))) (ZCn (ZCw (ZDK (ZCj (ZDB (ZDc K rfl) (qv 3) (qcS (ZDD T) hr T.ZK T.ZJ.kp T.ZL (ZCj (qv 0) (ZCj ZCl ZCk)))) (ZCj (qv 1) (ZCj (qv 2) ZCk))))))))), ?_⟩
  walk_at "s"
  walk_at "w"
  refine ⟨p, _, rfl, hp, by decide, by decide, fun d1 H1 h1 h1' P1 K1 => ?_⟩
  walk_at "w"
  refine ⟨p, _, rfl, P1, by decide, by decide, fun d2 H2 h2 h2' P2 K2 => ?_⟩
  have hm : (1 + d2) * (1 + d1) = (1 + d1) * (1 + d2) := Int.mul_comm _ _
  have hpos : 0 < (1 + d1) * (1 + d2) := Int.mul_pos (by omega) (by omega)
  walk_at "w"
  refine ⟨p, _, rfl, P2, by decide, by decide, fun d3 H3 h3 h3' P3 K3 => ?_⟩
  walk_at "w"
  refine ZC1 (by show 4 ≤ sizeLine; decide) fun l4 H4 n4 f4 S4 => ?_
  walk_at "w"
  refine ⟨p, _, rfl, P3.same S4, by decide, by decide, fun d5 H5 h5 h5' P5 K5 => ?_⟩
  have f5 := K5 _ _ f4 (P3.neN n4)
  walk_at "w"
  have hx : ∃ x : Int, ¬ (InT x ∧ InT (x + (1 + d2) * (1 + d1))) ∧ atI [V.int (1099511627776 - (1 + d1) * (1 + d2) + 1), V.int (-1099511627776 - 1), V.int (-1099511627776 - (1 + d1) * (1 + d2)), V.int (1099511627776 + d3)] d5 = some (.int x) := by
   unfold InT
   rw [hm]
   generalize (1 + d1) * (1 + d2) = pr at hpos
   have : d5 = 0 ∨ d5 = 1 ∨ d5 = 2 ∨ d5 = 3 := by omega
   rcases this with h | h | h | h <;> rw [h]
   ·exact ⟨_, (fun z => by omega), rfl⟩
   ·exact ⟨_, (fun z => by omega), rfl⟩
   ·exact ⟨_, (fun z => by omega), rfl⟩
   ·exact ⟨_, (fun z => by omega), rfl⟩
  obtain ⟨x, hx1, hx2⟩ := hx
  refine ZEB (SqL.of f5) hx2 ?_
  walk_at "w"
  refine ZC1 (by show 3 ≤ sizeLine; decide) fun t6 H6 n6 f6 S6 => ?_
  exact k t6 _ _ _ H6 f6 (by omega) (by omega) hx1 (P5.same S6) (((((K1.trans K2).trans K3).then S4).trans K5).then S6)
def ZFz (a : Ad) (way : Int) : Addr := if way = 1 ∨ way = 2 then a.ZB else if way = 7 then a.ZD else a.ZA
theorem ZCp.potX {a : Ad} {H H' : Hp} {S : SA} {n : Int} {sm : PL} {c : Nat} {ds : List (Int × Option Int)} {ts : List Int} {ws : List V} {p : Addr} (h : ZCp a H S n sm c ds ts ws) (hp : Pot H p) (k : Kp p H H') (np : p ∉ S.ls) : ZCp a H' S n sm c ds ts ws := by
 obtain ⟨u, v, e, _⟩ := hp
 exact h.kpL k e np
def Dd (a : Ad) (vs : List V) (H : Hp) (K : Int → Addr → Prop) : Prop := ∃ (S : SA) (q : Addr) (n : Int) (sm : PL) (c : Nat) (ds : List (Int × Option Int)) (ts : List Int) (ws : List V) (way : Int), vs = [.ref S.p, .int way, .ref q] ∧ ZCp a H S n sm c ds ts ws ∧ Pot H q ∧ q ∉ S.ls ∧ ws.length = 1 ∧ (∀ r ∈ sm, -12 ≤ r.1 ∧ r.1 ≤ 12) ∧ 0 ≤ way ∧ way ≤ 7 ∧ K way q
def ZSN (a : Ad) : Sp := fun vs H _ E => Dd a vs H fun way q => ∀ H', Pot H' q → Kp q H H' → E (.ref (ZFz a way)) none H'
theorem ZIJ {sm : PL} (h : ∀ r ∈ sm, -12 ≤ r.1 ∧ r.1 ≤ 12) {t : Int} (ht : 12 < t ∨ t < -12) : ZC9 sm t = none := by
 rw [ZEU]
 intro z
 obtain ⟨r, hr, e⟩ := List.mem_map.mp z
 have := h r hr
 omega
theorem ZKA : ZCv ["_law_store", "_law_way", "_law_pot_here", "_law_wrong"] ["_law_store", "_law_way", "_law_pot_here"] (ZCo ZIp) := ZDI
theorem ZNG (T : Txt K mg a) : ZCr P w K mg base (CX1 P w) 9 a.ZA1 a.ZA6 ["_law_store", "_law_way", "_law_pot_here"] (ZSN a) := by
 refine T.ZBt.okx ZKA (by walk_at "l") (fun cdv A outer s H vs Q E hr h => ?_)
 ·obtain ⟨S, q, n, sm, c, ds, ts, ws, way, rfl, hS, hq, nq, hwl, hsm, hw0, hw7, k⟩ := h
  refine ⟨_, QB.h (ZCm (qsS (i := 3) ZKA.nd (qcS (ZIV T) hr.m T.ZBF T.J6.kp T.ZBD (ZCj (qv 2) ZCk))) (ZCm (ZDS (ZC2 (ZEI) (qv 1) ZCl (ZC4 _)) (ZCn (ZCw (ZC7 (qv 0) T.ZH T.ZAv (ZKP T) hr.m T.ZAt .nil ZDx (ZCj (qv 3) (ZCj (qcS (ZGd T) hr.m T.ZAH T.JH.kp T.ZAE (ZCj (qv 2) ZCk)) ZCk))))) ZC6) (ZCm (ZDS (ZC2 (ZEI) (qv 1) ZCl (ZC4 _)) (ZCn (ZCw (ZC7 (qv 0) T.ZH T.ZBu (ZJj T) hr.m T.ZBr .nil ZDx (ZCj (ZDB (ZDc K rfl) (ZD7 (ZCj (qv 3) (ZCj (qcS (ZFQ T) hr.m T.Yx T.YF.kp T.Y3 (ZCj (qv 2) ZCk)) (ZCj (ZCs ZDZ ZCl (qcS (ZDD T) hr.m T.ZK T.ZJ.kp T.ZL (ZCj (qv 2) (ZCj ZCl ZCk)))) ZCk)))) (qcS (ZDD T) hr.m T.ZK T.ZJ.kp T.ZL (ZCj (qv 2) (ZCj ZCl ZCk)))) ZCk)))) ZC6) (ZCm (ZDS (ZC2 (ZEI) (qv 1) ZCl (ZC4 _)) (ZCn (ZCw (ZC7 (qv 0) T.ZH T.ZBP (ZIu T) hr.m T.ZBM .nil ZDx (ZCj (ZDB (ZDc K rfl) (ZD7 (ZCj (qv 3) (ZCj (qcS (ZFQ T) hr.m T.Yx T.YF.kp T.Y3 (ZCj (qv 2) ZCk)) (ZCj (ZCs ZDZ ZCl (qcS (ZDD T) hr.m T.ZK T.ZJ.kp T.ZL (ZCj (qv 2) (ZCj ZCl ZCk)))) ZCk)))) (qcS (ZDD T) hr.m T.ZK T.ZJ.kp T.ZL (ZCj (qv 2) (ZCj ZCl ZCk)))) ZCk)))) ZC6) (ZCm (ZDS (ZC2 (ZEI) (qv 1) ZCl (ZC4 _)) (ZCn (ZCw (ZC7 (qv 0) T.ZH T.ZAa (ZGu T) hr.m T.ZAQ .nil ZDx (ZCj (ZDB (ZDc K rfl) (ZD7 (ZCj (ZCs ZDZ (qv 3) (ZDi ZI8 rfl T.Js ZHo (ZCj (ZFW (ZEI) (qv 3) (ZCs ZD5 ZCl ZCl) (ZC4 _)) ZCk))) (ZCj (qcS (ZFQ T) hr.m T.Yx T.YF.kp T.Y3 (ZCj (qv 2) ZCk)) ZCk))) (qcS (ZDD T) hr.m T.ZK T.ZJ.kp T.ZL (ZCj (qv 2) (ZCj ZCl ZCk)))) (ZCj ZCl ZCk))))) ZC6) (ZCm (ZDS (ZC2 (ZEI) (qv 1) ZCl (ZC4 _)) (ZCn (ZCw (ZC7 (qv 0) T.ZH T.ZAa (ZGu T) hr.m T.ZAQ .nil ZDx (ZCj (ZEx ZEM ZCl) (ZCj (ZDB (ZDc K rfl) (ZD7 (ZCj (ZCs ZDZ (qv 3) (ZDi ZI8 rfl T.Js ZHo (ZCj (ZFW (ZEI) (qv 3) (ZCs ZD5 ZCl ZCl) (ZC4 _)) ZCk))) (ZCj (qcS (ZFQ T) hr.m T.Yx T.YF.kp T.Y3 (ZCj (qv 2) ZCk)) ZCk))) (qcS (ZDD T) hr.m T.ZK T.ZJ.kp T.ZL (ZCj (qv 2) (ZCj ZCl ZCk)))) ZCk))))) ZC6) (ZCm (ZDS (ZC2 (ZEI) (qv 1) ZCl (ZC4 _)) (ZCn (ZCw (ZC7 (qv 0) T.ZH T.YA (ZGM T) hr.m T.YE .nil ZDx (ZCj (qcS (ZIW T) hr.m T.ZBC T.J5.kp T.ZBG (ZCj (qv 2) ZCk)) ZCk)))) ZC6) (ZCm (ZDS (ZC2 (ZEI) (qv 1) ZCl (ZC4 _)) (ZCn (ZCw (ZC7 (qv 0) T.ZH T.Y8 (ZJO T) hr T.JB .nil ZDx (ZCj (qcS (ZIW T) hr.m T.ZBC T.J5.kp T.ZBG (ZCj (qv 2) ZCk)) ZCk)))) ZC6) (ZCn (ZCw (ZC7 (qv 0) T.ZH T.JM (ZJk T) hr T.JX .nil ZDx (ZCj (ZDB (ZDc K rfl) (ZD7 (ZCj (ZCs ZDZ ZCl (qcS (ZDD T) hr.m T.ZK T.ZJ.kp T.ZL (ZCj (qv 2) (ZCj ZCl ZCk)))) (ZCj (ZCs ZEF (ZEx ZEM ZCl) (qcS (ZDD T) hr.m T.ZK T.ZJ.kp T.ZL (ZCj (qv 2) (ZCj ZCl ZCk)))) (ZCj (qcS (ZFQ T) hr.m T.Yx T.YF.kp T.Y3 (ZCj (qv 2) ZCk)) ZCk)))) (qcS (ZDD T) hr.m T.ZK T.ZJ.kp T.ZL (ZCj (qv 2) (ZCj ZCl ZCk)))) ZCk)))))))))))), ?_⟩
  walk_at "s"
  walk_at "w"
  refine ⟨q, rfl, hq, fun x H1 hx P1 K1 => ?_⟩
  have hS1 := hS.potX hq K1 nq
  obtain ⟨dx, vs, hp, _⟩ := id hS1
  -- the thing that is asked for
  have smp : ∀ (H2 : Hp) (v : V), ZHa H2 sm ws [v] → Pot H2 q → Kp q H1 H2 → (way = 1 ∨ way = 2) → StX a a.ZB ZHa [.ref S.p, v] H2 Q E := fun H2 v hv P2 K2 hw =>
   ⟨S, n, sm, c, ds, ts, ws, [v], rfl, hS1.potX P1 K2 nq, hv, by have := k H2 P2 (K1.trans K2); rw [ZFz, if_pos hw] at this; exact this⟩
  have out : ∀ (H2 : Hp), Pot H2 q → Kp q H1 H2 → ¬ (way = 1 ∨ way = 2) → way ≠ 7 → E (.ref a.ZA) none H2 := fun H2 P2 K2 h1 h2 => by
   have := k H2 P2 (K1.trans K2)
   rw [ZFz, if_neg h1, if_neg h2] at this
   exact this
  walk_at "w"
  rw [ZEJ]
  refine ZDU (fun w0 => ?_) (fun w0 => ?_)
  ·walk_at "w"
   refine ZC0 hp ZDT ?_
   walk_at "w"
   refine ⟨q, rfl, P1, fun y H2 P2 K2 => ?_⟩
   walk_at "w"
   exact ⟨S, n, sm, c, ds, ts, ws, _, rfl, hS1.potX P1 K2 nq, ⟨x, .int y, rfl, fun z => by unfold Tm at z; omega⟩, out H2 P2 K2 (by omega) (by omega)⟩
  walk_at "w"
  rw [ZEJ]
  refine ZDU (fun w1 => ?_) (fun w1 => ?_)
  ·walk_at "w"
   refine ZC0 hp ZDT ?_
   walk_at "w"
   refine ⟨q, rfl, P1, fun v2 H2 hv2 hn2 P2 K2 => ?_⟩
   walk_at "w"
   refine ⟨q, _, rfl, P2, by decide, by decide, fun e3 H3 g3 g3' P3 K3 => ?_⟩
   walk_at "w"
   refine ZC1 (by show 3 ≤ sizeLine; decide) fun l4 H4 n4 f4 S4 => ?_
   walk_at "w"
   refine ⟨q, _, rfl, P3.same S4, by decide, by decide, fun e5 H5 g5 g5' P5 K5 => ?_⟩
   have nv2 : v2 ≠ .ref q := fun z => by
    obtain ⟨_, _, e, _⟩ := P1
    rw [hn2 q z] at e; cases e
   have hv5 := ((hv2.pot nv2 K3).same S4).pot nv2 K5
   have f5 := K5 _ _ f4 (P3.neN n4)
   have KA : Kp q H1 H5 := ((K2.trans K3).then S4).trans K5
   obtain ⟨v, hv, hat⟩ : ∃ v, ZHa H5 sm ws [v] ∧ atI [V.int x, v2, V.int (13 + e3)] e5 = some v := by
    have : e5 = 0 ∨ e5 = 1 ∨ e5 = 2 := by omega
    rcases this with h | h | h <;> rw [h]
    ·exact ⟨_, ⟨_, rfl, .inl ⟨_, rfl, ZIJ hsm (by omega)⟩⟩, rfl⟩
    ·exact ⟨_, ⟨_, rfl, .inr hv5⟩, rfl⟩
    ·exact ⟨_, ⟨_, rfl, .inl ⟨_, rfl, ZIJ hsm (by omega)⟩⟩, rfl⟩
   walk_at "w"
   refine ZEB (SqL.of f5) hat ?_
   walk_at "w"
   exact smp _ v hv P5 KA (.inl w1)
  walk_at "w"
  rw [ZEJ]
  refine ZDU (fun w2 => ?_) (fun w2 => ?_)
  ·walk_at "w"
   refine ZC0 hp ZDT ?_
   walk_at "w"
   refine ⟨q, rfl, P1, fun v2 H2 hv2 hn2 P2 K2 => ?_⟩
   walk_at "w"
   refine ⟨q, _, rfl, P2, by decide, by decide, fun e3 H3 g3 g3' P3 K3 => ?_⟩
   walk_at "w"
   refine ZC1 (by show 3 ≤ sizeLine; decide) fun l4 H4 n4 f4 S4 => ?_
   walk_at "w"
   refine ⟨q, _, rfl, P3.same S4, by decide, by decide, fun e5 H5 g5 g5' P5 K5 => ?_⟩
   have nv2 : v2 ≠ .ref q := fun z => by
    obtain ⟨_, _, e, _⟩ := P1
    rw [hn2 q z] at e; cases e
   have hv5 := ((hv2.pot nv2 K3).same S4).pot nv2 K5
   have f5 := K5 _ _ f4 (P3.neN n4)
   have KA : Kp q H1 H5 := ((K2.trans K3).then S4).trans K5
   obtain ⟨v, hv, hat⟩ : ∃ v, ZHa H5 sm ws [v] ∧ atI [V.int x, v2, V.int (13 + e3)] e5 = some v := by
    have : e5 = 0 ∨ e5 = 1 ∨ e5 = 2 := by omega
    rcases this with h | h | h <;> rw [h]
    ·exact ⟨_, ⟨_, rfl, .inl ⟨_, rfl, ZIJ hsm (by omega)⟩⟩, rfl⟩
    ·exact ⟨_, ⟨_, rfl, .inr hv5⟩, rfl⟩
    ·exact ⟨_, ⟨_, rfl, .inl ⟨_, rfl, ZIJ hsm (by omega)⟩⟩, rfl⟩
   walk_at "w"
   refine ZEB (SqL.of f5) hat ?_
   walk_at "w"
   exact smp _ v hv P5 KA (.inr w2)
  walk_at "w"
  rw [ZEJ]
  refine ZDU (fun w3 => ?_) (fun w3 => ?_)
  ·walk_at "w"
   refine ZC0 hp ZDT ?_
   walk_at "w"
   rw [ZEJ]
   walk_at "w"
   refine ⟨q, rfl, P1, fun v2 H2 hv2 hn2 P2 K2 => ?_⟩
   walk_at "w"
   refine ZC1 (by show 2 ≤ sizeLine; decide) fun l4 H4 n4 f4 S4 => ?_
   walk_at "w"
   refine ⟨q, _, rfl, P2.same S4, by decide, by decide, fun e5 H5 g5 g5' P5 K5 => ?_⟩
   have nv2 : v2 ≠ .ref q := fun z => by
    obtain ⟨_, _, e, _⟩ := P1
    rw [hn2 q z] at e; cases e
   have hv5 := (hv2.same S4).pot nv2 K5
   have f5 := K5 _ _ f4 (P2.neN n4)
   have KA : Kp q H1 H5 := (K2.then S4).trans K5
   obtain ⟨v, hv, hat⟩ : ∃ v, Off H5 v ∧ atI [V.int (x + (if decide (x = 1099511627776) = true then 1 else 0)), v2] e5 = some v := by
    have : e5 = 0 ∨ e5 = 1 := by omega
    rcases this with h | h <;> rw [h]
    ·refine ⟨_, .inl ⟨_, rfl, fun z => ?_⟩, rfl⟩
     unfold InT at z
     by_cases e : x = 1099511627776
     ·rw [if_pos (by simpa using e)] at z; omega
     ·rw [if_neg (by simpa using e)] at z; omega
    ·exact ⟨_, .inr hv5, rfl⟩
   walk_at "w"
   refine ZEB (SqL.of f5) hat ?_
   walk_at "w"
   exact ⟨S, n, sm, c, ds, ts, ws, _, rfl, hS1.potX P1 KA nq, ⟨v, _, rfl, .inl hv⟩, out _ P5 KA (by omega) (by omega)⟩
  walk_at "w"
  rw [ZEJ]
  refine ZDU (fun w4 => ?_) (fun w4 => ?_)
  ·walk_at "w"
   refine ZC0 hp ZDT ?_
   walk_at "w"
   rw [ZEJ]
   walk_at "w"
   refine ⟨q, rfl, P1, fun v2 H2 hv2 hn2 P2 K2 => ?_⟩
   walk_at "w"
   refine ZC1 (by show 2 ≤ sizeLine; decide) fun l4 H4 n4 f4 S4 => ?_
   walk_at "w"
   refine ⟨q, _, rfl, P2.same S4, by decide, by decide, fun e5 H5 g5 g5' P5 K5 => ?_⟩
   have nv2 : v2 ≠ .ref q := fun z => by
    obtain ⟨_, _, e, _⟩ := P1
    rw [hn2 q z] at e; cases e
   have hv5 := (hv2.same S4).pot nv2 K5
   have f5 := K5 _ _ f4 (P2.neN n4)
   have KA : Kp q H1 H5 := (K2.then S4).trans K5
   obtain ⟨v, hv, hat⟩ : ∃ v, Off H5 v ∧ atI [V.int (x + (if decide (x = 1099511627776) = true then 1 else 0)), v2] e5 = some v := by
    have : e5 = 0 ∨ e5 = 1 := by omega
    rcases this with h | h <;> rw [h]
    ·refine ⟨_, .inl ⟨_, rfl, fun z => ?_⟩, rfl⟩
     unfold InT at z
     by_cases e : x = 1099511627776
     ·rw [if_pos (by simpa using e)] at z; omega
     ·rw [if_neg (by simpa using e)] at z; omega
    ·exact ⟨_, .inr hv5, rfl⟩
   walk_at "w"
   refine ZEB (SqL.of f5) hat ?_
   walk_at "w"
   exact ⟨S, n, sm, c, ds, ts, ws, _, rfl, hS1.potX P1 KA nq, ⟨_, v, rfl, .inr ⟨⟨-5, rfl, by unfold InT; omega⟩, hv⟩⟩, out _ P5 KA (by omega) (by omega)⟩
  walk_at "w"
  rw [ZEJ]
  refine ZDU (fun w5 => ?_) (fun w5 => ?_)
  ·walk_at "w"
   refine ZC0 hp ZDT ?_
   walk_at "w"
   refine ⟨q, rfl, P1, fun u b y m H2 f2 hm0 hm1 hb P2 K2 => ?_⟩
   walk_at "w"
   exact ⟨S, n, sm, c, ds, ts, ws, _, rfl, hS1.potX P1 K2 nq, ⟨u, b, y, m, rfl, f2, hm0, hm1, hb⟩, out H2 P2 K2 (by omega) (by omega)⟩
  walk_at "w"
  rw [ZEJ]
  refine ZDU (fun w6 => ?_) (fun w6 => ?_)
  ·walk_at "w"
   refine ZC0 hp ZDT ?_
   walk_at "w"
   refine ⟨q, rfl, P1, fun u b y m H2 f2 hm0 hm1 hb P2 K2 => ?_⟩
   walk_at "w"
   exact ⟨S, n, sm, c, ds, ts, ws, _, rfl, hS1.potX P1 K2 nq, ⟨u, b, y, m, rfl, f2, hm0, hm1, hb⟩, out H2 P2 K2 (by omega) (by omega)⟩
  ·walk_at "w"
   refine ZC0 hp ZDT ?_
   walk_at "w"
   refine ⟨q, _, rfl, P1, by decide, by decide, fun e2 H2 g2 g2' P2 K2 => ?_⟩
   walk_at "w"
   refine ⟨q, _, rfl, P2, by decide, by decide, fun e3 H3 g3 g3' P3 K3 => ?_⟩
   walk_at "w"
   refine ⟨q, rfl, P3, fun v4 H4 hv4 hn4 P4 K4 => ?_⟩
   walk_at "w"
   refine ZC1 (by show 3 ≤ sizeLine; decide) fun l5 H5 n5 f5 S5 => ?_
   walk_at "w"
   refine ⟨q, _, rfl, P4.same S5, by decide, by decide, fun e6 H6 g6 g6' P6 K6 => ?_⟩
   have nv4 : v4 ≠ .ref q := fun z => by
    obtain ⟨_, _, e, _⟩ := P3
    rw [hn4 q z] at e; cases e
   have hv6 := (hv4.same S5).pot nv4 K6
   have f6 := K6 _ _ f5 (P4.neN n5)
   have KA : Kp q H1 H6 := (((K2.trans K3).trans K4).then S5).trans K6
   obtain ⟨v, hv, hat⟩ : ∃ v, ZTv H6 sm ws [v] ∧ atI [V.int (1 + e2), V.int (-1 - e3), v4] e6 = some v := by
    have : e6 = 0 ∨ e6 = 1 ∨ e6 = 2 := by omega
    rcases this with h | h | h <;> rw [h]
    ·exact ⟨_, ⟨_, rfl, .inl ⟨_, rfl, .inr (by omega)⟩⟩, rfl⟩
    ·exact ⟨_, ⟨_, rfl, .inl ⟨_, rfl, .inl (by omega)⟩⟩, rfl⟩
    ·exact ⟨_, ⟨_, rfl, .inr hv6⟩, rfl⟩
   walk_at "w"
   refine ZEB (SqL.of f6) hat ?_
   walk_at "w"
   refine ⟨S, n, sm, c, ds, ts, ws, [v], rfl, hS1.potX P1 KA nq, hv, ?_⟩
   have := k H6 P6 (K1.trans KA)
   rw [ZFz, if_neg (by omega), if_pos (by omega)] at this
   exact this
def ZL0 (a : Ad) : Sp := fun vs H Q _ => Dd a vs H fun _ q => ∀ H', Pot H' q → Kp q H H' → Q (.bl true) H'
theorem ZH6 : ZCv ["_law_store", "_law_way", "_law_pot_here", "e"] ["_law_store", "_law_way", "_law_pot_here"] (ZCo ZGa) := ZDI
theorem ZLf (T : Txt K mg a) : ZCr P w K mg base CX0 10 a.Je a.Jc ["_law_store", "_law_way", "_law_pot_here"] (ZL0 a) := by
 refine T.ZAm.ok ZH6 (by walk_at "l") (fun cdv A outer s H vs Q E hr h => ?_)
 ·obtain ⟨S, q, n, sm, c, ds, ts, ws, way, rfl, hS, hq, nq, hwl, hsm, hw0, hw7, k⟩ := h
  refine ⟨_, QB.h (ZCm (ZOC rfl rfl (ZLB (ZRx (ZNG T) hr.m rfl T.ZCR T.ZBt.kp T.ZCV .nil (ZCj (qv 0) (ZCj (qv 1) (ZCj (qv 2) ZCk))))) (ZLD (i := 3) K rfl rfl rfl rfl ZH6.nd rfl rfl rfl T.JE T.JF (fun _ => ZCm (ZDS (ZC2 (ZNc) (qv 1) (ZDK (ZCj ZCl (ZCj ZCl ZCk))) (by with_unfolding_all rfl)) (ZCn (ZCw (ZF3 (ZC8 (ZFY K rfl) rfl T.ZM ZDn (ZCj (qv 3) (ZCj (ZEE (v := V.ref a.ZB) rfl T.ZAG rfl) ZCk))) (ZGi (ZI9 (ZC8 (ZFY K rfl) rfl T.ZM ZDn (ZCj (qv 3) (ZCj (ZEE (v := V.ref a.ZA) rfl T.Zc rfl) ZCk)))))))) ZC6) (ZCm (ZDS (ZC2 (ZEI) (qv 1) ZCl (ZC4 _)) (ZCn (ZCw (ZF3 (ZC8 (ZFY K rfl) rfl T.ZM ZDn (ZCj (qv 3) (ZCj (ZEE (v := V.ref a.ZD) rfl T.ZBT rfl) ZCk))) (ZGi (ZI9 (ZC8 (ZFY K rfl) rfl T.ZM ZDn (ZCj (qv 3) (ZCj (ZEE (v := V.ref a.ZA) rfl T.Zc rfl) ZCk)))))))) ZC6) (ZCn (ZCw (ZF3 (ZC8 (ZFY K rfl) rfl T.ZM ZDn (ZCj (qv 3) (ZCj (ZEE (v := V.ref a.ZA) rfl T.Zc rfl) ZCk))) (ZGi (ZI9 (ZC8 (ZFY K rfl) rfl T.ZM ZDn (ZCj (qv 3) (ZCj (ZEE (v := V.ref a.ZB) rfl T.ZAG rfl) ZCk)))))))))) ZOA)) (ZCn (ZCw ZFe))), ?_⟩
  walk_at "s"
  walk_at "w"
  refine ⟨S, q, n, sm, c, ds, ts, ws, way, rfl, hS, hq, nq, hwl, hsm, hw0, hw7, fun H1 P1 K1 => ?_⟩
  have inv : inV (.int way) [.int 1, .int 2] = decide (way = 1 ∨ way = 2) := by
   have : way = 0 ∨ way = 1 ∨ way = 2 ∨ way = 3 ∨ way = 4 ∨ way = 5 ∨ way = 6 ∨ way = 7 := by omega
   rcases this with rfl | rfl | rfl | rfl | rfl | rfl | rfl | rfl <;> rfl
  by_cases h12 : way = 1 ∨ way = 2
  ·rw [show ZFz a way = a.ZB from if_pos h12]
   walk_at "w"
   refine ZGK T.ZV (ZD0 ?_)
   refine ZHK fun e2 H2 n2 f2 S2 => ?_
   walk_at "w"
   refine ZC1 (by show 2 ≤ sizeLine; decide) fun t3 H3 n3 f3 S3 => ?_
   have f23 := S3 _ _ f2
   walk_at "w"
   refine ⟨t3, _, rfl, .inr (SqT.of f3), rfl, rfl, ?_⟩
   rw [if_neg (by decide), inv, decide_eq_true h12]
   walk_at "w"
   refine ZD0 ?_
   walk_at "w"
   refine ZFZ f23 T.ZAD T.ZBL rfl T.Zs (ZG0 (ZD0 ?_))
   walk_at "w"
   refine ZFZ f23 T.ZAD T.ZBL rfl T.Zd ?_
   walk_at "w"
   exact k H3 ((P1.same S2).same S3) ((K1.then S2).then S3)
  by_cases h7 : way = 7
  ·rw [show ZFz a way = a.ZD by rw [ZFz, if_neg h12, if_pos h7]]
   walk_at "w"
   refine ZGK T.ZY (ZD0 ?_)
   refine ZHK fun e2 H2 n2 f2 S2 => ?_
   walk_at "w"
   refine ZC1 (by show 2 ≤ sizeLine; decide) fun t3 H3 n3 f3 S3 => ?_
   have f23 := S3 _ _ f2
   walk_at "w"
   refine ⟨t3, _, rfl, .inr (SqT.of f3), rfl, rfl, ?_⟩
   rw [if_neg (by decide), inv, decide_eq_false h12]
   walk_at "w"
   refine ZDu ?_
   walk_at "w"
   rw [ZEJ]
   refine ZDU (fun _ => ?_) (fun z => absurd h7 z)
   walk_at "w"
   refine ZFZ f23 T.ZAj T.ZBU rfl T.Z7 (ZG0 (ZD0 ?_))
   walk_at "w"
   refine ZFZ f23 T.ZAj T.ZBU rfl T.Zg ?_
   walk_at "w"
   exact k H3 ((P1.same S2).same S3) ((K1.then S2).then S3)
  ·rw [show ZFz a way = a.ZA by rw [ZFz, if_neg h12, if_neg h7]]
   walk_at "w"
   refine ZGK T.ZN (ZD0 ?_)
   refine ZHK fun e2 H2 n2 f2 S2 => ?_
   walk_at "w"
   refine ZC1 (by show 2 ≤ sizeLine; decide) fun t3 H3 n3 f3 S3 => ?_
   have f23 := S3 _ _ f2
   walk_at "w"
   refine ⟨t3, _, rfl, .inr (SqT.of f3), rfl, rfl, ?_⟩
   rw [if_neg (by decide), inv, decide_eq_false h12]
   walk_at "w"
   refine ZDu ?_
   walk_at "w"
   rw [ZEJ]
   refine ZDU (fun z => absurd z h7) (fun _ => ?_)
   walk_at "w"
   refine ZFZ f23 T.Z0 T.JO rfl T.ZQ (ZG0 (ZD0 ?_))
   walk_at "w"
   refine ZFZ f23 T.Z0 T.JO rfl T.Zb ?_
   walk_at "w"
   exact k H3 ((P1.same S2).same S3) ((K1.then S2).then S3)
theorem rd_catH {K : W.Frag} {H : Hp} {Q : VK} {a b : Addr} {xs ys : List V} (h1 : H a = some (.tup xs)) (h2 : H b = some (.tup ys)) (hz : xs.length + ys.length ≤ sizeLine) (h : ∀ p H2, H2 p = some (.tup (xs ++ ys)) → ZCq H H2 → Q (.ref p) H2) : ZMr K (.ref a) (.ref b) H Q :=
 ⟨a, b, xs, ys, rfl, rfl, SqT.of h1, SqT.of h2, hz, fun e => h b H (by rw [e]; exact h2) (ZCq.refl H), fun _ e => h a H (by rw [e, List.append_nil]; exact h1) (ZCq.refl H), fun _ _ p hp => h p _ ZCy (ZCq.new hp)⟩
def ZTy : Sp := fun vs H Q _ => ∃ (d q : Addr) (m : PL), vs = [.ref d, .ref q] ∧ H d = some (.dK (ZDN m)) ∧ (m.map (·.1)).Nodup ∧ m.length ≤ 6 ∧ (∀ r ∈ m, Tm r.1) ∧ Pot H q ∧ ∀ H', Pot H' q → Kp q H H' → Q (.bl true) H'
theorem ZGP : ZCv ["_law_held", "_law_pot_here", "_law_curve", "_law_wrong", "e"] ["_law_held", "_law_pot_here"] (ZCo ZIq) := ZDI
theorem ZOi (T : Txt K mg a) : ZCr P w K mg base CX0 9 a.ZAx a.ZAw ["_law_held", "_law_pot_here"] ZTy := by
 refine T.ZBv.ok ZGP (by walk_at "l") (fun cdv A outer s H vs Q E hr h => ?_)
 ·obtain ⟨d, q, m, rfl, hd, hnd, hlen, htm, hq, k⟩ := h
  have hu := ZD9 hr
  refine ⟨_, QB.h (ZCm (qsS (i := 2) ZGP.nd (qcS (ZGN T) hr.m T.J7 T.JI.kp T.ZAB (ZCj (qv 0) ZCk))) (ZCm (qsS (i := 3) ZGP.nd (ZDK (ZCj (qcS (ZIV T) hr.m T.ZBF T.J6.kp T.ZBD (ZCj (qv 1) ZCk)) (ZCj ZCl ZCk)))) (ZCm (ZOC rfl rfl (ZLB (ZR1 T.ZBd (ZH5 T) hr.m rfl T.ZCA T.JR .nil (ZCj (ZDi (ZEq K rfl) rfl T.Zr ZEo (ZCj (ZC8 (ZLt K rfl) rfl T.Ym ZGH (ZCj (ZCs (ZRk K rfl) (qv 2) (ZDK (ZCj (qv 3) ZCk))) ZCk)) ZCk)) ZCk))) (ZLD (i := 4) K rfl rfl rfl rfl ZGP.nd rfl rfl rfl T.JE T.JF (fun _ => ZCn (ZCw (ZC8 (ZFY K rfl) rfl T.ZM ZDn (ZCj (qv 4) (ZCj (ZEE (v := V.ref a.ZA) rfl T.Zc rfl) ZCk))))) ZOA)) (ZCn (ZCw ZFe))))), ?_⟩
  walk_at "s"
  walk_at "w"
  refine ⟨d, m, rfl, hd, hnd, by omega, fun t cv H1 hP1 hA hm hl S1 => ?_⟩
  walk_at "w"
  refine ⟨q, rfl, hq.same S1, fun x H2 hx P2 K2 => ?_⟩
  walk_at "w"
  refine ZC1 (by show 2 ≤ sizeLine; decide) fun t3 H3 n3 f3 S3 => ?_
  walk_at "w"
  refine ZC1 (by show 1 ≤ sizeLine; decide) fun t4 H4 n4 f4 S4 => ?_
  obtain ⟨vs, gv, pv⟩ := ((hP1.pot (hq.same S1) K2).same S3).same S4
  walk_at "w"
  refine rd_catH gv f4 (by rw [pv.length]; exact Nat.le_trans (show cv.length + 1 ≤ 25 by omega) (by decide)) fun t5 H5 f5 S5 => ?_
  have hnx : (x, (0 : Int)) ∉ cv := fun z => by
   have := htm _ ((hm _).mp z)
   unfold Tm at this
   simp only at this
   omega
  have hcn : cv.Nodup := List.nodup_iff_pairwise_ne.mpr (hA.imp fun {a b} hab e => by rw [e] at hab; omega)
  have hnd5 : (cv ++ [(x, (0 : Int))]).Nodup := List.nodup_append.mpr ⟨hcn, by simp, fun y hy z hz e => by rw [List.mem_singleton.mp hz] at e; exact hnx (e ▸ hy)⟩
  walk_at "w"
  refine ZLu f5 ((pv.same S5).snoc (p := (x, 0)) (S5 _ _ (S4 _ _ f3))) hnd5 (by rw [List.length_append]; simp; omega) fun l6 us6 m6 H6 n6 f6 hP6 hpm6 _ S6 => ?_
  walk_at "w"
  refine ZFA (SqL.of f6) fun t7 H7 n7 f7 S7 => ?_
  walk_at "w"
  refine ZIF fun p dx H8 n8 f8 S8 => ?_
  have KA : Kp q H H8 := ((((((Kp.same S1).trans K2).then S3).then S4).then S5).then S6 |>.then S7).then S8
  have keys : (m6.map (·.1)).Nodup := by
   refine (hpm6.map _).nodup_iff.mpr ?_
   rw [List.map_append]
   refine List.nodup_append.mpr ⟨?_, by simp, fun y hy z hz e => ?_⟩
   ·rw [List.nodup_iff_pairwise_ne, List.pairwise_map]
    exact hA.imp fun {a b} hab e => by omega
   ·obtain ⟨r, hr, rfl⟩ := List.mem_map.mp hy
    have hz : z = x := by simpa using hz
    have := htm _ ((hm _).mp hr)
    unfold Tm at this
    omega
  refine ⟨p, dx, t7, m6, rfl, f8, ⟨us6, S8 _ _ f7, (hP6.same S7).same S8⟩, keys, ⟨(x, 0), hpm6.mem_iff.mpr (by simp), fun z => by unfold Tm at z; simp only at z; omega⟩, ?_, fun H9 S9 => ?_⟩
  ·rw [hpm6.length_eq, List.length_append]
   simp
   omega
  walk_at "w"
  refine ZGK T.ZN (ZD0 ?_)
  refine ZHK fun e10 H10 n10 f10 S10 => ?_
  walk_at "w"
  refine ZFZ f10 T.Z0 T.JO rfl T.ZQ ?_
  walk_at "w"
  exact k H10 (((((((P2.same S3).same S4).same S5).same S6).same S7).same S8).same S9 |>.same S10) ((KA.then S9).then S10)
def ZQa : Sp := fun vs H Q _ => ∃ (d : Addr) (m : PL) (kk x z : Int), vs = [.ref d, .int kk] ∧ x = -13 + 5 * kk ∧ z = -8 + 5 * kk ∧ H d = some (.dK (ZDN m)) ∧ (m.map (·.1)).Nodup ∧ m.length < 64 ∧
 ∀ (v : V) (o : Option (PL)) (H' : Hp), ZDE H' v o → Is4 (ZDP m x z) o → ZCq H H' → Q v H'
theorem ZED : ZCv ["_law_held", "_law_k", "_law_some", "_law_low", "_law_high", "_law_one"] ["_law_held", "_law_k"] (ZCo ZFg) := ZDI
theorem ZH7 (T : Txt K mg a) : ZCr P w K mg base CX0 1 a.Jo a.Jh ["_law_held", "_law_k"] ZQa := by
 refine T.Jk.ok ZED (by walk_at "l") (fun cdv A outer s H vs Q E hr h => ?_)
 ·obtain ⟨d, m, kk, x, z, rfl, ex, ez, hd, hnd, hlen, k⟩ := h
  have hu := ZD9 hr
  have hu64 := hr.units
  refine ⟨_, QB.h (ZCm (ZMI (N := ["_law_held", "_law_k", "_law_some", "_law_low", "_law_high", "_law_one"]) (sc := ZCo ZFg) (own := ["_law_t"]) (caps := ["_law_held", "_law_k"]) (ks := [0, 1]) (i := 2) rfl rfl rfl ⟨rfl, by decide +kernel, by decide +kernel, by decide +kernel, by decide +kernel, rfl, by decide +kernel⟩ ZED.nd rfl (by walk_at "o") (ZGk K rfl (ZC8 (ZG7 rfl) rfl T.Ym ZGH (ZCj (qv 0) ZCk))) (fun _ _ _ _ _ => ZEy (i := 0) (show List.Nodup (α := Str) ["_law_t", "_law_held", "_law_k"] from by decide +kernel) rfl (by walk_at "o") (.inr rfl)) (fun _ _ _ _ _ => ZId (ZG2 ZGF ZGE (ZCs ZDZ (ZEx ZEM ZCl) (ZCs ZDl ZCl (qv 2))) (qv 0) (ZCs ZDZ (ZEx ZEM ZCl) (ZCs ZDl ZCl (qv 2))))) (fun _ _ _ _ _ => ZDK (ZCj (qv 0) (ZCj (ZID hu (qv 1) (qv 0)) ZCk)))) (ZCm (ZDS (ZC2 (ZP6 K rfl hu) (qv 2) (ZD7 ZCk) (ZC4 _)) (ZCn (ZCw ZEb)) ZC6) (ZCm (qsS (i := 3) ZED.nd (ZDB (ZDc K rfl) (qv 2) ZCl)) (ZCm (qsS (i := 4) ZED.nd (ZDB (ZDc K rfl) (qv 2) ZCl)) (ZCm (ZFl PassesOwn.never rfl (ZGk K rfl (qv 2)) (qgN (i := 5) ZED.nd) (ZCm (ZDS (ZC2 (ZGE) (ZDB (ZDf K rfl) (qv 5) ZCl) (ZDB (ZDf K rfl) (qv 3) ZCl) (ZC4 _)) (ZCn (qsS (i := 3) ZED.nd (qv 5))) ZC6) (ZCn (ZDS (ZC2 (ZQb) (ZDB (ZDf K rfl) (qv 5) ZCl) (ZDB (ZDf K rfl) (qv 4) ZCl) (ZC4 _)) (ZCn (qsS (i := 4) ZED.nd (qv 5))) ZC6)))) (ZCn (ZCw (ZDK (ZCj (ZDB (ZDc K rfl) (qv 2) ZCl) (ZCj (ZDB (ZDc K rfl) (qv 2) (ZEx ZEM ZCl)) (ZCj (qv 3) (ZCj (qv 4) ZCk)))))))))))), ?_⟩
  walk_at "s"
  walk_at "w"
  refine ZHD hd (by omega) fun lp HP ns nP fP hp hs SP => ?_
  have hnl : ns.length = m.length := by have := hp.length_eq; simpa using this
  have hC := ZHE hnd hp hs
  have hcl : (ZDM m ns).length = ns.length := by simp [ZDM]
  have hcm0 : ∀ q, q ∈ ZDM m ns ↔ q ∈ m := fun q => by
   obtain ⟨s, t⟩ := q
   rw [hC.2, ZD3 hnd]
  have hat : ∀ i (hi : i < ns.length), ∃ y, ZC9 m ns[i] = some y ∧ (ZDM m ns)[i]? = some (ns[i], y) := fun i hi => by
   have hmem : ns[i] ∈ m.map (·.1) := hp.mem_iff.mp (List.getElem_mem hi)
   cases hg : ZC9 m ns[i] with
   | none => exact absurd hmem (ZEU.mp hg)
   | some y => exact ⟨y, rfl, by simp [ZDM, List.getElem?_eq_getElem hi, hg]⟩
  have hasc := hC.1
  generalize hcv : ZDM m ns = cv at hcl hcm0 hat hasc
  have hcm : ∀ q, q ∈ ZDP cv x z ↔ q ∈ ZDP m x z := ZJ0 hcm0 x z
  walk_at "w"
  intro l n1
  refine ZFV ns.length (fun i' σ' H' => (∃ o, σ' = [o, some (.ref d), some (.int kk)]) ∧ ZCq HP H' ∧ ∃ vs, H' l = some (.lst vs) ∧ ZCt H' vs (ZDP (cv.take i') x z)) ?_ ?_ ?_
  ·exact ⟨⟨none, rfl⟩, ZCq.new n1, [], ZCy, .nil⟩
  ·rintro σ' H2 ⟨_, S2, vs2, f2, hP2⟩
   refine ⟨⟨_, SqL.of (S2 _ _ fP), by simp⟩, ?_⟩
   rw [← hcl, List.take_length] at hP2
   walk_at "w"
   refine ZC1 (by show 0 ≤ sizeLine; decide) fun l3 H3 n3 f3 S3 => ?_
   refine ZP7 (SqL.of (S3 _ _ f2)) (SqL.of f3) ?_
   have hnil : vs2.isEmpty = decide (ZDP cv x z = []) := by
    have := hP2.length
    cases vs2 with
    | nil => rw [decide_eq_true (List.length_eq_zero_iff.mp this.symm)]; rfl
    | cons v vs => rw [decide_eq_false (fun z => by rw [z] at this; cases this)]; rfl
   rw [hnil]
   walk_at "w"
   have S03 := (SP.trans S2).trans S3
   refine ZDU (fun hne => ?_) (fun hne => ?_)
   ·walk_at "w"
    exact k _ none H3 .non ((Is4.congr (.inl ⟨rfl, hne⟩) hcm)) S03
   ·have hac : Asc (ZDP cv x z) := ZOG hasc
    generalize hcc : ZDP cv x z = cc at hne hac hP2 hcm
    have hvl : vs2.length = cc.length := hP2.length
    have hpos : 0 < cc.length := List.length_pos_iff.mpr hne
    have fl3 := S3 _ _ f2
    have hP3 := hP2.same S3
    obtain ⟨c0, q0, ec0, hq0, hc0⟩ := hP3.at (List.getElem?_eq_getElem (show 0 < vs2.length by omega))
    obtain ⟨c1, q1, ec1, hq1, hc1⟩ := hP3.at (List.getElem?_eq_getElem (show vs2.length - 1 < vs2.length by omega))
    have hx0 : vs2[0]? = some (.ref c0) := by rw [List.getElem?_eq_getElem (show 0 < vs2.length by omega), ec0]
    have hx1 : vs2[vs2.length - 1]? = some (.ref c1) := by rw [List.getElem?_eq_getElem (show vs2.length - 1 < vs2.length by omega), ec1]
    rw [hvl] at hq1
    walk_at "w"
    refine ZEB (SqL.of fl3) (ZEw (j := 0) hx0) ?_
    walk_at "w"
    refine ZEB (SqL.of fl3) (ZEw (j := 0) hx0) ?_
    walk_at "w"
    refine ZME (xs := vs2) (fun i σ H' => H' = H3 ∧ (∃ a2 a3 v6, σ = [some (.ref d), some (.int kk), some (.ref l), some (.ref a2), some (.ref a3), v6] ∧ ∃ (j2 j3 : Nat) (r2 r3 : Int × Int), H3 a2 = some (.tup [.int r2.1, .int r2.2]) ∧ H3 a3 = some (.tup [.int r3.1, .int r3.2]) ∧ cc[j2]? = some r2 ∧ cc[j3]? = some r3 ∧ j2 ≤ i ∧ j3 ≤ i ∧
     (∀ j, j < i → (cc.getD j2 (0, 0)).2 ≤ (cc.getD j (0, 0)).2 ∧ (j < j2 → (cc.getD j2 (0, 0)).2 < (cc.getD j (0, 0)).2)) ∧ (∀ j, j < i → (cc.getD j3 (0, 0)).2 ≥ (cc.getD j (0, 0)).2 ∧ (j < j3 → (cc.getD j3 (0, 0)).2 > (cc.getD j (0, 0)).2)))) ?_ ?_ ?_ ?_
    ·exact ⟨rfl, _, _, _, rfl, 0, 0, q0, q0, hc0, hc0, hq0, hq0, Nat.le_refl _, Nat.le_refl _, fun j hj => absurd hj (by omega), fun j hj => absurd hj (by omega)⟩
    ·rintro i σ H' _ ⟨rfl, _⟩
     exact SqL.of fl3
    ·rintro i xv σ H' hxv ⟨rfl, a2, a3, v6, rfl, j2, j3, r2, r3, g2, g3, e2, e3, l2, l3, b2, b3⟩
     obtain ⟨c, q, rfl, hq, hc⟩ := hP3.at hxv
     have dg : ∀ {j : Nat} {r : Int × Int}, cc[j]? = some r → cc.getD j (0, 0) = r := fun h => by simp [h]
     have dq := dg hq
     have d2 := dg e2
     have d3 := dg e3
     have low : ∀ (jj : Nat) (rr : Int × Int), ((q.2 < r2.2 ∧ jj = i ∧ rr = q) ∨ (¬ q.2 < r2.2 ∧ jj = j2 ∧ rr = r2)) → jj ≤ i + 1 ∧ cc[jj]? = some rr ∧ ∀ j, j < i + 1 → (cc.getD jj (0, 0)).2 ≤ (cc.getD j (0, 0)).2 ∧ (j < jj → (cc.getD jj (0, 0)).2 < (cc.getD j (0, 0)).2) := by
      rintro jj rr (⟨hlt, rfl, rfl⟩ | ⟨hge, rfl, rfl⟩)
      ·refine ⟨by omega, hq, fun j hj => ?_⟩
       by_cases e : j = jj
       ·subst e; exact ⟨Int.le_refl _, fun z => absurd z (by omega)⟩
       ·have := (b2 j (by omega)).1
        rw [d2] at this
        rw [dq]
        exact ⟨by omega, fun _ => by omega⟩
      ·refine ⟨by omega, e2, fun j hj => ?_⟩
       by_cases e : j = i
       ·subst e; rw [d2, dq]; exact ⟨by omega, fun z => absurd z (by omega)⟩
       ·exact b2 j (by omega)
     have high : ∀ (jj : Nat) (rr : Int × Int), ((r3.2 < q.2 ∧ jj = i ∧ rr = q) ∨ (¬ r3.2 < q.2 ∧ jj = j3 ∧ rr = r3)) → jj ≤ i + 1 ∧ cc[jj]? = some rr ∧ ∀ j, j < i + 1 → (cc.getD jj (0, 0)).2 ≥ (cc.getD j (0, 0)).2 ∧ (j < jj → (cc.getD jj (0, 0)).2 > (cc.getD j (0, 0)).2) := by
      rintro jj rr (⟨hlt, rfl, rfl⟩ | ⟨hge, rfl, rfl⟩)
      ·refine ⟨by omega, hq, fun j hj => ?_⟩
       by_cases e : j = jj
       ·subst e; exact ⟨Int.le_refl _, fun z => absurd z (by omega)⟩
       ·have := (b3 j (by omega)).1
        rw [d3] at this
        rw [dq]
        exact ⟨by omega, fun _ => by omega⟩
      ·refine ⟨by omega, e3, fun j hj => ?_⟩
       by_cases e : j = i
       ·subst e; rw [d3, dq]; exact ⟨by omega, fun z => absurd z (by omega)⟩
       ·exact b3 j (by omega)
     walk_at "w"
     refine ZDU (fun h1 => ?_) (fun h1 => ?_)
     ·obtain ⟨m1, m2, m3⟩ := low i q (.inl ⟨h1, rfl, rfl⟩)
      walk_at "w"
      refine ZDU (fun h2 => ?_) (fun h2 => ?_)
      ·obtain ⟨m4, m5, m6⟩ := high i q (.inl ⟨h2, rfl, rfl⟩)
       walk_at "w"
       exact ⟨rfl, _, _, _, rfl, _, _, _, _, hc, hc, m2, m5, m1, m4, m3, m6⟩
      ·obtain ⟨m4, m5, m6⟩ := high j3 r3 (.inr ⟨h2, rfl, rfl⟩)
       walk_at "w"
       exact ⟨rfl, _, _, _, rfl, _, _, _, _, hc, g3, m2, m5, m1, m4, m3, m6⟩
     ·obtain ⟨m1, m2, m3⟩ := low j2 r2 (.inr ⟨h1, rfl, rfl⟩)
      walk_at "w"
      refine ZDU (fun h2 => ?_) (fun h2 => ?_)
      ·obtain ⟨m4, m5, m6⟩ := high i q (.inl ⟨h2, rfl, rfl⟩)
       walk_at "w"
       exact ⟨rfl, _, _, _, rfl, _, _, _, _, g2, hc, m2, m5, m1, m4, m3, m6⟩
      ·obtain ⟨m4, m5, m6⟩ := high j3 r3 (.inr ⟨h2, rfl, rfl⟩)
       walk_at "w"
       exact ⟨rfl, _, _, _, rfl, _, _, _, _, g2, g3, m2, m5, m1, m4, m3, m6⟩
    ·rintro σ H' ⟨rfl, a2, a3, v6, rfl, j2, j3, r2, r3, g2, g3, e2, e3, l2, l3, b2, b3⟩
     rw [hvl] at b2 b3
     walk_at "w"
     refine ZEB (SqL.of fl3) (ZEw (j := 0) hx0) ?_
     walk_at "w"
     refine ZEB (SqL.of fl3) (ZMP hx1) ?_
     walk_at "w"
     refine ZC1 (by show 4 ≤ sizeLine; decide) fun c4 H4 n4 f4 S4 => ?_
     have hP4 : ZCt H4 [.ref c0, .ref c1, .ref a2, .ref a3] [q0, q1, r2, r3] := .cons ⟨c0, rfl, S4 _ _ hc0⟩ (.cons ⟨c1, rfl, S4 _ _ hc1⟩ (.cons ⟨a2, rfl, S4 _ _ g2⟩ (.cons ⟨a3, rfl, S4 _ _ g3⟩ .nil)))
     exact k _ (some [q0, q1, r2, r3]) H4 (.pr ⟨_, f4, hP4⟩ rfl) ((Is4.minmax hac hq0 hq1 e2 e3 b2 b3).congr hcm) (S03.trans S4)
  ·rintro i' σ' H2 hi' ⟨⟨o, rfl⟩, S2, vs, f, hPc⟩
   have hi2 : i' < (ns.map V.int).length := by simpa using hi'
   refine ⟨⟨_, _, SqL.of (S2 _ _ fP), List.getElem?_eq_getElem hi2⟩, ?_⟩
   rintro v H'' ⟨rfl, hv⟩
   have hv := hv _ (SqL.of (S2 _ _ fP))
   have ev : v = .int ns[i'] := by
    rw [List.getElem?_map, List.getElem?_eq_getElem hi'] at hv
    simpa using hv.symm
   subst ev
   obtain ⟨y, hy, hq1⟩ := hat i' hi'
   have e4 := ZM4 (x := x) (z := z) hq1
   walk_at "w"
   refine ZDU (fun h1 => ?_) (fun h1 => ?_)
   ·walk_at "w"
    refine ZDU (fun h2 => ?_) (fun h2 => ?_)
    ·walk_at "w"
     refine ZG9 (S2 _ _ (SP _ _ hd)) hy ?_
     walk_at "w"
     refine ZC1 (by show 2 ≤ sizeLine; decide) fun c H4 n4 hc S4 => ?_
     have f4 := S4 _ _ f
     refine ⟨vs, f4, ?_, ⟨_, rfl⟩, ?_, ?_⟩
     ·have e := hPc.length
      rw [e]
      refine Nat.lt_of_le_of_lt (List.length_filter_le _ _) ?_
      rw [List.length_take]
      exact Nat.lt_of_le_of_lt (Nat.min_le_left _ _) (Nat.lt_of_lt_of_le (show i' < 64 by omega) (by decide))
     ·exact (S2.trans S4).kpN n1 Kp.upd
     ·refine ⟨_, ZCy, ?_⟩
      rw [e4, decide_eq_true (show x ≤ ns[i'] by omega), decide_eq_true (show ns[i'] < z by omega), Bool.and_self, if_pos rfl]
      exact ZCt.kpL Kp.upd f4 ((hPc.same S4).snoc hc)
    ·refine ⟨⟨_, rfl⟩, S2, vs, f, ?_⟩
     rw [e4, decide_eq_false (show ¬ ns[i'] < z by omega), Bool.and_false, if_neg (by decide), List.append_nil]
     exact hPc
   ·walk_at "w"
    refine ZDu ?_
    refine ⟨⟨_, rfl⟩, S2, vs, f, ?_⟩
    rw [e4, decide_eq_false (show ¬ x ≤ ns[i'] by omega), Bool.false_and, if_neg (by decide), List.append_nil]
    exact hPc
end
theorem ZNH {m : PL} (n : (m.map (·.1)).Nodup) (t : Int) (o : Option Int) (ho : o = none → (ZC9 m t).isSome = true) : Eqv (ZFP (ZFP m t o) t (ZC9 m t)) m := by
 cases o with
 | none =>
  obtain ⟨v, hv⟩ := Option.isSome_iff_exists.mp (ho rfl)
  rw [hv]
  exact ZOJ n hv
 | some v =>
  cases hg : ZC9 m t with
  | none => exact ZOK n hg
  | some u => exact ZP0 n hg
section
variable {P : Program} {w : World} {K : W.Frag} {mg : Str → Option Value} {base : Heap} {a : Ad}
theorem ZLg {S : SA} {H H1 H2 : Hp} (s : ZCq H H1) (n : ∀ b ∈ S.own, H b = none) (f : FrS S H1 H2) : ZCq H H2 := fun b o e => f _ _ (s _ _ e) fun z => by rw [n b z] at e; cases e
theorem none_of {H H' : Hp} (s : ZCq H H') {b : Addr} (n : H' b = none) : H b = none := by
 cases e : H b with
 | none => rfl
 | some o => rw [s _ _ e] at n; cases n
theorem FrS.pot {S : SA} {H H' : Hp} (f : FrS S H H') {p : Addr} (hp : Pot H p) (n : p ∉ S.own) : Pot H' p := by
 obtain ⟨u, v, e, z⟩ := hp
 exact ⟨u, v, f _ _ e n, z⟩
def ZKW (K : W.Frag) : Sp := fun vs H Q _ => ∃ (s : Addr) (ns : List Int), vs = [.ref s] ∧ SqL K H s (ns.map V.int) ∧ ns.length ≤ 63 ∧ ∀ H', Q (.bl true) H'
theorem ZFR : ZCv ["_law_script", "_law_pot_here", "_law_held", "_law_store", "_law_t", "_law_after", "_law_place", "_law_other", "_law_due"] ["_law_script"] (ZCo ZE1) := ZDI
theorem ZTz (T : Txt K mg a) : ZCr P w K mg base CX0 11 a.ZCB a.ZCC ["_law_script"] (ZKW K) := by
 refine T.ZCe.ok ZFR (by walk_at "l") (fun cdv A outer s H vs Q E hr h => ?_)
 ·obtain ⟨s, ns, rfl, hS, hn, k⟩ := h
  have hu := ZD9 hr
  have hu64 := hr.units
  refine ⟨_, QB.h (ZCm (qsS (i := 1) ZFR.nd (qcS (ZJ9 T) hr.m T.ZBh T.ZA0.kp T.ZBe (ZCj (qv 0) (ZCj ZCl ZCk)))) (ZCm (qsS (i := 2) ZFR.nd (qcS (ZOh T) hr.m T.ZCU T.ZBi.kp T.ZCX (ZCj (qv 1) ZCk))) (ZCm (qsS (i := 3) ZFR.nd (ZJY T.ZBd (ZIL T) hr.m rfl T.ZCA T.JR .nil ZDd (ZCj (qcS (ZGN T) hr.m T.J7 T.JI.kp T.ZAB (ZCj (qv 2) ZCk)) ZCk))) (ZCm (ZC5 (ZC7 (qv 3) T.ZH T.Y8 (ZGt T) hr.m T.JB .nil ZDd (ZCj (ZDK (ZCj (ZEx ZEM ZCl) (ZCj ZCl (ZCj ZCl ZCk)))) ZCk))) (ZCm (qsS (i := 4) ZFR.nd (ZCs ZEF (qcS (ZDD T) hr.m T.ZK T.ZJ.kp T.ZL (ZCj (qv 1) (ZCj ZCl ZCk))) ZCl)) (ZCm (qsS (i := 5) ZFR.nd (ZDi ZM6 rfl T.ZBn ZRj (ZCj (qv 2) ZCk))) (ZCm (ZF0 hu (qcS (ZGd T) hr.m T.ZAH T.JH.kp T.ZAE (ZCj (qv 1) ZCk)) (qv 5) (qv 4)) (ZCm (ZC5 (ZC7 (qv 3) T.ZH T.ZAv (ZLe T) hr.m T.ZAt .nil ZDd (ZCj (qv 4) (ZCj (ZID hu (qv 5) (qv 4)) ZCk)))) (ZCm (ZFl PassesOwn.never rfl (ZNl rfl T.YI (ZCj ZCl (ZCj (ZC8 (ZS8 rfl) rfl T.ZBc ZNh (ZCj ZCl (ZCj (ZC8 (ZS9 rfl) rfl T.ZBb ZNi (ZCj ZCl (ZCj (ZC8 (ZFI K rfl) rfl T.YQ ZFG (ZCj (qv 0) ZCk)) ZCk))) ZCk))) ZCk))) (qgN (i := 6) ZFR.nd) (ZCm (qsS (i := 7) ZFR.nd (qcS (ZJ9 T) hr.m T.ZBh T.ZA0.kp T.ZBe (ZCj (qv 0) (ZCj (qv 6) ZCk)))) (ZCm (ZDS (ZD6 (ZEO (qcS (ZLf T) hr T.ZB4 T.ZAm.kp T.ZB2 (ZCj (qv 3) (ZCj (qcS (ZDD T) hr.m T.ZK T.ZJ.kp T.ZL (ZCj (qv 7) (ZCj ZCl ZCk))) (ZCj (qv 7) ZCk)))))) (ZCn (ZCw ZFe)) ZC6) (ZCn (ZDS (QW.pt (ZE6 (ZC2 (ZGl K rfl hu64) (ZFX (qv 3) T.ZH T.ZAW (ZHi T) hr.m T.ZAb .nil ZDd) (qcS (ZGN T) hr.m T.J7 T.JI.kp T.ZAB (ZCj (qv 5) ZCk)) (ZC4 _)) (ZEc (ZC2 (ZGl K rfl hu64) (ZFX (qv 3) T.ZH T.ZBZ (ZJi T) hr.m T.ZBX .nil ZDd) (ZDK (ZCj (qv 4) ZCk)) (ZC4 _))))) (ZCn (ZCw ZFe)) ZC6))))) (ZCm (ZDS (QW.pt (ZE6 (ZC2 (ZT6) (ZC7 (qv 3) T.ZH T.Y8 (ZGt T) hr.m T.JB .nil ZDd (ZCj (ZDK (ZCj (ZEx ZEM ZCl) (ZCj ZCl (ZCj ZCl ZCk)))) ZCk)) ZCl (ZC4 _)) (ZEc (ZC2 (ZGl K rfl hu64) (ZC7 (qv 3) T.ZH T.JM (ZHj T) hr.m T.JX .nil ZDd (ZCj ZCl ZCk)) (ZDK ZCk) (ZC4 _))))) (ZCn (ZCw ZFe)) ZC6) (ZCm (ZMI (N := ["_law_script", "_law_pot_here", "_law_held", "_law_store", "_law_t", "_law_after", "_law_place", "_law_other", "_law_due"]) (sc := ZCo ZE1) (own := ["_law_k"]) (caps := ["_law_after", "_law_held"]) (ks := [5, 2]) (i := 8) rfl rfl rfl ⟨rfl, by decide +kernel, by decide +kernel, by decide +kernel, by decide +kernel, rfl, by decide +kernel⟩ ZFR.nd rfl (by walk_at "o") (ZFk rfl T.YI (ZCj ZCl ZCk)) (fun _ _ _ _ _ => ZEy (i := 0) (show List.Nodup (α := Str) ["_law_k", "_law_after", "_law_held"] from by decide +kernel) rfl (by walk_at "o") (.inr rfl)) (fun _ _ _ _ _ => ZId (ZC2 (ZGl K rfl hu64) (qcS (ZH7 T) hr.m T.ZAn T.Jk.kp T.ZAr (ZCj (qv 1) (ZCj (qv 0) ZCk))) (qcS (ZH7 T) hr.m T.ZAn T.Jk.kp T.ZAr (ZCj (qv 2) (ZCj (qv 0) ZCk))) (ZC4 _))) (fun _ _ _ _ _ => qv 0)) (ZCm (ZDS (QW.pt (ZE6 (ZC2 (ZGl K rfl hu64) (ZC7 (qv 3) T.ZH T.JM (ZHj T) hr.m T.JX .nil ZDd (ZCj ZCl ZCk)) (ZDi (ZEq K rfl) rfl T.Zr ZEo (ZCj (qv 8) ZCk)) (ZC4 _)) (ZEc (ZD6 (ZEO (qcS (ZOi T) hr.m T.ZCS T.ZBv.kp T.ZCW (ZCj (qv 2) (ZCj (qv 1) ZCk)))))))) (ZCn (ZCw ZFe)) ZC6) (ZCn (ZCw (ZF3 (ZFW (ZNk) (ZFX (qv 3) T.ZH T.ZAX (ZHh T) hr.m T.ZAV .nil ZDd) ZFe (ZC4 _)) (ZF3 (ZFW (ZTb K rfl hu64) (ZFX (qv 3) T.ZH T.ZAW (ZHi T) hr.m T.ZAb .nil ZDd) (qcS (ZGN T) hr.m T.J7 T.JI.kp T.ZAB (ZCj (qv 2) ZCk)) (ZC4 _)) (ZGi (ZFW (ZNk) (ZFX (qv 3) T.ZH T.ZAX (ZHh T) hr.m T.ZAV .nil ZDd) ZFe (ZC4 _))))))))))))))))))), ?_⟩
  walk_at "s"
  walk_at "w"
  refine ⟨s, ns, _, rfl, hS, by decide, by decide, fun p H1 n1 P1 S1 => ?_⟩
  walk_at "w"
  refine ⟨p, rfl, P1, fun d m H2 nd2 fd2 hnd hml hmb P2 K2 => ?_⟩
  have S02 : ZCq H H2 := S1.kpN n1 K2
  have htm : ∀ r ∈ m, Tm r.1 := fun r hr => by have := hmb r hr; unfold Tm; omega
  walk_at "w"
  refine ⟨d, m, rfl, fd2, hnd, by omega, fun t3 cv H3 hP3 hA3 hm3 hl3 S3 => ?_⟩
  walk_at "w"
  refine ZIF fun x dx H4 n4 f4 S4 => ?_
  refine ⟨x, dx, .ref t3, cv, rfl, f4, .inr ⟨t3, rfl, hP3.same S4⟩, ZOO hA3, fun r hr => htm r ((hm3 r).mp hr), by omega, fun S sm H5 eS hfr hSt hsm hsl K5 => ⟨rfl, ?_⟩⟩
  subst eS
  have S35 : ZCq H3 H5 := S4.kpN n4 K5
  have S25 := S3.trans S35
  have S05 := S02.trans S25
  have hfr0 : ∀ b ∈ S.own, H b = none := fun b hb => none_of (S02.trans (S3.trans S4)) (hfr b hb)
  have nown : ∀ b o, H2 b = some o → b ∉ S.own := fun b o e z => by
   have := hfr b z
   rw [S4 _ _ (S3 _ _ e)] at this; cases this
  have pn : p ∉ S.own := by
   obtain ⟨_, _, e, _⟩ := P2
   exact nown _ _ e
  have dn : d ∉ S.own := nown _ _ fd2
  have lsown : ∀ b ∈ S.ls, b ∈ S.own := fun b z => by
   simp only [SA.ls, SA.own, List.mem_cons, List.not_mem_nil, or_false] at z ⊢
   rcases z with z | z | z <;> simp [z]
  have pls : p ∉ S.ls := fun z => pn (lsown _ z)
  have heq : Eqv sm m := fun r => (hsm r).trans (hm3 r)
  obtain ⟨dx5, vs5, hp5, _⟩ := id hSt
  walk_at "w"
  refine ZC0 hp5 ZDT ?_
  walk_at "w"
  refine ZC1 (by show 3 ≤ sizeLine; decide) fun w6 H6 n6 f6 S6 => ?_
  walk_at "w"
  refine ⟨S, w6, _, _, _, _, sm, _, _, _, _, rfl, hSt.same S6, ⟨f6, by decide, by decide, by decide, by unfold InT; decide, by unfold InT; decide⟩, by simp, fun v7 fs7 n7 H7 hW7 h47 hS7 F7 => ?_⟩
  have S26 := S25.trans S6
  have S07 : ZCq H H7 := ZLg (S05.trans S6) hfr0 F7
  have P7 := F7.pot (P2.same S26) pn
  have fd7 := F7 _ _ (S26 _ _ fd2) dn
  walk_at "w"
  refine ⟨p, _, rfl, P7, by decide, by decide, fun e8 H8 h8 h8' P8 K8 => ?_⟩
  have hS8 := hS7.pot P7 K8 pls
  have ndp : d ≠ p := fun z => by
   obtain ⟨_, _, e, _⟩ := P2
   rw [← z, fd2] at e; cases e
  have fd8 := K8 _ _ fd7 ndp
  have S08 := S07.kpN n1 K8
  have hW8 := hW7.tups fun b xs e => K8 _ _ e (P7.ne_tup e)
  walk_at "w"
  refine ZP5 fd8 fun a2 H9 n9 f9 S9 => ?_
  have a2n : a2 ∉ S.own := fun z => (hS8.apart (l := [a2]) (fun b hb => by rw [List.mem_singleton.mp hb]; exact n9) a2 List.mem_cons_self) (List.mem_cons_of_mem _ z)
  have a2p : a2 ≠ p := P8.neN n9
  have n02 : H a2 = none := none_of S08 n9
  walk_at "w"
  refine ⟨p, rfl, P8.same S9, fun hh H10 P10 K10 => ?_⟩
  have f10 := K10 _ _ f9 a2p
  walk_at "w"
  refine ZHA f10 (Nat.lt_of_le_of_lt (show m.length ≤ 100 by omega) (by decide)) fun H11 f11 K11 => ?_
  have hS11 := ((hS8.same S9).pot (P8.same S9) K10 pls).kpD K11 f10 (fun z => a2n (by rw [z]; simp [SA.own]))
  have S011 := ((S08.trans S9).kpN n1 K10).kpN n02 K11
  have P11 : Pot H11 p := by
   obtain ⟨u, v, e, z⟩ := P10
   exact ⟨u, v, K11 _ _ e (Ne.symm a2p), z⟩
  have fd11 : H11 d = some (.dK (ZDN m)) := K11 _ _ (K10 _ _ (S9 _ _ fd8) ndp) fun z => by rw [z, n9] at fd8; cases fd8
  have hW11 := (hW8.tups fun b xs e => K10 _ _ (S9 _ _ e) ((P8.same S9).ne_tup (S9 _ _ e))).tups fun b xs e => K11 _ _ e fun z => by rw [z, f10] at e; cases e
  generalize htt : e8 - 12 = tt at f11
  have hT1 : Tm tt := by unfold Tm; omega
  have htb : -12 ≤ tt ∧ tt ≤ 12 := by omega
  obtain ⟨dx11, vs11, hp11, _⟩ := id hS11
  walk_at "w"
  refine ZC0 hp11 ZDT ?_
  walk_at "w"
  refine ZG9 f11 (by rw [ZIf, if_pos rfl]) ?_
  walk_at "w"
  refine ⟨S, _, tt, hh, sm, _, _, _, _, rfl, hS11, hT1, by omega, by omega, by simp, by simp, fun H12 hS12 F12 => ?_⟩
  have S012 := ZLg S011 hfr0 F12
  have P12 := F12.pot P11 pn
  have fd12 := F12 _ _ fd11 dn
  have fa12 := F12 _ _ f11 a2n
  have hW12 := hW11.tups fun b xs e => hS11.keepT F12 e
  have hnd1 : ((ZDO m tt hh).map (·.1)).Nodup := ZEz hnd
  have hml1 := ZE8 m tt hh
  have hsl1 := ZE8 sm tt hh
  have heq1 : Eqv (ZDO sm tt hh) (ZDO m tt hh) := heq.put hSt.nd hnd tt hh
  have hmb1 : ∀ r ∈ ZDO sm tt hh, -12 ≤ r.1 ∧ r.1 ≤ 12 := fun r hr => by
   rcases (ZD4 hnd).mp ((heq1 r).mp hr) with z | z
   ·exact hmb r z.2
   ·rw [z]; exact htb
  have hSq12 := S012.seq hS
  walk_at "w"
  rw [List.length_map]
  generalize hj : (if (if (ns.length : Int) < 33 then (ns.length : Int) else 33) > 9 then (if (ns.length : Int) < 33 then (ns.length : Int) else 33) else 9) = j
  have hj1 : 9 ≤ j := by rw [← hj]; split <;> omega
  have hj2 : j ≤ 33 := by rw [← hj]; split <;> (try split) <;> omega
  refine ⟨1, j, rfl, ⟨by decide, by decide, by omega, by omega⟩, ?_⟩
  refine ZJT (fun i σ H' => (∃ v6 v7 v8, σ = [some (.ref s), some (.ref p), some (.ref d), some (.ref S.p), some (.int tt), some (.ref a2), v6, v7, v8]) ∧ ZCq H12 H') ?_ ?_ ?_
  ·exact ⟨⟨_, _, _, rfl⟩, ZCq.refl _⟩
  ·rintro i σ H13 hi ⟨⟨v6, v7', v8, rfl⟩, S13⟩
   have hi2 : (i : Int) < 40 := by omega
   have hS13 := hS12.same S13
   walk_at "w"
   refine ⟨s, ns, _, rfl, (S012.trans S13).seq hS, by omega, by omega, fun q H14 n14 P14 S14 => ?_⟩
   have qls : q ∉ S.ls := (hS13.fresh n14).1
   walk_at "w"
   refine ⟨q, _, rfl, P14, by decide, by decide, fun e15 H15 h15 h15' P15 K15 => ?_⟩
   have hS15 := (hS13.same S14).pot P14 K15 qls
   walk_at "w"
   refine ⟨S, q, _, _, _, _, _, _, e15, rfl, hS15, P15, qls, rfl, hmb1, by omega, by omega, fun H16 P16 K16 => ?_⟩
   have S1316 : ZCq H13 H16 := (S14.kpN n14 K15).kpN n14 K16
   have hS16 := hS15.pot P15 K16 qls
   obtain ⟨dx16, vs16, hp16, _⟩ := id hS16
   walk_at "w"
   refine ZDu ?_
   walk_at "w"
   refine ZC0 hp16 ZDT ?_
   refine ⟨S, _, _, _, _, _, _, rfl, hS16, by omega, fun t17 cv17 H17 hP17 hA17 hm17 S17 => ?_⟩
   have S1317 := S1316.trans S17
   walk_at "w"
   refine ⟨a2, ZDO m tt hh, rfl, S1317 _ _ (S13 _ _ fa12), hnd1, by omega, fun t18 cv18 H18 hP18 hA18 hm18 _ S18 => ?_⟩
   have ecv : cv17 = cv18 := ZJW hA17 hA18 fun r => (hm17 r).trans ((heq1 r).trans (hm18 r).symm)
   walk_at "w"
   refine ZRo (hP17.same S18) hP18 ?_
   rw [decide_eq_true ecv]
   walk_at "w"
   refine ZDu ?_
   have hS18 := hS16.same (S17.trans S18)
   obtain ⟨dx18, vs18, hp18, _⟩ := id hS18
   walk_at "w"
   refine ZC0 hp18 ZDT ?_
   refine ⟨S, _, _, _, _, _, _, rfl, hS18, fun u19 H19 f19 S19 => ?_⟩
   walk_at "w"
   refine ZC1 (by show 1 ≤ sizeLine; decide) fun u20 H20 n20 f20 S20 => ?_
   walk_at "w"
   refine ZJc (l := [tt]) (m := [tt]) (S20 _ _ f19) f20 ?_
   rw [decide_eq_true rfl]
   walk_at "w"
   refine ZDu ?_
   walk_at "w"
   exact ⟨⟨_, _, _, rfl⟩, S13.trans (S1317.trans (S18.trans (S19.trans S20)))⟩
  ·rintro σ H13 ⟨⟨v6, v7', v8, rfl⟩, S13⟩
   have hS13 := hS12.same S13
   have P13 := P12.same S13
   have fd13 := S13 _ _ fd12
   have fa13 := S13 _ _ fa12
   have hW13 := hW12.tups fun b xs e => S13 _ _ e
   obtain ⟨dx13, vs13, hp13, _⟩ := id hS13
   walk_at "w"
   refine ZC0 hp13 ZDT ?_
   walk_at "w"
   refine ZC1 (by show 3 ≤ sizeLine; decide) fun w14 H14 n14 f14 S14 => ?_
   walk_at "w"
   refine ⟨S, w14, _, _, _, _, _, _, _, _, _, rfl, hS13.same S14, ⟨f14, by decide, by decide, by decide, by unfold InT; decide, by unfold InT; decide⟩, by simp, fun v15 fs15 n15 H15 hW15 h415 hS15 F15 => ?_⟩
   have P15 := F15.pot (P13.same S14) pn
   have fd15 := F15 _ _ (S14 _ _ fd13) dn
   have fa15 := F15 _ _ (S14 _ _ fa13) a2n
   have hW15' := hW13.tups fun b xs e => (hS13.same S14).keepT F15 (S14 _ _ e)
   walk_at "w"
   refine ZDu ?_
   obtain ⟨dx15, vs15, hp15, _⟩ := id hS15
   walk_at "w"
   refine ZC0 hp15 ZDT ?_
   walk_at "w"
   refine ⟨S, 1, _, v15, _, _, _, _, _, _, rfl, hS15, rfl, hW15, fun t16 v16 fs16 n16 H16 f16 hW16 h416 hS16 F16 => ?_⟩
   obtain rfl : fs16 = fs15 := ZGS (fun r => Iff.rfl) hS13.nd h416 h415
   rw [ZNE] at f16
   have P16 := F16.pot P15 pn
   have fd16 := F16 _ _ fd15 dn
   have fa16 := F16 _ _ fa15 a2n
   have hW16' := hW15'.tups fun b xs e => hS15.keepT F16 e
   walk_at "w"
   refine ZC1 (by show 0 ≤ sizeLine; decide) fun u17 H17 n17 f17 S17 => ?_
   walk_at "w"
   refine ZJc (l := []) (m := []) (S17 _ _ f16) f17 ?_
   rw [decide_eq_true rfl]
   walk_at "w"
   refine ZDu ?_
   have hS17 := hS16.same S17
   have fd17 := S17 _ _ fd16
   have fa17 := S17 _ _ fa16
   have hW17 := hW16'.tups fun b xs e => S17 _ _ e
   walk_at "w"
   refine ZHq (by decide) (by decide) ?_
   intro l18 n18
   refine ZFV 6 (fun i σ' H' => (∃ o, σ' = [o, some (.ref a2), some (.ref d)]) ∧ ZCq H17 H' ∧ ∃ gs hs : List (Option (PL)), gs.length = i ∧ hs.length = i ∧ (∀ (k : Nat) o, gs[k]? = some o → Is4 (ZDP (ZDO m tt hh) (-13 + (k : Int) * 5) (-13 + (k : Int) * 5 + 5)) o) ∧ (∀ (k : Nat) o, hs[k]? = some o → Is4 (ZDP m (-13 + (k : Int) * 5) (-13 + (k : Int) * 5 + 5)) o) ∧ H' l18 = some (.lst ((ZEa hs gs i).map V.int))) ?_ ?_ ?_
   ·exact ⟨⟨none, rfl⟩, ZCq.new n18, [], [], rfl, rfl, (fun k o e => by simp at e), (fun k o e => by simp at e), ZCy⟩
   ·rintro σ' H18 ⟨_, S18, gs, hs, hgl, hhl, hg, hh', f18⟩
    refine ⟨Nat.le_refl _, ?_⟩
    have e1 : hs = fs7 := ZGS (m' := sm) (b := -13) (y := 5) (k := 6) (fun r => (heq r).symm) hnd ⟨hhl, hh'⟩ h47
    have hS18 := hS17.same S18
    obtain ⟨dx18, vs18, hp18, _⟩ := id hS18
    walk_at "w"
    refine ZC0 hp18 ZDT ?_
    walk_at "w"
    refine ⟨S, 0, _, v7, _, _, _, _, _, _, rfl, hS18, rfl, hW17.tups fun b xs e => S18 _ _ e, fun t19 v19 fs19 n19 H19 f19 hW19 h419 hS19 F19 => ?_⟩
    have e2 : gs = fs19 := ZGS (m' := ZDO sm tt hh) (b := -13) (y := 5) (k := 6) (fun r => (heq1 r).symm) hnd1 ⟨hgl, hg⟩ h419
    have P19 := F19.pot ((P16.same S17).same S18) pn
    have fd19 := F19 _ _ (S18 _ _ fd17) dn
    have f1819 := F19 _ _ f18 (fun z => (hS17.apart (l := [l18]) (fun b hb => by rw [List.mem_singleton.mp hb]; exact n18) l18 List.mem_cons_self) (List.mem_cons_of_mem _ z))
    walk_at "w"
    refine ZFA (SqL.of f1819) fun u20 H20 n20 f20 S20 => ?_
    walk_at "w"
    refine ZJc (l := ZEa fs7 fs19 6) (m := ZEa hs gs 6) (S20 _ _ f19) f20 ?_
    rw [e1, e2, decide_eq_true rfl]
    walk_at "w"
    refine ZDu ?_
    have hS20 := hS19.same S20
    walk_at "w"
    refine ⟨d, p, m, rfl, S20 _ _ fd19, hnd, hml, htm, P19.same S20, fun H21 P21 K21 => ?_⟩
    have hS21 := hS20.pot (P19.same S20) K21 pls
    have fd21 := K21 _ _ (S20 _ _ fd19) ndp
    obtain ⟨dx21, vs21, hp21, _⟩ := id hS21
    walk_at "w"
    refine ZDu ?_
    walk_at "w"
    refine ZC0 hp21 ZDT ?_
    refine ⟨S, _, _, _, _, _, _, rfl, hS21, .inr ⟨[], tt, ZC9 sm tt, rfl, hT1, ?_, by omega, by omega, by simp, fun H22 hS22 F22 => ?_⟩⟩
    ·intro _
     rw [ZIf, if_pos rfl]
     rfl
    have heb : Eqv (ZFP (ZDO sm tt hh) tt (ZC9 sm tt)) sm := ZNH hSt.nd tt (some hh) (fun z => by cases z)
    have fd22 := F22 _ _ fd21 dn
    walk_at "w"
    refine ZD0 ?_
    obtain ⟨dx22, vs22, hp22, _⟩ := id hS22
    walk_at "w"
    refine ZC0 hp22 ZDT ?_
    have hbl := ZND (ZDO sm tt hh) tt (ZC9 sm tt)
    refine ⟨S, _, _, _, _, _, _, rfl, hS22, by omega, fun t23 cv23 H23 hP23 hA23 hm23 S23 => ?_⟩
    walk_at "w"
    refine ⟨d, m, rfl, S23 _ _ fd22, hnd, by omega, fun t24 cv24 H24 hP24 hA24 hm24 _ S24 => ?_⟩
    have ecv : cv23 = cv24 := ZJW hA23 hA24 fun r => (hm23 r).trans ((heb r).trans ((heq r).trans (hm24 r).symm))
    walk_at "w"
    refine ZRn (hP23.same S24) hP24 ?_
    rw [decide_eq_true ecv]
    walk_at "w"
    refine ZD0 ?_
    have hS24 := hS22.same (S23.trans S24)
    obtain ⟨dx24, vs24, hp24, _⟩ := id hS24
    walk_at "w"
    refine ZC0 hp24 ZDT ?_
    refine ⟨S, _, _, _, _, _, _, rfl, hS24, .inl ⟨rfl, ?_⟩⟩
    walk_at "w"
    rw [decide_eq_true rfl]
    exact k H24
   ·rintro i σ' H18 hi ⟨⟨o, rfl⟩, S18, gs, hs, hgl, hhl, hg, hh', f18⟩
    refine ⟨hi, ?_⟩
    rintro x H'' ⟨rfl, rfl⟩
    have e0 : (0 + (i : Int)) = (i : Int) := by omega
    walk_at "w"
    refine ⟨a2, ZDO m tt hh, _, -13 + (i : Int) * 5, -13 + (i : Int) * 5 + 5, rfl, by omega, by omega, S18 _ _ fa17, hnd1, by omega, fun v19 o19 H19 h19 g19 S19 => ?_⟩
    walk_at "w"
    refine ⟨d, m, _, -13 + (i : Int) * 5, -13 + (i : Int) * 5 + 5, rfl, by omega, by omega, S19 _ _ (S18 _ _ fd17), hnd, by omega, fun v20 o20 H20 h20 g20 S20 => ?_⟩
    have snoc : ∀ {fs : List (Option (PL))} {M : PL} {o : Option (PL)}, fs.length = i → (∀ (k : Nat) o, fs[k]? = some o → Is4 (ZDP M (-13 + (k : Int) * 5) (-13 + (k : Int) * 5 + 5)) o) → Is4 (ZDP M (-13 + (i : Int) * 5) (-13 + (i : Int) * 5 + 5)) o → ∀ (k : Nat) o', (fs ++ [o])[k]? = some o' → Is4 (ZDP M (-13 + (k : Int) * 5) (-13 + (k : Int) * 5 + 5)) o' := fun {fs M o} hl h1 h2 k o' e => by
     rw [List.getElem?_append] at e
     split at e
     ·exact h1 k o' e
     ·have ek : k = i := by
       have := (List.getElem?_eq_some_iff.mp e).1
       simp at this
       omega
      subst ek
      rw [hl, Nat.sub_self] at e
      have : o = o' := by simpa using e
      rw [← this]
      exact h2
    have hcut : ZEa (hs ++ [o20]) (gs ++ [o19]) i = ZEa hs gs i := by
     unfold ZEa
     congr 1
     apply List.filter_congr
     intro k hk
     have hk := List.mem_range.mp hk
     rw [List.getElem?_append_left (by omega), List.getElem?_append_left (by omega)]
    have e1 : (hs ++ [o20])[i]? = some o20 := by rw [List.getElem?_append_right (by omega), hhl, Nat.sub_self]; rfl
    have e2 : (gs ++ [o19])[i]? = some o19 := by rw [List.getElem?_append_right (by omega), hgl, Nat.sub_self]; rfl
    have es := ZJN (hs ++ [o20]) (gs ++ [o19]) i
    rw [hcut, e1, e2] at es
    have f20 := S20 _ _ (S19 _ _ f18)
    walk_at "w"
    refine ZJz (h19.same S20) h20 ?_
    walk_at "w"
    refine ZG1 (fun hne => ?_) (fun hne => ?_)
    ·walk_at "w"
     refine ⟨_, f20, ?_, ⟨_, rfl⟩, (S18.trans (S19.trans S20)).kpN n18 Kp.upd, gs ++ [o19], hs ++ [o20], by simp [hgl], by simp [hhl], snoc hgl hg g19, snoc hhl hh' g20, ?_⟩
     ·rw [List.length_map]
      exact Nat.lt_of_le_of_lt (ZJ6 _ _ _) (Nat.lt_of_lt_of_le (show i < 100 by omega) (by decide))
     ·rw [ZCy, es, if_pos (fun z => hne (Option.some.inj z)), List.map_append, e0]
      rfl
    ·refine ⟨⟨_, rfl⟩, S18.trans (S19.trans S20), gs ++ [o19], hs ++ [o20], by simp [hgl], by simp [hhl], snoc hgl hg g19, snoc hhl hh' g20, ?_⟩
     rw [es, if_neg (fun z => z (by rw [hne])), List.append_nil]
     exact f20
end
structure FnH (K : W.Frag) (x : Str) (st : Stmt) (f : Addr) (d : FuncData) : Prop where
 a : W.nsIn K mainGlobals x = some (some (.ref f))
 F : Fun K x x st f d
structure MtH (K : W.Frag) (C : Addr) (x q : Str) (st : Stmt) (f : Addr) (d : FuncData) : Prop where
 a : W.findIn K (.ref C) x = some (some (.ref f))
 i : W.isFn K (.ref f) = true
 F : Fun K x q st f d
open PySem.W in
theorem all_mk {l : OpenLaw} {w : World} {K : Frag} {h : Heap} {mg : Str → Option Value} {fa : Addr} (X : K.In h) (G : h.Ns mainGlobals mg) (hfa : mg "law" = some (.ref fa))
 {ZF ZG ZE ZC ZA ZB ZD : Addr}
 {f0 f1 f2 f3 f4 f5 f6 f7 f8 f9 f10 f11 f12 f13 f14 f15 f16 f17 f18 f19 f20 f21 f22 f23 f24 f25 f26 f27 f28 f29 f30 f31 f32 f33 f34 f35 f36 f37 f38 f39 f40 f41 f42 f43 f44 f45 f46 f47 f48 : Addr} {d0 d1 d2 d3 d4 d5 d6 d7 d8 d9 d10 d11 d12 d14 d15 d16 d17 d18 d19 d21 d22 d23 d24 d25 d26 d27 d28 d29 d30 d31 d32 d33 d34 d35 d36 d37 d38 d39 d40 d41 d42 d43 d44 d45 d46 d47 : FuncData}
 {od13 an13 : Option Addr} {sl13 : Array (Option Value)} {oc13 kV13 dc13 pm13 cd13 ct13 : Value}
 {dt13 : Addr} {dod13 : Option Addr} {dsl13 : Array (Option Value)} {doc13 : Value} {dn13 : Nat}
 {od20 an20 : Option Addr} {sl20 : Array (Option Value)} {oc20 kV20 dc20 pm20 cd20 ct20 : Value}
 {dt20 : Addr} {dod20 : Option Addr} {dsl20 : Array (Option Value)} {doc20 : Value} {dn20 : Nat}
 {od48 an48 : Option Addr} {sl48 : Array (Option Value)} {oc48 kV48 dc48 pm48 cd48 ct48 : Value}
 {tk_TOP_LEVEL : Tok}
 {tk_TIMES_END : Tok}
 (e_FourPointsError : ZLO K "FourPointsError" ZE)
 (e_NoColumn : ZLO K "NoColumn" ZC)
 (e_OutOfTimes : ZLO K "OutOfTimes" ZA)
 (e_NoSample : ZLO K "NoSample" ZB)
 (e_NoWatch : ZLO K "NoWatch" ZD)
 (Zl : subIn K (.ref ZC) (.ref ZE) = some true) (Zm : kitOne K (.ref ZC) (.ref ZE) = some true)
 (Yg : subIn K (.ref ZC) (.ref ZC) = some true) (Yj : kitOne K (.ref ZC) (.ref ZC) = some true)
 (YH : subIn K (.ref ZC) (.ref ZA) = some false) (YM : kitOne K (.ref ZC) (.ref ZA) = some false)
 (Yf : subIn K (.ref ZC) (.ref ZB) = some false) (Yh : kitOne K (.ref ZC) (.ref ZB) = some false)
 (Yz : subIn K (.ref ZC) (.ref ZD) = some false) (Yy : kitOne K (.ref ZC) (.ref ZD) = some false)
 (ZN : subIn K (.ref ZA) (.ref ZE) = some true) (Ze : kitOne K (.ref ZA) (.ref ZE) = some true)
 (YL : subIn K (.ref ZA) (.ref ZC) = some false) (YK : kitOne K (.ref ZA) (.ref ZC) = some false)
 (Z6 : subIn K (.ref ZA) (.ref ZA) = some true) (ZQ : kitOne K (.ref ZA) (.ref ZA) = some true)
 (YG : subIn K (.ref ZA) (.ref ZB) = some false) (Zb : kitOne K (.ref ZA) (.ref ZB) = some false)
 (Ye : subIn K (.ref ZA) (.ref ZD) = some false) (YO : kitOne K (.ref ZA) (.ref ZD) = some false)
 (ZV : subIn K (.ref ZB) (.ref ZE) = some true) (Zk : kitOne K (.ref ZB) (.ref ZE) = some true)
 (Yl : subIn K (.ref ZB) (.ref ZC) = some false) (Yk : kitOne K (.ref ZB) (.ref ZC) = some false)
 (YJ : subIn K (.ref ZB) (.ref ZA) = some false) (Zd : kitOne K (.ref ZB) (.ref ZA) = some false)
 (Yi : subIn K (.ref ZB) (.ref ZB) = some true) (Zs : kitOne K (.ref ZB) (.ref ZB) = some true)
 (Y1 : subIn K (.ref ZB) (.ref ZD) = some false) (Y2 : kitOne K (.ref ZB) (.ref ZD) = some false)
 (ZY : subIn K (.ref ZD) (.ref ZE) = some true) (Zt : kitOne K (.ref ZD) (.ref ZE) = some true)
 (Y4 : subIn K (.ref ZD) (.ref ZC) = some false) (Y5 : kitOne K (.ref ZD) (.ref ZC) = some false)
 (Yd : subIn K (.ref ZD) (.ref ZA) = some false) (Zg : kitOne K (.ref ZD) (.ref ZA) = some false)
 (Y6 : subIn K (.ref ZD) (.ref ZB) = some false) (Y0 : kitOne K (.ref ZD) (.ref ZB) = some false)
 (JG : subIn K (.ref ZD) (.ref ZD) = some true) (Z7 : kitOne K (.ref ZD) (.ref ZD) = some true)
 (e_Tree : ZTp K "Tree" ZF)
 (na_Tree_looks : findIn K (.ref ZF) "looks" = some none)
 (na_Tree_samples : findIn K (.ref ZF) "samples" = some none)
 (na_Tree_kept_fours : findIn K (.ref ZF) "kept_fours" = some none)
 (e_Store : ZTp K "Store" ZG)
 (na_Store_tree : findIn K (.ref ZG) "tree" = some none)
 (na_Store_deeds : findIn K (.ref ZG) "deeds" = some none)
 (na_Store_done : findIn K (.ref ZG) "done" = some none)
 (na_Store_watches : findIn K (.ref ZG) "watches" = some none)
 (F0 : FnH K "is_whole" ZHP f0 d0)
 (F1 : FnH K "curve_of" ZFx f1 d1)
 (F2 : FnH K "times_of" ZHQ f2 d2)
 (F3 : FnH K "columns_of" ZFK f3 d3)
 (F4 : FnH K "height_of" ZGT f4 d4)
 (F5 : FnH K "four_of" ZHy f5 d5)
 (F6 : FnH K "joined" ZIm f6 d6)
 (F7 : FnH K "is_border" ZGU f7 d7)
 (F8 : FnH K "check_borders" ZFL f8 d8)
 (F9 : FnH K "check_time" ZF6 f9 d9)
 (F10 : FnH K "check_window" ZFa f10 d10)
 (F11 : FnH K "stretches" ZGV f11 d11)
 (F12 : FnH K "longest" ZHz f12 d12)
 (a13 : findIn K (.ref ZF) "__init__" = some (some (.ref f13))) (i13 : isFn K (.ref f13) = true)
 (l13 : K.lookup f13 = some ⟨oc13, od13, .func (fnOf "__init__" "Tree.__init__" (ZDs ZDb) (ZDX ZDb) (ZCo ZDb) (.ref dt13) kV13 dc13 pm13 an13 cd13 ct13), sl13⟩) (c13 : codeIn K cd13 "Tree.__init__" = true) (k13 : keepIn K (.ref f13) = true)
 (dl13 : K.lookup dt13 = some ⟨doc13, dod13, .seq #[.none] dn13, dsl13⟩)
 (F14 : MtH K ZF "put" "Tree.put" ZHR f14 d14)
 (F15 : MtH K ZF "take" "Tree.take" ZGW f15 d15)
 (F16 : MtH K ZF "renew" "Tree.renew" ZF7 f16 d16)
 (F17 : MtH K ZF "four" "Tree.four" ZGX f17 d17)
 (F18 : MtH K ZF "fours" "Tree.fours" ZFM f18 d18)
 (F19 : MtH K ZF "told" "Tree.told" ZGY f19 d19)
 (a20 : findIn K (.ref ZG) "__init__" = some (some (.ref f20))) (i20 : isFn K (.ref f20) = true)
 (l20 : K.lookup f20 = some ⟨oc20, od20, .func (fnOf "__init__" "Store.__init__" (ZDs ZDV) (ZDX ZDV) (ZCo ZDV) (.ref dt20) kV20 dc20 pm20 an20 cd20 ct20), sl20⟩) (c20 : codeIn K cd20 "Store.__init__" = true) (k20 : keepIn K (.ref f20) = true)
 (dl20 : K.lookup dt20 = some ⟨doc20, dod20, .seq #[.none] dn20, dsl20⟩)
 (F21 : MtH K ZG "put" "Store.put" ZGZ f21 d21)
 (F22 : MtH K ZG "take" "Store.take" ZF8 f22 d22)
 (F23 : MtH K ZG "height" "Store.height" ZFb f23 d23)
 (F24 : MtH K ZG "check_sample" "Store.check_sample" ZEZ f24 d24)
 (F25 : MtH K ZG "do" "Store.do" ZHS f25 d25)
 (F26 : MtH K ZG "bring" "Store.bring" ZFo f26 d26)
 (F27 : MtH K ZG "undo" "Store.undo" ZF9 f27 d27)
 (F28 : MtH K ZG "times" "Store.times" ZFp f28 d28)
 (F29 : MtH K ZG "four" "Store.four" ZGA f29 d29)
 (F30 : MtH K ZG "fours" "Store.fours" ZFq f30 d30)
 (F31 : MtH K ZG "told" "Store.told" ZGB f31 d31)
 (F32 : MtH K ZG "watch" "Store.watch" ZFr f32 d32)
 (F33 : MtH K ZG "news" "Store.news" ZFN f33 d33)
 (F34 : FnH K "_law_nth" ZJd f34 d34)
 (F35 : FnH K "_law_pot" ZJe f35 d35)
 (F36 : FnH K "_law_take" ZIn f36 d36)
 (F37 : FnH K "_law_cell" ZIo f37 d37)
 (F38 : FnH K "_law_height" ZHT f38 d38)
 (F39 : FnH K "_law_told" ZHU f39 d39)
 (F40 : FnH K "_law_beyond" ZHV f40 d40)
 (F41 : FnH K "_law_thing" ZH0 f41 d41)
 (F42 : FnH K "_law_deed" ZIp f42 d42)
 (F43 : FnH K "_law_window" ZHW f43 d43)
 (F44 : FnH K "_law_refused" ZGa f44 d44)
 (F45 : FnH K "_law_made" ZIq f45 d45)
 (F46 : FnH K "_law_near" ZIr f46 d46)
 (F47 : FnH K "_law_four_in" ZFg f47 d47)
 (a48 : nsIn K mainGlobals "law" = some (some (.ref f48)))
 (l48 : K.lookup f48 = some ⟨oc48, od48, .func (fnOf "law" "law" (ZDs ZE1) (ZDX ZE1) (ZCo ZE1) .none kV48 dc48 pm48 an48 cd48 ct48), sl48⟩) (c48 : codeIn K cd48 "law" = true) (k48 : keepIn K (.ref f48) = true)
 (ac_TOP_LEVEL : nsIn K mainGlobals "TOP_LEVEL" = some (some (.int 40 tk_TOP_LEVEL)))
 (ac_TIMES_END : nsIn K mainGlobals "TIMES_END" = some (some (.int 1099511627776 tk_TIMES_END)))
 (ZAY : nsIn K mainGlobals "ValueError" = some none)
 (ZCD : nsIn K mainGlobals "abs" = some none)
 (ZBq : nsIn K mainGlobals "bool" = some none)
 (ZBn : nsIn K mainGlobals "dict" = some none)
 (Js : nsIn K mainGlobals "int" = some none)
 (ZM : nsIn K mainGlobals "isinstance" = some none)
 (YQ : nsIn K mainGlobals "len" = some none)
 (ZBo : nsIn K mainGlobals "list" = some none)
 (ZBc : nsIn K mainGlobals "max" = some none)
 (ZBb : nsIn K mainGlobals "min" = some none)
 (YI : nsIn K mainGlobals "range" = some none)
 (Ym : nsIn K mainGlobals "sorted" = some none)
 (Zr : nsIn K mainGlobals "tuple" = some none)
   : ∃ fd : FuncData, (∀ (s : Shared) (v : Value), BindsTo s fd ⟨[v], []⟩ [("_law_script", v)]) ∧ ∀ base : Heap, K.In base → base.Ns mainGlobals mg → ZCr l.prog w K mg base CX0 11 fa fd ["_law_script"] (ZKW K) := by
  have e := hfa.symm.trans (mg_of X G a48)
  cases e
  have F13 := ZMN (st := ZDb) l13 c13 k13
  have F20 := ZMN (st := ZDV) l20 c20 k20
  have F48 := fun_mk (st := ZE1) l48 c48 k48
  have T : Txt K mg ⟨f0, d0, f1, d1, f2, d2, f3, d3, f4, d4, f5, d5, f6, d6, f7, d7, f8, d8, f9, d9, f10, d10, f11, d11, f12, d12, f13, fnOf "__init__" "Tree.__init__" (ZDs ZDb) (ZDX ZDb) (ZCo ZDb) (.ref dt13) kV13 dc13 pm13 an13 cd13 ct13, f14, d14, f15, d15, f16, d16, f17, d17, f18, d18, f19, d19, f20, fnOf "__init__" "Store.__init__" (ZDs ZDV) (ZDX ZDV) (ZCo ZDV) (.ref dt20) kV20 dc20 pm20 an20 cd20 ct20, f21, d21, f22, d22, f23, d23, f24, d24, f25, d25, f26, d26, f27, d27, f28, d28, f29, d29, f30, d30, f31, d31, f32, d32, f33, d33, f34, d34, f35, d35, f36, d36, f37, d37, f38, d38, f39, d39, f40, d40, f41, d41, f42, d42, f43, d43, f44, d44, f45, d45, f46, d46, f47, d47, fa, fnOf "law" "law" (ZDs ZE1) (ZDX ZE1) (ZCo ZE1) .none kV48 dc48 pm48 an48 cd48 ct48, ZF, ZG, ZE, ZC, ZA, ZB, ZD, tk_TOP_LEVEL, tk_TIMES_END⟩ := ⟨F0.F, (F0.F.b1 fun _ _ _ _ _ _ _ => rfl), (mg_of X G F0.a), F1.F, (F1.F.b1 fun _ _ _ _ _ _ _ => rfl), (mg_of X G F1.a), F2.F, (F2.F.b2 fun _ _ _ _ _ _ _ _ => rfl), (mg_of X G F2.a), F3.F, (F3.F.b1 fun _ _ _ _ _ _ _ => rfl), (mg_of X G F3.a), F4.F, (F4.F.b1 fun _ _ _ _ _ _ _ => rfl), (mg_of X G F4.a), F5.F, (F5.F.b1 fun _ _ _ _ _ _ _ => rfl), (mg_of X G F5.a), F6.F, (F6.F.b2 fun _ _ _ _ _ _ _ _ => rfl), (mg_of X G F6.a), F7.F, (F7.F.b1 fun _ _ _ _ _ _ _ => rfl), (mg_of X G F7.a), F8.F, (F8.F.b2 fun _ _ _ _ _ _ _ _ => rfl), (mg_of X G F8.a), F9.F, (F9.F.b1 fun _ _ _ _ _ _ _ => rfl), (mg_of X G F9.a), F10.F, (F10.F.b1 fun _ _ _ _ _ _ _ => rfl), (mg_of X G F10.a), F11.F, (F11.F.b2 fun _ _ _ _ _ _ _ _ => rfl), (mg_of X G F11.a), F12.F, (F12.F.b2 fun _ _ _ _ _ _ _ _ => rfl), (mg_of X G F12.a), F13, (fun s us hI hl => by match us, hl with | [_, _], _ => exact binds_K hI rfl dl13 rfl rfl rfl), (fun s us hI hl => have hl2 : us.length = 1 := (by simpa using hl); match us, hl2 with | [_], _ => binds_K hI rfl dl13 rfl rfl rfl), (fun s u v hI => binds_K hI rfl dl13 rfl rfl rfl), F14.F, (F14.F.b3 fun _ _ _ _ _ _ _ _ _ => rfl), ⟨F14.a, F14.i, F14.F.kp⟩, F15.F, (F15.F.b2 fun _ _ _ _ _ _ _ _ => rfl), ⟨F15.a, F15.i, F15.F.kp⟩, F16.F, (F16.F.b3 fun _ _ _ _ _ _ _ _ _ => rfl), ⟨F16.a, F16.i, F16.F.kp⟩, F17.F, (F17.F.b3 fun _ _ _ _ _ _ _ _ _ => rfl), ⟨F17.a, F17.i, F17.F.kp⟩, F18.F, (F18.F.b2 fun _ _ _ _ _ _ _ _ => rfl), ⟨F18.a, F18.i, F18.F.kp⟩, F19.F, (F19.F.b1 fun _ _ _ _ _ _ _ => rfl), ⟨F19.a, F19.i, F19.F.kp⟩, F20, (fun s us hI hl => by match us, hl with | [_, _], _ => exact binds_K hI rfl dl20 rfl rfl rfl), (fun s us hI hl => have hl2 : us.length = 1 := (by simpa using hl); match us, hl2 with | [_], _ => binds_K hI rfl dl20 rfl rfl rfl), (fun s u v hI => binds_K hI rfl dl20 rfl rfl rfl), F21.F, (F21.F.b3 fun _ _ _ _ _ _ _ _ _ => rfl), ⟨F21.a, F21.i, F21.F.kp⟩, F22.F, (F22.F.b2 fun _ _ _ _ _ _ _ _ => rfl), ⟨F22.a, F22.i, F22.F.kp⟩, F23.F, (F23.F.b2 fun _ _ _ _ _ _ _ _ => rfl), ⟨F23.a, F23.i, F23.F.kp⟩, F24.F, (F24.F.b2 fun _ _ _ _ _ _ _ _ => rfl), ⟨F24.a, F24.i, F24.F.kp⟩, F25.F, (F25.F.b3 fun _ _ _ _ _ _ _ _ _ => rfl), ⟨F25.a, F25.i, F25.F.kp⟩, F26.F, (F26.F.b3 fun _ _ _ _ _ _ _ _ _ => rfl), ⟨F26.a, F26.i, F26.F.kp⟩, F27.F, (F27.F.b1 fun _ _ _ _ _ _ _ => rfl), ⟨F27.a, F27.i, F27.F.kp⟩, F28.F, (F28.F.b1 fun _ _ _ _ _ _ _ => rfl), ⟨F28.a, F28.i, F28.F.kp⟩, F29.F, (F29.F.b3 fun _ _ _ _ _ _ _ _ _ => rfl), ⟨F29.a, F29.i, F29.F.kp⟩, F30.F, (F30.F.b2 fun _ _ _ _ _ _ _ _ => rfl), ⟨F30.a, F30.i, F30.F.kp⟩, F31.F, (F31.F.b1 fun _ _ _ _ _ _ _ => rfl), ⟨F31.a, F31.i, F31.F.kp⟩, F32.F, (F32.F.b2 fun _ _ _ _ _ _ _ _ => rfl), ⟨F32.a, F32.i, F32.F.kp⟩, F33.F, (F33.F.b2 fun _ _ _ _ _ _ _ _ => rfl), ⟨F33.a, F33.i, F33.F.kp⟩, F34.F, (F34.F.b2 fun _ _ _ _ _ _ _ _ => rfl), (mg_of X G F34.a), F35.F, (F35.F.b1 fun _ _ _ _ _ _ _ => rfl), (mg_of X G F35.a), F36.F, (F36.F.b2 fun _ _ _ _ _ _ _ _ => rfl), (mg_of X G F36.a), F37.F, (F37.F.b2 fun _ _ _ _ _ _ _ _ => rfl), (mg_of X G F37.a), F38.F, (F38.F.b1 fun _ _ _ _ _ _ _ => rfl), (mg_of X G F38.a), F39.F, (F39.F.b1 fun _ _ _ _ _ _ _ => rfl), (mg_of X G F39.a), F40.F, (F40.F.b1 fun _ _ _ _ _ _ _ => rfl), (mg_of X G F40.a), F41.F, (F41.F.b1 fun _ _ _ _ _ _ _ => rfl), (mg_of X G F41.a), F42.F, (F42.F.b3 fun _ _ _ _ _ _ _ _ _ => rfl), (mg_of X G F42.a), F43.F, (F43.F.b1 fun _ _ _ _ _ _ _ => rfl), (mg_of X G F43.a), F44.F, (F44.F.b3 fun _ _ _ _ _ _ _ _ _ => rfl), (mg_of X G F44.a), F45.F, (F45.F.b2 fun _ _ _ _ _ _ _ _ => rfl), (mg_of X G F45.a), F46.F, (F46.F.b1 fun _ _ _ _ _ _ _ => rfl), (mg_of X G F46.a), F47.F, (F47.F.b2 fun _ _ _ _ _ _ _ _ => rfl), (mg_of X G F47.a), F48, (F48.b1 fun _ _ _ _ _ _ _ => rfl), (mg_of X G a48), ⟨e_Tree.pg, e_Tree.hd, e_Tree.po, e_Tree.sa⟩, (mg_of X G e_Tree.a), ⟨e_Tree.mi, a13, i13, e_Tree.kc⟩, na_Tree_looks, na_Tree_samples, na_Tree_kept_fours, ⟨e_Store.pg, e_Store.hd, e_Store.po, e_Store.sa⟩, (mg_of X G e_Store.a), ⟨e_Store.mi, a20, i20, e_Store.kc⟩, na_Store_tree, na_Store_deeds, na_Store_done, na_Store_watches, e_FourPointsError.ex, ⟨e_FourPointsError.ga, e_FourPointsError.gt, e_FourPointsError.cl, e_FourPointsError.ob, e_FourPointsError.be⟩, (mg_of X G e_FourPointsError.a), e_NoColumn.ex, ⟨e_NoColumn.ga, e_NoColumn.gt, e_NoColumn.cl, e_NoColumn.ob, e_NoColumn.be⟩, (mg_of X G e_NoColumn.a), e_OutOfTimes.ex, ⟨e_OutOfTimes.ga, e_OutOfTimes.gt, e_OutOfTimes.cl, e_OutOfTimes.ob, e_OutOfTimes.be⟩, (mg_of X G e_OutOfTimes.a), e_NoSample.ex, ⟨e_NoSample.ga, e_NoSample.gt, e_NoSample.cl, e_NoSample.ob, e_NoSample.be⟩, (mg_of X G e_NoSample.a), e_NoWatch.ex, ⟨e_NoWatch.ga, e_NoWatch.gt, e_NoWatch.cl, e_NoWatch.ob, e_NoWatch.be⟩, (mg_of X G e_NoWatch.a), Zl, Zm, Yg, Yj, YH, YM, Yf, Yh, Yz, Yy, ZN, Ze, YL, YK, Z6, ZQ, YG, Zb, Ye, YO, ZV, Zk, Yl, Yk, YJ, Zd, Yi, Zs, Y1, Y2, ZY, Zt, Y4, Y5, Yd, Zg, Y6, Y0, JG, Z7, (mg_of X G ac_TOP_LEVEL), (mg_of X G ac_TIMES_END), (mg_none_of X G ZAY), (mg_none_of X G ZCD), (mg_none_of X G ZBq), (mg_none_of X G ZBn), (mg_none_of X G Js), (mg_none_of X G ZM), (mg_none_of X G YQ), (mg_none_of X G ZBo), (mg_none_of X G ZBc), (mg_none_of X G ZBb), (mg_none_of X G YI), (mg_none_of X G Ym), (mg_none_of X G Zr)⟩
  exact ⟨fnOf "law" "law" (ZDs ZE1) (ZDX ZE1) (ZCo ZE1) .none kV48 dc48 pm48 an48 cd48 ct48, fun s v => .of_eq rfl, fun base _ _ => ZTz T⟩
theorem walk {l : W.OpenLaw} {q : Program} {loose : List Str} {XP : (Str → Option Value) → Heap → Prop} {YP : World → Heap → Prop} {d : DefRec} {K : Params → W.Frag} (hn : l.most = some 63) (hdf : d.params.defaults = [])
  (hY : ∀ (w : World) (h : Heap), YP w h → (K w.params).In h)
  (F : ∀ (w : World) (mg : Str → Option Value) (fa : Addr) (h : Heap), (K w.params).In h → h.Ns mainGlobals mg → mg d.name = some (.ref fa) →
   ∃ fd : FuncData, (∀ (s : Shared) (u : Value), BindsTo s fd ⟨[u], []⟩ [("_law_script", u)]) ∧ ∀ base : Heap, (K w.params).In base → base.Ns mainGlobals mg → ZCr l.prog w (K w.params) mg base CX0 11 fa fd ["_law_script"] (ZKW (K w.params))) :
  W.WalkO q loose XP YP l.row.toRowW d [] (fun f vs => PySem.call f vs) :=
 L2.walk_of (n := 63) (k := 11) (x := "_law_script") (CX := fun _ => CX0) (sp := fun w => ZKW (K w.params)) hn (by decide) hdf ⟨rfl, by decide, by decide, rfl⟩ hY F (fun _ _ a ns hl _ hS => ⟨a, ns, rfl, hS, hl, fun _ => rfl⟩) fun _ _ _ _ _ z => z
end My
local macro_rules | `(tactic| walk_at "e") => `(tactic| (refine' ⟨?a, ?b, ?c, ?d, ?e, ?f, ?g⟩; (case a => k_is); (case b => k_exc); (case c => k_is); (case d => k_is); (case e => k_is); (case f => k_is); (case g => k_is)))
local macro_rules | `(tactic| walk_at "c") => `(tactic| (refine' ⟨?a, ?b, ?c, ?d, ?e, ?f, ?g⟩; (case a => k_is); (case b => k_is); (case c => k_is); (case d => k_is); (case e => k_is); (case f => k_is); (case g => k_is)))
local macro_rules | `(tactic| walk_at "f") => `(tactic| (refine' ⟨?a, L2.fun_mk ?b ?c ?d⟩; (case a => k_is); (case b => k_is); (case c => k_is); (case d => k_is)))
local macro_rules | `(tactic| walk_at "m") => `(tactic| (refine' ⟨?a, ?b, L2.fun_mk ?c ?d ?e⟩; (case a => k_is); (case b => k_is); (case c => k_is); (case d => k_is); (case e => k_is)))
namespace PySem.W.Fast
def tw222684110666657220:=()
def tw14699141507744401861:=()
def tw12491017592146209191:=()
def tw13146272598079092263:=()
def tw3027526503470105191:=()
def tw11012928021091208360:=()
def tw2543663116561653673:=()
def tw14224496727984438892:=()
def tw13348875817552252814:=()
def tw15649820760777044879:=()
def tw565683797573259664:=()
def tw11773984192786292724:=()
def tw17700973008056861877:=()
def tw10856250008412771030:=()
def tw6471509876706064025:=()
def tw13641687322557545405:=()
def tw11048566409732749050:=()
def tw337188939931720244:=()
def tw10516485825833664660:=()
def tw16849365725942406789:=()
def tw4448731786080467709:=()
def tw806996639398543671:=()
def tw16874733243991057327:=()
def tw17136282023704842957:=()
def tw16483354897595759513:=()
def tw1254521189727732401:=()
def tw4661710979474036061:=()
def tw9824353024326928519:=()
def tw10480811083292270667:=()
def tw5628264314011552127:=()
def tw6180784788337327588:=()
def tw10081293640869384676:=()
def tw4631989361854371378:=()
def tw304295562293911066:=()
def tw14857583266572693646:=()
def tw5801989824619782065:=()
def tw11500319202015431295:=()
def tw17508736381522493241:=()
def tw16034441817199866522:=()
def tw6160929260152309675:=()
def tw3226402961556108401:=()
def tw2611283497568288091:=()
def tw12153472978070258162:=()
def tw15561991256095418020:=()
def tw8825159049080422288:=()
def tw14622643129735363565:=()
def tw9105631516417618059:=()
def tw12996272177925869603:=()
def tw10842092258917146718:=()
def tw2624491669161876755:=()
def tw10333758605251658439:=()
def tw13307213959726389196:=()
def tw6782923902917028890:=()
def tw14733362558886098794:=()
def tw2540389014894783349:=()
def tw1251683466797178288:=()
def tw13734081321948787193:=()
def tw6740244217233409442:=()
def tw11845536574695867660:=()
def tw1213945196851634409:=()
def tw17989464361258293851:=()
def tw6050406588999928466:=()
def tw7989470521343528431:=()
def tw2168914667251221851:=()
def tw16800873082767100074:=()
def tw8485163483700895087:=()
def tw15816905258237683543:=()
def tw3797976310625494626:=()
def tw10103175295286802529:=()
def tw17063966410602892936:=()
def tw13505227906925364271:=()
def tw9940702574889379750:=()
def tw6300367073612428500:=()
def tw13959941188097109840:=()
def tw6605478851993091760:=()
def tw4056239365679733384:=()
def tw12477836742127749922:=()
def tw17775834432519134353:=()
def tw8472336739443326611:=()
def tw13087575213663063048:=()
def tw3825783028554975075:=()
def tw11020400052473979739:=()
def tw8674851830914853422:=()
def tw3678799782171510906:=()
def tw11337126276854520919:=()
def tw6967690962990687088:=()
def tw2274522155975988948:=()
def tw15871342549943220008:=()
def tw1937437774657086874:=()
def tw18261079166545945020:=()
def tw13330897510663279715:=()
def tw4452432105848719324:=()
def tw3435574634655811908:=()
def tw4019911275836626183:=()
def tw5224642388562629042:=()
def tw4100733337131476153:=()
def tw13889424434871712077:=()
def tw5633432665931608420:=()
def tw2594693903800684500:=()
def tw4379950783258357834:=()
def tw9502147880430114207:=()
def tw3880535621072765332:=()
def tw9943944108393113567:=()
def tw8073305784568951241:=()
def tw13631652230104822346:=()
def tw15206083975847875323:=()
def tw7115558888470831276:=()
def tw3941648606314139741:=()
def tw16973320978405803912:=()
def tw9070501451937090574:=()
def tw17628739423842092217:=()
def tw2580485267803241038:=()
def tw16837917829293897457:=()
def tw1182307233662328415:=()
def tw9093236113214058743:=()
def tw8624677078762802345:=()
def tw16175132659363207929:=()
def tw12457060634561053883:=()
def tw12774557615532039042:=()
def tw5118616150682135104:=()
def tw11367927423711402578:=()
def tw12795044633426142996:=()
def tw4731252951441175771:=()
def tw10745549776240795610:=()
def tw5957317677960704470:=()
def tw7959313077506819441:=()
def tw795035531920761919:=()
def tw6503343882790008897:=()
def tw15196394545806762498:=()
def tw16619402354765966630:=()
def tw16629274968304751740:=()
def tw2589664892017759935:=()
def tw4444142943658549654:=()
def tw15429245458941037946:=()
def tw14076216084793456890:=()
def tw3019036610060095814:=()
def tw17494465871439191383:=()
def tw18201284470809102191:=()
def tw17853548894645892046:=()
def tw7098216406385320578:=()
def tw6254813190884993476:=()
def tw11095397176875604760:=()
def tw10100792954401052851:=()
def tw7702335048377348276:=()
def tw3649888918905003601:=()
def tw9038829561974608878:=()
def tw9560864088544317760:=()
def tw8321731959889490035:=()
def tw5459748240131949560:=()
def tw13408631944548489669:=()
def tw252237616186687008:=()
def tw2929015289962107459:=()
def tw18441845108900711302:=()
def tw14305210783468646697:=()
def tw6298829774901388322:=()
def tw13233751024909593836:=()
def tw17470707699979665433:=()
def tw13156961641898877448:=()
def tw7988653902953237338:=()
def tw5085727337664024223:=()
def tw2852168570545635423:=()
end PySem.W.Fast
open PySem PySem.W PyProof.Rows
set_option maxRecDepth 100000 in
set_option maxHeartbeats 0 in
theorem PySem.Challenge.cw_fourpoints_k65_stores_refuse_holds : PySem.Challenge.rw_fourpoints_k65_stores_refuse.Holds := by
 w_on; o_law; k_head; (case hw => w_witness2)
 k_fill
 refine My.walk (l := PySem.Challenge.rw_fourpoints_k65_stores_refuse) rfl rfl (fun w h Y => PySem.W.kIn_of Y) ?F
 case F =>
  intro w mg fa h KX G hmg
  refine' My.all_mk KX G hmg ?taa ?tab ?tac ?tad ?tae ?taf ?tag ?tah ?tai ?taj ?tak ?tal ?tam ?tan ?tao ?tap ?taq ?tar ?tas ?tat ?tau ?tav ?taw ?tax ?tay ?taz ?tba ?tbb ?tbc ?tbd ?tbe ?tbf ?tbg ?tbh ?tbi ?tbj ?tbk ?tbl ?tbm ?tbn ?tbo ?tbp ?tbq ?tbr ?tbs ?tbt ?tbu ?tbv ?tbw ?tbx ?tby ?tbz ?tca ?tcb ?tcc ?tcd ?tce ?tcf ?tcg ?tch ?tci ?tcj ?tck ?tcl ?tcm ?tcn ?tco ?tcp ?tcq ?tcr ?tcs ?tct ?tcu ?tcv ?tcw ?tcx ?tcy ?tcz ?tda ?tdb ?tdc ?tdd ?tde ?tdf ?tdg ?tdh ?tdi ?tdj ?tdk ?tdl ?tdm ?tdn ?tdo ?tdp ?tdq ?tdr ?tds ?tdt ?tdu ?tdv ?tdw ?tdx ?tdy ?tdz ?tea ?teb ?tec ?ted ?tee ?tef ?teg ?teh ?tei ?tej ?tek ?tel ?tem ?ten ?teo ?tep ?teq ?ter ?tes ?tet ?teu ?tev ?tew ?tex ?tey ?tez ?tfa
  (case taa | tab | tac | tad | tae => walk_at "e")
  (case taf => k_is)
  (case tag => kit_is)
  (case tah => k_is)
  (case tai => kit_is)
  (case taj => k_is)
  (case tak => kit_is)
  (case tal => k_is)
  (case tam => kit_is)
  (case tan => k_is)
  (case tao => kit_is)
  (case tap => k_is)
  (case taq => kit_is)
  (case tar => k_is)
  (case tas => kit_is)
  (case tat => k_is)
  (case tau => kit_is)
  (case tav => k_is)
  (case taw => kit_is)
  (case tax => k_is)
  (case tay => kit_is)
  (case taz => k_is)
  (case tba => kit_is)
  (case tbb => k_is)
  (case tbc => kit_is)
  (case tbd => k_is)
  (case tbe => kit_is)
  (case tbf => k_is)
  (case tbg => kit_is)
  (case tbh => k_is)
  (case tbi => kit_is)
  (case tbj => k_is)
  (case tbk => kit_is)
  (case tbl => k_is)
  (case tbm => kit_is)
  (case tbn => k_is)
  (case tbo => kit_is)
  (case tbp => k_is)
  (case tbq => kit_is)
  (case tbr => k_is)
  (case tbs => kit_is)
  (case tbt => walk_at "c")
  (case tbu | tbv | tbw => k_is)
  (case tbx => walk_at "c")
  (case tby | tbz | tca | tcb => k_is)
  (case tcc | tcd | tce | tcf | tcg | tch | tci | tcj | tck | tcl | tcm | tcn | tco => walk_at "f")
  (case tcp | tcq | tcr | tcs | tct | tcu => k_is)
  (case tcv | tcw | tcx | tcy | tcz | tda => walk_at "m")
  (case tdb | tdc | tdd | tde | tdf | tdg => k_is)
  (case tdh | tdi | tdj | tdk | tdl | tdm | tdn | tdo | tdp | tdq | tdr | tds | tdt => walk_at "m")
  (case tdu | tdv | tdw | tdx | tdy | tdz | tea | teb | tec | ted | tee | tef | teg | teh => walk_at "f")
  (case tei | tej | tek | tel | tem | ten | teo | tep | teq | ter | tes | tet | teu | tev | tew | tex | tey | tez | tfa => k_is)
